/-
  Contracts of the program's chapter 6: directions, headings, lines.
-/
import Derived.Test.YtenibnblibnocaaCp2
import Derived.Deep.RegionWith
import Derived.BigRegion
import Derived.Test.YtenibnblibnocaaRegInv
set_option linter.unusedVariables false
namespace Go.Proofs.Ytenibnblibnocaa
open Go.RowKit

theorem conA_form (vs : List Int) (f b : Value) : ∃ c2 c3 : Int, conA vs f b = .agg #[f, b, .int .i64 c2, .int .i64 c3, .int .i64 2] ∧ ((vs.getD 0 0 = 0 ∧ c2 = 1 ∧ c3 = 0) ∨ (vs.getD 0 0 ≠ 0 ∧ c2 = 0 ∧ c3 = 1)) := by
  unfold conA
  by_cases h : vs.getD 0 0 = 0
  · rw [if_pos h]; exact ⟨1, 0, rfl, .inl ⟨h, rfl, rfl⟩⟩
  · rw [if_neg h]; exact ⟨0, 1, rfl, .inr ⟨h, rfl, rfl⟩⟩

theorem make3 (w : World) : (Instr.makeSlice 22 (.int .i64 3) (.int .i64 3)).run Try.prog w = .ok (.slice (some ⟨w.heap.size, 0, none⟩) 3 3) (w.alloc (.cells #[.int .i64 0, .int .i64 0, .int .i64 0] 3)) := by kernel_rfl
theorem three_blocks (w : World) (a0 a1 a2 a3 a4 : Value) (t : TypeId) (b0 b1 : Value) (u : TypeId) :
    ∃ W, W = (((w.alloc (.cells #[a0, a1, a2, a3, a4] t)).alloc (.cells #[b0, b1] u)).alloc (.cells #[.int .i64 0, .int .i64 0, .int .i64 0] 3)) ∧
    W.cell? ⟨w.heap.size, 2, none⟩ = some a2 ∧ W.cell? ⟨w.heap.size, 3, none⟩ = some a3 ∧ W.cell? ⟨w.heap.size, 4, none⟩ = some a4 ∧
    W.cell? ⟨w.heap.size + 1, 0, none⟩ = some b0 ∧ W.cell? ⟨w.heap.size + 1, 1, none⟩ = some b1 ∧
    Owns W w.heap.size (.slice (some ⟨w.heap.size + 2, 0, none⟩) 3 3) [0, 0, 0] ∧ Below w.heap.size w W := by
  refine ⟨_, rfl, ?_⟩
  have e0 : (((w.alloc (.cells #[a0, a1, a2, a3, a4] t)).alloc (.cells #[b0, b1] u)).alloc (.cells #[.int .i64 0, .int .i64 0, .int .i64 0] 3)).heap[w.heap.size]? = some (.cells #[a0, a1, a2, a3, a4] t) :=
    ((below_box2 ((w.alloc (.cells #[a0, a1, a2, a3, a4] t)).alloc (.cells #[b0, b1] u)) (.cells #[.int .i64 0, .int .i64 0, .int .i64 0] 3)).block w.heap.size (by simp; omega)).trans (heap_alloc2_old _ _ _)
  have e1 : (((w.alloc (.cells #[a0, a1, a2, a3, a4] t)).alloc (.cells #[b0, b1] u)).alloc (.cells #[.int .i64 0, .int .i64 0, .int .i64 0] 3)).heap[w.heap.size + 1]? = some (.cells #[b0, b1] u) :=
    ((below_box2 ((w.alloc (.cells #[a0, a1, a2, a3, a4] t)).alloc (.cells #[b0, b1] u)) (.cells #[.int .i64 0, .int .i64 0, .int .i64 0] 3)).block (w.heap.size + 1) (by simp)).trans (heap_alloc2_new _ _ _)
  have ho := owns_lit (W := (w.alloc (.cells #[a0, a1, a2, a3, a4] t)).alloc (.cells #[b0, b1] u)) (B := w.heap.size) [0, 0, 0] #[.int .i64 0, .int .i64 0, .int .i64 0] rfl (by simp; omega) (by unfold maxLen; simp)
  have hs : ((w.alloc (.cells #[a0, a1, a2, a3, a4] t)).alloc (.cells #[b0, b1] u)).heap.size = w.heap.size + 2 := by simp
  rw [hs] at ho
  exact ⟨cell_h e0, cell_h e0, cell_h e0, cell_h e1, cell_h e1, ho, ((below_box2 _ _).alloc (by simp) _).alloc (by simp; omega) _⟩
set_option maxRecDepth 100000 in
set_option maxHeartbeats 4000000 in
theorem direction_any (f b : Value) (vs : List Int) (s t : Int) (w : World) : Calls Try.prog 52 #[conA vs f b, .agg #[.int .i64 s, .int .i64 t]] w fun e w' => ∃ u, e = .returned u ∧ Owns w' w.heap.size u (headL vs s t) ∧ Below w.heap.size w w' := by
  obtain ⟨c2, c3, hC, hc⟩ := conA_form vs f b
  rw [hC]
  obtain ⟨W, hW, k2, k3, k4, n0, n1, ho, hb⟩ := three_blocks w f b (.int .i64 c2) (.int .i64 c3) (.int .i64 2) 49 (.int .i64 s) (.int .i64 t) 58
  have HO : Hid (Owns W.drew w.heap.size (.slice (some ⟨w.heap.size + 2, 0, none⟩) 3 3) [0, 0, 0]) := hid (ho.drewN 1)
  have HB := hid (below_dw hb)
  have mk := make3
  have z0 : W.cell? ⟨w.heap.size + 2, 0, none⟩ = some (.int .i64 0) := ho.elem (i := 0) (by simp)
  have z1 : W.cell? ⟨w.heap.size + 2, 1, none⟩ = some (.int .i64 0) := ho.elem (i := 1) (by simp)
  have z2 : W.cell? ⟨w.heap.size + 2, 2, none⟩ = some (.int .i64 0) := ho.elem (i := 2) (by simp)
  have g0 : W.frozen? ⟨w.heap.size + 2, 0, none⟩ = false := ho.thaw 0
  have g1 : W.frozen? ⟨w.heap.size + 2, 1, none⟩ = false := ho.thaw 1
  have g2 : W.frozen? ⟨w.heap.size + 2, 2, none⟩ = false := ho.thaw 2
  have HE : Hid (headL vs s t = if vs.getD 0 0 = 0 then [s, 0, t] else [0, s, t]) := hid rfl
  rcases hc with ⟨h0, rfl, rfl⟩ | ⟨h0, rfl, rfl⟩
  · have HL : Hid (headL vs s t = [s, 0, t]) := hid (by rw [HE.out, if_pos h0])
    have HF := hid (((HO.out.storeAt 0 s).1.storeAt 2 t).1)
    clear h0 hC ho hb HE
    go_enter Try.func52, Try.ntmps52
    go_wp2_with fail
    simp only [← hW]
    clear hW mk
    go_region
    all_goals (
      go_wp2_with fail
      go_ret
      exact ⟨_, rfl, by rw [HL.out]; exact HF.out, (HB.out.setCell (p := ⟨w.heap.size + 2, 0, none⟩) (by show w.heap.size ≤ w.heap.size + 2; omega) _).setCell (p := ⟨w.heap.size + 2, 2, none⟩) (by show w.heap.size ≤ w.heap.size + 2; omega) _⟩)
  · have HL : Hid (headL vs s t = [0, s, t]) := hid (by rw [HE.out, if_neg h0])
    have HF := hid (((HO.out.storeAt 1 s).1.storeAt 2 t).1)
    clear h0 hC ho hb HE
    go_enter Try.func52, Try.ntmps52
    go_wp2_with fail
    simp only [← hW]
    clear hW mk
    go_region
    all_goals (
      go_wp2_with fail
      go_ret
      exact ⟨_, rfl, by rw [HL.out]; exact HF.out, (HB.out.setCell (p := ⟨w.heap.size + 2, 1, none⟩) (by show w.heap.size ≤ w.heap.size + 2; omega) _).setCell (p := ⟨w.heap.size + 2, 2, none⟩) (by show w.heap.size ≤ w.heap.size + 2; omega) _⟩)

set_option maxRecDepth 100000 in
set_option maxHeartbeats 4000000 in
theorem plainHeading_any (s t x y : Int) (h1 : -100000000000 ≤ s ∧ s ≤ 100000000000) (h2 : -100000000000 ≤ t ∧ t ≤ 100000000000) (hs : ∃ v ∈ [s, t], v ≠ 0) (hxy : plainL [s, t] = [x, y]) (w : World) : Calls Try.prog 80 #[.int .i64 s, .int .i64 t] w fun e w' => e = .returned (.agg #[.int .i64 x, .int .i64 y]) ∧ Below w.heap.size w w' := by
  have hb := below_two2 w (.cells #[.int .i64 0, .int .i64 0] 58) (.cells #[.int .i64 s, .int .i64 t] 3)
  have ho := owns_lit (W := w.alloc (.cells #[.int .i64 0, .int .i64 0] 58)) (B := w.heap.size) [s, t] #[.int .i64 s, .int .i64 t] rfl (by simp) (by unfold maxLen; simp)
  have HP := hid (plainOfW_any _ [s, t] _ ho.rd (by simp) (fun v hv => by simp at hv; omega) hs)
  rw [hxy] at HP
  have HB := hid hb
  have HS : Hid ((w.alloc (.cells #[.int .i64 0, .int .i64 0] 58)).heap.size = w.heap.size + 1) := hid (by simp)
  simp only [World.size_alloc] at HP
  clear hb ho h1 h2 hs hxy HS
  go_enter Try.func80, Try.ntmps80
  go_wp2_with fail
  refine (HP.out).mono ?_
  rintro e w3 ⟨u, rfl, hou, hb3⟩
  obtain ⟨gu, cu, rfl, _, _⟩ := hou.block_of (by simp)
  have x0 : w3.cell? ⟨gu, 0, none⟩ = some (.int .i64 x) := hou.elem (i := 0) (by simp)
  have x1 : w3.cell? ⟨gu, 1, none⟩ = some (.int .i64 y) := hou.elem (i := 1) (by simp)
  have e2 := (hb3.block w.heap.size (by first | omega | (simp only [World.size_alloc]; omega))).trans (heap_alloc2_old _ _ _)
  have k0 : w3.cell? ⟨w.heap.size, 0, none⟩ = some (.int .i64 0) := cell_h e2
  have k1 : w3.cell? ⟨w.heap.size, 1, none⟩ = some (.int .i64 0) := cell_h e2
  have g0 : w3.frozen? ⟨w.heap.size, 0, none⟩ = false := frozen_h e2
  have g1 : w3.frozen? ⟨w.heap.size, 1, none⟩ = false := frozen_h e2
  have HB3 := hid (HB.out.trans (hb3.mono (by first | omega | (simp only [World.size_alloc]; omega))))
  clear hou hb3 e2
  go_wp2_with fail
  go_still_tail 7, (by kernel_rfl)
  change wpList _ _ _ _ _ w3.drew
  go_wp2_with fail
  refine bodyPost_ret (v := .agg #[.int .i64 x, .int .i64 y]) (by simp [results, Try.results80, go_sem]; go_simp) rfl ?_
  exact ⟨rfl, below_set2 (below_dw HB3.out) (Nat.le_refl _) _ _⟩

/-- a block of three cells of the call's own -/
structure Blk3 (W0 wx : World) (b : Nat) (c0 c1 c2 : Value) : Prop where
  lo : W0.heap.size ≤ b
  hi : b < wx.heap.size
  e0 : wx.cell? ⟨b, 0, none⟩ = some c0
  e1 : wx.cell? ⟨b, 1, none⟩ = some c1
  e2 : wx.cell? ⟨b, 2, none⟩ = some c2
  f0 : wx.frozen? ⟨b, 0, none⟩ = false
  f1 : wx.frozen? ⟨b, 1, none⟩ = false
  f2 : wx.frozen? ⟨b, 2, none⟩ = false
theorem Blk3.later {W0 wx w' : World} {b : Nat} {c0 c1 c2 : Value} (h : Blk3 W0 wx b c0 c1 c2) (hb : Below wx.heap.size wx w') : Blk3 W0 w' b c0 c1 c2 :=
  ⟨h.lo, Nat.lt_of_lt_of_le h.hi hb.size, cell_later hb h.e0, cell_later hb h.e1, cell_later hb h.e2, (hb.frozen (p := ⟨b, 0, none⟩) h.hi).trans h.f0, (hb.frozen (p := ⟨b, 1, none⟩) h.hi).trans h.f1, (hb.frozen (p := ⟨b, 2, none⟩) h.hi).trans h.f2⟩
theorem Blk3.new {W0 wx : World} (hb : W0.heap.size ≤ wx.heap.size) (c0 c1 c2 : Value) (t : TypeId) : Blk3 W0 (wx.alloc (.cells #[c0, c1, c2] t)) wx.heap.size c0 c1 c2 := by
  have e := heap_alloc_new wx (.cells #[c0, c1, c2] t)
  exact ⟨hb, by simp, cell_h e, cell_h e, cell_h e, frozen_h e, frozen_h e, frozen_h e⟩
theorem Blk3.set {W0 wx : World} {b : Nat} {c0 c1 c2 : Value} (h : Blk3 W0 wx b c0 c1 c2) (v0 v1 v2 : Value) : Blk3 W0 (((wx.setCell ⟨b, 0, none⟩ v0).setCell ⟨b, 1, none⟩ v1).setCell ⟨b, 2, none⟩ v2) b v0 v1 v2 := by
  obtain ⟨lo, hi, e0, e1, e2, f0, f1, f2⟩ := h
  refine ⟨lo, by simp; exact hi, ?_, ?_, ?_, ?_, ?_, ?_⟩
  all_goals go_simp
theorem Blk3.other {W0 wx : World} {b b' : Nat} {c0 c1 c2 : Value} (h : Blk3 W0 wx b c0 c1 c2) (hne : b ≠ b') (v0 v1 v2 : Value) : Blk3 W0 (((wx.setCell ⟨b', 0, none⟩ v0).setCell ⟨b', 1, none⟩ v1).setCell ⟨b', 2, none⟩ v2) b c0 c1 c2 := by
  obtain ⟨lo, hi, e0, e1, e2, f0, f1, f2⟩ := h
  refine ⟨lo, by simp; exact hi, ?_, ?_, ?_, ?_, ?_, ?_⟩
  all_goals go_simp
theorem below_set3 {B g : Nat} {a w : World} (h : Below B a w) (hg : B ≤ g) (v0 v1 v2 : Value) : Below B a (((w.setCell ⟨g, 0, none⟩ v0).setCell ⟨g, 1, none⟩ v1).setCell ⟨g, 2, none⟩ v2) :=
  ((h.setCell (p := ⟨g, 0, none⟩) hg _).setCell (p := ⟨g, 1, none⟩) hg _).setCell (p := ⟨g, 2, none⟩) hg _
/-- two calls beside each other, each answer in a variable of its own -/
structure TanI (x0 : Nat) (W : World) (C fv bv p0 p1 p2 q0 q1 q2 : Value) (L : Array Bool) (wx : World) (sv3 sv4 sv5 sv6 sv7 sv8 sv9 sv10 sv11 sv12 : Value) : Prop where
  hs : L.size = 12
  hb : Below W.heap.size W wx
  h0 : dn L 0 → sv5 = C
  h1 : dn L 1 → sv6 = .pointer (some ⟨x0, 0, none⟩)
  h2 : dn L 2 → sv7 = fv
  h3 : dn L 3 → sv8 = .agg #[p0, p1, p2]
  h4 : dn L 4 → sv9 = C
  h5 : dn L 5 → sv10 = .pointer (some ⟨x0, 1, none⟩)
  h6 : dn L 6 → sv11 = bv
  h7 : dn L 7 → sv12 = .agg #[q0, q1, q2]
  h8 : dn L 8 → ∃ b c0 c1 c2, sv3 = .pointer (some ⟨b, 0, none⟩) ∧ Blk3 W wx b c0 c1 c2 ∧ (dn L 10 → c0 = p0 ∧ c1 = p1 ∧ c2 = p2)
  h9 : dn L 9 → ∃ b c0 c1 c2, sv4 = .pointer (some ⟨b, 0, none⟩) ∧ Blk3 W wx b c0 c1 c2 ∧ (dn L 11 → c0 = q0 ∧ c1 = q1 ∧ c2 = q2)
  hne : dn L 8 → dn L 9 → sv3 ≠ sv4
  d10 : dn L 10 → dn L 8
  d11 : dn L 11 → dn L 9

theorem two_blk (w : World) (a0 a1 a2 a3 a4 : Value) (t : TypeId) (u : TypeId) :
    ∃ W, W = ((w.alloc (.cells #[a0, a1, a2, a3, a4] t)).alloc (.cells #[.int .i64 0, .int .i64 0] u)) ∧ W.heap.size = w.heap.size + 2 ∧
    W.heap[w.heap.size]? = some (.cells #[a0, a1, a2, a3, a4] t) ∧ W.heap[w.heap.size + 1]? = some (.cells #[.int .i64 0, .int .i64 0] u) ∧ Below w.heap.size w W :=
  ⟨_, rfl, by simp, heap_alloc2_old _ _ _, heap_alloc2_new _ _ _, below_two2 _ _ _⟩
set_option maxRecDepth 100000 in
set_option maxHeartbeats 4000000 in
theorem tangent_any (f b : Value) (xs vs : List Int) (w : World) (hf : Rd w f xs) (hb : Rd w b vs) (hx : xs.length = 3) (hv : vs.length = 3) (bx : ∀ x ∈ xs, -30 ≤ x ∧ x ≤ 30) (bv : ∀ x ∈ vs, -1000 ≤ x ∧ x ≤ 1000) (ht : ∃ v ∈ [atC xs * atC vs, -(atB vs xs * atB vs vs)], v ≠ 0) (x y : Int) (hxy : plainL [atC xs * atC vs, -(atB vs xs * atB vs vs)] = [x, y]) :
    Calls Try.prog 79 #[conA vs f b] w fun e w' => e = .returned (.agg #[.int .i64 x, .int .i64 y]) ∧ Below w.heap.size w w' := by
  obtain ⟨a, cap, rfl, _⟩ := hf.form
  obtain ⟨a', cap', rfl, _⟩ := hb.form
  rw [hx] at hf ⊢
  rw [hv] at hb ⊢
  obtain ⟨c2, c3, hC, _⟩ := conA_form vs (.slice a 3 cap) (.slice a' 3 cap')
  have h1 := bx _ (atB_mem (vs := vs) hx)
  have h2 := bx _ (atC_mem hx)
  have h3 := bv _ (atB_mem (vs := vs) hv)
  have h4 := bv _ (atC_mem hv)
  obtain ⟨W, hW, hWs, e0, e1, hBW⟩ := two_blk w (.slice a 3 cap) (.slice a' 3 cap') (.int .i64 c2) (.int .i64 c3) (.int .i64 2) 49 58
  have HPF : Hid (∀ wx : World, Below W.heap.size W wx → Calls Try.prog 59 #[.agg #[.slice a 3 cap, .slice a' 3 cap', .int .i64 c2, .int .i64 c3, .int .i64 2], .slice a 3 cap] wx fun e w' => e = .returned (ptA vs xs) ∧ Below W.heap.size W w' ∧ Below wx.heap.size wx w') := hid (fun wx h => by
    rw [← hC]
    refine (pointOf_any _ _ _ vs xs wx ((hf.keep hBW).keep h) hx).mono ?_
    rintro e w' ⟨rfl, hb⟩
    exact ⟨rfl, h.trans (hb.mono h.size), hb⟩)
  have HPB : Hid (∀ wx : World, Below W.heap.size W wx → Calls Try.prog 59 #[.agg #[.slice a 3 cap, .slice a' 3 cap', .int .i64 c2, .int .i64 c3, .int .i64 2], .slice a' 3 cap'] wx fun e w' => e = .returned (ptA vs vs) ∧ Below W.heap.size W w' ∧ Below wx.heap.size wx w') := hid (fun wx h => by
    rw [← hC]
    refine (pointOf_any _ _ _ vs vs wx ((hb.keep hBW).keep h) hv).mono ?_
    rintro e w' ⟨rfl, hb⟩
    exact ⟨rfl, h.trans (hb.mono h.size), hb⟩)
  have HCB : Hid (∀ wx : World, Below W.heap.size W wx → (wx.cell? ⟨w.heap.size, 0, none⟩ = some (.slice a 3 cap) ∧ wx.cell? ⟨w.heap.size, 1, none⟩ = some (.slice a' 3 cap') ∧ wx.cell? ⟨w.heap.size, 2, none⟩ = some (.int .i64 c2) ∧ wx.cell? ⟨w.heap.size, 3, none⟩ = some (.int .i64 c3) ∧ wx.cell? ⟨w.heap.size, 4, none⟩ = some (.int .i64 2)) ∧ wx.cell? ⟨w.heap.size + 1, 0, none⟩ = some (.int .i64 0) ∧ wx.cell? ⟨w.heap.size + 1, 1, none⟩ = some (.int .i64 0) ∧ wx.frozen? ⟨w.heap.size + 1, 0, none⟩ = false ∧ wx.frozen? ⟨w.heap.size + 1, 1, none⟩ = false) := hid (fun wx h => by
    have f0 := (h.block w.heap.size (by omega)).trans e0
    have f1 := (h.block (w.heap.size + 1) (by omega)).trans e1
    exact ⟨⟨cell_h f0, cell_h f0, cell_h f0, cell_h f0, cell_h f0⟩, cell_h f1, cell_h f1, frozen_h f1, frozen_h f1⟩)
  unfold ptA at HPF HPB
  obtain ⟨p0, hp0⟩ : ∃ x, x = atA vs xs := ⟨_, rfl⟩
  obtain ⟨p1, hp1⟩ : ∃ x, x = atB vs xs := ⟨_, rfl⟩
  obtain ⟨p2, hp2⟩ : ∃ x, x = atC xs := ⟨_, rfl⟩
  obtain ⟨q0, hq0⟩ : ∃ x, x = atA vs vs := ⟨_, rfl⟩
  obtain ⟨q1, hq1⟩ : ∃ x, x = atB vs vs := ⟨_, rfl⟩
  obtain ⟨q2, hq2⟩ : ∃ x, x = atC vs := ⟨_, rfl⟩
  simp only [← hp0, ← hp1, ← hp2, ← hq0, ← hq1, ← hq2] at HPF HPB h1 h2 h3 h4 ht hxy
  rw [hC]
  have m1 := prod_bd2 (x := p2) (y := q2) (m := 30) (n := 1000) (by omega) (by omega)
  have m2 := prod_bd2 (x := p1) (y := q1) (m := 30) (n := 1000) (by omega) (by omega)
  have HPH : Hid (∀ wx : World, Calls Try.prog 80 #[.int .i64 (p2 * q2), .int .i64 (-p1 * q1)] wx fun e w' => e = .returned (.agg #[.int .i64 x, .int .i64 y]) ∧ Below wx.heap.size wx w') := hid (fun wx => by rw [Int.neg_mul]; exact plainHeading_any _ _ x y (by omega) (by omega) ht hxy wx)
  have n1 : -1000000 ≤ -p1 * q1 := by rw [Int.neg_mul]; omega
  have n2 : -p1 * q1 ≤ 1000000 := by rw [Int.neg_mul]; omega
  have HBW := hid hBW
  have hr : Below W.heap.size W W.drew := below_dw (Below.refl _ _)
  clear hf hb hx hv bx bv ht hxy hC e0 e1 hBW hp0 hp1 hp2 hq0 hq1 hq2
  go_enter Try.func79, Try.ntmps79
  go_wp2_with fail
  simp only [← hW]
  clear hW
  refine region_inv (by kernel_rfl) (fun L act wx => ∃ sv3 sv4 sv5 sv6 sv7 sv8 sv9 sv10 sv11 sv12 : Value, act = ({ tmps := #[.agg #[.slice a 3 cap, .slice a' 3 cap', .int .i64 c2, .int .i64 c3, .int .i64 2], .pointer (some ⟨w.heap.size, 0, none⟩), .pointer (some ⟨w.heap.size + 1, 0, none⟩), sv3, sv4, sv5, sv6, sv7, sv8, sv9, sv10, sv11, sv12, undef, undef, undef, undef, undef, undef, undef, undef, undef, undef, undef, undef, undef, undef, undef, undef], defers := [] } : Act) ∧ TanI w.heap.size W (.agg #[.slice a 3 cap, .slice a' 3 cap', .int .i64 c2, .int .i64 c3, .int .i64 2]) (.slice a 3 cap) (.slice a' 3 cap') (.int .i64 p0) (.int .i64 p1) (.int .i64 p2) (.int .i64 q0) (.int .i64 q1) (.int .i64 q2) L wx sv3 sv4 sv5 sv6 sv7 sv8 sv9 sv10 sv11 sv12) ?h0 ?hend ?hstep
  case h0 => exact ⟨undef, undef, undef, undef, undef, undef, undef, undef, undef, undef, rfl, ⟨rfl, hr, fun h => (dn_new h).elim, fun h => (dn_new h).elim, fun h => (dn_new h).elim, fun h => (dn_new h).elim, fun h => (dn_new h).elim, fun h => (dn_new h).elim, fun h => (dn_new h).elim, fun h => (dn_new h).elim, fun h => (dn_new h).elim, fun h => (dn_new h).elim, fun h => (dn_new h).elim, fun h => (dn_new h).elim, fun h => (dn_new h).elim⟩⟩
  case hstep =>
    rintro L act wx i ⟨sv3, sv4, sv5, sv6, sv7, sv8, sv9, sv10, sv11, sv12, rfl, I⟩ hi
    obtain ⟨hi1, hf, hdep⟩ := ready_mem hi
    have hi2 : i < 12 := hi1
    have HI := hid I
    have HF := hid hf
    have hbw := I.hb
    have hsz := hbw.size
    obtain ⟨⟨d0, d1, d2, d3, d4⟩, _, _, _, _⟩ := HCB.out _ hbw
    clear hi hi1 I hf
    have hc : i = 0 ∨ i = 1 ∨ i = 2 ∨ i = 3 ∨ i = 4 ∨ i = 5 ∨ i = 6 ∨ i = 7 ∨ i = 8 ∨ i = 9 ∨ i = 10 ∨ i = 11 := by omega
    clear hi2
    rcases hc with rfl | rfl | rfl | rfl | rfl | rfl | rfl | rfl | rfl | rfl | rfl | rfl
    · skip
      clear hdep
      refine wpOp_step rfl (fun K hK => ?_)
      go_simp
      exact hK _ _ ⟨_, _, _, _, _, _, _, _, _, _, rfl, ⟨(by rw [Array.size_setIfInBounds]; exact HI.out.hs), HI.out.hb, fun _ => rfl, fun h => HI.out.h1 (dn_old h (by decide)), fun h => HI.out.h2 (dn_old h (by decide)), fun h => HI.out.h3 (dn_old h (by decide)), fun h => HI.out.h4 (dn_old h (by decide)), fun h => HI.out.h5 (dn_old h (by decide)), fun h => HI.out.h6 (dn_old h (by decide)), fun h => HI.out.h7 (dn_old h (by decide)), fun h => by
        obtain ⟨b, c0, c1, c2, h1, h2, h3⟩ := HI.out.h8 (dn_old h (by decide))
        exact ⟨b, c0, c1, c2, h1, h2, fun h => h3 (dn_old h (by decide))⟩, fun h => by
        obtain ⟨b, c0, c1, c2, h1, h2, h3⟩ := HI.out.h9 (dn_old h (by decide))
        exact ⟨b, c0, c1, c2, h1, h2, fun h => h3 (dn_old h (by decide))⟩, fun h h' => HI.out.hne (dn_old h (by decide)) (dn_old h' (by decide)), fun h => dn_keep (HI.out.d10 (dn_old h (by decide))), fun h => dn_keep (HI.out.d11 (dn_old h (by decide)))⟩⟩
    · skip
      clear hdep
      refine wpOp_step rfl (fun K hK => ?_)
      go_simp
      exact hK _ _ ⟨_, _, _, _, _, _, _, _, _, _, rfl, ⟨(by rw [Array.size_setIfInBounds]; exact HI.out.hs), HI.out.hb, fun h => HI.out.h0 (dn_old h (by decide)), fun _ => rfl, fun h => HI.out.h2 (dn_old h (by decide)), fun h => HI.out.h3 (dn_old h (by decide)), fun h => HI.out.h4 (dn_old h (by decide)), fun h => HI.out.h5 (dn_old h (by decide)), fun h => HI.out.h6 (dn_old h (by decide)), fun h => HI.out.h7 (dn_old h (by decide)), fun h => by
        obtain ⟨b, c0, c1, c2, h1, h2, h3⟩ := HI.out.h8 (dn_old h (by decide))
        exact ⟨b, c0, c1, c2, h1, h2, fun h => h3 (dn_old h (by decide))⟩, fun h => by
        obtain ⟨b, c0, c1, c2, h1, h2, h3⟩ := HI.out.h9 (dn_old h (by decide))
        exact ⟨b, c0, c1, c2, h1, h2, fun h => h3 (dn_old h (by decide))⟩, fun h h' => HI.out.hne (dn_old h (by decide)) (dn_old h' (by decide)), fun h => dn_keep (HI.out.d10 (dn_old h (by decide))), fun h => dn_keep (HI.out.d11 (dn_old h (by decide)))⟩⟩
    · skip
      have q1 : dn L 1 := hdep _ rfl { on := 1, ground := .data } (by simp) rfl
      clear hdep
      obtain rfl := HI.out.h1 q1
      refine wpOp_step rfl (fun K hK => ?_)
      go_simp
      exact hK _ _ ⟨_, _, _, _, _, _, _, _, _, _, rfl, ⟨(by rw [Array.size_setIfInBounds]; exact HI.out.hs), HI.out.hb, fun h => HI.out.h0 (dn_old h (by decide)), fun h => HI.out.h1 (dn_old h (by decide)), fun _ => rfl, fun h => HI.out.h3 (dn_old h (by decide)), fun h => HI.out.h4 (dn_old h (by decide)), fun h => HI.out.h5 (dn_old h (by decide)), fun h => HI.out.h6 (dn_old h (by decide)), fun h => HI.out.h7 (dn_old h (by decide)), fun h => by
        obtain ⟨b, c0, c1, c2, h1, h2, h3⟩ := HI.out.h8 (dn_old h (by decide))
        exact ⟨b, c0, c1, c2, h1, h2, fun h => h3 (dn_old h (by decide))⟩, fun h => by
        obtain ⟨b, c0, c1, c2, h1, h2, h3⟩ := HI.out.h9 (dn_old h (by decide))
        exact ⟨b, c0, c1, c2, h1, h2, fun h => h3 (dn_old h (by decide))⟩, fun h h' => HI.out.hne (dn_old h (by decide)) (dn_old h' (by decide)), fun h => dn_keep (HI.out.d10 (dn_old h (by decide))), fun h => dn_keep (HI.out.d11 (dn_old h (by decide)))⟩⟩
    · skip
      have q0 : dn L 0 := hdep _ rfl { on := 0, ground := .data } (by simp) rfl
      have q2 : dn L 2 := hdep _ rfl { on := 2, ground := .data } (by simp) rfl
      clear hdep
      obtain rfl := HI.out.h0 q0
      obtain rfl := HI.out.h2 q2
      refine wpOp_step rfl (fun K hK => ?_)
      go_simp
      go_at_call 59
      refine (HPF.out _ hbw).mono ?_
      rintro e wP ⟨rfl, hbp, hbk⟩
      exact hK _ _ ⟨_, _, _, _, _, _, _, _, _, _, rfl, ⟨(by rw [Array.size_setIfInBounds]; exact HI.out.hs), hbp, fun h => HI.out.h0 (dn_old h (by decide)), fun h => HI.out.h1 (dn_old h (by decide)), fun h => HI.out.h2 (dn_old h (by decide)), fun _ => rfl, fun h => HI.out.h4 (dn_old h (by decide)), fun h => HI.out.h5 (dn_old h (by decide)), fun h => HI.out.h6 (dn_old h (by decide)), fun h => HI.out.h7 (dn_old h (by decide)), fun h => by
        obtain ⟨b, c0, c1, c2, h1, h2, h3⟩ := HI.out.h8 (dn_old h (by decide))
        exact ⟨b, c0, c1, c2, h1, h2.later hbk, fun h => h3 (dn_old h (by decide))⟩, fun h => by
        obtain ⟨b, c0, c1, c2, h1, h2, h3⟩ := HI.out.h9 (dn_old h (by decide))
        exact ⟨b, c0, c1, c2, h1, h2.later hbk, fun h => h3 (dn_old h (by decide))⟩, fun h h' => HI.out.hne (dn_old h (by decide)) (dn_old h' (by decide)), fun h => dn_keep (HI.out.d10 (dn_old h (by decide))), fun h => dn_keep (HI.out.d11 (dn_old h (by decide)))⟩⟩
    · skip
      clear hdep
      refine wpOp_step rfl (fun K hK => ?_)
      go_simp
      exact hK _ _ ⟨_, _, _, _, _, _, _, _, _, _, rfl, ⟨(by rw [Array.size_setIfInBounds]; exact HI.out.hs), HI.out.hb, fun h => HI.out.h0 (dn_old h (by decide)), fun h => HI.out.h1 (dn_old h (by decide)), fun h => HI.out.h2 (dn_old h (by decide)), fun h => HI.out.h3 (dn_old h (by decide)), fun _ => rfl, fun h => HI.out.h5 (dn_old h (by decide)), fun h => HI.out.h6 (dn_old h (by decide)), fun h => HI.out.h7 (dn_old h (by decide)), fun h => by
        obtain ⟨b, c0, c1, c2, h1, h2, h3⟩ := HI.out.h8 (dn_old h (by decide))
        exact ⟨b, c0, c1, c2, h1, h2, fun h => h3 (dn_old h (by decide))⟩, fun h => by
        obtain ⟨b, c0, c1, c2, h1, h2, h3⟩ := HI.out.h9 (dn_old h (by decide))
        exact ⟨b, c0, c1, c2, h1, h2, fun h => h3 (dn_old h (by decide))⟩, fun h h' => HI.out.hne (dn_old h (by decide)) (dn_old h' (by decide)), fun h => dn_keep (HI.out.d10 (dn_old h (by decide))), fun h => dn_keep (HI.out.d11 (dn_old h (by decide)))⟩⟩
    · skip
      clear hdep
      refine wpOp_step rfl (fun K hK => ?_)
      go_simp
      exact hK _ _ ⟨_, _, _, _, _, _, _, _, _, _, rfl, ⟨(by rw [Array.size_setIfInBounds]; exact HI.out.hs), HI.out.hb, fun h => HI.out.h0 (dn_old h (by decide)), fun h => HI.out.h1 (dn_old h (by decide)), fun h => HI.out.h2 (dn_old h (by decide)), fun h => HI.out.h3 (dn_old h (by decide)), fun h => HI.out.h4 (dn_old h (by decide)), fun _ => rfl, fun h => HI.out.h6 (dn_old h (by decide)), fun h => HI.out.h7 (dn_old h (by decide)), fun h => by
        obtain ⟨b, c0, c1, c2, h1, h2, h3⟩ := HI.out.h8 (dn_old h (by decide))
        exact ⟨b, c0, c1, c2, h1, h2, fun h => h3 (dn_old h (by decide))⟩, fun h => by
        obtain ⟨b, c0, c1, c2, h1, h2, h3⟩ := HI.out.h9 (dn_old h (by decide))
        exact ⟨b, c0, c1, c2, h1, h2, fun h => h3 (dn_old h (by decide))⟩, fun h h' => HI.out.hne (dn_old h (by decide)) (dn_old h' (by decide)), fun h => dn_keep (HI.out.d10 (dn_old h (by decide))), fun h => dn_keep (HI.out.d11 (dn_old h (by decide)))⟩⟩
    · skip
      have q5 : dn L 5 := hdep _ rfl { on := 5, ground := .data } (by simp) rfl
      clear hdep
      obtain rfl := HI.out.h5 q5
      refine wpOp_step rfl (fun K hK => ?_)
      go_simp
      exact hK _ _ ⟨_, _, _, _, _, _, _, _, _, _, rfl, ⟨(by rw [Array.size_setIfInBounds]; exact HI.out.hs), HI.out.hb, fun h => HI.out.h0 (dn_old h (by decide)), fun h => HI.out.h1 (dn_old h (by decide)), fun h => HI.out.h2 (dn_old h (by decide)), fun h => HI.out.h3 (dn_old h (by decide)), fun h => HI.out.h4 (dn_old h (by decide)), fun h => HI.out.h5 (dn_old h (by decide)), fun _ => rfl, fun h => HI.out.h7 (dn_old h (by decide)), fun h => by
        obtain ⟨b, c0, c1, c2, h1, h2, h3⟩ := HI.out.h8 (dn_old h (by decide))
        exact ⟨b, c0, c1, c2, h1, h2, fun h => h3 (dn_old h (by decide))⟩, fun h => by
        obtain ⟨b, c0, c1, c2, h1, h2, h3⟩ := HI.out.h9 (dn_old h (by decide))
        exact ⟨b, c0, c1, c2, h1, h2, fun h => h3 (dn_old h (by decide))⟩, fun h h' => HI.out.hne (dn_old h (by decide)) (dn_old h' (by decide)), fun h => dn_keep (HI.out.d10 (dn_old h (by decide))), fun h => dn_keep (HI.out.d11 (dn_old h (by decide)))⟩⟩
    · skip
      have q4 : dn L 4 := hdep _ rfl { on := 4, ground := .data } (by simp) rfl
      have q6 : dn L 6 := hdep _ rfl { on := 6, ground := .data } (by simp) rfl
      clear hdep
      obtain rfl := HI.out.h4 q4
      obtain rfl := HI.out.h6 q6
      refine wpOp_step rfl (fun K hK => ?_)
      go_simp
      go_at_call 59
      refine (HPB.out _ hbw).mono ?_
      rintro e wP ⟨rfl, hbp, hbk⟩
      exact hK _ _ ⟨_, _, _, _, _, _, _, _, _, _, rfl, ⟨(by rw [Array.size_setIfInBounds]; exact HI.out.hs), hbp, fun h => HI.out.h0 (dn_old h (by decide)), fun h => HI.out.h1 (dn_old h (by decide)), fun h => HI.out.h2 (dn_old h (by decide)), fun h => HI.out.h3 (dn_old h (by decide)), fun h => HI.out.h4 (dn_old h (by decide)), fun h => HI.out.h5 (dn_old h (by decide)), fun h => HI.out.h6 (dn_old h (by decide)), fun _ => rfl, fun h => by
        obtain ⟨b, c0, c1, c2, h1, h2, h3⟩ := HI.out.h8 (dn_old h (by decide))
        exact ⟨b, c0, c1, c2, h1, h2.later hbk, fun h => h3 (dn_old h (by decide))⟩, fun h => by
        obtain ⟨b, c0, c1, c2, h1, h2, h3⟩ := HI.out.h9 (dn_old h (by decide))
        exact ⟨b, c0, c1, c2, h1, h2.later hbk, fun h => h3 (dn_old h (by decide))⟩, fun h h' => HI.out.hne (dn_old h (by decide)) (dn_old h' (by decide)), fun h => dn_keep (HI.out.d10 (dn_old h (by decide))), fun h => dn_keep (HI.out.d11 (dn_old h (by decide)))⟩⟩
    · skip
      clear hdep
      refine wpOp_step rfl (fun K hK => ?_)
      go_simp
      exact hK _ _ ⟨_, _, _, _, _, _, _, _, _, _, rfl, ⟨(by rw [Array.size_setIfInBounds]; exact HI.out.hs), hbw.alloc hsz _, fun h => HI.out.h0 (dn_old h (by decide)), fun h => HI.out.h1 (dn_old h (by decide)), fun h => HI.out.h2 (dn_old h (by decide)), fun h => HI.out.h3 (dn_old h (by decide)), fun h => HI.out.h4 (dn_old h (by decide)), fun h => HI.out.h5 (dn_old h (by decide)), fun h => HI.out.h6 (dn_old h (by decide)), fun h => HI.out.h7 (dn_old h (by decide)), fun _ => ⟨wx.heap.size, _, _, _, rfl, Blk3.new hsz _ _ _ _, fun h => (dn_not HF.out (HI.out.d10 (dn_old h (by decide)))).elim⟩, fun h => by
        obtain ⟨b, c0, c1, c2, h1, h2, h3⟩ := HI.out.h9 (dn_old h (by decide))
        exact ⟨b, c0, c1, c2, h1, h2.later (below_box2 _ _), fun h => h3 (dn_old h (by decide))⟩, fun _ h => by
        obtain ⟨b, _, _, _, h1, h2, _⟩ := HI.out.h9 (dn_old h (by decide))
        rw [h1]
        intro e
        cases e
        exact Nat.lt_irrefl _ h2.hi, fun h => dn_keep (HI.out.d10 (dn_old h (by decide))), fun h => dn_keep (HI.out.d11 (dn_old h (by decide)))⟩⟩
    · skip
      clear hdep
      refine wpOp_step rfl (fun K hK => ?_)
      go_simp
      exact hK _ _ ⟨_, _, _, _, _, _, _, _, _, _, rfl, ⟨(by rw [Array.size_setIfInBounds]; exact HI.out.hs), hbw.alloc hsz _, fun h => HI.out.h0 (dn_old h (by decide)), fun h => HI.out.h1 (dn_old h (by decide)), fun h => HI.out.h2 (dn_old h (by decide)), fun h => HI.out.h3 (dn_old h (by decide)), fun h => HI.out.h4 (dn_old h (by decide)), fun h => HI.out.h5 (dn_old h (by decide)), fun h => HI.out.h6 (dn_old h (by decide)), fun h => HI.out.h7 (dn_old h (by decide)), fun h => by
        obtain ⟨b, c0, c1, c2, h1, h2, h3⟩ := HI.out.h8 (dn_old h (by decide))
        exact ⟨b, c0, c1, c2, h1, h2.later (below_box2 _ _), fun h => h3 (dn_old h (by decide))⟩, fun _ => ⟨wx.heap.size, _, _, _, rfl, Blk3.new hsz _ _ _ _, fun h => (dn_not HF.out (HI.out.d11 (dn_old h (by decide)))).elim⟩, fun h _ => by
        obtain ⟨b, _, _, _, h1, h2, _⟩ := HI.out.h8 (dn_old h (by decide))
        rw [h1]
        intro e
        cases e
        exact Nat.lt_irrefl _ h2.hi, fun h => dn_keep (HI.out.d10 (dn_old h (by decide))), fun h => dn_keep (HI.out.d11 (dn_old h (by decide)))⟩⟩
    · skip
      have q8 : dn L 8 := hdep _ rfl { on := 8, ground := .data } (by simp) rfl
      have q3 : dn L 3 := hdep _ rfl { on := 3, ground := .data } (by simp) rfl
      clear hdep
      obtain ⟨b, e0, e1, e2, rfl, B, _⟩ := HI.out.h8 q8
      obtain rfl := HI.out.h3 q3
      have HBK := hid B
      obtain ⟨lo, hi, k0, k1, k2, g0, g1, g2⟩ := B
      refine wpOp_step rfl (fun K hK => ?_)
      go_simp
      exact hK _ _ ⟨_, _, _, _, _, _, _, _, _, _, rfl, ⟨(by rw [Array.size_setIfInBounds]; exact HI.out.hs), below_set3 hbw HBK.out.lo _ _ _, fun h => HI.out.h0 (dn_old h (by decide)), fun h => HI.out.h1 (dn_old h (by decide)), fun h => HI.out.h2 (dn_old h (by decide)), fun h => HI.out.h3 (dn_old h (by decide)), fun h => HI.out.h4 (dn_old h (by decide)), fun h => HI.out.h5 (dn_old h (by decide)), fun h => HI.out.h6 (dn_old h (by decide)), fun h => HI.out.h7 (dn_old h (by decide)), fun _ => ⟨b, _, _, _, rfl, HBK.out.set _ _ _, fun _ => ⟨rfl, rfl, rfl⟩⟩, fun h => by
        obtain ⟨b2, c0, c1, c2, h1, h2, h3⟩ := HI.out.h9 (dn_old h (by decide))
        refine ⟨b2, c0, c1, c2, h1, h2.other (fun e => ?_) _ _ _, fun h => h3 (dn_old h (by decide))⟩
        subst e
        exact HI.out.hne q8 (dn_old h (by decide)) h1.symm, fun h h' => HI.out.hne (dn_old h (by decide)) (dn_old h' (by decide)), fun _ => dn_keep q8, fun h => dn_keep (HI.out.d11 (dn_old h (by decide)))⟩⟩
    · skip
      have q9 : dn L 9 := hdep _ rfl { on := 9, ground := .data } (by simp) rfl
      have q7 : dn L 7 := hdep _ rfl { on := 7, ground := .data } (by simp) rfl
      clear hdep
      obtain ⟨b, e0, e1, e2, rfl, B, _⟩ := HI.out.h9 q9
      obtain rfl := HI.out.h7 q7
      have HBK := hid B
      obtain ⟨lo, hi, k0, k1, k2, g0, g1, g2⟩ := B
      refine wpOp_step rfl (fun K hK => ?_)
      go_simp
      exact hK _ _ ⟨_, _, _, _, _, _, _, _, _, _, rfl, ⟨(by rw [Array.size_setIfInBounds]; exact HI.out.hs), below_set3 hbw HBK.out.lo _ _ _, fun h => HI.out.h0 (dn_old h (by decide)), fun h => HI.out.h1 (dn_old h (by decide)), fun h => HI.out.h2 (dn_old h (by decide)), fun h => HI.out.h3 (dn_old h (by decide)), fun h => HI.out.h4 (dn_old h (by decide)), fun h => HI.out.h5 (dn_old h (by decide)), fun h => HI.out.h6 (dn_old h (by decide)), fun h => HI.out.h7 (dn_old h (by decide)), fun h => by
        obtain ⟨b2, c0, c1, c2, h1, h2, h3⟩ := HI.out.h8 (dn_old h (by decide))
        refine ⟨b2, c0, c1, c2, h1, h2.other (fun e => ?_) _ _ _, fun h => h3 (dn_old h (by decide))⟩
        subst e
        exact HI.out.hne (dn_old h (by decide)) q9 h1, fun _ => ⟨b, _, _, _, rfl, HBK.out.set _ _ _, fun _ => ⟨rfl, rfl, rfl⟩⟩, fun h h' => HI.out.hne (dn_old h (by decide)) (dn_old h' (by decide)), fun h => dn_keep (HI.out.d10 (dn_old h (by decide))), fun _ => dn_keep q9⟩⟩
  case hend =>
    rintro L act wx ⟨sv3, sv4, sv5, sv6, sv7, sv8, sv9, sv10, sv11, sv12, rfl, I⟩ hrd
    have D := all_done2 I.hs (by kernel_rfl) hrd
    obtain ⟨b3, _, _, _, rfl, B3, h3⟩ := I.h8 (D 8 (by decide))
    obtain ⟨rfl, rfl, rfl⟩ := h3 (D 10 (by decide))
    obtain ⟨b4, _, _, _, rfl, B4, h4⟩ := I.h9 (D 9 (by decide))
    obtain ⟨rfl, rfl, rfl⟩ := h4 (D 11 (by decide))
    obtain ⟨_, n0, n1, g0, g1⟩ := HCB.out _ I.hb
    have HBX := hid (HBW.out.trans (I.hb.mono HBW.out.size))
    have x0 := B3.e0
    have x1 := B3.e1
    have x2 := B3.e2
    have y0 := B4.e0
    have y1 := B4.e1
    have y2 := B4.e2
    have HL := hid I.hb
    clear I D hrd h3 h4 B3 B4
    go_wp2_with fail
    refine (HPH.out _).mono ?_
    rintro e w9 ⟨rfl, hb9⟩
    have m0 := cell_later hb9 n0
    have m1 := cell_later hb9 n1
    have hlt : w.heap.size + 1 < wx.heap.size := by have := HL.out.size; omega
    have u0 := (hb9.frozen (p := ⟨w.heap.size + 1, 0, none⟩) hlt).trans g0
    have u1 := (hb9.frozen (p := ⟨w.heap.size + 1, 1, none⟩) hlt).trans g1
    have HB9 := hid (HBX.out.trans (hb9.mono HBX.out.size))
    clear hb9
    go_wp2_with fail
    refine bodyPost_ret (v := .agg #[.int .i64 x, .int .i64 y]) (by simp [results, Try.results79, go_sem]; go_simp) rfl ?_
    exact ⟨rfl, below_set2 HB9.out (Nat.le_succ _) _ _⟩

end Go.Proofs.Ytenibnblibnocaa
