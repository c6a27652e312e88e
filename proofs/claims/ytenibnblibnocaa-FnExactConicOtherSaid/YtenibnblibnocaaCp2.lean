/-
  Contracts of the program's chapter 6: lines and headings.
-/
import Derived.Test.YtenibnblibnocaaCp1
import Derived.Test.YtenibnblibnocaaCm4
import Derived.Deep.RegionWith
import Derived.Outline
set_option linter.unusedVariables false
namespace Go.Proofs.Ytenibnblibnocaa
open Go.RowKit

theorem below_two2 (w : World) (o1 o2 : Obj) : Below w.heap.size w ((w.alloc o1).alloc o2) := ((Below.refl _ _).alloc (Nat.le_refl _) _).alloc (by simp) _
theorem below_set5 {B g : Nat} {a w : World} (h : Below B a w) (hg : B ≤ g) (v0 v1 v2 v3 v4 : Value) : Below B a (((((w.setCell ⟨g, 0, none⟩ v0).setCell ⟨g, 1, none⟩ v1).setCell ⟨g, 2, none⟩ v2).setCell ⟨g, 3, none⟩ v3).setCell ⟨g, 4, none⟩ v4) :=
  ((((h.setCell (p := ⟨g, 0, none⟩) hg _).setCell (p := ⟨g, 1, none⟩) hg _).setCell (p := ⟨g, 2, none⟩) hg _).setCell (p := ⟨g, 3, none⟩) hg _).setCell (p := ⟨g, 4, none⟩) hg _
theorem below_set5a {g : Nat} {a w : World} (h : Below a.heap.size a w) (hg : a.heap.size ≤ g) (v0 v1 v2 v3 v4 : Value) (o : Obj) : Below a.heap.size a ((((((w.setCell ⟨g, 0, none⟩ v0).setCell ⟨g, 1, none⟩ v1).setCell ⟨g, 2, none⟩ v2).setCell ⟨g, 3, none⟩ v3).setCell ⟨g, 4, none⟩ v4).alloc o) :=
  (below_set5 h hg v0 v1 v2 v3 v4).alloc (below_set5 h hg v0 v1 v2 v3 v4).size o
theorem below_set2 {B g : Nat} {a w : World} (h : Below B a w) (hg : B ≤ g) (v0 v1 : Value) : Below B a ((w.setCell ⟨g, 0, none⟩ v0).setCell ⟨g, 1, none⟩ v1) :=
  (h.setCell (p := ⟨g, 0, none⟩) hg _).setCell (p := ⟨g, 1, none⟩) hg _
/-- a block of the call's own, as it stands after calls -/
theorem blk5 {w wx : World} {n : Nat} {a0 a1 a2 a3 a4 : Value} {t : TypeId} (e : wx.heap[n]? = some (.cells #[a0, a1, a2, a3, a4] t (0, 0))) :
    wx.cell? ⟨n, 0, none⟩ = some a0 ∧ wx.cell? ⟨n, 1, none⟩ = some a1 ∧ wx.cell? ⟨n, 2, none⟩ = some a2 ∧ wx.cell? ⟨n, 3, none⟩ = some a3 ∧ wx.cell? ⟨n, 4, none⟩ = some a4 ∧ wx.frozen? ⟨n, 0, none⟩ = false ∧ wx.frozen? ⟨n, 1, none⟩ = false ∧ wx.frozen? ⟨n, 2, none⟩ = false ∧ wx.frozen? ⟨n, 3, none⟩ = false ∧ wx.frozen? ⟨n, 4, none⟩ = false :=
  ⟨cell_h e, cell_h e, cell_h e, cell_h e, cell_h e, frozen_h e, frozen_h e, frozen_h e, frozen_h e, frozen_h e⟩

def conOf (xs vs : List Int) (f v : Value) : Value := if pointB xs vs then .tuple #[conA vs f v, .bool true] else .tuple #[conN, .bool false]
theorem point_three {xs vs : List Int} : pointB xs vs = (inAll vs 1000 && decide ((vs.length : Int) = 3) && (zeroB xs vs && plainB vs)) := by
  rw [Bool.eq_iff_iff, pointB_iff]
  unfold inAll inR plainB
  simp only [Bool.and_eq_true, List.all_eq_true, decide_eq_true_eq]
  constructor
  · rintro ⟨h1, h2, h3, h4⟩
    have hl := (zeroB_iff.1 h2).2.2.1
    exact ⟨⟨fun v hv => by have := hgt_ge hv; omega, by omega⟩, h2, h3⟩
  · rintro ⟨⟨h1, h2⟩, h3, h4⟩
    have hl := (zeroB_iff.1 h3).2.2.1
    exact ⟨by omega, h3, h4, hgt_le fun v hv => by have := h1 v hv; omega⟩
set_option maxRecDepth 100000 in
set_option maxHeartbeats 4000000 in
theorem conicOf_any (vf vv : Value) (xs vs : List Int) (w : World) (hx : Rd w vf xs) (hv : Rd w vv vs) : Calls Try.prog 43 #[vf, vv] w fun e w' => e = .returned (conOf xs vs vf vv) ∧ Below w.heap.size w w' := by
  have hB0 := below_box2 w (.cells #[.slice none 0 0, .slice none 0 0, .int .i64 0, .int .i64 0, .int .i64 0] 49)
  have HB0 := hid hB0
  have HX := hid (hx.keep hB0)
  have HV := hid (hv.keep hB0)
  obtain ⟨a, cap, rfl, _⟩ := hx.form
  obtain ⟨a', cap', rfl, _⟩ := hv.form
  have hno : pointB xs vs = false → conOf xs vs (.slice a xs.length cap) (.slice a' vs.length cap') = .tuple #[.agg #[.slice none 0 0, .slice none 0 0, .int .i64 0, .int .i64 0, .int .i64 0], .bool false] := fun h => by unfold conOf; rw [h]; rfl
  have hpt := point_three (xs := xs) (vs := vs)
  clear hx hv hB0
  cases h1 : (inAll vs 1000 && decide ((vs.length : Int) = 3)) with
  | false =>
    have H1 := hid h1
    have HR := hid (hno (by rw [hpt, h1]; rfl))
    clear h1 hpt hno
    go_enter Try.func43, Try.ntmps43
    go_wp2_with (go_at_call 71; refine (vectorWithin_any _ vs 3 1000 (by omega) (by omega) _ HV.out).mono ?_; rw [H1.out]; rintro e w' ⟨rfl, rfl⟩)
    refine bodyPost_ret (v := .tuple #[.agg #[.slice none 0 0, .slice none 0 0, .int .i64 0, .int .i64 0, .int .i64 0], .bool false]) (by simp [results, Try.results43, go_sem]) rfl ?_
    exact ⟨retV HR.out.symm, HB0.out⟩
  | true =>
    have H1 := hid h1
    rw [h1, Bool.true_and] at hpt
    have hl3 : vs.length = 3 := by
      rw [Bool.and_eq_true, decide_eq_true_eq] at h1
      omega
    cases h2 : zeroB xs vs with
    | false =>
      have H2 := hid h2
      have HR := hid (hno (by rw [hpt, h2]; rfl))
      clear h1 hpt hno h2 hl3
      go_enter Try.func43, Try.ntmps43
      go_wp2_with (first | (go_at_call 71; refine (vectorWithin_any _ vs 3 1000 (by omega) (by omega) _ HV.out).mono ?_; rw [H1.out]; rintro e w' ⟨rfl, rfl⟩) | (go_at_call 54; refine (zeroIs_any _ _ xs vs _ HX.out HV.out).mono ?_; rw [H2.out]; rintro e w2 ⟨rfl, hb2⟩; have e2 := (hb2.block w.heap.size (by simp)).trans (heap_alloc_new _ _); obtain ⟨k0, k1, k2, k3, k4, g0, g1, g2, g3, g4⟩ := blk5 (w := w) e2; have HB2 := hid (HB0.out.trans (hb2.mono HB0.out.size)); clear e2 hb2))
      refine bodyPost_ret (v := .tuple #[.agg #[.slice none 0 0, .slice none 0 0, .int .i64 0, .int .i64 0, .int .i64 0], .bool false]) (by simp [results, Try.results43, go_sem]; go_simp) rfl ?_
      exact ⟨retV HR.out.symm, below_set5 HB2.out (Nat.le_refl _) _ _ _ _ _⟩
    | true =>
      have H2 := hid h2
      rw [h2, Bool.true_and] at hpt
      have hs := someB_iff.2 (zeroB_iff.1 h2).2.2.2.1
      have h11 : Vec11 vs := fun v hv => by have := (zeroB_iff.1 h2).1 v hv; omega
      have HPI : Hid (∀ wx : World, Rd wx (.slice a' vs.length cap') vs → Calls Try.prog 72 #[.slice a' vs.length cap'] wx fun e w' => e = .returned (.bool (plainB vs)) ∧ Below wx.heap.size wx w') := hid (fun wx h => by
        have := plainIs_any _ vs wx h (by omega) h11
        rwa [hs, Bool.true_and] at this)
      cases h3 : plainB vs with
      | false =>
        have HR := hid (hno (by rw [hpt, h3]))
        rw [h3] at HPI
        clear h1 hpt hno h2 hl3 hs h11 h3
        go_enter Try.func43, Try.ntmps43
        go_wp2_with (first | (go_at_call 71; refine (vectorWithin_any _ vs 3 1000 (by omega) (by omega) _ HV.out).mono ?_; rw [H1.out]; rintro e w' ⟨rfl, rfl⟩) | (go_at_call 54; refine (zeroIs_any _ _ xs vs _ HX.out HV.out).mono ?_; rw [H2.out]; rintro e w2 ⟨rfl, hb2⟩) | (go_at_call 72; refine (HPI.out _ (HV.out.keep hb2)).mono ?_; rintro e w3 ⟨rfl, hb3⟩; have hb4 := hb2.trans (hb3.mono hb2.size); have e2 := (hb4.block w.heap.size (by simp)).trans (heap_alloc_new _ _); obtain ⟨k0, k1, k2, k3, k4, g0, g1, g2, g3, g4⟩ := blk5 (w := w) e2; have HB3 := hid (HB0.out.trans (hb4.mono HB0.out.size)); clear e2 hb2 hb3 hb4))
        refine bodyPost_ret (v := .tuple #[.agg #[.slice none 0 0, .slice none 0 0, .int .i64 0, .int .i64 0, .int .i64 0], .bool false]) (by simp [results, Try.results43, go_sem]; go_simp) rfl ?_
        exact ⟨retV HR.out.symm, below_set5 HB3.out (Nat.le_refl _) _ _ _ _ _⟩
      | true =>
        rw [h3] at HPI
        have hY : conOf xs vs (.slice a xs.length cap) (.slice a' vs.length cap') = .tuple #[conA vs (.slice a xs.length cap) (.slice a' vs.length cap'), .bool true] := by unfold conOf; rw [hpt, h3, if_pos rfl]
        obtain ⟨bb, o, rfl, _, _, c0, _, _⟩ := rd3 HV.out hl3
        obtain ⟨x, hx⟩ : ∃ x, x = vs.getD 0 0 := ⟨_, rfl⟩
        rw [← hx] at c0
        rw [hl3] at HV HPI hY ⊢
        have H3 : Hid (vs.length = 3) := hid hl3
        by_cases x0 : x = 0
        · have HR : Hid (conOf xs vs (.slice a xs.length cap) (.slice (some ⟨bb, o, none⟩) 3 cap') = .tuple #[.agg #[.slice a xs.length cap, .slice (some ⟨bb, o, none⟩) 3 cap', .int .i64 1, .int .i64 0, .int .i64 2], .bool true]) := hid (by rw [hY]; unfold conA; rw [if_pos (by rw [← hx]; exact x0)]; rfl)
          have T : (x == 0) = true := by rw [beq_iff_eq]; exact x0
          clear h1 hpt hno h2 hl3 hs h11 h3 hY hx x0
          go_enter Try.func43, Try.ntmps43
          go_wp2_with (first | (go_at_call 71; refine (vectorWithin_any _ vs 3 1000 (by omega) (by omega) _ HV.out).mono ?_; rw [H1.out]; rintro e w' ⟨rfl, rfl⟩) | (go_at_call 54; refine (zeroIs_any _ _ xs vs _ HX.out HV.out).mono ?_; rw [H2.out]; rintro e w2 ⟨rfl, hb2⟩))
          refine (HPI.out _ (HV.out.keep hb2)).mono ?_
          rintro e w3 ⟨rfl, hb3⟩
          have hb4 := hb2.trans (hb3.mono hb2.size)
          have e2 := (hb4.block w.heap.size (by simp)).trans (heap_alloc_new _ _)
          obtain ⟨k0, k1, k2, k3, k4, g0, g1, g2, g3, g4⟩ := blk5 (w := w) e2
          have HB3 := hid (HB0.out.trans (hb4.mono HB0.out.size))
          have c9 := cell_later hb4 c0
          have hz3 : w.heap.size < w3.heap.size := by have := hb4.size; simp only [World.size_alloc] at this; omega
          have c10 := cell_later (below_box2 w3 (.cells #[.slice a xs.length cap, .slice (some ⟨bb, o, none⟩) 3 cap', .int .i64 0, .int .i64 1, .int .i64 2] 49)) c9
          clear e2 hb2 hb3 hb4 c0
          go_wp2_with fail
          refine bodyPost_ret (v := .tuple #[.agg #[.slice a xs.length cap, .slice (some ⟨bb, o, none⟩) 3 cap', .int .i64 1, .int .i64 0, .int .i64 2], .bool true]) (by simp [results, Try.results43, go_sem]; go_simp) rfl ?_
          exact ⟨retV HR.out.symm, below_set5a HB3.out (Nat.le_refl _) _ _ _ _ _ _⟩
        · have HR : Hid (conOf xs vs (.slice a xs.length cap) (.slice (some ⟨bb, o, none⟩) 3 cap') = .tuple #[.agg #[.slice a xs.length cap, .slice (some ⟨bb, o, none⟩) 3 cap', .int .i64 0, .int .i64 1, .int .i64 2], .bool true]) := hid (by rw [hY]; unfold conA; rw [if_neg (by rw [← hx]; exact x0)]; rfl)
          have T : (x == 0) = false := by rw [beq_eq_false_iff_ne]; exact x0
          clear h1 hpt hno h2 hl3 hs h11 h3 hY hx x0
          go_enter Try.func43, Try.ntmps43
          go_wp2_with (first | (go_at_call 71; refine (vectorWithin_any _ vs 3 1000 (by omega) (by omega) _ HV.out).mono ?_; rw [H1.out]; rintro e w' ⟨rfl, rfl⟩) | (go_at_call 54; refine (zeroIs_any _ _ xs vs _ HX.out HV.out).mono ?_; rw [H2.out]; rintro e w2 ⟨rfl, hb2⟩))
          refine (HPI.out _ (HV.out.keep hb2)).mono ?_
          rintro e w3 ⟨rfl, hb3⟩
          have hb4 := hb2.trans (hb3.mono hb2.size)
          have e2 := (hb4.block w.heap.size (by simp)).trans (heap_alloc_new _ _)
          obtain ⟨k0, k1, k2, k3, k4, g0, g1, g2, g3, g4⟩ := blk5 (w := w) e2
          have HB3 := hid (HB0.out.trans (hb4.mono HB0.out.size))
          have c9 := cell_later hb4 c0
          have hz3 : w.heap.size < w3.heap.size := by have := hb4.size; simp only [World.size_alloc] at this; omega
          have c10 := cell_later (below_box2 w3 (.cells #[.slice a xs.length cap, .slice (some ⟨bb, o, none⟩) 3 cap', .int .i64 0, .int .i64 1, .int .i64 2] 49)) c9
          clear e2 hb2 hb3 hb4 c0
          go_wp2_with fail
          refine bodyPost_ret (v := .tuple #[.agg #[.slice a xs.length cap, .slice (some ⟨bb, o, none⟩) 3 cap', .int .i64 0, .int .i64 1, .int .i64 2], .bool true]) (by simp [results, Try.results43, go_sem]; go_simp) rfl ?_
          exact ⟨retV HR.out.symm, below_set5a HB3.out (Nat.le_refl _) _ _ _ _ _ _⟩

end Go.Proofs.Ytenibnblibnocaa
