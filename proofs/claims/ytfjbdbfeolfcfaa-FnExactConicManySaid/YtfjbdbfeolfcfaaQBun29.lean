/-
  Some texts in one file: Cp1 Cp2 RegInv Cp3.
-/
import Derived.Test.YtfjbdbfeolfcfaaQCon
import Derived.Test.YtfjbdbfeolfcfaaQBun14
import Derived.Test.YtfjbdbfeolfcfaaQBun28
import Derived.Laws.ResultCell
import Derived.Laws.StructEq
import Derived.Deep.RegionHeld3
import Derived.StillTailTactics
import Derived.Test.YtfjbdbfeolfcfaaQBun17
import Derived.Deep.RegionWith
import Derived.Outline
import Derived.Test.YtfjbdbfeolfcfaaQBun0
import Derived.RegionTactic
import Derived.Orders
import Derived.BigRegion
/-! Cp1 -/
set_option linter.unusedVariables false
namespace Go.Proofs.Ytfjbdbfeolfcfaa
open Go.RowKit

/-- a form with a point: the axis is the first place, or the second -/
def con0 (f v : Value) : Value := .agg #[f, v, .int .i64 0, .int .i64 1, .int .i64 2]
def con1 (f v : Value) : Value := .agg #[f, v, .int .i64 1, .int .i64 0, .int .i64 2]
def conN : Value := .agg #[.slice none 0 0, .slice none 0 0, .int .i64 0, .int .i64 0, .int .i64 0]
def conA (vs : List Int) (f v : Value) : Value := if vs.getD 0 0 = 0 then con1 f v else con0 f v
/-- a vector seen along the axis -/
def ptA (vs ws : List Int) : Value := .agg #[.int .i64 (atA vs ws), .int .i64 (atB vs ws), .int .i64 (atC ws)]
theorem below_sets {w w' : World} {k : Nat} (h : Below w.heap.size w w') {p : Addr} (hp : w.heap.size ≤ p.block) (v : Value) : Below w.heap.size w (w'.setCell p v) := h.setCell hp v
theorem rd3 {W : World} {a : Option Addr} {n cap : Nat} {xs : List Int} (h : Rd W (.slice a n cap) xs) (hl : xs.length = 3) : ∃ b o, a = some ⟨b, o, none⟩ ∧ n = 3 ∧ 3 ≤ cap ∧ W.cell? ⟨b, o, none⟩ = some (.int .i64 (xs.getD 0 0)) ∧ W.cell? ⟨b, o + 1, none⟩ = some (.int .i64 (xs.getD 1 0)) ∧ W.cell? ⟨b, o + 2, none⟩ = some (.int .i64 (xs.getD 2 0)) := by
  rcases h with ⟨_, _, e, rfl⟩ | ⟨b, o, c, e, ⟨_, hcap⟩, hml, hc⟩
  · cases hl
  · cases e
    exact ⟨b, o, rfl, hl, by omega, hc 0 (by omega), hc 1 (by omega), hc 2 (by omega)⟩

theorem cell_h {W : World} {n i : Nat} {cs : Array Value} {t : TypeId} {m : Nat × Nat} (e : W.heap[n]? = some (.cells cs t m)) : W.cell? ⟨n, i, none⟩ = cs[i]? := by simp [World.cell?, e]
theorem frozen_h {W : World} {n i : Nat} {cs : Array Value} {t : TypeId} (e : W.heap[n]? = some (.cells cs t (0, 0))) : W.frozen? ⟨n, i, none⟩ = false := by simp [World.frozen?, e]
theorem two_blocks (w : World) (a0 a1 a2 a3 a4 : Value) (t : TypeId) (b0 b1 b2 : Value) (u : TypeId) :
    ((w.alloc (.cells #[a0, a1, a2, a3, a4] t)).alloc (.cells #[b0, b1, b2] u)).cell? ⟨w.heap.size, 2, none⟩ = some a2 ∧ ((w.alloc (.cells #[a0, a1, a2, a3, a4] t)).alloc (.cells #[b0, b1, b2] u)).cell? ⟨w.heap.size, 3, none⟩ = some a3 ∧ ((w.alloc (.cells #[a0, a1, a2, a3, a4] t)).alloc (.cells #[b0, b1, b2] u)).cell? ⟨w.heap.size, 4, none⟩ = some a4 ∧
    ((w.alloc (.cells #[a0, a1, a2, a3, a4] t)).alloc (.cells #[b0, b1, b2] u)).cell? ⟨w.heap.size + 1, 0, none⟩ = some b0 ∧ ((w.alloc (.cells #[a0, a1, a2, a3, a4] t)).alloc (.cells #[b0, b1, b2] u)).cell? ⟨w.heap.size + 1, 1, none⟩ = some b1 ∧ ((w.alloc (.cells #[a0, a1, a2, a3, a4] t)).alloc (.cells #[b0, b1, b2] u)).cell? ⟨w.heap.size + 1, 2, none⟩ = some b2 ∧
    ((w.alloc (.cells #[a0, a1, a2, a3, a4] t)).alloc (.cells #[b0, b1, b2] u)).frozen? ⟨w.heap.size + 1, 0, none⟩ = false ∧ ((w.alloc (.cells #[a0, a1, a2, a3, a4] t)).alloc (.cells #[b0, b1, b2] u)).frozen? ⟨w.heap.size + 1, 1, none⟩ = false ∧ ((w.alloc (.cells #[a0, a1, a2, a3, a4] t)).alloc (.cells #[b0, b1, b2] u)).frozen? ⟨w.heap.size + 1, 2, none⟩ = false ∧
    Below w.heap.size w ((w.alloc (.cells #[a0, a1, a2, a3, a4] t)).alloc (.cells #[b0, b1, b2] u)) := by
  have e0 := heap_alloc2_old w (.cells #[a0, a1, a2, a3, a4] t) (.cells #[b0, b1, b2] u)
  have e1 := heap_alloc2_new w (.cells #[a0, a1, a2, a3, a4] t) (.cells #[b0, b1, b2] u)
  exact ⟨cell_h e0, cell_h e0, cell_h e0, cell_h e1, cell_h e1, cell_h e1, frozen_h e1, frozen_h e1, frozen_h e1, (below_box2 _ _).alloc (by simp) _⟩

set_option maxRecDepth 100000 in
set_option maxHeartbeats 4000000 in
theorem pointOf_any (f b v : Value) (vs ws : List Int) (w : World) (hw : Rd w v ws) (hl : ws.length = 3) : Calls Try.prog 55 #[conA vs f b, v] w fun e w' => e = .returned (ptA vs ws) ∧ Below w.heap.size w w' := by
  obtain ⟨a, cap, rfl, _⟩ := hw.form
  obtain ⟨bb, o, rfl, _, _, c0, c1, c2⟩ := rd3 hw hl
  rw [hl]
  clear hw hl
  by_cases h0 : vs.getD 0 0 = 0
  · have e1 : conA vs f b = .agg #[f, b, .int .i64 1, .int .i64 0, .int .i64 2] := by unfold conA; rw [if_pos h0]; rfl
    have HE : Hid (ptA vs ws = .agg #[.int .i64 (ws.getD 1 0), .int .i64 (ws.getD 0 0), .int .i64 (ws.getD 2 0)]) := hid (by unfold ptA atA atB atC; rw [if_pos h0, if_pos h0])
    obtain ⟨x, hx⟩ : ∃ x, x = ws.getD 0 0 := ⟨_, rfl⟩
    obtain ⟨y, hy⟩ : ∃ x, x = ws.getD 1 0 := ⟨_, rfl⟩
    obtain ⟨z, hz⟩ : ∃ x, x = ws.getD 2 0 := ⟨_, rfl⟩
    rw [← hx] at c0 HE
    rw [← hy] at c1 HE
    rw [← hz] at c2 HE
    rw [e1, HE.out]
    clear e1 h0 hx hy hz HE
    obtain ⟨k2, k3, k4, n0, n1, n2, g0, g1, g2, hbw⟩ := two_blocks w f b (.int .i64 1) (.int .i64 0) (.int .i64 2) 50 (.int .i64 0) (.int .i64 0) (.int .i64 0) 72
    have c0 := cell_later hbw c0
    have c1 := cell_later hbw c1
    have c2 := cell_later hbw c2
    go_enter Try.func55, Try.ntmps55
    go_wp2_with fail
    generalize ((w.alloc (.cells #[f, b, .int .i64 1, .int .i64 0, .int .i64 2] 50)).alloc (.cells #[.int .i64 0, .int .i64 0, .int .i64 0] 72)) = W at k2 k3 k4 n0 n1 n2 g0 g1 g2 hbw c0 c1 c2 ⊢
    go_still_tail 20, (by kernel_rfl)
    change wpList _ _ _ _ _ W.drew
    go_wp2_with fail
    refine bodyPost_ret (v := .agg #[.int .i64 y, .int .i64 x, .int .i64 z]) (by simp [results, Try.results55, go_sem]; go_simp) rfl ?_
    refine ⟨rfl, ?_⟩
    exact (((below_dw hbw).setCell (Nat.le_succ _) _).setCell (Nat.le_succ _) _).setCell (Nat.le_succ _) _
  · have e1 : conA vs f b = .agg #[f, b, .int .i64 0, .int .i64 1, .int .i64 2] := by unfold conA; rw [if_neg h0]; rfl
    have HE : Hid (ptA vs ws = .agg #[.int .i64 (ws.getD 0 0), .int .i64 (ws.getD 1 0), .int .i64 (ws.getD 2 0)]) := hid (by unfold ptA atA atB atC; rw [if_neg h0, if_neg h0])
    obtain ⟨x, hx⟩ : ∃ x, x = ws.getD 0 0 := ⟨_, rfl⟩
    obtain ⟨y, hy⟩ : ∃ x, x = ws.getD 1 0 := ⟨_, rfl⟩
    obtain ⟨z, hz⟩ : ∃ x, x = ws.getD 2 0 := ⟨_, rfl⟩
    rw [← hx] at c0 HE
    rw [← hy] at c1 HE
    rw [← hz] at c2 HE
    rw [e1, HE.out]
    clear e1 h0 hx hy hz HE
    obtain ⟨k2, k3, k4, n0, n1, n2, g0, g1, g2, hbw⟩ := two_blocks w f b (.int .i64 0) (.int .i64 1) (.int .i64 2) 50 (.int .i64 0) (.int .i64 0) (.int .i64 0) 72
    have c0 := cell_later hbw c0
    have c1 := cell_later hbw c1
    have c2 := cell_later hbw c2
    go_enter Try.func55, Try.ntmps55
    go_wp2_with fail
    generalize ((w.alloc (.cells #[f, b, .int .i64 0, .int .i64 1, .int .i64 2] 50)).alloc (.cells #[.int .i64 0, .int .i64 0, .int .i64 0] 72)) = W at k2 k3 k4 n0 n1 n2 g0 g1 g2 hbw c0 c1 c2 ⊢
    go_still_tail 20, (by kernel_rfl)
    change wpList _ _ _ _ _ W.drew
    go_wp2_with fail
    refine bodyPost_ret (v := .agg #[.int .i64 x, .int .i64 y, .int .i64 z]) (by simp [results, Try.results55, go_sem]; go_simp) rfl ?_
    refine ⟨rfl, ?_⟩
    exact (((below_dw hbw).setCell (Nat.le_succ _) _).setCell (Nat.le_succ _) _).setCell (Nat.le_succ _) _

theorem mult_pt {vs ws : List Int} (hl : vs.length = 3) (hw : ws.length = 3) (hs : ∃ x ∈ vs, x ≠ 0) (hp : plainL vs = vs) : multB vs ws = true ↔ someB ws = false ∨ plainL ws = vs := by
  obtain ⟨x, y, z, rfl⟩ := len3 hl
  obtain ⟨u, v, t, rfl⟩ := len3 hw
  have hn : ¬ (x = 0 ∧ y = 0 ∧ z = 0) := by
    rintro ⟨rfl, rfl, rfl⟩
    obtain ⟨k, hk, h0⟩ := hs
    simp at hk
    exact h0 hk
  rw [mult_plain hn hp]
  have e : someB [u, v, t] = false ↔ (u = 0 ∧ v = 0 ∧ t = 0) := by
    unfold someB
    simp
  rw [e]
theorem cells5 {w wx : World} {a0 a1 a2 a3 a4 : Value} {t : TypeId} (hb : Below (w.alloc (.cells #[a0, a1, a2, a3, a4] t)).heap.size (w.alloc (.cells #[a0, a1, a2, a3, a4] t)) wx) : wx.cell? ⟨w.heap.size, 0, none⟩ = some a0 ∧ wx.cell? ⟨w.heap.size, 1, none⟩ = some a1 ∧ wx.cell? ⟨w.heap.size, 2, none⟩ = some a2 ∧ wx.cell? ⟨w.heap.size, 3, none⟩ = some a3 ∧ wx.cell? ⟨w.heap.size, 4, none⟩ = some a4 := by
  have e0 := (hb.block w.heap.size (by simp)).trans (heap_alloc_new _ _)
  exact ⟨cell_h e0, cell_h e0, cell_h e0, cell_h e0, cell_h e0⟩
theorem pt_ne {vs J : List Int} (hl : vs.length = 3) (hj : J.length = 3) (h : vs ≠ J) : atA vs J ≠ atA vs vs ∨ (atA vs J = atA vs vs ∧ atB vs J ≠ atB vs vs) ∨ (atA vs J = atA vs vs ∧ atB vs J = atB vs vs ∧ atC J ≠ atC vs) := by
  by_cases h0 : atA vs J = atA vs vs
  · by_cases h1 : atB vs J = atB vs vs
    · refine .inr (.inr ⟨h0, h1, fun h2 => h ?_⟩)
      obtain ⟨x, y, z, rfl⟩ := len3 hl
      obtain ⟨u, v, t, rfl⟩ := len3 hj
      unfold atA at h0
      unfold atB at h1
      unfold atC at h2
      simp only [List.getD_cons_zero, List.getD_cons_succ] at h0 h1 h2
      by_cases hx : x = 0
      · rw [if_pos hx, if_pos hx] at h0 h1
        rw [h0, h1, h2]
      · rw [if_neg hx, if_neg hx] at h0 h1
        rw [h0, h1, h2]
    · exact .inr (.inl ⟨h0, h1⟩)
  · exact .inl h0
/-- a call that keeps what was there -/
def Kept (W0 wx : World) (r : Value) (e : Ending) (w' : World) : Prop := e = .returned r ∧ Below W0.heap.size W0 w' ∧ ∀ uu us, Rd wx uu us → Rd w' uu us
set_option maxRecDepth 100000 in
set_option maxHeartbeats 4000000 in
theorem multiple_any (f b v : Value) (vs ws : List Int) (w : World) (hb : Rd w b vs) (hw : Rd w v ws) (hl : vs.length = 3) (hl2 : ws.length = 3) (h11 : Vec11 ws) (hs : ∃ x ∈ vs, x ≠ 0) (hp : plainL vs = vs) : Calls Try.prog 67 #[conA vs f b, v] w fun e w' => e = .returned (.bool (multB vs ws)) ∧ Below w.heap.size w w' := by
  have HM := hid (mult_pt hl hl2 hs hp)
  have H11 := hid h11
  obtain ⟨a, cap, rfl, _⟩ := hw.form
  obtain ⟨a', cap', rfl, _⟩ := hb.form
  have hl4 : ws.length ≤ 4 := by omega
  have HL := hid hl
  have HL2 := hid hl2
  rw [hl] at hb ⊢
  rw [hl2] at hw ⊢
  have HB := hid hb
  have HW := hid hw
  obtain ⟨c2, c3, hC⟩ : ∃ c2 c3 : Int, conA vs f (.slice a' 3 cap') = .agg #[f, .slice a' 3 cap', .int .i64 c2, .int .i64 c3, .int .i64 2] := by
    unfold conA
    split
    · exact ⟨1, 0, rfl⟩
    · exact ⟨0, 1, rfl⟩
  have HPT : Hid (∀ (vv : Value) (us : List Int) (wx : World), Rd wx vv us → us.length = 3 → Calls Try.prog 55 #[.agg #[f, .slice a' 3 cap', .int .i64 c2, .int .i64 c3, .int .i64 2], vv] wx fun e w' => e = .returned (ptA vs us) ∧ Below wx.heap.size wx w') := hid (fun vv us wx h1 h2 => by rw [← hC]; exact pointOf_any f _ vv vs us wx h1 h2)
  rw [hC]
  have hB0 := below_box2 w (.cells #[f, .slice a' 3 cap', .int .i64 c2, .int .i64 c3, .int .i64 2] 50)
  have HB0 := hid hB0
  clear hb hw hC h11 hs hp hl hl2
  cases hsm : someB ws with
  | false =>
    have HR : Hid (multB vs ws = true) := hid (HM.out.2 (.inl hsm))
    have hg0 : ¬ (0 < hgtL ws) := fun h => by rw [hgt_some, hsm] at h; cases h
    have hg : hgtL ws = 0 := by omega
    have HG := hid hg
    generalize hW0 : w.alloc (.cells #[f, .slice a' 3 cap', .int .i64 c2, .int .i64 c3, .int .i64 2] 50) = W0 at hB0
    have HQ : Hid (∀ (n : Nat), Calls Try.prog 65 #[.slice a 3 cap] (W0.drewN n) fun e w'' => e = .returned (.int .i64 0) ∧ ∃ m, w'' = W0.drewN m) := hid (fun n => Calls.quiet_of_same (by
      refine (heightOfW_any _ ws _ ((HW.out.keep hB0).drewN n) hl4 H11.out).mono ?_
      rw [HG.out]
      exact fun _ _ h => ⟨h.1, h.2.symm⟩))
    have HBW := hid hB0
    clear hg hg0 hsm hB0
    go_enter Try.func67, Try.ntmps67
    go_wp2_with fail
    go_quiet ((go_at_call 65; exact HQ.out _))
    go_wp2_with fail
    go_ret
    exact ⟨retB HR.out.symm, below_drewN HBW.out _⟩
  | true =>
    have HS := hid (someB_iff.1 hsm)
    have hg0 : 0 < hgtL ws := hgt_some.2 hsm
    have hgb : hgtL ws ≤ 100000000000 := hgt_le fun x hx => by have := H11.out x hx; omega
    obtain ⟨g, hg⟩ : ∃ g, g = hgtL ws := ⟨_, rfl⟩
    have HG : Hid (∀ wx : World, Rd wx (.slice a 3 cap) ws → Calls Try.prog 65 #[.slice a 3 cap] wx fun e w' => e = .returned (.int .i64 (g : Nat)) ∧ wx = w') := hid (fun wx h => by rw [hg]; exact heightOfW_any _ ws wx h hl4 H11.out)
    rw [← hg] at hg0 hgb
    have TG : ((g : Int) == 0) = false := beq_eq_false_iff_ne.2 (by omega)
    have hj3 : (plainL ws).length = 3 := by rw [plainL_len]; exact HL2.out
    have HMB : Hid (multB vs ws = decide (plainL ws = vs)) := hid (by
      rw [Bool.eq_iff_iff, decide_eq_true_eq, HM.out, hsm]
      simp)
    obtain ⟨J, hJ⟩ : ∃ J, J = plainL ws := ⟨_, rfl⟩
    rw [← hJ] at hj3 HMB
    generalize hW0 : w.alloc (.cells #[f, .slice a' 3 cap', .int .i64 c2, .int .i64 c3, .int .i64 2] 50) = W0 at hB0
    have HC5 : Hid (∀ wx : World, Below W0.heap.size W0 wx → wx.cell? ⟨w.heap.size, 0, none⟩ = some f ∧ wx.cell? ⟨w.heap.size, 1, none⟩ = some (.slice a' 3 cap') ∧ wx.cell? ⟨w.heap.size, 2, none⟩ = some (.int .i64 c2) ∧ wx.cell? ⟨w.heap.size, 3, none⟩ = some (.int .i64 c3) ∧ wx.cell? ⟨w.heap.size, 4, none⟩ = some (.int .i64 2)) := hid (fun wx h => by subst hW0; exact cells5 h)
    have HPL : Hid (∀ wx : World, Below W0.heap.size W0 wx → Calls Try.prog 41 #[.slice a 3 cap] wx fun e w' => ∃ u, e = .returned u ∧ Rd w' u J ∧ Below W0.heap.size W0 w') := hid (fun wx h => by
      refine (plainOfW_any _ ws wx ((HW.out.keep hB0).keep h) hl4 H11.out HS.out).mono ?_
      rw [hJ]
      rintro e w' ⟨u, rfl, ho, hb⟩
      exact ⟨u, rfl, ho.rd, h.trans (hb.mono h.size)⟩)
    have HPU : Hid (∀ (vv : Value) (wx : World), Below W0.heap.size W0 wx → Rd wx vv J → Calls Try.prog 55 #[.agg #[f, .slice a' 3 cap', .int .i64 c2, .int .i64 c3, .int .i64 2], vv] wx (Kept W0 wx (ptA vs J))) := hid (fun vv wx h hr => by
      refine (HPT.out vv J wx hr hj3).mono ?_
      rintro e w' ⟨rfl, hb⟩
      exact ⟨rfl, h.trans (hb.mono h.size), fun uu us hu => hu.keep hb⟩)
    have HPB : Hid (∀ (wx : World), Below W0.heap.size W0 wx → Calls Try.prog 55 #[.agg #[f, .slice a' 3 cap', .int .i64 c2, .int .i64 c3, .int .i64 2], .slice a' 3 cap'] wx (Kept W0 wx (ptA vs vs))) := hid (fun wx h => by
      refine (HPT.out _ vs wx ((HB.out.keep hB0).keep h) HL.out).mono ?_
      rintro e w' ⟨rfl, hb⟩
      exact ⟨rfl, h.trans (hb.mono h.size), fun uu us hu => hu.keep hb⟩)
    have HW0 := hid hB0
    have HWR : Hid (Rd W0.drew (.slice a 3 cap) ws) := hid (HW.out.keep (below_dw hB0))
    have hr : Below W0.heap.size W0 W0.drew := below_dw (Below.refl _ _)
    obtain ⟨d0, d1, d2, d3, d4⟩ := HC5.out _ hr
    by_cases hJV : J = vs
    · have HR : Hid (multB vs ws = true) := hid (by rw [HMB.out, decide_eq_true hJV])
      subst hJV
      unfold ptA at HPU HPB
      clear hsm hg hJ hB0 HM HMB
      go_enter Try.func67, Try.ntmps67
      go_wp2_with fail
      go_region_held3 (fun wx => Below W0.heap.size W0 wx ∧ wx.cell? ⟨w.heap.size, 0, none⟩ = some f ∧ wx.cell? ⟨w.heap.size, 1, none⟩ = some (.slice a' 3 cap') ∧ wx.cell? ⟨w.heap.size, 2, none⟩ = some (.int .i64 c2) ∧ wx.cell? ⟨w.heap.size, 3, none⟩ = some (.int .i64 c3) ∧ wx.cell? ⟨w.heap.size, 4, none⟩ = some (.int .i64 2)) (exact ⟨by assumption, by assumption, by assumption, by assumption, by assumption, by assumption⟩)
        (first
          | (go_at_call 65; refine (HG.out _ HWR.out).mono ?_; rintro e w' ⟨rfl, rfl⟩)
          | (go_at_call 41; refine (HPL.out _ (by assumption)).mono ?_; rintro e wP ⟨u, rfl, hru, hbp⟩; obtain ⟨x0, x1, x2, x3, x4⟩ := HC5.out _ hbp)
          | (go_at_call 55; refine (HPU.out _ _ (by assumption) (by assumption)).mono ?_; rintro e wQ ⟨rfl, hbq, hkq⟩; obtain ⟨y0, y1, y2, y3, y4⟩ := HC5.out _ hbq)
          | (go_at_call 55; refine (HPB.out _ (by assumption)).mono ?_; rintro e wR ⟨rfl, hbr, hkr⟩; obtain ⟨z0, z1, z2, z3, z4⟩ := HC5.out _ hbr))
      go_wp2
      go_ret
      exact ⟨retB HR.out.symm, HW0.out.trans (hbr.mono HW0.out.size)⟩
    · have HR : Hid (multB vs ws = false) := hid (by rw [HMB.out, decide_eq_false hJV])
      have hne := pt_ne HL.out hj3 (fun e => hJV e.symm)
      unfold ptA at HPU HPB
      obtain ⟨p0, hp0⟩ : ∃ x, x = atA vs J := ⟨_, rfl⟩
      obtain ⟨p1, hp1⟩ : ∃ x, x = atB vs J := ⟨_, rfl⟩
      obtain ⟨p2, hp2⟩ : ∃ x, x = atC J := ⟨_, rfl⟩
      obtain ⟨q0, hq0⟩ : ∃ x, x = atA vs vs := ⟨_, rfl⟩
      obtain ⟨q1, hq1⟩ : ∃ x, x = atB vs vs := ⟨_, rfl⟩
      obtain ⟨q2, hq2⟩ : ∃ x, x = atC vs := ⟨_, rfl⟩
      rw [← hp0, ← hp1, ← hp2] at HPU hne
      rw [← hq0, ← hq1, ← hq2] at HPB hne
      clear hsm hg hJ hB0 HM HMB hJV hp0 hp1 hp2 hq0 hq1 hq2
      rcases hne with h0 | ⟨h0, h1⟩ | ⟨h0, h1, h2⟩
      · have T0 : (p0 == q0) = false := beq_eq_false_iff_ne.2 h0
        clear h0
        go_enter Try.func67, Try.ntmps67
        go_wp2_with fail
        go_region_held3 (fun wx => Below W0.heap.size W0 wx ∧ wx.cell? ⟨w.heap.size, 0, none⟩ = some f ∧ wx.cell? ⟨w.heap.size, 1, none⟩ = some (.slice a' 3 cap') ∧ wx.cell? ⟨w.heap.size, 2, none⟩ = some (.int .i64 c2) ∧ wx.cell? ⟨w.heap.size, 3, none⟩ = some (.int .i64 c3) ∧ wx.cell? ⟨w.heap.size, 4, none⟩ = some (.int .i64 2)) (exact ⟨by assumption, by assumption, by assumption, by assumption, by assumption, by assumption⟩)
          (first
            | (go_at_call 65; refine (HG.out _ HWR.out).mono ?_; rintro e w' ⟨rfl, rfl⟩)
            | (go_at_call 41; refine (HPL.out _ (by assumption)).mono ?_; rintro e wP ⟨u, rfl, hru, hbp⟩; obtain ⟨x0, x1, x2, x3, x4⟩ := HC5.out _ hbp)
            | (go_at_call 55; refine (HPU.out _ _ (by assumption) (by assumption)).mono ?_; rintro e wQ ⟨rfl, hbq, hkq⟩; obtain ⟨y0, y1, y2, y3, y4⟩ := HC5.out _ hbq)
            | (go_at_call 55; refine (HPB.out _ (by assumption)).mono ?_; rintro e wR ⟨rfl, hbr, hkr⟩; obtain ⟨z0, z1, z2, z3, z4⟩ := HC5.out _ hbr))
        go_wp2
        go_ret
        exact ⟨retB HR.out.symm, HW0.out.trans (hbr.mono HW0.out.size)⟩
      · subst h0
        have T1 : (p1 == q1) = false := beq_eq_false_iff_ne.2 h1
        clear h1
        go_enter Try.func67, Try.ntmps67
        go_wp2_with fail
        go_region_held3 (fun wx => Below W0.heap.size W0 wx ∧ wx.cell? ⟨w.heap.size, 0, none⟩ = some f ∧ wx.cell? ⟨w.heap.size, 1, none⟩ = some (.slice a' 3 cap') ∧ wx.cell? ⟨w.heap.size, 2, none⟩ = some (.int .i64 c2) ∧ wx.cell? ⟨w.heap.size, 3, none⟩ = some (.int .i64 c3) ∧ wx.cell? ⟨w.heap.size, 4, none⟩ = some (.int .i64 2)) (exact ⟨by assumption, by assumption, by assumption, by assumption, by assumption, by assumption⟩)
          (first
            | (go_at_call 65; refine (HG.out _ HWR.out).mono ?_; rintro e w' ⟨rfl, rfl⟩)
            | (go_at_call 41; refine (HPL.out _ (by assumption)).mono ?_; rintro e wP ⟨u, rfl, hru, hbp⟩; obtain ⟨x0, x1, x2, x3, x4⟩ := HC5.out _ hbp)
            | (go_at_call 55; refine (HPU.out _ _ (by assumption) (by assumption)).mono ?_; rintro e wQ ⟨rfl, hbq, hkq⟩; obtain ⟨y0, y1, y2, y3, y4⟩ := HC5.out _ hbq)
            | (go_at_call 55; refine (HPB.out _ (by assumption)).mono ?_; rintro e wR ⟨rfl, hbr, hkr⟩; obtain ⟨z0, z1, z2, z3, z4⟩ := HC5.out _ hbr))
        go_wp2
        go_ret
        exact ⟨retB HR.out.symm, HW0.out.trans (hbr.mono HW0.out.size)⟩
      · subst h0
        subst h1
        have T1 : (p2 == q2) = false := beq_eq_false_iff_ne.2 h2
        clear h2
        go_enter Try.func67, Try.ntmps67
        go_wp2_with fail
        go_region_held3 (fun wx => Below W0.heap.size W0 wx ∧ wx.cell? ⟨w.heap.size, 0, none⟩ = some f ∧ wx.cell? ⟨w.heap.size, 1, none⟩ = some (.slice a' 3 cap') ∧ wx.cell? ⟨w.heap.size, 2, none⟩ = some (.int .i64 c2) ∧ wx.cell? ⟨w.heap.size, 3, none⟩ = some (.int .i64 c3) ∧ wx.cell? ⟨w.heap.size, 4, none⟩ = some (.int .i64 2)) (exact ⟨by assumption, by assumption, by assumption, by assumption, by assumption, by assumption⟩)
          (first
            | (go_at_call 65; refine (HG.out _ HWR.out).mono ?_; rintro e w' ⟨rfl, rfl⟩)
            | (go_at_call 41; refine (HPL.out _ (by assumption)).mono ?_; rintro e wP ⟨u, rfl, hru, hbp⟩; obtain ⟨x0, x1, x2, x3, x4⟩ := HC5.out _ hbp)
            | (go_at_call 55; refine (HPU.out _ _ (by assumption) (by assumption)).mono ?_; rintro e wQ ⟨rfl, hbq, hkq⟩; obtain ⟨y0, y1, y2, y3, y4⟩ := HC5.out _ hbq)
            | (go_at_call 55; refine (HPB.out _ (by assumption)).mono ?_; rintro e wR ⟨rfl, hbr, hkr⟩; obtain ⟨z0, z1, z2, z3, z4⟩ := HC5.out _ hbr))
        go_wp2
        go_ret
        exact ⟨retB HR.out.symm, HW0.out.trans (hbr.mono HW0.out.size)⟩

end Go.Proofs.Ytfjbdbfeolfcfaa

/-! Cp2 -/
set_option linter.unusedVariables false
namespace Go.Proofs.Ytfjbdbfeolfcfaa
open Go.RowKit

theorem below_two2 (w : World) (o1 o2 : Obj) : Below w.heap.size w ((w.alloc o1).alloc o2) := ((Below.refl _ _).alloc (Nat.le_refl _) _).alloc (by simp) _
theorem below_set5 {B g : Nat} {a w : World} (h : Below B a w) (hg : B ≤ g) (v0 v1 v2 v3 v4 : Value) : Below B a (((((w.setCell ⟨g, 0, none⟩ v0).setCell ⟨g, 1, none⟩ v1).setCell ⟨g, 2, none⟩ v2).setCell ⟨g, 3, none⟩ v3).setCell ⟨g, 4, none⟩ v4) :=
  ((((h.setCell (p := ⟨g, 0, none⟩) hg _).setCell (p := ⟨g, 1, none⟩) hg _).setCell (p := ⟨g, 2, none⟩) hg _).setCell (p := ⟨g, 3, none⟩) hg _).setCell (p := ⟨g, 4, none⟩) hg _
theorem below_set5a {g : Nat} {a w : World} (h : Below a.heap.size a w) (hg : a.heap.size ≤ g) (v0 v1 v2 v3 v4 : Value) (o : Obj) : Below a.heap.size a ((((((w.setCell ⟨g, 0, none⟩ v0).setCell ⟨g, 1, none⟩ v1).setCell ⟨g, 2, none⟩ v2).setCell ⟨g, 3, none⟩ v3).setCell ⟨g, 4, none⟩ v4).alloc o) :=
  (below_set5 h hg v0 v1 v2 v3 v4).alloc (below_set5 h hg v0 v1 v2 v3 v4).size o
theorem below_set2 {B g : Nat} {a w : World} (h : Below B a w) (hg : B ≤ g) (v0 v1 : Value) : Below B a ((w.setCell ⟨g, 0, none⟩ v0).setCell ⟨g, 1, none⟩ v1) :=
  (h.setCell (p := ⟨g, 0, none⟩) hg _).setCell (p := ⟨g, 1, none⟩) hg _
/-- a block of the call's own, as it stands after calls -/
theorem blk5 {w wx : World} {n : Nat} {a0 a1 a2 a3 a4 : Value} {t : TypeId} (e : wx.heap[n]? = some (.cells #[a0, a1, a2, a3, a4] t (0, 0))) :
    wx.cell? ⟨n, 0, none⟩ = some a0 ∧ wx.cell? ⟨n, 1, none⟩ = some a1 ∧ wx.cell? ⟨n, 2, none⟩ = some a2 ∧ wx.cell? ⟨n, 3, none⟩ = some a3 ∧ wx.cell? ⟨n, 4, none⟩ = some a4 ∧ wx.frozen? ⟨n, 0, none⟩ = false ∧ wx.frozen? ⟨n, 1, none⟩ = false ∧ wx.frozen? ⟨n, 2, none⟩ = false ∧ wx.frozen? ⟨n, 3, none⟩ = false ∧ wx.frozen? ⟨n, 4, none⟩ = false :=
  ⟨cell_h e, cell_h e, cell_h e, cell_h e, cell_h e, frozen_h e, frozen_h e, frozen_h e, frozen_h e, frozen_h e⟩

def conOf (xs vs : List Int) (f v : Value) : Value := if pointB xs vs then .tuple #[conA vs f v, .bool true] else .tuple #[conN, .bool false]
theorem point_three {xs vs : List Int} : pointB xs vs = (inAll vs 1000 && decide ((vs.length : Int) = 3) && (zeroB xs vs && plainB vs)) := by
  rw [Bool.eq_iff_iff, pointB_iff]
  unfold inAll inR plainB
  simp only [Bool.and_eq_true, List.all_eq_true, decide_eq_true_eq]
  constructor
  · rintro ⟨h1, h2, h3, h4⟩
    have hl := (zeroB_iff.1 h2).2.2.1
    exact ⟨⟨fun v hv => by have := hgt_ge hv; omega, by omega⟩, h2, h3⟩
  · rintro ⟨⟨h1, h2⟩, h3, h4⟩
    have hl := (zeroB_iff.1 h3).2.2.1
    exact ⟨by omega, h3, h4, hgt_le fun v hv => by have := h1 v hv; omega⟩
set_option maxRecDepth 100000 in
set_option maxHeartbeats 4000000 in
theorem conicOf_any (vf vv : Value) (xs vs : List Int) (w : World) (hx : Rd w vf xs) (hv : Rd w vv vs) : Calls Try.prog 33 #[vf, vv] w fun e w' => e = .returned (conOf xs vs vf vv) ∧ Below w.heap.size w w' := by
  have hB0 := below_box2 w (.cells #[.slice none 0 0, .slice none 0 0, .int .i64 0, .int .i64 0, .int .i64 0] 50)
  have HB0 := hid hB0
  have HX := hid (hx.keep hB0)
  have HV := hid (hv.keep hB0)
  obtain ⟨a, cap, rfl, _⟩ := hx.form
  obtain ⟨a', cap', rfl, _⟩ := hv.form
  have hno : pointB xs vs = false → conOf xs vs (.slice a xs.length cap) (.slice a' vs.length cap') = .tuple #[.agg #[.slice none 0 0, .slice none 0 0, .int .i64 0, .int .i64 0, .int .i64 0], .bool false] := fun h => by unfold conOf; rw [h]; rfl
  have hpt := point_three (xs := xs) (vs := vs)
  clear hx hv hB0
  cases h1 : (inAll vs 1000 && decide ((vs.length : Int) = 3)) with
  | false =>
    have H1 := hid h1
    have HR := hid (hno (by rw [hpt, h1]; rfl))
    clear h1 hpt hno
    go_enter Try.func33, Try.ntmps33
    go_wp2_with (go_at_call 60; refine (vectorWithin_any _ vs 3 1000 (by omega) (by omega) _ HV.out).mono ?_; rw [H1.out]; rintro e w' ⟨rfl, rfl⟩)
    refine bodyPost_ret (v := .tuple #[.agg #[.slice none 0 0, .slice none 0 0, .int .i64 0, .int .i64 0, .int .i64 0], .bool false]) (by simp [results, Try.results33, go_sem]) rfl ?_
    exact ⟨retV HR.out.symm, HB0.out⟩
  | true =>
    have H1 := hid h1
    rw [h1, Bool.true_and] at hpt
    have hl3 : vs.length = 3 := by
      rw [Bool.and_eq_true, decide_eq_true_eq] at h1
      omega
    cases h2 : zeroB xs vs with
    | false =>
      have H2 := hid h2
      have HR := hid (hno (by rw [hpt, h2]; rfl))
      clear h1 hpt hno h2 hl3
      go_enter Try.func33, Try.ntmps33
      go_wp2_with (first | (go_at_call 60; refine (vectorWithin_any _ vs 3 1000 (by omega) (by omega) _ HV.out).mono ?_; rw [H1.out]; rintro e w' ⟨rfl, rfl⟩) | (go_at_call 37; refine (zeroIs_any _ _ xs vs _ HX.out HV.out).mono ?_; rw [H2.out]; rintro e w2 ⟨rfl, hb2⟩; have e2 := (hb2.block w.heap.size (by simp)).trans (heap_alloc_new _ _); obtain ⟨k0, k1, k2, k3, k4, g0, g1, g2, g3, g4⟩ := blk5 (w := w) e2; have HB2 := hid (HB0.out.trans (hb2.mono HB0.out.size)); clear e2 hb2))
      refine bodyPost_ret (v := .tuple #[.agg #[.slice none 0 0, .slice none 0 0, .int .i64 0, .int .i64 0, .int .i64 0], .bool false]) (by simp [results, Try.results33, go_sem]; go_simp) rfl ?_
      exact ⟨retV HR.out.symm, below_set5 HB2.out (Nat.le_refl _) _ _ _ _ _⟩
    | true =>
      have H2 := hid h2
      rw [h2, Bool.true_and] at hpt
      have hs := someB_iff.2 (zeroB_iff.1 h2).2.2.2.1
      have h11 : Vec11 vs := fun v hv => by have := (zeroB_iff.1 h2).1 v hv; omega
      have HPI : Hid (∀ wx : World, Rd wx (.slice a' vs.length cap') vs → Calls Try.prog 61 #[.slice a' vs.length cap'] wx fun e w' => e = .returned (.bool (plainB vs)) ∧ Below wx.heap.size wx w') := hid (fun wx h => by
        have := plainIs_any _ vs wx h (by omega) h11
        rwa [hs, Bool.true_and] at this)
      cases h3 : plainB vs with
      | false =>
        have HR := hid (hno (by rw [hpt, h3]))
        rw [h3] at HPI
        clear h1 hpt hno h2 hl3 hs h11 h3
        go_enter Try.func33, Try.ntmps33
        go_wp2_with (first | (go_at_call 60; refine (vectorWithin_any _ vs 3 1000 (by omega) (by omega) _ HV.out).mono ?_; rw [H1.out]; rintro e w' ⟨rfl, rfl⟩) | (go_at_call 37; refine (zeroIs_any _ _ xs vs _ HX.out HV.out).mono ?_; rw [H2.out]; rintro e w2 ⟨rfl, hb2⟩) | (go_at_call 61; refine (HPI.out _ (HV.out.keep hb2)).mono ?_; rintro e w3 ⟨rfl, hb3⟩; have hb4 := hb2.trans (hb3.mono hb2.size); have e2 := (hb4.block w.heap.size (by simp)).trans (heap_alloc_new _ _); obtain ⟨k0, k1, k2, k3, k4, g0, g1, g2, g3, g4⟩ := blk5 (w := w) e2; have HB3 := hid (HB0.out.trans (hb4.mono HB0.out.size)); clear e2 hb2 hb3 hb4))
        refine bodyPost_ret (v := .tuple #[.agg #[.slice none 0 0, .slice none 0 0, .int .i64 0, .int .i64 0, .int .i64 0], .bool false]) (by simp [results, Try.results33, go_sem]; go_simp) rfl ?_
        exact ⟨retV HR.out.symm, below_set5 HB3.out (Nat.le_refl _) _ _ _ _ _⟩
      | true =>
        rw [h3] at HPI
        have hY : conOf xs vs (.slice a xs.length cap) (.slice a' vs.length cap') = .tuple #[conA vs (.slice a xs.length cap) (.slice a' vs.length cap'), .bool true] := by unfold conOf; rw [hpt, h3, if_pos rfl]
        obtain ⟨bb, o, rfl, _, _, c0, _, _⟩ := rd3 HV.out hl3
        obtain ⟨x, hx⟩ : ∃ x, x = vs.getD 0 0 := ⟨_, rfl⟩
        rw [← hx] at c0
        rw [hl3] at HV HPI hY ⊢
        have H3 : Hid (vs.length = 3) := hid hl3
        by_cases x0 : x = 0
        · have HR : Hid (conOf xs vs (.slice a xs.length cap) (.slice (some ⟨bb, o, none⟩) 3 cap') = .tuple #[.agg #[.slice a xs.length cap, .slice (some ⟨bb, o, none⟩) 3 cap', .int .i64 1, .int .i64 0, .int .i64 2], .bool true]) := hid (by rw [hY]; unfold conA; rw [if_pos (by rw [← hx]; exact x0)]; rfl)
          have T : (x == 0) = true := by rw [beq_iff_eq]; exact x0
          clear h1 hpt hno h2 hl3 hs h11 h3 hY hx x0
          go_enter Try.func33, Try.ntmps33
          go_wp2_with (first | (go_at_call 60; refine (vectorWithin_any _ vs 3 1000 (by omega) (by omega) _ HV.out).mono ?_; rw [H1.out]; rintro e w' ⟨rfl, rfl⟩) | (go_at_call 37; refine (zeroIs_any _ _ xs vs _ HX.out HV.out).mono ?_; rw [H2.out]; rintro e w2 ⟨rfl, hb2⟩))
          refine (HPI.out _ (HV.out.keep hb2)).mono ?_
          rintro e w3 ⟨rfl, hb3⟩
          have hb4 := hb2.trans (hb3.mono hb2.size)
          have e2 := (hb4.block w.heap.size (by simp)).trans (heap_alloc_new _ _)
          obtain ⟨k0, k1, k2, k3, k4, g0, g1, g2, g3, g4⟩ := blk5 (w := w) e2
          have HB3 := hid (HB0.out.trans (hb4.mono HB0.out.size))
          have c9 := cell_later hb4 c0
          have hz3 : w.heap.size < w3.heap.size := by have := hb4.size; simp only [World.size_alloc] at this; omega
          have c10 := cell_later (below_box2 w3 (.cells #[.slice a xs.length cap, .slice (some ⟨bb, o, none⟩) 3 cap', .int .i64 0, .int .i64 1, .int .i64 2] 50)) c9
          clear e2 hb2 hb3 hb4 c0
          go_wp2_with fail
          refine bodyPost_ret (v := .tuple #[.agg #[.slice a xs.length cap, .slice (some ⟨bb, o, none⟩) 3 cap', .int .i64 1, .int .i64 0, .int .i64 2], .bool true]) (by simp [results, Try.results33, go_sem]; go_simp) rfl ?_
          exact ⟨retV HR.out.symm, below_set5a HB3.out (Nat.le_refl _) _ _ _ _ _ _⟩
        · have HR : Hid (conOf xs vs (.slice a xs.length cap) (.slice (some ⟨bb, o, none⟩) 3 cap') = .tuple #[.agg #[.slice a xs.length cap, .slice (some ⟨bb, o, none⟩) 3 cap', .int .i64 0, .int .i64 1, .int .i64 2], .bool true]) := hid (by rw [hY]; unfold conA; rw [if_neg (by rw [← hx]; exact x0)]; rfl)
          have T : (x == 0) = false := by rw [beq_eq_false_iff_ne]; exact x0
          clear h1 hpt hno h2 hl3 hs h11 h3 hY hx x0
          go_enter Try.func33, Try.ntmps33
          go_wp2_with (first | (go_at_call 60; refine (vectorWithin_any _ vs 3 1000 (by omega) (by omega) _ HV.out).mono ?_; rw [H1.out]; rintro e w' ⟨rfl, rfl⟩) | (go_at_call 37; refine (zeroIs_any _ _ xs vs _ HX.out HV.out).mono ?_; rw [H2.out]; rintro e w2 ⟨rfl, hb2⟩))
          refine (HPI.out _ (HV.out.keep hb2)).mono ?_
          rintro e w3 ⟨rfl, hb3⟩
          have hb4 := hb2.trans (hb3.mono hb2.size)
          have e2 := (hb4.block w.heap.size (by simp)).trans (heap_alloc_new _ _)
          obtain ⟨k0, k1, k2, k3, k4, g0, g1, g2, g3, g4⟩ := blk5 (w := w) e2
          have HB3 := hid (HB0.out.trans (hb4.mono HB0.out.size))
          have c9 := cell_later hb4 c0
          have hz3 : w.heap.size < w3.heap.size := by have := hb4.size; simp only [World.size_alloc] at this; omega
          have c10 := cell_later (below_box2 w3 (.cells #[.slice a xs.length cap, .slice (some ⟨bb, o, none⟩) 3 cap', .int .i64 0, .int .i64 1, .int .i64 2] 50)) c9
          clear e2 hb2 hb3 hb4 c0
          go_wp2_with fail
          refine bodyPost_ret (v := .tuple #[.agg #[.slice a xs.length cap, .slice (some ⟨bb, o, none⟩) 3 cap', .int .i64 0, .int .i64 1, .int .i64 2], .bool true]) (by simp [results, Try.results33, go_sem]; go_simp) rfl ?_
          exact ⟨retV HR.out.symm, below_set5a HB3.out (Nat.le_refl _) _ _ _ _ _ _⟩

end Go.Proofs.Ytfjbdbfeolfcfaa

/-! RegInv -/
set_option linter.unusedVariables false
namespace Go.Proofs.Ytfjbdbfeolfcfaa
open Go.RowKit

section
variable {P : Program} {ops : Array Oper} {Q : Exit → Act → World → Prop} {md : Region.Mode}
/-- has operation i been done? -/
def dn (L : Array Bool) (i : Nat) : Prop := L[i]? = some true
theorem dn_set {L : Array Bool} {i j : Nat} (h : dn (L.setIfInBounds i true) j) : j = i ∨ dn L j := by
  unfold dn at h ⊢
  by_cases e : i = j
  · exact .inl e.symm
  · right
    rwa [Array.getElem?_setIfInBounds_ne e] at h
theorem dn_old {L : Array Bool} {i j : Nat} (h : dn (L.setIfInBounds i true) j) (hne : j ≠ i) : dn L j := (dn_set h).resolve_left hne
/-- what has been done stays done -/
theorem dn_keep {L : Array Bool} {i j : Nat} (h : dn L j) : dn (L.setIfInBounds i true) j := by
  unfold dn at h ⊢
  by_cases e : i = j
  · subst e
    have hl : i < L.size := by
      rcases Nat.lt_or_ge i L.size with hl | hl
      · exact hl
      · rw [Array.getElem?_eq_none hl] at h; cases h
    rw [Array.getElem?_setIfInBounds_self_of_lt hl]
  · rw [Array.getElem?_setIfInBounds_ne e]; exact h
theorem ready_mem {L : Array Bool} {i : Nat} (h : i ∈ Region.ready md ops L) : i < ops.size ∧ L[i]? = some false ∧ ∀ o, ops[i]? = some o → ∀ e ∈ o.after, Region.binds md e = true → dn L e.on := by
  unfold Region.ready at h
  rw [List.mem_filter, List.mem_range, Bool.and_eq_true] at h
  obtain ⟨h1, h2, h3⟩ := h
  refine ⟨h1, ?_, fun o ho e he hb => ?_⟩
  · rcases Nat.lt_or_ge i L.size with hl | hl
    · rw [Array.getElem?_eq_getElem hl]
      simp [Array.getD, hl] at h2
      rw [h2]
    · simp [Array.getD, Nat.not_lt.2 hl] at h2
  · rw [ho] at h3
    simp only [Option.map_some, Option.getD_some, Array.all_eq_true_iff_forall_mem] at h3
    have := h3 e he
    rw [hb, Bool.not_true, Bool.false_or] at this
    unfold dn
    rcases Nat.lt_or_ge e.on L.size with hl | hl
    · rw [Array.getElem?_eq_getElem hl]
      simp [Array.getD, hl] at this
      rw [this]
    · simp [Array.getD, Nat.not_lt.2 hl] at this
def openN (L : Array Bool) : Nat := L.toList.countP (fun b => !b)
theorem open_set {L : Array Bool} {i : Nat} (h : L[i]? = some false) : openN (L.setIfInBounds i true) + 1 = openN L := by
  unfold openN
  rw [Array.toList_setIfInBounds]
  rw [← Array.getElem?_toList] at h
  generalize L.toList = l at h
  induction l generalizing i with
  | nil => simp at h
  | cons b l ih =>
    cases i with
    | zero =>
      simp at h
      subst h
      simp
    | succ i =>
      simp only [List.getElem?_cons_succ] at h
      simp only [List.set_cons_succ, List.countP_cons]
      have := ih h
      omega
theorem open_ready {L : Array Bool} (h : openN L = 0) : Region.ready md ops L = [] := by
  cases hr : Region.ready md ops L with
  | nil => rfl
  | cons i t =>
    have hi := (ready_mem (md := md) (ops := ops) (L := L) (i := i) (by rw [hr]; exact List.mem_cons_self ..)).2.1
    have := open_set hi
    omega
theorem any_inv {I : Array Bool → Act → World → Prop} (hend : ∀ L a w, I L a w → Region.ready md ops L = [] → Q .normal a w)
    (hstep : ∀ L a w i, I L a w → i ∈ Region.ready md ops L → wpOp P ops Q i (I (L.setIfInBounds i true)) a w) :
    ∀ (fuel : Nat) (L : Array Bool) (a : Act) (w : World), openN L ≤ fuel → I L a w → wpAny P md ops Q fuel L a w := by
  intro fuel
  induction fuel with
  | zero => intro L a w hf h; exact ⟨open_ready (by omega), hend L a w h (open_ready (by omega))⟩
  | succ fuel ih =>
    intro L a w hf h
    refine ⟨hend L a w h, fun i hi => ?_⟩
    have ho := open_set (ready_mem hi).2.1
    exact wpOp_mono (fun a w hI => ih _ a w (by omega) hI) (hstep L a w i h hi)
theorem open_new (n : Nat) : openN (Array.replicate n false) = n := by
  unfold openN
  rw [Array.toList_replicate, List.countP_replicate]
  simp
/-- a region that draws its order: what holds at its beginning and is kept by each operation that may come up holds at its end -/
theorem region_inv {id : Nat} {a : Act} {w : World} (hm : P.follows .mixedOrders = true) (I : Array Bool → Act → World → Prop)
    (h0 : I (Array.replicate ops.size false) a w.drew) (hend : ∀ L a w, I L a w → Region.ready .any ops L = [] → Q .normal a w)
    (hstep : ∀ L a w i, I L a w → i ∈ Region.ready .any ops L → wpOp P ops Q i (I (L.setIfInBounds i true)) a w) : (Code.region id ops true).wp P Q a w :=
  wp_region_any hm (any_inv hend hstep _ _ _ _ (by rw [open_new]; exact Nat.le_refl _) h0)
/-- all is done where nothing may come up, if each waits for earlier ones alone -/
theorem all_done {L : Array Bool} (hs : L.size = ops.size) (hb : ∀ (i : Nat) (o : Oper), ops[i]? = some o → ∀ e ∈ o.after, Region.binds md e = true → e.on < i) (hr : Region.ready md ops L = []) : ∀ i, i < ops.size → dn L i := by
  intro i
  induction i using Nat.strongRecOn with
  | _ i ih =>
    intro hi
    refine Classical.byContradiction fun hn => ?_
    have hl : i < L.size := by omega
    have hf : L[i]? = some false := by
      unfold dn at hn
      rw [Array.getElem?_eq_getElem hl] at hn ⊢
      cases hv : L[i] with
      | false => rfl
      | true => rw [hv] at hn; exact absurd rfl hn
    have : i ∈ Region.ready md ops L := by
      unfold Region.ready
      rw [List.mem_filter, List.mem_range, Bool.and_eq_true]
      refine ⟨hi, ?_, ?_⟩
      · rw [Array.getElem?_eq_getElem hl] at hf
        simp only [Option.some.injEq] at hf
        simp [Array.getD, hl, hf]
      · rw [Array.getElem?_eq_getElem hi]
        simp only [Option.map_some, Option.getD_some, Array.all_eq_true_iff_forall_mem]
        intro e he
        cases hbb : Region.binds md e with
        | false => rfl
        | true =>
          have hlt := hb i _ (Array.getElem?_eq_getElem hi) e he hbb
          have hd := ih e.on hlt (by omega)
          unfold dn at hd
          have hl2 : e.on < L.size := by omega
          rw [Array.getElem?_eq_getElem hl2] at hd
          simp only [Option.some.injEq] at hd
          simp [Array.getD, hl2, hd]
    rw [hr] at this
    cases this
theorem dn_new {n k : Nat} (h : dn (Array.replicate n false) k) : False := by
  unfold dn at h
  rw [Array.getElem?_replicate] at h
  split at h <;> simp at h
theorem dn_not {L : Array Bool} {i : Nat} (h : L[i]? = some false) : ¬ dn L i := fun h2 => by
  unfold dn at h2
  rw [h] at h2
  cases h2
/-- each operation waits for earlier ones alone -/
def depB (ops : Array Oper) : Bool := (List.range ops.size).all fun i => match ops[i]? with
  | some o => o.after.all fun e => decide (e.on < i)
  | none => true
theorem all_done2 {L : Array Bool} (hs : L.size = ops.size) (hb : depB ops = true) (hr : Region.ready md ops L = []) : ∀ i, i < ops.size → dn L i :=
  all_done hs (fun i o ho e he _ => by
    have hi : i < ops.size := by
      rcases Nat.lt_or_ge i ops.size with h | h
      · exact h
      · rw [Array.getElem?_eq_none h] at ho; cases ho
    unfold depB at hb
    rw [List.all_eq_true] at hb
    have := hb i (List.mem_range.2 hi)
    rw [ho] at this
    simp only [Array.all_eq_true_iff_forall_mem] at this
    have h2 := this e he
    rwa [decide_eq_true_eq] at h2) hr
/-- each operation waits for earlier ones alone, among those whose order binds in every mode -/
def depM (ops : Array Oper) : Bool := (List.range ops.size).all fun i => match ops[i]? with
  | some o => o.after.all fun e => !Region.binds .any e || decide (e.on < i)
  | none => true
theorem all_done3 {L : Array Bool} (hs : L.size = ops.size) (hb : depM ops = true) (hr : Region.ready .any ops L = []) : ∀ i, i < ops.size → dn L i :=
  all_done hs (fun i o ho e he hbd => by
    have hi : i < ops.size := by
      rcases Nat.lt_or_ge i ops.size with h | h
      · exact h
      · rw [Array.getElem?_eq_none h] at ho; cases ho
    unfold depM at hb
    rw [List.all_eq_true] at hb
    have := hb i (List.mem_range.2 hi)
    rw [ho] at this
    simp only [Array.all_eq_true_iff_forall_mem] at this
    have h2 := this e he
    rw [hbd, Bool.not_true, Bool.false_or] at h2
    rwa [decide_eq_true_eq] at h2) hr
end

end Go.Proofs.Ytfjbdbfeolfcfaa

/-! Cp3 -/
set_option linter.unusedVariables false
namespace Go.Proofs.Ytfjbdbfeolfcfaa
open Go.RowKit

theorem conA_form (vs : List Int) (f b : Value) : ∃ c2 c3 : Int, conA vs f b = .agg #[f, b, .int .i64 c2, .int .i64 c3, .int .i64 2] ∧ ((vs.getD 0 0 = 0 ∧ c2 = 1 ∧ c3 = 0) ∨ (vs.getD 0 0 ≠ 0 ∧ c2 = 0 ∧ c3 = 1)) := by
  unfold conA
  by_cases h : vs.getD 0 0 = 0
  · rw [if_pos h]; exact ⟨1, 0, rfl, .inl ⟨h, rfl, rfl⟩⟩
  · rw [if_neg h]; exact ⟨0, 1, rfl, .inr ⟨h, rfl, rfl⟩⟩

theorem make3 (w : World) : (Instr.makeSlice 23 (.int .i64 3) (.int .i64 3)).run Try.prog w = .ok (.slice (some ⟨w.heap.size, 0, none⟩) 3 3) (w.alloc (.cells #[.int .i64 0, .int .i64 0, .int .i64 0] 3)) := by kernel_rfl
theorem three_blocks (w : World) (a0 a1 a2 a3 a4 : Value) (t : TypeId) (b0 b1 : Value) (u : TypeId) :
    ∃ W, W = (((w.alloc (.cells #[a0, a1, a2, a3, a4] t)).alloc (.cells #[b0, b1] u)).alloc (.cells #[.int .i64 0, .int .i64 0, .int .i64 0] 3)) ∧
    W.cell? ⟨w.heap.size, 2, none⟩ = some a2 ∧ W.cell? ⟨w.heap.size, 3, none⟩ = some a3 ∧ W.cell? ⟨w.heap.size, 4, none⟩ = some a4 ∧
    W.cell? ⟨w.heap.size + 1, 0, none⟩ = some b0 ∧ W.cell? ⟨w.heap.size + 1, 1, none⟩ = some b1 ∧
    Owns W w.heap.size (.slice (some ⟨w.heap.size + 2, 0, none⟩) 3 3) [0, 0, 0] ∧ Below w.heap.size w W := by
  refine ⟨_, rfl, ?_⟩
  have e0 : (((w.alloc (.cells #[a0, a1, a2, a3, a4] t)).alloc (.cells #[b0, b1] u)).alloc (.cells #[.int .i64 0, .int .i64 0, .int .i64 0] 3)).heap[w.heap.size]? = some (.cells #[a0, a1, a2, a3, a4] t) :=
    ((below_box2 ((w.alloc (.cells #[a0, a1, a2, a3, a4] t)).alloc (.cells #[b0, b1] u)) (.cells #[.int .i64 0, .int .i64 0, .int .i64 0] 3)).block w.heap.size (by simp; omega)).trans (heap_alloc2_old _ _ _)
  have e1 : (((w.alloc (.cells #[a0, a1, a2, a3, a4] t)).alloc (.cells #[b0, b1] u)).alloc (.cells #[.int .i64 0, .int .i64 0, .int .i64 0] 3)).heap[w.heap.size + 1]? = some (.cells #[b0, b1] u) :=
    ((below_box2 ((w.alloc (.cells #[a0, a1, a2, a3, a4] t)).alloc (.cells #[b0, b1] u)) (.cells #[.int .i64 0, .int .i64 0, .int .i64 0] 3)).block (w.heap.size + 1) (by simp)).trans (heap_alloc2_new _ _ _)
  have ho := owns_lit (W := (w.alloc (.cells #[a0, a1, a2, a3, a4] t)).alloc (.cells #[b0, b1] u)) (B := w.heap.size) [0, 0, 0] #[.int .i64 0, .int .i64 0, .int .i64 0] rfl (by simp; omega) (by unfold maxLen; simp)
  have hs : ((w.alloc (.cells #[a0, a1, a2, a3, a4] t)).alloc (.cells #[b0, b1] u)).heap.size = w.heap.size + 2 := by simp
  rw [hs] at ho
  exact ⟨cell_h e0, cell_h e0, cell_h e0, cell_h e1, cell_h e1, ho, ((below_box2 _ _).alloc (by simp) _).alloc (by simp; omega) _⟩
set_option maxRecDepth 100000 in
set_option maxHeartbeats 4000000 in
theorem direction_any (f b : Value) (vs : List Int) (s t : Int) (w : World) : Calls Try.prog 40 #[conA vs f b, .agg #[.int .i64 s, .int .i64 t]] w fun e w' => ∃ u, e = .returned u ∧ Owns w' w.heap.size u (headL vs s t) ∧ Below w.heap.size w w' := by
  obtain ⟨c2, c3, hC, hc⟩ := conA_form vs f b
  rw [hC]
  obtain ⟨W, hW, k2, k3, k4, n0, n1, ho, hb⟩ := three_blocks w f b (.int .i64 c2) (.int .i64 c3) (.int .i64 2) 50 (.int .i64 s) (.int .i64 t) 56
  have HO : Hid (Owns W.drew w.heap.size (.slice (some ⟨w.heap.size + 2, 0, none⟩) 3 3) [0, 0, 0]) := hid (ho.drewN 1)
  have HB := hid (below_dw hb)
  have mk := make3
  have z0 : W.cell? ⟨w.heap.size + 2, 0, none⟩ = some (.int .i64 0) := ho.elem (i := 0) (by simp)
  have z1 : W.cell? ⟨w.heap.size + 2, 1, none⟩ = some (.int .i64 0) := ho.elem (i := 1) (by simp)
  have z2 : W.cell? ⟨w.heap.size + 2, 2, none⟩ = some (.int .i64 0) := ho.elem (i := 2) (by simp)
  have g0 : W.frozen? ⟨w.heap.size + 2, 0, none⟩ = false := ho.thaw 0
  have g1 : W.frozen? ⟨w.heap.size + 2, 1, none⟩ = false := ho.thaw 1
  have g2 : W.frozen? ⟨w.heap.size + 2, 2, none⟩ = false := ho.thaw 2
  have HE : Hid (headL vs s t = if vs.getD 0 0 = 0 then [s, 0, t] else [0, s, t]) := hid rfl
  rcases hc with ⟨h0, rfl, rfl⟩ | ⟨h0, rfl, rfl⟩
  · have HL : Hid (headL vs s t = [s, 0, t]) := hid (by rw [HE.out, if_pos h0])
    have HF := hid (((HO.out.storeAt 0 s).1.storeAt 2 t).1)
    clear h0 hC ho hb HE
    go_enter Try.func40, Try.ntmps40
    go_wp2_with fail
    simp only [← hW]
    clear hW mk
    go_region
    all_goals (
      go_wp2_with fail
      go_ret
      exact ⟨_, rfl, by rw [HL.out]; exact HF.out, (HB.out.setCell (p := ⟨w.heap.size + 2, 0, none⟩) (by show w.heap.size ≤ w.heap.size + 2; omega) _).setCell (p := ⟨w.heap.size + 2, 2, none⟩) (by show w.heap.size ≤ w.heap.size + 2; omega) _⟩)
  · have HL : Hid (headL vs s t = [0, s, t]) := hid (by rw [HE.out, if_neg h0])
    have HF := hid (((HO.out.storeAt 1 s).1.storeAt 2 t).1)
    clear h0 hC ho hb HE
    go_enter Try.func40, Try.ntmps40
    go_wp2_with fail
    simp only [← hW]
    clear hW mk
    go_region
    all_goals (
      go_wp2_with fail
      go_ret
      exact ⟨_, rfl, by rw [HL.out]; exact HF.out, (HB.out.setCell (p := ⟨w.heap.size + 2, 1, none⟩) (by show w.heap.size ≤ w.heap.size + 2; omega) _).setCell (p := ⟨w.heap.size + 2, 2, none⟩) (by show w.heap.size ≤ w.heap.size + 2; omega) _⟩)

set_option maxRecDepth 100000 in
set_option maxHeartbeats 4000000 in
theorem plainHeading_any (s t x y : Int) (h1 : -100000000000 ≤ s ∧ s ≤ 100000000000) (h2 : -100000000000 ≤ t ∧ t ≤ 100000000000) (hs : ∃ v ∈ [s, t], v ≠ 0) (hxy : plainL [s, t] = [x, y]) (w : World) : Calls Try.prog 69 #[.int .i64 s, .int .i64 t] w fun e w' => e = .returned (.agg #[.int .i64 x, .int .i64 y]) ∧ Below w.heap.size w w' := by
  have hb := below_two2 w (.cells #[.int .i64 0, .int .i64 0] 56) (.cells #[.int .i64 s, .int .i64 t] 3)
  have ho := owns_lit (W := w.alloc (.cells #[.int .i64 0, .int .i64 0] 56)) (B := w.heap.size) [s, t] #[.int .i64 s, .int .i64 t] rfl (by simp) (by unfold maxLen; simp)
  have HP := hid (plainOfW_any _ [s, t] _ ho.rd (by simp) (fun v hv => by simp at hv; omega) hs)
  rw [hxy] at HP
  have HB := hid hb
  have HS : Hid ((w.alloc (.cells #[.int .i64 0, .int .i64 0] 56)).heap.size = w.heap.size + 1) := hid (by simp)
  simp only [World.size_alloc] at HP
  clear hb ho h1 h2 hs hxy HS
  go_enter Try.func69, Try.ntmps69
  go_wp2_with fail
  refine (HP.out).mono ?_
  rintro e w3 ⟨u, rfl, hou, hb3⟩
  obtain ⟨gu, cu, rfl, _, _⟩ := hou.block_of (by simp)
  have x0 : w3.cell? ⟨gu, 0, none⟩ = some (.int .i64 x) := hou.elem (i := 0) (by simp)
  have x1 : w3.cell? ⟨gu, 1, none⟩ = some (.int .i64 y) := hou.elem (i := 1) (by simp)
  have e2 := (hb3.block w.heap.size (by first | omega | (simp only [World.size_alloc]; omega))).trans (heap_alloc2_old _ _ _)
  have k0 : w3.cell? ⟨w.heap.size, 0, none⟩ = some (.int .i64 0) := cell_h e2
  have k1 : w3.cell? ⟨w.heap.size, 1, none⟩ = some (.int .i64 0) := cell_h e2
  have g0 : w3.frozen? ⟨w.heap.size, 0, none⟩ = false := frozen_h e2
  have g1 : w3.frozen? ⟨w.heap.size, 1, none⟩ = false := frozen_h e2
  have HB3 := hid (HB.out.trans (hb3.mono (by first | omega | (simp only [World.size_alloc]; omega))))
  clear hou hb3 e2
  go_wp2_with fail
  go_still_tail 7, (by kernel_rfl)
  change wpList _ _ _ _ _ w3.drew
  go_wp2_with fail
  refine bodyPost_ret (v := .agg #[.int .i64 x, .int .i64 y]) (by simp [results, Try.results69, go_sem]; go_simp) rfl ?_
  exact ⟨rfl, below_set2 (below_dw HB3.out) (Nat.le_refl _) _ _⟩

/-- a block of three cells of the call's own -/
structure Blk3 (W0 wx : World) (b : Nat) (c0 c1 c2 : Value) : Prop where
  lo : W0.heap.size ≤ b
  hi : b < wx.heap.size
  e0 : wx.cell? ⟨b, 0, none⟩ = some c0
  e1 : wx.cell? ⟨b, 1, none⟩ = some c1
  e2 : wx.cell? ⟨b, 2, none⟩ = some c2
  f0 : wx.frozen? ⟨b, 0, none⟩ = false
  f1 : wx.frozen? ⟨b, 1, none⟩ = false
  f2 : wx.frozen? ⟨b, 2, none⟩ = false
theorem Blk3.later {W0 wx w' : World} {b : Nat} {c0 c1 c2 : Value} (h : Blk3 W0 wx b c0 c1 c2) (hb : Below wx.heap.size wx w') : Blk3 W0 w' b c0 c1 c2 :=
  ⟨h.lo, Nat.lt_of_lt_of_le h.hi hb.size, cell_later hb h.e0, cell_later hb h.e1, cell_later hb h.e2, (hb.frozen (p := ⟨b, 0, none⟩) h.hi).trans h.f0, (hb.frozen (p := ⟨b, 1, none⟩) h.hi).trans h.f1, (hb.frozen (p := ⟨b, 2, none⟩) h.hi).trans h.f2⟩
theorem Blk3.new {W0 wx : World} (hb : W0.heap.size ≤ wx.heap.size) (c0 c1 c2 : Value) (t : TypeId) : Blk3 W0 (wx.alloc (.cells #[c0, c1, c2] t)) wx.heap.size c0 c1 c2 := by
  have e := heap_alloc_new wx (.cells #[c0, c1, c2] t)
  exact ⟨hb, by simp, cell_h e, cell_h e, cell_h e, frozen_h e, frozen_h e, frozen_h e⟩
theorem Blk3.set {W0 wx : World} {b : Nat} {c0 c1 c2 : Value} (h : Blk3 W0 wx b c0 c1 c2) (v0 v1 v2 : Value) : Blk3 W0 (((wx.setCell ⟨b, 0, none⟩ v0).setCell ⟨b, 1, none⟩ v1).setCell ⟨b, 2, none⟩ v2) b v0 v1 v2 := by
  obtain ⟨lo, hi, e0, e1, e2, f0, f1, f2⟩ := h
  refine ⟨lo, by simp; exact hi, ?_, ?_, ?_, ?_, ?_, ?_⟩
  all_goals go_simp
theorem Blk3.other {W0 wx : World} {b b' : Nat} {c0 c1 c2 : Value} (h : Blk3 W0 wx b c0 c1 c2) (hne : b ≠ b') (v0 v1 v2 : Value) : Blk3 W0 (((wx.setCell ⟨b', 0, none⟩ v0).setCell ⟨b', 1, none⟩ v1).setCell ⟨b', 2, none⟩ v2) b c0 c1 c2 := by
  obtain ⟨lo, hi, e0, e1, e2, f0, f1, f2⟩ := h
  refine ⟨lo, by simp; exact hi, ?_, ?_, ?_, ?_, ?_, ?_⟩
  all_goals go_simp
theorem below_set3 {B g : Nat} {a w : World} (h : Below B a w) (hg : B ≤ g) (v0 v1 v2 : Value) : Below B a (((w.setCell ⟨g, 0, none⟩ v0).setCell ⟨g, 1, none⟩ v1).setCell ⟨g, 2, none⟩ v2) :=
  ((h.setCell (p := ⟨g, 0, none⟩) hg _).setCell (p := ⟨g, 1, none⟩) hg _).setCell (p := ⟨g, 2, none⟩) hg _
/-- two calls beside each other, each answer in a variable of its own -/
structure TanI (x0 : Nat) (W : World) (C fv bv p0 p1 p2 q0 q1 q2 : Value) (L : Array Bool) (wx : World) (sv3 sv4 sv5 sv6 sv7 sv8 sv9 sv10 sv11 sv12 : Value) : Prop where
  hs : L.size = 12
  hb : Below W.heap.size W wx
  h0 : dn L 0 → sv5 = C
  h1 : dn L 1 → sv6 = .pointer (some ⟨x0, 0, none⟩)
  h2 : dn L 2 → sv7 = fv
  h3 : dn L 3 → sv8 = .agg #[p0, p1, p2]
  h4 : dn L 4 → sv9 = C
  h5 : dn L 5 → sv10 = .pointer (some ⟨x0, 1, none⟩)
  h6 : dn L 6 → sv11 = bv
  h7 : dn L 7 → sv12 = .agg #[q0, q1, q2]
  h8 : dn L 8 → ∃ b c0 c1 c2, sv3 = .pointer (some ⟨b, 0, none⟩) ∧ Blk3 W wx b c0 c1 c2 ∧ (dn L 10 → c0 = p0 ∧ c1 = p1 ∧ c2 = p2)
  h9 : dn L 9 → ∃ b c0 c1 c2, sv4 = .pointer (some ⟨b, 0, none⟩) ∧ Blk3 W wx b c0 c1 c2 ∧ (dn L 11 → c0 = q0 ∧ c1 = q1 ∧ c2 = q2)
  hne : dn L 8 → dn L 9 → sv3 ≠ sv4
  d10 : dn L 10 → dn L 8
  d11 : dn L 11 → dn L 9

theorem two_blk (w : World) (a0 a1 a2 a3 a4 : Value) (t : TypeId) (u : TypeId) :
    ∃ W, W = ((w.alloc (.cells #[a0, a1, a2, a3, a4] t)).alloc (.cells #[.int .i64 0, .int .i64 0] u)) ∧ W.heap.size = w.heap.size + 2 ∧
    W.heap[w.heap.size]? = some (.cells #[a0, a1, a2, a3, a4] t) ∧ W.heap[w.heap.size + 1]? = some (.cells #[.int .i64 0, .int .i64 0] u) ∧ Below w.heap.size w W :=
  ⟨_, rfl, by simp, heap_alloc2_old _ _ _, heap_alloc2_new _ _ _, below_two2 _ _ _⟩
set_option maxRecDepth 100000 in
set_option maxHeartbeats 4000000 in
theorem tangent_any (f b : Value) (xs vs : List Int) (w : World) (hf : Rd w f xs) (hb : Rd w b vs) (hx : xs.length = 3) (hv : vs.length = 3) (bx : ∀ x ∈ xs, -30 ≤ x ∧ x ≤ 30) (bv : ∀ x ∈ vs, -1000 ≤ x ∧ x ≤ 1000) (ht : ∃ v ∈ [atC xs * atC vs, -(atB vs xs * atB vs vs)], v ≠ 0) (x y : Int) (hxy : plainL [atC xs * atC vs, -(atB vs xs * atB vs vs)] = [x, y]) :
    Calls Try.prog 68 #[conA vs f b] w fun e w' => e = .returned (.agg #[.int .i64 x, .int .i64 y]) ∧ Below w.heap.size w w' := by
  obtain ⟨a, cap, rfl, _⟩ := hf.form
  obtain ⟨a', cap', rfl, _⟩ := hb.form
  rw [hx] at hf ⊢
  rw [hv] at hb ⊢
  obtain ⟨c2, c3, hC, _⟩ := conA_form vs (.slice a 3 cap) (.slice a' 3 cap')
  have h1 := bx _ (atB_mem (vs := vs) hx)
  have h2 := bx _ (atC_mem hx)
  have h3 := bv _ (atB_mem (vs := vs) hv)
  have h4 := bv _ (atC_mem hv)
  obtain ⟨W, hW, hWs, e0, e1, hBW⟩ := two_blk w (.slice a 3 cap) (.slice a' 3 cap') (.int .i64 c2) (.int .i64 c3) (.int .i64 2) 50 56
  have HPF : Hid (∀ wx : World, Below W.heap.size W wx → Calls Try.prog 55 #[.agg #[.slice a 3 cap, .slice a' 3 cap', .int .i64 c2, .int .i64 c3, .int .i64 2], .slice a 3 cap] wx fun e w' => e = .returned (ptA vs xs) ∧ Below W.heap.size W w' ∧ Below wx.heap.size wx w') := hid (fun wx h => by
    rw [← hC]
    refine (pointOf_any _ _ _ vs xs wx ((hf.keep hBW).keep h) hx).mono ?_
    rintro e w' ⟨rfl, hb⟩
    exact ⟨rfl, h.trans (hb.mono h.size), hb⟩)
  have HPB : Hid (∀ wx : World, Below W.heap.size W wx → Calls Try.prog 55 #[.agg #[.slice a 3 cap, .slice a' 3 cap', .int .i64 c2, .int .i64 c3, .int .i64 2], .slice a' 3 cap'] wx fun e w' => e = .returned (ptA vs vs) ∧ Below W.heap.size W w' ∧ Below wx.heap.size wx w') := hid (fun wx h => by
    rw [← hC]
    refine (pointOf_any _ _ _ vs vs wx ((hb.keep hBW).keep h) hv).mono ?_
    rintro e w' ⟨rfl, hb⟩
    exact ⟨rfl, h.trans (hb.mono h.size), hb⟩)
  have HCB : Hid (∀ wx : World, Below W.heap.size W wx → (wx.cell? ⟨w.heap.size, 0, none⟩ = some (.slice a 3 cap) ∧ wx.cell? ⟨w.heap.size, 1, none⟩ = some (.slice a' 3 cap') ∧ wx.cell? ⟨w.heap.size, 2, none⟩ = some (.int .i64 c2) ∧ wx.cell? ⟨w.heap.size, 3, none⟩ = some (.int .i64 c3) ∧ wx.cell? ⟨w.heap.size, 4, none⟩ = some (.int .i64 2)) ∧ wx.cell? ⟨w.heap.size + 1, 0, none⟩ = some (.int .i64 0) ∧ wx.cell? ⟨w.heap.size + 1, 1, none⟩ = some (.int .i64 0) ∧ wx.frozen? ⟨w.heap.size + 1, 0, none⟩ = false ∧ wx.frozen? ⟨w.heap.size + 1, 1, none⟩ = false) := hid (fun wx h => by
    have f0 := (h.block w.heap.size (by omega)).trans e0
    have f1 := (h.block (w.heap.size + 1) (by omega)).trans e1
    exact ⟨⟨cell_h f0, cell_h f0, cell_h f0, cell_h f0, cell_h f0⟩, cell_h f1, cell_h f1, frozen_h f1, frozen_h f1⟩)
  unfold ptA at HPF HPB
  obtain ⟨p0, hp0⟩ : ∃ x, x = atA vs xs := ⟨_, rfl⟩
  obtain ⟨p1, hp1⟩ : ∃ x, x = atB vs xs := ⟨_, rfl⟩
  obtain ⟨p2, hp2⟩ : ∃ x, x = atC xs := ⟨_, rfl⟩
  obtain ⟨q0, hq0⟩ : ∃ x, x = atA vs vs := ⟨_, rfl⟩
  obtain ⟨q1, hq1⟩ : ∃ x, x = atB vs vs := ⟨_, rfl⟩
  obtain ⟨q2, hq2⟩ : ∃ x, x = atC vs := ⟨_, rfl⟩
  simp only [← hp0, ← hp1, ← hp2, ← hq0, ← hq1, ← hq2] at HPF HPB h1 h2 h3 h4 ht hxy
  rw [hC]
  have m1 := prod_bd2 (x := p2) (y := q2) (m := 30) (n := 1000) (by omega) (by omega)
  have m2 := prod_bd2 (x := p1) (y := q1) (m := 30) (n := 1000) (by omega) (by omega)
  have HPH : Hid (∀ wx : World, Calls Try.prog 69 #[.int .i64 (p2 * q2), .int .i64 (-p1 * q1)] wx fun e w' => e = .returned (.agg #[.int .i64 x, .int .i64 y]) ∧ Below wx.heap.size wx w') := hid (fun wx => by rw [Int.neg_mul]; exact plainHeading_any _ _ x y (by omega) (by omega) ht hxy wx)
  have n1 : -1000000 ≤ -p1 * q1 := by rw [Int.neg_mul]; omega
  have n2 : -p1 * q1 ≤ 1000000 := by rw [Int.neg_mul]; omega
  have HBW := hid hBW
  have hr : Below W.heap.size W W.drew := below_dw (Below.refl _ _)
  clear hf hb hx hv bx bv ht hxy hC e0 e1 hBW hp0 hp1 hp2 hq0 hq1 hq2
  go_enter Try.func68, Try.ntmps68
  go_wp2_with fail
  simp only [← hW]
  clear hW
  refine region_inv (by kernel_rfl) (fun L act wx => ∃ sv3 sv4 sv5 sv6 sv7 sv8 sv9 sv10 sv11 sv12 : Value, act = ({ tmps := #[.agg #[.slice a 3 cap, .slice a' 3 cap', .int .i64 c2, .int .i64 c3, .int .i64 2], .pointer (some ⟨w.heap.size, 0, none⟩), .pointer (some ⟨w.heap.size + 1, 0, none⟩), sv3, sv4, sv5, sv6, sv7, sv8, sv9, sv10, sv11, sv12, undef, undef, undef, undef, undef, undef, undef, undef, undef, undef, undef, undef, undef, undef, undef, undef], defers := [] } : Act) ∧ TanI w.heap.size W (.agg #[.slice a 3 cap, .slice a' 3 cap', .int .i64 c2, .int .i64 c3, .int .i64 2]) (.slice a 3 cap) (.slice a' 3 cap') (.int .i64 p0) (.int .i64 p1) (.int .i64 p2) (.int .i64 q0) (.int .i64 q1) (.int .i64 q2) L wx sv3 sv4 sv5 sv6 sv7 sv8 sv9 sv10 sv11 sv12) ?h0 ?hend ?hstep
  case h0 => exact ⟨undef, undef, undef, undef, undef, undef, undef, undef, undef, undef, rfl, ⟨rfl, hr, fun h => (dn_new h).elim, fun h => (dn_new h).elim, fun h => (dn_new h).elim, fun h => (dn_new h).elim, fun h => (dn_new h).elim, fun h => (dn_new h).elim, fun h => (dn_new h).elim, fun h => (dn_new h).elim, fun h => (dn_new h).elim, fun h => (dn_new h).elim, fun h => (dn_new h).elim, fun h => (dn_new h).elim, fun h => (dn_new h).elim⟩⟩
  case hstep =>
    rintro L act wx i ⟨sv3, sv4, sv5, sv6, sv7, sv8, sv9, sv10, sv11, sv12, rfl, I⟩ hi
    obtain ⟨hi1, hf, hdep⟩ := ready_mem hi
    have hi2 : i < 12 := hi1
    have HI := hid I
    have HF := hid hf
    have hbw := I.hb
    have hsz := hbw.size
    obtain ⟨⟨d0, d1, d2, d3, d4⟩, _, _, _, _⟩ := HCB.out _ hbw
    clear hi hi1 I hf
    have hc : i = 0 ∨ i = 1 ∨ i = 2 ∨ i = 3 ∨ i = 4 ∨ i = 5 ∨ i = 6 ∨ i = 7 ∨ i = 8 ∨ i = 9 ∨ i = 10 ∨ i = 11 := by omega
    clear hi2
    rcases hc with rfl | rfl | rfl | rfl | rfl | rfl | rfl | rfl | rfl | rfl | rfl | rfl
    · skip
      clear hdep
      refine wpOp_step rfl (fun K hK => ?_)
      go_simp
      exact hK _ _ ⟨_, _, _, _, _, _, _, _, _, _, rfl, ⟨(by rw [Array.size_setIfInBounds]; exact HI.out.hs), HI.out.hb, fun _ => rfl, fun h => HI.out.h1 (dn_old h (by decide)), fun h => HI.out.h2 (dn_old h (by decide)), fun h => HI.out.h3 (dn_old h (by decide)), fun h => HI.out.h4 (dn_old h (by decide)), fun h => HI.out.h5 (dn_old h (by decide)), fun h => HI.out.h6 (dn_old h (by decide)), fun h => HI.out.h7 (dn_old h (by decide)), fun h => by
        obtain ⟨b, c0, c1, c2, h1, h2, h3⟩ := HI.out.h8 (dn_old h (by decide))
        exact ⟨b, c0, c1, c2, h1, h2, fun h => h3 (dn_old h (by decide))⟩, fun h => by
        obtain ⟨b, c0, c1, c2, h1, h2, h3⟩ := HI.out.h9 (dn_old h (by decide))
        exact ⟨b, c0, c1, c2, h1, h2, fun h => h3 (dn_old h (by decide))⟩, fun h h' => HI.out.hne (dn_old h (by decide)) (dn_old h' (by decide)), fun h => dn_keep (HI.out.d10 (dn_old h (by decide))), fun h => dn_keep (HI.out.d11 (dn_old h (by decide)))⟩⟩
    · skip
      clear hdep
      refine wpOp_step rfl (fun K hK => ?_)
      go_simp
      exact hK _ _ ⟨_, _, _, _, _, _, _, _, _, _, rfl, ⟨(by rw [Array.size_setIfInBounds]; exact HI.out.hs), HI.out.hb, fun h => HI.out.h0 (dn_old h (by decide)), fun _ => rfl, fun h => HI.out.h2 (dn_old h (by decide)), fun h => HI.out.h3 (dn_old h (by decide)), fun h => HI.out.h4 (dn_old h (by decide)), fun h => HI.out.h5 (dn_old h (by decide)), fun h => HI.out.h6 (dn_old h (by decide)), fun h => HI.out.h7 (dn_old h (by decide)), fun h => by
        obtain ⟨b, c0, c1, c2, h1, h2, h3⟩ := HI.out.h8 (dn_old h (by decide))
        exact ⟨b, c0, c1, c2, h1, h2, fun h => h3 (dn_old h (by decide))⟩, fun h => by
        obtain ⟨b, c0, c1, c2, h1, h2, h3⟩ := HI.out.h9 (dn_old h (by decide))
        exact ⟨b, c0, c1, c2, h1, h2, fun h => h3 (dn_old h (by decide))⟩, fun h h' => HI.out.hne (dn_old h (by decide)) (dn_old h' (by decide)), fun h => dn_keep (HI.out.d10 (dn_old h (by decide))), fun h => dn_keep (HI.out.d11 (dn_old h (by decide)))⟩⟩
    · skip
      have q1 : dn L 1 := hdep _ rfl { on := 1, ground := .data } (by simp) rfl
      clear hdep
      obtain rfl := HI.out.h1 q1
      refine wpOp_step rfl (fun K hK => ?_)
      go_simp
      exact hK _ _ ⟨_, _, _, _, _, _, _, _, _, _, rfl, ⟨(by rw [Array.size_setIfInBounds]; exact HI.out.hs), HI.out.hb, fun h => HI.out.h0 (dn_old h (by decide)), fun h => HI.out.h1 (dn_old h (by decide)), fun _ => rfl, fun h => HI.out.h3 (dn_old h (by decide)), fun h => HI.out.h4 (dn_old h (by decide)), fun h => HI.out.h5 (dn_old h (by decide)), fun h => HI.out.h6 (dn_old h (by decide)), fun h => HI.out.h7 (dn_old h (by decide)), fun h => by
        obtain ⟨b, c0, c1, c2, h1, h2, h3⟩ := HI.out.h8 (dn_old h (by decide))
        exact ⟨b, c0, c1, c2, h1, h2, fun h => h3 (dn_old h (by decide))⟩, fun h => by
        obtain ⟨b, c0, c1, c2, h1, h2, h3⟩ := HI.out.h9 (dn_old h (by decide))
        exact ⟨b, c0, c1, c2, h1, h2, fun h => h3 (dn_old h (by decide))⟩, fun h h' => HI.out.hne (dn_old h (by decide)) (dn_old h' (by decide)), fun h => dn_keep (HI.out.d10 (dn_old h (by decide))), fun h => dn_keep (HI.out.d11 (dn_old h (by decide)))⟩⟩
    · skip
      have q0 : dn L 0 := hdep _ rfl { on := 0, ground := .data } (by simp) rfl
      have q2 : dn L 2 := hdep _ rfl { on := 2, ground := .data } (by simp) rfl
      clear hdep
      obtain rfl := HI.out.h0 q0
      obtain rfl := HI.out.h2 q2
      refine wpOp_step rfl (fun K hK => ?_)
      go_simp
      go_at_call 55
      refine (HPF.out _ hbw).mono ?_
      rintro e wP ⟨rfl, hbp, hbk⟩
      exact hK _ _ ⟨_, _, _, _, _, _, _, _, _, _, rfl, ⟨(by rw [Array.size_setIfInBounds]; exact HI.out.hs), hbp, fun h => HI.out.h0 (dn_old h (by decide)), fun h => HI.out.h1 (dn_old h (by decide)), fun h => HI.out.h2 (dn_old h (by decide)), fun _ => rfl, fun h => HI.out.h4 (dn_old h (by decide)), fun h => HI.out.h5 (dn_old h (by decide)), fun h => HI.out.h6 (dn_old h (by decide)), fun h => HI.out.h7 (dn_old h (by decide)), fun h => by
        obtain ⟨b, c0, c1, c2, h1, h2, h3⟩ := HI.out.h8 (dn_old h (by decide))
        exact ⟨b, c0, c1, c2, h1, h2.later hbk, fun h => h3 (dn_old h (by decide))⟩, fun h => by
        obtain ⟨b, c0, c1, c2, h1, h2, h3⟩ := HI.out.h9 (dn_old h (by decide))
        exact ⟨b, c0, c1, c2, h1, h2.later hbk, fun h => h3 (dn_old h (by decide))⟩, fun h h' => HI.out.hne (dn_old h (by decide)) (dn_old h' (by decide)), fun h => dn_keep (HI.out.d10 (dn_old h (by decide))), fun h => dn_keep (HI.out.d11 (dn_old h (by decide)))⟩⟩
    · skip
      clear hdep
      refine wpOp_step rfl (fun K hK => ?_)
      go_simp
      exact hK _ _ ⟨_, _, _, _, _, _, _, _, _, _, rfl, ⟨(by rw [Array.size_setIfInBounds]; exact HI.out.hs), HI.out.hb, fun h => HI.out.h0 (dn_old h (by decide)), fun h => HI.out.h1 (dn_old h (by decide)), fun h => HI.out.h2 (dn_old h (by decide)), fun h => HI.out.h3 (dn_old h (by decide)), fun _ => rfl, fun h => HI.out.h5 (dn_old h (by decide)), fun h => HI.out.h6 (dn_old h (by decide)), fun h => HI.out.h7 (dn_old h (by decide)), fun h => by
        obtain ⟨b, c0, c1, c2, h1, h2, h3⟩ := HI.out.h8 (dn_old h (by decide))
        exact ⟨b, c0, c1, c2, h1, h2, fun h => h3 (dn_old h (by decide))⟩, fun h => by
        obtain ⟨b, c0, c1, c2, h1, h2, h3⟩ := HI.out.h9 (dn_old h (by decide))
        exact ⟨b, c0, c1, c2, h1, h2, fun h => h3 (dn_old h (by decide))⟩, fun h h' => HI.out.hne (dn_old h (by decide)) (dn_old h' (by decide)), fun h => dn_keep (HI.out.d10 (dn_old h (by decide))), fun h => dn_keep (HI.out.d11 (dn_old h (by decide)))⟩⟩
    · skip
      clear hdep
      refine wpOp_step rfl (fun K hK => ?_)
      go_simp
      exact hK _ _ ⟨_, _, _, _, _, _, _, _, _, _, rfl, ⟨(by rw [Array.size_setIfInBounds]; exact HI.out.hs), HI.out.hb, fun h => HI.out.h0 (dn_old h (by decide)), fun h => HI.out.h1 (dn_old h (by decide)), fun h => HI.out.h2 (dn_old h (by decide)), fun h => HI.out.h3 (dn_old h (by decide)), fun h => HI.out.h4 (dn_old h (by decide)), fun _ => rfl, fun h => HI.out.h6 (dn_old h (by decide)), fun h => HI.out.h7 (dn_old h (by decide)), fun h => by
        obtain ⟨b, c0, c1, c2, h1, h2, h3⟩ := HI.out.h8 (dn_old h (by decide))
        exact ⟨b, c0, c1, c2, h1, h2, fun h => h3 (dn_old h (by decide))⟩, fun h => by
        obtain ⟨b, c0, c1, c2, h1, h2, h3⟩ := HI.out.h9 (dn_old h (by decide))
        exact ⟨b, c0, c1, c2, h1, h2, fun h => h3 (dn_old h (by decide))⟩, fun h h' => HI.out.hne (dn_old h (by decide)) (dn_old h' (by decide)), fun h => dn_keep (HI.out.d10 (dn_old h (by decide))), fun h => dn_keep (HI.out.d11 (dn_old h (by decide)))⟩⟩
    · skip
      have q5 : dn L 5 := hdep _ rfl { on := 5, ground := .data } (by simp) rfl
      clear hdep
      obtain rfl := HI.out.h5 q5
      refine wpOp_step rfl (fun K hK => ?_)
      go_simp
      exact hK _ _ ⟨_, _, _, _, _, _, _, _, _, _, rfl, ⟨(by rw [Array.size_setIfInBounds]; exact HI.out.hs), HI.out.hb, fun h => HI.out.h0 (dn_old h (by decide)), fun h => HI.out.h1 (dn_old h (by decide)), fun h => HI.out.h2 (dn_old h (by decide)), fun h => HI.out.h3 (dn_old h (by decide)), fun h => HI.out.h4 (dn_old h (by decide)), fun h => HI.out.h5 (dn_old h (by decide)), fun _ => rfl, fun h => HI.out.h7 (dn_old h (by decide)), fun h => by
        obtain ⟨b, c0, c1, c2, h1, h2, h3⟩ := HI.out.h8 (dn_old h (by decide))
        exact ⟨b, c0, c1, c2, h1, h2, fun h => h3 (dn_old h (by decide))⟩, fun h => by
        obtain ⟨b, c0, c1, c2, h1, h2, h3⟩ := HI.out.h9 (dn_old h (by decide))
        exact ⟨b, c0, c1, c2, h1, h2, fun h => h3 (dn_old h (by decide))⟩, fun h h' => HI.out.hne (dn_old h (by decide)) (dn_old h' (by decide)), fun h => dn_keep (HI.out.d10 (dn_old h (by decide))), fun h => dn_keep (HI.out.d11 (dn_old h (by decide)))⟩⟩
    · skip
      have q4 : dn L 4 := hdep _ rfl { on := 4, ground := .data } (by simp) rfl
      have q6 : dn L 6 := hdep _ rfl { on := 6, ground := .data } (by simp) rfl
      clear hdep
      obtain rfl := HI.out.h4 q4
      obtain rfl := HI.out.h6 q6
      refine wpOp_step rfl (fun K hK => ?_)
      go_simp
      go_at_call 55
      refine (HPB.out _ hbw).mono ?_
      rintro e wP ⟨rfl, hbp, hbk⟩
      exact hK _ _ ⟨_, _, _, _, _, _, _, _, _, _, rfl, ⟨(by rw [Array.size_setIfInBounds]; exact HI.out.hs), hbp, fun h => HI.out.h0 (dn_old h (by decide)), fun h => HI.out.h1 (dn_old h (by decide)), fun h => HI.out.h2 (dn_old h (by decide)), fun h => HI.out.h3 (dn_old h (by decide)), fun h => HI.out.h4 (dn_old h (by decide)), fun h => HI.out.h5 (dn_old h (by decide)), fun h => HI.out.h6 (dn_old h (by decide)), fun _ => rfl, fun h => by
        obtain ⟨b, c0, c1, c2, h1, h2, h3⟩ := HI.out.h8 (dn_old h (by decide))
        exact ⟨b, c0, c1, c2, h1, h2.later hbk, fun h => h3 (dn_old h (by decide))⟩, fun h => by
        obtain ⟨b, c0, c1, c2, h1, h2, h3⟩ := HI.out.h9 (dn_old h (by decide))
        exact ⟨b, c0, c1, c2, h1, h2.later hbk, fun h => h3 (dn_old h (by decide))⟩, fun h h' => HI.out.hne (dn_old h (by decide)) (dn_old h' (by decide)), fun h => dn_keep (HI.out.d10 (dn_old h (by decide))), fun h => dn_keep (HI.out.d11 (dn_old h (by decide)))⟩⟩
    · skip
      clear hdep
      refine wpOp_step rfl (fun K hK => ?_)
      go_simp
      exact hK _ _ ⟨_, _, _, _, _, _, _, _, _, _, rfl, ⟨(by rw [Array.size_setIfInBounds]; exact HI.out.hs), hbw.alloc hsz _, fun h => HI.out.h0 (dn_old h (by decide)), fun h => HI.out.h1 (dn_old h (by decide)), fun h => HI.out.h2 (dn_old h (by decide)), fun h => HI.out.h3 (dn_old h (by decide)), fun h => HI.out.h4 (dn_old h (by decide)), fun h => HI.out.h5 (dn_old h (by decide)), fun h => HI.out.h6 (dn_old h (by decide)), fun h => HI.out.h7 (dn_old h (by decide)), fun _ => ⟨wx.heap.size, _, _, _, rfl, Blk3.new hsz _ _ _ _, fun h => (dn_not HF.out (HI.out.d10 (dn_old h (by decide)))).elim⟩, fun h => by
        obtain ⟨b, c0, c1, c2, h1, h2, h3⟩ := HI.out.h9 (dn_old h (by decide))
        exact ⟨b, c0, c1, c2, h1, h2.later (below_box2 _ _), fun h => h3 (dn_old h (by decide))⟩, fun _ h => by
        obtain ⟨b, _, _, _, h1, h2, _⟩ := HI.out.h9 (dn_old h (by decide))
        rw [h1]
        intro e
        cases e
        exact Nat.lt_irrefl _ h2.hi, fun h => dn_keep (HI.out.d10 (dn_old h (by decide))), fun h => dn_keep (HI.out.d11 (dn_old h (by decide)))⟩⟩
    · skip
      clear hdep
      refine wpOp_step rfl (fun K hK => ?_)
      go_simp
      exact hK _ _ ⟨_, _, _, _, _, _, _, _, _, _, rfl, ⟨(by rw [Array.size_setIfInBounds]; exact HI.out.hs), hbw.alloc hsz _, fun h => HI.out.h0 (dn_old h (by decide)), fun h => HI.out.h1 (dn_old h (by decide)), fun h => HI.out.h2 (dn_old h (by decide)), fun h => HI.out.h3 (dn_old h (by decide)), fun h => HI.out.h4 (dn_old h (by decide)), fun h => HI.out.h5 (dn_old h (by decide)), fun h => HI.out.h6 (dn_old h (by decide)), fun h => HI.out.h7 (dn_old h (by decide)), fun h => by
        obtain ⟨b, c0, c1, c2, h1, h2, h3⟩ := HI.out.h8 (dn_old h (by decide))
        exact ⟨b, c0, c1, c2, h1, h2.later (below_box2 _ _), fun h => h3 (dn_old h (by decide))⟩, fun _ => ⟨wx.heap.size, _, _, _, rfl, Blk3.new hsz _ _ _ _, fun h => (dn_not HF.out (HI.out.d11 (dn_old h (by decide)))).elim⟩, fun h _ => by
        obtain ⟨b, _, _, _, h1, h2, _⟩ := HI.out.h8 (dn_old h (by decide))
        rw [h1]
        intro e
        cases e
        exact Nat.lt_irrefl _ h2.hi, fun h => dn_keep (HI.out.d10 (dn_old h (by decide))), fun h => dn_keep (HI.out.d11 (dn_old h (by decide)))⟩⟩
    · skip
      have q8 : dn L 8 := hdep _ rfl { on := 8, ground := .data } (by simp) rfl
      have q3 : dn L 3 := hdep _ rfl { on := 3, ground := .data } (by simp) rfl
      clear hdep
      obtain ⟨b, e0, e1, e2, rfl, B, _⟩ := HI.out.h8 q8
      obtain rfl := HI.out.h3 q3
      have HBK := hid B
      obtain ⟨lo, hi, k0, k1, k2, g0, g1, g2⟩ := B
      refine wpOp_step rfl (fun K hK => ?_)
      go_simp
      exact hK _ _ ⟨_, _, _, _, _, _, _, _, _, _, rfl, ⟨(by rw [Array.size_setIfInBounds]; exact HI.out.hs), below_set3 hbw HBK.out.lo _ _ _, fun h => HI.out.h0 (dn_old h (by decide)), fun h => HI.out.h1 (dn_old h (by decide)), fun h => HI.out.h2 (dn_old h (by decide)), fun h => HI.out.h3 (dn_old h (by decide)), fun h => HI.out.h4 (dn_old h (by decide)), fun h => HI.out.h5 (dn_old h (by decide)), fun h => HI.out.h6 (dn_old h (by decide)), fun h => HI.out.h7 (dn_old h (by decide)), fun _ => ⟨b, _, _, _, rfl, HBK.out.set _ _ _, fun _ => ⟨rfl, rfl, rfl⟩⟩, fun h => by
        obtain ⟨b2, c0, c1, c2, h1, h2, h3⟩ := HI.out.h9 (dn_old h (by decide))
        refine ⟨b2, c0, c1, c2, h1, h2.other (fun e => ?_) _ _ _, fun h => h3 (dn_old h (by decide))⟩
        subst e
        exact HI.out.hne q8 (dn_old h (by decide)) h1.symm, fun h h' => HI.out.hne (dn_old h (by decide)) (dn_old h' (by decide)), fun _ => dn_keep q8, fun h => dn_keep (HI.out.d11 (dn_old h (by decide)))⟩⟩
    · skip
      have q9 : dn L 9 := hdep _ rfl { on := 9, ground := .data } (by simp) rfl
      have q7 : dn L 7 := hdep _ rfl { on := 7, ground := .data } (by simp) rfl
      clear hdep
      obtain ⟨b, e0, e1, e2, rfl, B, _⟩ := HI.out.h9 q9
      obtain rfl := HI.out.h7 q7
      have HBK := hid B
      obtain ⟨lo, hi, k0, k1, k2, g0, g1, g2⟩ := B
      refine wpOp_step rfl (fun K hK => ?_)
      go_simp
      exact hK _ _ ⟨_, _, _, _, _, _, _, _, _, _, rfl, ⟨(by rw [Array.size_setIfInBounds]; exact HI.out.hs), below_set3 hbw HBK.out.lo _ _ _, fun h => HI.out.h0 (dn_old h (by decide)), fun h => HI.out.h1 (dn_old h (by decide)), fun h => HI.out.h2 (dn_old h (by decide)), fun h => HI.out.h3 (dn_old h (by decide)), fun h => HI.out.h4 (dn_old h (by decide)), fun h => HI.out.h5 (dn_old h (by decide)), fun h => HI.out.h6 (dn_old h (by decide)), fun h => HI.out.h7 (dn_old h (by decide)), fun h => by
        obtain ⟨b2, c0, c1, c2, h1, h2, h3⟩ := HI.out.h8 (dn_old h (by decide))
        refine ⟨b2, c0, c1, c2, h1, h2.other (fun e => ?_) _ _ _, fun h => h3 (dn_old h (by decide))⟩
        subst e
        exact HI.out.hne (dn_old h (by decide)) q9 h1, fun _ => ⟨b, _, _, _, rfl, HBK.out.set _ _ _, fun _ => ⟨rfl, rfl, rfl⟩⟩, fun h h' => HI.out.hne (dn_old h (by decide)) (dn_old h' (by decide)), fun h => dn_keep (HI.out.d10 (dn_old h (by decide))), fun _ => dn_keep q9⟩⟩
  case hend =>
    rintro L act wx ⟨sv3, sv4, sv5, sv6, sv7, sv8, sv9, sv10, sv11, sv12, rfl, I⟩ hrd
    have D := all_done2 I.hs (by kernel_rfl) hrd
    obtain ⟨b3, _, _, _, rfl, B3, h3⟩ := I.h8 (D 8 (by decide))
    obtain ⟨rfl, rfl, rfl⟩ := h3 (D 10 (by decide))
    obtain ⟨b4, _, _, _, rfl, B4, h4⟩ := I.h9 (D 9 (by decide))
    obtain ⟨rfl, rfl, rfl⟩ := h4 (D 11 (by decide))
    obtain ⟨_, n0, n1, g0, g1⟩ := HCB.out _ I.hb
    have HBX := hid (HBW.out.trans (I.hb.mono HBW.out.size))
    have x0 := B3.e0
    have x1 := B3.e1
    have x2 := B3.e2
    have y0 := B4.e0
    have y1 := B4.e1
    have y2 := B4.e2
    have HL := hid I.hb
    clear I D hrd h3 h4 B3 B4
    go_wp2_with fail
    refine (HPH.out _).mono ?_
    rintro e w9 ⟨rfl, hb9⟩
    have m0 := cell_later hb9 n0
    have m1 := cell_later hb9 n1
    have hlt : w.heap.size + 1 < wx.heap.size := by have := HL.out.size; omega
    have u0 := (hb9.frozen (p := ⟨w.heap.size + 1, 0, none⟩) hlt).trans g0
    have u1 := (hb9.frozen (p := ⟨w.heap.size + 1, 1, none⟩) hlt).trans g1
    have HB9 := hid (HBX.out.trans (hb9.mono HBX.out.size))
    clear hb9
    go_wp2_with fail
    refine bodyPost_ret (v := .agg #[.int .i64 x, .int .i64 y]) (by simp [results, Try.results68, go_sem]; go_simp) rfl ?_
    exact ⟨rfl, below_set2 HB9.out (Nat.le_succ _) _ _⟩

end Go.Proofs.Ytfjbdbfeolfcfaa
