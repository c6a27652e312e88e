/-
  Contracts of the program's chapter 6: a form with a point of it, seen along the axis.
-/
import Derived.Test.YtenibnblibnocaaCon
import Derived.Test.YtenibnblibnocaaWrapW
import Derived.Test.YtenibnblibnocaaBun57
import Derived.Laws.ResultCell
import Derived.Laws.StructEq
import Derived.Deep.RegionHeld3
import Derived.StillTailTactics
set_option linter.unusedVariables false
namespace Go.Proofs.Ytenibnblibnocaa
open Go.RowKit

/-- a form with a point: the axis is the first place, or the second -/
def con0 (f v : Value) : Value := .agg #[f, v, .int .i64 0, .int .i64 1, .int .i64 2]
def con1 (f v : Value) : Value := .agg #[f, v, .int .i64 1, .int .i64 0, .int .i64 2]
def conN : Value := .agg #[.slice none 0 0, .slice none 0 0, .int .i64 0, .int .i64 0, .int .i64 0]
def conA (vs : List Int) (f v : Value) : Value := if vs.getD 0 0 = 0 then con1 f v else con0 f v
/-- a vector seen along the axis -/
def ptA (vs ws : List Int) : Value := .agg #[.int .i64 (atA vs ws), .int .i64 (atB vs ws), .int .i64 (atC ws)]
theorem below_sets {w w' : World} {k : Nat} (h : Below w.heap.size w w') {p : Addr} (hp : w.heap.size ≤ p.block) (v : Value) : Below w.heap.size w (w'.setCell p v) := h.setCell hp v
theorem rd3 {W : World} {a : Option Addr} {n cap : Nat} {xs : List Int} (h : Rd W (.slice a n cap) xs) (hl : xs.length = 3) : ∃ b o, a = some ⟨b, o, none⟩ ∧ n = 3 ∧ 3 ≤ cap ∧ W.cell? ⟨b, o, none⟩ = some (.int .i64 (xs.getD 0 0)) ∧ W.cell? ⟨b, o + 1, none⟩ = some (.int .i64 (xs.getD 1 0)) ∧ W.cell? ⟨b, o + 2, none⟩ = some (.int .i64 (xs.getD 2 0)) := by
  rcases h with ⟨_, _, e, rfl⟩ | ⟨b, o, c, e, ⟨_, hcap⟩, hml, hc⟩
  · cases hl
  · cases e
    exact ⟨b, o, rfl, hl, by omega, hc 0 (by omega), hc 1 (by omega), hc 2 (by omega)⟩

theorem cell_h {W : World} {n i : Nat} {cs : Array Value} {t : TypeId} {m : Nat × Nat} (e : W.heap[n]? = some (.cells cs t m)) : W.cell? ⟨n, i, none⟩ = cs[i]? := by simp [World.cell?, e]
theorem frozen_h {W : World} {n i : Nat} {cs : Array Value} {t : TypeId} (e : W.heap[n]? = some (.cells cs t (0, 0))) : W.frozen? ⟨n, i, none⟩ = false := by simp [World.frozen?, e]
theorem two_blocks (w : World) (a0 a1 a2 a3 a4 : Value) (t : TypeId) (b0 b1 b2 : Value) (u : TypeId) :
    ((w.alloc (.cells #[a0, a1, a2, a3, a4] t)).alloc (.cells #[b0, b1, b2] u)).cell? ⟨w.heap.size, 2, none⟩ = some a2 ∧ ((w.alloc (.cells #[a0, a1, a2, a3, a4] t)).alloc (.cells #[b0, b1, b2] u)).cell? ⟨w.heap.size, 3, none⟩ = some a3 ∧ ((w.alloc (.cells #[a0, a1, a2, a3, a4] t)).alloc (.cells #[b0, b1, b2] u)).cell? ⟨w.heap.size, 4, none⟩ = some a4 ∧
    ((w.alloc (.cells #[a0, a1, a2, a3, a4] t)).alloc (.cells #[b0, b1, b2] u)).cell? ⟨w.heap.size + 1, 0, none⟩ = some b0 ∧ ((w.alloc (.cells #[a0, a1, a2, a3, a4] t)).alloc (.cells #[b0, b1, b2] u)).cell? ⟨w.heap.size + 1, 1, none⟩ = some b1 ∧ ((w.alloc (.cells #[a0, a1, a2, a3, a4] t)).alloc (.cells #[b0, b1, b2] u)).cell? ⟨w.heap.size + 1, 2, none⟩ = some b2 ∧
    ((w.alloc (.cells #[a0, a1, a2, a3, a4] t)).alloc (.cells #[b0, b1, b2] u)).frozen? ⟨w.heap.size + 1, 0, none⟩ = false ∧ ((w.alloc (.cells #[a0, a1, a2, a3, a4] t)).alloc (.cells #[b0, b1, b2] u)).frozen? ⟨w.heap.size + 1, 1, none⟩ = false ∧ ((w.alloc (.cells #[a0, a1, a2, a3, a4] t)).alloc (.cells #[b0, b1, b2] u)).frozen? ⟨w.heap.size + 1, 2, none⟩ = false ∧
    Below w.heap.size w ((w.alloc (.cells #[a0, a1, a2, a3, a4] t)).alloc (.cells #[b0, b1, b2] u)) := by
  have e0 := heap_alloc2_old w (.cells #[a0, a1, a2, a3, a4] t) (.cells #[b0, b1, b2] u)
  have e1 := heap_alloc2_new w (.cells #[a0, a1, a2, a3, a4] t) (.cells #[b0, b1, b2] u)
  exact ⟨cell_h e0, cell_h e0, cell_h e0, cell_h e1, cell_h e1, cell_h e1, frozen_h e1, frozen_h e1, frozen_h e1, (below_box2 _ _).alloc (by simp) _⟩

set_option maxRecDepth 100000 in
set_option maxHeartbeats 4000000 in
theorem pointOf_any (f b v : Value) (vs ws : List Int) (w : World) (hw : Rd w v ws) (hl : ws.length = 3) : Calls Try.prog 59 #[conA vs f b, v] w fun e w' => e = .returned (ptA vs ws) ∧ Below w.heap.size w w' := by
  obtain ⟨a, cap, rfl, _⟩ := hw.form
  obtain ⟨bb, o, rfl, _, _, c0, c1, c2⟩ := rd3 hw hl
  rw [hl]
  clear hw hl
  by_cases h0 : vs.getD 0 0 = 0
  · have e1 : conA vs f b = .agg #[f, b, .int .i64 1, .int .i64 0, .int .i64 2] := by unfold conA; rw [if_pos h0]; rfl
    have HE : Hid (ptA vs ws = .agg #[.int .i64 (ws.getD 1 0), .int .i64 (ws.getD 0 0), .int .i64 (ws.getD 2 0)]) := hid (by unfold ptA atA atB atC; rw [if_pos h0, if_pos h0])
    obtain ⟨x, hx⟩ : ∃ x, x = ws.getD 0 0 := ⟨_, rfl⟩
    obtain ⟨y, hy⟩ : ∃ x, x = ws.getD 1 0 := ⟨_, rfl⟩
    obtain ⟨z, hz⟩ : ∃ x, x = ws.getD 2 0 := ⟨_, rfl⟩
    rw [← hx] at c0 HE
    rw [← hy] at c1 HE
    rw [← hz] at c2 HE
    rw [e1, HE.out]
    clear e1 h0 hx hy hz HE
    obtain ⟨k2, k3, k4, n0, n1, n2, g0, g1, g2, hbw⟩ := two_blocks w f b (.int .i64 1) (.int .i64 0) (.int .i64 2) 49 (.int .i64 0) (.int .i64 0) (.int .i64 0) 68
    have c0 := cell_later hbw c0
    have c1 := cell_later hbw c1
    have c2 := cell_later hbw c2
    go_enter Try.func59, Try.ntmps59
    go_wp2_with fail
    generalize ((w.alloc (.cells #[f, b, .int .i64 1, .int .i64 0, .int .i64 2] 49)).alloc (.cells #[.int .i64 0, .int .i64 0, .int .i64 0] 68)) = W at k2 k3 k4 n0 n1 n2 g0 g1 g2 hbw c0 c1 c2 ⊢
    go_still_tail 20, (by kernel_rfl)
    change wpList _ _ _ _ _ W.drew
    go_wp2_with fail
    refine bodyPost_ret (v := .agg #[.int .i64 y, .int .i64 x, .int .i64 z]) (by simp [results, Try.results59, go_sem]; go_simp) rfl ?_
    refine ⟨rfl, ?_⟩
    exact (((below_dw hbw).setCell (Nat.le_succ _) _).setCell (Nat.le_succ _) _).setCell (Nat.le_succ _) _
  · have e1 : conA vs f b = .agg #[f, b, .int .i64 0, .int .i64 1, .int .i64 2] := by unfold conA; rw [if_neg h0]; rfl
    have HE : Hid (ptA vs ws = .agg #[.int .i64 (ws.getD 0 0), .int .i64 (ws.getD 1 0), .int .i64 (ws.getD 2 0)]) := hid (by unfold ptA atA atB atC; rw [if_neg h0, if_neg h0])
    obtain ⟨x, hx⟩ : ∃ x, x = ws.getD 0 0 := ⟨_, rfl⟩
    obtain ⟨y, hy⟩ : ∃ x, x = ws.getD 1 0 := ⟨_, rfl⟩
    obtain ⟨z, hz⟩ : ∃ x, x = ws.getD 2 0 := ⟨_, rfl⟩
    rw [← hx] at c0 HE
    rw [← hy] at c1 HE
    rw [← hz] at c2 HE
    rw [e1, HE.out]
    clear e1 h0 hx hy hz HE
    obtain ⟨k2, k3, k4, n0, n1, n2, g0, g1, g2, hbw⟩ := two_blocks w f b (.int .i64 0) (.int .i64 1) (.int .i64 2) 49 (.int .i64 0) (.int .i64 0) (.int .i64 0) 68
    have c0 := cell_later hbw c0
    have c1 := cell_later hbw c1
    have c2 := cell_later hbw c2
    go_enter Try.func59, Try.ntmps59
    go_wp2_with fail
    generalize ((w.alloc (.cells #[f, b, .int .i64 0, .int .i64 1, .int .i64 2] 49)).alloc (.cells #[.int .i64 0, .int .i64 0, .int .i64 0] 68)) = W at k2 k3 k4 n0 n1 n2 g0 g1 g2 hbw c0 c1 c2 ⊢
    go_still_tail 20, (by kernel_rfl)
    change wpList _ _ _ _ _ W.drew
    go_wp2_with fail
    refine bodyPost_ret (v := .agg #[.int .i64 x, .int .i64 y, .int .i64 z]) (by simp [results, Try.results59, go_sem]; go_simp) rfl ?_
    refine ⟨rfl, ?_⟩
    exact (((below_dw hbw).setCell (Nat.le_succ _) _).setCell (Nat.le_succ _) _).setCell (Nat.le_succ _) _

theorem mult_pt {vs ws : List Int} (hl : vs.length = 3) (hw : ws.length = 3) (hs : ∃ x ∈ vs, x ≠ 0) (hp : plainL vs = vs) : multB vs ws = true ↔ someB ws = false ∨ plainL ws = vs := by
  obtain ⟨x, y, z, rfl⟩ := len3 hl
  obtain ⟨u, v, t, rfl⟩ := len3 hw
  have hn : ¬ (x = 0 ∧ y = 0 ∧ z = 0) := by
    rintro ⟨rfl, rfl, rfl⟩
    obtain ⟨k, hk, h0⟩ := hs
    simp at hk
    exact h0 hk
  rw [mult_plain hn hp]
  have e : someB [u, v, t] = false ↔ (u = 0 ∧ v = 0 ∧ t = 0) := by
    unfold someB
    simp
  rw [e]
theorem cells5 {w wx : World} {a0 a1 a2 a3 a4 : Value} {t : TypeId} (hb : Below (w.alloc (.cells #[a0, a1, a2, a3, a4] t)).heap.size (w.alloc (.cells #[a0, a1, a2, a3, a4] t)) wx) : wx.cell? ⟨w.heap.size, 0, none⟩ = some a0 ∧ wx.cell? ⟨w.heap.size, 1, none⟩ = some a1 ∧ wx.cell? ⟨w.heap.size, 2, none⟩ = some a2 ∧ wx.cell? ⟨w.heap.size, 3, none⟩ = some a3 ∧ wx.cell? ⟨w.heap.size, 4, none⟩ = some a4 := by
  have e0 := (hb.block w.heap.size (by simp)).trans (heap_alloc_new _ _)
  exact ⟨cell_h e0, cell_h e0, cell_h e0, cell_h e0, cell_h e0⟩
theorem pt_ne {vs J : List Int} (hl : vs.length = 3) (hj : J.length = 3) (h : vs ≠ J) : atA vs J ≠ atA vs vs ∨ (atA vs J = atA vs vs ∧ atB vs J ≠ atB vs vs) ∨ (atA vs J = atA vs vs ∧ atB vs J = atB vs vs ∧ atC J ≠ atC vs) := by
  by_cases h0 : atA vs J = atA vs vs
  · by_cases h1 : atB vs J = atB vs vs
    · refine .inr (.inr ⟨h0, h1, fun h2 => h ?_⟩)
      obtain ⟨x, y, z, rfl⟩ := len3 hl
      obtain ⟨u, v, t, rfl⟩ := len3 hj
      unfold atA at h0
      unfold atB at h1
      unfold atC at h2
      simp only [List.getD_cons_zero, List.getD_cons_succ] at h0 h1 h2
      by_cases hx : x = 0
      · rw [if_pos hx, if_pos hx] at h0 h1
        rw [h0, h1, h2]
      · rw [if_neg hx, if_neg hx] at h0 h1
        rw [h0, h1, h2]
    · exact .inr (.inl ⟨h0, h1⟩)
  · exact .inl h0
/-- a call that keeps what was there -/
def Kept (W0 wx : World) (r : Value) (e : Ending) (w' : World) : Prop := e = .returned r ∧ Below W0.heap.size W0 w' ∧ ∀ uu us, Rd wx uu us → Rd w' uu us
set_option maxRecDepth 100000 in
set_option maxHeartbeats 4000000 in
theorem multiple_any (f b v : Value) (vs ws : List Int) (w : World) (hb : Rd w b vs) (hw : Rd w v ws) (hl : vs.length = 3) (hl2 : ws.length = 3) (h11 : Vec11 ws) (hs : ∃ x ∈ vs, x ≠ 0) (hp : plainL vs = vs) : Calls Try.prog 74 #[conA vs f b, v] w fun e w' => e = .returned (.bool (multB vs ws)) ∧ Below w.heap.size w w' := by
  have HM := hid (mult_pt hl hl2 hs hp)
  have H11 := hid h11
  obtain ⟨a, cap, rfl, _⟩ := hw.form
  obtain ⟨a', cap', rfl, _⟩ := hb.form
  have hl4 : ws.length ≤ 4 := by omega
  have HL := hid hl
  have HL2 := hid hl2
  rw [hl] at hb ⊢
  rw [hl2] at hw ⊢
  have HB := hid hb
  have HW := hid hw
  obtain ⟨c2, c3, hC⟩ : ∃ c2 c3 : Int, conA vs f (.slice a' 3 cap') = .agg #[f, .slice a' 3 cap', .int .i64 c2, .int .i64 c3, .int .i64 2] := by
    unfold conA
    split
    · exact ⟨1, 0, rfl⟩
    · exact ⟨0, 1, rfl⟩
  have HPT : Hid (∀ (vv : Value) (us : List Int) (wx : World), Rd wx vv us → us.length = 3 → Calls Try.prog 59 #[.agg #[f, .slice a' 3 cap', .int .i64 c2, .int .i64 c3, .int .i64 2], vv] wx fun e w' => e = .returned (ptA vs us) ∧ Below wx.heap.size wx w') := hid (fun vv us wx h1 h2 => by rw [← hC]; exact pointOf_any f _ vv vs us wx h1 h2)
  rw [hC]
  have hB0 := below_box2 w (.cells #[f, .slice a' 3 cap', .int .i64 c2, .int .i64 c3, .int .i64 2] 49)
  have HB0 := hid hB0
  clear hb hw hC h11 hs hp hl hl2
  cases hsm : someB ws with
  | false =>
    have HR : Hid (multB vs ws = true) := hid (HM.out.2 (.inl hsm))
    have hg0 : ¬ (0 < hgtL ws) := fun h => by rw [hgt_some, hsm] at h; cases h
    have hg : hgtL ws = 0 := by omega
    have HG := hid hg
    generalize hW0 : w.alloc (.cells #[f, .slice a' 3 cap', .int .i64 c2, .int .i64 c3, .int .i64 2] 49) = W0 at hB0
    have HQ : Hid (∀ (n : Nat), Calls Try.prog 77 #[.slice a 3 cap] (W0.drewN n) fun e w'' => e = .returned (.int .i64 0) ∧ ∃ m, w'' = W0.drewN m) := hid (fun n => Calls.quiet_of_same (by
      refine (heightOfW_any _ ws _ ((HW.out.keep hB0).drewN n) hl4 H11.out).mono ?_
      rw [HG.out]
      exact fun _ _ h => ⟨h.1, h.2.symm⟩))
    have HBW := hid hB0
    clear hg hg0 hsm hB0
    go_enter Try.func74, Try.ntmps74
    go_wp2_with fail
    go_quiet ((go_at_call 77; exact HQ.out _))
    go_wp2_with fail
    go_ret
    exact ⟨retB HR.out.symm, below_drewN HBW.out _⟩
  | true =>
    have HS := hid (someB_iff.1 hsm)
    have hg0 : 0 < hgtL ws := hgt_some.2 hsm
    have hgb : hgtL ws ≤ 100000000000 := hgt_le fun x hx => by have := H11.out x hx; omega
    obtain ⟨g, hg⟩ : ∃ g, g = hgtL ws := ⟨_, rfl⟩
    have HG : Hid (∀ wx : World, Rd wx (.slice a 3 cap) ws → Calls Try.prog 77 #[.slice a 3 cap] wx fun e w' => e = .returned (.int .i64 (g : Nat)) ∧ wx = w') := hid (fun wx h => by rw [hg]; exact heightOfW_any _ ws wx h hl4 H11.out)
    rw [← hg] at hg0 hgb
    have TG : ((g : Int) == 0) = false := beq_eq_false_iff_ne.2 (by omega)
    have hj3 : (plainL ws).length = 3 := by rw [plainL_len]; exact HL2.out
    have HMB : Hid (multB vs ws = decide (plainL ws = vs)) := hid (by
      rw [Bool.eq_iff_iff, decide_eq_true_eq, HM.out, hsm]
      simp)
    obtain ⟨J, hJ⟩ : ∃ J, J = plainL ws := ⟨_, rfl⟩
    rw [← hJ] at hj3 HMB
    generalize hW0 : w.alloc (.cells #[f, .slice a' 3 cap', .int .i64 c2, .int .i64 c3, .int .i64 2] 49) = W0 at hB0
    have HC5 : Hid (∀ wx : World, Below W0.heap.size W0 wx → wx.cell? ⟨w.heap.size, 0, none⟩ = some f ∧ wx.cell? ⟨w.heap.size, 1, none⟩ = some (.slice a' 3 cap') ∧ wx.cell? ⟨w.heap.size, 2, none⟩ = some (.int .i64 c2) ∧ wx.cell? ⟨w.heap.size, 3, none⟩ = some (.int .i64 c3) ∧ wx.cell? ⟨w.heap.size, 4, none⟩ = some (.int .i64 2)) := hid (fun wx h => by subst hW0; exact cells5 h)
    have HPL : Hid (∀ wx : World, Below W0.heap.size W0 wx → Calls Try.prog 76 #[.slice a 3 cap] wx fun e w' => ∃ u, e = .returned u ∧ Rd w' u J ∧ Below W0.heap.size W0 w') := hid (fun wx h => by
      refine (plainOfW_any _ ws wx ((HW.out.keep hB0).keep h) hl4 H11.out HS.out).mono ?_
      rw [hJ]
      rintro e w' ⟨u, rfl, ho, hb⟩
      exact ⟨u, rfl, ho.rd, h.trans (hb.mono h.size)⟩)
    have HPU : Hid (∀ (vv : Value) (wx : World), Below W0.heap.size W0 wx → Rd wx vv J → Calls Try.prog 59 #[.agg #[f, .slice a' 3 cap', .int .i64 c2, .int .i64 c3, .int .i64 2], vv] wx (Kept W0 wx (ptA vs J))) := hid (fun vv wx h hr => by
      refine (HPT.out vv J wx hr hj3).mono ?_
      rintro e w' ⟨rfl, hb⟩
      exact ⟨rfl, h.trans (hb.mono h.size), fun uu us hu => hu.keep hb⟩)
    have HPB : Hid (∀ (wx : World), Below W0.heap.size W0 wx → Calls Try.prog 59 #[.agg #[f, .slice a' 3 cap', .int .i64 c2, .int .i64 c3, .int .i64 2], .slice a' 3 cap'] wx (Kept W0 wx (ptA vs vs))) := hid (fun wx h => by
      refine (HPT.out _ vs wx ((HB.out.keep hB0).keep h) HL.out).mono ?_
      rintro e w' ⟨rfl, hb⟩
      exact ⟨rfl, h.trans (hb.mono h.size), fun uu us hu => hu.keep hb⟩)
    have HW0 := hid hB0
    have HWR : Hid (Rd W0.drew (.slice a 3 cap) ws) := hid (HW.out.keep (below_dw hB0))
    have hr : Below W0.heap.size W0 W0.drew := below_dw (Below.refl _ _)
    obtain ⟨d0, d1, d2, d3, d4⟩ := HC5.out _ hr
    by_cases hJV : J = vs
    · have HR : Hid (multB vs ws = true) := hid (by rw [HMB.out, decide_eq_true hJV])
      subst hJV
      unfold ptA at HPU HPB
      clear hsm hg hJ hB0 HM HMB
      go_enter Try.func74, Try.ntmps74
      go_wp2_with fail
      go_region_held3 (fun wx => Below W0.heap.size W0 wx ∧ wx.cell? ⟨w.heap.size, 0, none⟩ = some f ∧ wx.cell? ⟨w.heap.size, 1, none⟩ = some (.slice a' 3 cap') ∧ wx.cell? ⟨w.heap.size, 2, none⟩ = some (.int .i64 c2) ∧ wx.cell? ⟨w.heap.size, 3, none⟩ = some (.int .i64 c3) ∧ wx.cell? ⟨w.heap.size, 4, none⟩ = some (.int .i64 2)) (exact ⟨by assumption, by assumption, by assumption, by assumption, by assumption, by assumption⟩)
        (first
          | (go_at_call 77; refine (HG.out _ HWR.out).mono ?_; rintro e w' ⟨rfl, rfl⟩)
          | (go_at_call 76; refine (HPL.out _ (by assumption)).mono ?_; rintro e wP ⟨u, rfl, hru, hbp⟩; obtain ⟨x0, x1, x2, x3, x4⟩ := HC5.out _ hbp)
          | (go_at_call 59; refine (HPU.out _ _ (by assumption) (by assumption)).mono ?_; rintro e wQ ⟨rfl, hbq, hkq⟩; obtain ⟨y0, y1, y2, y3, y4⟩ := HC5.out _ hbq)
          | (go_at_call 59; refine (HPB.out _ (by assumption)).mono ?_; rintro e wR ⟨rfl, hbr, hkr⟩; obtain ⟨z0, z1, z2, z3, z4⟩ := HC5.out _ hbr))
      go_wp2
      go_ret
      exact ⟨retB HR.out.symm, HW0.out.trans (hbr.mono HW0.out.size)⟩
    · have HR : Hid (multB vs ws = false) := hid (by rw [HMB.out, decide_eq_false hJV])
      have hne := pt_ne HL.out hj3 (fun e => hJV e.symm)
      unfold ptA at HPU HPB
      obtain ⟨p0, hp0⟩ : ∃ x, x = atA vs J := ⟨_, rfl⟩
      obtain ⟨p1, hp1⟩ : ∃ x, x = atB vs J := ⟨_, rfl⟩
      obtain ⟨p2, hp2⟩ : ∃ x, x = atC J := ⟨_, rfl⟩
      obtain ⟨q0, hq0⟩ : ∃ x, x = atA vs vs := ⟨_, rfl⟩
      obtain ⟨q1, hq1⟩ : ∃ x, x = atB vs vs := ⟨_, rfl⟩
      obtain ⟨q2, hq2⟩ : ∃ x, x = atC vs := ⟨_, rfl⟩
      rw [← hp0, ← hp1, ← hp2] at HPU hne
      rw [← hq0, ← hq1, ← hq2] at HPB hne
      clear hsm hg hJ hB0 HM HMB hJV hp0 hp1 hp2 hq0 hq1 hq2
      rcases hne with h0 | ⟨h0, h1⟩ | ⟨h0, h1, h2⟩
      · have T0 : (p0 == q0) = false := beq_eq_false_iff_ne.2 h0
        clear h0
        go_enter Try.func74, Try.ntmps74
        go_wp2_with fail
        go_region_held3 (fun wx => Below W0.heap.size W0 wx ∧ wx.cell? ⟨w.heap.size, 0, none⟩ = some f ∧ wx.cell? ⟨w.heap.size, 1, none⟩ = some (.slice a' 3 cap') ∧ wx.cell? ⟨w.heap.size, 2, none⟩ = some (.int .i64 c2) ∧ wx.cell? ⟨w.heap.size, 3, none⟩ = some (.int .i64 c3) ∧ wx.cell? ⟨w.heap.size, 4, none⟩ = some (.int .i64 2)) (exact ⟨by assumption, by assumption, by assumption, by assumption, by assumption, by assumption⟩)
          (first
            | (go_at_call 77; refine (HG.out _ HWR.out).mono ?_; rintro e w' ⟨rfl, rfl⟩)
            | (go_at_call 76; refine (HPL.out _ (by assumption)).mono ?_; rintro e wP ⟨u, rfl, hru, hbp⟩; obtain ⟨x0, x1, x2, x3, x4⟩ := HC5.out _ hbp)
            | (go_at_call 59; refine (HPU.out _ _ (by assumption) (by assumption)).mono ?_; rintro e wQ ⟨rfl, hbq, hkq⟩; obtain ⟨y0, y1, y2, y3, y4⟩ := HC5.out _ hbq)
            | (go_at_call 59; refine (HPB.out _ (by assumption)).mono ?_; rintro e wR ⟨rfl, hbr, hkr⟩; obtain ⟨z0, z1, z2, z3, z4⟩ := HC5.out _ hbr))
        go_wp2
        go_ret
        exact ⟨retB HR.out.symm, HW0.out.trans (hbr.mono HW0.out.size)⟩
      · subst h0
        have T1 : (p1 == q1) = false := beq_eq_false_iff_ne.2 h1
        clear h1
        go_enter Try.func74, Try.ntmps74
        go_wp2_with fail
        go_region_held3 (fun wx => Below W0.heap.size W0 wx ∧ wx.cell? ⟨w.heap.size, 0, none⟩ = some f ∧ wx.cell? ⟨w.heap.size, 1, none⟩ = some (.slice a' 3 cap') ∧ wx.cell? ⟨w.heap.size, 2, none⟩ = some (.int .i64 c2) ∧ wx.cell? ⟨w.heap.size, 3, none⟩ = some (.int .i64 c3) ∧ wx.cell? ⟨w.heap.size, 4, none⟩ = some (.int .i64 2)) (exact ⟨by assumption, by assumption, by assumption, by assumption, by assumption, by assumption⟩)
          (first
            | (go_at_call 77; refine (HG.out _ HWR.out).mono ?_; rintro e w' ⟨rfl, rfl⟩)
            | (go_at_call 76; refine (HPL.out _ (by assumption)).mono ?_; rintro e wP ⟨u, rfl, hru, hbp⟩; obtain ⟨x0, x1, x2, x3, x4⟩ := HC5.out _ hbp)
            | (go_at_call 59; refine (HPU.out _ _ (by assumption) (by assumption)).mono ?_; rintro e wQ ⟨rfl, hbq, hkq⟩; obtain ⟨y0, y1, y2, y3, y4⟩ := HC5.out _ hbq)
            | (go_at_call 59; refine (HPB.out _ (by assumption)).mono ?_; rintro e wR ⟨rfl, hbr, hkr⟩; obtain ⟨z0, z1, z2, z3, z4⟩ := HC5.out _ hbr))
        go_wp2
        go_ret
        exact ⟨retB HR.out.symm, HW0.out.trans (hbr.mono HW0.out.size)⟩
      · subst h0
        subst h1
        have T1 : (p2 == q2) = false := beq_eq_false_iff_ne.2 h2
        clear h2
        go_enter Try.func74, Try.ntmps74
        go_wp2_with fail
        go_region_held3 (fun wx => Below W0.heap.size W0 wx ∧ wx.cell? ⟨w.heap.size, 0, none⟩ = some f ∧ wx.cell? ⟨w.heap.size, 1, none⟩ = some (.slice a' 3 cap') ∧ wx.cell? ⟨w.heap.size, 2, none⟩ = some (.int .i64 c2) ∧ wx.cell? ⟨w.heap.size, 3, none⟩ = some (.int .i64 c3) ∧ wx.cell? ⟨w.heap.size, 4, none⟩ = some (.int .i64 2)) (exact ⟨by assumption, by assumption, by assumption, by assumption, by assumption, by assumption⟩)
          (first
            | (go_at_call 77; refine (HG.out _ HWR.out).mono ?_; rintro e w' ⟨rfl, rfl⟩)
            | (go_at_call 76; refine (HPL.out _ (by assumption)).mono ?_; rintro e wP ⟨u, rfl, hru, hbp⟩; obtain ⟨x0, x1, x2, x3, x4⟩ := HC5.out _ hbp)
            | (go_at_call 59; refine (HPU.out _ _ (by assumption) (by assumption)).mono ?_; rintro e wQ ⟨rfl, hbq, hkq⟩; obtain ⟨y0, y1, y2, y3, y4⟩ := HC5.out _ hbq)
            | (go_at_call 59; refine (HPB.out _ (by assumption)).mono ?_; rintro e wR ⟨rfl, hbr, hkr⟩; obtain ⟨z0, z1, z2, z3, z4⟩ := HC5.out _ hbr))
        go_wp2
        go_ret
        exact ⟨retB HR.out.symm, HW0.out.trans (hbr.mono HW0.out.size)⟩

end Go.Proofs.Ytenibnblibnocaa
