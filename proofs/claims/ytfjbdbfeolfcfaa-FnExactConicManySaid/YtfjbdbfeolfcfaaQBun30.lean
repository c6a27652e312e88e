/-
  Some texts in one file: Cp4 Cp5 RowWord.
-/
import Derived.Test.YtfjbdbfeolfcfaaQBun29
import Derived.Test.YtfjbdbfeolfcfaaQBun17
import Derived.Below
/-! Cp4 -/
set_option linter.unusedVariables false
namespace Go.Proofs.Ytfjbdbfeolfcfaa
open Go.RowKit

/-- two calls beside each other, each answer in a variable of its own -/
structure BackI (x0 : Nat) (W : World) (C bv zv q0 q1 q2 r0 r1 r2 : Value) (L : Array Bool) (wx : World) (sv5 sv6 sv14 sv15 sv16 sv17 sv18 sv19 sv20 : Value) : Prop where
  hs : L.size = 11
  hb : Below W.heap.size W wx
  h0 : dn L 0 → sv14 = C
  h1 : dn L 1 → sv15 = .pointer (some ⟨x0, 1, none⟩)
  h2 : dn L 2 → sv16 = bv
  h3 : dn L 3 → sv17 = .agg #[q0, q1, q2]
  h4 : dn L 4 → sv18 = C
  h5 : dn L 5 → sv19 = zv
  h6 : dn L 6 → sv20 = .agg #[r0, r1, r2]
  h7 : dn L 7 → ∃ b c0 c1 c2, sv5 = .pointer (some ⟨b, 0, none⟩) ∧ Blk3 W wx b c0 c1 c2 ∧ (dn L 9 → c0 = q0 ∧ c1 = q1 ∧ c2 = q2)
  h8 : dn L 8 → ∃ b c0 c1 c2, sv6 = .pointer (some ⟨b, 0, none⟩) ∧ Blk3 W wx b c0 c1 c2 ∧ (dn L 10 → c0 = r0 ∧ c1 = r1 ∧ c2 = r2)
  hne : dn L 7 → dn L 8 → sv5 ≠ sv6
  d9 : dn L 9 → dn L 7
  d10 : dn L 10 → dn L 8
set_option maxRecDepth 100000 in
set_option maxHeartbeats 8000000 in
theorem back_any (f b z : Value) (xs vs zs : List Int) (w : World) (hf : Rd w f xs) (hb : Rd w b vs) (hzr : Rd w z zs) (hp : pointB xs vs = true) (hz : zeroB xs zs = true) (x y : Int) (hxy : backL xs vs zs = [x, y]) :
    Calls Try.prog 38 #[conA vs f b, z] w fun e w' => e = .returned (.agg #[.int .i64 x, .int .i64 y]) ∧ Below w.heap.size w w' := by
  have B := back_facts hp hz
  have hpl := (pointB_iff.1 hp).2.2.1
  have hsm := (zeroB_iff.1 (pointB_iff.1 hp).2.1).2.2.2.1
  have h11 : Vec11 zs := fun v hv => by have := B.bz v hv; omega
  have hmt : multB vs zs = true ↔ atB vs zs * atA vs vs - atB vs vs * atA vs zs = 0 ∧ atC zs * atA vs vs - atC vs * atA vs zs = 0 := by
    obtain ⟨_, _, _, _, _, _, rfl, rfl, _, P⟩ := point_pt hp
    obtain ⟨u, v, t, rfl⟩ := len3 B.lz
    exact back_mult P
  obtain ⟨a, cap, rfl, _⟩ := hf.form
  obtain ⟨a', cap', rfl, _⟩ := hb.form
  obtain ⟨az, capz, rfl, _⟩ := hzr.form
  rw [B.lx] at hf ⊢
  rw [B.lv] at hb ⊢
  rw [B.lz] at hzr ⊢
  obtain ⟨c2, c3, hC, _⟩ := conA_form vs (.slice a 3 cap) (.slice a' 3 cap')
  obtain ⟨W, hW, hWs, e0, e1, hBW⟩ := two_blk w (.slice a 3 cap) (.slice a' 3 cap') (.int .i64 c2) (.int .i64 c3) (.int .i64 2) 50 56
  have HMU : Hid (∀ wx : World, Below W.heap.size W wx → Calls Try.prog 67 #[.agg #[.slice a 3 cap, .slice a' 3 cap', .int .i64 c2, .int .i64 c3, .int .i64 2], .slice az 3 capz] wx fun e w' => e = .returned (.bool (multB vs zs)) ∧ Below W.heap.size W w' ∧ Below wx.heap.size wx w') := hid (fun wx h => by
    rw [← hC]
    refine (multiple_any _ _ _ vs zs wx ((hb.keep hBW).keep h) ((hzr.keep hBW).keep h) B.lv B.lz h11 hsm hpl).mono ?_
    rintro e w' ⟨rfl, hb⟩
    exact ⟨rfl, h.trans (hb.mono h.size), hb⟩)
  have HCB : Hid (∀ wx : World, Below W.heap.size W wx → (wx.cell? ⟨w.heap.size, 0, none⟩ = some (.slice a 3 cap) ∧ wx.cell? ⟨w.heap.size, 1, none⟩ = some (.slice a' 3 cap') ∧ wx.cell? ⟨w.heap.size, 2, none⟩ = some (.int .i64 c2) ∧ wx.cell? ⟨w.heap.size, 3, none⟩ = some (.int .i64 c3) ∧ wx.cell? ⟨w.heap.size, 4, none⟩ = some (.int .i64 2)) ∧ wx.cell? ⟨w.heap.size + 1, 0, none⟩ = some (.int .i64 0) ∧ wx.cell? ⟨w.heap.size + 1, 1, none⟩ = some (.int .i64 0) ∧ wx.frozen? ⟨w.heap.size + 1, 0, none⟩ = false ∧ wx.frozen? ⟨w.heap.size + 1, 1, none⟩ = false) := hid (fun wx h => by
    have f0 := (h.block w.heap.size (by omega)).trans e0
    have f1 := (h.block (w.heap.size + 1) (by omega)).trans e1
    exact ⟨⟨cell_h f0, cell_h f0, cell_h f0, cell_h f0, cell_h f0⟩, cell_h f1, cell_h f1, frozen_h f1, frozen_h f1⟩)
  have HBW := hid hBW
  have HL2 : Hid (W.heap.size = w.heap.size + 2) := hid hWs
  cases hm : multB vs zs with
  | true =>
    have hzz := hmt.1 hm
    have hl : plainL [atC xs * atC vs, -(atB vs xs * atB vs vs)] = [x, y] := by
      rw [← hxy]; unfold backL; rw [if_pos hzz]
    have HT : Hid (∀ wx : World, Below W.heap.size W wx → Calls Try.prog 68 #[.agg #[.slice a 3 cap, .slice a' 3 cap', .int .i64 c2, .int .i64 c3, .int .i64 2]] wx fun e w' => e = .returned (.agg #[.int .i64 x, .int .i64 y]) ∧ Below wx.heap.size wx w') := hid (fun wx h => by
      rw [← hC]
      exact tangent_any _ _ xs vs wx ((hf.keep hBW).keep h) ((hb.keep hBW).keep h) B.lx B.lv B.bx B.bv B.tg x y hl)
    rw [hm] at HMU
    rw [hC]
    have hr0 := Below.refl W.heap.size W
    obtain ⟨⟨d0, d1, d2, d3, d4⟩, _, _, _, _⟩ := HCB.out _ hr0
    clear hf hb hzr hp hz hxy B hpl hsm h11 hmt hC e0 e1 hBW hm hzz hl hWs
    go_enter Try.func38, Try.ntmps38
    go_wp2_with fail
    simp only [← hW]
    clear hW
    refine (HMU.out _ hr0).mono ?_
    rintro e w2 ⟨rfl, hb2, _⟩
    obtain ⟨⟨k0, k1, k2, k3, k4⟩, n0, n1, g0, g1⟩ := HCB.out _ hb2
    have HB2 := hid hb2
    clear hb2 d0 d1 d2 d3 d4
    go_wp2_with fail
    refine (HT.out _ HB2.out).mono ?_
    rintro e w9 ⟨rfl, hb9⟩
    have m0 := cell_later hb9 n0
    have m1 := cell_later hb9 n1
    have hlt : w.heap.size + 1 < w2.heap.size := by have := HB2.out.size; have := HL2.out; omega
    have u0 := (hb9.frozen (p := ⟨w.heap.size + 1, 0, none⟩) hlt).trans g0
    have u1 := (hb9.frozen (p := ⟨w.heap.size + 1, 1, none⟩) hlt).trans g1
    have HB9 := hid ((HBW.out.trans (HB2.out.mono HBW.out.size)).trans (hb9.mono (HBW.out.trans (HB2.out.mono HBW.out.size)).size))
    clear hb9
    go_wp2_with fail
    refine bodyPost_ret (v := .agg #[.int .i64 x, .int .i64 y]) (by simp [results, Try.results38, go_sem]; go_simp) rfl ?_
    exact ⟨rfl, below_set2 HB9.out (Nat.le_succ _) _ _⟩
  | false =>
    have hzz : ¬ (atB vs zs * atA vs vs - atB vs vs * atA vs zs = 0 ∧ atC zs * atA vs vs - atC vs * atA vs zs = 0) := fun h => by
      have := hmt.2 h
      rw [hm] at this
      cases this
    have hl : plainL [atB vs zs * atA vs vs - atB vs vs * atA vs zs, atC zs * atA vs vs - atC vs * atA vs zs] = [x, y] := by
      rw [← hxy]; unfold backL; rw [if_neg hzz]
    have HPB : Hid (∀ wx : World, Below W.heap.size W wx → Calls Try.prog 55 #[.agg #[.slice a 3 cap, .slice a' 3 cap', .int .i64 c2, .int .i64 c3, .int .i64 2], .slice a' 3 cap'] wx fun e w' => e = .returned (ptA vs vs) ∧ Below W.heap.size W w' ∧ Below wx.heap.size wx w') := hid (fun wx h => by
      rw [← hC]
      refine (pointOf_any _ _ _ vs vs wx ((hb.keep hBW).keep h) B.lv).mono ?_
      rintro e w' ⟨rfl, hb⟩
      exact ⟨rfl, h.trans (hb.mono h.size), hb⟩)
    have HPZ : Hid (∀ wx : World, Below W.heap.size W wx → Calls Try.prog 55 #[.agg #[.slice a 3 cap, .slice a' 3 cap', .int .i64 c2, .int .i64 c3, .int .i64 2], .slice az 3 capz] wx fun e w' => e = .returned (ptA vs zs) ∧ Below W.heap.size W w' ∧ Below wx.heap.size wx w') := hid (fun wx h => by
      rw [← hC]
      refine (pointOf_any _ _ _ vs zs wx ((hzr.keep hBW).keep h) B.lz).mono ?_
      rintro e w' ⟨rfl, hb⟩
      exact ⟨rfl, h.trans (hb.mono h.size), hb⟩)
    unfold ptA at HPB HPZ
    have hax1 := B.bv _ (atA_mem (vs := vs) B.lv)
    have hp1 := B.bv _ (atB_mem (vs := vs) B.lv)
    have hp2 := B.bv _ (atC_mem B.lv)
    have hza := B.bz _ (atA_mem (vs := vs) B.lz)
    have hz1 := B.bz _ (atB_mem (vs := vs) B.lz)
    have hz2 := B.bz _ (atC_mem B.lz)
    obtain ⟨q0, hq0⟩ : ∃ x, x = atA vs vs := ⟨_, rfl⟩
    obtain ⟨q1, hq1⟩ : ∃ x, x = atB vs vs := ⟨_, rfl⟩
    obtain ⟨q2, hq2⟩ : ∃ x, x = atC vs := ⟨_, rfl⟩
    obtain ⟨r0, hr0⟩ : ∃ x, x = atA vs zs := ⟨_, rfl⟩
    obtain ⟨r1, hr1⟩ : ∃ x, x = atB vs zs := ⟨_, rfl⟩
    obtain ⟨r2, hr2⟩ : ∃ x, x = atC zs := ⟨_, rfl⟩
    simp only [← hq0, ← hq1, ← hq2, ← hr0, ← hr1, ← hr2] at HPB HPZ hax1 hp1 hp2 hza hz1 hz2 hl hzz
    rw [hm] at HMU
    rw [hC]
    have m1 := prod_bd2 (x := r1) (y := q0) (m := 1000000) (n := 1000) (by omega) (by omega)
    have m2 := prod_bd2 (x := q1) (y := r0) (m := 1000) (n := 1000000) (by omega) (by omega)
    have m3 := prod_bd2 (x := r2) (y := q0) (m := 1000000) (n := 1000) (by omega) (by omega)
    have m4 := prod_bd2 (x := q2) (y := r0) (m := 1000) (n := 1000000) (by omega) (by omega)
    have HPH : Hid (∀ wx : World, Calls Try.prog 69 #[.int .i64 (r1 * q0 - q1 * r0), .int .i64 (r2 * q0 - q2 * r0)] wx fun e w' => e = .returned (.agg #[.int .i64 x, .int .i64 y]) ∧ Below wx.heap.size wx w') := hid (fun wx => plainHeading_any _ _ x y (by omega) (by omega) (two_some hzz) hl wx)
    have f1 : -1000000000 ≤ r1 * q0 := by omega
    have f2 : r1 * q0 ≤ 1000000000 := by omega
    have f3 : -1000000000 ≤ q1 * r0 := by omega
    have f4 : q1 * r0 ≤ 1000000000 := by omega
    have f5 : -1000000000 ≤ r2 * q0 := by omega
    have f6 : r2 * q0 ≤ 1000000000 := by omega
    have f7 : -1000000000 ≤ q2 * r0 := by omega
    have f8 : q2 * r0 ≤ 1000000000 := by omega
    have hrr := Below.refl W.heap.size W
    obtain ⟨⟨d0, d1, d2, d3, d4⟩, _, _, _, _⟩ := HCB.out _ hrr
    clear hf hb hzr hp hz hxy B hpl hsm h11 hmt hC e0 e1 hBW hm hzz hl hWs m1 m2 m3 m4 hax1 hp1 hp2 hza hz1 hz2 hq0 hq1 hq2 hr0 hr1 hr2
    go_enter Try.func38, Try.ntmps38
    go_wp2_with fail
    simp only [← hW]
    clear hW
    refine (HMU.out _ hrr).mono ?_
    rintro e w2 ⟨rfl, hb2, _⟩
    have hr : Below W.heap.size W w2.drew := below_dw hb2
    clear hb2 d0 d1 d2 d3 d4
    go_wp2_with fail
    refine region_inv (by kernel_rfl) (fun L act wx => ∃ sv5 sv6 sv14 sv15 sv16 sv17 sv18 sv19 sv20 : Value, act = ({ tmps := #[.agg #[.slice a 3 cap, .slice a' 3 cap', .int .i64 c2, .int .i64 c3, .int .i64 2], .slice az 3 capz, .pointer (some ⟨w.heap.size, 0, none⟩), undef, .pointer (some ⟨w.heap.size + 1, 0, none⟩), sv5, sv6, undef, undef, .agg #[.slice a 3 cap, .slice a' 3 cap', .int .i64 c2, .int .i64 c3, .int .i64 2], .slice az 3 capz, .bool false, undef, undef, sv14, sv15, sv16, sv17, sv18, sv19, sv20, undef, undef, undef, undef, undef, undef, undef, undef, undef, undef, undef, undef, undef, undef, undef, undef, undef, undef, undef, undef, undef, undef, undef, undef, undef, undef, undef, undef, undef], defers := [] } : Act) ∧ BackI w.heap.size W (.agg #[.slice a 3 cap, .slice a' 3 cap', .int .i64 c2, .int .i64 c3, .int .i64 2]) (.slice a' 3 cap') (.slice az 3 capz) (.int .i64 q0) (.int .i64 q1) (.int .i64 q2) (.int .i64 r0) (.int .i64 r1) (.int .i64 r2) L wx sv5 sv6 sv14 sv15 sv16 sv17 sv18 sv19 sv20) ?h0 ?hend ?hstep
    case h0 => exact ⟨undef, undef, undef, undef, undef, undef, undef, undef, undef, rfl, ⟨rfl, hr, fun h => (dn_new h).elim, fun h => (dn_new h).elim, fun h => (dn_new h).elim, fun h => (dn_new h).elim, fun h => (dn_new h).elim, fun h => (dn_new h).elim, fun h => (dn_new h).elim, fun h => (dn_new h).elim, fun h => (dn_new h).elim, fun h => (dn_new h).elim, fun h => (dn_new h).elim, fun h => (dn_new h).elim⟩⟩
    case hstep =>
      rintro L act wx i ⟨sv5, sv6, sv14, sv15, sv16, sv17, sv18, sv19, sv20, rfl, I⟩ hi
      obtain ⟨hi1, hf, hdep⟩ := ready_mem hi
      have hi2 : i < 11 := hi1
      have HI := hid I
      have HF := hid hf
      have hbw := I.hb
      have hsz := hbw.size
      obtain ⟨⟨d0, d1, d2, d3, d4⟩, _, _, _, _⟩ := HCB.out _ hbw
      clear hi hi1 I hf
      have hc : i = 0 ∨ i = 1 ∨ i = 2 ∨ i = 3 ∨ i = 4 ∨ i = 5 ∨ i = 6 ∨ i = 7 ∨ i = 8 ∨ i = 9 ∨ i = 10 := by omega
      clear hi2
      rcases hc with rfl | rfl | rfl | rfl | rfl | rfl | rfl | rfl | rfl | rfl | rfl
      · skip
        clear hdep
        refine wpOp_step rfl (fun K hK => ?_)
        go_simp
        exact hK _ _ ⟨_, _, _, _, _, _, _, _, _, rfl, ⟨(by rw [Array.size_setIfInBounds]; exact HI.out.hs), HI.out.hb, fun _ => rfl, fun h => HI.out.h1 (dn_old h (by decide)), fun h => HI.out.h2 (dn_old h (by decide)), fun h => HI.out.h3 (dn_old h (by decide)), fun h => HI.out.h4 (dn_old h (by decide)), fun h => HI.out.h5 (dn_old h (by decide)), fun h => HI.out.h6 (dn_old h (by decide)), fun h => by
          obtain ⟨b, c0, c1, c2, h1, h2, h3⟩ := HI.out.h7 (dn_old h (by decide))
          exact ⟨b, c0, c1, c2, h1, h2, fun h => h3 (dn_old h (by decide))⟩, fun h => by
          obtain ⟨b, c0, c1, c2, h1, h2, h3⟩ := HI.out.h8 (dn_old h (by decide))
          exact ⟨b, c0, c1, c2, h1, h2, fun h => h3 (dn_old h (by decide))⟩, fun h h' => HI.out.hne (dn_old h (by decide)) (dn_old h' (by decide)), fun h => dn_keep (HI.out.d9 (dn_old h (by decide))), fun h => dn_keep (HI.out.d10 (dn_old h (by decide)))⟩⟩
      · skip
        clear hdep
        refine wpOp_step rfl (fun K hK => ?_)
        go_simp
        exact hK _ _ ⟨_, _, _, _, _, _, _, _, _, rfl, ⟨(by rw [Array.size_setIfInBounds]; exact HI.out.hs), HI.out.hb, fun h => HI.out.h0 (dn_old h (by decide)), fun _ => rfl, fun h => HI.out.h2 (dn_old h (by decide)), fun h => HI.out.h3 (dn_old h (by decide)), fun h => HI.out.h4 (dn_old h (by decide)), fun h => HI.out.h5 (dn_old h (by decide)), fun h => HI.out.h6 (dn_old h (by decide)), fun h => by
          obtain ⟨b, c0, c1, c2, h1, h2, h3⟩ := HI.out.h7 (dn_old h (by decide))
          exact ⟨b, c0, c1, c2, h1, h2, fun h => h3 (dn_old h (by decide))⟩, fun h => by
          obtain ⟨b, c0, c1, c2, h1, h2, h3⟩ := HI.out.h8 (dn_old h (by decide))
          exact ⟨b, c0, c1, c2, h1, h2, fun h => h3 (dn_old h (by decide))⟩, fun h h' => HI.out.hne (dn_old h (by decide)) (dn_old h' (by decide)), fun h => dn_keep (HI.out.d9 (dn_old h (by decide))), fun h => dn_keep (HI.out.d10 (dn_old h (by decide)))⟩⟩
      · skip
        have q1 : dn L 1 := hdep _ rfl { on := 1, ground := .data } (by simp) rfl
        clear hdep
        obtain rfl := HI.out.h1 q1
        refine wpOp_step rfl (fun K hK => ?_)
        go_simp
        exact hK _ _ ⟨_, _, _, _, _, _, _, _, _, rfl, ⟨(by rw [Array.size_setIfInBounds]; exact HI.out.hs), HI.out.hb, fun h => HI.out.h0 (dn_old h (by decide)), fun h => HI.out.h1 (dn_old h (by decide)), fun _ => rfl, fun h => HI.out.h3 (dn_old h (by decide)), fun h => HI.out.h4 (dn_old h (by decide)), fun h => HI.out.h5 (dn_old h (by decide)), fun h => HI.out.h6 (dn_old h (by decide)), fun h => by
          obtain ⟨b, c0, c1, c2, h1, h2, h3⟩ := HI.out.h7 (dn_old h (by decide))
          exact ⟨b, c0, c1, c2, h1, h2, fun h => h3 (dn_old h (by decide))⟩, fun h => by
          obtain ⟨b, c0, c1, c2, h1, h2, h3⟩ := HI.out.h8 (dn_old h (by decide))
          exact ⟨b, c0, c1, c2, h1, h2, fun h => h3 (dn_old h (by decide))⟩, fun h h' => HI.out.hne (dn_old h (by decide)) (dn_old h' (by decide)), fun h => dn_keep (HI.out.d9 (dn_old h (by decide))), fun h => dn_keep (HI.out.d10 (dn_old h (by decide)))⟩⟩
      · skip
        have q0 : dn L 0 := hdep _ rfl { on := 0, ground := .data } (by simp) rfl
        have q2 : dn L 2 := hdep _ rfl { on := 2, ground := .data } (by simp) rfl
        clear hdep
        obtain rfl := HI.out.h0 q0
        obtain rfl := HI.out.h2 q2
        refine wpOp_step rfl (fun K hK => ?_)
        go_simp
        go_at_call 55
        refine (HPB.out _ hbw).mono ?_
        rintro e wP ⟨rfl, hbp, hbk⟩
        exact hK _ _ ⟨_, _, _, _, _, _, _, _, _, rfl, ⟨(by rw [Array.size_setIfInBounds]; exact HI.out.hs), hbp, fun h => HI.out.h0 (dn_old h (by decide)), fun h => HI.out.h1 (dn_old h (by decide)), fun h => HI.out.h2 (dn_old h (by decide)), fun _ => rfl, fun h => HI.out.h4 (dn_old h (by decide)), fun h => HI.out.h5 (dn_old h (by decide)), fun h => HI.out.h6 (dn_old h (by decide)), fun h => by
          obtain ⟨b, c0, c1, c2, h1, h2, h3⟩ := HI.out.h7 (dn_old h (by decide))
          exact ⟨b, c0, c1, c2, h1, h2.later hbk, fun h => h3 (dn_old h (by decide))⟩, fun h => by
          obtain ⟨b, c0, c1, c2, h1, h2, h3⟩ := HI.out.h8 (dn_old h (by decide))
          exact ⟨b, c0, c1, c2, h1, h2.later hbk, fun h => h3 (dn_old h (by decide))⟩, fun h h' => HI.out.hne (dn_old h (by decide)) (dn_old h' (by decide)), fun h => dn_keep (HI.out.d9 (dn_old h (by decide))), fun h => dn_keep (HI.out.d10 (dn_old h (by decide)))⟩⟩
      · skip
        clear hdep
        refine wpOp_step rfl (fun K hK => ?_)
        go_simp
        exact hK _ _ ⟨_, _, _, _, _, _, _, _, _, rfl, ⟨(by rw [Array.size_setIfInBounds]; exact HI.out.hs), HI.out.hb, fun h => HI.out.h0 (dn_old h (by decide)), fun h => HI.out.h1 (dn_old h (by decide)), fun h => HI.out.h2 (dn_old h (by decide)), fun h => HI.out.h3 (dn_old h (by decide)), fun _ => rfl, fun h => HI.out.h5 (dn_old h (by decide)), fun h => HI.out.h6 (dn_old h (by decide)), fun h => by
          obtain ⟨b, c0, c1, c2, h1, h2, h3⟩ := HI.out.h7 (dn_old h (by decide))
          exact ⟨b, c0, c1, c2, h1, h2, fun h => h3 (dn_old h (by decide))⟩, fun h => by
          obtain ⟨b, c0, c1, c2, h1, h2, h3⟩ := HI.out.h8 (dn_old h (by decide))
          exact ⟨b, c0, c1, c2, h1, h2, fun h => h3 (dn_old h (by decide))⟩, fun h h' => HI.out.hne (dn_old h (by decide)) (dn_old h' (by decide)), fun h => dn_keep (HI.out.d9 (dn_old h (by decide))), fun h => dn_keep (HI.out.d10 (dn_old h (by decide)))⟩⟩
      · skip
        clear hdep
        refine wpOp_step rfl (fun K hK => ?_)
        go_simp
        exact hK _ _ ⟨_, _, _, _, _, _, _, _, _, rfl, ⟨(by rw [Array.size_setIfInBounds]; exact HI.out.hs), HI.out.hb, fun h => HI.out.h0 (dn_old h (by decide)), fun h => HI.out.h1 (dn_old h (by decide)), fun h => HI.out.h2 (dn_old h (by decide)), fun h => HI.out.h3 (dn_old h (by decide)), fun h => HI.out.h4 (dn_old h (by decide)), fun _ => rfl, fun h => HI.out.h6 (dn_old h (by decide)), fun h => by
          obtain ⟨b, c0, c1, c2, h1, h2, h3⟩ := HI.out.h7 (dn_old h (by decide))
          exact ⟨b, c0, c1, c2, h1, h2, fun h => h3 (dn_old h (by decide))⟩, fun h => by
          obtain ⟨b, c0, c1, c2, h1, h2, h3⟩ := HI.out.h8 (dn_old h (by decide))
          exact ⟨b, c0, c1, c2, h1, h2, fun h => h3 (dn_old h (by decide))⟩, fun h h' => HI.out.hne (dn_old h (by decide)) (dn_old h' (by decide)), fun h => dn_keep (HI.out.d9 (dn_old h (by decide))), fun h => dn_keep (HI.out.d10 (dn_old h (by decide)))⟩⟩
      · skip
        have q4 : dn L 4 := hdep _ rfl { on := 4, ground := .data } (by simp) rfl
        have q5 : dn L 5 := hdep _ rfl { on := 5, ground := .data } (by simp) rfl
        clear hdep
        obtain rfl := HI.out.h4 q4
        obtain rfl := HI.out.h5 q5
        refine wpOp_step rfl (fun K hK => ?_)
        go_simp
        go_at_call 55
        refine (HPZ.out _ hbw).mono ?_
        rintro e wP ⟨rfl, hbp, hbk⟩
        exact hK _ _ ⟨_, _, _, _, _, _, _, _, _, rfl, ⟨(by rw [Array.size_setIfInBounds]; exact HI.out.hs), hbp, fun h => HI.out.h0 (dn_old h (by decide)), fun h => HI.out.h1 (dn_old h (by decide)), fun h => HI.out.h2 (dn_old h (by decide)), fun h => HI.out.h3 (dn_old h (by decide)), fun h => HI.out.h4 (dn_old h (by decide)), fun h => HI.out.h5 (dn_old h (by decide)), fun _ => rfl, fun h => by
          obtain ⟨b, c0, c1, c2, h1, h2, h3⟩ := HI.out.h7 (dn_old h (by decide))
          exact ⟨b, c0, c1, c2, h1, h2.later hbk, fun h => h3 (dn_old h (by decide))⟩, fun h => by
          obtain ⟨b, c0, c1, c2, h1, h2, h3⟩ := HI.out.h8 (dn_old h (by decide))
          exact ⟨b, c0, c1, c2, h1, h2.later hbk, fun h => h3 (dn_old h (by decide))⟩, fun h h' => HI.out.hne (dn_old h (by decide)) (dn_old h' (by decide)), fun h => dn_keep (HI.out.d9 (dn_old h (by decide))), fun h => dn_keep (HI.out.d10 (dn_old h (by decide)))⟩⟩
      · skip
        clear hdep
        refine wpOp_step rfl (fun K hK => ?_)
        go_simp
        exact hK _ _ ⟨_, _, _, _, _, _, _, _, _, rfl, ⟨(by rw [Array.size_setIfInBounds]; exact HI.out.hs), hbw.alloc hsz _, fun h => HI.out.h0 (dn_old h (by decide)), fun h => HI.out.h1 (dn_old h (by decide)), fun h => HI.out.h2 (dn_old h (by decide)), fun h => HI.out.h3 (dn_old h (by decide)), fun h => HI.out.h4 (dn_old h (by decide)), fun h => HI.out.h5 (dn_old h (by decide)), fun h => HI.out.h6 (dn_old h (by decide)), fun _ => ⟨wx.heap.size, _, _, _, rfl, Blk3.new hsz _ _ _ _, fun h => (dn_not HF.out (HI.out.d9 (dn_old h (by decide)))).elim⟩, fun h => by
          obtain ⟨b, c0, c1, c2, h1, h2, h3⟩ := HI.out.h8 (dn_old h (by decide))
          exact ⟨b, c0, c1, c2, h1, h2.later (below_box2 _ _), fun h => h3 (dn_old h (by decide))⟩, fun _ h => by
          obtain ⟨b, _, _, _, h1, h2, _⟩ := HI.out.h8 (dn_old h (by decide))
          rw [h1]
          intro e
          cases e
          exact Nat.lt_irrefl _ h2.hi, fun h => dn_keep (HI.out.d9 (dn_old h (by decide))), fun h => dn_keep (HI.out.d10 (dn_old h (by decide)))⟩⟩
      · skip
        clear hdep
        refine wpOp_step rfl (fun K hK => ?_)
        go_simp
        exact hK _ _ ⟨_, _, _, _, _, _, _, _, _, rfl, ⟨(by rw [Array.size_setIfInBounds]; exact HI.out.hs), hbw.alloc hsz _, fun h => HI.out.h0 (dn_old h (by decide)), fun h => HI.out.h1 (dn_old h (by decide)), fun h => HI.out.h2 (dn_old h (by decide)), fun h => HI.out.h3 (dn_old h (by decide)), fun h => HI.out.h4 (dn_old h (by decide)), fun h => HI.out.h5 (dn_old h (by decide)), fun h => HI.out.h6 (dn_old h (by decide)), fun h => by
          obtain ⟨b, c0, c1, c2, h1, h2, h3⟩ := HI.out.h7 (dn_old h (by decide))
          exact ⟨b, c0, c1, c2, h1, h2.later (below_box2 _ _), fun h => h3 (dn_old h (by decide))⟩, fun _ => ⟨wx.heap.size, _, _, _, rfl, Blk3.new hsz _ _ _ _, fun h => (dn_not HF.out (HI.out.d10 (dn_old h (by decide)))).elim⟩, fun h _ => by
          obtain ⟨b, _, _, _, h1, h2, _⟩ := HI.out.h7 (dn_old h (by decide))
          rw [h1]
          intro e
          cases e
          exact Nat.lt_irrefl _ h2.hi, fun h => dn_keep (HI.out.d9 (dn_old h (by decide))), fun h => dn_keep (HI.out.d10 (dn_old h (by decide)))⟩⟩
      · skip
        have q7 : dn L 7 := hdep _ rfl { on := 7, ground := .data } (by simp) rfl
        have q3 : dn L 3 := hdep _ rfl { on := 3, ground := .data } (by simp) rfl
        clear hdep
        obtain ⟨b, e0, e1, e2, rfl, B, _⟩ := HI.out.h7 q7
        obtain rfl := HI.out.h3 q3
        have HBK := hid B
        obtain ⟨lo, hi, k0, k1, k2, g0, g1, g2⟩ := B
        refine wpOp_step rfl (fun K hK => ?_)
        go_simp
        exact hK _ _ ⟨_, _, _, _, _, _, _, _, _, rfl, ⟨(by rw [Array.size_setIfInBounds]; exact HI.out.hs), below_set3 hbw HBK.out.lo _ _ _, fun h => HI.out.h0 (dn_old h (by decide)), fun h => HI.out.h1 (dn_old h (by decide)), fun h => HI.out.h2 (dn_old h (by decide)), fun h => HI.out.h3 (dn_old h (by decide)), fun h => HI.out.h4 (dn_old h (by decide)), fun h => HI.out.h5 (dn_old h (by decide)), fun h => HI.out.h6 (dn_old h (by decide)), fun _ => ⟨b, _, _, _, rfl, HBK.out.set _ _ _, fun _ => ⟨rfl, rfl, rfl⟩⟩, fun h => by
          obtain ⟨b2, c0, c1, c2, h1, h2, h3⟩ := HI.out.h8 (dn_old h (by decide))
          refine ⟨b2, c0, c1, c2, h1, h2.other (fun e => ?_) _ _ _, fun h => h3 (dn_old h (by decide))⟩
          subst e
          exact HI.out.hne q7 (dn_old h (by decide)) h1.symm, fun h h' => HI.out.hne (dn_old h (by decide)) (dn_old h' (by decide)), fun _ => dn_keep q7, fun h => dn_keep (HI.out.d10 (dn_old h (by decide)))⟩⟩
      · skip
        have q8 : dn L 8 := hdep _ rfl { on := 8, ground := .data } (by simp) rfl
        have q6 : dn L 6 := hdep _ rfl { on := 6, ground := .data } (by simp) rfl
        clear hdep
        obtain ⟨b, e0, e1, e2, rfl, B, _⟩ := HI.out.h8 q8
        obtain rfl := HI.out.h6 q6
        have HBK := hid B
        obtain ⟨lo, hi, k0, k1, k2, g0, g1, g2⟩ := B
        refine wpOp_step rfl (fun K hK => ?_)
        go_simp
        exact hK _ _ ⟨_, _, _, _, _, _, _, _, _, rfl, ⟨(by rw [Array.size_setIfInBounds]; exact HI.out.hs), below_set3 hbw HBK.out.lo _ _ _, fun h => HI.out.h0 (dn_old h (by decide)), fun h => HI.out.h1 (dn_old h (by decide)), fun h => HI.out.h2 (dn_old h (by decide)), fun h => HI.out.h3 (dn_old h (by decide)), fun h => HI.out.h4 (dn_old h (by decide)), fun h => HI.out.h5 (dn_old h (by decide)), fun h => HI.out.h6 (dn_old h (by decide)), fun h => by
          obtain ⟨b2, c0, c1, c2, h1, h2, h3⟩ := HI.out.h7 (dn_old h (by decide))
          refine ⟨b2, c0, c1, c2, h1, h2.other (fun e => ?_) _ _ _, fun h => h3 (dn_old h (by decide))⟩
          subst e
          exact HI.out.hne (dn_old h (by decide)) q8 h1, fun _ => ⟨b, _, _, _, rfl, HBK.out.set _ _ _, fun _ => ⟨rfl, rfl, rfl⟩⟩, fun h h' => HI.out.hne (dn_old h (by decide)) (dn_old h' (by decide)), fun h => dn_keep (HI.out.d9 (dn_old h (by decide))), fun _ => dn_keep q8⟩⟩
    case hend =>
      rintro L act wx ⟨sv5, sv6, sv14, sv15, sv16, sv17, sv18, sv19, sv20, rfl, I⟩ hrd
      have D := all_done2 I.hs (by kernel_rfl) hrd
      obtain ⟨b3, _, _, _, rfl, B3, h3⟩ := I.h7 (D 7 (by decide))
      obtain ⟨rfl, rfl, rfl⟩ := h3 (D 9 (by decide))
      obtain ⟨b4, _, _, _, rfl, B4, h4⟩ := I.h8 (D 8 (by decide))
      obtain ⟨rfl, rfl, rfl⟩ := h4 (D 10 (by decide))
      obtain ⟨_, n0, n1, g0, g1⟩ := HCB.out _ I.hb
      have HBX := hid (HBW.out.trans (I.hb.mono HBW.out.size))
      have x0 := B3.e0
      have x1 := B3.e1
      have x2 := B3.e2
      have y0 := B4.e0
      have y1 := B4.e1
      have y2 := B4.e2
      have HL := hid I.hb
      clear I D hrd h3 h4 B3 B4
      go_wp2_with fail
      refine (HPH.out _).mono ?_
      rintro e w9 ⟨rfl, hb9⟩
      have m0 := cell_later hb9 n0
      have m1 := cell_later hb9 n1
      have hlt : w.heap.size + 1 < wx.heap.size := by have := HL.out.size; have := HL2.out; omega
      have u0 := (hb9.frozen (p := ⟨w.heap.size + 1, 0, none⟩) hlt).trans g0
      have u1 := (hb9.frozen (p := ⟨w.heap.size + 1, 1, none⟩) hlt).trans g1
      have HB9 := hid (HBX.out.trans (hb9.mono HBX.out.size))
      clear hb9
      go_wp2_with fail
      refine bodyPost_ret (v := .agg #[.int .i64 x, .int .i64 y]) (by simp [results, Try.results38, go_sem]; go_simp) rfl ?_
      exact ⟨rfl, below_set2 HB9.out (Nat.le_succ _) _ _⟩

end Go.Proofs.Ytfjbdbfeolfcfaa

/-! Cp5 -/
set_option linter.unusedVariables false
namespace Go.Proofs.Ytfjbdbfeolfcfaa
open Go.RowKit

theorem conOf_yes {xs vs : List Int} {f v : Value} (h : pointB xs vs = true) : conOf xs vs f v = .tuple #[conA vs f v, .bool true] := by unfold conOf; rw [h, if_pos rfl]
theorem conOf_no {xs vs : List Int} {f v : Value} (h : pointB xs vs = false) : conOf xs vs f v = .tuple #[.agg #[.slice none 0 0, .slice none 0 0, .int .i64 0, .int .i64 0, .int .i64 0], .bool false] := by unfold conOf; rw [h]; rfl
theorem conOf_form (xs vs : List Int) (a a' : Option Addr) (n n' k k' : Nat) : ∃ (b b' : Option Addr) (m m' j j' : Nat) (c0 c1 c2 : Int), conOf xs vs (.slice a n k) (.slice a' n' k') = .tuple #[.agg #[.slice b m j, .slice b' m' j', .int .i64 c0, .int .i64 c1, .int .i64 c2], .bool (pointB xs vs)] := by
  cases h : pointB xs vs with
  | false => exact ⟨_, _, _, _, _, _, 0, 0, 0, conOf_no h⟩
  | true =>
    rw [conOf_yes h]
    obtain ⟨c2, c3, hC, _⟩ := conA_form vs (.slice a n k) (.slice a' n' k')
    rw [hC]
    exact ⟨_, _, _, _, _, _, _, _, _, rfl⟩
set_option maxRecDepth 100000 in
set_option maxHeartbeats 1000000 in
theorem conicPoint_any (vf vv : Value) (xs vs : List Int) (w : World) (hx : Rd w vf xs) (hv : Rd w vv vs) : Calls Try.prog 10 #[vf, vv] w fun e w' => e = .returned (.bool (pointB xs vs)) ∧ Below w.heap.size w w' := by
  have HC := hid (conicOf_any vf vv xs vs w hx hv)
  obtain ⟨a, cap, rfl, _⟩ := hx.form
  obtain ⟨a', cap', rfl, _⟩ := hv.form
  obtain ⟨_, _, _, _, _, _, c0, c1, c2, h⟩ := conOf_form xs vs a a' xs.length vs.length cap cap'
  rw [h] at HC
  clear h hx hv
  go_enter Try.func10, Try.ntmps10
  go_wp2_with fail
  refine (HC.out).mono ?_
  rintro e w2 ⟨rfl, hb2⟩
  go_wp2_with fail
  go_ret
  exact ⟨rfl, hb2.alloc hb2.size _⟩

theorem other_empty2 {xs vs ws : List Int} {w w1 : World} {g : Nat} (h : otherOk xs vs ws = false) (hb : Below w.heap.size w w1) (hg : w1.heap.size = g) : OtherPost xs vs ws w (.returned (.tuple #[.slice (some ⟨g, 0, none⟩) 0 0, .bool false])) (w1.alloc (.cells #[] 3)) := by
  subst hg
  exact other_empty h hb
set_option maxRecDepth 100000 in
set_option maxHeartbeats 8000000 in
theorem other_any (vf vv vw : Value) (xs vs ws : List Int) (w : World) (hx : Rd w vf xs) (hv : Rd w vv vs) (hw : Rd w vw ws) (hp : pointB xs vs = true) : Calls Try.prog 39 #[conA vs vf vv, vw] w (OtherPost xs vs ws w) := by
  obtain ⟨a, cap, rfl, _⟩ := hx.form
  obtain ⟨a', cap', rfl, _⟩ := hv.form
  obtain ⟨a3, cap3, rfl, _⟩ := hw.form
  have hxl := (pointB_iff.1 hp).1
  have hz := (pointB_iff.1 hp).2.1
  have hpl := (pointB_iff.1 hp).2.2.1
  have hvl : vs.length = 3 := by rw [(zeroB_iff.1 hz).2.2.1, hxl]
  have hsm := (zeroB_iff.1 hz).2.2.2.1
  have hf := (zeroB_iff.1 hz).2.1
  rw [hxl] at hx ⊢
  rw [hvl] at hv ⊢
  obtain ⟨c2, c3, hC, _⟩ := conA_form vs (.slice a 3 cap) (.slice a' 3 cap')
  have hB0 := below_box2 w (.cells #[.slice a 3 cap, .slice a' 3 cap', .int .i64 c2, .int .i64 c3, .int .i64 2] 50)
  have hvw : (inAll ws 20 && decide ((ws.length : Int) = 3)) = vecB xs ws 20 := by
    rw [Bool.eq_iff_iff, vecB_iff]
    unfold inAll inR
    simp only [Bool.and_eq_true, List.all_eq_true, decide_eq_true_eq]
    constructor
    · rintro ⟨h1, h2⟩; exact ⟨h1, hf, by omega⟩
    · rintro ⟨h1, h2, h3⟩; exact ⟨h1, by omega⟩
  have HBX := hid (hx.keep hB0)
  have HBV := hid (hv.keep hB0)
  have HBW := hid (hw.keep hB0)
  have HB0 := hid hB0
  cases hwb : vecB xs ws 20 with
  | false =>
    have HN := hid (other_no2 (vs := vs) hwb)
    have HV2 := hid (hvw.trans hwb)
    rw [hC]
    clear hx hv hw hp hxl hz hpl hvl hsm hf hC hB0 hvw hwb
    go_enter Try.func39, Try.ntmps39
    go_wp2_with (go_at_call 60; refine (vectorWithin_any _ ws 3 20 (by omega) (by omega) _ HBW.out).mono ?_; rw [HV2.out]; rintro e w' ⟨rfl, rfl⟩)
    go_ret2
    exact other_empty2 HN.out HB0.out (by simp)
  | true =>
    have L := line_facts hp hwb
    have HV2 := hid (hvw.trans hwb)
    have hwl := L.lw
    have h11 : Vec11 ws := fun v hv => by have := L.w6 v hv; omega
    rw [hwl] at hw HBW ⊢
    have HMU : Hid (∀ wx : World, Below (w.alloc (.cells #[.slice a 3 cap, .slice a' 3 cap', .int .i64 c2, .int .i64 c3, .int .i64 2] 50)).heap.size (w.alloc (.cells #[.slice a 3 cap, .slice a' 3 cap', .int .i64 c2, .int .i64 c3, .int .i64 2] 50)) wx → Calls Try.prog 67 #[.agg #[.slice a 3 cap, .slice a' 3 cap', .int .i64 c2, .int .i64 c3, .int .i64 2], .slice a3 3 cap3] wx fun e w' => e = .returned (.bool (multB vs ws)) ∧ Below wx.heap.size wx w') := hid (fun wx h => by
      rw [← hC]
      exact multiple_any _ _ _ vs ws wx (HBV.out.keep h) (HBW.out.keep h) hvl hwl h11 hsm hpl)
    cases hm : multB vs ws with
    | true =>
      have HN := hid (other_no3 (xs := xs) hm)
      rw [hm] at HMU
      rw [hC]
      clear hx hv hw hp hxl hz hpl hvl hsm hf hC hB0 hvw hwb L hwl h11 hm
      go_enter Try.func39, Try.ntmps39
      go_wp2_with (first | (go_at_call 60; refine (vectorWithin_any _ ws 3 20 (by omega) (by omega) _ HBW.out).mono ?_; rw [HV2.out]; rintro e w' ⟨rfl, rfl⟩) | (go_at_call 67; refine (HMU.out _ (Below.refl _ _)).mono ?_; rintro e w2 ⟨rfl, hb2⟩))
      go_ret2
      exact other_empty HN.out (HB0.out.trans (hb2.mono HB0.out.size))
    | false =>
      have HE := hid (other_eq hp hwb hm)
      have HSM := hid (line_some2 hp hwb hm)
      have HBD := hid (line_bd L)
      have HVAL : Hid (∀ w : World, Rd w (.slice a 3 cap) xs → Rd w (.slice a3 3 cap3) ws → Calls Try.prog 66 #[.slice a 3 cap, .slice a3 3 cap3, .slice a3 3 cap3] w fun e w' => e = .returned (.int .i64 (valI xs ws 3)) ∧ ∃ k, w' = w.drewN k) := hid (fun w h1 h2 => by
        have := pairAt_any _ _ _ xs ws ws w h1 h2 h2 L.hf L.w6 L.w6 (by rw [L.lw, L.lx]) (by rw [L.lw, L.lx])
        rwa [pair_self, show valI xs ws xs.length = valI xs ws 3 by rw [L.lx]] at this)
      have HPR : Hid (∀ w : World, Rd w (.slice a 3 cap) xs → Rd w (.slice a' 3 cap') vs → Rd w (.slice a3 3 cap3) ws → Calls Try.prog 66 #[.slice a 3 cap, .slice a' 3 cap', .slice a3 3 cap3] w fun e w' => e = .returned (.int .i64 (pairI xs vs ws 3)) ∧ ∃ k, w' = w.drewN k) := hid (fun w h1 h2 h3 => by
        have := pairAt_any _ _ _ xs vs ws w h1 h2 h3 L.hf L.v6 L.w6 (by rw [L.lv, L.lx]) (by rw [L.lw, L.lx])
        rwa [show pairI xs vs ws xs.length = pairI xs vs ws 3 by rw [L.lx]] at this)
      have HAT := hid (fun K (hK : K < 3) => line_at xs vs ws hK)
      have hq1 := L.q1
      have hq2 := L.q2
      have hp1 := L.p1
      have hp2 := L.p2
      obtain ⟨q, hq⟩ : ∃ q, q = valI xs ws 3 := ⟨_, rfl⟩
      obtain ⟨p, hpp⟩ : ∃ p, p = pairI xs vs ws 3 := ⟨_, rfl⟩
      rw [← hq] at HVAL HAT hq1 hq2
      rw [← hpp] at HPR HAT hp1 hp2
      have HPL := hid (plainL_len (lineL xs vs ws))
      have HON : Hid (otherOk xs vs ws = decide (hgtL (plainL (lineL xs vs ws)) ≤ 1000000)) := hid (by unfold otherOk; rw [hp, hwb, hm]; rfl)
      have HOY : Hid (otherOk xs vs ws = true → otherL xs vs ws = plainL (lineL xs vs ws)) := hid otherL_yes
      have HLL := hid (line_len xs vs ws)
      have HPB : Hid (Vec11 (plainL (lineL xs vs ws))) := hid (fun v hv => by
        have h1 := hgt_ge hv
        have h2 := hgt_plain (line_some2 hp hwb hm)
        have h3 := gcdL_pos (line_some2 hp hwb hm)
        have h4 : hgtL (lineL xs vs ws) ≤ 100000000000 := hgt_le fun x hx => by have := line_bd L x hx; omega
        have h5 := Nat.le_mul_of_pos_left (hgtL (plainL (lineL xs vs ws))) h3
        omega)
      obtain ⟨L0, hL0⟩ : ∃ L0, L0 = lineL xs vs ws := ⟨_, rfl⟩
      rw [← hL0] at HAT HBD HSM HE HPL HOY HLL HON HPB
      have HLO := hid L
      have HLV := hid hvl
      have HLW := hid hwl
      have w2p := wrapW (x := 2 * p) (by omega) (by omega)
      rw [hm] at HMU
      rw [hC]
      clear hx hv hw hp hxl hz hpl hvl hsm hf hC hB0 hvw hwb L hwl h11 hm hq hpp hL0
      have hrr := Below.refl (w.alloc (.cells #[.slice a 3 cap, .slice a' 3 cap', .int .i64 c2, .int .i64 c3, .int .i64 2] 50)).heap.size (w.alloc (.cells #[.slice a 3 cap, .slice a' 3 cap', .int .i64 c2, .int .i64 c3, .int .i64 2] 50))
      have HRR := hid hrr
      clear hrr
      go_enter Try.func39, Try.ntmps39
      go_wp2_with (first | (go_at_call 60; refine (vectorWithin_any _ ws 3 20 (by omega) (by omega) _ HBW.out).mono ?_; rw [HV2.out]; rintro e w' ⟨rfl, rfl⟩) | (go_at_call 67; refine (HMU.out _ HRR.out).mono ?_; rintro e w2 ⟨rfl, hb2⟩; obtain ⟨k0, k1, k2, k3, k4⟩ := cells5 hb2; have HB2 := hid hb2; clear hb2))
      refine (HVAL.out _ (HBX.out.keep HB2.out) (HBW.out.keep HB2.out)).mono ?_
      rintro e w3 ⟨rfl, n3, hw3⟩
      have HB3 := hid (show Below _ _ w3 by rw [hw3]; exact below_drewN HB2.out n3)
      obtain ⟨j0, j1, j2, j3, j4⟩ := cells5 HB3.out
      clear hw3 k0 k1 k2 k3 k4
      go_wp2_with fail
      refine (HPR.out _ (HBX.out.keep HB3.out) (HBV.out.keep HB3.out) (HBW.out.keep HB3.out)).mono ?_
      rintro e w4 ⟨rfl, n4, hw4⟩
      have HB4 := hid (show Below _ _ w4 by rw [hw4]; exact below_drewN HB3.out n4)
      obtain ⟨i0, i1, i2, i3, i4⟩ := cells5 HB4.out
      have m1 := cell_later (below_box2 w4 (.cells #[] 3)) i1
      clear hw4 j0 j1 j2 j3 j4 HB2 HB3
      have HVK : Hid (∀ wx : World, Below w4.heap.size w4 wx → Rd wx (.slice a' 3 cap') vs) := hid (fun wx hbx => (HBV.out.keep HB4.out).keep hbx)
      have HWK : Hid (∀ wx : World, Below w4.heap.size w4 wx → Rd wx (.slice a3 3 cap3) ws) := hid (fun wx hbx => (HBW.out.keep HB4.out).keep hbx)
      have HBE := hid ((Below.refl w4.heap.size w4).alloc (Nat.le_refl _) (.cells #[] 3))
      have HO0 : Hid (Owns (w4.alloc (.cells #[] 3)) w4.heap.size (.slice (some ⟨w4.heap.size, 0, none⟩) 0 0) []) := hid (World.ownsRow_made (size := 1) w4 #[] 0 (Nat.le_refl _) (by unfold maxLen; omega) rfl)
      have HB4w := hid (HB0.out.trans (HB4.out.mono HB0.out.size))
      go_wp2_with fail
      go_loopw [8, 36] (fun so si wr => ∃ K : Nat, si = .int .i64 K ∧ K ≤ 3 ∧ Hid (Owns wr w4.heap.size so (L0.take K)) ∧ Hid (Below w4.heap.size w4 wr)) (fun _ si _ => 3 - (intOf si).toNat)
      case atStart => exact ⟨0, rfl, by omega, hid (by simpa using HO0.out), HBE⟩
      case round =>
        obtain ⟨K, rfl, hK, HO, HL⟩ := hrel
        rename World => wr
        have hbs : w4.heap.size ≤ wr.heap.size := HL.out.size
        by_cases hlt : K < 3
        · have hlv := HLV.out
          have hlw := HLW.out
          obtain ⟨a2, cp2, e2, hform⟩ := (HVK.out wr HL.out).form
          simp only [Value.slice.injEq, hlv, true_and] at e2
          obtain ⟨rfl, rfl⟩ := e2
          obtain ⟨bb, o, rfl, hml, hc⟩ := hform (by omega)
          have hcell := hc K (by omega)
          obtain ⟨a4, cp4, e4, hform3⟩ := (HWK.out wr HL.out).form
          simp only [Value.slice.injEq, hlw, true_and] at e4
          obtain ⟨rfl, rfl⟩ := e4
          obtain ⟨b3, o3, rfl, hml3, hc3⟩ := hform3 (by omega)
          have hcell3 := hc3 K (by omega)
          have hx1 := HLO.out.bv _ (show vs.getD K 0 ∈ vs by rw [getD_at _ _ (by omega)]; exact List.getElem_mem _)
          have hy1 := HLO.out.bw _ (show ws.getD K 0 ∈ ws by rw [getD_at _ _ (by omega)]; exact List.getElem_mem _)
          have HS : Hid (L0.take (K + 1) = L0.take K ++ [q * vs.getD K 0 - 2 * p * ws.getD K 0]) := hid (by rw [takeD_snoc (by have := HLL.out; omega), HAT.out K hlt])
          obtain ⟨x, hx⟩ : ∃ x, x = vs.getD K 0 := ⟨_, rfl⟩
          obtain ⟨y, hy⟩ : ∃ y, y = ws.getD K 0 := ⟨_, rfl⟩
          rw [← hx] at hcell hx1 HS
          rw [← hy] at hcell3 hy1 HS
          have m1 := prod_bd2 (x := q) (y := x) (m := 36000) (n := 1000) (by omega) (by omega)
          have m2 := prod_bd2 (x := 2 * p) (y := y) (m := 3600000) (n := 20) (by omega) (by omega)
          have f1 : -100000000000 ≤ q * x := by omega
          have f2 : q * x ≤ 100000000000 := by omega
          have f3 : -100000000000 ≤ 2 * p * y := by omega
          have f4 : 2 * p * y ≤ 100000000000 := by omega
          have hi3 : (K : Int) < 3 := by omega
          have HLT := hid hlt
          obtain ⟨pre, hpre⟩ : ∃ pre, pre = L0.take K := ⟨_, rfl⟩
          have hprel : pre.length ≤ 4 := by rw [hpre, List.length_take]; omega
          rw [← hpre] at HO HS
          clear hform hform3 hc hc3 hx hy hlt hpre hlv hlw m1 m2 hx1 hy1 hml hml3
          obtain ⟨i0, hi, hz0, hz1, hz2⟩ := info_parts infoInt
          go_wp2_with (at_builtin; refine wpList_append_own_at _ rfl _ _ 23 rfl w4.heap.size 3 i0 (.int .i64 0) 1 8 Try.underlying23 hi hz0 hz1 hz2 rfl (by decide) _ _ _ rfl ((show World.ownsRow _ _ _ _ _ _ _ from HO.out).alloc _) ⟨wr.heap.size, 0, none⟩ 1 1 [.int .i64 (q * x - 2 * p * y)] rfl rfl (cell_one_new _ _ _) (by simp [Value.oneCell']) (by unfold maxLen; omega) (by omega) (by simp; omega) ?_; intro v' w5 hown' hgrow _ hat)
          have hsg := hgrow.size
          simp only [World.size_alloc] at hsg
          go_roundw
          case measure => simp only [intOf]; have := HLT.out; omega
          case rel =>
            refine ⟨K + 1, by go_num, by have := HLT.out; omega, hid ?_, hid (HL.out.alloc hbs _ |>.grown hgrow (by simp; omega) (fun k e => (HO.out.ge k e)))⟩
            rw [HS.out]
            unfold Owns
            simpa using hown'
        · have hKL : K = 3 := by omega
          have HO9 : Hid (Owns wr w4.heap.size u8 L0) := hid (by
            have := HO.out
            rwa [hKL, List.take_of_length_le (by have := HLL.out; omega)] at this)
          have hge : ¬ (K : Int) < 3 := by omega
          have HB9 := hid (HB4w.out.trans (HL.out.mono HB4w.out.size))
          clear hKL hlt HO HL
          go_wp2_with fail
          refine (plainOfW_any _ L0 _ HO9.out.rd (by have := HLL.out; omega) HBD.out HSM.out).mono ?_
          rintro e w6 ⟨u, rfl, ho6, hb6⟩
          have HB6 := hid (HB9.out.trans (hb6.mono HB9.out.size))
          have HO6 := hid (ho6.down HB9.out.size)
          clear ho6 hb6
          go_wp2_with fail
          refine (heightOfW_any _ (plainL L0) _ HO6.out.rd (by rw [HPL.out, HLL.out]; omega) HPB.out).mono ?_
          obtain ⟨g, hg⟩ : ∃ g, g = hgtL (plainL L0) := ⟨_, rfl⟩
          have HON2 := HON.out
          rw [← hg] at HON2 ⊢
          clear hg
          rintro e w7 ⟨rfl, rfl⟩
          by_cases hg6 : g ≤ 1000000
          · have HN : Hid (otherOk xs vs ws = true) := hid (by rw [HON2, decide_eq_true hg6])
            have T : ¬ (1000000 : Int) < (g : Int) := by omega
            clear HON2 hg6
            go_wp2_with fail
            go_ret2
            exact ⟨u, by rw [HN.out]; rfl, by rw [HOY.out HN.out]; exact HO6.out, HB6.out⟩
          · have HN : Hid (otherOk xs vs ws = false) := hid (by rw [HON2, decide_eq_false hg6])
            have T : (1000000 : Int) < (g : Int) := by omega
            clear HON2 hg6
            go_wp2_with fail
            go_ret2
            exact other_empty HN.out HB6.out

set_option maxRecDepth 100000 in
set_option maxHeartbeats 2000000 in
theorem conicOther_any (vf vv vw : Value) (xs vs ws : List Int) (w : World) (hx : Rd w vf xs) (hv : Rd w vv vs) (hw : Rd w vw ws) : Calls Try.prog 18 #[vf, vv, vw] w (OtherPost xs vs ws w) := by
  have HC := hid (conicOf_any vf vv xs vs w hx hv)
  have HX := hid hx
  have HV := hid hv
  have HW := hid hw
  obtain ⟨a, cap, rfl, _⟩ := hx.form
  obtain ⟨a', cap', rfl, _⟩ := hv.form
  obtain ⟨a3, cap3, rfl, _⟩ := hw.form
  clear hx hv hw
  cases hp : pointB xs vs with
  | false =>
    rw [conOf_no hp] at HC
    have HN := hid (other_no1 (ws := ws) hp)
    clear hp
    go_enter Try.func18, Try.ntmps18
    go_wp2_with fail
    refine (HC.out).mono ?_
    rintro e w2 ⟨rfl, hb2⟩
    go_wp2_with fail
    go_ret2
    exact other_empty2 HN.out (hb2.alloc hb2.size _) (by simp)
  | true =>
    rw [conOf_yes hp] at HC
    have HP := hid hp
    obtain ⟨c2, c3, hC, _⟩ := conA_form vs (.slice a xs.length cap) (.slice a' vs.length cap')
    have HO : Hid (∀ wx : World, Below w.heap.size w wx → Calls Try.prog 39 #[.agg #[.slice a xs.length cap, .slice a' vs.length cap', .int .i64 c2, .int .i64 c3, .int .i64 2], .slice a3 ws.length cap3] wx (OtherPost xs vs ws wx)) := hid (fun wx h => by
      rw [← hC]
      exact other_any _ _ _ xs vs ws wx (HX.out.keep h) (HV.out.keep h) (HW.out.keep h) hp)
    rw [hC] at HC
    clear hp hC
    go_enter Try.func18, Try.ntmps18
    go_wp2_with fail
    refine (HC.out).mono ?_
    rintro e w2 ⟨rfl, hb2⟩
    have HB2 := hid (hb2.alloc hb2.size (.cells #[.slice a xs.length cap, .slice a' vs.length cap', .int .i64 c2, .int .i64 c3, .int .i64 2] 50))
    clear hb2
    go_wp2_with fail
    refine (HO.out _ HB2.out).mono ?_
    intro e w3 h3
    obtain ⟨u, rfl, h4, h5⟩ := other_up h3 HB2.out
    have H4 := hid h4
    have H5 := hid h5
    clear h3 h4 h5
    go_wp2_with fail
    go_ret2
    exact ⟨u, rfl, H4.out, H5.out⟩

set_option maxRecDepth 100000 in
set_option maxHeartbeats 4000000 in
theorem conicAt_any (vf vv : Value) (xs vs : List Int) (s t : Int) (w : World) (hx : Rd w vf xs) (hv : Rd w vv vs) : Calls Try.prog 13 #[vf, vv, .int .i64 s, .int .i64 t] w (OtherPost xs vs (headL vs s t) w) := by
  have HC := hid (conicOf_any vf vv xs vs w hx hv)
  have HX := hid hx
  have HV := hid hv
  obtain ⟨a, cap, rfl, _⟩ := hx.form
  obtain ⟨a', cap', rfl, _⟩ := hv.form
  clear hx hv
  cases hp : pointB xs vs with
  | false =>
    rw [conOf_no hp] at HC
    have HN := hid (other_no1 (ws := headL vs s t) hp)
    clear hp
    go_enter Try.func13, Try.ntmps13
    go_wp2_with fail
    refine (HC.out).mono ?_
    rintro e w2 ⟨rfl, hb2⟩
    go_wp2_with fail
    go_ret2
    exact other_empty2 HN.out (hb2.alloc hb2.size _) (by simp)
  | true =>
    rw [conOf_yes hp] at HC
    have HP := hid hp
    obtain ⟨c2, c3, hC, _⟩ := conA_form vs (.slice a xs.length cap) (.slice a' vs.length cap')
    have HO : Hid (∀ (wx : World) (u : Value), Below w.heap.size w wx → Rd wx u (headL vs s t) → Calls Try.prog 39 #[.agg #[.slice a xs.length cap, .slice a' vs.length cap', .int .i64 c2, .int .i64 c3, .int .i64 2], u] wx fun e w' => ∃ u, e = .returned (.tuple #[u, .bool (otherOk xs vs (headL vs s t))]) ∧ Owns w' w.heap.size u (otherL xs vs (headL vs s t)) ∧ Below w.heap.size w w' ∧ Below wx.heap.size wx w') := hid (fun wx u h hr => by
      rw [← hC]
      refine (other_any _ _ _ xs vs (headL vs s t) wx (HX.out.keep h) (HV.out.keep h) hr hp).mono ?_
      intro e w' h2
      have h3 : Below wx.heap.size wx w' := by obtain ⟨_, _, _, h⟩ := h2; exact h
      obtain ⟨u3, h4, h5, h6⟩ := other_up h2 h
      exact ⟨u3, h4, h5, h6, h3⟩)
    have HD : Hid (∀ wx : World, Below w.heap.size w wx → Calls Try.prog 40 #[.agg #[.slice a xs.length cap, .slice a' vs.length cap', .int .i64 c2, .int .i64 c3, .int .i64 2], .agg #[.int .i64 s, .int .i64 t]] wx fun e w' => ∃ u, e = .returned u ∧ Rd w' u (headL vs s t) ∧ Below w.heap.size w w' ∧ Below wx.heap.size wx w') := hid (fun wx h => by
      rw [← hC]
      refine (direction_any _ _ vs s t wx).mono ?_
      rintro e w' ⟨u, rfl, ho, hb⟩
      exact ⟨u, rfl, ho.rd, h.trans (hb.mono h.size), hb⟩)
    rw [hC] at HC
    clear hp hC
    go_enter Try.func13, Try.ntmps13
    go_wp2_with fail
    refine (HC.out).mono ?_
    rintro e w2 ⟨rfl, hb2⟩
    have hB := hb2.alloc hb2.size (.cells #[.slice a xs.length cap, .slice a' vs.length cap', .int .i64 c2, .int .i64 c3, .int .i64 2] 50)
    have hbd := below_dw hB
    have e0 := heap_alloc_new w2 (.cells #[.slice a xs.length cap, .slice a' vs.length cap', .int .i64 c2, .int .i64 c3, .int .i64 2] 50)
    have d0 : (w2.alloc (.cells #[.slice a xs.length cap, .slice a' vs.length cap', .int .i64 c2, .int .i64 c3, .int .i64 2] 50)).drew.cell? ⟨w2.heap.size, 0, none⟩ = some (.slice a xs.length cap) := cell_h (W := w2.alloc _) e0
    have d1 : (w2.alloc (.cells #[.slice a xs.length cap, .slice a' vs.length cap', .int .i64 c2, .int .i64 c3, .int .i64 2] 50)).drew.cell? ⟨w2.heap.size, 1, none⟩ = some (.slice a' vs.length cap') := cell_h (W := w2.alloc _) e0
    have d2 : (w2.alloc (.cells #[.slice a xs.length cap, .slice a' vs.length cap', .int .i64 c2, .int .i64 c3, .int .i64 2] 50)).drew.cell? ⟨w2.heap.size, 2, none⟩ = some (.int .i64 c2) := cell_h (W := w2.alloc _) e0
    have d3 : (w2.alloc (.cells #[.slice a xs.length cap, .slice a' vs.length cap', .int .i64 c2, .int .i64 c3, .int .i64 2] 50)).drew.cell? ⟨w2.heap.size, 3, none⟩ = some (.int .i64 c3) := cell_h (W := w2.alloc _) e0
    have d4 : (w2.alloc (.cells #[.slice a xs.length cap, .slice a' vs.length cap', .int .i64 c2, .int .i64 c3, .int .i64 2] 50)).drew.cell? ⟨w2.heap.size, 4, none⟩ = some (.int .i64 2) := cell_h (W := w2.alloc _) e0
    clear e0 hB hb2
    go_wp2_with fail
    go_region_held3 (fun wx => Below w.heap.size w wx ∧ wx.cell? ⟨w2.heap.size, 0, none⟩ = some (.slice a xs.length cap) ∧ wx.cell? ⟨w2.heap.size, 1, none⟩ = some (.slice a' vs.length cap') ∧ wx.cell? ⟨w2.heap.size, 2, none⟩ = some (.int .i64 c2) ∧ wx.cell? ⟨w2.heap.size, 3, none⟩ = some (.int .i64 c3) ∧ wx.cell? ⟨w2.heap.size, 4, none⟩ = some (.int .i64 2)) (exact ⟨by assumption, by assumption, by assumption, by assumption, by assumption, by assumption⟩)
      (first
        | (go_at_call 40; refine (HD.out _ (by assumption)).mono ?_; rintro e wP ⟨u, rfl, hru, hbp, hbk⟩; have x0 := cell_later hbk d0; have x1 := cell_later hbk d1; have x2 := cell_later hbk d2; have x3 := cell_later hbk d3; have x4 := cell_later hbk d4)
        | (go_at_call 39; refine (HO.out _ _ (by assumption) (by assumption)).mono ?_; rintro e wQ ⟨u3, rfl, ho3, hb3, hbq⟩; have y0 := cell_later hbq x0; have y1 := cell_later hbq x1; have y2 := cell_later hbq x2; have y3 := cell_later hbq x3; have y4 := cell_later hbq x4))
    go_wp2
    go_ret2
    exact ⟨u3, rfl, ho3, hb3⟩

set_option maxRecDepth 100000 in
set_option maxHeartbeats 4000000 in
theorem conicBack_any (vf vv vz : Value) (xs vs zs : List Int) (w : World) (hx : Rd w vf xs) (hv : Rd w vv vs) (hz : Rd w vz zs) : Calls Try.prog 12 #[vf, vv, vz] w fun e w' => e = .returned (backV xs vs zs) ∧ Below w.heap.size w w' := by
  have HC := hid (conicOf_any vf vv xs vs w hx hv)
  have HX := hid hx
  have HV := hid hv
  have HZ := hid hz
  obtain ⟨a, cap, rfl, _⟩ := hx.form
  obtain ⟨a', cap', rfl, _⟩ := hv.form
  obtain ⟨a3, cap3, rfl, _⟩ := hz.form
  clear hx hv hz
  cases hp : pointB xs vs with
  | false =>
    rw [conOf_no hp] at HC
    have HN := hid (backV_no (xs := xs) (vs := vs) (zs := zs) (by unfold backOk; rw [hp]; rfl))
    clear hp
    go_enter Try.func12, Try.ntmps12
    go_wp2_with fail
    refine (HC.out).mono ?_
    rintro e w2 ⟨rfl, hb2⟩
    go_wp2_with fail
    go_ret3
    exact ⟨retV HN.out.symm, hb2.alloc hb2.size _⟩
  | true =>
    rw [conOf_yes hp] at HC
    have HP := hid hp
    obtain ⟨c2, c3, hC, _⟩ := conA_form vs (.slice a xs.length cap) (.slice a' vs.length cap')
    cases hzb : zeroB xs zs with
    | false =>
      have HN := hid (backV_no (xs := xs) (vs := vs) (zs := zs) (by unfold backOk; rw [hzb, Bool.and_false]))
      have HZB := hid hzb
      rw [hC] at HC
      clear hp hC hzb
      go_enter Try.func12, Try.ntmps12
      go_wp2_with fail
      refine (HC.out).mono ?_
      rintro e w2 ⟨rfl, hb2⟩
      have HB2 := hid (hb2.alloc hb2.size (.cells #[.slice a xs.length cap, .slice a' vs.length cap', .int .i64 c2, .int .i64 c3, .int .i64 2] 50))
      clear hb2
      go_wp2_with (go_at_call 37; refine (zeroIs_any _ _ xs zs _ (HX.out.keep HB2.out) (HZ.out.keep HB2.out)).mono ?_; rw [HZB.out]; rintro e w3 ⟨rfl, hb3⟩)
      go_ret3
      exact ⟨retV HN.out.symm, HB2.out.trans (hb3.mono HB2.out.size)⟩
    | true =>
      obtain ⟨x, y, hxy⟩ : ∃ x y, backL xs vs zs = [x, y] := by unfold backL; split <;> exact plain_two _ _
      have HY : Hid (backV xs vs zs = .tuple #[.int .i64 x, .int .i64 y, .bool true]) := hid (by rw [backV_yes (by unfold backOk; rw [hp, hzb]; rfl), hxy]; rfl)
      have HBK : Hid (∀ wx : World, Below w.heap.size w wx → Calls Try.prog 38 #[.agg #[.slice a xs.length cap, .slice a' vs.length cap', .int .i64 c2, .int .i64 c3, .int .i64 2], .slice a3 zs.length cap3] wx fun e w' => e = .returned (.agg #[.int .i64 x, .int .i64 y]) ∧ Below wx.heap.size wx w') := hid (fun wx h => by
        rw [← hC]
        exact back_any _ _ _ xs vs zs wx (HX.out.keep h) (HV.out.keep h) (HZ.out.keep h) hp hzb x y hxy)
      have HZB := hid hzb
      rw [hC] at HC
      clear hp hC hzb hxy
      go_enter Try.func12, Try.ntmps12
      go_wp2_with fail
      refine (HC.out).mono ?_
      rintro e w2 ⟨rfl, hb2⟩
      have HB2 := hid (hb2.alloc hb2.size (.cells #[.slice a xs.length cap, .slice a' vs.length cap', .int .i64 c2, .int .i64 c3, .int .i64 2] 50))
      clear hb2
      go_wp2_with (go_at_call 37; refine (zeroIs_any _ _ xs zs _ (HX.out.keep HB2.out) (HZ.out.keep HB2.out)).mono ?_; rw [HZB.out]; rintro e w3 ⟨rfl, hb3⟩; obtain ⟨k0, k1, k2, k3, k4⟩ := cells5 hb3; have HB3 := hid (HB2.out.trans (hb3.mono HB2.out.size)); clear hb3)
      refine (HBK.out _ HB3.out).mono ?_
      rintro e w4 ⟨rfl, hb4⟩
      have HB4 := hid (HB3.out.trans (hb4.mono HB3.out.size))
      clear hb4
      go_wp2_with fail
      go_quiet (fail)
      go_wp2_with fail
      go_ret3
      exact ⟨retV HY.out.symm, below_drewN (HB4.out.alloc HB4.out.size _) _⟩

end Go.Proofs.Ytfjbdbfeolfcfaa

/-! RowWord -/
namespace Go.Proofs.Ytfjbdbfeolfcfaa
open Go.RowKit
/-- it is nil; or it leads to a row of 'cap' cells, the numbers 'zs' (the first 'len' are its elements), each fitting its kind -/
def IsRow (k : IntKind) (w : World) (a : Option Addr) (len cap : Nat) (zs : List Int) : Prop :=
  (a = none ∧ len = 0 ∧ cap = 0 ∧ zs = []) ∨
  ∃ x, a = some x ∧ len ≤ cap ∧ cap ≤ maxLen ∧ zs.length = cap ∧ (∀ i, i < zs.length → w.cell? (x.add i) = some (.int k (zs.getD i 0))) ∧ ∀ n ∈ zs, (Lit.int k n).wf = true
end Go.Proofs.Ytfjbdbfeolfcfaa
