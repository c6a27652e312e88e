/-
  Contracts of the program's chapter 6: back from a zero to its heading.
-/
import Derived.Test.YtenibnblibnocaaCp3
set_option linter.unusedVariables false
namespace Go.Proofs.Ytenibnblibnocaa
open Go.RowKit

/-- two calls beside each other, each answer in a variable of its own -/
structure BackI (x0 : Nat) (W : World) (C bv zv q0 q1 q2 r0 r1 r2 : Value) (L : Array Bool) (wx : World) (sv5 sv6 sv14 sv15 sv16 sv17 sv18 sv19 sv20 : Value) : Prop where
  hs : L.size = 11
  hb : Below W.heap.size W wx
  h0 : dn L 0 → sv14 = C
  h1 : dn L 1 → sv15 = .pointer (some ⟨x0, 1, none⟩)
  h2 : dn L 2 → sv16 = bv
  h3 : dn L 3 → sv17 = .agg #[q0, q1, q2]
  h4 : dn L 4 → sv18 = C
  h5 : dn L 5 → sv19 = zv
  h6 : dn L 6 → sv20 = .agg #[r0, r1, r2]
  h7 : dn L 7 → ∃ b c0 c1 c2, sv5 = .pointer (some ⟨b, 0, none⟩) ∧ Blk3 W wx b c0 c1 c2 ∧ (dn L 9 → c0 = q0 ∧ c1 = q1 ∧ c2 = q2)
  h8 : dn L 8 → ∃ b c0 c1 c2, sv6 = .pointer (some ⟨b, 0, none⟩) ∧ Blk3 W wx b c0 c1 c2 ∧ (dn L 10 → c0 = r0 ∧ c1 = r1 ∧ c2 = r2)
  hne : dn L 7 → dn L 8 → sv5 ≠ sv6
  d9 : dn L 9 → dn L 7
  d10 : dn L 10 → dn L 8
set_option maxRecDepth 100000 in
set_option maxHeartbeats 8000000 in
theorem back_any (f b z : Value) (xs vs zs : List Int) (w : World) (hf : Rd w f xs) (hb : Rd w b vs) (hzr : Rd w z zs) (hp : pointB xs vs = true) (hz : zeroB xs zs = true) (x y : Int) (hxy : backL xs vs zs = [x, y]) :
    Calls Try.prog 55 #[conA vs f b, z] w fun e w' => e = .returned (.agg #[.int .i64 x, .int .i64 y]) ∧ Below w.heap.size w w' := by
  have B := back_facts hp hz
  have hpl := (pointB_iff.1 hp).2.2.1
  have hsm := (zeroB_iff.1 (pointB_iff.1 hp).2.1).2.2.2.1
  have h11 : Vec11 zs := fun v hv => by have := B.bz v hv; omega
  have hmt : multB vs zs = true ↔ atB vs zs * atA vs vs - atB vs vs * atA vs zs = 0 ∧ atC zs * atA vs vs - atC vs * atA vs zs = 0 := by
    obtain ⟨_, _, _, _, _, _, rfl, rfl, _, P⟩ := point_pt hp
    obtain ⟨u, v, t, rfl⟩ := len3 B.lz
    exact back_mult P
  obtain ⟨a, cap, rfl, _⟩ := hf.form
  obtain ⟨a', cap', rfl, _⟩ := hb.form
  obtain ⟨az, capz, rfl, _⟩ := hzr.form
  rw [B.lx] at hf ⊢
  rw [B.lv] at hb ⊢
  rw [B.lz] at hzr ⊢
  obtain ⟨c2, c3, hC, _⟩ := conA_form vs (.slice a 3 cap) (.slice a' 3 cap')
  obtain ⟨W, hW, hWs, e0, e1, hBW⟩ := two_blk w (.slice a 3 cap) (.slice a' 3 cap') (.int .i64 c2) (.int .i64 c3) (.int .i64 2) 49 58
  have HMU : Hid (∀ wx : World, Below W.heap.size W wx → Calls Try.prog 74 #[.agg #[.slice a 3 cap, .slice a' 3 cap', .int .i64 c2, .int .i64 c3, .int .i64 2], .slice az 3 capz] wx fun e w' => e = .returned (.bool (multB vs zs)) ∧ Below W.heap.size W w' ∧ Below wx.heap.size wx w') := hid (fun wx h => by
    rw [← hC]
    refine (multiple_any _ _ _ vs zs wx ((hb.keep hBW).keep h) ((hzr.keep hBW).keep h) B.lv B.lz h11 hsm hpl).mono ?_
    rintro e w' ⟨rfl, hb⟩
    exact ⟨rfl, h.trans (hb.mono h.size), hb⟩)
  have HCB : Hid (∀ wx : World, Below W.heap.size W wx → (wx.cell? ⟨w.heap.size, 0, none⟩ = some (.slice a 3 cap) ∧ wx.cell? ⟨w.heap.size, 1, none⟩ = some (.slice a' 3 cap') ∧ wx.cell? ⟨w.heap.size, 2, none⟩ = some (.int .i64 c2) ∧ wx.cell? ⟨w.heap.size, 3, none⟩ = some (.int .i64 c3) ∧ wx.cell? ⟨w.heap.size, 4, none⟩ = some (.int .i64 2)) ∧ wx.cell? ⟨w.heap.size + 1, 0, none⟩ = some (.int .i64 0) ∧ wx.cell? ⟨w.heap.size + 1, 1, none⟩ = some (.int .i64 0) ∧ wx.frozen? ⟨w.heap.size + 1, 0, none⟩ = false ∧ wx.frozen? ⟨w.heap.size + 1, 1, none⟩ = false) := hid (fun wx h => by
    have f0 := (h.block w.heap.size (by omega)).trans e0
    have f1 := (h.block (w.heap.size + 1) (by omega)).trans e1
    exact ⟨⟨cell_h f0, cell_h f0, cell_h f0, cell_h f0, cell_h f0⟩, cell_h f1, cell_h f1, frozen_h f1, frozen_h f1⟩)
  have HBW := hid hBW
  have HL2 : Hid (W.heap.size = w.heap.size + 2) := hid hWs
  cases hm : multB vs zs with
  | true =>
    have hzz := hmt.1 hm
    have hl : plainL [atC xs * atC vs, -(atB vs xs * atB vs vs)] = [x, y] := by
      rw [← hxy]; unfold backL; rw [if_pos hzz]
    have HT : Hid (∀ wx : World, Below W.heap.size W wx → Calls Try.prog 79 #[.agg #[.slice a 3 cap, .slice a' 3 cap', .int .i64 c2, .int .i64 c3, .int .i64 2]] wx fun e w' => e = .returned (.agg #[.int .i64 x, .int .i64 y]) ∧ Below wx.heap.size wx w') := hid (fun wx h => by
      rw [← hC]
      exact tangent_any _ _ xs vs wx ((hf.keep hBW).keep h) ((hb.keep hBW).keep h) B.lx B.lv B.bx B.bv B.tg x y hl)
    rw [hm] at HMU
    rw [hC]
    have hr0 := Below.refl W.heap.size W
    obtain ⟨⟨d0, d1, d2, d3, d4⟩, _, _, _, _⟩ := HCB.out _ hr0
    clear hf hb hzr hp hz hxy B hpl hsm h11 hmt hC e0 e1 hBW hm hzz hl hWs
    go_enter Try.func55, Try.ntmps55
    go_wp2_with fail
    simp only [← hW]
    clear hW
    refine (HMU.out _ hr0).mono ?_
    rintro e w2 ⟨rfl, hb2, _⟩
    obtain ⟨⟨k0, k1, k2, k3, k4⟩, n0, n1, g0, g1⟩ := HCB.out _ hb2
    have HB2 := hid hb2
    clear hb2 d0 d1 d2 d3 d4
    go_wp2_with fail
    refine (HT.out _ HB2.out).mono ?_
    rintro e w9 ⟨rfl, hb9⟩
    have m0 := cell_later hb9 n0
    have m1 := cell_later hb9 n1
    have hlt : w.heap.size + 1 < w2.heap.size := by have := HB2.out.size; have := HL2.out; omega
    have u0 := (hb9.frozen (p := ⟨w.heap.size + 1, 0, none⟩) hlt).trans g0
    have u1 := (hb9.frozen (p := ⟨w.heap.size + 1, 1, none⟩) hlt).trans g1
    have HB9 := hid ((HBW.out.trans (HB2.out.mono HBW.out.size)).trans (hb9.mono (HBW.out.trans (HB2.out.mono HBW.out.size)).size))
    clear hb9
    go_wp2_with fail
    refine bodyPost_ret (v := .agg #[.int .i64 x, .int .i64 y]) (by simp [results, Try.results55, go_sem]; go_simp) rfl ?_
    exact ⟨rfl, below_set2 HB9.out (Nat.le_succ _) _ _⟩
  | false =>
    have hzz : ¬ (atB vs zs * atA vs vs - atB vs vs * atA vs zs = 0 ∧ atC zs * atA vs vs - atC vs * atA vs zs = 0) := fun h => by
      have := hmt.2 h
      rw [hm] at this
      cases this
    have hl : plainL [atB vs zs * atA vs vs - atB vs vs * atA vs zs, atC zs * atA vs vs - atC vs * atA vs zs] = [x, y] := by
      rw [← hxy]; unfold backL; rw [if_neg hzz]
    have HPB : Hid (∀ wx : World, Below W.heap.size W wx → Calls Try.prog 59 #[.agg #[.slice a 3 cap, .slice a' 3 cap', .int .i64 c2, .int .i64 c3, .int .i64 2], .slice a' 3 cap'] wx fun e w' => e = .returned (ptA vs vs) ∧ Below W.heap.size W w' ∧ Below wx.heap.size wx w') := hid (fun wx h => by
      rw [← hC]
      refine (pointOf_any _ _ _ vs vs wx ((hb.keep hBW).keep h) B.lv).mono ?_
      rintro e w' ⟨rfl, hb⟩
      exact ⟨rfl, h.trans (hb.mono h.size), hb⟩)
    have HPZ : Hid (∀ wx : World, Below W.heap.size W wx → Calls Try.prog 59 #[.agg #[.slice a 3 cap, .slice a' 3 cap', .int .i64 c2, .int .i64 c3, .int .i64 2], .slice az 3 capz] wx fun e w' => e = .returned (ptA vs zs) ∧ Below W.heap.size W w' ∧ Below wx.heap.size wx w') := hid (fun wx h => by
      rw [← hC]
      refine (pointOf_any _ _ _ vs zs wx ((hzr.keep hBW).keep h) B.lz).mono ?_
      rintro e w' ⟨rfl, hb⟩
      exact ⟨rfl, h.trans (hb.mono h.size), hb⟩)
    unfold ptA at HPB HPZ
    have hax1 := B.bv _ (atA_mem (vs := vs) B.lv)
    have hp1 := B.bv _ (atB_mem (vs := vs) B.lv)
    have hp2 := B.bv _ (atC_mem B.lv)
    have hza := B.bz _ (atA_mem (vs := vs) B.lz)
    have hz1 := B.bz _ (atB_mem (vs := vs) B.lz)
    have hz2 := B.bz _ (atC_mem B.lz)
    obtain ⟨q0, hq0⟩ : ∃ x, x = atA vs vs := ⟨_, rfl⟩
    obtain ⟨q1, hq1⟩ : ∃ x, x = atB vs vs := ⟨_, rfl⟩
    obtain ⟨q2, hq2⟩ : ∃ x, x = atC vs := ⟨_, rfl⟩
    obtain ⟨r0, hr0⟩ : ∃ x, x = atA vs zs := ⟨_, rfl⟩
    obtain ⟨r1, hr1⟩ : ∃ x, x = atB vs zs := ⟨_, rfl⟩
    obtain ⟨r2, hr2⟩ : ∃ x, x = atC zs := ⟨_, rfl⟩
    simp only [← hq0, ← hq1, ← hq2, ← hr0, ← hr1, ← hr2] at HPB HPZ hax1 hp1 hp2 hza hz1 hz2 hl hzz
    rw [hm] at HMU
    rw [hC]
    have m1 := prod_bd2 (x := r1) (y := q0) (m := 1000000) (n := 1000) (by omega) (by omega)
    have m2 := prod_bd2 (x := q1) (y := r0) (m := 1000) (n := 1000000) (by omega) (by omega)
    have m3 := prod_bd2 (x := r2) (y := q0) (m := 1000000) (n := 1000) (by omega) (by omega)
    have m4 := prod_bd2 (x := q2) (y := r0) (m := 1000) (n := 1000000) (by omega) (by omega)
    have HPH : Hid (∀ wx : World, Calls Try.prog 80 #[.int .i64 (r1 * q0 - q1 * r0), .int .i64 (r2 * q0 - q2 * r0)] wx fun e w' => e = .returned (.agg #[.int .i64 x, .int .i64 y]) ∧ Below wx.heap.size wx w') := hid (fun wx => plainHeading_any _ _ x y (by omega) (by omega) (two_some hzz) hl wx)
    have f1 : -1000000000 ≤ r1 * q0 := by omega
    have f2 : r1 * q0 ≤ 1000000000 := by omega
    have f3 : -1000000000 ≤ q1 * r0 := by omega
    have f4 : q1 * r0 ≤ 1000000000 := by omega
    have f5 : -1000000000 ≤ r2 * q0 := by omega
    have f6 : r2 * q0 ≤ 1000000000 := by omega
    have f7 : -1000000000 ≤ q2 * r0 := by omega
    have f8 : q2 * r0 ≤ 1000000000 := by omega
    have hrr := Below.refl W.heap.size W
    obtain ⟨⟨d0, d1, d2, d3, d4⟩, _, _, _, _⟩ := HCB.out _ hrr
    clear hf hb hzr hp hz hxy B hpl hsm h11 hmt hC e0 e1 hBW hm hzz hl hWs m1 m2 m3 m4 hax1 hp1 hp2 hza hz1 hz2 hq0 hq1 hq2 hr0 hr1 hr2
    go_enter Try.func55, Try.ntmps55
    go_wp2_with fail
    simp only [← hW]
    clear hW
    refine (HMU.out _ hrr).mono ?_
    rintro e w2 ⟨rfl, hb2, _⟩
    have hr : Below W.heap.size W w2.drew := below_dw hb2
    clear hb2 d0 d1 d2 d3 d4
    go_wp2_with fail
    refine region_inv (by kernel_rfl) (fun L act wx => ∃ sv5 sv6 sv14 sv15 sv16 sv17 sv18 sv19 sv20 : Value, act = ({ tmps := #[.agg #[.slice a 3 cap, .slice a' 3 cap', .int .i64 c2, .int .i64 c3, .int .i64 2], .slice az 3 capz, .pointer (some ⟨w.heap.size, 0, none⟩), undef, .pointer (some ⟨w.heap.size + 1, 0, none⟩), sv5, sv6, undef, undef, .agg #[.slice a 3 cap, .slice a' 3 cap', .int .i64 c2, .int .i64 c3, .int .i64 2], .slice az 3 capz, .bool false, undef, undef, sv14, sv15, sv16, sv17, sv18, sv19, sv20, undef, undef, undef, undef, undef, undef, undef, undef, undef, undef, undef, undef, undef, undef, undef, undef, undef, undef, undef, undef, undef, undef, undef, undef, undef, undef, undef, undef, undef], defers := [] } : Act) ∧ BackI w.heap.size W (.agg #[.slice a 3 cap, .slice a' 3 cap', .int .i64 c2, .int .i64 c3, .int .i64 2]) (.slice a' 3 cap') (.slice az 3 capz) (.int .i64 q0) (.int .i64 q1) (.int .i64 q2) (.int .i64 r0) (.int .i64 r1) (.int .i64 r2) L wx sv5 sv6 sv14 sv15 sv16 sv17 sv18 sv19 sv20) ?h0 ?hend ?hstep
    case h0 => exact ⟨undef, undef, undef, undef, undef, undef, undef, undef, undef, rfl, ⟨rfl, hr, fun h => (dn_new h).elim, fun h => (dn_new h).elim, fun h => (dn_new h).elim, fun h => (dn_new h).elim, fun h => (dn_new h).elim, fun h => (dn_new h).elim, fun h => (dn_new h).elim, fun h => (dn_new h).elim, fun h => (dn_new h).elim, fun h => (dn_new h).elim, fun h => (dn_new h).elim, fun h => (dn_new h).elim⟩⟩
    case hstep =>
      rintro L act wx i ⟨sv5, sv6, sv14, sv15, sv16, sv17, sv18, sv19, sv20, rfl, I⟩ hi
      obtain ⟨hi1, hf, hdep⟩ := ready_mem hi
      have hi2 : i < 11 := hi1
      have HI := hid I
      have HF := hid hf
      have hbw := I.hb
      have hsz := hbw.size
      obtain ⟨⟨d0, d1, d2, d3, d4⟩, _, _, _, _⟩ := HCB.out _ hbw
      clear hi hi1 I hf
      have hc : i = 0 ∨ i = 1 ∨ i = 2 ∨ i = 3 ∨ i = 4 ∨ i = 5 ∨ i = 6 ∨ i = 7 ∨ i = 8 ∨ i = 9 ∨ i = 10 := by omega
      clear hi2
      rcases hc with rfl | rfl | rfl | rfl | rfl | rfl | rfl | rfl | rfl | rfl | rfl
      · skip
        clear hdep
        refine wpOp_step rfl (fun K hK => ?_)
        go_simp
        exact hK _ _ ⟨_, _, _, _, _, _, _, _, _, rfl, ⟨(by rw [Array.size_setIfInBounds]; exact HI.out.hs), HI.out.hb, fun _ => rfl, fun h => HI.out.h1 (dn_old h (by decide)), fun h => HI.out.h2 (dn_old h (by decide)), fun h => HI.out.h3 (dn_old h (by decide)), fun h => HI.out.h4 (dn_old h (by decide)), fun h => HI.out.h5 (dn_old h (by decide)), fun h => HI.out.h6 (dn_old h (by decide)), fun h => by
          obtain ⟨b, c0, c1, c2, h1, h2, h3⟩ := HI.out.h7 (dn_old h (by decide))
          exact ⟨b, c0, c1, c2, h1, h2, fun h => h3 (dn_old h (by decide))⟩, fun h => by
          obtain ⟨b, c0, c1, c2, h1, h2, h3⟩ := HI.out.h8 (dn_old h (by decide))
          exact ⟨b, c0, c1, c2, h1, h2, fun h => h3 (dn_old h (by decide))⟩, fun h h' => HI.out.hne (dn_old h (by decide)) (dn_old h' (by decide)), fun h => dn_keep (HI.out.d9 (dn_old h (by decide))), fun h => dn_keep (HI.out.d10 (dn_old h (by decide)))⟩⟩
      · skip
        clear hdep
        refine wpOp_step rfl (fun K hK => ?_)
        go_simp
        exact hK _ _ ⟨_, _, _, _, _, _, _, _, _, rfl, ⟨(by rw [Array.size_setIfInBounds]; exact HI.out.hs), HI.out.hb, fun h => HI.out.h0 (dn_old h (by decide)), fun _ => rfl, fun h => HI.out.h2 (dn_old h (by decide)), fun h => HI.out.h3 (dn_old h (by decide)), fun h => HI.out.h4 (dn_old h (by decide)), fun h => HI.out.h5 (dn_old h (by decide)), fun h => HI.out.h6 (dn_old h (by decide)), fun h => by
          obtain ⟨b, c0, c1, c2, h1, h2, h3⟩ := HI.out.h7 (dn_old h (by decide))
          exact ⟨b, c0, c1, c2, h1, h2, fun h => h3 (dn_old h (by decide))⟩, fun h => by
          obtain ⟨b, c0, c1, c2, h1, h2, h3⟩ := HI.out.h8 (dn_old h (by decide))
          exact ⟨b, c0, c1, c2, h1, h2, fun h => h3 (dn_old h (by decide))⟩, fun h h' => HI.out.hne (dn_old h (by decide)) (dn_old h' (by decide)), fun h => dn_keep (HI.out.d9 (dn_old h (by decide))), fun h => dn_keep (HI.out.d10 (dn_old h (by decide)))⟩⟩
      · skip
        have q1 : dn L 1 := hdep _ rfl { on := 1, ground := .data } (by simp) rfl
        clear hdep
        obtain rfl := HI.out.h1 q1
        refine wpOp_step rfl (fun K hK => ?_)
        go_simp
        exact hK _ _ ⟨_, _, _, _, _, _, _, _, _, rfl, ⟨(by rw [Array.size_setIfInBounds]; exact HI.out.hs), HI.out.hb, fun h => HI.out.h0 (dn_old h (by decide)), fun h => HI.out.h1 (dn_old h (by decide)), fun _ => rfl, fun h => HI.out.h3 (dn_old h (by decide)), fun h => HI.out.h4 (dn_old h (by decide)), fun h => HI.out.h5 (dn_old h (by decide)), fun h => HI.out.h6 (dn_old h (by decide)), fun h => by
          obtain ⟨b, c0, c1, c2, h1, h2, h3⟩ := HI.out.h7 (dn_old h (by decide))
          exact ⟨b, c0, c1, c2, h1, h2, fun h => h3 (dn_old h (by decide))⟩, fun h => by
          obtain ⟨b, c0, c1, c2, h1, h2, h3⟩ := HI.out.h8 (dn_old h (by decide))
          exact ⟨b, c0, c1, c2, h1, h2, fun h => h3 (dn_old h (by decide))⟩, fun h h' => HI.out.hne (dn_old h (by decide)) (dn_old h' (by decide)), fun h => dn_keep (HI.out.d9 (dn_old h (by decide))), fun h => dn_keep (HI.out.d10 (dn_old h (by decide)))⟩⟩
      · skip
        have q0 : dn L 0 := hdep _ rfl { on := 0, ground := .data } (by simp) rfl
        have q2 : dn L 2 := hdep _ rfl { on := 2, ground := .data } (by simp) rfl
        clear hdep
        obtain rfl := HI.out.h0 q0
        obtain rfl := HI.out.h2 q2
        refine wpOp_step rfl (fun K hK => ?_)
        go_simp
        go_at_call 59
        refine (HPB.out _ hbw).mono ?_
        rintro e wP ⟨rfl, hbp, hbk⟩
        exact hK _ _ ⟨_, _, _, _, _, _, _, _, _, rfl, ⟨(by rw [Array.size_setIfInBounds]; exact HI.out.hs), hbp, fun h => HI.out.h0 (dn_old h (by decide)), fun h => HI.out.h1 (dn_old h (by decide)), fun h => HI.out.h2 (dn_old h (by decide)), fun _ => rfl, fun h => HI.out.h4 (dn_old h (by decide)), fun h => HI.out.h5 (dn_old h (by decide)), fun h => HI.out.h6 (dn_old h (by decide)), fun h => by
          obtain ⟨b, c0, c1, c2, h1, h2, h3⟩ := HI.out.h7 (dn_old h (by decide))
          exact ⟨b, c0, c1, c2, h1, h2.later hbk, fun h => h3 (dn_old h (by decide))⟩, fun h => by
          obtain ⟨b, c0, c1, c2, h1, h2, h3⟩ := HI.out.h8 (dn_old h (by decide))
          exact ⟨b, c0, c1, c2, h1, h2.later hbk, fun h => h3 (dn_old h (by decide))⟩, fun h h' => HI.out.hne (dn_old h (by decide)) (dn_old h' (by decide)), fun h => dn_keep (HI.out.d9 (dn_old h (by decide))), fun h => dn_keep (HI.out.d10 (dn_old h (by decide)))⟩⟩
      · skip
        clear hdep
        refine wpOp_step rfl (fun K hK => ?_)
        go_simp
        exact hK _ _ ⟨_, _, _, _, _, _, _, _, _, rfl, ⟨(by rw [Array.size_setIfInBounds]; exact HI.out.hs), HI.out.hb, fun h => HI.out.h0 (dn_old h (by decide)), fun h => HI.out.h1 (dn_old h (by decide)), fun h => HI.out.h2 (dn_old h (by decide)), fun h => HI.out.h3 (dn_old h (by decide)), fun _ => rfl, fun h => HI.out.h5 (dn_old h (by decide)), fun h => HI.out.h6 (dn_old h (by decide)), fun h => by
          obtain ⟨b, c0, c1, c2, h1, h2, h3⟩ := HI.out.h7 (dn_old h (by decide))
          exact ⟨b, c0, c1, c2, h1, h2, fun h => h3 (dn_old h (by decide))⟩, fun h => by
          obtain ⟨b, c0, c1, c2, h1, h2, h3⟩ := HI.out.h8 (dn_old h (by decide))
          exact ⟨b, c0, c1, c2, h1, h2, fun h => h3 (dn_old h (by decide))⟩, fun h h' => HI.out.hne (dn_old h (by decide)) (dn_old h' (by decide)), fun h => dn_keep (HI.out.d9 (dn_old h (by decide))), fun h => dn_keep (HI.out.d10 (dn_old h (by decide)))⟩⟩
      · skip
        clear hdep
        refine wpOp_step rfl (fun K hK => ?_)
        go_simp
        exact hK _ _ ⟨_, _, _, _, _, _, _, _, _, rfl, ⟨(by rw [Array.size_setIfInBounds]; exact HI.out.hs), HI.out.hb, fun h => HI.out.h0 (dn_old h (by decide)), fun h => HI.out.h1 (dn_old h (by decide)), fun h => HI.out.h2 (dn_old h (by decide)), fun h => HI.out.h3 (dn_old h (by decide)), fun h => HI.out.h4 (dn_old h (by decide)), fun _ => rfl, fun h => HI.out.h6 (dn_old h (by decide)), fun h => by
          obtain ⟨b, c0, c1, c2, h1, h2, h3⟩ := HI.out.h7 (dn_old h (by decide))
          exact ⟨b, c0, c1, c2, h1, h2, fun h => h3 (dn_old h (by decide))⟩, fun h => by
          obtain ⟨b, c0, c1, c2, h1, h2, h3⟩ := HI.out.h8 (dn_old h (by decide))
          exact ⟨b, c0, c1, c2, h1, h2, fun h => h3 (dn_old h (by decide))⟩, fun h h' => HI.out.hne (dn_old h (by decide)) (dn_old h' (by decide)), fun h => dn_keep (HI.out.d9 (dn_old h (by decide))), fun h => dn_keep (HI.out.d10 (dn_old h (by decide)))⟩⟩
      · skip
        have q4 : dn L 4 := hdep _ rfl { on := 4, ground := .data } (by simp) rfl
        have q5 : dn L 5 := hdep _ rfl { on := 5, ground := .data } (by simp) rfl
        clear hdep
        obtain rfl := HI.out.h4 q4
        obtain rfl := HI.out.h5 q5
        refine wpOp_step rfl (fun K hK => ?_)
        go_simp
        go_at_call 59
        refine (HPZ.out _ hbw).mono ?_
        rintro e wP ⟨rfl, hbp, hbk⟩
        exact hK _ _ ⟨_, _, _, _, _, _, _, _, _, rfl, ⟨(by rw [Array.size_setIfInBounds]; exact HI.out.hs), hbp, fun h => HI.out.h0 (dn_old h (by decide)), fun h => HI.out.h1 (dn_old h (by decide)), fun h => HI.out.h2 (dn_old h (by decide)), fun h => HI.out.h3 (dn_old h (by decide)), fun h => HI.out.h4 (dn_old h (by decide)), fun h => HI.out.h5 (dn_old h (by decide)), fun _ => rfl, fun h => by
          obtain ⟨b, c0, c1, c2, h1, h2, h3⟩ := HI.out.h7 (dn_old h (by decide))
          exact ⟨b, c0, c1, c2, h1, h2.later hbk, fun h => h3 (dn_old h (by decide))⟩, fun h => by
          obtain ⟨b, c0, c1, c2, h1, h2, h3⟩ := HI.out.h8 (dn_old h (by decide))
          exact ⟨b, c0, c1, c2, h1, h2.later hbk, fun h => h3 (dn_old h (by decide))⟩, fun h h' => HI.out.hne (dn_old h (by decide)) (dn_old h' (by decide)), fun h => dn_keep (HI.out.d9 (dn_old h (by decide))), fun h => dn_keep (HI.out.d10 (dn_old h (by decide)))⟩⟩
      · skip
        clear hdep
        refine wpOp_step rfl (fun K hK => ?_)
        go_simp
        exact hK _ _ ⟨_, _, _, _, _, _, _, _, _, rfl, ⟨(by rw [Array.size_setIfInBounds]; exact HI.out.hs), hbw.alloc hsz _, fun h => HI.out.h0 (dn_old h (by decide)), fun h => HI.out.h1 (dn_old h (by decide)), fun h => HI.out.h2 (dn_old h (by decide)), fun h => HI.out.h3 (dn_old h (by decide)), fun h => HI.out.h4 (dn_old h (by decide)), fun h => HI.out.h5 (dn_old h (by decide)), fun h => HI.out.h6 (dn_old h (by decide)), fun _ => ⟨wx.heap.size, _, _, _, rfl, Blk3.new hsz _ _ _ _, fun h => (dn_not HF.out (HI.out.d9 (dn_old h (by decide)))).elim⟩, fun h => by
          obtain ⟨b, c0, c1, c2, h1, h2, h3⟩ := HI.out.h8 (dn_old h (by decide))
          exact ⟨b, c0, c1, c2, h1, h2.later (below_box2 _ _), fun h => h3 (dn_old h (by decide))⟩, fun _ h => by
          obtain ⟨b, _, _, _, h1, h2, _⟩ := HI.out.h8 (dn_old h (by decide))
          rw [h1]
          intro e
          cases e
          exact Nat.lt_irrefl _ h2.hi, fun h => dn_keep (HI.out.d9 (dn_old h (by decide))), fun h => dn_keep (HI.out.d10 (dn_old h (by decide)))⟩⟩
      · skip
        clear hdep
        refine wpOp_step rfl (fun K hK => ?_)
        go_simp
        exact hK _ _ ⟨_, _, _, _, _, _, _, _, _, rfl, ⟨(by rw [Array.size_setIfInBounds]; exact HI.out.hs), hbw.alloc hsz _, fun h => HI.out.h0 (dn_old h (by decide)), fun h => HI.out.h1 (dn_old h (by decide)), fun h => HI.out.h2 (dn_old h (by decide)), fun h => HI.out.h3 (dn_old h (by decide)), fun h => HI.out.h4 (dn_old h (by decide)), fun h => HI.out.h5 (dn_old h (by decide)), fun h => HI.out.h6 (dn_old h (by decide)), fun h => by
          obtain ⟨b, c0, c1, c2, h1, h2, h3⟩ := HI.out.h7 (dn_old h (by decide))
          exact ⟨b, c0, c1, c2, h1, h2.later (below_box2 _ _), fun h => h3 (dn_old h (by decide))⟩, fun _ => ⟨wx.heap.size, _, _, _, rfl, Blk3.new hsz _ _ _ _, fun h => (dn_not HF.out (HI.out.d10 (dn_old h (by decide)))).elim⟩, fun h _ => by
          obtain ⟨b, _, _, _, h1, h2, _⟩ := HI.out.h7 (dn_old h (by decide))
          rw [h1]
          intro e
          cases e
          exact Nat.lt_irrefl _ h2.hi, fun h => dn_keep (HI.out.d9 (dn_old h (by decide))), fun h => dn_keep (HI.out.d10 (dn_old h (by decide)))⟩⟩
      · skip
        have q7 : dn L 7 := hdep _ rfl { on := 7, ground := .data } (by simp) rfl
        have q3 : dn L 3 := hdep _ rfl { on := 3, ground := .data } (by simp) rfl
        clear hdep
        obtain ⟨b, e0, e1, e2, rfl, B, _⟩ := HI.out.h7 q7
        obtain rfl := HI.out.h3 q3
        have HBK := hid B
        obtain ⟨lo, hi, k0, k1, k2, g0, g1, g2⟩ := B
        refine wpOp_step rfl (fun K hK => ?_)
        go_simp
        exact hK _ _ ⟨_, _, _, _, _, _, _, _, _, rfl, ⟨(by rw [Array.size_setIfInBounds]; exact HI.out.hs), below_set3 hbw HBK.out.lo _ _ _, fun h => HI.out.h0 (dn_old h (by decide)), fun h => HI.out.h1 (dn_old h (by decide)), fun h => HI.out.h2 (dn_old h (by decide)), fun h => HI.out.h3 (dn_old h (by decide)), fun h => HI.out.h4 (dn_old h (by decide)), fun h => HI.out.h5 (dn_old h (by decide)), fun h => HI.out.h6 (dn_old h (by decide)), fun _ => ⟨b, _, _, _, rfl, HBK.out.set _ _ _, fun _ => ⟨rfl, rfl, rfl⟩⟩, fun h => by
          obtain ⟨b2, c0, c1, c2, h1, h2, h3⟩ := HI.out.h8 (dn_old h (by decide))
          refine ⟨b2, c0, c1, c2, h1, h2.other (fun e => ?_) _ _ _, fun h => h3 (dn_old h (by decide))⟩
          subst e
          exact HI.out.hne q7 (dn_old h (by decide)) h1.symm, fun h h' => HI.out.hne (dn_old h (by decide)) (dn_old h' (by decide)), fun _ => dn_keep q7, fun h => dn_keep (HI.out.d10 (dn_old h (by decide)))⟩⟩
      · skip
        have q8 : dn L 8 := hdep _ rfl { on := 8, ground := .data } (by simp) rfl
        have q6 : dn L 6 := hdep _ rfl { on := 6, ground := .data } (by simp) rfl
        clear hdep
        obtain ⟨b, e0, e1, e2, rfl, B, _⟩ := HI.out.h8 q8
        obtain rfl := HI.out.h6 q6
        have HBK := hid B
        obtain ⟨lo, hi, k0, k1, k2, g0, g1, g2⟩ := B
        refine wpOp_step rfl (fun K hK => ?_)
        go_simp
        exact hK _ _ ⟨_, _, _, _, _, _, _, _, _, rfl, ⟨(by rw [Array.size_setIfInBounds]; exact HI.out.hs), below_set3 hbw HBK.out.lo _ _ _, fun h => HI.out.h0 (dn_old h (by decide)), fun h => HI.out.h1 (dn_old h (by decide)), fun h => HI.out.h2 (dn_old h (by decide)), fun h => HI.out.h3 (dn_old h (by decide)), fun h => HI.out.h4 (dn_old h (by decide)), fun h => HI.out.h5 (dn_old h (by decide)), fun h => HI.out.h6 (dn_old h (by decide)), fun h => by
          obtain ⟨b2, c0, c1, c2, h1, h2, h3⟩ := HI.out.h7 (dn_old h (by decide))
          refine ⟨b2, c0, c1, c2, h1, h2.other (fun e => ?_) _ _ _, fun h => h3 (dn_old h (by decide))⟩
          subst e
          exact HI.out.hne (dn_old h (by decide)) q8 h1, fun _ => ⟨b, _, _, _, rfl, HBK.out.set _ _ _, fun _ => ⟨rfl, rfl, rfl⟩⟩, fun h h' => HI.out.hne (dn_old h (by decide)) (dn_old h' (by decide)), fun h => dn_keep (HI.out.d9 (dn_old h (by decide))), fun _ => dn_keep q8⟩⟩
    case hend =>
      rintro L act wx ⟨sv5, sv6, sv14, sv15, sv16, sv17, sv18, sv19, sv20, rfl, I⟩ hrd
      have D := all_done2 I.hs (by kernel_rfl) hrd
      obtain ⟨b3, _, _, _, rfl, B3, h3⟩ := I.h7 (D 7 (by decide))
      obtain ⟨rfl, rfl, rfl⟩ := h3 (D 9 (by decide))
      obtain ⟨b4, _, _, _, rfl, B4, h4⟩ := I.h8 (D 8 (by decide))
      obtain ⟨rfl, rfl, rfl⟩ := h4 (D 10 (by decide))
      obtain ⟨_, n0, n1, g0, g1⟩ := HCB.out _ I.hb
      have HBX := hid (HBW.out.trans (I.hb.mono HBW.out.size))
      have x0 := B3.e0
      have x1 := B3.e1
      have x2 := B3.e2
      have y0 := B4.e0
      have y1 := B4.e1
      have y2 := B4.e2
      have HL := hid I.hb
      clear I D hrd h3 h4 B3 B4
      go_wp2_with fail
      refine (HPH.out _).mono ?_
      rintro e w9 ⟨rfl, hb9⟩
      have m0 := cell_later hb9 n0
      have m1 := cell_later hb9 n1
      have hlt : w.heap.size + 1 < wx.heap.size := by have := HL.out.size; have := HL2.out; omega
      have u0 := (hb9.frozen (p := ⟨w.heap.size + 1, 0, none⟩) hlt).trans g0
      have u1 := (hb9.frozen (p := ⟨w.heap.size + 1, 1, none⟩) hlt).trans g1
      have HB9 := hid (HBX.out.trans (hb9.mono HBX.out.size))
      clear hb9
      go_wp2_with fail
      refine bodyPost_ret (v := .agg #[.int .i64 x, .int .i64 y]) (by simp [results, Try.results55, go_sem]; go_simp) rfl ?_
      exact ⟨rfl, below_set2 HB9.out (Nat.le_succ _) _ _⟩

end Go.Proofs.Ytenibnblibnocaa
