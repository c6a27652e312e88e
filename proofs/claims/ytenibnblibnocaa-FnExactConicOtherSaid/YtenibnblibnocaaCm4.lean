/-
  Contracts of the model's chapter 6: back from a zero to its heading.
-/
import Derived.Test.YtenibnblibnocaaCm3
import Derived.StillTailTactics
set_option linter.unusedVariables false
namespace Go.Proofs.Ytenibnblibnocaa
open Go.RowKit

/-- where the axis is -/
def axisN (vs : List Int) : Nat := if vs.getD 0 0 = 0 then 1 else 0
theorem axisN_I (vs : List Int) : axisI vs = (axisN vs : Nat) := by unfold axisI axisN; split <;> rfl
theorem axisN_le (vs : List Int) : axisN vs ≤ 1 := by unfold axisN; split <;> omega
theorem atA_N (vs ws : List Int) : atA vs ws = ws.getD (axisN vs) 0 := by unfold atA axisN; split <;> rfl
theorem atB_mem {vs ws : List Int} (hl : ws.length = 3) : atB vs ws ∈ ws := by
  obtain ⟨a, b, c, rfl⟩ := len3 hl
  unfold atB
  split <;> simp
theorem atA_mem {vs ws : List Int} (hl : ws.length = 3) : atA vs ws ∈ ws := by
  obtain ⟨a, b, c, rfl⟩ := len3 hl
  unfold atA
  split <;> simp
theorem atC_mem {ws : List Int} (hl : ws.length = 3) : atC ws ∈ ws := by
  obtain ⟨a, b, c, rfl⟩ := len3 hl
  unfold atC
  simp
def backV (xs vs zs : List Int) : Value := if backOk xs vs zs then .tuple #[.int .i64 ((backL xs vs zs).getD 0 0), .int .i64 ((backL xs vs zs).getD 1 0), .bool true] else .tuple #[.int .i64 0, .int .i64 0, .bool false]
theorem backV_no {xs vs zs : List Int} (h : backOk xs vs zs = false) : backV xs vs zs = .tuple #[.int .i64 0, .int .i64 0, .bool false] := by unfold backV; rw [h]; rfl
theorem backV_yes {xs vs zs : List Int} (h : backOk xs vs zs = true) : backV xs vs zs = .tuple #[.int .i64 ((backL xs vs zs).getD 0 0), .int .i64 ((backL xs vs zs).getD 1 0), .bool true] := by unfold backV; rw [h, if_pos rfl]
theorem backV_form (xs vs zs : List Int) : ∃ (x y : Int) (o : Bool), backV xs vs zs = .tuple #[.int .i64 x, .int .i64 y, .bool o] := by
  unfold backV
  split
  · exact ⟨_, _, true, rfl⟩
  · exact ⟨0, 0, false, rfl⟩
/-- all that back's numbers are bounded by -/
structure BackOk (xs vs zs : List Int) : Prop where
  lx : xs.length = 3
  lv : vs.length = 3
  lz : zs.length = 3
  bx : ∀ x ∈ xs, -30 ≤ x ∧ x ≤ 30
  bv : ∀ x ∈ vs, -1000 ≤ x ∧ x ≤ 1000
  bz : ∀ x ∈ zs, -1000000 ≤ x ∧ x ≤ 1000000
  ax : vs.getD 0 0 = 0 → vs.getD 1 0 ≠ 0
  tg : ∃ v ∈ [atC xs * atC vs, -(atB vs xs * atB vs vs)], v ≠ 0
theorem back_facts {xs vs zs : List Int} (hp : pointB xs vs = true) (hz : zeroB xs zs = true) : BackOk xs vs zs := by
  obtain ⟨a, b, c, x, y, z, rfl, rfl, hf, P⟩ := point_pt hp
  obtain ⟨u, v, w, rfl, k1, k2, k3, _, _⟩ := zero3 hz
  have hm := (axis_pt hp).2.1
  refine ⟨rfl, rfl, rfl, fun t ht => ?_, fun t ht => ?_, fun t ht => ?_, hm, tangent_some P⟩
  · have h1 := P.ha; have h2 := P.hb; have h3 := P.hc
    simp at ht
    rcases ht with rfl | rfl | rfl <;> omega
  · have h1 := P.hx; have h2 := P.hy; have h3 := P.hz
    simp at ht
    rcases ht with rfl | rfl | rfl <;> assumption
  · simp at ht
    rcases ht with rfl | rfl | rfl <;> assumption

/-- the plain one of a list of two that has just been laid -/
theorem plainTwo_any (s t : Int) (h1 : -100000000000 ≤ s ∧ s ≤ 100000000000) (h2 : -100000000000 ≤ t ∧ t ≤ 100000000000) (hs : ∃ x ∈ [s, t], x ≠ 0) (W : World) : Calls Try.prog 48 #[.slice (some ⟨W.heap.size, 0, none⟩) 2 2] (W.alloc (.cells #[.int .i64 s, .int .i64 t] 3)) fun e w' => ∃ u, e = .returned u ∧ Owns w' W.heap.size u (plainL [s, t]) ∧ Below W.heap.size W w' := by
  have hb := below_box2 W (.cells #[.int .i64 s, .int .i64 t] 3)
  have ho := owns_lit (W := W) (B := W.heap.size) [s, t] #[.int .i64 s, .int .i64 t] rfl (Nat.le_refl _) (by unfold maxLen; simp)
  refine (l5PlainW_any _ [s, t] _ ho.rd (by simp) (fun v hv => by simp at hv; omega) hs).mono ?_
  rintro e w' ⟨u, rfl, h1, h2⟩
  exact ⟨u, rfl, h1.down hb.size, hb.trans (h2.mono hb.size)⟩
theorem plain_two (s t : Int) : ∃ p q, plainL [s, t] = [p, q] := ⟨_, _, rfl⟩
set_option maxRecDepth 100000 in
set_option maxHeartbeats 8000000 in
theorem conicBackS_any (vf vv vz : Value) (xs vs zs : List Int) (w : World) (hx : Rd w vf xs) (hv : Rd w vv vs) (hz : Rd w vz zs) : Calls Try.prog 24 #[vf, vv, vz] w fun e w' => e = .returned (backV xs vs zs) ∧ Below w.heap.size w w' := by
  have HX := hid hx
  have HV := hid hv
  have HZ := hid hz
  obtain ⟨a, cap, rfl, _⟩ := hx.form
  obtain ⟨a', cap', rfl, hfv⟩ := hv.form
  obtain ⟨a3, cap3, rfl, hfz⟩ := hz.form
  have HFV := hid hfv
  have HFZ := hid hfz
  clear hx hv hz hfv hfz
  cases hp : pointB xs vs with
  | false =>
    have HP := hid hp
    have HN := hid (backV_no (xs := xs) (vs := vs) (zs := zs) (by unfold backOk; rw [hp]; rfl))
    clear hp
    go_enter Try.func24, Try.ntmps24
    go_wp2_with (go_at_call 14; refine (conicPointS_any _ _ xs vs _ HX.out HV.out).mono ?_; rw [HP.out]; rintro e w1 ⟨rfl, hb1⟩)
    go_ret3
    exact ⟨retV HN.out.symm, hb1⟩
  | true =>
    have HP := hid hp
    cases hzb : zeroB xs zs with
    | false =>
      have HZB := hid hzb
      have HN := hid (backV_no (xs := xs) (vs := vs) (zs := zs) (by unfold backOk; rw [hzb, Bool.and_false]))
      clear hp hzb
      go_enter Try.func24, Try.ntmps24
      go_wp2_with (first | (go_at_call 14; refine (conicPointS_any _ _ xs vs _ HX.out HV.out).mono ?_; rw [HP.out]; rintro e w1 ⟨rfl, hb1⟩) | (go_at_call 40; refine (zeroIsS_any _ _ xs zs _ (HX.out.keep hb1) (HZ.out.keep hb1)).mono ?_; rw [HZB.out]; rintro e w2 ⟨rfl, k2, rfl⟩))
      go_ret3
      exact ⟨retV HN.out.symm, below_drewN hb1 k2⟩
    | true =>
      have HZB := hid hzb
      have B := back_facts hp hzb
      have HY := hid (backV_yes (xs := xs) (vs := vs) (zs := zs) (by unfold backOk; rw [hp, hzb]; rfl))
      have HBO := hid B
      have hax := axisN_le vs
      have HL : Hid (backL xs vs zs = plainL (if atB vs zs * atA vs vs - atB vs vs * atA vs zs = 0 ∧ atC zs * atA vs vs - atC vs * atA vs zs = 0 then [atC xs * atC vs, -(atB vs xs * atB vs vs)] else [atB vs zs * atA vs vs - atB vs vs * atA vs zs, atC zs * atA vs vs - atC vs * atA vs zs])) := hid rfl
      have HAX := hid (axisN_I vs)
      have HTG := hid B.tg
      have HT1 : Hid (∀ wx : World, Rd wx (.slice a' vs.length cap') vs → Calls Try.prog 53 #[.slice a' vs.length cap', .int .i64 (axisN vs : Nat)] wx fun e w' => ∃ u, e = .returned u ∧ Owns w' wx.heap.size u [atB vs vs, atC vs] ∧ Below wx.heap.size wx w') := hid (fun wx h => by rw [← axisN_I]; exact l6kTwo_any _ vs vs wx h B.lv)
      have HT2 : Hid (∀ wx : World, Rd wx (.slice a3 zs.length cap3) zs → Calls Try.prog 53 #[.slice a3 zs.length cap3, .int .i64 (axisN vs : Nat)] wx fun e w' => ∃ u, e = .returned u ∧ Owns w' wx.heap.size u [atB vs zs, atC zs] ∧ Below wx.heap.size wx w') := hid (fun wx h => by rw [← axisN_I]; exact l6kTwo_any _ vs zs wx h B.lz)
      have HT3 : Hid (∀ wx : World, Rd wx (.slice a xs.length cap) xs → Calls Try.prog 53 #[.slice a xs.length cap, .int .i64 (axisN vs : Nat)] wx fun e w' => ∃ u, e = .returned u ∧ Owns w' wx.heap.size u [atB vs xs, atC xs] ∧ Below wx.heap.size wx w') := hid (fun wx h => by rw [← axisN_I]; exact l6kTwo_any _ vs xs wx h B.lx)
      have hax1 := B.bv _ (atA_mem (vs := vs) B.lv)
      have hp1 := B.bv _ (atB_mem (vs := vs) B.lv)
      have hp2 := B.bv _ (atC_mem B.lv)
      have hza := B.bz _ (atA_mem (vs := vs) B.lz)
      have hz1 := B.bz _ (atB_mem (vs := vs) B.lz)
      have hz2 := B.bz _ (atC_mem B.lz)
      have ht1 := B.bx _ (atB_mem (vs := vs) B.lx)
      have ht2 := B.bx _ (atC_mem B.lx)
      have HCA : Hid (vs.getD (axisN vs) 0 = atA vs vs ∧ zs.getD (axisN vs) 0 = atA vs zs) := hid ⟨(atA_N vs vs).symm, (atA_N vs zs).symm⟩
      obtain ⟨K, hK⟩ : ∃ K, K = axisN vs := ⟨_, rfl⟩
      rw [← hK] at hax HAX HT1 HT2 HT3 HCA
      obtain ⟨X, hX⟩ : ∃ X, X = atA vs vs := ⟨_, rfl⟩
      obtain ⟨p1, hP1⟩ : ∃ X, X = atB vs vs := ⟨_, rfl⟩
      obtain ⟨p2, hP2⟩ : ∃ X, X = atC vs := ⟨_, rfl⟩
      obtain ⟨Z, hZ⟩ : ∃ X, X = atA vs zs := ⟨_, rfl⟩
      obtain ⟨z1, hZ1⟩ : ∃ X, X = atB vs zs := ⟨_, rfl⟩
      obtain ⟨z2, hZ2⟩ : ∃ X, X = atC zs := ⟨_, rfl⟩
      obtain ⟨t1, hT1⟩ : ∃ X, X = atB vs xs := ⟨_, rfl⟩
      obtain ⟨t2, hT2⟩ : ∃ X, X = atC xs := ⟨_, rfl⟩
      simp only [← hX, ← hP1, ← hP2, ← hZ, ← hZ1, ← hZ2, ← hT1, ← hT2] at HL HTG HT1 HT2 HT3 hax1 hp1 hp2 hza hz1 hz2 ht1 ht2 HCA
      have HLV := hid B.lv
      have HLZ := hid B.lz
      have HA1 : Hid (∀ wx : World, Rd wx (.slice a' vs.length cap') vs → Calls Try.prog 51 #[.slice a' vs.length cap'] wx fun e w' => e = .returned (.int .i64 (K : Nat)) ∧ wx = w') := hid (fun wx h => by rw [← HAX.out]; exact l6kAxis_any _ vs wx h B.lv B.ax)
      clear hp hzb B hK hX hP1 hP2 hZ hZ1 hZ2 hT1 hT2
      have m1 := prod_bd2 (x := z1) (y := X) (m := 1000000) (n := 1000) (by omega) (by omega)
      have m2 := prod_bd2 (x := p1) (y := Z) (m := 1000) (n := 1000000) (by omega) (by omega)
      have m3 := prod_bd2 (x := z2) (y := X) (m := 1000000) (n := 1000) (by omega) (by omega)
      have m4 := prod_bd2 (x := p2) (y := Z) (m := 1000) (n := 1000000) (by omega) (by omega)
      have m5 := prod_bd2 (x := t2) (y := p2) (m := 30) (n := 1000) (by omega) (by omega)
      have m6 := prod_bd2 (x := t1) (y := p1) (m := 30) (n := 1000) (by omega) (by omega)
      have f1 := wrapW (x := z1 * X) (by omega) (by omega)
      have f2 := wrapW (x := p1 * Z) (by omega) (by omega)
      have f3 := wrapW (x := z2 * X) (by omega) (by omega)
      have f4 := wrapW (x := p2 * Z) (by omega) (by omega)
      have f5 := wrapW (x := t2 * p2) (by omega) (by omega)
      have f6 := wrapW (x := t1 * p1) (by omega) (by omega)
      have f7 := wrapW (x := -(t1 * p1)) (by omega) (by omega)
      have f8 := wrapW (x := z1 * X - p1 * Z) (by omega) (by omega)
      have f9 := wrapW (x := z2 * X - p2 * Z) (by omega) (by omega)
      have HBS : Hid ((-100000000000 ≤ z1 * X - p1 * Z ∧ z1 * X - p1 * Z ≤ 100000000000) ∧ (-100000000000 ≤ z2 * X - p2 * Z ∧ z2 * X - p2 * Z ≤ 100000000000)) := hid (by omega)
      have HBT : Hid ((-100000000000 ≤ t2 * p2 ∧ t2 * p2 ≤ 100000000000) ∧ (-100000000000 ≤ -(t1 * p1) ∧ -(t1 * p1) ≤ 100000000000)) := hid (by omega)
      clear m1 m2 m3 m4 m5 m6 hax1 hp1 hp2 hza hz1 hz2 ht1 ht2
      go_enter Try.func24, Try.ntmps24
      go_wp2_with (first | (go_at_call 14; refine (conicPointS_any _ _ xs vs _ HX.out HV.out).mono ?_; rw [HP.out]; rintro e w1 ⟨rfl, hb1⟩) | (go_at_call 40; refine (zeroIsS_any _ _ xs zs _ (HX.out.keep hb1) (HZ.out.keep hb1)).mono ?_; rw [HZB.out]; rintro e w2 ⟨rfl, k2, hw2⟩; have HB2 : Hid (Below w.heap.size w w2) := hid (by rw [hw2]; exact below_drewN hb1 k2); clear hw2) | (go_at_call 51; refine (HA1.out _ (HV.out.keep HB2.out)).mono ?_; rintro e w' ⟨rfl, rfl⟩))
      refine (HT1.out _ (HV.out.keep HB2.out)).mono ?_
      rintro e w3 ⟨ua, rfl, ho3, hb3⟩
      have HB3 := hid (HB2.out.trans (hb3.mono HB2.out.size))
      have HO3 := hid ho3
      clear hb3 hb1 ho3
      go_wp2_with fail
      refine (HT2.out _ (HZ.out.keep HB3.out)).mono ?_
      rintro e w4 ⟨ub, rfl, ho4, hb4⟩
      have HB4 := hid (HB3.out.trans (hb4.mono HB3.out.size))
      have HO4 := hid ho4
      have HO34 := hid (HO3.out.keep HO3.out.lt hb4)
      clear hb4 ho4
      obtain ⟨ga, ca, rfl, _, _⟩ := HO34.out.block_of (by simp)
      obtain ⟨gb, cb, rfl, _, _⟩ := HO4.out.block_of (by simp)
      have hs4 := HB4.out.size
      obtain ⟨av, ccv, ev, hfv⟩ := (HV.out.keep HB4.out).form
      cases ev
      obtain ⟨bv, ov, rfl, _, hcv⟩ := hfv (by have := HLV.out; omega)
      obtain ⟨az, ccz, ez, hfz⟩ := (HZ.out.keep HB4.out).form
      cases ez
      obtain ⟨bz, oz, rfl, _, hcz⟩ := hfz (by have := HLZ.out; omega)
      have c1 := hcv K (by have := HLV.out; omega)
      have c2 := hcz K (by have := HLZ.out; omega)
      rw [HCA.out.1] at c1
      rw [HCA.out.2] at c2
      have q0 : w4.cell? ⟨ga, 0, none⟩ = some (.int .i64 p1) := HO34.out.elem (i := 0) (by simp)
      have q1 : w4.cell? ⟨ga, 1, none⟩ = some (.int .i64 p2) := HO34.out.elem (i := 1) (by simp)
      have r0 : w4.cell? ⟨gb, 0, none⟩ = some (.int .i64 z1) := HO4.out.elem (i := 0) (by simp)
      have r1 : w4.cell? ⟨gb, 1, none⟩ = some (.int .i64 z2) := HO4.out.elem (i := 1) (by simp)
      have hK3 : (K : Int) < (vs.length : Int) := by have := HLV.out; omega
      have hK4 : (K : Int) < (zs.length : Int) := by have := HLZ.out; omega
      have HBD : Hid (Below w.heap.size w w4.drew) := hid (below_dw HB4.out)
      have HOD : Hid (Owns w4.drew w2.heap.size (.slice (some ⟨ga, 0, none⟩) 2 ca) [p1, p2]) := hid (HO34.out.drewN 1)
      clear hcv hcz hfv hfz
      go_wp2_with fail
      go_still_tail 34, (by kernel_rfl)
      change wpList _ _ _ _ _ w4.drew
      generalize w4.drew = wd at HBD HOD ⊢
      clear c1 c2 q0 q1 r0 r1 hK3 hK4 f1 f2 f3 f4 f8 f9
      obtain ⟨s, hs⟩ : ∃ s, s = z1 * X - p1 * Z := ⟨_, rfl⟩
      obtain ⟨t, ht⟩ : ∃ t, t = z2 * X - p2 * Z := ⟨_, rfl⟩
      rw [← hs, ← ht] at HL HBS ⊢
      clear hs ht
      by_cases hst : s = 0 ∧ t = 0
      · have hl2 := HL.out
        rw [if_pos hst] at hl2
        obtain ⟨s0, t0⟩ := hst
        subst s0
        subst t0
        have HPL := hid (fun W => plainTwo_any (t2 * p2) (-(t1 * p1)) HBT.out.1 HBT.out.2 HTG.out W)
        obtain ⟨x, y, hxy⟩ := plain_two (t2 * p2) (-(t1 * p1))
        rw [hxy] at hl2 HPL
        have HR : Hid (backV xs vs zs = .tuple #[.int .i64 x, .int .i64 y, .bool true]) := hid (by rw [HY.out, hl2]; rfl)
        have HBX := hid (HBD.out.alloc HBD.out.size (.cells #[.int .i64 0, .int .i64 0] 3))
        have HX5 := hid (HX.out.keep HBX.out)
        have HO5 : Hid (Owns (wd.alloc (.cells #[.int .i64 0, .int .i64 0] 3)) w2.heap.size (.slice (some ⟨ga, 0, none⟩) 2 ca) [p1, p2]) := hid (HOD.out.alloc (.cells #[.int .i64 0, .int .i64 0] 3))
        clear hl2 hxy HL HTG
        go_wp2_with fail
        refine (HT3.out _ HX5.out).mono ?_
        rintro e w5 ⟨uc, rfl, ho5, hb5⟩
        have HB5 := hid (HBX.out.trans (hb5.mono HBX.out.size))
        have HOT := hid ho5
        have HO6 := hid (HO5.out.keep HO5.out.lt hb5)
        clear hb5 ho5
        obtain ⟨gc, cc, rfl, _, _⟩ := HOT.out.block_of (by simp)
        have q0 : w5.cell? ⟨ga, 0, none⟩ = some (.int .i64 p1) := HO6.out.elem (i := 0) (by simp)
        have q1 : w5.cell? ⟨ga, 1, none⟩ = some (.int .i64 p2) := HO6.out.elem (i := 1) (by simp)
        have r0 : w5.cell? ⟨gc, 0, none⟩ = some (.int .i64 t1) := HOT.out.elem (i := 0) (by simp)
        have r1 : w5.cell? ⟨gc, 1, none⟩ = some (.int .i64 t2) := HOT.out.elem (i := 1) (by simp)
        have HBD6 : Hid (Below w.heap.size w w5.drew) := hid (below_dw HB5.out)
        go_wp2_with fail
        go_still_tail 15, (by kernel_rfl)
        change wpList _ _ _ _ _ w5.drew
        generalize w5.drew = wd6 at HBD6 ⊢
        have hsd := HBD6.out.size
        go_wp2_with fail
        refine (HPL.out _).mono ?_
        rintro e w7 ⟨u, rfl, ho7, hb7⟩
        have HB7 := hid (HBD6.out.trans (hb7.mono hsd))
        obtain ⟨gu, cu, rfl, _, _⟩ := ho7.block_of (by simp)
        have x0 : w7.cell? ⟨gu, 0, none⟩ = some (.int .i64 x) := ho7.elem (i := 0) (by simp)
        have x1 : w7.cell? ⟨gu, 1, none⟩ = some (.int .i64 y) := ho7.elem (i := 1) (by simp)
        clear ho7 hb7
        go_wp2_with fail
        go_quiet (fail)
        go_wp2_with fail
        go_ret3
        exact ⟨retV HR.out.symm, below_drewN HB7.out _⟩
      · have hl2 := HL.out
        rw [if_neg hst] at hl2
        have HPL := hid (fun W => plainTwo_any s t HBS.out.1 HBS.out.2 (two_some hst) W)
        obtain ⟨x, y, hxy⟩ := plain_two s t
        rw [hxy] at hl2 HPL
        have HR : Hid (backV xs vs zs = .tuple #[.int .i64 x, .int .i64 y, .bool true]) := hid (by rw [HY.out, hl2]; rfl)
        have hsd := HBD.out.size
        have hcase : (s == 0) = false ∨ ((s == 0) = true ∧ (t == 0) = false) := by
          by_cases s0 : s = 0
          · exact .inr ⟨beq_iff_eq.2 s0, beq_eq_false_iff_ne.2 fun e => hst ⟨s0, e⟩⟩
          · exact .inl (beq_eq_false_iff_ne.2 s0)
        clear hl2 hxy HL HTG hst
        rcases hcase with T1 | ⟨T1, T2⟩
        all_goals
          go_wp2_with fail
          refine (HPL.out _).mono ?_
          rintro e w7 ⟨u, rfl, ho7, hb7⟩
          have HB7 := hid (HBD.out.trans (hb7.mono hsd))
          obtain ⟨gu, cu, rfl, _, _⟩ := ho7.block_of (by simp)
          have x0 : w7.cell? ⟨gu, 0, none⟩ = some (.int .i64 x) := ho7.elem (i := 0) (by simp)
          have x1 : w7.cell? ⟨gu, 1, none⟩ = some (.int .i64 y) := ho7.elem (i := 1) (by simp)
          clear ho7 hb7
          go_wp2_with fail
          go_quiet (fail)
          go_wp2_with fail
          go_ret3
          exact ⟨retV HR.out.symm, below_drewN HB7.out _⟩

end Go.Proofs.Ytenibnblibnocaa
