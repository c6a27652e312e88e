/-
  Contracts of the model's chapter 6: the other zero on a line.
-/
import Derived.Test.YtenibnblibnocaaCm1
import Derived.Test.YtenibnblibnocaaAppOne
set_option linter.unusedVariables false
namespace Go.Proofs.Ytenibnblibnocaa
open Go.RowKit

theorem tri_nat {a u v : Int} {m n k : Nat} (ha : a.natAbs ≤ m) (hu : u.natAbs ≤ n) (hv : v.natAbs ≤ k) : (a * u * v).natAbs ≤ m * n * k := by
  rw [Int.natAbs_mul, Int.natAbs_mul]
  exact Nat.mul_le_mul (Nat.mul_le_mul ha hu) hv
/-- all that a line's numbers are bounded by -/
structure LineOk (xs vs ws : List Int) : Prop where
  hf : fvB xs = true
  lx : xs.length = 3
  lv : vs.length = 3
  lw : ws.length = 3
  v6 : Vec6 vs
  w6 : Vec6 ws
  bv : ∀ x ∈ vs, -1000 ≤ x ∧ x ≤ 1000
  bw : ∀ x ∈ ws, -20 ≤ x ∧ x ≤ 20
  q1 : -36000 ≤ valI xs ws 3
  q2 : valI xs ws 3 ≤ 36000
  p1 : -1800000 ≤ pairI xs vs ws 3
  p2 : pairI xs vs ws 3 ≤ 1800000
theorem line_facts {xs vs ws : List Int} (hp : pointB xs vs = true) (hw : vecB xs ws 20 = true) : LineOk xs vs ws := by
  obtain ⟨a, b, c, x, y, z, rfl, rfl, hf, P⟩ := point_pt hp
  obtain ⟨hb, _, hl⟩ := vecB_iff.1 hw
  obtain ⟨u, v, t, rfl⟩ := len3 (show ws.length = 3 from hl)
  have h1 := P.ha; have h2 := P.hb; have h3 := P.hc; have h4 := P.hx; have h5 := P.hy; have h6 := P.hz
  have k1 := hb u (by simp); have k2 := hb v (by simp); have k3 := hb t (by simp)
  have hv1 : ∀ w ∈ [x, y, z], -1000 ≤ w ∧ w ≤ 1000 := fun w hw => by
    simp at hw
    rcases hw with rfl | rfl | rfl <;> assumption
  have t1 := tri_nat (a := a) (u := u) (v := u) (m := 30) (n := 20) (k := 20) (by omega) (by omega) (by omega)
  have t2 := tri_nat (a := b) (u := v) (v := v) (m := 30) (n := 20) (k := 20) (by omega) (by omega) (by omega)
  have t3 := tri_nat (a := c) (u := t) (v := t) (m := 30) (n := 20) (k := 20) (by omega) (by omega) (by omega)
  have s1 := tri_nat (a := a) (u := x) (v := u) (m := 30) (n := 1000) (k := 20) (by omega) (by omega) (by omega)
  have s2 := tri_nat (a := b) (u := y) (v := v) (m := 30) (n := 1000) (k := 20) (by omega) (by omega) (by omega)
  have s3 := tri_nat (a := c) (u := z) (v := t) (m := 30) (n := 1000) (k := 20) (by omega) (by omega) (by omega)
  refine ⟨hf, rfl, rfl, rfl, fun w hw => ?_, fun w hw => ?_, hv1, hb, ?_, ?_, ?_, ?_⟩
  · have := hv1 w hw; omega
  · have := hb w hw; omega
  · rw [valT3]; unfold q3; omega
  · rw [valT3]; unfold q3; omega
  · rw [pairT3]; unfold p3; omega
  · rw [pairT3]; unfold p3; omega
theorem line_len (xs vs ws : List Int) : (lineL xs vs ws).length = 3 := rfl
theorem line_at (xs vs ws : List Int) {K : Nat} (hK : K < 3) : (lineL xs vs ws).getD K 0 = valI xs ws 3 * vs.getD K 0 - 2 * pairI xs vs ws 3 * ws.getD K 0 := by
  rcases (show K = 0 ∨ K = 1 ∨ K = 2 by omega) with rfl | rfl | rfl <;> rfl
theorem line_bd {xs vs ws : List Int} (h : LineOk xs vs ws) : Vec11 (lineL xs vs ws) := fun v hv => by
  obtain ⟨i, hi, rfl⟩ := List.getElem_of_mem hv
  rw [← getD_at _ _ hi (0 : Int), line_at xs vs ws hi]
  have hi3 : i < 3 := hi
  have b1 := h.bv (vs.getD i 0) (by rw [getD_at _ _ (by have := h.lv; omega)]; exact List.getElem_mem _)
  have b2 := h.bw (ws.getD i 0) (by rw [getD_at _ _ (by have := h.lw; omega)]; exact List.getElem_mem _)
  have q1 := h.q1; have q2 := h.q2; have p1 := h.p1; have p2 := h.p2
  have e1 := prod_bd2 (x := valI xs ws 3) (y := vs.getD i 0) (m := 36000) (n := 1000) (by omega) (by omega)
  have e2 := prod_bd2 (x := 2 * pairI xs vs ws 3) (y := ws.getD i 0) (m := 3600000) (n := 20) (by omega) (by omega)
  omega
theorem other_no1 {xs vs ws : List Int} (h : pointB xs vs = false) : otherOk xs vs ws = false := by unfold otherOk; rw [h]; rfl
theorem other_no2 {xs vs ws : List Int} (h : vecB xs ws 20 = false) : otherOk xs vs ws = false := by unfold otherOk; rw [h]; simp
theorem other_no3 {xs vs ws : List Int} (h : multB vs ws = true) : otherOk xs vs ws = false := by unfold otherOk; rw [h]; simp
theorem other_eq {xs vs ws : List Int} (h1 : pointB xs vs = true) (h2 : vecB xs ws 20 = true) (h3 : multB vs ws = false) : otherOk xs vs ws = zeroB xs (plainL (lineL xs vs ws)) := by
  unfold otherOk
  rw [h1, h2, h3]
  obtain ⟨a, b, c, x, y, z, rfl, rfl, hf, P⟩ := point_pt h1
  obtain ⟨u, v, t, rfl⟩ := len3 (line_facts h1 h2).lw
  rw [line_plain hf P h3]
  rfl
theorem line_some2 {xs vs ws : List Int} (h1 : pointB xs vs = true) (h2 : vecB xs ws 20 = true) (h3 : multB vs ws = false) : ∃ k ∈ lineL xs vs ws, k ≠ 0 := by
  obtain ⟨a, b, c, x, y, z, rfl, rfl, hf, P⟩ := point_pt h1
  obtain ⟨u, v, t, rfl⟩ := len3 (line_facts h1 h2).lw
  exact line_some P h3
theorem otherL_no {xs vs ws : List Int} (h : otherOk xs vs ws = false) : otherL xs vs ws = [] := by unfold otherL; rw [h]; rfl
theorem otherL_yes {xs vs ws : List Int} (h : otherOk xs vs ws = true) : otherL xs vs ws = plainL (lineL xs vs ws) := by unfold otherL; rw [h, if_pos rfl]
/-- what ConicOther answers -/
def OtherPost (xs vs ws : List Int) (w : World) (e : Ending) (w' : World) : Prop := ∃ u, e = .returned (.tuple #[u, .bool (otherOk xs vs ws)]) ∧ Owns w' w.heap.size u (otherL xs vs ws) ∧ Below w.heap.size w w'
theorem other_empty {xs vs ws : List Int} {w w1 : World} (h : otherOk xs vs ws = false) (hb : Below w.heap.size w w1) : OtherPost xs vs ws w (.returned (.tuple #[.slice (some ⟨w1.heap.size, 0, none⟩) 0 0, .bool false])) (w1.alloc (.cells #[] 3)) := by
  refine ⟨_, by rw [h], ?_, hb.alloc hb.size _⟩
  rw [otherL_no h]
  exact World.ownsRow_made (size := 1) w1 #[] 0 hb.size (by unfold maxLen; omega) rfl

set_option maxRecDepth 100000 in
set_option maxHeartbeats 8000000 in
theorem conicOtherS_any (vf vv vw : Value) (xs vs ws : List Int) (w : World) (hx : Rd w vf xs) (hv : Rd w vv vs) (hw : Rd w vw ws) : Calls Try.prog 18 #[vf, vv, vw] w (OtherPost xs vs ws w) := by
  have HX := hid hx
  have HV := hid hv
  have HW := hid hw
  obtain ⟨a, cap, rfl, _⟩ := hx.form
  obtain ⟨a', cap', rfl, _⟩ := hv.form
  obtain ⟨a3, cap3, rfl, _⟩ := hw.form
  clear hx hv hw
  cases hp : pointB xs vs with
  | false =>
    have HP := hid hp
    have HN := hid (other_no1 (ws := ws) hp)
    clear hp
    go_enter Try.func18, Try.ntmps18
    go_wp2_with (go_at_call 14; refine (conicPointS_any _ _ xs vs _ HX.out HV.out).mono ?_; rw [HP.out]; rintro e w1 ⟨rfl, hb1⟩)
    go_ret2
    exact other_empty HN.out hb1
  | true =>
    have HP := hid hp
    cases hwb : vecB xs ws 20 with
    | false =>
      have HWB := hid hwb
      have HN := hid (other_no2 (vs := vs) hwb)
      clear hp hwb
      go_enter Try.func18, Try.ntmps18
      go_wp2_with (first | (go_at_call 14; refine (conicPointS_any _ _ xs vs _ HX.out HV.out).mono ?_; rw [HP.out]; rintro e w1 ⟨rfl, hb1⟩) | (go_at_call 44; refine (l4Vector_any _ _ xs ws _ (by omega) (by omega) _ (HX.out.keep hb1) (HW.out.keep hb1)).mono ?_; rw [HWB.out]; rintro e w' ⟨rfl, rfl⟩))
      go_ret2
      exact other_empty HN.out hb1
    | true =>
      have HWB := hid hwb
      have L := line_facts hp hwb
      have HLO := hid L
      cases hm : multB vs ws with
      | true =>
        have HM := hid hm
        have HN := hid (other_no3 (xs := xs) hm)
        clear hp hwb hm L
        go_enter Try.func18, Try.ntmps18
        go_wp2_with (first | (go_at_call 14; refine (conicPointS_any _ _ xs vs _ HX.out HV.out).mono ?_; rw [HP.out]; rintro e w1 ⟨rfl, hb1⟩) | (go_at_call 44; refine (l4Vector_any _ _ xs ws _ (by omega) (by omega) _ (HX.out.keep hb1) (HW.out.keep hb1)).mono ?_; rw [HWB.out]; rintro e w' ⟨rfl, rfl⟩) | (go_at_call 45; refine (l6kMultiple_any _ _ vs ws _ (HV.out.keep hb1) (HW.out.keep hb1) HLO.out.lv HLO.out.lw HLO.out.v6 HLO.out.w6).mono ?_; rw [HM.out]; rintro e w2 ⟨rfl, k2, rfl⟩))
        go_ret2
        exact other_empty HN.out (below_drewN hb1 k2)
      | false =>
        have HM := hid hm
        have HE := hid (other_eq hp hwb hm)
        have HSM := hid (line_some2 hp hwb hm)
        have HBD := hid (line_bd L)
        have HVAL : Hid (∀ w : World, Rd w (.slice a xs.length cap) xs → Rd w (.slice a3 ws.length cap3) ws → Calls Try.prog 46 #[.slice a xs.length cap, .slice a3 ws.length cap3] w fun e w' => e = .returned (.int .i64 (valI xs ws 3)) ∧ ∃ k, w' = w.drewN k) := hid (fun w h1 h2 => by
          have := l4Value6_any _ _ xs ws w h1 h2 L.hf L.w6 (by rw [L.lw, L.lx])
          rwa [show valI xs ws xs.length = valI xs ws 3 by rw [L.lx]] at this)
        have HPR : Hid (∀ w : World, Rd w (.slice a xs.length cap) xs → Rd w (.slice a' vs.length cap') vs → Rd w (.slice a3 ws.length cap3) ws → Calls Try.prog 47 #[.slice a xs.length cap, .slice a' vs.length cap', .slice a3 ws.length cap3] w fun e w' => e = .returned (.int .i64 (pairI xs vs ws 3)) ∧ ∃ k, w' = w.drewN k) := hid (fun w h1 h2 h3 => by
          have := l5Pair_any _ _ _ xs vs ws w h1 h2 h3 L.hf L.v6 L.w6 (by rw [L.lv, L.lx]) (by rw [L.lw, L.lx])
          rwa [show pairI xs vs ws xs.length = pairI xs vs ws 3 by rw [L.lx]] at this)
        have HAT := hid (fun K (hK : K < 3) => line_at xs vs ws hK)
        have hq1 := L.q1
        have hq2 := L.q2
        have hp1 := L.p1
        have hp2 := L.p2
        obtain ⟨q, hq⟩ : ∃ q, q = valI xs ws 3 := ⟨_, rfl⟩
        obtain ⟨p, hpp⟩ : ∃ p, p = pairI xs vs ws 3 := ⟨_, rfl⟩
        rw [← hq] at HVAL HAT hq1 hq2
        rw [← hpp] at HPR HAT hp1 hp2
        have HPL := hid (plainL_len (lineL xs vs ws))
        have HON : Hid (otherOk xs vs ws = false → otherL xs vs ws = []) := hid otherL_no
        have HOY : Hid (otherOk xs vs ws = true → otherL xs vs ws = plainL (lineL xs vs ws)) := hid otherL_yes
        have HLL := hid (line_len xs vs ws)
        obtain ⟨L0, hL0⟩ : ∃ L0, L0 = lineL xs vs ws := ⟨_, rfl⟩
        rw [← hL0] at HAT HBD HSM HE HPL HOY HLL
        have w2p := wrapW (x := 2 * p) (by omega) (by omega)
        clear hp hwb hm L hq hpp hL0
        go_enter Try.func18, Try.ntmps18
        go_wp2_with (first | (go_at_call 14; refine (conicPointS_any _ _ xs vs _ HX.out HV.out).mono ?_; rw [HP.out]; rintro e w1 ⟨rfl, hb1⟩) | (go_at_call 44; refine (l4Vector_any _ _ xs ws _ (by omega) (by omega) _ (HX.out.keep hb1) (HW.out.keep hb1)).mono ?_; rw [HWB.out]; rintro e w' ⟨rfl, rfl⟩) | (go_at_call 45; refine (l6kMultiple_any _ _ vs ws _ (HV.out.keep hb1) (HW.out.keep hb1) HLO.out.lv HLO.out.lw HLO.out.v6 HLO.out.w6).mono ?_; rw [HM.out]; rintro e w2 ⟨rfl, k2, hw2⟩; have HB2 : Hid (Below w.heap.size w w2) := hid (by rw [hw2]; exact below_drewN hb1 k2); clear hw2))
        refine (HVAL.out _ (HX.out.keep HB2.out) (HW.out.keep HB2.out)).mono ?_
        rintro e w3 ⟨rfl, k3, hw3⟩
        have HB3 : Hid (Below w.heap.size w w3) := hid (by rw [hw3]; exact below_drewN HB2.out k3)
        clear hw3 HB2 hb1
        go_wp2_with fail
        refine (HPR.out _ (HX.out.keep HB3.out) (HV.out.keep HB3.out) (HW.out.keep HB3.out)).mono ?_
        rintro e w4 ⟨rfl, k4, hw4⟩
        have HB4 : Hid (Below w.heap.size w w4) := hid (by rw [hw4]; exact below_drewN HB3.out k4)
        clear hw4 HB3
        have HX4 := hid (HX.out.keep HB4.out)
        have HVK : Hid (∀ wx : World, Below w4.heap.size w4 wx → Rd wx (.slice a' vs.length cap') vs) := hid (fun wx hbx => (HV.out.keep HB4.out).keep hbx)
        have HWK : Hid (∀ wx : World, Below w4.heap.size w4 wx → Rd wx (.slice a3 ws.length cap3) ws) := hid (fun wx hbx => (HW.out.keep HB4.out).keep hbx)
        have HB0 := hid ((Below.refl w4.heap.size w4).alloc (Nat.le_refl _) (.cells #[] 3))
        have HO0 : Hid (Owns (w4.alloc (.cells #[] 3)) w4.heap.size (.slice (some ⟨w4.heap.size, 0, none⟩) 0 0) []) := hid (World.ownsRow_made (size := 1) w4 #[] 0 (Nat.le_refl _) (by unfold maxLen; omega) rfl)
        go_wp2_with fail
        go_loopw [10, 11] (fun so si wr => ∃ K : Nat, si = .int .i64 K ∧ K ≤ 3 ∧ Hid (Owns wr w4.heap.size so (L0.take K)) ∧ Hid (Below w4.heap.size w4 wr)) (fun _ si _ => 3 - (intOf si).toNat)
        case atStart => exact ⟨0, rfl, by omega, hid (by simpa using HO0.out), HB0⟩
        case round =>
          obtain ⟨K, rfl, hK, HO, HL⟩ := hrel
          rename World => wr
          have hbs : w4.heap.size ≤ wr.heap.size := HL.out.size
          by_cases hlt : K < 3
          · have hlv := HLO.out.lv
            have hlw := HLO.out.lw
            obtain ⟨a2, cap2, e2, hform⟩ := (HVK.out wr HL.out).form
            cases e2
            obtain ⟨bb, o, rfl, hml, hc⟩ := hform (by omega)
            have hcell := hc K (by omega)
            obtain ⟨a4, cap4, e4, hform3⟩ := (HWK.out wr HL.out).form
            cases e4
            obtain ⟨b3, o3, rfl, hml3, hc3⟩ := hform3 (by omega)
            have hcell3 := hc3 K (by omega)
            have hx1 := HLO.out.bv _ (show vs.getD K 0 ∈ vs by rw [getD_at _ _ (by omega)]; exact List.getElem_mem _)
            have hy1 := HLO.out.bw _ (show ws.getD K 0 ∈ ws by rw [getD_at _ _ (by omega)]; exact List.getElem_mem _)
            have HS : Hid (L0.take (K + 1) = L0.take K ++ [q * vs.getD K 0 - 2 * p * ws.getD K 0]) := hid (by rw [takeD_snoc (by have := HLL.out; omega), HAT.out K hlt])
            obtain ⟨x, hx⟩ : ∃ x, x = vs.getD K 0 := ⟨_, rfl⟩
            obtain ⟨y, hy⟩ : ∃ y, y = ws.getD K 0 := ⟨_, rfl⟩
            rw [← hx] at hcell hx1 HS
            rw [← hy] at hcell3 hy1 HS
            have m1 := prod_bd2 (x := q) (y := x) (m := 36000) (n := 1000) (by omega) (by omega)
            have m2 := prod_bd2 (x := 2 * p) (y := y) (m := 3600000) (n := 20) (by omega) (by omega)
            have f1 := wrapW (x := q * x) (by omega) (by omega)
            have f2 := wrapW (x := 2 * p * y) (by omega) (by omega)
            have f3 := wrapW (x := q * x - 2 * p * y) (by omega) (by omega)
            have hi0 : (K : Int) < (vs.length : Int) := by omega
            have hi1 : (K : Int) < (ws.length : Int) := by omega
            have hi3 : (K : Int) < 3 := by omega
            have HLT := hid hlt
            obtain ⟨pre, hpre⟩ : ∃ pre, pre = L0.take K := ⟨_, rfl⟩
            have hprel : pre.length ≤ 3 := by rw [hpre, List.length_take]; omega
            rw [← hpre] at HO HS
            obtain ⟨v', w5, hrun, hown', hgrow⟩ := append_one (wd := wr.drew) (q * x - 2 * p * y) (show Owns wr.drew w4.heap.size _ pre from HO.out) hbs (by omega)
            have HRUN : Hid ((Builtin.append_ #[22, 22] 22 #[u10, .slice (some ⟨wr.heap.size, 0, none⟩) 1 1]).run Try.prog ((wr.alloc (.cells #[.int .i64 (q * x - 2 * p * y)] 3)).drew) = .ok v' w5) := hid hrun
            have HBX := hid ((below_dw HL.out).alloc hbs (.cells #[.int .i64 (q * x - 2 * p * y)] 3))
            have hbz : w4.heap.size ≤ (wr.drew.alloc (.cells #[.int .i64 (q * x - 2 * p * y)] 3)).heap.size := HBX.out.size
            have HOW := hid hown'
            have HGR := hid hgrow
            unfold maxLen at hml hml3
            clear hform hform3 hc hc3 hx hy hlt hpre hown' hgrow hrun hlv hlw m1 m2 hx1 hy1
            go_wp2_with fail
            go_region_law (refine step_append_told rfl (.tmp 40) (.tmp 55) u10 (.slice (some ⟨wr.heap.size, 0, none⟩) 1 1) v' rfl rfl rfl rfl HRUN.out ?_)
            all_goals (
              go_wp2
              go_roundw
              case measure => simp only [intOf]; have := HLT.out; omega
              case rel => exact ⟨K + 1, by go_num, by have := HLT.out; omega, hid (by rw [HS.out]; exact HOW.out), hid (HBX.out.grown HGR.out hbz (fun k e => (HO.out.ge k e)))⟩)
          · have hKL : K = 3 := by omega
            have HO9 : Hid (Owns wr w4.heap.size u10 L0) := hid (by
              have := HO.out
              rwa [hKL, List.take_of_length_le (by have := HLL.out; omega)] at this)
            have hge : ¬ (K : Int) < 3 := by omega
            have HB9 := hid (HB4.out.trans (HL.out.mono HB4.out.size))
            have HX9 := hid (HX4.out.keep HL.out)
            clear hKL hlt HO HL
            go_wp2_with fail
            refine (l5PlainW_any _ L0 _ HO9.out.rd (by have := HLL.out; omega) HBD.out HSM.out).mono ?_
            rintro e w6 ⟨u, rfl, ho6, hb6⟩
            have HB6 := hid (HB9.out.trans (hb6.mono HB9.out.size))
            have HX6 := hid (HX9.out.keep hb6)
            have HO6 := hid (ho6.down HB9.out.size)
            clear ho6 hb6
            go_wp2_with fail
            refine (zeroIsS_any _ _ xs (plainL L0) _ HX6.out HO6.out.rd).mono ?_
            rw [← HE.out]
            rintro e w7 ⟨rfl, k7, hw7⟩
            have HB7 : Hid (Below w.heap.size w w7) := hid (by rw [hw7]; exact below_drewN HB6.out k7)
            have HO7 : Hid (Owns w7 w.heap.size u (plainL L0)) := hid (by rw [hw7]; exact HO6.out.drewN k7)
            clear hw7
            cases hok : otherOk xs vs ws with
            | false =>
              have HN := hid hok
              clear hok
              go_wp2_with fail
              go_ret2
              exact other_empty HN.out HB7.out
            | true =>
              have HN := hid hok
              clear hok
              go_wp2_with fail
              go_ret2
              exact ⟨u, by rw [HN.out]; rfl, by rw [HOY.out HN.out]; exact HO7.out, HB7.out⟩

end Go.Proofs.Ytenibnblibnocaa
