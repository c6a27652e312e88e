/-
  Contracts of the program's chapter 6: the other zero on a line; what is exported.
-/
import Derived.Test.YtenibnblibnocaaCp4
import Derived.Test.YtenibnblibnocaaAppOne
set_option linter.unusedVariables false
namespace Go.Proofs.Ytenibnblibnocaa
open Go.RowKit

theorem conOf_yes {xs vs : List Int} {f v : Value} (h : pointB xs vs = true) : conOf xs vs f v = .tuple #[conA vs f v, .bool true] := by unfold conOf; rw [h, if_pos rfl]
theorem conOf_no {xs vs : List Int} {f v : Value} (h : pointB xs vs = false) : conOf xs vs f v = .tuple #[.agg #[.slice none 0 0, .slice none 0 0, .int .i64 0, .int .i64 0, .int .i64 0], .bool false] := by unfold conOf; rw [h]; rfl
theorem conOf_form (xs vs : List Int) (a a' : Option Addr) (n n' k k' : Nat) : ∃ (b b' : Option Addr) (m m' j j' : Nat) (c0 c1 c2 : Int), conOf xs vs (.slice a n k) (.slice a' n' k') = .tuple #[.agg #[.slice b m j, .slice b' m' j', .int .i64 c0, .int .i64 c1, .int .i64 c2], .bool (pointB xs vs)] := by
  cases h : pointB xs vs with
  | false => exact ⟨_, _, _, _, _, _, 0, 0, 0, conOf_no h⟩
  | true =>
    rw [conOf_yes h]
    obtain ⟨c2, c3, hC, _⟩ := conA_form vs (.slice a n k) (.slice a' n' k')
    rw [hC]
    exact ⟨_, _, _, _, _, _, _, _, _, rfl⟩
set_option maxRecDepth 100000 in
set_option maxHeartbeats 1000000 in
theorem conicPoint_any (vf vv : Value) (xs vs : List Int) (w : World) (hx : Rd w vf xs) (hv : Rd w vv vs) : Calls Try.prog 16 #[vf, vv] w fun e w' => e = .returned (.bool (pointB xs vs)) ∧ Below w.heap.size w w' := by
  have HC := hid (conicOf_any vf vv xs vs w hx hv)
  obtain ⟨a, cap, rfl, _⟩ := hx.form
  obtain ⟨a', cap', rfl, _⟩ := hv.form
  obtain ⟨_, _, _, _, _, _, c0, c1, c2, h⟩ := conOf_form xs vs a a' xs.length vs.length cap cap'
  rw [h] at HC
  clear h hx hv
  go_enter Try.func16, Try.ntmps16
  go_wp2_with fail
  refine (HC.out).mono ?_
  rintro e w2 ⟨rfl, hb2⟩
  go_wp2_with fail
  go_ret
  exact ⟨rfl, hb2.alloc hb2.size _⟩

theorem other_empty2 {xs vs ws : List Int} {w w1 : World} {g : Nat} (h : otherOk xs vs ws = false) (hb : Below w.heap.size w w1) (hg : w1.heap.size = g) : OtherPost xs vs ws w (.returned (.tuple #[.slice (some ⟨g, 0, none⟩) 0 0, .bool false])) (w1.alloc (.cells #[] 3)) := by
  subst hg
  exact other_empty h hb
set_option maxRecDepth 100000 in
set_option maxHeartbeats 8000000 in
theorem other_any (vf vv vw : Value) (xs vs ws : List Int) (w : World) (hx : Rd w vf xs) (hv : Rd w vv vs) (hw : Rd w vw ws) (hp : pointB xs vs = true) : Calls Try.prog 49 #[conA vs vf vv, vw] w (OtherPost xs vs ws w) := by
  obtain ⟨a, cap, rfl, _⟩ := hx.form
  obtain ⟨a', cap', rfl, _⟩ := hv.form
  obtain ⟨a3, cap3, rfl, _⟩ := hw.form
  have hxl := (pointB_iff.1 hp).1
  have hz := (pointB_iff.1 hp).2.1
  have hpl := (pointB_iff.1 hp).2.2.1
  have hvl : vs.length = 3 := by rw [(zeroB_iff.1 hz).2.2.1, hxl]
  have hsm := (zeroB_iff.1 hz).2.2.2.1
  have hf := (zeroB_iff.1 hz).2.1
  rw [hxl] at hx ⊢
  rw [hvl] at hv ⊢
  obtain ⟨c2, c3, hC, _⟩ := conA_form vs (.slice a 3 cap) (.slice a' 3 cap')
  have hB0 := below_box2 w (.cells #[.slice a 3 cap, .slice a' 3 cap', .int .i64 c2, .int .i64 c3, .int .i64 2] 49)
  have hvw : (inAll ws 20 && decide ((ws.length : Int) = 3)) = vecB xs ws 20 := by
    rw [Bool.eq_iff_iff, vecB_iff]
    unfold inAll inR
    simp only [Bool.and_eq_true, List.all_eq_true, decide_eq_true_eq]
    constructor
    · rintro ⟨h1, h2⟩; exact ⟨h1, hf, by omega⟩
    · rintro ⟨h1, h2, h3⟩; exact ⟨h1, by omega⟩
  have HBX := hid (hx.keep hB0)
  have HBV := hid (hv.keep hB0)
  have HBW := hid (hw.keep hB0)
  have HB0 := hid hB0
  cases hwb : vecB xs ws 20 with
  | false =>
    have HN := hid (other_no2 (vs := vs) hwb)
    have HV2 := hid (hvw.trans hwb)
    rw [hC]
    clear hx hv hw hp hxl hz hpl hvl hsm hf hC hB0 hvw hwb
    go_enter Try.func49, Try.ntmps49
    go_wp2_with (go_at_call 71; refine (vectorWithin_any _ ws 3 20 (by omega) (by omega) _ HBW.out).mono ?_; rw [HV2.out]; rintro e w' ⟨rfl, rfl⟩)
    go_ret2
    exact other_empty2 HN.out HB0.out (by simp)
  | true =>
    have L := line_facts hp hwb
    have HV2 := hid (hvw.trans hwb)
    have hwl := L.lw
    have h11 : Vec11 ws := fun v hv => by have := L.w6 v hv; omega
    rw [hwl] at hw HBW ⊢
    have HMU : Hid (∀ wx : World, Below (w.alloc (.cells #[.slice a 3 cap, .slice a' 3 cap', .int .i64 c2, .int .i64 c3, .int .i64 2] 49)).heap.size (w.alloc (.cells #[.slice a 3 cap, .slice a' 3 cap', .int .i64 c2, .int .i64 c3, .int .i64 2] 49)) wx → Calls Try.prog 74 #[.agg #[.slice a 3 cap, .slice a' 3 cap', .int .i64 c2, .int .i64 c3, .int .i64 2], .slice a3 3 cap3] wx fun e w' => e = .returned (.bool (multB vs ws)) ∧ Below wx.heap.size wx w') := hid (fun wx h => by
      rw [← hC]
      exact multiple_any _ _ _ vs ws wx (HBV.out.keep h) (HBW.out.keep h) hvl hwl h11 hsm hpl)
    cases hm : multB vs ws with
    | true =>
      have HN := hid (other_no3 (xs := xs) hm)
      rw [hm] at HMU
      rw [hC]
      clear hx hv hw hp hxl hz hpl hvl hsm hf hC hB0 hvw hwb L hwl h11 hm
      go_enter Try.func49, Try.ntmps49
      go_wp2_with (first | (go_at_call 71; refine (vectorWithin_any _ ws 3 20 (by omega) (by omega) _ HBW.out).mono ?_; rw [HV2.out]; rintro e w' ⟨rfl, rfl⟩) | (go_at_call 74; refine (HMU.out _ (Below.refl _ _)).mono ?_; rintro e w2 ⟨rfl, hb2⟩))
      go_ret2
      exact other_empty HN.out (HB0.out.trans (hb2.mono HB0.out.size))
    | false =>
      have HE := hid (other_eq hp hwb hm)
      have HSM := hid (line_some2 hp hwb hm)
      have HBD := hid (line_bd L)
      have HVAL : Hid (∀ w : World, Rd w (.slice a 3 cap) xs → Rd w (.slice a3 3 cap3) ws → Calls Try.prog 75 #[.slice a 3 cap, .slice a3 3 cap3, .slice a3 3 cap3] w fun e w' => e = .returned (.int .i64 (valI xs ws 3)) ∧ ∃ k, w' = w.drewN k) := hid (fun w h1 h2 => by
        have := pairAt_any _ _ _ xs ws ws w h1 h2 h2 L.hf L.w6 L.w6 (by rw [L.lw, L.lx]) (by rw [L.lw, L.lx])
        rwa [pair_self, show valI xs ws xs.length = valI xs ws 3 by rw [L.lx]] at this)
      have HPR : Hid (∀ w : World, Rd w (.slice a 3 cap) xs → Rd w (.slice a' 3 cap') vs → Rd w (.slice a3 3 cap3) ws → Calls Try.prog 75 #[.slice a 3 cap, .slice a' 3 cap', .slice a3 3 cap3] w fun e w' => e = .returned (.int .i64 (pairI xs vs ws 3)) ∧ ∃ k, w' = w.drewN k) := hid (fun w h1 h2 h3 => by
        have := pairAt_any _ _ _ xs vs ws w h1 h2 h3 L.hf L.v6 L.w6 (by rw [L.lv, L.lx]) (by rw [L.lw, L.lx])
        rwa [show pairI xs vs ws xs.length = pairI xs vs ws 3 by rw [L.lx]] at this)
      have HAT := hid (fun K (hK : K < 3) => line_at xs vs ws hK)
      have hq1 := L.q1
      have hq2 := L.q2
      have hp1 := L.p1
      have hp2 := L.p2
      obtain ⟨q, hq⟩ : ∃ q, q = valI xs ws 3 := ⟨_, rfl⟩
      obtain ⟨p, hpp⟩ : ∃ p, p = pairI xs vs ws 3 := ⟨_, rfl⟩
      rw [← hq] at HVAL HAT hq1 hq2
      rw [← hpp] at HPR HAT hp1 hp2
      have HPL := hid (plainL_len (lineL xs vs ws))
      have HON : Hid (otherOk xs vs ws = decide (hgtL (plainL (lineL xs vs ws)) ≤ 1000000)) := hid (by unfold otherOk; rw [hp, hwb, hm]; rfl)
      have HOY : Hid (otherOk xs vs ws = true → otherL xs vs ws = plainL (lineL xs vs ws)) := hid otherL_yes
      have HLL := hid (line_len xs vs ws)
      have HPB : Hid (Vec11 (plainL (lineL xs vs ws))) := hid (fun v hv => by
        have h1 := hgt_ge hv
        have h2 := hgt_plain (line_some2 hp hwb hm)
        have h3 := gcdL_pos (line_some2 hp hwb hm)
        have h4 : hgtL (lineL xs vs ws) ≤ 100000000000 := hgt_le fun x hx => by have := line_bd L x hx; omega
        have h5 := Nat.le_mul_of_pos_left (hgtL (plainL (lineL xs vs ws))) h3
        omega)
      obtain ⟨L0, hL0⟩ : ∃ L0, L0 = lineL xs vs ws := ⟨_, rfl⟩
      rw [← hL0] at HAT HBD HSM HE HPL HOY HLL HON HPB
      have HLO := hid L
      have HLV := hid hvl
      have HLW := hid hwl
      have w2p := wrapW (x := 2 * p) (by omega) (by omega)
      rw [hm] at HMU
      rw [hC]
      clear hx hv hw hp hxl hz hpl hvl hsm hf hC hB0 hvw hwb L hwl h11 hm hq hpp hL0
      have hrr := Below.refl (w.alloc (.cells #[.slice a 3 cap, .slice a' 3 cap', .int .i64 c2, .int .i64 c3, .int .i64 2] 49)).heap.size (w.alloc (.cells #[.slice a 3 cap, .slice a' 3 cap', .int .i64 c2, .int .i64 c3, .int .i64 2] 49))
      have HRR := hid hrr
      clear hrr
      go_enter Try.func49, Try.ntmps49
      go_wp2_with (first | (go_at_call 71; refine (vectorWithin_any _ ws 3 20 (by omega) (by omega) _ HBW.out).mono ?_; rw [HV2.out]; rintro e w' ⟨rfl, rfl⟩) | (go_at_call 74; refine (HMU.out _ HRR.out).mono ?_; rintro e w2 ⟨rfl, hb2⟩; obtain ⟨k0, k1, k2, k3, k4⟩ := cells5 hb2; have HB2 := hid hb2; clear hb2))
      refine (HVAL.out _ (HBX.out.keep HB2.out) (HBW.out.keep HB2.out)).mono ?_
      rintro e w3 ⟨rfl, n3, hw3⟩
      have HB3 := hid (show Below _ _ w3 by rw [hw3]; exact below_drewN HB2.out n3)
      obtain ⟨j0, j1, j2, j3, j4⟩ := cells5 HB3.out
      clear hw3 k0 k1 k2 k3 k4
      go_wp2_with fail
      refine (HPR.out _ (HBX.out.keep HB3.out) (HBV.out.keep HB3.out) (HBW.out.keep HB3.out)).mono ?_
      rintro e w4 ⟨rfl, n4, hw4⟩
      have HB4 := hid (show Below _ _ w4 by rw [hw4]; exact below_drewN HB3.out n4)
      obtain ⟨i0, i1, i2, i3, i4⟩ := cells5 HB4.out
      have m1 := cell_later (below_box2 w4 (.cells #[] 3)) i1
      clear hw4 j0 j1 j2 j3 j4 HB2 HB3
      have HVK : Hid (∀ wx : World, Below w4.heap.size w4 wx → Rd wx (.slice a' 3 cap') vs) := hid (fun wx hbx => (HBV.out.keep HB4.out).keep hbx)
      have HWK : Hid (∀ wx : World, Below w4.heap.size w4 wx → Rd wx (.slice a3 3 cap3) ws) := hid (fun wx hbx => (HBW.out.keep HB4.out).keep hbx)
      have HBE := hid ((Below.refl w4.heap.size w4).alloc (Nat.le_refl _) (.cells #[] 3))
      have HO0 : Hid (Owns (w4.alloc (.cells #[] 3)) w4.heap.size (.slice (some ⟨w4.heap.size, 0, none⟩) 0 0) []) := hid (World.ownsRow_made (size := 1) w4 #[] 0 (Nat.le_refl _) (by unfold maxLen; omega) rfl)
      have HB4w := hid (HB0.out.trans (HB4.out.mono HB0.out.size))
      go_wp2_with fail
      go_loopw [8, 36] (fun so si wr => ∃ K : Nat, si = .int .i64 K ∧ K ≤ 3 ∧ Hid (Owns wr w4.heap.size so (L0.take K)) ∧ Hid (Below w4.heap.size w4 wr)) (fun _ si _ => 3 - (intOf si).toNat)
      case atStart => exact ⟨0, rfl, by omega, hid (by simpa using HO0.out), HBE⟩
      case round =>
        obtain ⟨K, rfl, hK, HO, HL⟩ := hrel
        rename World => wr
        have hbs : w4.heap.size ≤ wr.heap.size := HL.out.size
        by_cases hlt : K < 3
        · have hlv := HLV.out
          have hlw := HLW.out
          obtain ⟨a2, cp2, e2, hform⟩ := (HVK.out wr HL.out).form
          simp only [Value.slice.injEq, hlv, true_and] at e2
          obtain ⟨rfl, rfl⟩ := e2
          obtain ⟨bb, o, rfl, hml, hc⟩ := hform (by omega)
          have hcell := hc K (by omega)
          obtain ⟨a4, cp4, e4, hform3⟩ := (HWK.out wr HL.out).form
          simp only [Value.slice.injEq, hlw, true_and] at e4
          obtain ⟨rfl, rfl⟩ := e4
          obtain ⟨b3, o3, rfl, hml3, hc3⟩ := hform3 (by omega)
          have hcell3 := hc3 K (by omega)
          have hx1 := HLO.out.bv _ (show vs.getD K 0 ∈ vs by rw [getD_at _ _ (by omega)]; exact List.getElem_mem _)
          have hy1 := HLO.out.bw _ (show ws.getD K 0 ∈ ws by rw [getD_at _ _ (by omega)]; exact List.getElem_mem _)
          have HS : Hid (L0.take (K + 1) = L0.take K ++ [q * vs.getD K 0 - 2 * p * ws.getD K 0]) := hid (by rw [takeD_snoc (by have := HLL.out; omega), HAT.out K hlt])
          obtain ⟨x, hx⟩ : ∃ x, x = vs.getD K 0 := ⟨_, rfl⟩
          obtain ⟨y, hy⟩ : ∃ y, y = ws.getD K 0 := ⟨_, rfl⟩
          rw [← hx] at hcell hx1 HS
          rw [← hy] at hcell3 hy1 HS
          have m1 := prod_bd2 (x := q) (y := x) (m := 36000) (n := 1000) (by omega) (by omega)
          have m2 := prod_bd2 (x := 2 * p) (y := y) (m := 3600000) (n := 20) (by omega) (by omega)
          have f1 : -100000000000 ≤ q * x := by omega
          have f2 : q * x ≤ 100000000000 := by omega
          have f3 : -100000000000 ≤ 2 * p * y := by omega
          have f4 : 2 * p * y ≤ 100000000000 := by omega
          have hi3 : (K : Int) < 3 := by omega
          have HLT := hid hlt
          obtain ⟨pre, hpre⟩ : ∃ pre, pre = L0.take K := ⟨_, rfl⟩
          have hprel : pre.length ≤ 4 := by rw [hpre, List.length_take]; omega
          rw [← hpre] at HO HS
          clear hform hform3 hc hc3 hx hy hlt hpre hlv hlw m1 m2 hx1 hy1 hml hml3
          obtain ⟨i0, hi, hz0, hz1, hz2⟩ := info_parts infoInt
          go_wp2_with (at_builtin; refine wpList_append_own_at _ rfl _ _ 22 rfl w4.heap.size 3 i0 (.int .i64 0) 1 8 Try.underlying22 hi hz0 hz1 hz2 rfl (by decide) _ _ _ rfl ((show World.ownsRow _ _ _ _ _ _ _ from HO.out).alloc _) ⟨wr.heap.size, 0, none⟩ 1 1 [.int .i64 (q * x - 2 * p * y)] rfl rfl (cell_one_new _ _ _) (by simp [Value.oneCell']) (by unfold maxLen; omega) (by omega) (by simp; omega) ?_; intro v' w5 hown' hgrow _ hat)
          have hsg := hgrow.size
          simp only [World.size_alloc] at hsg
          go_roundw
          case measure => simp only [intOf]; have := HLT.out; omega
          case rel =>
            refine ⟨K + 1, by go_num, by have := HLT.out; omega, hid ?_, hid (HL.out.alloc hbs _ |>.grown hgrow (by simp; omega) (fun k e => (HO.out.ge k e)))⟩
            rw [HS.out]
            unfold Owns
            simpa using hown'
        · have hKL : K = 3 := by omega
          have HO9 : Hid (Owns wr w4.heap.size u8 L0) := hid (by
            have := HO.out
            rwa [hKL, List.take_of_length_le (by have := HLL.out; omega)] at this)
          have hge : ¬ (K : Int) < 3 := by omega
          have HB9 := hid (HB4w.out.trans (HL.out.mono HB4w.out.size))
          clear hKL hlt HO HL
          go_wp2_with fail
          refine (plainOfW_any _ L0 _ HO9.out.rd (by have := HLL.out; omega) HBD.out HSM.out).mono ?_
          rintro e w6 ⟨u, rfl, ho6, hb6⟩
          have HB6 := hid (HB9.out.trans (hb6.mono HB9.out.size))
          have HO6 := hid (ho6.down HB9.out.size)
          clear ho6 hb6
          go_wp2_with fail
          refine (heightOfW_any _ (plainL L0) _ HO6.out.rd (by rw [HPL.out, HLL.out]; omega) HPB.out).mono ?_
          obtain ⟨g, hg⟩ : ∃ g, g = hgtL (plainL L0) := ⟨_, rfl⟩
          have HON2 := HON.out
          rw [← hg] at HON2 ⊢
          clear hg
          rintro e w7 ⟨rfl, rfl⟩
          by_cases hg6 : g ≤ 1000000
          · have HN : Hid (otherOk xs vs ws = true) := hid (by rw [HON2, decide_eq_true hg6])
            have T : ¬ (1000000 : Int) < (g : Int) := by omega
            clear HON2 hg6
            go_wp2_with fail
            go_ret2
            exact ⟨u, by rw [HN.out]; rfl, by rw [HOY.out HN.out]; exact HO6.out, HB6.out⟩
          · have HN : Hid (otherOk xs vs ws = false) := hid (by rw [HON2, decide_eq_false hg6])
            have T : (1000000 : Int) < (g : Int) := by omega
            clear HON2 hg6
            go_wp2_with fail
            go_ret2
            exact other_empty HN.out HB6.out

set_option maxRecDepth 100000 in
set_option maxHeartbeats 2000000 in
theorem conicOther_any (vf vv vw : Value) (xs vs ws : List Int) (w : World) (hx : Rd w vf xs) (hv : Rd w vv vs) (hw : Rd w vw ws) : Calls Try.prog 19 #[vf, vv, vw] w (OtherPost xs vs ws w) := by
  have HC := hid (conicOf_any vf vv xs vs w hx hv)
  have HX := hid hx
  have HV := hid hv
  have HW := hid hw
  obtain ⟨a, cap, rfl, _⟩ := hx.form
  obtain ⟨a', cap', rfl, _⟩ := hv.form
  obtain ⟨a3, cap3, rfl, _⟩ := hw.form
  clear hx hv hw
  cases hp : pointB xs vs with
  | false =>
    rw [conOf_no hp] at HC
    have HN := hid (other_no1 (ws := ws) hp)
    clear hp
    go_enter Try.func19, Try.ntmps19
    go_wp2_with fail
    refine (HC.out).mono ?_
    rintro e w2 ⟨rfl, hb2⟩
    go_wp2_with fail
    go_ret2
    exact other_empty2 HN.out (hb2.alloc hb2.size _) (by simp)
  | true =>
    rw [conOf_yes hp] at HC
    have HP := hid hp
    obtain ⟨c2, c3, hC, _⟩ := conA_form vs (.slice a xs.length cap) (.slice a' vs.length cap')
    have HO : Hid (∀ wx : World, Below w.heap.size w wx → Calls Try.prog 49 #[.agg #[.slice a xs.length cap, .slice a' vs.length cap', .int .i64 c2, .int .i64 c3, .int .i64 2], .slice a3 ws.length cap3] wx (OtherPost xs vs ws wx)) := hid (fun wx h => by
      rw [← hC]
      exact other_any _ _ _ xs vs ws wx (HX.out.keep h) (HV.out.keep h) (HW.out.keep h) hp)
    rw [hC] at HC
    clear hp hC
    go_enter Try.func19, Try.ntmps19
    go_wp2_with fail
    refine (HC.out).mono ?_
    rintro e w2 ⟨rfl, hb2⟩
    have HB2 := hid (hb2.alloc hb2.size (.cells #[.slice a xs.length cap, .slice a' vs.length cap', .int .i64 c2, .int .i64 c3, .int .i64 2] 49))
    clear hb2
    go_wp2_with fail
    refine (HO.out _ HB2.out).mono ?_
    intro e w3 h3
    obtain ⟨u, rfl, h4, h5⟩ := other_up h3 HB2.out
    have H4 := hid h4
    have H5 := hid h5
    clear h3 h4 h5
    go_wp2_with fail
    go_ret2
    exact ⟨u, rfl, H4.out, H5.out⟩

set_option maxRecDepth 100000 in
set_option maxHeartbeats 4000000 in
theorem conicAt_any (vf vv : Value) (xs vs : List Int) (s t : Int) (w : World) (hx : Rd w vf xs) (hv : Rd w vv vs) : Calls Try.prog 23 #[vf, vv, .int .i64 s, .int .i64 t] w (OtherPost xs vs (headL vs s t) w) := by
  have HC := hid (conicOf_any vf vv xs vs w hx hv)
  have HX := hid hx
  have HV := hid hv
  obtain ⟨a, cap, rfl, _⟩ := hx.form
  obtain ⟨a', cap', rfl, _⟩ := hv.form
  clear hx hv
  cases hp : pointB xs vs with
  | false =>
    rw [conOf_no hp] at HC
    have HN := hid (other_no1 (ws := headL vs s t) hp)
    clear hp
    go_enter Try.func23, Try.ntmps23
    go_wp2_with fail
    refine (HC.out).mono ?_
    rintro e w2 ⟨rfl, hb2⟩
    go_wp2_with fail
    go_ret2
    exact other_empty2 HN.out (hb2.alloc hb2.size _) (by simp)
  | true =>
    rw [conOf_yes hp] at HC
    have HP := hid hp
    obtain ⟨c2, c3, hC, _⟩ := conA_form vs (.slice a xs.length cap) (.slice a' vs.length cap')
    have HO : Hid (∀ (wx : World) (u : Value), Below w.heap.size w wx → Rd wx u (headL vs s t) → Calls Try.prog 49 #[.agg #[.slice a xs.length cap, .slice a' vs.length cap', .int .i64 c2, .int .i64 c3, .int .i64 2], u] wx fun e w' => ∃ u, e = .returned (.tuple #[u, .bool (otherOk xs vs (headL vs s t))]) ∧ Owns w' w.heap.size u (otherL xs vs (headL vs s t)) ∧ Below w.heap.size w w' ∧ Below wx.heap.size wx w') := hid (fun wx u h hr => by
      rw [← hC]
      refine (other_any _ _ _ xs vs (headL vs s t) wx (HX.out.keep h) (HV.out.keep h) hr hp).mono ?_
      intro e w' h2
      have h3 : Below wx.heap.size wx w' := by obtain ⟨_, _, _, h⟩ := h2; exact h
      obtain ⟨u3, h4, h5, h6⟩ := other_up h2 h
      exact ⟨u3, h4, h5, h6, h3⟩)
    have HD : Hid (∀ wx : World, Below w.heap.size w wx → Calls Try.prog 52 #[.agg #[.slice a xs.length cap, .slice a' vs.length cap', .int .i64 c2, .int .i64 c3, .int .i64 2], .agg #[.int .i64 s, .int .i64 t]] wx fun e w' => ∃ u, e = .returned u ∧ Rd w' u (headL vs s t) ∧ Below w.heap.size w w' ∧ Below wx.heap.size wx w') := hid (fun wx h => by
      rw [← hC]
      refine (direction_any _ _ vs s t wx).mono ?_
      rintro e w' ⟨u, rfl, ho, hb⟩
      exact ⟨u, rfl, ho.rd, h.trans (hb.mono h.size), hb⟩)
    rw [hC] at HC
    clear hp hC
    go_enter Try.func23, Try.ntmps23
    go_wp2_with fail
    refine (HC.out).mono ?_
    rintro e w2 ⟨rfl, hb2⟩
    have hB := hb2.alloc hb2.size (.cells #[.slice a xs.length cap, .slice a' vs.length cap', .int .i64 c2, .int .i64 c3, .int .i64 2] 49)
    have hbd := below_dw hB
    have e0 := heap_alloc_new w2 (.cells #[.slice a xs.length cap, .slice a' vs.length cap', .int .i64 c2, .int .i64 c3, .int .i64 2] 49)
    have d0 : (w2.alloc (.cells #[.slice a xs.length cap, .slice a' vs.length cap', .int .i64 c2, .int .i64 c3, .int .i64 2] 49)).drew.cell? ⟨w2.heap.size, 0, none⟩ = some (.slice a xs.length cap) := cell_h (W := w2.alloc _) e0
    have d1 : (w2.alloc (.cells #[.slice a xs.length cap, .slice a' vs.length cap', .int .i64 c2, .int .i64 c3, .int .i64 2] 49)).drew.cell? ⟨w2.heap.size, 1, none⟩ = some (.slice a' vs.length cap') := cell_h (W := w2.alloc _) e0
    have d2 : (w2.alloc (.cells #[.slice a xs.length cap, .slice a' vs.length cap', .int .i64 c2, .int .i64 c3, .int .i64 2] 49)).drew.cell? ⟨w2.heap.size, 2, none⟩ = some (.int .i64 c2) := cell_h (W := w2.alloc _) e0
    have d3 : (w2.alloc (.cells #[.slice a xs.length cap, .slice a' vs.length cap', .int .i64 c2, .int .i64 c3, .int .i64 2] 49)).drew.cell? ⟨w2.heap.size, 3, none⟩ = some (.int .i64 c3) := cell_h (W := w2.alloc _) e0
    have d4 : (w2.alloc (.cells #[.slice a xs.length cap, .slice a' vs.length cap', .int .i64 c2, .int .i64 c3, .int .i64 2] 49)).drew.cell? ⟨w2.heap.size, 4, none⟩ = some (.int .i64 2) := cell_h (W := w2.alloc _) e0
    clear e0 hB hb2
    go_wp2_with fail
    go_region_held3 (fun wx => Below w.heap.size w wx ∧ wx.cell? ⟨w2.heap.size, 0, none⟩ = some (.slice a xs.length cap) ∧ wx.cell? ⟨w2.heap.size, 1, none⟩ = some (.slice a' vs.length cap') ∧ wx.cell? ⟨w2.heap.size, 2, none⟩ = some (.int .i64 c2) ∧ wx.cell? ⟨w2.heap.size, 3, none⟩ = some (.int .i64 c3) ∧ wx.cell? ⟨w2.heap.size, 4, none⟩ = some (.int .i64 2)) (exact ⟨by assumption, by assumption, by assumption, by assumption, by assumption, by assumption⟩)
      (first
        | (go_at_call 52; refine (HD.out _ (by assumption)).mono ?_; rintro e wP ⟨u, rfl, hru, hbp, hbk⟩; have x0 := cell_later hbk d0; have x1 := cell_later hbk d1; have x2 := cell_later hbk d2; have x3 := cell_later hbk d3; have x4 := cell_later hbk d4)
        | (go_at_call 49; refine (HO.out _ _ (by assumption) (by assumption)).mono ?_; rintro e wQ ⟨u3, rfl, ho3, hb3, hbq⟩; have y0 := cell_later hbq x0; have y1 := cell_later hbq x1; have y2 := cell_later hbq x2; have y3 := cell_later hbq x3; have y4 := cell_later hbq x4))
    go_wp2
    go_ret2
    exact ⟨u3, rfl, ho3, hb3⟩

set_option maxRecDepth 100000 in
set_option maxHeartbeats 4000000 in
theorem conicBack_any (vf vv vz : Value) (xs vs zs : List Int) (w : World) (hx : Rd w vf xs) (hv : Rd w vv vs) (hz : Rd w vz zs) : Calls Try.prog 25 #[vf, vv, vz] w fun e w' => e = .returned (backV xs vs zs) ∧ Below w.heap.size w w' := by
  have HC := hid (conicOf_any vf vv xs vs w hx hv)
  have HX := hid hx
  have HV := hid hv
  have HZ := hid hz
  obtain ⟨a, cap, rfl, _⟩ := hx.form
  obtain ⟨a', cap', rfl, _⟩ := hv.form
  obtain ⟨a3, cap3, rfl, _⟩ := hz.form
  clear hx hv hz
  cases hp : pointB xs vs with
  | false =>
    rw [conOf_no hp] at HC
    have HN := hid (backV_no (xs := xs) (vs := vs) (zs := zs) (by unfold backOk; rw [hp]; rfl))
    clear hp
    go_enter Try.func25, Try.ntmps25
    go_wp2_with fail
    refine (HC.out).mono ?_
    rintro e w2 ⟨rfl, hb2⟩
    go_wp2_with fail
    go_ret3
    exact ⟨retV HN.out.symm, hb2.alloc hb2.size _⟩
  | true =>
    rw [conOf_yes hp] at HC
    have HP := hid hp
    obtain ⟨c2, c3, hC, _⟩ := conA_form vs (.slice a xs.length cap) (.slice a' vs.length cap')
    cases hzb : zeroB xs zs with
    | false =>
      have HN := hid (backV_no (xs := xs) (vs := vs) (zs := zs) (by unfold backOk; rw [hzb, Bool.and_false]))
      have HZB := hid hzb
      rw [hC] at HC
      clear hp hC hzb
      go_enter Try.func25, Try.ntmps25
      go_wp2_with fail
      refine (HC.out).mono ?_
      rintro e w2 ⟨rfl, hb2⟩
      have HB2 := hid (hb2.alloc hb2.size (.cells #[.slice a xs.length cap, .slice a' vs.length cap', .int .i64 c2, .int .i64 c3, .int .i64 2] 49))
      clear hb2
      go_wp2_with (go_at_call 54; refine (zeroIs_any _ _ xs zs _ (HX.out.keep HB2.out) (HZ.out.keep HB2.out)).mono ?_; rw [HZB.out]; rintro e w3 ⟨rfl, hb3⟩)
      go_ret3
      exact ⟨retV HN.out.symm, HB2.out.trans (hb3.mono HB2.out.size)⟩
    | true =>
      obtain ⟨x, y, hxy⟩ : ∃ x y, backL xs vs zs = [x, y] := by unfold backL; split <;> exact plain_two _ _
      have HY : Hid (backV xs vs zs = .tuple #[.int .i64 x, .int .i64 y, .bool true]) := hid (by rw [backV_yes (by unfold backOk; rw [hp, hzb]; rfl), hxy]; rfl)
      have HBK : Hid (∀ wx : World, Below w.heap.size w wx → Calls Try.prog 55 #[.agg #[.slice a xs.length cap, .slice a' vs.length cap', .int .i64 c2, .int .i64 c3, .int .i64 2], .slice a3 zs.length cap3] wx fun e w' => e = .returned (.agg #[.int .i64 x, .int .i64 y]) ∧ Below wx.heap.size wx w') := hid (fun wx h => by
        rw [← hC]
        exact back_any _ _ _ xs vs zs wx (HX.out.keep h) (HV.out.keep h) (HZ.out.keep h) hp hzb x y hxy)
      have HZB := hid hzb
      rw [hC] at HC
      clear hp hC hzb hxy
      go_enter Try.func25, Try.ntmps25
      go_wp2_with fail
      refine (HC.out).mono ?_
      rintro e w2 ⟨rfl, hb2⟩
      have HB2 := hid (hb2.alloc hb2.size (.cells #[.slice a xs.length cap, .slice a' vs.length cap', .int .i64 c2, .int .i64 c3, .int .i64 2] 49))
      clear hb2
      go_wp2_with (go_at_call 54; refine (zeroIs_any _ _ xs zs _ (HX.out.keep HB2.out) (HZ.out.keep HB2.out)).mono ?_; rw [HZB.out]; rintro e w3 ⟨rfl, hb3⟩; obtain ⟨k0, k1, k2, k3, k4⟩ := cells5 hb3; have HB3 := hid (HB2.out.trans (hb3.mono HB2.out.size)); clear hb3)
      refine (HBK.out _ HB3.out).mono ?_
      rintro e w4 ⟨rfl, hb4⟩
      have HB4 := hid (HB3.out.trans (hb4.mono HB3.out.size))
      clear hb4
      go_wp2_with fail
      go_quiet (fail)
      go_wp2_with fail
      go_ret3
      exact ⟨retV HY.out.symm, below_drewN (HB4.out.alloc HB4.out.size _) _⟩

end Go.Proofs.Ytenibnblibnocaa
