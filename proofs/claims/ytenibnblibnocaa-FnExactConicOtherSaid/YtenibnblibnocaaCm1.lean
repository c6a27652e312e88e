/-
  Contracts of the model's chapter 6: points, lines, headings.
-/
import Derived.Test.YtenibnblibnocaaCon
import Derived.Test.YtenibnblibnocaaWrapW
import Derived.Test.YtenibnblibnocaaZm1
import Derived.Test.YtenibnblibnocaaOwn2
import Derived.Deep.QuietTactic
import Derived.BigQuiet
set_option linter.unusedVariables false
namespace Go.Proofs.Ytenibnblibnocaa
open Go.RowKit

theorem plainB_no {vs : List Int} (h : plainL vs ≠ vs) : plainB vs = false := decide_eq_false h
theorem plainB_yes {vs : List Int} (h : plainL vs = vs) : plainB vs = true := decide_eq_true h
set_option maxRecDepth 100000 in
set_option maxHeartbeats 1000000 in
theorem l6kPlain_any (v : Value) (vs : List Int) (w : World) (hv : Rd w v vs) (hl : vs.length ≤ 4) (h6 : Vec11 vs) (hs : ∃ x ∈ vs, x ≠ 0) : Calls Try.prog 41 #[v] w fun e w' => e = .returned (.bool (plainB vs)) ∧ Below w.heap.size w w' := by
  have HV := hid hv
  obtain ⟨a', cap', rfl, _⟩ := hv.form
  have H6 := hid h6
  have HSM := hid hs
  have HP3 := hid (fun h => plainB_no (vs := vs) h)
  have HP4 := hid (fun h => plainB_yes (vs := vs) h)
  obtain ⟨G, hG⟩ : ∃ G, G = plainB vs := ⟨_, rfl⟩
  rw [← hG] at HP3 HP4 ⊢
  clear hv h6 hs hG
  go_enter Try.func41, Try.ntmps41
  go_wp2_with fail
  refine (l5PlainW_any _ vs _ HV.out hl H6.out HSM.out).mono ?_
  rintro e w2 ⟨u, rfl, ho, hb2⟩
  have HO := hid ho
  have HB2 := hid hb2
  have HV2 := hid (HV.out.keep HB2.out)
  obtain ⟨au, cu, rfl, hfu⟩ := ho.rd.form
  obtain ⟨a2, c2, e2, hfv⟩ := HV2.out.form
  cases e2
  have hpl := plainL_len vs
  rw [hpl] at hfu
  have HFU := hid hfu
  have HFV := hid hfv
  have HPL := hid hpl
  rw [hpl]
  clear ho hb2 hfu hfv hpl
  go_wp2_with fail
  go_loopw [4] (fun si wr => ∃ K : Nat, si = .int .i64 K ∧ K ≤ vs.length ∧ Hid (∀ i, i < K → (plainL vs).getD i 0 = vs.getD i 0) ∧ Hid (∃ q, wr = w2.drewN q)) (fun si _ => vs.length - (intOf si).toNat)
  case atStart => exact ⟨0, rfl, by omega, hid (fun i hi => by omega), hid ⟨0, rfl⟩⟩
  case round =>
    obtain ⟨K, rfl, hK, HE, HW⟩ := hrel
    rename World => wq
    have HBQ : Hid (∀ j, Below w.heap.size w (wq.drewN j)) := hid (fun j => by obtain ⟨q, hq⟩ := HW.out; rw [hq]; exact below_drewN (below_drewN HB2.out q) j)
    by_cases hlt : K < vs.length
    · obtain ⟨b, o, rfl, hml, hc⟩ := HFU.out (by have := HPL.out; omega)
      obtain ⟨b', o', rfl, hml', hc'⟩ := HFV.out (by omega)
      have c1 : wq.cell? ⟨b, o + K, none⟩ = some (.int .i64 ((plainL vs).getD K 0)) := by obtain ⟨q, rfl⟩ := HW.out; exact hc K (by have := HPL.out; omega)
      have c2' : wq.cell? ⟨b', o' + K, none⟩ = some (.int .i64 (vs.getD K 0)) := by obtain ⟨q, rfl⟩ := HW.out; exact hc' K hlt
      obtain ⟨x, hx⟩ : ∃ x, x = (plainL vs).getD K 0 := ⟨_, rfl⟩
      obtain ⟨y, hy⟩ : ∃ y, y = vs.getD K 0 := ⟨_, rfl⟩
      rw [← hx] at c1
      rw [← hy] at c2'
      have HXE := hid hx
      have HYE := hid hy
      have HLT := hid hlt
      have hKi : (K : Int) < (vs.length : Int) := by omega
      clear hx hy hc hc' hml hml' hlt
      by_cases hxy : x = y
      · have T : (x != y) = false := by rw [bne_eq_false_iff_eq]; exact hxy
        have HXY := hid hxy
        clear hxy
        go_wp2_with fail
        go_quiet (fail)
        go_wp2_with fail
        go_roundw
        case measure => simp only [intOf]; have := HLT.out; omega
        case rel => exact ⟨K + 1, by go_num, by have := HLT.out; omega, hid (fun i hi => by
          by_cases e : i = K
          · rw [e, ← HXE.out, ← HYE.out]; exact HXY.out
          · exact HE.out i (by omega)), hid (by obtain ⟨q, hq⟩ := HW.out; exact ⟨q + nq, by rw [hq, World.drewN_drewN]⟩)⟩
      · have T : (x != y) = true := by rw [bne_iff_ne]; exact hxy
        have HG : Hid (G = false) := hid (HP3.out fun e => hxy (by rw [HXE.out, HYE.out, e]))
        clear hxy
        go_wp2_with fail
        go_quiet (fail)
        go_wp2_with fail
        go_ret
        exact ⟨retB HG.out.symm, HBQ.out nq⟩
    · obtain rfl : K = vs.length := by omega
      have HG : Hid (G = true) := hid (HP4.out (by
        refine List.ext_getElem HPL.out fun i h1 h2 => ?_
        have := HE.out i h2
        rwa [getD_at _ _ h1, getD_at _ _ h2] at this))
      clear hlt
      go_wp2_with fail
      go_ret
      exact ⟨retB HG.out.symm, HBQ.out 0⟩

theorem zero_vec11 {xs vs : List Int} (h : zeroB xs vs = true) : Vec11 vs := fun v hv => by have := (zeroB_iff.1 h).1 v hv; omega
theorem zhgt_z {xs vs : List Int} (h : zeroB xs vs = true) : zhgtV xs vs = (hgtL vs : Nat) := by unfold zhgtV; rw [h]; rfl
set_option maxRecDepth 100000 in
set_option maxHeartbeats 2000000 in
theorem conicPointS_any (vf vv : Value) (xs vs : List Int) (w : World) (hx : Rd w vf xs) (hv : Rd w vv vs) : Calls Try.prog 14 #[vf, vv] w fun e w' => e = .returned (.bool (pointB xs vs)) ∧ Below w.heap.size w w' := by
  have HX := hid hx
  have HV := hid hv
  obtain ⟨a, cap, rfl, _⟩ := hx.form
  obtain ⟨a', cap', rfl, _⟩ := hv.form
  clear hx hv
  by_cases h3 : xs.length = 3
  · have T : ((xs.length : Int) == 3) = true := by rw [beq_iff_eq]; omega
    have hp : pointB xs vs = (zeroB xs vs && (plainB vs && decide (hgtL vs ≤ 1000))) := by unfold pointB; rw [decide_eq_true h3, Bool.true_and]
    cases hz : zeroB xs vs with
    | false =>
      have HZ := hid hz
      have HR : Hid (pointB xs vs = false) := hid (by rw [hp, hz]; rfl)
      clear hz hp h3
      go_enter Try.func14, Try.ntmps14
      go_wp2_with (go_at_call 40; refine (zeroIsS_any _ _ xs vs _ HX.out HV.out).mono ?_; rw [HZ.out]; rintro e w' ⟨rfl, k, rfl⟩)
      go_ret
      exact ⟨retB HR.out.symm, below_drewN (Below.refl _ _) k⟩
    | true =>
      have HZ := hid hz
      have H11 := hid (zero_vec11 hz)
      have hv4 : vs.length ≤ 4 := by have := (zeroB_iff.1 hz).2.2.1; omega
      have HS := hid (zeroB_iff.1 hz).2.2.2.1
      have HH := hid (zhgt_z hz)
      rw [hz, Bool.true_and] at hp
      cases hpl : plainB vs with
      | false =>
        have HP := hid hpl
        have HR : Hid (pointB xs vs = false) := hid (by rw [hp, hpl]; rfl)
        clear hz hp h3 hpl
        go_enter Try.func14, Try.ntmps14
        go_wp2_with (first | (go_at_call 40; refine (zeroIsS_any _ _ xs vs _ HX.out HV.out).mono ?_; rw [HZ.out]; rintro e w' ⟨rfl, k, rfl⟩) | (go_at_call 41; refine (l6kPlain_any _ vs _ (HV.out.drewN k) hv4 H11.out HS.out).mono ?_; rw [HP.out]; rintro e w2 ⟨rfl, hb2⟩))
        go_ret
        exact ⟨retB HR.out.symm, (below_drewN (Below.refl _ _) k).trans hb2⟩
      | true =>
        have HP := hid hpl
        have HR : Hid (pointB xs vs = decide (hgtL vs ≤ 1000)) := hid (by rw [hp, hpl]; rfl)
        obtain ⟨g, hg⟩ : ∃ g, g = hgtL vs := ⟨_, rfl⟩
        rw [← hg] at HH HR
        clear hz hp h3 hpl hg
        go_enter Try.func14, Try.ntmps14
        go_wp2_with (first | (go_at_call 40; refine (zeroIsS_any _ _ xs vs _ HX.out HV.out).mono ?_; rw [HZ.out]; rintro e w' ⟨rfl, k, rfl⟩) | (go_at_call 41; refine (l6kPlain_any _ vs _ (HV.out.drewN k) hv4 H11.out HS.out).mono ?_; rw [HP.out]; rintro e w2 ⟨rfl, hb2⟩; have hb3 := hid ((below_drewN (Below.refl _ _) k).trans hb2)) | (go_at_call 42; refine (zeroHeightS_any _ _ xs vs _ (HX.out.keep hb3.out) (HV.out.keep hb3.out)).mono ?_; rw [HH.out]; rintro e w4 ⟨rfl, k4, rfl⟩))
        go_ret
        exact ⟨retB (by rw [HR.out, Bool.eq_iff_iff, decide_eq_true_eq, decide_eq_true_eq]; omega), below_drewN hb3.out k4⟩
  · have T : ((xs.length : Int) == 3) = false := by rw [beq_eq_false_iff_ne]; omega
    have HR : Hid (pointB xs vs = false) := hid (by unfold pointB; rw [decide_eq_false h3]; rfl)
    clear h3
    go_enter Try.func14, Try.ntmps14
    go_wp2_with fail
    go_ret
    exact ⟨retB HR.out.symm, Below.refl _ _⟩

theorem prod_bd2 {x y : Int} {m n : Nat} (hx : x.natAbs ≤ m) (hy : y.natAbs ≤ n) : (x * y).natAbs ≤ m * n := by rw [Int.natAbs_mul]; exact Nat.mul_le_mul hx hy
theorem mult_gen {vs ws : List Int} : multB vs ws = true ↔ ∀ i, i < 3 → ∀ k, k < i → vs.getD i 0 * ws.getD k 0 = vs.getD k 0 * ws.getD i 0 := by
  unfold multB
  rw [Bool.and_eq_true, Bool.and_eq_true, decide_eq_true_eq, decide_eq_true_eq, decide_eq_true_eq]
  constructor
  · rintro ⟨h1, h2, h3⟩ i hi k hk
    have : (i = 1 ∧ k = 0) ∨ (i = 2 ∧ k = 0) ∨ (i = 2 ∧ k = 1) := by omega
    rcases this with ⟨rfl, rfl⟩ | ⟨rfl, rfl⟩ | ⟨rfl, rfl⟩
    · exact h1.symm
    · exact h2.symm
    · exact h3.symm
  · intro h
    exact ⟨(h 1 (by omega) 0 (by omega)).symm, (h 2 (by omega) 0 (by omega)).symm, (h 2 (by omega) 1 (by omega)).symm⟩
set_option maxRecDepth 100000 in
set_option maxHeartbeats 4000000 in
theorem l6kMultiple_any (vv vw : Value) (vs ws : List Int) (w : World) (hv : Rd w vv vs) (hw : Rd w vw ws) (hl : vs.length = 3) (hl2 : ws.length = 3) (h1 : Vec6 vs) (h2 : Vec6 ws) :
    Calls Try.prog 45 #[vv, vw] w fun e w' => e = .returned (.bool (multB vs ws)) ∧ ∃ k, w' = w.drewN k := by
  obtain ⟨a, cap, rfl, hform⟩ := hv.form
  obtain ⟨a', cap', rfl, hform'⟩ := hw.form
  obtain ⟨b, o, rfl, hml, hc⟩ := hform (by omega)
  obtain ⟨b', o', rfl, hml', hc'⟩ := hform' (by omega)
  have HCV := hid hc
  have HCW := hid hc'
  have H1 : Hid (∀ i, i < 3 → (vs.getD i 0).natAbs ≤ 1000000) := hid (fun i hi => by have := h1 (vs.getD i 0) (by rw [getD_at _ _ (by omega)]; exact List.getElem_mem _); omega)
  have H2 : Hid (∀ i, i < 3 → (ws.getD i 0).natAbs ≤ 1000000) := hid (fun i hi => by have := h2 (ws.getD i 0) (by rw [getD_at _ _ (by omega)]; exact List.getElem_mem _); omega)
  have HM := hid (mult_gen (vs := vs) (ws := ws))
  have hli : (vs.length : Int) = 3 := by omega
  have hli2 : (ws.length : Int) = 3 := by omega
  have HL := hid hl
  have HL2 := hid hl2
  rw [hl, hl2]
  clear hv hw hform hform' hc hc' h1 h2 hml hml' hl hl2 hli hli2
  go_enter Try.func45, Try.ntmps45
  go_wp2_with fail
  go_loopw [5, 6] (fun si sk wr => ∃ K q : Nat, si = .int .i64 K ∧ K ≤ 3 ∧ Hid (∀ i, i < K → ∀ k, k < i → vs.getD i 0 * ws.getD k 0 = vs.getD k 0 * ws.getD i 0) ∧ wr = w.drewN q) (fun si _ _ => 3 - (intOf si).toNat)
  case atStart => exact ⟨0, 0, rfl, by omega, hid (fun i hi => by omega), rfl⟩
  case round =>
    obtain ⟨K, q, rfl, hK, HE, rfl⟩ := hrel
    by_cases hlt : K < 3
    · have hKi : (K : Int) < 3 := by omega
      have HLT := hid hlt
      clear hlt
      go_wp2_with fail
      go_loopw [6] (fun sk wr => ∃ J q : Nat, sk = .int .i64 J ∧ J ≤ K ∧ Hid (∀ k, k < J → vs.getD K 0 * ws.getD k 0 = vs.getD k 0 * ws.getD K 0) ∧ wr = w.drewN q) (fun sk _ => K - (intOf sk).toNat)
      case atStart => exact ⟨0, q, rfl, by omega, hid (fun k hk => by omega), rfl⟩
      case round =>
        obtain ⟨J, q, rfl, hJ, HJ, rfl⟩ := hrel
        have hlK := HLT.out
        by_cases hlt : J < K
        · have c1 := HCV.out K (by have := HL.out; omega)
          have c2 := HCV.out J (by have := HL.out; omega)
          have d1 := HCW.out J (by have := HL2.out; omega)
          have d2 := HCW.out K (by have := HL2.out; omega)
          have p1 := prod_bd2 (H1.out K (by omega)) (H2.out J (by omega))
          have p2 := prod_bd2 (H1.out J (by omega)) (H2.out K (by omega))
          obtain ⟨x, hx⟩ : ∃ x, x = vs.getD K 0 := ⟨_, rfl⟩
          obtain ⟨y, hy⟩ : ∃ y, y = vs.getD J 0 := ⟨_, rfl⟩
          obtain ⟨s, hs⟩ : ∃ s, s = ws.getD J 0 := ⟨_, rfl⟩
          obtain ⟨t, ht⟩ : ∃ t, t = ws.getD K 0 := ⟨_, rfl⟩
          have HQ : Hid (vs.getD K 0 * ws.getD J 0 = x * s ∧ vs.getD J 0 * ws.getD K 0 = y * t) := hid (by rw [hx, hy, hs, ht]; exact ⟨rfl, rfl⟩)
          rw [← hx] at c1 p1
          rw [← hy] at c2 p2
          rw [← hs] at d1 p1
          rw [← ht] at d2 p2
          have m1 := wrapW (x := x * s) (by omega) (by omega)
          have m2 := wrapW (x := y * t) (by omega) (by omega)
          have hJi : (J : Int) < (K : Int) := by omega
          have hJ3 : (J : Int) < 3 := by omega
          have HLJ := hid hlt
          clear hx hy hs ht p1 p2 hlt hlK
          by_cases e : x * s = y * t
          · have T : (x * s != y * t) = false := by rw [bne_eq_false_iff_eq]; exact e
            have HE2 := hid e
            clear e
            go_wp2_with fail
            go_quiet (fail)
            go_wp2_with fail
            go_roundw
            case measure => simp only [intOf]; have := HLJ.out; omega
            case rel => exact ⟨J + 1, _, by go_num, by have := HLJ.out; omega, hid (fun k hk => by
              by_cases e : k = J
              · rw [e, HQ.out.1, HQ.out.2]; exact HE2.out
              · exact HJ.out k (by omega)), by first | rfl | exact World.drewN_drewN ..⟩
          · have T : (x * s != y * t) = true := by rw [bne_iff_ne]; exact e
            have HR : Hid (multB vs ws = false) := hid (by
              cases hm : multB vs ws with
              | false => rfl
              | true =>
                have := HM.out.1 hm K HLT.out J HLJ.out
                rw [HQ.out.1, HQ.out.2] at this
                exact absurd this e)
            clear e
            go_wp2_with fail
            go_quiet (fail)
            go_wp2_with fail
            go_ret
            exact ⟨retB HR.out.symm, by first | exact ⟨_, rfl⟩ | (rw [World.drewN_drewN]; exact ⟨_, rfl⟩)⟩
        · obtain rfl : J = K := by omega
          clear hlt
          go_wp2_with fail
          go_roundw
          case measure => simp only [intOf]; have := HLT.out; omega
          case rel => exact ⟨J + 1, q, by go_num, by omega, hid (fun i hi k hk => by
            by_cases e : i = J
            · rw [e]; exact HJ.out k (by omega)
            · exact HE.out i (by omega) k hk), rfl⟩
    · obtain rfl : K = 3 := by omega
      have HR : Hid (multB vs ws = true) := hid (HM.out.2 HE.out)
      clear hlt
      go_wp2_with fail
      go_ret
      exact ⟨retB HR.out.symm, q, rfl⟩

end Go.Proofs.Ytenibnblibnocaa
