/-
  Some texts in one file: Cm1 AppOne Cm2 RdCut Cm3 Cm4.
-/
import Derived.Test.YtfjbdbfeolfcfaaQCon
import Derived.Test.YtfjbdbfeolfcfaaQBun14
import Derived.Test.YtfjbdbfeolfcfaaQZm1
import Derived.Test.YtfjbdbfeolfcfaaQOwn2
import Derived.Deep.QuietTactic
import Derived.BigQuiet
import Derived.Maps.AppendAt
import Derived.Deep.RegionLaw
import Derived.Test.YtfjbdbfeolfcfaaQBun4
import Derived.StillTailTactics
/-! Cm1 -/
set_option linter.unusedVariables false
namespace Go.Proofs.Ytfjbdbfeolfcfaa
open Go.RowKit

theorem plainB_no {vs : List Int} (h : plainL vs ≠ vs) : plainB vs = false := decide_eq_false h
theorem plainB_yes {vs : List Int} (h : plainL vs = vs) : plainB vs = true := decide_eq_true h
set_option maxRecDepth 100000 in
set_option maxHeartbeats 1000000 in
theorem l6kPlain_any (v : Value) (vs : List Int) (w : World) (hv : Rd w v vs) (hl : vs.length ≤ 4) (h6 : Vec11 vs) (hs : ∃ x ∈ vs, x ≠ 0) : Calls Try.prog 35 #[v] w fun e w' => e = .returned (.bool (plainB vs)) ∧ Below w.heap.size w w' := by
  have HV := hid hv
  obtain ⟨a', cap', rfl, _⟩ := hv.form
  have H6 := hid h6
  have HSM := hid hs
  have HP3 := hid (fun h => plainB_no (vs := vs) h)
  have HP4 := hid (fun h => plainB_yes (vs := vs) h)
  obtain ⟨G, hG⟩ : ∃ G, G = plainB vs := ⟨_, rfl⟩
  rw [← hG] at HP3 HP4 ⊢
  clear hv h6 hs hG
  go_enter Try.func35, Try.ntmps35
  go_wp2_with fail
  refine (l5PlainW_any _ vs _ HV.out hl H6.out HSM.out).mono ?_
  rintro e w2 ⟨u, rfl, ho, hb2⟩
  have HO := hid ho
  have HB2 := hid hb2
  have HV2 := hid (HV.out.keep HB2.out)
  obtain ⟨au, cu, rfl, hfu⟩ := ho.rd.form
  obtain ⟨a2, c2, e2, hfv⟩ := HV2.out.form
  cases e2
  have hpl := plainL_len vs
  rw [hpl] at hfu
  have HFU := hid hfu
  have HFV := hid hfv
  have HPL := hid hpl
  rw [hpl]
  clear ho hb2 hfu hfv hpl
  go_wp2_with fail
  go_loopw [4] (fun si wr => ∃ K : Nat, si = .int .i64 K ∧ K ≤ vs.length ∧ Hid (∀ i, i < K → (plainL vs).getD i 0 = vs.getD i 0) ∧ Hid (∃ q, wr = w2.drewN q)) (fun si _ => vs.length - (intOf si).toNat)
  case atStart => exact ⟨0, rfl, by omega, hid (fun i hi => by omega), hid ⟨0, rfl⟩⟩
  case round =>
    obtain ⟨K, rfl, hK, HE, HW⟩ := hrel
    rename World => wq
    have HBQ : Hid (∀ j, Below w.heap.size w (wq.drewN j)) := hid (fun j => by obtain ⟨q, hq⟩ := HW.out; rw [hq]; exact below_drewN (below_drewN HB2.out q) j)
    by_cases hlt : K < vs.length
    · obtain ⟨b, o, rfl, hml, hc⟩ := HFU.out (by have := HPL.out; omega)
      obtain ⟨b', o', rfl, hml', hc'⟩ := HFV.out (by omega)
      have c1 : wq.cell? ⟨b, o + K, none⟩ = some (.int .i64 ((plainL vs).getD K 0)) := by obtain ⟨q, rfl⟩ := HW.out; exact hc K (by have := HPL.out; omega)
      have c2' : wq.cell? ⟨b', o' + K, none⟩ = some (.int .i64 (vs.getD K 0)) := by obtain ⟨q, rfl⟩ := HW.out; exact hc' K hlt
      obtain ⟨x, hx⟩ : ∃ x, x = (plainL vs).getD K 0 := ⟨_, rfl⟩
      obtain ⟨y, hy⟩ : ∃ y, y = vs.getD K 0 := ⟨_, rfl⟩
      rw [← hx] at c1
      rw [← hy] at c2'
      have HXE := hid hx
      have HYE := hid hy
      have HLT := hid hlt
      have hKi : (K : Int) < (vs.length : Int) := by omega
      clear hx hy hc hc' hml hml' hlt
      by_cases hxy : x = y
      · have T : (x != y) = false := by rw [bne_eq_false_iff_eq]; exact hxy
        have HXY := hid hxy
        clear hxy
        go_wp2_with fail
        go_quiet (fail)
        go_wp2_with fail
        go_roundw
        case measure => simp only [intOf]; have := HLT.out; omega
        case rel => exact ⟨K + 1, by go_num, by have := HLT.out; omega, hid (fun i hi => by
          by_cases e : i = K
          · rw [e, ← HXE.out, ← HYE.out]; exact HXY.out
          · exact HE.out i (by omega)), hid (by obtain ⟨q, hq⟩ := HW.out; exact ⟨q + nq, by rw [hq, World.drewN_drewN]⟩)⟩
      · have T : (x != y) = true := by rw [bne_iff_ne]; exact hxy
        have HG : Hid (G = false) := hid (HP3.out fun e => hxy (by rw [HXE.out, HYE.out, e]))
        clear hxy
        go_wp2_with fail
        go_quiet (fail)
        go_wp2_with fail
        go_ret
        exact ⟨retB HG.out.symm, HBQ.out nq⟩
    · obtain rfl : K = vs.length := by omega
      have HG : Hid (G = true) := hid (HP4.out (by
        refine List.ext_getElem HPL.out fun i h1 h2 => ?_
        have := HE.out i h2
        rwa [getD_at _ _ h1, getD_at _ _ h2] at this))
      clear hlt
      go_wp2_with fail
      go_ret
      exact ⟨retB HG.out.symm, HBQ.out 0⟩

theorem zero_vec11 {xs vs : List Int} (h : zeroB xs vs = true) : Vec11 vs := fun v hv => by have := (zeroB_iff.1 h).1 v hv; omega
theorem zhgt_z {xs vs : List Int} (h : zeroB xs vs = true) : zhgtV xs vs = (hgtL vs : Nat) := by unfold zhgtV; rw [h]; rfl
set_option maxRecDepth 100000 in
set_option maxHeartbeats 2000000 in
theorem conicPointS_any (vf vv : Value) (xs vs : List Int) (w : World) (hx : Rd w vf xs) (hv : Rd w vv vs) : Calls Try.prog 11 #[vf, vv] w fun e w' => e = .returned (.bool (pointB xs vs)) ∧ Below w.heap.size w w' := by
  have HX := hid hx
  have HV := hid hv
  obtain ⟨a, cap, rfl, _⟩ := hx.form
  obtain ⟨a', cap', rfl, _⟩ := hv.form
  clear hx hv
  by_cases h3 : xs.length = 3
  · have T : ((xs.length : Int) == 3) = true := by rw [beq_iff_eq]; omega
    have hp : pointB xs vs = (zeroB xs vs && (plainB vs && decide (hgtL vs ≤ 1000))) := by unfold pointB; rw [decide_eq_true h3, Bool.true_and]
    cases hz : zeroB xs vs with
    | false =>
      have HZ := hid hz
      have HR : Hid (pointB xs vs = false) := hid (by rw [hp, hz]; rfl)
      clear hz hp h3
      go_enter Try.func11, Try.ntmps11
      go_wp2_with (go_at_call 34; refine (zeroIsS_any _ _ xs vs _ HX.out HV.out).mono ?_; rw [HZ.out]; rintro e w' ⟨rfl, k, rfl⟩)
      go_ret
      exact ⟨retB HR.out.symm, below_drewN (Below.refl _ _) k⟩
    | true =>
      have HZ := hid hz
      have H11 := hid (zero_vec11 hz)
      have hv4 : vs.length ≤ 4 := by have := (zeroB_iff.1 hz).2.2.1; omega
      have HS := hid (zeroB_iff.1 hz).2.2.2.1
      have HH := hid (zhgt_z hz)
      rw [hz, Bool.true_and] at hp
      cases hpl : plainB vs with
      | false =>
        have HP := hid hpl
        have HR : Hid (pointB xs vs = false) := hid (by rw [hp, hpl]; rfl)
        clear hz hp h3 hpl
        go_enter Try.func11, Try.ntmps11
        go_wp2_with (first | (go_at_call 34; refine (zeroIsS_any _ _ xs vs _ HX.out HV.out).mono ?_; rw [HZ.out]; rintro e w' ⟨rfl, k, rfl⟩) | (go_at_call 35; refine (l6kPlain_any _ vs _ (HV.out.drewN k) hv4 H11.out HS.out).mono ?_; rw [HP.out]; rintro e w2 ⟨rfl, hb2⟩))
        go_ret
        exact ⟨retB HR.out.symm, (below_drewN (Below.refl _ _) k).trans hb2⟩
      | true =>
        have HP := hid hpl
        have HR : Hid (pointB xs vs = decide (hgtL vs ≤ 1000)) := hid (by rw [hp, hpl]; rfl)
        obtain ⟨g, hg⟩ : ∃ g, g = hgtL vs := ⟨_, rfl⟩
        rw [← hg] at HH HR
        clear hz hp h3 hpl hg
        go_enter Try.func11, Try.ntmps11
        go_wp2_with (first | (go_at_call 34; refine (zeroIsS_any _ _ xs vs _ HX.out HV.out).mono ?_; rw [HZ.out]; rintro e w' ⟨rfl, k, rfl⟩) | (go_at_call 35; refine (l6kPlain_any _ vs _ (HV.out.drewN k) hv4 H11.out HS.out).mono ?_; rw [HP.out]; rintro e w2 ⟨rfl, hb2⟩; have hb3 := hid ((below_drewN (Below.refl _ _) k).trans hb2)) | (go_at_call 36; refine (zeroHeightS_any _ _ xs vs _ (HX.out.keep hb3.out) (HV.out.keep hb3.out)).mono ?_; rw [HH.out]; rintro e w4 ⟨rfl, k4, rfl⟩))
        go_ret
        exact ⟨retB (by rw [HR.out, Bool.eq_iff_iff, decide_eq_true_eq, decide_eq_true_eq]; omega), below_drewN hb3.out k4⟩
  · have T : ((xs.length : Int) == 3) = false := by rw [beq_eq_false_iff_ne]; omega
    have HR : Hid (pointB xs vs = false) := hid (by unfold pointB; rw [decide_eq_false h3]; rfl)
    clear h3
    go_enter Try.func11, Try.ntmps11
    go_wp2_with fail
    go_ret
    exact ⟨retB HR.out.symm, Below.refl _ _⟩

theorem prod_bd2 {x y : Int} {m n : Nat} (hx : x.natAbs ≤ m) (hy : y.natAbs ≤ n) : (x * y).natAbs ≤ m * n := by rw [Int.natAbs_mul]; exact Nat.mul_le_mul hx hy
theorem mult_gen {vs ws : List Int} : multB vs ws = true ↔ ∀ i, i < 3 → ∀ k, k < i → vs.getD i 0 * ws.getD k 0 = vs.getD k 0 * ws.getD i 0 := by
  unfold multB
  rw [Bool.and_eq_true, Bool.and_eq_true, decide_eq_true_eq, decide_eq_true_eq, decide_eq_true_eq]
  constructor
  · rintro ⟨h1, h2, h3⟩ i hi k hk
    have : (i = 1 ∧ k = 0) ∨ (i = 2 ∧ k = 0) ∨ (i = 2 ∧ k = 1) := by omega
    rcases this with ⟨rfl, rfl⟩ | ⟨rfl, rfl⟩ | ⟨rfl, rfl⟩
    · exact h1.symm
    · exact h2.symm
    · exact h3.symm
  · intro h
    exact ⟨(h 1 (by omega) 0 (by omega)).symm, (h 2 (by omega) 0 (by omega)).symm, (h 2 (by omega) 1 (by omega)).symm⟩
set_option maxRecDepth 100000 in
set_option maxHeartbeats 4000000 in
theorem l6kMultiple_any (vv vw : Value) (vs ws : List Int) (w : World) (hv : Rd w vv vs) (hw : Rd w vw ws) (hl : vs.length = 3) (hl2 : ws.length = 3) (h1 : Vec6 vs) (h2 : Vec6 ws) :
    Calls Try.prog 45 #[vv, vw] w fun e w' => e = .returned (.bool (multB vs ws)) ∧ ∃ k, w' = w.drewN k := by
  obtain ⟨a, cap, rfl, hform⟩ := hv.form
  obtain ⟨a', cap', rfl, hform'⟩ := hw.form
  obtain ⟨b, o, rfl, hml, hc⟩ := hform (by omega)
  obtain ⟨b', o', rfl, hml', hc'⟩ := hform' (by omega)
  have HCV := hid hc
  have HCW := hid hc'
  have H1 : Hid (∀ i, i < 3 → (vs.getD i 0).natAbs ≤ 1000000) := hid (fun i hi => by have := h1 (vs.getD i 0) (by rw [getD_at _ _ (by omega)]; exact List.getElem_mem _); omega)
  have H2 : Hid (∀ i, i < 3 → (ws.getD i 0).natAbs ≤ 1000000) := hid (fun i hi => by have := h2 (ws.getD i 0) (by rw [getD_at _ _ (by omega)]; exact List.getElem_mem _); omega)
  have HM := hid (mult_gen (vs := vs) (ws := ws))
  have hli : (vs.length : Int) = 3 := by omega
  have hli2 : (ws.length : Int) = 3 := by omega
  have HL := hid hl
  have HL2 := hid hl2
  rw [hl, hl2]
  clear hv hw hform hform' hc hc' h1 h2 hml hml' hl hl2 hli hli2
  go_enter Try.func45, Try.ntmps45
  go_wp2_with fail
  go_loopw [5, 6] (fun si sk wr => ∃ K q : Nat, si = .int .i64 K ∧ K ≤ 3 ∧ Hid (∀ i, i < K → ∀ k, k < i → vs.getD i 0 * ws.getD k 0 = vs.getD k 0 * ws.getD i 0) ∧ wr = w.drewN q) (fun si _ _ => 3 - (intOf si).toNat)
  case atStart => exact ⟨0, 0, rfl, by omega, hid (fun i hi => by omega), rfl⟩
  case round =>
    obtain ⟨K, q, rfl, hK, HE, rfl⟩ := hrel
    by_cases hlt : K < 3
    · have hKi : (K : Int) < 3 := by omega
      have HLT := hid hlt
      clear hlt
      go_wp2_with fail
      go_loopw [6] (fun sk wr => ∃ J q : Nat, sk = .int .i64 J ∧ J ≤ K ∧ Hid (∀ k, k < J → vs.getD K 0 * ws.getD k 0 = vs.getD k 0 * ws.getD K 0) ∧ wr = w.drewN q) (fun sk _ => K - (intOf sk).toNat)
      case atStart => exact ⟨0, q, rfl, by omega, hid (fun k hk => by omega), rfl⟩
      case round =>
        obtain ⟨J, q, rfl, hJ, HJ, rfl⟩ := hrel
        have hlK := HLT.out
        by_cases hlt : J < K
        · have c1 := HCV.out K (by have := HL.out; omega)
          have c2 := HCV.out J (by have := HL.out; omega)
          have d1 := HCW.out J (by have := HL2.out; omega)
          have d2 := HCW.out K (by have := HL2.out; omega)
          have p1 := prod_bd2 (H1.out K (by omega)) (H2.out J (by omega))
          have p2 := prod_bd2 (H1.out J (by omega)) (H2.out K (by omega))
          obtain ⟨x, hx⟩ : ∃ x, x = vs.getD K 0 := ⟨_, rfl⟩
          obtain ⟨y, hy⟩ : ∃ y, y = vs.getD J 0 := ⟨_, rfl⟩
          obtain ⟨s, hs⟩ : ∃ s, s = ws.getD J 0 := ⟨_, rfl⟩
          obtain ⟨t, ht⟩ : ∃ t, t = ws.getD K 0 := ⟨_, rfl⟩
          have HQ : Hid (vs.getD K 0 * ws.getD J 0 = x * s ∧ vs.getD J 0 * ws.getD K 0 = y * t) := hid (by rw [hx, hy, hs, ht]; exact ⟨rfl, rfl⟩)
          rw [← hx] at c1 p1
          rw [← hy] at c2 p2
          rw [← hs] at d1 p1
          rw [← ht] at d2 p2
          have m1 := wrapW (x := x * s) (by omega) (by omega)
          have m2 := wrapW (x := y * t) (by omega) (by omega)
          have hJi : (J : Int) < (K : Int) := by omega
          have hJ3 : (J : Int) < 3 := by omega
          have HLJ := hid hlt
          clear hx hy hs ht p1 p2 hlt hlK
          by_cases e : x * s = y * t
          · have T : (x * s != y * t) = false := by rw [bne_eq_false_iff_eq]; exact e
            have HE2 := hid e
            clear e
            go_wp2_with fail
            go_quiet (fail)
            go_wp2_with fail
            go_roundw
            case measure => simp only [intOf]; have := HLJ.out; omega
            case rel => exact ⟨J + 1, _, by go_num, by have := HLJ.out; omega, hid (fun k hk => by
              by_cases e : k = J
              · rw [e, HQ.out.1, HQ.out.2]; exact HE2.out
              · exact HJ.out k (by omega)), by first | rfl | exact World.drewN_drewN ..⟩
          · have T : (x * s != y * t) = true := by rw [bne_iff_ne]; exact e
            have HR : Hid (multB vs ws = false) := hid (by
              cases hm : multB vs ws with
              | false => rfl
              | true =>
                have := HM.out.1 hm K HLT.out J HLJ.out
                rw [HQ.out.1, HQ.out.2] at this
                exact absurd this e)
            clear e
            go_wp2_with fail
            go_quiet (fail)
            go_wp2_with fail
            go_ret
            exact ⟨retB HR.out.symm, by first | exact ⟨_, rfl⟩ | (rw [World.drewN_drewN]; exact ⟨_, rfl⟩)⟩
        · obtain rfl : J = K := by omega
          clear hlt
          go_wp2_with fail
          go_roundw
          case measure => simp only [intOf]; have := HLT.out; omega
          case rel => exact ⟨J + 1, q, by go_num, by omega, hid (fun i hi k hk => by
            by_cases e : i = J
            · rw [e]; exact HJ.out k (by omega)
            · exact HE.out i (by omega) k hk), rfl⟩
    · obtain rfl : K = 3 := by omega
      have HR : Hid (multB vs ws = true) := hid (HM.out.2 HE.out)
      clear hlt
      go_wp2_with fail
      go_ret
      exact ⟨retB HR.out.symm, q, rfl⟩

end Go.Proofs.Ytfjbdbfeolfcfaa

/-! AppOne -/
set_option linter.unusedVariables false
namespace Go.Proofs.Ytfjbdbfeolfcfaa
open Go.RowKit

theorem append_one {wd : World} {base : Nat} {so : Value} {xs : List Int} (x : Int) (ho : Owns wd base so xs) (hb : base ≤ wd.heap.size) (hl : xs.length ≤ 1000000) :
    ∃ v' w', (Builtin.append_ #[23, 23] 23 #[so, .slice (some ⟨wd.heap.size, 0, none⟩) 1 1]).run Try.prog (wd.alloc (.cells #[.int .i64 x] 3)) = .ok v' w' ∧ Owns w' base v' (xs ++ [x]) ∧ (wd.alloc (.cells #[.int .i64 x] 3)).grownBy w' so.ownBlock := by
  obtain ⟨i0, hi, hz0, hz1, hz2⟩ := info_parts infoInt
  obtain ⟨v', w', h1, h2, h3, _, _⟩ := run_append_own_at (P := Try.prog) (w := wd.alloc (.cells #[.int .i64 x] 3)) base 23 23 3 i0 (.int .i64 0) 1 8 Try.underlying23 hi hz0 hz1 hz2 rfl (by decide) so xs.length _ ((show World.ownsRow _ _ _ _ _ _ _ from ho).alloc _) ⟨wd.heap.size, 0, none⟩ 1 1 [.int .i64 x] rfl (cell_one_new _ _ _) (by simp [Value.oneCell']) (by unfold maxLen; omega) (by omega) (by simp; omega)
  refine ⟨v', w', h1, ?_, h3⟩
  unfold Owns
  rw [List.length_append, List.map_append]
  exact h2
/-- the same as one step of such a region -/
theorem step_append_told {ops : Array Oper} {o : Oper} {a : Act} {W w' : World} {K : Act → World → Prop} {Q : Exit → Act → World → Prop} {E : Prop} (hgd : o.guard = none) (s x : Operand) (so xv v' : Value)
    (hop : o.op = .call { callee := .builtin .append, args := #[s, x], argTypes := #[23, 23] }) (ht : o.type = 23) (hs : a.eval s = so) (hx : a.eval x = xv)
    (hrun : (Builtin.append_ #[23, 23] 23 #[so, xv]).run Try.prog W = .ok v' w') (hK : K (a.put o.dst v') w') :
    if Region.wanted o (yielded ops a.tmps) = true then Oper.wp Try.prog o a W K Q else E := by
  have hw : Region.wanted o (yielded ops a.tmps) = true := by simp [Region.wanted, hgd]
  rw [if_pos hw]
  unfold Oper.wp execOp
  simp only [hop, ht, resolve, invoke, builtin, Sem.run_bind, Sem.run_pure, Result.andThen_ok, List.map_toArray, List.map_cons, List.map_nil, hs, hx, hrun]
  exact hK

end Go.Proofs.Ytfjbdbfeolfcfaa

/-! Cm2 -/
set_option linter.unusedVariables false
namespace Go.Proofs.Ytfjbdbfeolfcfaa
open Go.RowKit

theorem tri_nat {a u v : Int} {m n k : Nat} (ha : a.natAbs ≤ m) (hu : u.natAbs ≤ n) (hv : v.natAbs ≤ k) : (a * u * v).natAbs ≤ m * n * k := by
  rw [Int.natAbs_mul, Int.natAbs_mul]
  exact Nat.mul_le_mul (Nat.mul_le_mul ha hu) hv
/-- all that a line's numbers are bounded by -/
structure LineOk (xs vs ws : List Int) : Prop where
  hf : fvB xs = true
  lx : xs.length = 3
  lv : vs.length = 3
  lw : ws.length = 3
  v6 : Vec6 vs
  w6 : Vec6 ws
  bv : ∀ x ∈ vs, -1000 ≤ x ∧ x ≤ 1000
  bw : ∀ x ∈ ws, -20 ≤ x ∧ x ≤ 20
  q1 : -36000 ≤ valI xs ws 3
  q2 : valI xs ws 3 ≤ 36000
  p1 : -1800000 ≤ pairI xs vs ws 3
  p2 : pairI xs vs ws 3 ≤ 1800000
theorem line_facts {xs vs ws : List Int} (hp : pointB xs vs = true) (hw : vecB xs ws 20 = true) : LineOk xs vs ws := by
  obtain ⟨a, b, c, x, y, z, rfl, rfl, hf, P⟩ := point_pt hp
  obtain ⟨hb, _, hl⟩ := vecB_iff.1 hw
  obtain ⟨u, v, t, rfl⟩ := len3 (show ws.length = 3 from hl)
  have h1 := P.ha; have h2 := P.hb; have h3 := P.hc; have h4 := P.hx; have h5 := P.hy; have h6 := P.hz
  have k1 := hb u (by simp); have k2 := hb v (by simp); have k3 := hb t (by simp)
  have hv1 : ∀ w ∈ [x, y, z], -1000 ≤ w ∧ w ≤ 1000 := fun w hw => by
    simp at hw
    rcases hw with rfl | rfl | rfl <;> assumption
  have t1 := tri_nat (a := a) (u := u) (v := u) (m := 30) (n := 20) (k := 20) (by omega) (by omega) (by omega)
  have t2 := tri_nat (a := b) (u := v) (v := v) (m := 30) (n := 20) (k := 20) (by omega) (by omega) (by omega)
  have t3 := tri_nat (a := c) (u := t) (v := t) (m := 30) (n := 20) (k := 20) (by omega) (by omega) (by omega)
  have s1 := tri_nat (a := a) (u := x) (v := u) (m := 30) (n := 1000) (k := 20) (by omega) (by omega) (by omega)
  have s2 := tri_nat (a := b) (u := y) (v := v) (m := 30) (n := 1000) (k := 20) (by omega) (by omega) (by omega)
  have s3 := tri_nat (a := c) (u := z) (v := t) (m := 30) (n := 1000) (k := 20) (by omega) (by omega) (by omega)
  refine ⟨hf, rfl, rfl, rfl, fun w hw => ?_, fun w hw => ?_, hv1, hb, ?_, ?_, ?_, ?_⟩
  · have := hv1 w hw; omega
  · have := hb w hw; omega
  · rw [valT3]; unfold q3; omega
  · rw [valT3]; unfold q3; omega
  · rw [pairT3]; unfold p3; omega
  · rw [pairT3]; unfold p3; omega
theorem line_len (xs vs ws : List Int) : (lineL xs vs ws).length = 3 := rfl
theorem line_at (xs vs ws : List Int) {K : Nat} (hK : K < 3) : (lineL xs vs ws).getD K 0 = valI xs ws 3 * vs.getD K 0 - 2 * pairI xs vs ws 3 * ws.getD K 0 := by
  rcases (show K = 0 ∨ K = 1 ∨ K = 2 by omega) with rfl | rfl | rfl <;> rfl
theorem line_bd {xs vs ws : List Int} (h : LineOk xs vs ws) : Vec11 (lineL xs vs ws) := fun v hv => by
  obtain ⟨i, hi, rfl⟩ := List.getElem_of_mem hv
  rw [← getD_at _ _ hi (0 : Int), line_at xs vs ws hi]
  have hi3 : i < 3 := hi
  have b1 := h.bv (vs.getD i 0) (by rw [getD_at _ _ (by have := h.lv; omega)]; exact List.getElem_mem _)
  have b2 := h.bw (ws.getD i 0) (by rw [getD_at _ _ (by have := h.lw; omega)]; exact List.getElem_mem _)
  have q1 := h.q1; have q2 := h.q2; have p1 := h.p1; have p2 := h.p2
  have e1 := prod_bd2 (x := valI xs ws 3) (y := vs.getD i 0) (m := 36000) (n := 1000) (by omega) (by omega)
  have e2 := prod_bd2 (x := 2 * pairI xs vs ws 3) (y := ws.getD i 0) (m := 3600000) (n := 20) (by omega) (by omega)
  omega
theorem other_no1 {xs vs ws : List Int} (h : pointB xs vs = false) : otherOk xs vs ws = false := by unfold otherOk; rw [h]; rfl
theorem other_no2 {xs vs ws : List Int} (h : vecB xs ws 20 = false) : otherOk xs vs ws = false := by unfold otherOk; rw [h]; simp
theorem other_no3 {xs vs ws : List Int} (h : multB vs ws = true) : otherOk xs vs ws = false := by unfold otherOk; rw [h]; simp
theorem other_eq {xs vs ws : List Int} (h1 : pointB xs vs = true) (h2 : vecB xs ws 20 = true) (h3 : multB vs ws = false) : otherOk xs vs ws = zeroB xs (plainL (lineL xs vs ws)) := by
  unfold otherOk
  rw [h1, h2, h3]
  obtain ⟨a, b, c, x, y, z, rfl, rfl, hf, P⟩ := point_pt h1
  obtain ⟨u, v, t, rfl⟩ := len3 (line_facts h1 h2).lw
  rw [line_plain hf P h3]
  rfl
theorem line_some2 {xs vs ws : List Int} (h1 : pointB xs vs = true) (h2 : vecB xs ws 20 = true) (h3 : multB vs ws = false) : ∃ k ∈ lineL xs vs ws, k ≠ 0 := by
  obtain ⟨a, b, c, x, y, z, rfl, rfl, hf, P⟩ := point_pt h1
  obtain ⟨u, v, t, rfl⟩ := len3 (line_facts h1 h2).lw
  exact line_some P h3
theorem otherL_no {xs vs ws : List Int} (h : otherOk xs vs ws = false) : otherL xs vs ws = [] := by unfold otherL; rw [h]; rfl
theorem otherL_yes {xs vs ws : List Int} (h : otherOk xs vs ws = true) : otherL xs vs ws = plainL (lineL xs vs ws) := by unfold otherL; rw [h, if_pos rfl]
/-- what ConicOther answers -/
def OtherPost (xs vs ws : List Int) (w : World) (e : Ending) (w' : World) : Prop := ∃ u, e = .returned (.tuple #[u, .bool (otherOk xs vs ws)]) ∧ Owns w' w.heap.size u (otherL xs vs ws) ∧ Below w.heap.size w w'
theorem other_empty {xs vs ws : List Int} {w w1 : World} (h : otherOk xs vs ws = false) (hb : Below w.heap.size w w1) : OtherPost xs vs ws w (.returned (.tuple #[.slice (some ⟨w1.heap.size, 0, none⟩) 0 0, .bool false])) (w1.alloc (.cells #[] 3)) := by
  refine ⟨_, by rw [h], ?_, hb.alloc hb.size _⟩
  rw [otherL_no h]
  exact World.ownsRow_made (size := 1) w1 #[] 0 hb.size (by unfold maxLen; omega) rfl

set_option maxRecDepth 100000 in
set_option maxHeartbeats 8000000 in
theorem conicOtherS_any (vf vv vw : Value) (xs vs ws : List Int) (w : World) (hx : Rd w vf xs) (hv : Rd w vv vs) (hw : Rd w vw ws) : Calls Try.prog 19 #[vf, vv, vw] w (OtherPost xs vs ws w) := by
  have HX := hid hx
  have HV := hid hv
  have HW := hid hw
  obtain ⟨a, cap, rfl, _⟩ := hx.form
  obtain ⟨a', cap', rfl, _⟩ := hv.form
  obtain ⟨a3, cap3, rfl, _⟩ := hw.form
  clear hx hv hw
  cases hp : pointB xs vs with
  | false =>
    have HP := hid hp
    have HN := hid (other_no1 (ws := ws) hp)
    clear hp
    go_enter Try.func19, Try.ntmps19
    go_wp2_with (go_at_call 11; refine (conicPointS_any _ _ xs vs _ HX.out HV.out).mono ?_; rw [HP.out]; rintro e w1 ⟨rfl, hb1⟩)
    go_ret2
    exact other_empty HN.out hb1
  | true =>
    have HP := hid hp
    cases hwb : vecB xs ws 20 with
    | false =>
      have HWB := hid hwb
      have HN := hid (other_no2 (vs := vs) hwb)
      clear hp hwb
      go_enter Try.func19, Try.ntmps19
      go_wp2_with (first | (go_at_call 11; refine (conicPointS_any _ _ xs vs _ HX.out HV.out).mono ?_; rw [HP.out]; rintro e w1 ⟨rfl, hb1⟩) | (go_at_call 44; refine (l4Vector_any _ _ xs ws _ (by omega) (by omega) _ (HX.out.keep hb1) (HW.out.keep hb1)).mono ?_; rw [HWB.out]; rintro e w' ⟨rfl, rfl⟩))
      go_ret2
      exact other_empty HN.out hb1
    | true =>
      have HWB := hid hwb
      have L := line_facts hp hwb
      have HLO := hid L
      cases hm : multB vs ws with
      | true =>
        have HM := hid hm
        have HN := hid (other_no3 (xs := xs) hm)
        clear hp hwb hm L
        go_enter Try.func19, Try.ntmps19
        go_wp2_with (first | (go_at_call 11; refine (conicPointS_any _ _ xs vs _ HX.out HV.out).mono ?_; rw [HP.out]; rintro e w1 ⟨rfl, hb1⟩) | (go_at_call 44; refine (l4Vector_any _ _ xs ws _ (by omega) (by omega) _ (HX.out.keep hb1) (HW.out.keep hb1)).mono ?_; rw [HWB.out]; rintro e w' ⟨rfl, rfl⟩) | (go_at_call 45; refine (l6kMultiple_any _ _ vs ws _ (HV.out.keep hb1) (HW.out.keep hb1) HLO.out.lv HLO.out.lw HLO.out.v6 HLO.out.w6).mono ?_; rw [HM.out]; rintro e w2 ⟨rfl, k2, rfl⟩))
        go_ret2
        exact other_empty HN.out (below_drewN hb1 k2)
      | false =>
        have HM := hid hm
        have HE := hid (other_eq hp hwb hm)
        have HSM := hid (line_some2 hp hwb hm)
        have HBD := hid (line_bd L)
        have HVAL : Hid (∀ w : World, Rd w (.slice a xs.length cap) xs → Rd w (.slice a3 ws.length cap3) ws → Calls Try.prog 46 #[.slice a xs.length cap, .slice a3 ws.length cap3] w fun e w' => e = .returned (.int .i64 (valI xs ws 3)) ∧ ∃ k, w' = w.drewN k) := hid (fun w h1 h2 => by
          have := l4Value6_any _ _ xs ws w h1 h2 L.hf L.w6 (by rw [L.lw, L.lx])
          rwa [show valI xs ws xs.length = valI xs ws 3 by rw [L.lx]] at this)
        have HPR : Hid (∀ w : World, Rd w (.slice a xs.length cap) xs → Rd w (.slice a' vs.length cap') vs → Rd w (.slice a3 ws.length cap3) ws → Calls Try.prog 47 #[.slice a xs.length cap, .slice a' vs.length cap', .slice a3 ws.length cap3] w fun e w' => e = .returned (.int .i64 (pairI xs vs ws 3)) ∧ ∃ k, w' = w.drewN k) := hid (fun w h1 h2 h3 => by
          have := l5Pair_any _ _ _ xs vs ws w h1 h2 h3 L.hf L.v6 L.w6 (by rw [L.lv, L.lx]) (by rw [L.lw, L.lx])
          rwa [show pairI xs vs ws xs.length = pairI xs vs ws 3 by rw [L.lx]] at this)
        have HAT := hid (fun K (hK : K < 3) => line_at xs vs ws hK)
        have hq1 := L.q1
        have hq2 := L.q2
        have hp1 := L.p1
        have hp2 := L.p2
        obtain ⟨q, hq⟩ : ∃ q, q = valI xs ws 3 := ⟨_, rfl⟩
        obtain ⟨p, hpp⟩ : ∃ p, p = pairI xs vs ws 3 := ⟨_, rfl⟩
        rw [← hq] at HVAL HAT hq1 hq2
        rw [← hpp] at HPR HAT hp1 hp2
        have HPL := hid (plainL_len (lineL xs vs ws))
        have HON : Hid (otherOk xs vs ws = false → otherL xs vs ws = []) := hid otherL_no
        have HOY : Hid (otherOk xs vs ws = true → otherL xs vs ws = plainL (lineL xs vs ws)) := hid otherL_yes
        have HLL := hid (line_len xs vs ws)
        obtain ⟨L0, hL0⟩ : ∃ L0, L0 = lineL xs vs ws := ⟨_, rfl⟩
        rw [← hL0] at HAT HBD HSM HE HPL HOY HLL
        have w2p := wrapW (x := 2 * p) (by omega) (by omega)
        clear hp hwb hm L hq hpp hL0
        go_enter Try.func19, Try.ntmps19
        go_wp2_with (first | (go_at_call 11; refine (conicPointS_any _ _ xs vs _ HX.out HV.out).mono ?_; rw [HP.out]; rintro e w1 ⟨rfl, hb1⟩) | (go_at_call 44; refine (l4Vector_any _ _ xs ws _ (by omega) (by omega) _ (HX.out.keep hb1) (HW.out.keep hb1)).mono ?_; rw [HWB.out]; rintro e w' ⟨rfl, rfl⟩) | (go_at_call 45; refine (l6kMultiple_any _ _ vs ws _ (HV.out.keep hb1) (HW.out.keep hb1) HLO.out.lv HLO.out.lw HLO.out.v6 HLO.out.w6).mono ?_; rw [HM.out]; rintro e w2 ⟨rfl, k2, hw2⟩; have HB2 : Hid (Below w.heap.size w w2) := hid (by rw [hw2]; exact below_drewN hb1 k2); clear hw2))
        refine (HVAL.out _ (HX.out.keep HB2.out) (HW.out.keep HB2.out)).mono ?_
        rintro e w3 ⟨rfl, k3, hw3⟩
        have HB3 : Hid (Below w.heap.size w w3) := hid (by rw [hw3]; exact below_drewN HB2.out k3)
        clear hw3 HB2 hb1
        go_wp2_with fail
        refine (HPR.out _ (HX.out.keep HB3.out) (HV.out.keep HB3.out) (HW.out.keep HB3.out)).mono ?_
        rintro e w4 ⟨rfl, k4, hw4⟩
        have HB4 : Hid (Below w.heap.size w w4) := hid (by rw [hw4]; exact below_drewN HB3.out k4)
        clear hw4 HB3
        have HX4 := hid (HX.out.keep HB4.out)
        have HVK : Hid (∀ wx : World, Below w4.heap.size w4 wx → Rd wx (.slice a' vs.length cap') vs) := hid (fun wx hbx => (HV.out.keep HB4.out).keep hbx)
        have HWK : Hid (∀ wx : World, Below w4.heap.size w4 wx → Rd wx (.slice a3 ws.length cap3) ws) := hid (fun wx hbx => (HW.out.keep HB4.out).keep hbx)
        have HB0 := hid ((Below.refl w4.heap.size w4).alloc (Nat.le_refl _) (.cells #[] 3))
        have HO0 : Hid (Owns (w4.alloc (.cells #[] 3)) w4.heap.size (.slice (some ⟨w4.heap.size, 0, none⟩) 0 0) []) := hid (World.ownsRow_made (size := 1) w4 #[] 0 (Nat.le_refl _) (by unfold maxLen; omega) rfl)
        go_wp2_with fail
        go_loopw [10, 11] (fun so si wr => ∃ K : Nat, si = .int .i64 K ∧ K ≤ 3 ∧ Hid (Owns wr w4.heap.size so (L0.take K)) ∧ Hid (Below w4.heap.size w4 wr)) (fun _ si _ => 3 - (intOf si).toNat)
        case atStart => exact ⟨0, rfl, by omega, hid (by simpa using HO0.out), HB0⟩
        case round =>
          obtain ⟨K, rfl, hK, HO, HL⟩ := hrel
          rename World => wr
          have hbs : w4.heap.size ≤ wr.heap.size := HL.out.size
          by_cases hlt : K < 3
          · have hlv := HLO.out.lv
            have hlw := HLO.out.lw
            obtain ⟨a2, cap2, e2, hform⟩ := (HVK.out wr HL.out).form
            cases e2
            obtain ⟨bb, o, rfl, hml, hc⟩ := hform (by omega)
            have hcell := hc K (by omega)
            obtain ⟨a4, cap4, e4, hform3⟩ := (HWK.out wr HL.out).form
            cases e4
            obtain ⟨b3, o3, rfl, hml3, hc3⟩ := hform3 (by omega)
            have hcell3 := hc3 K (by omega)
            have hx1 := HLO.out.bv _ (show vs.getD K 0 ∈ vs by rw [getD_at _ _ (by omega)]; exact List.getElem_mem _)
            have hy1 := HLO.out.bw _ (show ws.getD K 0 ∈ ws by rw [getD_at _ _ (by omega)]; exact List.getElem_mem _)
            have HS : Hid (L0.take (K + 1) = L0.take K ++ [q * vs.getD K 0 - 2 * p * ws.getD K 0]) := hid (by rw [takeD_snoc (by have := HLL.out; omega), HAT.out K hlt])
            obtain ⟨x, hx⟩ : ∃ x, x = vs.getD K 0 := ⟨_, rfl⟩
            obtain ⟨y, hy⟩ : ∃ y, y = ws.getD K 0 := ⟨_, rfl⟩
            rw [← hx] at hcell hx1 HS
            rw [← hy] at hcell3 hy1 HS
            have m1 := prod_bd2 (x := q) (y := x) (m := 36000) (n := 1000) (by omega) (by omega)
            have m2 := prod_bd2 (x := 2 * p) (y := y) (m := 3600000) (n := 20) (by omega) (by omega)
            have f1 := wrapW (x := q * x) (by omega) (by omega)
            have f2 := wrapW (x := 2 * p * y) (by omega) (by omega)
            have f3 := wrapW (x := q * x - 2 * p * y) (by omega) (by omega)
            have hi0 : (K : Int) < (vs.length : Int) := by omega
            have hi1 : (K : Int) < (ws.length : Int) := by omega
            have hi3 : (K : Int) < 3 := by omega
            have HLT := hid hlt
            obtain ⟨pre, hpre⟩ : ∃ pre, pre = L0.take K := ⟨_, rfl⟩
            have hprel : pre.length ≤ 3 := by rw [hpre, List.length_take]; omega
            rw [← hpre] at HO HS
            obtain ⟨v', w5, hrun, hown', hgrow⟩ := append_one (wd := wr.drew) (q * x - 2 * p * y) (show Owns wr.drew w4.heap.size _ pre from HO.out) hbs (by omega)
            have HRUN : Hid ((Builtin.append_ #[23, 23] 23 #[u10, .slice (some ⟨wr.heap.size, 0, none⟩) 1 1]).run Try.prog ((wr.alloc (.cells #[.int .i64 (q * x - 2 * p * y)] 3)).drew) = .ok v' w5) := hid hrun
            have HBX := hid ((below_dw HL.out).alloc hbs (.cells #[.int .i64 (q * x - 2 * p * y)] 3))
            have hbz : w4.heap.size ≤ (wr.drew.alloc (.cells #[.int .i64 (q * x - 2 * p * y)] 3)).heap.size := HBX.out.size
            have HOW := hid hown'
            have HGR := hid hgrow
            unfold maxLen at hml hml3
            clear hform hform3 hc hc3 hx hy hlt hpre hown' hgrow hrun hlv hlw m1 m2 hx1 hy1
            go_wp2_with fail
            go_region_law (refine step_append_told rfl (.tmp 40) (.tmp 55) u10 (.slice (some ⟨wr.heap.size, 0, none⟩) 1 1) v' rfl rfl rfl rfl HRUN.out ?_)
            all_goals (
              go_wp2
              go_roundw
              case measure => simp only [intOf]; have := HLT.out; omega
              case rel => exact ⟨K + 1, by go_num, by have := HLT.out; omega, hid (by rw [HS.out]; exact HOW.out), hid (HBX.out.grown HGR.out hbz (fun k e => (HO.out.ge k e)))⟩)
          · have hKL : K = 3 := by omega
            have HO9 : Hid (Owns wr w4.heap.size u10 L0) := hid (by
              have := HO.out
              rwa [hKL, List.take_of_length_le (by have := HLL.out; omega)] at this)
            have hge : ¬ (K : Int) < 3 := by omega
            have HB9 := hid (HB4.out.trans (HL.out.mono HB4.out.size))
            have HX9 := hid (HX4.out.keep HL.out)
            clear hKL hlt HO HL
            go_wp2_with fail
            refine (l5PlainW_any _ L0 _ HO9.out.rd (by have := HLL.out; omega) HBD.out HSM.out).mono ?_
            rintro e w6 ⟨u, rfl, ho6, hb6⟩
            have HB6 := hid (HB9.out.trans (hb6.mono HB9.out.size))
            have HX6 := hid (HX9.out.keep hb6)
            have HO6 := hid (ho6.down HB9.out.size)
            clear ho6 hb6
            go_wp2_with fail
            refine (zeroIsS_any _ _ xs (plainL L0) _ HX6.out HO6.out.rd).mono ?_
            rw [← HE.out]
            rintro e w7 ⟨rfl, k7, hw7⟩
            have HB7 : Hid (Below w.heap.size w w7) := hid (by rw [hw7]; exact below_drewN HB6.out k7)
            have HO7 : Hid (Owns w7 w.heap.size u (plainL L0)) := hid (by rw [hw7]; exact HO6.out.drewN k7)
            clear hw7
            cases hok : otherOk xs vs ws with
            | false =>
              have HN := hid hok
              clear hok
              go_wp2_with fail
              go_ret2
              exact other_empty HN.out HB7.out
            | true =>
              have HN := hid hok
              clear hok
              go_wp2_with fail
              go_ret2
              exact ⟨u, by rw [HN.out]; rfl, by rw [HOY.out HN.out]; exact HO7.out, HB7.out⟩

end Go.Proofs.Ytfjbdbfeolfcfaa

/-! RdCut -/
set_option linter.unusedVariables false
namespace Go.Proofs.Ytfjbdbfeolfcfaa
open Go.RowKit

theorem Rd.drop {W : World} {g o n cap k : Nat} {xs : List Int} (h : Rd W (.slice (some ⟨g, o, none⟩) n cap) xs) (hk : k ≤ n) (hn : xs.length = n) : Rd W (.slice (some ⟨g, o + k, none⟩) (n - k) (cap - k)) (xs.drop k) := by
  subst hn
  by_cases h0 : xs.length = k
  · exact .inl ⟨_, _, by rw [h0, Nat.sub_self], List.drop_eq_nil_of_le (by omega)⟩
  · rcases h with ⟨a, c, hv, hx⟩ | ⟨b, o', c, hv, hl, hm, hc⟩
    · subst hx; have e : ([] : List Int).length = 0 := rfl; omega
    · simp only [Value.slice.injEq, Option.some.injEq, Addr.mk.injEq, and_true, true_and] at hv
      obtain ⟨⟨rfl, rfl⟩, rfl⟩ := hv
      refine .inr ⟨g, o + k, cap - k, by rw [List.length_drop], by rw [List.length_drop]; omega, by rw [List.length_drop]; omega, fun i hi => ?_⟩
      rw [List.length_drop] at hi
      have := hc (k + i) (by omega)
      rw [show o + k + i = o + (k + i) by omega, this]
      simp [List.getD]
theorem Rd.cut {W : World} {g o n cap k : Nat} {xs : List Int} (h : Rd W (.slice (some ⟨g, o, none⟩) n cap) xs) (hk : k ≤ n) (hn : xs.length = n) (hc : n ≤ cap) : Rd W (.slice (if cap = k then some ⟨g, o, none⟩ else some ⟨g, o + k, none⟩) (n - k) (cap - k)) (xs.drop k) := by
  by_cases e : cap = k
  · exact .inl ⟨_, _, by rw [show n - k = 0 by omega], List.drop_eq_nil_of_le (by omega)⟩
  · rw [if_neg e]
    exact h.drop hk hn
theorem Rd.take {W : World} {g o n cap k c : Nat} {xs : List Int} (h : Rd W (.slice (some ⟨g, o, none⟩) n cap) xs) (hk : k ≤ n) (hn : xs.length = n) (hcc : cap ≤ c := by exact Nat.le_refl _) : Rd W (.slice (some ⟨g, o, none⟩) k c) (xs.take k) := by
  subst hn
  by_cases h0 : k = 0
  · exact .inl ⟨_, _, by rw [h0], by rw [h0]; rfl⟩
  · rcases h with ⟨a, c, hv, hx⟩ | ⟨b, o', c', hv, hl, hm, hc⟩
    · subst hx; simp at hk; omega
    · simp only [Value.slice.injEq, Option.some.injEq, Addr.mk.injEq, and_true, true_and] at hv
      obtain ⟨⟨rfl, rfl⟩, rfl⟩ := hv
      have e : (xs.take k).length = k := by rw [List.length_take]; omega
      refine .inr ⟨g, o, c, by rw [e], by omega, by omega, fun i hi => ?_⟩
      rw [e] at hi
      rw [hc i (by omega)]
      simp [List.getD, hi]

end Go.Proofs.Ytfjbdbfeolfcfaa

/-! Cm3 -/
set_option linter.unusedVariables false
namespace Go.Proofs.Ytfjbdbfeolfcfaa
open Go.RowKit

/-- append of a slice to one of the call's own: its run, told ahead -/
theorem append_told {w : World} {base : Nat} {v : Value} {xs : List Int} (hown : Owns w base v xs) {ad : Addr} {n c : Nat} {ys : List Int} (hrd : Rd w (.slice (some ad) n c) ys) (h63 : xs.length + ys.length ≤ 10000000) (hbase : base ≤ w.heap.size) :
    ∃ v' w', (Builtin.append_ #[23, 23] 23 #[v, .slice (some ad) n c]).run Try.prog w = .ok v' w' ∧ Owns w' base v' (xs ++ ys) ∧ w.grownBy w' v.ownBlock := by
  obtain ⟨i0, hi, hz0, hz1, hz2⟩ := info_parts infoInt
  have hn : n = ys.length := by
    rcases hrd with ⟨_, _, e, hy⟩ | ⟨_, _, _, e, _⟩
    · cases e; rw [hy]; rfl
    · cases e; rfl
  have hnews : ∀ j z, (ys.map (Value.int .i64))[j]? = some z → w.cell? (ad.add j) = some z := fun j z hz => by
    rcases hrd with ⟨_, _, _, hy⟩ | ⟨b, off, cap, e, _, _, hc⟩
    · rw [hy] at hz; simp at hz
    · cases e
      rw [List.getElem?_map] at hz
      by_cases hj : j < ys.length
      · rw [List.getElem?_eq_getElem hj] at hz
        simp only [Option.map_some, Option.some.injEq] at hz
        rw [← hz, show (⟨b, off, none⟩ : Addr).add j = ⟨b, off + j, none⟩ by
          by_cases e : j = 0
          · subst e; simp [Addr.add]
          · simp [Addr.add, e], hc j hj, getD_at _ _ hj]
      · rw [List.getElem?_eq_none (by omega)] at hz; cases hz
  obtain ⟨v', w', h1, h2, h3, _, _⟩ := run_append_own_at (P := Try.prog) (w := w) base 23 23 3 i0 (.int .i64 0) 1 8 Try.underlying23 hi hz0 hz1 hz2 rfl (by decide) v xs.length _ hown ad n c (ys.map (Value.int .i64)) (by rw [List.length_map, hn, Nat.mul_one]) hnews (fun z hz => by rw [List.mem_map] at hz; obtain ⟨y, _, rfl⟩ := hz; rfl) (by unfold maxLen; omega) (by omega) hbase
  refine ⟨v', w', h1, ?_, h3⟩
  unfold Owns
  rw [List.length_append, List.map_append, ← hn]
  exact h2
/-- the axis of a point -/
def axisI (vs : List Int) : Int := if vs.getD 0 0 = 0 then 1 else 0
theorem axis_pt {xs vs : List Int} (h : pointB xs vs = true) : vs.length = 3 ∧ (vs.getD 0 0 = 0 → vs.getD 1 0 ≠ 0) ∧ Vec6 vs := by
  obtain ⟨a, b, c, x, y, z, rfl, rfl, hf, P⟩ := point_pt h
  refine ⟨rfl, fun h0 h1 => ?_, (line_facts (ws := [0, 0, 0]) h (vecB_iff.2 ⟨fun v hv => by simp at hv; omega, hf, rfl⟩)).v6⟩
  have := axis_ne P
  unfold atA at this
  rw [if_pos h0] at this
  exact this h1

set_option maxRecDepth 100000 in
set_option maxHeartbeats 1000000 in
theorem l6kAxis_any (v : Value) (vs : List Int) (w : World) (hv : Rd w v vs) (hl : vs.length = 3) (h1 : vs.getD 0 0 = 0 → vs.getD 1 0 ≠ 0) : Calls Try.prog 50 #[v] w fun e w' => e = .returned (.int .i64 (axisI vs)) ∧ w = w' := by
  obtain ⟨a, cap, rfl, hform⟩ := hv.form
  obtain ⟨b, o, rfl, hml, hc⟩ := hform (by omega)
  have c0 := hc 0 (by omega)
  have c1 := hc 1 (by omega)
  rw [Nat.add_zero] at c0
  rw [hl]
  have HA : Hid (axisI vs = if vs.getD 0 0 = 0 then 1 else 0) := hid rfl
  obtain ⟨A, hA⟩ : ∃ A, A = axisI vs := ⟨_, rfl⟩
  rw [← hA] at HA ⊢
  obtain ⟨x, hx⟩ : ∃ x, x = vs.getD 0 0 := ⟨_, rfl⟩
  obtain ⟨y, hy⟩ : ∃ y, y = vs.getD 1 0 := ⟨_, rfl⟩
  rw [← hx] at c0 h1 HA
  rw [← hy] at c1 h1
  have H1 := hid h1
  clear hA hx hy hc hform hv hl h1 hml
  go_enter Try.func50, Try.ntmps50
  go_wp2_with fail
  go_loop [3] (fun sk => ∃ K : Int, sk = .int .i64 K ∧ (K = 0 ∨ (K = 1 ∧ x = 0))) (fun sk => (3 - intOf sk).toNat)
  case atStart => exact ⟨0, rfl, .inl rfl⟩
  case round =>
    obtain ⟨K, rfl, hK⟩ := hrel
    rcases hK with rfl | ⟨rfl, h0⟩
    · by_cases x0 : x = 0
      · have T : (x == 0) = true := by rw [beq_iff_eq]; exact x0
        have HX0 := hid x0
        clear x0
        go_wp2_with fail
        go_round
        case measure => simp [intOf]
        case rel => exact ⟨1, rfl, .inr ⟨rfl, HX0.out⟩⟩
      · have T : (x == 0) = false := by rw [beq_eq_false_iff_ne]; exact x0
        have HE : Hid (A = 0) := hid (by rw [HA.out, if_neg x0])
        clear x0
        go_wp2_with fail
        go_ret
        exact ⟨retI HE.out.symm, rfl⟩
    · have y0 := H1.out h0
      have T : (y == 0) = false := by rw [beq_eq_false_iff_ne]; exact y0
      have HE : Hid (A = 1) := hid (by rw [HA.out, if_pos h0])
      clear h0 y0
      go_wp2_with fail
      go_ret
      exact ⟨retI HE.out.symm, rfl⟩

set_option maxRecDepth 100000 in
set_option maxHeartbeats 1000000 in
theorem l6kAway_any (vs : List Int) (s t : Int) (w : World) : Calls Try.prog 49 #[.int .i64 (axisI vs), .int .i64 s, .int .i64 t] w fun e w' => ∃ u, e = .returned u ∧ Owns w' w.heap.size u (headL vs s t) ∧ Below w.heap.size w w' := by
  by_cases h0 : vs.getD 0 0 = 0
  · have e1 : axisI vs = 1 := by unfold axisI; rw [if_pos h0]
    have HE : Hid (headL vs s t = [s, 0, t]) := hid (by unfold headL; rw [if_pos h0])
    rw [e1]
    clear e1 h0
    go_enter Try.func49, Try.ntmps49
    go_wp2_with fail
    go_ret
    exact ⟨_, rfl, by rw [HE.out]; exact owns_lit [s, 0, t] _ rfl (Nat.le_refl _) (by unfold maxLen; simp), below_box2 _ _⟩
  · have e1 : axisI vs = 0 := by unfold axisI; rw [if_neg h0]
    have HE : Hid (headL vs s t = [0, s, t]) := hid (by unfold headL; rw [if_neg h0])
    rw [e1]
    clear e1 h0
    go_enter Try.func49, Try.ntmps49
    go_wp2_with fail
    go_ret
    exact ⟨_, rfl, by rw [HE.out]; exact owns_lit [0, s, t] _ rfl (Nat.le_refl _) (by unfold maxLen; simp), below_box2 _ _⟩

theorem other_up {xs vs ws : List Int} {w w2 : World} {e : Ending} {w' : World} (h : OtherPost xs vs ws w2 e w') (hb : Below w.heap.size w w2) : OtherPost xs vs ws w e w' := by
  obtain ⟨u, rfl, ho, hb2⟩ := h
  exact ⟨u, rfl, ho.down hb.size, hb.trans (hb2.mono hb.size)⟩
theorem head_zero (vs : List Int) : headL vs 0 0 = [0, 0, 0] := by unfold headL; split <;> rfl
theorem at_zero {xs vs : List Int} : otherOk xs vs (headL vs 0 0) = false := by
  rw [head_zero]
  exact other_no3 (by unfold multB; simp)

set_option maxRecDepth 100000 in
set_option maxHeartbeats 2000000 in
theorem conicAtS_any (vf vv : Value) (xs vs : List Int) (s t : Int) (w : World) (hx : Rd w vf xs) (hv : Rd w vv vs) : Calls Try.prog 22 #[vf, vv, .int .i64 s, .int .i64 t] w (OtherPost xs vs (headL vs s t) w) := by
  have HX := hid hx
  have HV := hid hv
  obtain ⟨a, cap, rfl, _⟩ := hx.form
  obtain ⟨a', cap', rfl, _⟩ := hv.form
  clear hx hv
  cases hp : pointB xs vs with
  | false =>
    have HP := hid hp
    have HN := hid (other_no1 (ws := headL vs s t) hp)
    clear hp
    go_enter Try.func22, Try.ntmps22
    go_wp2_with (go_at_call 11; refine (conicPointS_any _ _ xs vs _ HX.out HV.out).mono ?_; rw [HP.out]; rintro e w1 ⟨rfl, hb1⟩)
    go_ret2
    exact other_empty HN.out hb1
  | true =>
    have HP := hid hp
    obtain ⟨hl, hax, _⟩ := axis_pt hp
    have HL := hid hl
    have HAX := hid hax
    clear hp hl hax
    by_cases s0 : s = 0
    · have T : (s == 0) = true := by rw [beq_iff_eq]; exact s0
      by_cases t0 : t = 0
      · have HN : Hid (otherOk xs vs (headL vs s t) = false) := hid (by rw [s0, t0]; exact at_zero)
        have T2 : (t == 0) = true := by rw [beq_iff_eq]; exact t0
        clear s0 t0
        go_enter Try.func22, Try.ntmps22
        go_wp2_with (go_at_call 11; refine (conicPointS_any _ _ xs vs _ HX.out HV.out).mono ?_; rw [HP.out]; rintro e w1 ⟨rfl, hb1⟩)
        go_ret2
        exact other_empty HN.out hb1
      · have T2 : (t == 0) = false := by rw [beq_eq_false_iff_ne]; exact t0
        clear s0 t0
        go_enter Try.func22, Try.ntmps22
        go_wp2_with (first | (go_at_call 11; refine (conicPointS_any _ _ xs vs _ HX.out HV.out).mono ?_; rw [HP.out]; rintro e w1 ⟨rfl, hb1⟩) | (go_at_call 50; refine (l6kAxis_any _ vs _ (HV.out.keep hb1) HL.out HAX.out).mono ?_; rintro e w' ⟨rfl, rfl⟩))
        refine (l6kAway_any vs s t _).mono ?_
        rintro e w2 ⟨u, rfl, ho, hb2⟩
        have HB2 := hid (hb1.trans (hb2.mono hb1.size))
        have HO := hid ho.rd
        clear hb1 hb2 ho
        go_wp2_with fail
        refine (conicOtherS_any _ _ _ xs vs (headL vs s t) _ (HX.out.keep HB2.out) (HV.out.keep HB2.out) HO.out).mono ?_
        intro e w3 h3
        obtain ⟨u3, rfl, h4, h5⟩ := other_up h3 HB2.out
        have H4 := hid h4
        have H5 := hid h5
        clear h3 h4 h5
        go_wp2_with fail
        go_ret2
        exact ⟨u3, rfl, H4.out, H5.out⟩
    · have T : (s == 0) = false := by rw [beq_eq_false_iff_ne]; exact s0
      clear s0
      go_enter Try.func22, Try.ntmps22
      go_wp2_with (first | (go_at_call 11; refine (conicPointS_any _ _ xs vs _ HX.out HV.out).mono ?_; rw [HP.out]; rintro e w1 ⟨rfl, hb1⟩) | (go_at_call 50; refine (l6kAxis_any _ vs _ (HV.out.keep hb1) HL.out HAX.out).mono ?_; rintro e w' ⟨rfl, rfl⟩))
      refine (l6kAway_any vs s t _).mono ?_
      rintro e w2 ⟨u, rfl, ho, hb2⟩
      have HB2 := hid (hb1.trans (hb2.mono hb1.size))
      have HO := hid ho.rd
      clear hb1 hb2 ho
      go_wp2_with fail
      refine (conicOtherS_any _ _ _ xs vs (headL vs s t) _ (HX.out.keep HB2.out) (HV.out.keep HB2.out) HO.out).mono ?_
      intro e w3 h3
      obtain ⟨u3, rfl, h4, h5⟩ := other_up h3 HB2.out
      have H4 := hid h4
      have H5 := hid h5
      clear h3 h4 h5
      go_wp2_with fail
      go_ret2
      exact ⟨u3, rfl, H4.out, H5.out⟩

theorem two_list {us ws : List Int} (hl : ws.length = 3) : [atB us ws, atC ws] = if us.getD 0 0 = 0 then ws.take 1 ++ ws.drop 2 else ws.drop 1 := by
  obtain ⟨a, b, c, rfl⟩ := len3 hl
  unfold atB atC
  split <;> rfl
set_option maxRecDepth 100000 in
set_option maxHeartbeats 4000000 in
theorem l6kTwo_any (v : Value) (us ws : List Int) (w : World) (hv : Rd w v ws) (hl : ws.length = 3) : Calls Try.prog 53 #[v, .int .i64 (axisI us)] w fun e w' => ∃ u, e = .returned u ∧ Owns w' w.heap.size u [atB us ws, atC ws] ∧ Below w.heap.size w w' := by
  rw [two_list (us := us) hl]
  rcases hv with ⟨_, _, _, rfl⟩ | ⟨b, o, cap, rfl, ⟨_, hcap⟩, hml, hc⟩
  · cases hl
  have hv : Rd w (.slice (some ⟨b, o, none⟩) ws.length cap) ws := .inr ⟨b, o, cap, rfl, ⟨by omega, hcap⟩, hml, hc⟩
  have hb0 := (below_dw (Below.refl w.heap.size w)).alloc (Nat.le_refl _) (.cells #[] 3)
  have HO0 : Owns (w.drew.alloc (.cells #[] 3)) w.heap.size (.slice (some ⟨w.heap.size, 0, none⟩) 0 0) [] := World.ownsRow_made (size := 1) w.drew #[] 0 (Nat.le_refl _) (by unfold maxLen; omega) rfl
  have hs0 : w.heap.size ≤ (w.drew.alloc (.cells #[] 3)).heap.size := by simp
  have hv0 := hv.keep hb0
  have hcap3 : 3 ≤ cap := by omega
  have hcapI : (3 : Int) ≤ (cap : Int) := by omega
  have hcap1 : (1 : Int) ≤ (cap : Int) := by omega
  have hcap2 : ¬ cap = 2 := by omega
  have hcap4 : ¬ cap = 1 := by omega
  have wr1 : IntKind.i64.wrap 1 = 1 := wrapW (by omega) (by omega)
  have wr2 : IntKind.i64.wrap 2 = 2 := wrapW (by omega) (by omega)
  have hcapN : (0 : Int) ≤ (cap : Int) := by omega
  by_cases h0 : us.getD 0 0 = 0
  · have e1 : axisI us = 1 := by unfold axisI; rw [if_pos h0]
    rw [e1, if_pos h0]
    obtain ⟨v1, w1, r1, o1, g1⟩ := append_told HO0 (Rd.take hv0 (k := 1) (by omega) rfl) (by simp; omega) hs0
    have hb1 := hb0.grown g1 hs0 (fun k e => by cases e; exact Nat.le_refl _)
    have hv1 := hv.keep hb1
    have hd := Rd.cut hv1 (k := 2) (by omega) rfl hcap
    rw [if_neg (show ¬ cap = 2 by omega)] at hd
    obtain ⟨v2, w2, r2, o2, g2⟩ := append_told o1 hd (by simp; omega) hb1.size
    have hb2 := hb1.grown g2 hb1.size (fun k e => o1.ge k e)
    have R1 : Hid ((Builtin.append_ #[23, 23] 23 #[.slice (some ⟨w.heap.size, 0, none⟩) 0 0, .slice (some ⟨b, o, none⟩) 1 cap]).run Try.prog ((w.alloc (.cells #[] 3)).drew) = .ok v1 w1) := hid r1
    rw [hl] at r2
    have R2 : Hid ((Builtin.append_ #[23, 23] 23 #[v1, .slice (some ⟨b, o + 2, none⟩) 1 (cap - 2)]).run Try.prog w1 = .ok v2 w2) := hid r2
    have HO2 : Hid (Owns w2 w.heap.size v2 (ws.take 1 ++ ws.drop 2)) := hid (by simpa using o2)
    have HB2 := hid hb2
    have ec : ((cap : Int) - 2) = ((cap - 2 : Nat) : Int) := by omega
    rw [hl]
    clear hb0 HO0 hs0 hv0 e1 h0 r1 o1 g1 hb1 hv1 hd r2 o2 g2 hb2 hv hc
    go_enter Try.func53, Try.ntmps53
    go_wp2_with fail
    go_region_law (first | (refine step_append_told rfl (.tmp 5) (.tmp 8) (.slice (some ⟨w.heap.size, 0, none⟩) 0 0) (.slice (some ⟨b, o, none⟩) 1 cap) v1 rfl rfl rfl rfl R1.out ?_) | (refine step_append_told rfl (.tmp 9) (.tmp 13) v1 (.slice (some ⟨b, o + 2, none⟩) 1 (cap - 2)) v2 rfl rfl rfl rfl R2.out ?_))
    all_goals (
      go_wp2
      go_ret
      exact ⟨_, rfl, HO2.out, HB2.out⟩)
  · have e1 : axisI us = 0 := by unfold axisI; rw [if_neg h0]
    rw [e1, if_neg h0]
    obtain ⟨v1, w1, r1, o1, g1⟩ := append_told HO0 (Rd.take hv0 (k := 0) (by omega) rfl) (by simp) hs0
    have hb1 := hb0.grown g1 hs0 (fun k e => by cases e; exact Nat.le_refl _)
    have hv1 := hv.keep hb1
    have hd := Rd.cut hv1 (k := 1) (by omega) rfl hcap
    rw [if_neg (show ¬ cap = 1 by omega)] at hd
    obtain ⟨v2, w2, r2, o2, g2⟩ := append_told o1 hd (by simp; omega) hb1.size
    have hb2 := hb1.grown g2 hb1.size (fun k e => o1.ge k e)
    have R1 : Hid ((Builtin.append_ #[23, 23] 23 #[.slice (some ⟨w.heap.size, 0, none⟩) 0 0, .slice (some ⟨b, o, none⟩) 0 cap]).run Try.prog ((w.alloc (.cells #[] 3)).drew) = .ok v1 w1) := hid r1
    rw [hl] at r2
    have R2 : Hid ((Builtin.append_ #[23, 23] 23 #[v1, .slice (some ⟨b, o + 1, none⟩) 2 (cap - 1)]).run Try.prog w1 = .ok v2 w2) := hid r2
    have HO2 : Hid (Owns w2 w.heap.size v2 (ws.drop 1)) := hid (by simpa using o2)
    have HB2 := hid hb2
    rw [hl]
    clear hb0 HO0 hs0 hv0 e1 h0 r1 o1 g1 hb1 hv1 hd r2 o2 g2 hb2 hv hc
    go_enter Try.func53, Try.ntmps53
    go_wp2_with fail
    go_region_law (first | (refine step_append_told rfl (.tmp 5) (.tmp 8) (.slice (some ⟨w.heap.size, 0, none⟩) 0 0) (.slice (some ⟨b, o, none⟩) 0 cap) v1 rfl rfl rfl rfl R1.out ?_) | (refine step_append_told rfl (.tmp 9) (.tmp 13) v1 (.slice (some ⟨b, o + 1, none⟩) 2 (cap - 1)) v2 rfl rfl rfl rfl R2.out ?_))
    all_goals (
      go_wp2
      go_ret
      exact ⟨_, rfl, HO2.out, HB2.out⟩)

end Go.Proofs.Ytfjbdbfeolfcfaa

/-! Cm4 -/
set_option linter.unusedVariables false
namespace Go.Proofs.Ytfjbdbfeolfcfaa
open Go.RowKit

/-- where the axis is -/
def axisN (vs : List Int) : Nat := if vs.getD 0 0 = 0 then 1 else 0
theorem axisN_I (vs : List Int) : axisI vs = (axisN vs : Nat) := by unfold axisI axisN; split <;> rfl
theorem axisN_le (vs : List Int) : axisN vs ≤ 1 := by unfold axisN; split <;> omega
theorem atA_N (vs ws : List Int) : atA vs ws = ws.getD (axisN vs) 0 := by unfold atA axisN; split <;> rfl
theorem atB_mem {vs ws : List Int} (hl : ws.length = 3) : atB vs ws ∈ ws := by
  obtain ⟨a, b, c, rfl⟩ := len3 hl
  unfold atB
  split <;> simp
theorem atA_mem {vs ws : List Int} (hl : ws.length = 3) : atA vs ws ∈ ws := by
  obtain ⟨a, b, c, rfl⟩ := len3 hl
  unfold atA
  split <;> simp
theorem atC_mem {ws : List Int} (hl : ws.length = 3) : atC ws ∈ ws := by
  obtain ⟨a, b, c, rfl⟩ := len3 hl
  unfold atC
  simp
def backV (xs vs zs : List Int) : Value := if backOk xs vs zs then .tuple #[.int .i64 ((backL xs vs zs).getD 0 0), .int .i64 ((backL xs vs zs).getD 1 0), .bool true] else .tuple #[.int .i64 0, .int .i64 0, .bool false]
theorem backV_no {xs vs zs : List Int} (h : backOk xs vs zs = false) : backV xs vs zs = .tuple #[.int .i64 0, .int .i64 0, .bool false] := by unfold backV; rw [h]; rfl
theorem backV_yes {xs vs zs : List Int} (h : backOk xs vs zs = true) : backV xs vs zs = .tuple #[.int .i64 ((backL xs vs zs).getD 0 0), .int .i64 ((backL xs vs zs).getD 1 0), .bool true] := by unfold backV; rw [h, if_pos rfl]
theorem backV_form (xs vs zs : List Int) : ∃ (x y : Int) (o : Bool), backV xs vs zs = .tuple #[.int .i64 x, .int .i64 y, .bool o] := by
  unfold backV
  split
  · exact ⟨_, _, true, rfl⟩
  · exact ⟨0, 0, false, rfl⟩
/-- all that back's numbers are bounded by -/
structure BackOk (xs vs zs : List Int) : Prop where
  lx : xs.length = 3
  lv : vs.length = 3
  lz : zs.length = 3
  bx : ∀ x ∈ xs, -30 ≤ x ∧ x ≤ 30
  bv : ∀ x ∈ vs, -1000 ≤ x ∧ x ≤ 1000
  bz : ∀ x ∈ zs, -1000000 ≤ x ∧ x ≤ 1000000
  ax : vs.getD 0 0 = 0 → vs.getD 1 0 ≠ 0
  tg : ∃ v ∈ [atC xs * atC vs, -(atB vs xs * atB vs vs)], v ≠ 0
theorem back_facts {xs vs zs : List Int} (hp : pointB xs vs = true) (hz : zeroB xs zs = true) : BackOk xs vs zs := by
  obtain ⟨a, b, c, x, y, z, rfl, rfl, hf, P⟩ := point_pt hp
  obtain ⟨u, v, w, rfl, k1, k2, k3, _, _⟩ := zero3 hz
  have hm := (axis_pt hp).2.1
  refine ⟨rfl, rfl, rfl, fun t ht => ?_, fun t ht => ?_, fun t ht => ?_, hm, tangent_some P⟩
  · have h1 := P.ha; have h2 := P.hb; have h3 := P.hc
    simp at ht
    rcases ht with rfl | rfl | rfl <;> omega
  · have h1 := P.hx; have h2 := P.hy; have h3 := P.hz
    simp at ht
    rcases ht with rfl | rfl | rfl <;> assumption
  · simp at ht
    rcases ht with rfl | rfl | rfl <;> assumption

/-- the plain one of a list of two that has just been laid -/
theorem plainTwo_any (s t : Int) (h1 : -100000000000 ≤ s ∧ s ≤ 100000000000) (h2 : -100000000000 ≤ t ∧ t ≤ 100000000000) (hs : ∃ x ∈ [s, t], x ≠ 0) (W : World) : Calls Try.prog 48 #[.slice (some ⟨W.heap.size, 0, none⟩) 2 2] (W.alloc (.cells #[.int .i64 s, .int .i64 t] 3)) fun e w' => ∃ u, e = .returned u ∧ Owns w' W.heap.size u (plainL [s, t]) ∧ Below W.heap.size W w' := by
  have hb := below_box2 W (.cells #[.int .i64 s, .int .i64 t] 3)
  have ho := owns_lit (W := W) (B := W.heap.size) [s, t] #[.int .i64 s, .int .i64 t] rfl (Nat.le_refl _) (by unfold maxLen; simp)
  refine (l5PlainW_any _ [s, t] _ ho.rd (by simp) (fun v hv => by simp at hv; omega) hs).mono ?_
  rintro e w' ⟨u, rfl, h1, h2⟩
  exact ⟨u, rfl, h1.down hb.size, hb.trans (h2.mono hb.size)⟩
theorem plain_two (s t : Int) : ∃ p q, plainL [s, t] = [p, q] := ⟨_, _, rfl⟩
set_option maxRecDepth 100000 in
set_option maxHeartbeats 8000000 in
theorem conicBackS_any (vf vv vz : Value) (xs vs zs : List Int) (w : World) (hx : Rd w vf xs) (hv : Rd w vv vs) (hz : Rd w vz zs) : Calls Try.prog 25 #[vf, vv, vz] w fun e w' => e = .returned (backV xs vs zs) ∧ Below w.heap.size w w' := by
  have HX := hid hx
  have HV := hid hv
  have HZ := hid hz
  obtain ⟨a, cap, rfl, _⟩ := hx.form
  obtain ⟨a', cap', rfl, hfv⟩ := hv.form
  obtain ⟨a3, cap3, rfl, hfz⟩ := hz.form
  have HFV := hid hfv
  have HFZ := hid hfz
  clear hx hv hz hfv hfz
  cases hp : pointB xs vs with
  | false =>
    have HP := hid hp
    have HN := hid (backV_no (xs := xs) (vs := vs) (zs := zs) (by unfold backOk; rw [hp]; rfl))
    clear hp
    go_enter Try.func25, Try.ntmps25
    go_wp2_with (go_at_call 11; refine (conicPointS_any _ _ xs vs _ HX.out HV.out).mono ?_; rw [HP.out]; rintro e w1 ⟨rfl, hb1⟩)
    go_ret3
    exact ⟨retV HN.out.symm, hb1⟩
  | true =>
    have HP := hid hp
    cases hzb : zeroB xs zs with
    | false =>
      have HZB := hid hzb
      have HN := hid (backV_no (xs := xs) (vs := vs) (zs := zs) (by unfold backOk; rw [hzb, Bool.and_false]))
      clear hp hzb
      go_enter Try.func25, Try.ntmps25
      go_wp2_with (first | (go_at_call 11; refine (conicPointS_any _ _ xs vs _ HX.out HV.out).mono ?_; rw [HP.out]; rintro e w1 ⟨rfl, hb1⟩) | (go_at_call 34; refine (zeroIsS_any _ _ xs zs _ (HX.out.keep hb1) (HZ.out.keep hb1)).mono ?_; rw [HZB.out]; rintro e w2 ⟨rfl, k2, rfl⟩))
      go_ret3
      exact ⟨retV HN.out.symm, below_drewN hb1 k2⟩
    | true =>
      have HZB := hid hzb
      have B := back_facts hp hzb
      have HY := hid (backV_yes (xs := xs) (vs := vs) (zs := zs) (by unfold backOk; rw [hp, hzb]; rfl))
      have HBO := hid B
      have hax := axisN_le vs
      have HL : Hid (backL xs vs zs = plainL (if atB vs zs * atA vs vs - atB vs vs * atA vs zs = 0 ∧ atC zs * atA vs vs - atC vs * atA vs zs = 0 then [atC xs * atC vs, -(atB vs xs * atB vs vs)] else [atB vs zs * atA vs vs - atB vs vs * atA vs zs, atC zs * atA vs vs - atC vs * atA vs zs])) := hid rfl
      have HAX := hid (axisN_I vs)
      have HTG := hid B.tg
      have HT1 : Hid (∀ wx : World, Rd wx (.slice a' vs.length cap') vs → Calls Try.prog 53 #[.slice a' vs.length cap', .int .i64 (axisN vs : Nat)] wx fun e w' => ∃ u, e = .returned u ∧ Owns w' wx.heap.size u [atB vs vs, atC vs] ∧ Below wx.heap.size wx w') := hid (fun wx h => by rw [← axisN_I]; exact l6kTwo_any _ vs vs wx h B.lv)
      have HT2 : Hid (∀ wx : World, Rd wx (.slice a3 zs.length cap3) zs → Calls Try.prog 53 #[.slice a3 zs.length cap3, .int .i64 (axisN vs : Nat)] wx fun e w' => ∃ u, e = .returned u ∧ Owns w' wx.heap.size u [atB vs zs, atC zs] ∧ Below wx.heap.size wx w') := hid (fun wx h => by rw [← axisN_I]; exact l6kTwo_any _ vs zs wx h B.lz)
      have HT3 : Hid (∀ wx : World, Rd wx (.slice a xs.length cap) xs → Calls Try.prog 53 #[.slice a xs.length cap, .int .i64 (axisN vs : Nat)] wx fun e w' => ∃ u, e = .returned u ∧ Owns w' wx.heap.size u [atB vs xs, atC xs] ∧ Below wx.heap.size wx w') := hid (fun wx h => by rw [← axisN_I]; exact l6kTwo_any _ vs xs wx h B.lx)
      have hax1 := B.bv _ (atA_mem (vs := vs) B.lv)
      have hp1 := B.bv _ (atB_mem (vs := vs) B.lv)
      have hp2 := B.bv _ (atC_mem B.lv)
      have hza := B.bz _ (atA_mem (vs := vs) B.lz)
      have hz1 := B.bz _ (atB_mem (vs := vs) B.lz)
      have hz2 := B.bz _ (atC_mem B.lz)
      have ht1 := B.bx _ (atB_mem (vs := vs) B.lx)
      have ht2 := B.bx _ (atC_mem B.lx)
      have HCA : Hid (vs.getD (axisN vs) 0 = atA vs vs ∧ zs.getD (axisN vs) 0 = atA vs zs) := hid ⟨(atA_N vs vs).symm, (atA_N vs zs).symm⟩
      obtain ⟨K, hK⟩ : ∃ K, K = axisN vs := ⟨_, rfl⟩
      rw [← hK] at hax HAX HT1 HT2 HT3 HCA
      obtain ⟨X, hX⟩ : ∃ X, X = atA vs vs := ⟨_, rfl⟩
      obtain ⟨p1, hP1⟩ : ∃ X, X = atB vs vs := ⟨_, rfl⟩
      obtain ⟨p2, hP2⟩ : ∃ X, X = atC vs := ⟨_, rfl⟩
      obtain ⟨Z, hZ⟩ : ∃ X, X = atA vs zs := ⟨_, rfl⟩
      obtain ⟨z1, hZ1⟩ : ∃ X, X = atB vs zs := ⟨_, rfl⟩
      obtain ⟨z2, hZ2⟩ : ∃ X, X = atC zs := ⟨_, rfl⟩
      obtain ⟨t1, hT1⟩ : ∃ X, X = atB vs xs := ⟨_, rfl⟩
      obtain ⟨t2, hT2⟩ : ∃ X, X = atC xs := ⟨_, rfl⟩
      simp only [← hX, ← hP1, ← hP2, ← hZ, ← hZ1, ← hZ2, ← hT1, ← hT2] at HL HTG HT1 HT2 HT3 hax1 hp1 hp2 hza hz1 hz2 ht1 ht2 HCA
      have HLV := hid B.lv
      have HLZ := hid B.lz
      have HA1 : Hid (∀ wx : World, Rd wx (.slice a' vs.length cap') vs → Calls Try.prog 50 #[.slice a' vs.length cap'] wx fun e w' => e = .returned (.int .i64 (K : Nat)) ∧ wx = w') := hid (fun wx h => by rw [← HAX.out]; exact l6kAxis_any _ vs wx h B.lv B.ax)
      clear hp hzb B hK hX hP1 hP2 hZ hZ1 hZ2 hT1 hT2
      have m1 := prod_bd2 (x := z1) (y := X) (m := 1000000) (n := 1000) (by omega) (by omega)
      have m2 := prod_bd2 (x := p1) (y := Z) (m := 1000) (n := 1000000) (by omega) (by omega)
      have m3 := prod_bd2 (x := z2) (y := X) (m := 1000000) (n := 1000) (by omega) (by omega)
      have m4 := prod_bd2 (x := p2) (y := Z) (m := 1000) (n := 1000000) (by omega) (by omega)
      have m5 := prod_bd2 (x := t2) (y := p2) (m := 30) (n := 1000) (by omega) (by omega)
      have m6 := prod_bd2 (x := t1) (y := p1) (m := 30) (n := 1000) (by omega) (by omega)
      have f1 := wrapW (x := z1 * X) (by omega) (by omega)
      have f2 := wrapW (x := p1 * Z) (by omega) (by omega)
      have f3 := wrapW (x := z2 * X) (by omega) (by omega)
      have f4 := wrapW (x := p2 * Z) (by omega) (by omega)
      have f5 := wrapW (x := t2 * p2) (by omega) (by omega)
      have f6 := wrapW (x := t1 * p1) (by omega) (by omega)
      have f7 := wrapW (x := -(t1 * p1)) (by omega) (by omega)
      have f8 := wrapW (x := z1 * X - p1 * Z) (by omega) (by omega)
      have f9 := wrapW (x := z2 * X - p2 * Z) (by omega) (by omega)
      have HBS : Hid ((-100000000000 ≤ z1 * X - p1 * Z ∧ z1 * X - p1 * Z ≤ 100000000000) ∧ (-100000000000 ≤ z2 * X - p2 * Z ∧ z2 * X - p2 * Z ≤ 100000000000)) := hid (by omega)
      have HBT : Hid ((-100000000000 ≤ t2 * p2 ∧ t2 * p2 ≤ 100000000000) ∧ (-100000000000 ≤ -(t1 * p1) ∧ -(t1 * p1) ≤ 100000000000)) := hid (by omega)
      clear m1 m2 m3 m4 m5 m6 hax1 hp1 hp2 hza hz1 hz2 ht1 ht2
      go_enter Try.func25, Try.ntmps25
      go_wp2_with (first | (go_at_call 11; refine (conicPointS_any _ _ xs vs _ HX.out HV.out).mono ?_; rw [HP.out]; rintro e w1 ⟨rfl, hb1⟩) | (go_at_call 34; refine (zeroIsS_any _ _ xs zs _ (HX.out.keep hb1) (HZ.out.keep hb1)).mono ?_; rw [HZB.out]; rintro e w2 ⟨rfl, k2, hw2⟩; have HB2 : Hid (Below w.heap.size w w2) := hid (by rw [hw2]; exact below_drewN hb1 k2); clear hw2) | (go_at_call 50; refine (HA1.out _ (HV.out.keep HB2.out)).mono ?_; rintro e w' ⟨rfl, rfl⟩))
      refine (HT1.out _ (HV.out.keep HB2.out)).mono ?_
      rintro e w3 ⟨ua, rfl, ho3, hb3⟩
      have HB3 := hid (HB2.out.trans (hb3.mono HB2.out.size))
      have HO3 := hid ho3
      clear hb3 hb1 ho3
      go_wp2_with fail
      refine (HT2.out _ (HZ.out.keep HB3.out)).mono ?_
      rintro e w4 ⟨ub, rfl, ho4, hb4⟩
      have HB4 := hid (HB3.out.trans (hb4.mono HB3.out.size))
      have HO4 := hid ho4
      have HO34 := hid (HO3.out.keep HO3.out.lt hb4)
      clear hb4 ho4
      obtain ⟨ga, ca, rfl, _, _⟩ := HO34.out.block_of (by simp)
      obtain ⟨gb, cb, rfl, _, _⟩ := HO4.out.block_of (by simp)
      have hs4 := HB4.out.size
      obtain ⟨av, ccv, ev, hfv⟩ := (HV.out.keep HB4.out).form
      cases ev
      obtain ⟨bv, ov, rfl, _, hcv⟩ := hfv (by have := HLV.out; omega)
      obtain ⟨az, ccz, ez, hfz⟩ := (HZ.out.keep HB4.out).form
      cases ez
      obtain ⟨bz, oz, rfl, _, hcz⟩ := hfz (by have := HLZ.out; omega)
      have c1 := hcv K (by have := HLV.out; omega)
      have c2 := hcz K (by have := HLZ.out; omega)
      rw [HCA.out.1] at c1
      rw [HCA.out.2] at c2
      have q0 : w4.cell? ⟨ga, 0, none⟩ = some (.int .i64 p1) := HO34.out.elem (i := 0) (by simp)
      have q1 : w4.cell? ⟨ga, 1, none⟩ = some (.int .i64 p2) := HO34.out.elem (i := 1) (by simp)
      have r0 : w4.cell? ⟨gb, 0, none⟩ = some (.int .i64 z1) := HO4.out.elem (i := 0) (by simp)
      have r1 : w4.cell? ⟨gb, 1, none⟩ = some (.int .i64 z2) := HO4.out.elem (i := 1) (by simp)
      have hK3 : (K : Int) < (vs.length : Int) := by have := HLV.out; omega
      have hK4 : (K : Int) < (zs.length : Int) := by have := HLZ.out; omega
      have HBD : Hid (Below w.heap.size w w4.drew) := hid (below_dw HB4.out)
      have HOD : Hid (Owns w4.drew w2.heap.size (.slice (some ⟨ga, 0, none⟩) 2 ca) [p1, p2]) := hid (HO34.out.drewN 1)
      clear hcv hcz hfv hfz
      go_wp2_with fail
      go_still_tail 34, (by kernel_rfl)
      change wpList _ _ _ _ _ w4.drew
      generalize w4.drew = wd at HBD HOD ⊢
      clear c1 c2 q0 q1 r0 r1 hK3 hK4 f1 f2 f3 f4 f8 f9
      obtain ⟨s, hs⟩ : ∃ s, s = z1 * X - p1 * Z := ⟨_, rfl⟩
      obtain ⟨t, ht⟩ : ∃ t, t = z2 * X - p2 * Z := ⟨_, rfl⟩
      rw [← hs, ← ht] at HL HBS ⊢
      clear hs ht
      by_cases hst : s = 0 ∧ t = 0
      · have hl2 := HL.out
        rw [if_pos hst] at hl2
        obtain ⟨s0, t0⟩ := hst
        subst s0
        subst t0
        have HPL := hid (fun W => plainTwo_any (t2 * p2) (-(t1 * p1)) HBT.out.1 HBT.out.2 HTG.out W)
        obtain ⟨x, y, hxy⟩ := plain_two (t2 * p2) (-(t1 * p1))
        rw [hxy] at hl2 HPL
        have HR : Hid (backV xs vs zs = .tuple #[.int .i64 x, .int .i64 y, .bool true]) := hid (by rw [HY.out, hl2]; rfl)
        have HBX := hid (HBD.out.alloc HBD.out.size (.cells #[.int .i64 0, .int .i64 0] 3))
        have HX5 := hid (HX.out.keep HBX.out)
        have HO5 : Hid (Owns (wd.alloc (.cells #[.int .i64 0, .int .i64 0] 3)) w2.heap.size (.slice (some ⟨ga, 0, none⟩) 2 ca) [p1, p2]) := hid (HOD.out.alloc (.cells #[.int .i64 0, .int .i64 0] 3))
        clear hl2 hxy HL HTG
        go_wp2_with fail
        refine (HT3.out _ HX5.out).mono ?_
        rintro e w5 ⟨uc, rfl, ho5, hb5⟩
        have HB5 := hid (HBX.out.trans (hb5.mono HBX.out.size))
        have HOT := hid ho5
        have HO6 := hid (HO5.out.keep HO5.out.lt hb5)
        clear hb5 ho5
        obtain ⟨gc, cc, rfl, _, _⟩ := HOT.out.block_of (by simp)
        have q0 : w5.cell? ⟨ga, 0, none⟩ = some (.int .i64 p1) := HO6.out.elem (i := 0) (by simp)
        have q1 : w5.cell? ⟨ga, 1, none⟩ = some (.int .i64 p2) := HO6.out.elem (i := 1) (by simp)
        have r0 : w5.cell? ⟨gc, 0, none⟩ = some (.int .i64 t1) := HOT.out.elem (i := 0) (by simp)
        have r1 : w5.cell? ⟨gc, 1, none⟩ = some (.int .i64 t2) := HOT.out.elem (i := 1) (by simp)
        have HBD6 : Hid (Below w.heap.size w w5.drew) := hid (below_dw HB5.out)
        go_wp2_with fail
        go_still_tail 15, (by kernel_rfl)
        change wpList _ _ _ _ _ w5.drew
        generalize w5.drew = wd6 at HBD6 ⊢
        have hsd := HBD6.out.size
        go_wp2_with fail
        refine (HPL.out _).mono ?_
        rintro e w7 ⟨u, rfl, ho7, hb7⟩
        have HB7 := hid (HBD6.out.trans (hb7.mono hsd))
        obtain ⟨gu, cu, rfl, _, _⟩ := ho7.block_of (by simp)
        have x0 : w7.cell? ⟨gu, 0, none⟩ = some (.int .i64 x) := ho7.elem (i := 0) (by simp)
        have x1 : w7.cell? ⟨gu, 1, none⟩ = some (.int .i64 y) := ho7.elem (i := 1) (by simp)
        clear ho7 hb7
        go_wp2_with fail
        go_quiet (fail)
        go_wp2_with fail
        go_ret3
        exact ⟨retV HR.out.symm, below_drewN HB7.out _⟩
      · have hl2 := HL.out
        rw [if_neg hst] at hl2
        have HPL := hid (fun W => plainTwo_any s t HBS.out.1 HBS.out.2 (two_some hst) W)
        obtain ⟨x, y, hxy⟩ := plain_two s t
        rw [hxy] at hl2 HPL
        have HR : Hid (backV xs vs zs = .tuple #[.int .i64 x, .int .i64 y, .bool true]) := hid (by rw [HY.out, hl2]; rfl)
        have hsd := HBD.out.size
        have hcase : (s == 0) = false ∨ ((s == 0) = true ∧ (t == 0) = false) := by
          by_cases s0 : s = 0
          · exact .inr ⟨beq_iff_eq.2 s0, beq_eq_false_iff_ne.2 fun e => hst ⟨s0, e⟩⟩
          · exact .inl (beq_eq_false_iff_ne.2 s0)
        clear hl2 hxy HL HTG hst
        rcases hcase with T1 | ⟨T1, T2⟩
        all_goals
          go_wp2_with fail
          refine (HPL.out _).mono ?_
          rintro e w7 ⟨u, rfl, ho7, hb7⟩
          have HB7 := hid (HBD.out.trans (hb7.mono hsd))
          obtain ⟨gu, cu, rfl, _, _⟩ := ho7.block_of (by simp)
          have x0 : w7.cell? ⟨gu, 0, none⟩ = some (.int .i64 x) := ho7.elem (i := 0) (by simp)
          have x1 : w7.cell? ⟨gu, 1, none⟩ = some (.int .i64 y) := ho7.elem (i := 1) (by simp)
          clear ho7 hb7
          go_wp2_with fail
          go_quiet (fail)
          go_wp2_with fail
          go_ret3
          exact ⟨retV HR.out.symm, below_drewN HB7.out _⟩

end Go.Proofs.Ytfjbdbfeolfcfaa
