/-
  Some texts in one file: Vec Imp4D Zp1.
-/
import Derived.Test.YtfjbdbfeolfcfaaQBun8
import Derived.Test.YtfjbdbfeolfcfaaQBun11
import Derived.Test.YtfjbdbfeolfcfaaQBun26
import Derived.Test.YtfjbdbfeolfcfaaQZm1
/-! Vec -/
set_option linter.unusedVariables false
namespace Go.Proofs.Ytfjbdbfeolfcfaa
open Go.RowKit

set_option maxRecDepth 100000 in
set_option maxHeartbeats 1000000 in
theorem vectorWithin_any (v : Value) (xs : List Int) (count m : Int) (hm1 : 0 ≤ m) (hm2 : m ≤ 1000000) (w : World) (h : Rd w v xs) : Calls Try.prog 60 #[v, .int .i64 count, .int .i64 m] w fun e w' => e = .returned (.bool (inAll xs m && decide ((xs.length : Int) = count))) ∧ w = w' := by
  obtain ⟨a, cap, rfl, hform⟩ := h.form
  have HFM := hid hform
  have hmx : xs.length ≤ maxLen := by
    rcases Nat.eq_zero_or_pos xs.length with e | e
    · rw [e]; exact Nat.zero_le _
    · obtain ⟨_, _, _, hm, _⟩ := hform e; exact hm
  unfold maxLen at hmx
  clear hform h
  go_enter Try.func60, Try.ntmps60
  go_wp2_with fail
  go_loop [11] (fun si => ∃ K : Nat, si = .int .i64 K ∧ K ≤ xs.length ∧ Hid (∀ i, i < K → inR (xs.getD i 0) (-m) m = true)) (fun si => xs.length - (intOf si).toNat)
  case atStart => exact ⟨0, rfl, by omega, hid (fun i hi => by omega)⟩
  case round =>
    obtain ⟨K, rfl, hK, HE⟩ := hrel
    by_cases hlt : K < xs.length
    · obtain ⟨b, o, rfl, hml, hc⟩ := HFM.out (by omega)
      have hcell := hc K hlt
      obtain ⟨x, hx⟩ : ∃ x, x = xs.getD K 0 := ⟨_, rfl⟩
      rw [← hx] at hcell
      have HXE := hid hx
      have HLT := hid hlt
      have hKi : (K : Int) < (xs.length : Int) := by omega
      have HNO : Hid (inR x (-m) m = false → inAll xs m = false) := hid (fun e => by
        unfold inAll
        rw [List.all_eq_false]
        exact ⟨x, by rw [hx, getD_at _ _ hlt]; exact List.getElem_mem _, by rw [e]; decide⟩)
      have HIR : Hid (inR x (-m) m = true ↔ -m ≤ x ∧ x ≤ m) := hid (by unfold inR; rw [Bool.and_eq_true, decide_eq_true_eq, decide_eq_true_eq])
      clear hx hc hml hlt
      by_cases x1 : x < -m
      · have HR := hid (HNO.out (by
          cases e : inR x (-m) m with
          | false => rfl
          | true => have := HIR.out.1 e; omega))
        go_wp2_with fail
        go_ret
        exact ⟨retB (by rw [HR.out]; rfl), rfl⟩
      · by_cases x2 : x > m
        · have HR := hid (HNO.out (by
            cases e : inR x (-m) m with
            | false => rfl
            | true => have := HIR.out.1 e; omega))
          go_wp2_with fail
          go_ret
          exact ⟨retB (by rw [HR.out]; rfl), rfl⟩
        · have HIN : Hid (inR x (-m) m = true) := hid (HIR.out.2 ⟨by omega, by omega⟩)
          go_wp2_with fail
          go_round
          case measure => simp only [intOf]; have := HLT.out; omega
          case rel => exact ⟨K + 1, by go_num, by have := HLT.out; omega, hid (fun i hi => by
            by_cases e : i = K
            · rw [e, ← HXE.out]; exact HIN.out
            · exact HE.out i (by omega))⟩
    · obtain rfl : K = xs.length := by omega
      have HR : Hid (inAll xs m = true) := hid (List.all_eq_true.2 fun x hx => by
          obtain ⟨i, hi, rfl⟩ := List.getElem_of_mem hx
          have := HE.out i hi
          rwa [getD_at _ _ hi] at this)
      clear hlt
      by_cases hc : (xs.length : Int) = count
      · have T : ((xs.length : Int) == count) = true := by rw [beq_iff_eq]; exact hc
        have HD := hid (decide_eq_true hc)
        clear hc
        go_wp2_with fail
        go_ret
        exact ⟨retB (by rw [HR.out, HD.out]; rfl), rfl⟩
      · have T : ((xs.length : Int) == count) = false := by rw [beq_eq_false_iff_ne]; exact hc
        have HD := hid (decide_eq_false hc)
        clear hc
        go_wp2_with fail
        go_ret
        exact ⟨retB (by rw [HR.out, HD.out]; rfl), rfl⟩

set_option maxRecDepth 100000 in
set_option maxHeartbeats 1000000 in
theorem pairAt_any (vf vv vw : Value) (xs vs ws : List Int) (w : World) (hx : Rd w vf xs) (hv : Rd w vv vs) (hw : Rd w vw ws) (hf : fvB xs = true) (bv : Vec6 vs) (bw : Vec6 ws) (hl : vs.length = xs.length) (hl2 : ws.length = xs.length) :
    Calls Try.prog 66 #[vf, vv, vw] w fun e w' => e = .returned (.int .i64 (pairI xs vs ws xs.length)) ∧ ∃ k, w' = w.drewN k := by
  obtain ⟨a, cap, rfl, hform⟩ := hx.form
  obtain ⟨a', cap', rfl, hform'⟩ := hv.form
  obtain ⟨a3, cap3, rfl, hform3⟩ := hw.form
  have HFM := hid hform
  have HFV := hid hform'
  have HFW := hid hform3
  have HF := hid hf
  have HVB := hid bv
  have HWB := hid bw
  have HL := hid hl
  have HL2 := hid hl2
  have hl4 := (fvB_iff.1 hf).2.2
  clear hform hform' hform3 hx hv hw hf bv bw hl hl2
  go_enter Try.func66, Try.ntmps66
  go_wp2_with fail
  go_loopw [7, 12] (fun so si wr => ∃ K k : Nat, si = .int .i64 K ∧ K ≤ xs.length ∧ so = .int .i64 (pairI xs vs ws K) ∧ wr = w.drewN k) (fun _ si _ => xs.length - (intOf si).toNat)
  case atStart => exact ⟨0, 0, rfl, by omega, rfl, rfl⟩
  case round =>
    obtain ⟨K, k, rfl, hK, rfl, rfl⟩ := hrel
    by_cases hlt : K < xs.length
    · obtain ⟨b, o, rfl, hml, hc⟩ := HFM.out (by omega)
      obtain ⟨b', o', rfl, hml', hc'⟩ := HFV.out (by have := HL.out; omega)
      obtain ⟨b3, o3, rfl, hml3, hc3⟩ := HFW.out (by have := HL2.out; omega)
      have hcell := hc K hlt
      have hcell' := hc' K (by have := HL.out; omega)
      have hcell3 := hc3 K (by have := HL2.out; omega)
      have ht := fv_at HF.out hlt
      have hv1 := HVB.out (vs.getD K 0) (by rw [getD_at _ _ (by have := HL.out; omega)]; exact List.getElem_mem _)
      have hw1 := HWB.out (ws.getD K 0) (by rw [getD_at _ _ (by have := HL2.out; omega)]; exact List.getElem_mem _)
      have hbd := term_bd7 ht.2.1 ht.2.2 hv1.1 hv1.2 hw1.1 hw1.2
      have hvb := pair_bd HF.out HVB.out HWB.out HL.out HL2.out K (by omega)
      have hst : pairI xs vs ws (K + 1) = pairI xs vs ws K + xs.getD K 0 * vs.getD K 0 * ws.getD K 0 := rfl
      obtain ⟨x, hx⟩ : ∃ x, x = xs.getD K 0 := ⟨_, rfl⟩
      obtain ⟨y, hy⟩ : ∃ y, y = vs.getD K 0 := ⟨_, rfl⟩
      obtain ⟨z, hz⟩ : ∃ z, z = ws.getD K 0 := ⟨_, rfl⟩
      obtain ⟨s, hs⟩ : ∃ s, s = pairI xs vs ws K := ⟨_, rfl⟩
      rw [← hx] at hcell hst hbd
      rw [← hy] at hcell' hst hbd
      rw [← hz] at hcell3 hst hbd
      rw [← hs] at hst hvb ⊢
      have hKi : (K : Int) < (xs.length : Int) := by omega
      have hKj : (K : Int) < (vs.length : Int) := by have := HL.out; omega
      have hKl : (K : Int) < (ws.length : Int) := by have := HL2.out; omega
      have HLT := hid hlt
      have HST := hid hst
      have b1 := hbd.1
      have b2 := hbd.2.1
      have b3' := hbd.2.2.1
      have b4 := hbd.2.2.2
      have s1 := hvb.1
      have s2 := hvb.2
      clear hx hy hz hs hc hc' hc3 hml hml' hml3 hlt hbd hvb hst ht hv1 hw1
      go_wp2_with fail
      go_quiet (fail)
      go_wp2_with fail
      go_roundw
      case measure => simp only [intOf]; have := HLT.out; omega
      case rel => exact ⟨K + 1, _, by go_num, by have := HLT.out; omega, vI HST.out.symm, by first | rfl | exact World.drewN_drewN ..⟩
    · obtain rfl : K = xs.length := by omega
      clear hlt
      go_wp2_with fail
      go_ret
      exact ⟨rfl, k, rfl⟩

end Go.Proofs.Ytfjbdbfeolfcfaa

/-! Imp4D -/
set_option linter.unusedVariables false
namespace Go.Proofs.Ytfjbdbfeolfcfaa
open Go.RowKit







end Go.Proofs.Ytfjbdbfeolfcfaa

/-! Zp1 -/
set_option linter.unusedVariables false
namespace Go.Proofs.Ytfjbdbfeolfcfaa
open Go.RowKit

theorem below_dr {n : Nat} (w : World) (k : Nat) : Below n w (w.drewN k) := ⟨rfl, rfl, rfl, Nat.le_refl _, fun _ _ => rfl⟩
/-- the first that is not 0 -/
def firstL (vs : List Int) : Int := vs.foldl (fun f v => if f = 0 then v else f) 0
theorem first_snoc (vs : List Int) (v : Int) : firstL (vs ++ [v]) = if firstL vs = 0 then v else firstL vs := by unfold firstL; rw [List.foldl_append]; rfl
theorem first_go : ∀ (vs : List Int) (f : Int), f ≠ 0 → vs.foldl (fun f v => if f = 0 then v else f) f = f
  | [], _, _ => rfl
  | v :: vs, f, h => by rw [List.foldl_cons, if_neg h]; exact first_go vs f h
theorem first_sign : ∀ vs : List Int, signL vs = if firstL vs < 0 then -1 else 1
  | [] => rfl
  | v :: vs => by
    unfold signL
    by_cases h : v = 0
    · rw [if_pos h, first_sign vs]
      have : firstL (v :: vs) = firstL vs := by unfold firstL; rw [List.foldl_cons, if_pos rfl, h]
      rw [this]
    · have : firstL (v :: vs) = v := by unfold firstL; rw [List.foldl_cons, if_pos rfl, first_go vs v h]
      rw [if_neg h, this]
theorem first_abs {m : Nat} : ∀ (vs : List Int) (f : Int), f.natAbs ≤ m → (∀ v ∈ vs, v.natAbs ≤ m) → (vs.foldl (fun f v => if f = 0 then v else f) f).natAbs ≤ m
  | [], _, h, _ => h
  | v :: vs, f, h, hv => by
    rw [List.foldl_cons]
    refine first_abs vs _ ?_ fun x hx => hv x (List.mem_cons_of_mem _ hx)
    split
    · exact hv v (List.mem_cons_self ..)
    · exact h
theorem tdiv_sign {s x : Int} {g : Int} (hs : s = 1 ∨ s = -1) : (s * x).tdiv g = x.tdiv (s * g) := by
  rcases hs with rfl | rfl
  · rw [Int.one_mul, Int.one_mul]
  · rw [show (-1 : Int) * x = -x by omega, show (-1 : Int) * g = -g by omega, Int.neg_tdiv, Int.tdiv_neg]

set_option maxRecDepth 100000 in
set_option maxHeartbeats 1000000 in
theorem heightOfW_any (v : Value) (vs : List Int) (w : World) (hv : Rd w v vs) (hl : vs.length ≤ 4) (h6 : Vec11 vs) : Calls Try.prog 65 #[v] w fun e w' => e = .returned (.int .i64 (hgtL vs : Nat)) ∧ w = w' := by
  obtain ⟨a', cap', rfl, hform⟩ := hv.form
  have HFM := hid hform
  have H6 := hid h6
  clear hv hform h6
  go_enter Try.func65, Try.ntmps65
  go_wp2_with fail
  go_loop [3, 8] (fun sm si => ∃ K m : Nat, si = .int .i64 K ∧ K ≤ vs.length ∧ sm = .int .i64 m ∧ m ≤ 100000000000 ∧ Hid (m = hgtL (vs.take K))) (fun _ si => vs.length - (intOf si).toNat)
  case atStart => exact ⟨0, 0, rfl, by omega, rfl, by omega, hid rfl⟩
  case round =>
    obtain ⟨K, m, rfl, hK, rfl, hm, HM⟩ := hrel
    by_cases hlt : K < vs.length
    · obtain ⟨b, o, rfl, hml, hc⟩ := HFM.out (by omega)
      have hcell := hc K hlt
      have hx6 := H6.out (vs.getD K 0) (by rw [getD_at _ _ hlt]; exact List.getElem_mem _)
      have HN : Hid (hgtL (vs.take (K + 1)) = max m (vs.getD K 0).natAbs) := hid (by rw [takeD_snoc hlt, hgt_snoc, ← HM.out])
      obtain ⟨x, hx⟩ : ∃ x, x = vs.getD K 0 := ⟨_, rfl⟩
      rw [← hx] at hcell hx6 HN
      have x1 := hx6.1
      have x2 := hx6.2
      have hKi : (K : Int) < (vs.length : Int) := by omega
      have HLT := hid hlt
      clear hx hc hml hlt hx6
      go_wp2_with (go_at_call 72; refine (size_any _ (by omega) (by omega) _).mono ?_; rintro e w' ⟨rfl, rfl⟩)
      go_round
      case measure => simp only [intOf]; have := HLT.out; omega
      case rel => exact ⟨K + 1, max m x.natAbs, by go_num, by have := HLT.out; omega, vI (by omega), by omega, hid HN.out.symm⟩
    · obtain rfl : K = vs.length := by omega
      have HE : Hid ((m : Int) = (hgtL vs : Nat)) := hid (by rw [HM.out, List.take_length])
      clear hlt
      go_wp2_with fail
      go_ret
      exact ⟨retI HE.out, rfl⟩
theorem heightOf_any (v : Value) (vs : List Int) (w : World) (hv : Rd w v vs) (hl : vs.length ≤ 4) (h6 : Vec6 vs) : Calls Try.prog 65 #[v] w fun e w' => e = .returned (.int .i64 (hgtL vs : Nat)) ∧ w = w' := heightOfW_any v vs w hv hl (vec11 h6)

theorem hgt_some {vs : List Int} : (0 < hgtL vs) ↔ someB vs = true := by
  rw [someB_iff]
  obtain ⟨_, h2, h3⟩ := hgt_fold vs 0
  constructor
  · intro h
    rcases h3 with e | ⟨v, hv, e⟩
    · have : hgtL vs = 0 := e
      omega
    · have : v.natAbs = hgtL vs := e
      exact ⟨v, hv, by omega⟩
  · rintro ⟨v, hv, h0⟩
    have : v.natAbs ≤ hgtL vs := h2 v hv
    omega
theorem in_cases {xs vs : List Int} {m : Int} (h : fvB xs = true) : vecB xs vs m = (inAll vs m && decide ((vs.length : Int) = (xs.length : Int))) := by
  rw [vecB_in, h, Bool.true_and]
  congr 1
  rw [Bool.eq_iff_iff, beq_iff_eq, decide_eq_true_eq]
  omega
set_option maxRecDepth 100000 in
set_option maxHeartbeats 1000000 in
theorem zeroIs_any (vf vv : Value) (xs vs : List Int) (w : World) (hx : Rd w vf xs) (hv : Rd w vv vs) : Calls Try.prog 37 #[vf, vv] w fun e w' => e = .returned (.bool (zeroB xs vs)) ∧ Below w.heap.size w w' := by
  have HX := hid hx
  have HV := hid hv
  obtain ⟨a, cap, rfl, _⟩ := hx.form
  obtain ⟨a', cap', rfl, _⟩ := hv.form
  clear hx hv
  cases hf : fvB xs with
  | false =>
    have HF := hid hf
    have HR : Hid (zeroB xs vs = false) := hid (by unfold zeroB; rw [vecB_in, hf, Bool.false_and, Bool.and_false]; rfl)
    clear hf
    go_enter Try.func37, Try.ntmps37
    go_wp2_with fail
    refine (formValidP_any _ xs _ HX.out).mono ?_
    rw [HF.out]
    rintro e w' ⟨rfl, rfl⟩
    go_wp2_with fail
    go_ret
    exact ⟨retB HR.out.symm, Below.refl _ _⟩
  | true =>
    have hic := in_cases (vs := vs) (m := 1000000) hf
    have HF := hid hf
    have hl4 := (fvB_iff.1 hf).2.2
    cases hb : vecB xs vs 1000000 with
    | false =>
      have HR : Hid (zeroB xs vs = false) := hid (by unfold zeroB; rw [hb]; rfl)
      rw [hb] at hic
      have HB := hid hic.symm
      clear hf hb hic
      go_enter Try.func37, Try.ntmps37
      go_wp2_with fail
      refine (formValidP_any _ xs _ HX.out).mono ?_
      rw [HF.out]
      rintro e w' ⟨rfl, rfl⟩
      go_wp2_with (go_at_call 60; refine (vectorWithin_any _ vs _ _ (by omega) (by omega) _ HV.out).mono ?_; rw [HB.out]; rintro e w' ⟨rfl, rfl⟩)
      go_ret
      exact ⟨retB HR.out.symm, Below.refl _ _⟩
    | true =>
      have H6 := hid (vec6_vecB hb (by omega))
      have hi := vecB_iff.1 hb
      have HL := hid hi.2.2
      have hv4 : vs.length ≤ 4 := by rw [hi.2.2]; exact hl4
      rw [hb] at hic
      have HB := hid hic.symm
      have hgb : hgtL vs ≤ 1000000 := (hgt_fold vs 0).2.2.elim (fun e => by have : hgtL vs = 0 := e; omega) (fun ⟨v, hv, e⟩ => by have h1 : v.natAbs = hgtL vs := e; have := H6.out v hv; omega)
      cases hs : someB vs with
      | false =>
        have HR : Hid (zeroB xs vs = false) := hid (by unfold zeroB; rw [hb, hs]; rfl)
        have hg0 : ¬ (0 < hgtL vs) := fun h => by rw [hgt_some, hs] at h; cases h
        have hg : hgtL vs = 0 := by omega
        have HG := hid hg
        clear hf hb hic hi hs hg hg0
        go_enter Try.func37, Try.ntmps37
        go_wp2_with fail
        refine (formValidP_any _ xs _ HX.out).mono ?_
        rw [HF.out]
        rintro e w' ⟨rfl, rfl⟩
        go_wp2_with (first | (go_at_call 60; refine (vectorWithin_any _ vs _ _ (by omega) (by omega) _ HV.out).mono ?_; rw [HB.out]; rintro e w' ⟨rfl, rfl⟩) | (go_at_call 65; refine (heightOf_any _ vs _ HV.out hv4 H6.out).mono ?_; rw [HG.out]; rintro e w' ⟨rfl, rfl⟩))
        go_ret
        exact ⟨retB HR.out.symm, Below.refl _ _⟩
      | true =>
        have HR : Hid (zeroB xs vs = decide (pairI xs vs vs xs.length = 0)) := hid (by unfold zeroB; rw [hb, hs, pair_self]; rfl)
        have hg0 : 0 < hgtL vs := hgt_some.2 hs
        obtain ⟨g, hg⟩ : ∃ g, g = hgtL vs := ⟨_, rfl⟩
        rw [← hg] at hg0 hgb
        have HG := hid hg.symm
        have hg1 : (0 : Int) < (g : Int) := by omega
        clear hf hb hic hi hs hg hg0
        go_enter Try.func37, Try.ntmps37
        go_wp2_with fail
        refine (formValidP_any _ xs _ HX.out).mono ?_
        rw [HF.out]
        rintro e w' ⟨rfl, rfl⟩
        go_wp2_with (first | (go_at_call 60; refine (vectorWithin_any _ vs _ _ (by omega) (by omega) _ HV.out).mono ?_; rw [HB.out]; rintro e w' ⟨rfl, rfl⟩) | (go_at_call 65; refine (heightOf_any _ vs _ HV.out hv4 H6.out).mono ?_; rw [HG.out]; rintro e w' ⟨rfl, rfl⟩) | (go_at_call 66; refine (pairAt_any _ _ _ xs vs vs _ HX.out HV.out HV.out HF.out H6.out H6.out HL.out HL.out).mono ?_; rintro e w' ⟨rfl, k, rfl⟩))
        go_ret
        exact ⟨retB (by rw [HR.out]; rfl), below_dr _ _⟩



set_option maxRecDepth 100000 in
set_option maxHeartbeats 4000000 in
theorem plainOfW_any (v : Value) (xs : List Int) (w : World) (h : Rd w v xs) (hl : xs.length ≤ 4) (h6 : Vec11 xs) (hs : ∃ x ∈ xs, x ≠ 0) : Calls Try.prog 41 #[v] w fun e w' => ∃ u, e = .returned u ∧ Owns w' w.heap.size u (plainL xs) ∧ Below w.heap.size w w' := by
  obtain ⟨i0, hi, hz0, hz1, hz2⟩ := info_parts infoInt
  have HH := hid h
  obtain ⟨ad, cap, rfl, hform⟩ := h.form
  have HFM := hid hform
  have H6 := hid h6
  have HSM := hid hs
  have htk : ∀ K, K ≤ xs.length → gcdL (xs.take K) ≤ 100000000000 := fun K _ => gcdL_leM fun x hx => by
    have := h6 x (List.mem_of_mem_take hx)
    omega
  have hft : ∀ K, K ≤ xs.length → (firstL (xs.take K)).natAbs ≤ 100000000000 := fun K _ => first_abs _ _ (by simp) fun x hx => by
    have := h6 x (List.mem_of_mem_take hx)
    omega
  have HTK := hid htk
  have HFT := hid hft
  clear h h6 hs htk hform hft
  go_enter Try.func41, Try.ntmps41
  go_wp2_with fail
  go_loopw [3, 4, 12] (fun sg ss si wr => ∃ (K g k : Nat) (s : Int), si = .int .i64 K ∧ K ≤ xs.length ∧ sg = .int .i64 g ∧ g ≤ 100000000000 ∧ ss = .int .i64 s ∧ -100000000000 ≤ s ∧ s ≤ 100000000000 ∧ Hid (g = gcdL (xs.take K)) ∧ Hid (s = firstL (xs.take K)) ∧ wr = w.drewN k) (fun _ _ si _ => xs.length - (intOf si).toNat)
  case atStart => exact ⟨0, 0, 0, 0, rfl, by omega, rfl, by omega, rfl, by omega, by omega, hid rfl, hid rfl, rfl⟩
  case round =>
    obtain ⟨K, g, k, s, rfl, hK, rfl, hg, rfl, s1, s2, HG, HS, rfl⟩ := hrel
    by_cases hlt : K < xs.length
    · obtain ⟨b, o, rfl, hml, hc⟩ := HFM.out (by omega)
      have hcell := hc K hlt
      have hx6 := H6.out (xs.getD K 0) (by rw [getD_at _ _ hlt]; exact List.getElem_mem _)
      have hg2 := HTK.out (K + 1) hlt
      obtain ⟨x, hx⟩ : ∃ x, x = xs.getD K 0 := ⟨_, rfl⟩
      have hG : gcdL (xs.take (K + 1)) = Nat.gcd g x.natAbs := by rw [takeD_snoc hlt, gcdL_snoc, ← HG.out, ← hx]
      have hS : firstL (xs.take (K + 1)) = if s = 0 then x else s := by rw [takeD_snoc hlt, first_snoc, ← HS.out, ← hx]
      rw [← hx] at hcell hx6
      have x1 := hx6.1
      have x2 := hx6.2
      rw [hG] at hg2
      have HGN := hid hG
      have HLT := hid hlt
      have hKi : (K : Int) < (xs.length : Int) := by omega
      have eg : ((g : Int).natAbs) = g := Int.natAbs_natCast g
      clear hx hc hml hlt hx6 hG
      by_cases s0 : s = 0
      · have T : (s == 0) = true := by rw [beq_iff_eq]; exact s0
        rw [if_pos s0] at hS
        have HS2 := hid hS
        clear hS s0
        go_wp2_with (go_at_call 52; refine (common_any _ _ (by omega) (by omega) (by omega) (by omega) _).mono ?_; rw [eg]; rintro e w' ⟨rfl, k2, rfl⟩)
        go_roundw
        case measure => simp only [intOf]; have := HLT.out; omega
        case rel => exact ⟨K + 1, _, _, x, by go_num, by have := HLT.out; omega, rfl, hg2, rfl, x1, x2, hid HGN.out.symm, hid HS2.out.symm, by first | rfl | exact World.drewN_drewN ..⟩
      · have T : (s == 0) = false := by rw [beq_eq_false_iff_ne]; exact s0
        rw [if_neg s0] at hS
        have HS2 := hid hS
        clear hS s0
        go_wp2_with (go_at_call 52; refine (common_any _ _ (by omega) (by omega) (by omega) (by omega) _).mono ?_; rw [eg]; rintro e w' ⟨rfl, k2, rfl⟩)
        go_roundw
        case measure => simp only [intOf]; have := HLT.out; omega
        case rel => exact ⟨K + 1, _, _, s, by go_num, by have := HLT.out; omega, rfl, hg2, rfl, s1, s2, hid HGN.out.symm, hid HS2.out.symm, by first | rfl | exact World.drewN_drewN ..⟩
    · obtain rfl : K = xs.length := by omega
      have hsg := signL_pm xs
      have hgp := gcdL_pos HSM.out
      have eG : g = gcdL xs := by rw [HG.out, List.take_length]
      have eS : signL xs = if s < 0 then -1 else 1 := by rw [first_sign, HS.out, List.take_length]
      rw [← eG] at hgp
      obtain ⟨d, hd⟩ : ∃ d, d = signL xs * (g : Int) := ⟨_, rfl⟩
      have HPL : Hid (plainL xs = xs.map (fun x => x.tdiv d)) := hid (by
        unfold plainL
        rw [hd, ← eG]
        exact List.map_congr_left fun x _ => tdiv_sign hsg)
      have hBD : Below w.heap.size w (w.drewN k) := below_dr _ _
      have HB0 := hid (hBD.alloc (Nat.le_refl _) (.cells #[] 3))
      have HO0 : Hid (Owns ((w.drewN k).alloc (.cells #[] 3)) w.heap.size (.slice (some ⟨w.heap.size, 0, none⟩) 0 0) []) := hid (World.ownsRow_made (size := 1) (w.drewN k) #[] 0 (Nat.le_refl _) (by unfold maxLen; omega) rfl)
      have hdd : d = if s < 0 then -(g : Int) else (g : Int) := by
        rw [hd, eS]
        by_cases h : s < 0
        · rw [if_pos h, if_pos h]; omega
        · rw [if_neg h, if_neg h]; omega
      have d1 : -100000000000 ≤ d := by rw [hdd]; split <;> omega
      have d2 : d ≤ 100000000000 := by rw [hdd]; split <;> omega
      have d0 : d ≠ 0 := by rw [hdd]; split <;> omega
      have Td : (d == 0) = false := beq_eq_false_iff_ne.2 d0
      have Tg : ((g : Int) == 0) = false := beq_eq_false_iff_ne.2 (by omega)
      have hbody : ∀ (x : Int), -100000000000 ≤ x → x ≤ 100000000000 → -100000000000 ≤ x.tdiv d ∧ x.tdiv d ≤ 100000000000 := fun x h1 h2 => by
        have : (x.tdiv d).natAbs ≤ 100000000000 := by
          rw [Int.natAbs_tdiv]
          exact Nat.le_trans (Nat.div_le_self _ _) (by omega)
        omega
      have HBD := hid hbody
      clear hlt hsg eG eS HG HS hd hbody
      by_cases hs0 : s < 0
      · rw [if_pos hs0] at hdd
        subst hdd
        have HPN : Hid (plainL xs = xs.map (fun x => -(x.tdiv (g : Int)))) := hid (by rw [HPL.out]; exact List.map_congr_left fun x _ => Int.tdiv_neg ..)
        go_wp2_with fail
        go_loopw [7, 30] (fun so si wr => ∃ K : Nat, si = .int .i64 K ∧ K ≤ xs.length ∧ Hid (Owns wr w.heap.size so ((xs.take K).map (fun x => -(x.tdiv (g : Int))))) ∧ Hid (Below w.heap.size w wr)) (fun _ si _ => xs.length - (intOf si).toNat)
        case atStart => exact ⟨0, rfl, by omega, hid (by simpa using HO0.out), HB0⟩
        case round =>
          obtain ⟨K, rfl, hK, HO, HB⟩ := hrel
          rename World => wr
          by_cases hlt : K < xs.length
          · obtain ⟨a2, cap2, e2, hform⟩ := (HH.out.keep HB.out).form
            cases e2
            obtain ⟨bb, o, rfl, hml, hc⟩ := hform (by omega)
            have hcell := hc K hlt
            have hx6 := H6.out (xs.getD K 0) (by rw [getD_at _ _ hlt]; exact List.getElem_mem _)
            have HSN : Hid ((xs.take (K + 1)).map (fun x => -(x.tdiv (g : Int))) = (xs.take K).map (fun x => -(x.tdiv (g : Int))) ++ [-((xs.getD K 0).tdiv (g : Int))]) := hid (map_snoc hlt)
            obtain ⟨x, hx⟩ : ∃ x, x = xs.getD K 0 := ⟨_, rfl⟩
            rw [← hx] at hcell hx6 HSN
            have hbd := HBD.out x hx6.1 hx6.2
            rw [Int.tdiv_neg] at hbd
            have q1 := hbd.1
            have q2 := hbd.2
            have x1 := hx6.1
            have x2 := hx6.2
            obtain ⟨pre, hpre⟩ : ∃ pre, pre = (xs.take K).map (fun x => -(x.tdiv (g : Int))) := ⟨_, rfl⟩
            have hprel : pre.length ≤ 4 := by rw [hpre, List.length_map, List.length_take]; omega
            rw [← hpre] at HO HSN
            have hi0 : (K : Int) < (xs.length : Int) := by omega
            have HLT := hid hlt
            have hbs : w.heap.size ≤ wr.heap.size := HB.out.size
            unfold maxLen at hml
            clear hform hc hx hlt hpre hbd hx6
            go_wp2_with (at_builtin; refine wpList_append_own_at _ rfl _ _ 23 rfl w.heap.size 3 i0 (.int .i64 0) 1 8 Try.underlying23 hi hz0 hz1 hz2 rfl (by decide) _ _ _ rfl ((show World.ownsRow _ _ _ _ _ _ _ from HO.out).alloc _) ⟨wr.heap.size, 0, none⟩ 1 1 [.int .i64 (-(x.tdiv (g : Int)))] rfl rfl (cell_one_new _ _ _) (by simp [Value.oneCell']) (by unfold maxLen; omega) (by omega) (by simp; omega) ?_; intro v' w3 hown' hgrow _ hat)
            have hsg := hgrow.size
            simp only [World.size_alloc] at hsg
            go_roundw
            case measure => simp only [intOf]; have := HLT.out; omega
            case rel =>
              refine ⟨K + 1, by go_num, by have := HLT.out; omega, hid ?_, hid (HB.out.alloc hbs _ |>.grown hgrow (by simp; omega) (fun k e => (HO.out.ge k e)))⟩
              rw [HSN.out]
              unfold Owns
              simpa using hown'
          · obtain rfl : K = xs.length := by omega
            have HE : Hid (plainL xs = (xs.take xs.length).map (fun x => -(x.tdiv (g : Int)))) := hid (by rw [List.take_length]; exact HPN.out)
            clear hlt
            go_wp2_with fail
            go_ret
            exact ⟨_, rfl, by rw [HE.out]; exact HO.out, HB.out⟩
      · rw [if_neg hs0] at hdd
        subst hdd
        go_wp2_with fail
        go_loopw [7, 30] (fun so si wr => ∃ K : Nat, si = .int .i64 K ∧ K ≤ xs.length ∧ Hid (Owns wr w.heap.size so ((xs.take K).map (fun x => x.tdiv (g : Int)))) ∧ Hid (Below w.heap.size w wr)) (fun _ si _ => xs.length - (intOf si).toNat)
        case atStart => exact ⟨0, rfl, by omega, hid (by simpa using HO0.out), HB0⟩
        case round =>
          obtain ⟨K, rfl, hK, HO, HB⟩ := hrel
          rename World => wr
          by_cases hlt : K < xs.length
          · obtain ⟨a2, cap2, e2, hform⟩ := (HH.out.keep HB.out).form
            cases e2
            obtain ⟨bb, o, rfl, hml, hc⟩ := hform (by omega)
            have hcell := hc K hlt
            have hx6 := H6.out (xs.getD K 0) (by rw [getD_at _ _ hlt]; exact List.getElem_mem _)
            have HSN : Hid ((xs.take (K + 1)).map (fun x => x.tdiv (g : Int)) = (xs.take K).map (fun x => x.tdiv (g : Int)) ++ [(xs.getD K 0).tdiv (g : Int)]) := hid (map_snoc hlt)
            obtain ⟨x, hx⟩ : ∃ x, x = xs.getD K 0 := ⟨_, rfl⟩
            rw [← hx] at hcell hx6 HSN
            have hbd := HBD.out x hx6.1 hx6.2
            have q1 := hbd.1
            have q2 := hbd.2
            have x1 := hx6.1
            have x2 := hx6.2
            obtain ⟨pre, hpre⟩ : ∃ pre, pre = (xs.take K).map (fun x => x.tdiv (g : Int)) := ⟨_, rfl⟩
            have hprel : pre.length ≤ 4 := by rw [hpre, List.length_map, List.length_take]; omega
            rw [← hpre] at HO HSN
            have hi0 : (K : Int) < (xs.length : Int) := by omega
            have HLT := hid hlt
            have hbs : w.heap.size ≤ wr.heap.size := HB.out.size
            unfold maxLen at hml
            clear hform hc hx hlt hpre hbd hx6
            go_wp2_with (at_builtin; refine wpList_append_own_at _ rfl _ _ 23 rfl w.heap.size 3 i0 (.int .i64 0) 1 8 Try.underlying23 hi hz0 hz1 hz2 rfl (by decide) _ _ _ rfl ((show World.ownsRow _ _ _ _ _ _ _ from HO.out).alloc _) ⟨wr.heap.size, 0, none⟩ 1 1 [.int .i64 (x.tdiv (g : Int))] rfl rfl (cell_one_new _ _ _) (by simp [Value.oneCell']) (by unfold maxLen; omega) (by omega) (by simp; omega) ?_; intro v' w3 hown' hgrow _ hat)
            have hsg := hgrow.size
            simp only [World.size_alloc] at hsg
            go_roundw
            case measure => simp only [intOf]; have := HLT.out; omega
            case rel =>
              refine ⟨K + 1, by go_num, by have := HLT.out; omega, hid ?_, hid (HB.out.alloc hbs _ |>.grown hgrow (by simp; omega) (fun k e => (HO.out.ge k e)))⟩
              rw [HSN.out]
              unfold Owns
              simpa using hown'
          · obtain rfl : K = xs.length := by omega
            have HE : Hid (plainL xs = (xs.take xs.length).map (fun x => x.tdiv (g : Int))) := hid (by rw [List.take_length]; exact HPL.out)
            clear hlt
            go_wp2_with fail
            go_ret
            exact ⟨_, rfl, by rw [HE.out]; exact HO.out, HB.out⟩
theorem plainOf_any (v : Value) (xs : List Int) (w : World) (h : Rd w v xs) (hl : xs.length ≤ 4) (h6 : Vec6 xs) (hs : ∃ x ∈ xs, x ≠ 0) : Calls Try.prog 41 #[v] w fun e w' => ∃ u, e = .returned u ∧ Owns w' w.heap.size u (plainL xs) ∧ Below w.heap.size w w' := plainOfW_any v xs w h hl (vec11 h6) hs

set_option maxRecDepth 100000 in
set_option maxHeartbeats 1000000 in
theorem zeroPlain_any (vf vv : Value) (xs vs : List Int) (w : World) (hx : Rd w vf xs) (hv : Rd w vv vs) : Calls Try.prog 15 #[vf, vv] w fun e w' => ∃ u, e = .returned (.tuple #[u, .bool (zeroB xs vs)]) ∧ Owns w' w.heap.size u (zplainL xs vs) ∧ Below w.heap.size w w' := by
  have HX := hid hx
  have HV := hid hv
  obtain ⟨a, cap, rfl, _⟩ := hx.form
  obtain ⟨a', cap', rfl, _⟩ := hv.form
  clear hx hv
  cases hb : zeroB xs vs with
  | false =>
    have HB := hid hb
    have HR : Hid (zplainL xs vs = []) := hid (by unfold zplainL; rw [hb]; rfl)
    clear hb
    go_enter Try.func15, Try.ntmps15
    go_wp2_with (go_at_call 37; refine (zeroIs_any _ _ xs vs _ HX.out HV.out).mono ?_; rw [HB.out]; rintro e w2 ⟨rfl, hb2⟩)
    go_ret2
    refine ⟨_, rfl, ?_, hb2.alloc hb2.size _⟩
    rw [HR.out]
    exact World.ownsRow_made (size := 1) _ #[] 0 hb2.size (by unfold maxLen; omega) rfl
  | true =>
    have HB := hid hb
    have hz := zeroB_iff.1 hb
    have hl4 := (fvB_iff.1 hz.2.1).2.2
    have hv4 : vs.length ≤ 4 := by rw [hz.2.2.1]; exact hl4
    have H6 : Hid (Vec6 vs) := hid hz.1
    have HS := hid hz.2.2.2.1
    have HR : Hid (zplainL xs vs = plainL vs) := hid (by unfold zplainL; rw [hb]; rfl)
    clear hb hz
    go_enter Try.func15, Try.ntmps15
    go_wp2_with fail
    refine (zeroIs_any _ _ xs vs _ HX.out HV.out).mono ?_
    rw [HB.out]
    rintro e w2 ⟨rfl, hb2⟩
    have HV2 := hid (HV.out.keep hb2)
    go_wp2_with fail
    refine (plainOf_any _ vs _ HV2.out hv4 H6.out HS.out).mono ?_
    rintro e w3 ⟨u, rfl, ho, hb3⟩
    go_wp2_with fail
    go_ret2
    exact ⟨u, rfl, by rw [HR.out]; exact ho.low hb2.size, hb2.trans (hb3.mono hb2.size)⟩

end Go.Proofs.Ytfjbdbfeolfcfaa
