/-
  Contracts of the model's chapter 4: bad places; forms that are alike, everywhere or at a place.
-/
import Derived.Test.YtciajpimpjpnfaaFm3
set_option linter.unusedVariables false
namespace Go.Proofs.Ytciajpimpjpnfaa
open Go.RowKit

theorem prG_prod : ∀ {xs : List Int} {x : Nat}, PrG x → x ∣ (prodI xs).natAbs → ∃ t ∈ xs, x ∣ t.natAbs
  | [], x, hp, hd => by
    have h1 := Nat.le_of_dvd (by decide) hd
    have := hp.1
    have e : (prodI []).natAbs = 1 := rfl
    omega
  | t :: xs, x, hp, hd => by
    rw [show prodI (t :: xs) = t * prodI xs from rfl, Int.natAbs_mul] at hd
    rcases prG_mul hp hd with h | h
    · exact ⟨t, List.mem_cons_self .., h⟩
    · obtain ⟨u, hu, hx⟩ := prG_prod hp h
      exact ⟨u, List.mem_cons_of_mem _ hu, hx⟩
/-- a prime that divides a product of small terms is small -/
theorem small_prime {xs : List Int} (h : ∀ x ∈ xs, x ≠ 0 ∧ -30 ≤ x ∧ x ≤ 30) {x : Nat} (hp : PrG x) (hd : x ∣ (prodI xs).natAbs) : x ≤ 30 ∧ primeN x = true := by
  obtain ⟨t, ht, hx⟩ := prG_prod hp hd
  have hb := h t ht
  have := Nat.le_of_dvd (by omega) hx
  exact ⟨by omega, prG_primeN hp (by omega)⟩
theorem places_small {xs : List Int} (h : ∀ x ∈ xs, x ≠ 0 ∧ -30 ≤ x ∧ x ≤ 30) (hn : prodI xs ≠ 0) : ∀ q ∈ placesG (prodI xs), plI q = true := by
  intro q hq
  unfold placesG at hq
  simp only [List.cons_append, List.nil_append, List.mem_cons] at hq
  rcases hq with rfl | rfl | hq
  · rfl
  · rfl
  · have hm := (List.mem_filter.1 hq).1
    unfold natsI at hm
    rw [List.mem_map] at hm
    obtain ⟨x, hx, rfl⟩ := hm
    have hs := (plistG_spec (show 0 < (prodI xs).natAbs by omega)).1 x hx
    have := (small_prime h hs.1 hs.2).2
    unfold plI
    rw [show primeI (x : Int) = true from this, Bool.or_true]
theorem places_fv {xs : List Int} (hf : fvB xs = true) : ∀ q ∈ placesG (prodI xs), plI q = true :=
  places_small (fvB_iff.1 hf).1 (prod_full hf).1
theorem fpl_all {xs : List Int} : (fplL xs).length ≤ 1000000000002 ∧ ∀ q ∈ fplL xs, fvB xs = true ∧ plI q = true := by
  unfold fplL
  cases hf : fvB xs with
  | false => exact ⟨by simp, fun q hq => by simp at hq⟩
  | true =>
    have hp := prod_full hf
    rw [if_pos rfl]
    exact ⟨placesG_len hp.1 (by omega) (by omega), fun q hq => ⟨rfl, places_fv hf q hq⟩⟩

set_option maxRecDepth 100000 in
set_option maxHeartbeats 2000000 in
theorem formBadS_any (v : Value) (xs : List Int) (w : World) (h : Rd w v xs) : Calls Try.prog 53 #[v] w fun e w' => ∃ u, e = .returned u ∧ Owns w' w.heap.size u (badL xs) ∧ Below w.heap.size w w' := by
  have HH := hid h
  obtain ⟨i0, hi, hz0, hz1, hz2⟩ := info_parts infoInt
  have HB0 := hid ((Below.refl w.heap.size w).alloc (Nat.le_refl _) (.cells #[] 3))
  have HO0 : Hid (Owns (w.alloc (.cells #[] 3)) w.heap.size (.slice (some ⟨w.heap.size, 0, none⟩) 0 0) []) := hid (World.ownsRow_made (size := 1) w #[] 0 (Nat.le_refl _) (by unfold maxLen; omega) rfl)
  have HH1 := hid (h.keep (w' := w.alloc (.cells #[] 3)) HB0.out)
  have HP : Hid (badL xs = (fplL xs).filter (fun q => !vanB xs q)) := rfl
  obtain ⟨hpl, hpp⟩ := @fpl_all xs
  have HPP := hid hpp
  clear hpp h
  go_enter Try.func53, Try.ntmps53
  go_wp2_with (go_at_call 42; refine (formPlacesS_any _ _ _ HH1.out).mono ?_; rintro e w2 ⟨u, rfl, ho, hb⟩)
  have hs0 := hb.size
  rw [World.size_alloc] at hs0
  have HO1 := hid (HO0.out.keep HO0.out.lt hb)
  have HB1 := hid (HB0.out.trans (hb.mono (by simp)))
  have HG := hid ho.ge
  obtain ⟨ps, hps⟩ : ∃ ps, ps = fplL xs := ⟨_, rfl⟩
  rw [← hps] at ho hpl HP HPP
  obtain ⟨ad, cap, rfl, hform⟩ := ho.rd.form
  have HFM := hid hform
  have HLT := hid ho.lt
  clear ho hform hb hps
  go_wp2_with fail
  go_loopw [3, 5] (fun so si wr => ∃ K : Nat, si = .int .i64 K ∧ K ≤ ps.length ∧ Hid (Owns wr w.heap.size so ((ps.take K).filter (fun q => !vanB xs q))) ∧
      Hid (∀ bb o, ad = some ⟨bb, o, none⟩ → so.ownBlock ≠ some bb ∧ wr.heap[bb]? = w2.heap[bb]?) ∧ w2.heap.size ≤ wr.heap.size ∧ Hid (Below w.heap.size w wr)) (fun _ si _ => ps.length - (intOf si).toNat)
  case atStart =>
    refine ⟨0, rfl, by omega, hid (by simpa using HO1.out), hid (fun bb o e => ⟨?_, rfl⟩), Nat.le_refl _, HB1⟩
    have := HG.out bb (by rw [e]; rfl)
    simp only [World.size_alloc] at this
    show some w.heap.size ≠ some bb
    intro h
    cases h
    omega
  case round =>
    obtain ⟨K, rfl, hK, HO, HAs, hsz, HB⟩ := hrel
    rename World => wr
    by_cases hlt : K < ps.length
    · obtain ⟨bb, o, rfl, hml, hc⟩ := HFM.out (by omega)
      obtain ⟨x, hx⟩ : ∃ x, x = ps.getD K 0 := ⟨_, rfl⟩
      have hxm : x ∈ ps := by rw [hx, getD_at _ _ hlt]; exact List.getElem_mem _
      have hxp := HPP.out x hxm
      have HF := hid hxp.1
      have HXP := hid hxp.2
      have hcell := (World.cell?_of_block (HAs.out bb o rfl).2).trans (hc K hlt)
      rw [← hx] at hcell
      have hstep := filter_step (f := fun q => !vanB xs q) hlt
      rw [← hx] at hstep
      have HS := hid hstep
      have HL := hid (filter_len (f := fun q => !vanB xs q) (show K ≤ ps.length by omega))
      have hi0 : (K : Int) < (ps.length : Int) := by omega
      have hlt2 := HLT.out bb rfl
      have HHr := hid (HH.out.keep HB.out)
      unfold maxLen at hml
      clear hc hx hxm hxp hstep
      go_wp2_with fail
      refine (l4Vanishes_any _ xs x _ HHr.out HF.out HXP.out).mono ?_
      rintro e wq ⟨rfl, kq, hwq⟩
      have hbq : Below wr.heap.size wr wq := by rw [hwq]; exact below_drewN (Below.refl _ _) kq
      have hsq0 := hbq.size
      have hcell2 : wq.cell? ⟨bb, o + K, none⟩ = some (.int .i64 x) := by rw [hwq]; exact hcell
      have HOq := hid (HO.out.keep HO.out.lt hbq)
      have HAq : Hid (∀ b' o', (some (⟨bb, o, none⟩ : Addr)) = some ⟨b', o', none⟩ → u3.ownBlock ≠ some b' ∧ wq.heap[b']? = w2.heap[b']?) := hid (fun b' o' e => ⟨(HAs.out b' o' e).1, (hbq.block b' (by cases e; omega)).trans (HAs.out b' o' e).2⟩)
      have HBq := hid (HB.out.trans (hbq.mono HB.out.size))
      clear hbq hwq
      have hsq : vanB xs x = true ∨ vanB xs x = false := by cases vanB xs x <;> simp
      rcases hsq with hsq | hsq
      · have HE : Hid ((ps.take (K + 1)).filter (fun q => !vanB xs q) = (ps.take K).filter (fun q => !vanB xs q)) := hid (by rw [HS.out, hsq]; simp)
        rw [hsq]
        clear hsq
        go_wp2_with fail
        go_round
        case measure => simp only [intOf]; omega
        case rel => exact ⟨K + 1, by go_num, by omega, hid (by rw [HE.out]; exact HOq.out), HAq, by omega, HBq⟩
      · have HE : Hid ((ps.take (K + 1)).filter (fun q => !vanB xs q) = (ps.take K).filter (fun q => !vanB xs q) ++ [x]) := hid (by rw [HS.out, hsq]; simp)
        obtain ⟨pre, hpre⟩ : ∃ pre, pre = (ps.take K).filter (fun q => !vanB xs q) := ⟨_, rfl⟩
        have hprel : pre.length ≤ 1000000000002 := by rw [hpre]; have := HL.out; omega
        rw [← hpre] at HOq
        have hbs : w.heap.size ≤ wq.heap.size := HBq.out.size
        rw [hsq]
        clear hsq
        go_wp2_with (at_builtin; refine wpList_append_own_at _ rfl _ _ 25 rfl w.heap.size 3 i0 (.int .i64 0) 1 8 Try.underlying25 hi hz0 hz1 hz2 rfl (by decide) _ _ _ rfl ((show World.ownsRow _ _ _ _ _ _ _ from HOq.out).alloc _) ⟨wq.heap.size, 0, none⟩ 1 1 [.int .i64 x] rfl rfl (cell_one_new _ _ _) (by simp [Value.oneCell']) (by unfold maxLen; omega) (by omega) (by simp; omega) ?_; intro v' w3 hown' hgrow _ hat)
        have hsg := hgrow.size
        simp only [World.size_alloc] at hsg
        go_round
        case measure => simp only [intOf]; omega
        case rel =>
          refine ⟨K + 1, by go_num, by omega, hid ?_, hid (fun b' o' e => ?_), by omega, hid (HBq.out.alloc hbs _ |>.grown hgrow (by simp; omega) (fun k e => (HOq.out.ge k e)))⟩
          · rw [HE.out, ← hpre]
            unfold Owns
            simpa using hown'
          · cases e
            obtain ⟨q1, q2⟩ := HAq.out bb o rfl
            refine ⟨?_, ?_⟩
            · rcases hat with e | e
              · rw [e]; exact q1
              · rw [e]; intro h; cases h; simp at hlt2; omega
            · rw [hgrow.block bb (by simp; omega) (Ne.symm q1), ← q2, Below.heap_alloc _ _ _ (by omega)]
    · obtain rfl : K = ps.length := by omega
      have HE : Hid (badL xs = (ps.take ps.length).filter (fun q => !vanB xs q)) := hid (by rw [HP.out, List.take_length])
      clear hlt
      go_wp2_with fail
      go_ret
      exact ⟨_, rfl, by rw [HE.out]; exact HO.out, HB.out⟩

theorem l4Both_any (va vb : Value) (xs ys : List Int) (w : World) (hx : Rd w va xs) (hy : Rd w vb ys) : Calls Try.prog 95 #[va, vb] w fun e w' => e = .returned (.bool (bothB xs ys)) ∧ w = w' := by
  have HX := hid hx
  have HY := hid hy
  obtain ⟨a, cap, rfl, _⟩ := hx.form
  obtain ⟨a', cap', rfl, _⟩ := hy.form
  clear hx hy
  cases hf : fvB xs with
  | false =>
    have HR : Hid (bothB xs ys = false) := hid (by unfold bothB; rw [hf]; rfl)
    have HF := hid hf
    clear hf
    go_enter Try.func95, Try.ntmps95
    go_wp2_with fail
    refine (formValidS_any _ _ _ HX.out).mono ?_
    rw [HF.out]
    rintro e w' ⟨rfl, rfl⟩
    go_wp2
    go_ret
    exact ⟨retB HR.out.symm, rfl⟩
  | true =>
    cases hg : fvB ys with
    | false =>
      have HR : Hid (bothB xs ys = false) := hid (by unfold bothB; rw [hf, hg]; rfl)
      have HF := hid hf
      have HG := hid hg
      clear hf hg
      go_enter Try.func95, Try.ntmps95
      go_wp2_with fail
      refine (formValidS_any _ _ _ HX.out).mono ?_
      rw [HF.out]
      rintro e w' ⟨rfl, rfl⟩
      go_wp2_with fail
      refine (formValidS_any _ _ _ HY.out).mono ?_
      rw [HG.out]
      rintro e w' ⟨rfl, rfl⟩
      go_wp2
      go_ret
      exact ⟨retB HR.out.symm, rfl⟩
    | true =>
      have HR : Hid (bothB xs ys = (xs.length == ys.length)) := hid (by unfold bothB; rw [hf, hg]; rfl)
      have HF := hid hf
      have HG := hid hg
      clear hf hg
      go_enter Try.func95, Try.ntmps95
      go_wp2_with fail
      refine (formValidS_any _ _ _ HX.out).mono ?_
      rw [HF.out]
      rintro e w' ⟨rfl, rfl⟩
      go_wp2_with fail
      refine (formValidS_any _ _ _ HY.out).mono ?_
      rw [HG.out]
      rintro e w' ⟨rfl, rfl⟩
      go_wp2
      go_ret
      exact ⟨retB (by rw [HR.out, Bool.eq_iff_iff]; simp; omega), rfl⟩

set_option maxRecDepth 100000 in
set_option maxHeartbeats 1000000 in
theorem l4Alike_any (va vb : Value) (xs ys : List Int) (q : Int) (w : World) (hx : Rd w va xs) (hy : Rd w vb ys) (hf : fvB xs = true) (hg : fvB ys = true) (hq : plI q = true) :
    Calls Try.prog 96 #[va, vb, .int .i64 q] w fun e w' => e = .returned (.bool (alikeB xs ys q)) ∧ ∃ k, w' = w.drewN k := by
  have HX := hid hx
  have HY := hid hy
  have HF := hid hf
  have HG := hid hg
  have HQ := hid hq
  by_cases hq0 : q = 0
  · subst hq0
    have HR : Hid (alikeB xs ys 0 = (lessN xs == lessN ys)) := rfl
    clear hx hy hf hg hq
    go_enter Try.func96, Try.ntmps96
    go_wp2_with fail
    refine (l4Less_any _ _ _ HX.out HF.out).mono ?_
    rintro e w' ⟨rfl, rfl⟩
    go_wp2_with fail
    refine (l4Less_any _ _ _ HY.out HG.out).mono ?_
    rintro e w' ⟨rfl, rfl⟩
    go_wp2
    go_ret
    exact ⟨retB (by rw [HR.out, Bool.eq_iff_iff]; simp; omega), 0, rfl⟩
  · have T0 : (q == 0) = false := by rw [beq_eq_false_iff_ne]; exact hq0
    have hp := prod_full hf
    have hr := prod_full hg
    have HN := hid (Int.mul_ne_zero hp.1 hr.1)
    have hm : (prodI xs * prodI ys).natAbs ≤ 810000 * 810000 := by rw [Int.natAbs_mul]; exact Nat.mul_le_mul (by omega) (by omega)
    have m1 : -656100000000 ≤ prodI xs * prodI ys := by omega
    have m2 : prodI xs * prodI ys ≤ 656100000000 := by omega
    have HV : Hid (alikeB xs ys q = (sqAt (prodI xs * prodI ys) q && (hasF xs q == hasF ys q))) := hid (by unfold alikeB; rw [if_neg hq0])
    cases hs : sqAt (prodI xs * prodI ys) q with
    | false =>
      have HS := hid hs
      have HR : Hid (alikeB xs ys q = false) := hid (by rw [HV.out, HS.out]; rfl)
      clear hx hy hf hg hq hp hr hm hs hq0
      go_enter Try.func96, Try.ntmps96
      go_wp2_with fail
      refine (l4Product_any _ _ _ HX.out HF.out).mono ?_
      rintro e w' ⟨rfl, rfl⟩
      go_wp2_with fail
      refine (l4Product_any _ _ _ HY.out HG.out).mono ?_
      rintro e w' ⟨rfl, rfl⟩
      go_wp2_with (go_at_call 112; refine (l2Square_any _ _ HN.out (by omega) (by omega) HQ.out _).mono ?_; rw [HS.out]; rintro e w' ⟨rfl, rfl⟩)
      go_ret
      exact ⟨retB HR.out.symm, 0, rfl⟩
    | true =>
      have HS := hid hs
      have HR : Hid (alikeB xs ys q = (hasF xs q == hasF ys q)) := hid (by rw [HV.out, HS.out]; rfl)
      clear hx hy hf hg hq hp hr hm hs hq0
      go_enter Try.func96, Try.ntmps96
      go_wp2_with fail
      refine (l4Product_any _ _ _ HX.out HF.out).mono ?_
      rintro e w' ⟨rfl, rfl⟩
      go_wp2_with fail
      refine (l4Product_any _ _ _ HY.out HG.out).mono ?_
      rintro e w' ⟨rfl, rfl⟩
      go_wp2_with (go_at_call 112; refine (l2Square_any _ _ HN.out (by omega) (by omega) HQ.out _).mono ?_; rw [HS.out]; rintro e w' ⟨rfl, rfl⟩)
      refine (l4Invariant_any _ _ _ _ HX.out HF.out HQ.out).mono ?_
      rintro e wq ⟨rfl, k1, rfl⟩
      go_wp2_with fail
      refine (l4Invariant_any _ _ _ _ (HY.out.drewN k1) HG.out HQ.out).mono ?_
      rintro e wr ⟨rfl, k2, rfl⟩
      go_wp2
      go_ret
      exact ⟨retB HR.out.symm, k1 + k2, by first | rfl | exact World.drewN_drewN ..⟩


end Go.Proofs.Ytciajpimpjpnfaa
