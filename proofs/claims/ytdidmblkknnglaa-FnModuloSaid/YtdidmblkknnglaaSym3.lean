/-
  Contracts of the model's chapter 3: symbols of two numbers.
-/
import Derived.Test.YtdidmblkknnglaaVals3
set_option linter.unusedVariables false
namespace Go.Proofs.Ytdidmblkknnglaa
open Go.RowKit


theorem l3Ok_any (a b : Int) (w : World) : Calls Try.prog 58 #[.int .i64 a, .int .i64 b] w fun e w' => e = .returned (.bool (okAB a b)) ∧ w = w' := by
  cases hA : okN a with
  | false =>
    have HK : Hid (okAB a b = false) := hid (by unfold okAB factB; rw [hA]; rfl)
    go_enter Try.func58, Try.ntmps58
    go_wp2_with (go_at_call 70; refine (l1Number_any _ _).mono ?_; rintro e w' ⟨rfl, rfl⟩)
    go_ret
    exact ⟨retB HK.out.symm, rfl⟩
  | true =>
    cases hB : okN b with
    | false =>
      have HK : Hid (okAB a b = false) := hid (by unfold okAB factB; rw [hB]; simp)
      go_enter Try.func58, Try.ntmps58
      go_wp2_with (go_at_call 70; refine (l1Number_any _ _).mono ?_; rintro e w' ⟨rfl, rfl⟩)
      go_ret
      exact ⟨retB HK.out.symm, rfl⟩
    | true =>
      by_cases a0 : a = 0
      · subst a0
        have HK : Hid (okAB 0 b = false) := rfl
        go_enter Try.func58, Try.ntmps58
        go_wp2_with (go_at_call 70; refine (l1Number_any _ _).mono ?_; rintro e w' ⟨rfl, rfl⟩)
        go_ret
        exact ⟨retB HK.out.symm, rfl⟩
      · have T : (a != 0) = true := by rw [bne_iff_ne]; exact a0
        by_cases b0 : b = 0
        · subst b0
          have HK : Hid (okAB a 0 = false) := hid (by unfold okAB; rw [show factB 0 = false from rfl, Bool.and_false])
          clear a0
          go_enter Try.func58, Try.ntmps58
          go_wp2_with (go_at_call 70; refine (l1Number_any _ _).mono ?_; rintro e w' ⟨rfl, rfl⟩)
          go_ret
          exact ⟨retB HK.out.symm, rfl⟩
        · have T2 : (b != 0) = true := by rw [bne_iff_ne]; exact b0
          have HK : Hid (okAB a b = true) := hid (by unfold okAB factB; rw [hA, hB]; simp [a0, b0])
          clear a0 b0
          go_enter Try.func58, Try.ntmps58
          go_wp2_with (go_at_call 70; refine (l1Number_any _ _).mono ?_; rintro e w' ⟨rfl, rfl⟩)
          go_ret
          exact ⟨retB HK.out.symm, rfl⟩

theorem symbolOfS_any (a b q : Int) (w : World) : Calls Try.prog 17 #[.int .i64 a, .int .i64 b, .int .i64 q] w fun e w' => e = .returned (.int .i64 (symOfV a b q)) ∧ w = w' := by
  rcases okAB_cases a b with ⟨a1, a2, a0, b1, b2, b0, O⟩ | O
  · cases hq : plI q with
    | false =>
      have HK : Hid (symOfV a b q = 0) := hid (by unfold symOfV; rw [hq, Bool.and_false]; rfl)
      clear a0 b0
      go_enter Try.func17, Try.ntmps17
      go_wp2_with (first | (go_at_call 58; refine (l3Ok_any _ _ _).mono ?_; rintro e w' ⟨rfl, rfl⟩) | (go_at_call 59; refine (placeValidS_any _ _).mono ?_; rintro e w' ⟨rfl, rfl⟩))
      go_ret
      exact ⟨retI HK.out.symm, rfl⟩
    | true =>
      have HK : Hid (symOfV a b q = symV a b q) := hid (by unfold symOfV; rw [O, hq]; rfl)
      have HA := hid a0
      have HB := hid b0
      have HQ := hid hq
      clear a0 b0
      go_enter Try.func17, Try.ntmps17
      go_wp2_with (first | (go_at_call 58; refine (l3Ok_any _ _ _).mono ?_; rintro e w' ⟨rfl, rfl⟩) | (go_at_call 59; refine (placeValidS_any _ _).mono ?_; rintro e w' ⟨rfl, rfl⟩) | (go_at_call 60; refine (l3Symbol_any _ _ _ HA.out HB.out (by omega) (by omega) (by omega) (by omega) HQ.out _).mono ?_; rintro e w' ⟨rfl, rfl⟩))
      go_ret
      exact ⟨retI HK.out.symm, rfl⟩
  · have HK : Hid (symOfV a b q = 0) := hid (by unfold symOfV; rw [O]; rfl)
    go_enter Try.func17, Try.ntmps17
    go_wp2_with (first | (go_at_call 58; refine (l3Ok_any _ _ _).mono ?_; rintro e w' ⟨rfl, rfl⟩))
    go_ret
    exact ⟨retI HK.out.symm, rfl⟩

set_option maxRecDepth 100000 in
set_option maxHeartbeats 1000000 in
theorem symbolPlacesS_any (a b : Int) (w : World) :
    Calls Try.prog 24 #[.int .i64 a, .int .i64 b] w fun e w' => ∃ v, e = .returned v ∧ Owns w' w.heap.size v (splL a b) ∧ Below w.heap.size w w' := by
  have HB0 := hid ((Below.refl w.heap.size w).alloc (Nat.le_refl _) (.cells #[] 3))
  have HO0 : Hid (Owns (w.alloc (.cells #[] 3)) w.heap.size (.slice (some ⟨w.heap.size, 0, none⟩) 0 0) []) := hid (World.ownsRow_made (size := 1) w #[] 0 (Nat.le_refl _) (by unfold maxLen; omega) rfl)
  rcases okAB_cases a b with ⟨a1, a2, a0, b1, b2, b0, O⟩ | O
  · obtain ⟨i0, hi, hz0, hz1, hz2⟩ := info_parts infoInt
    have hab := Int.mul_ne_zero a0 b0
    have hmb := mul_bdI a1 a2 b1 b2
    have hm1 := hmb.1
    have hm2 := hmb.2
    have HAB := hid hab
    have HA := hid a0
    have HBb := hid b0
    have HP : Hid (splL a b = (placesG (a * b)).filter (fun q => decide (symV a b q = -1))) := hid (by unfold splL; rw [O]; rfl)
    have hpl := placesG_len hab (by omega) (by omega)
    have HPP := hid (placesG_pl a0 b0 a1 a2 b1 b2)
    have HV : Hid (∀ q, plI q = true → symV a b q = 1 ∨ symV a b q = -1) := hid (fun q hq => symV_val a0 b0 hq)
    clear a0 b0 hab hmb
    go_enter Try.func24, Try.ntmps24
    go_wp2_with (first | (go_at_call 58; refine (l3Ok_any _ _ _).mono ?_; rintro e w' ⟨rfl, rfl⟩) | (go_at_call 65; refine (l2PlacesG_any _ HAB.out (by omega) (by omega) _).mono ?_; rintro e w2 ⟨v, rfl, ho, hb⟩))
    have hs0 := hb.size
    rw [World.size_alloc] at hs0
    have HO1 := hid (HO0.out.keep HO0.out.lt hb)
    have HB1 := hid (HB0.out.trans (hb.mono (by simp)))
    have HG := hid ho.ge
    obtain ⟨ps, hps⟩ : ∃ ps, ps = placesG (a * b) := ⟨_, rfl⟩
    rw [← hps] at ho hpl HP HPP
    obtain ⟨ad, cap, rfl, hform⟩ := ho.rd.form
    have HF := hid hform
    have HLT := hid ho.lt
    clear ho hform hb hps
    go_wp2_with fail
    go_loopw [5, 7] (fun so si wr => ∃ K : Nat, si = .int .i64 K ∧ K ≤ ps.length ∧ Hid (Owns wr w.heap.size so ((ps.take K).filter (fun q => decide (symV a b q = -1)))) ∧
        Hid (∀ bb o, ad = some ⟨bb, o, none⟩ → so.ownBlock ≠ some bb ∧ wr.heap[bb]? = w2.heap[bb]?) ∧ w2.heap.size ≤ wr.heap.size ∧ Hid (Below w.heap.size w wr)) (fun _ si _ => ps.length - (intOf si).toNat)
    case atStart =>
      refine ⟨0, rfl, by omega, hid (by simpa using HO1.out), hid (fun bb o e => ⟨?_, rfl⟩), Nat.le_refl _, HB1⟩
      have := HG.out bb (by rw [e]; rfl)
      simp only [World.size_alloc] at this
      show some w.heap.size ≠ some bb
      intro h
      cases h
      omega
    case round =>
      obtain ⟨K, rfl, hK, HO, HAs, hsz, HB⟩ := hrel
      by_cases hlt : K < ps.length
      · obtain ⟨bb, o, rfl, hml, hc⟩ := HF.out (by omega)
        obtain ⟨x, hx⟩ : ∃ x, x = ps.getD K 0 := ⟨_, rfl⟩
        have hxm : x ∈ ps := by rw [hx, getD_at _ _ hlt]; exact List.getElem_mem _
        have hxp := HPP.out x hxm
        have hx2 := plI_bd hxp
        have hx3 := hx2.1
        have hx4 := hx2.2
        have HXP := hid hxp
        have hcell := (World.cell?_of_block (HAs.out bb o rfl).2).trans (hc K hlt)
        rw [← hx] at hcell
        have hstep := filter_step (f := fun q => decide (symV a b q = -1)) hlt
        rw [← hx] at hstep
        have HS := hid hstep
        have HL := hid (filter_len (f := fun q => decide (symV a b q = -1)) (show K ≤ ps.length by omega))
        have hi0 : (K : Int) < (ps.length : Int) := by omega
        have hlt2 := HLT.out bb rfl
        unfold maxLen at hml
        clear hc hx hxm hxp hstep hx2
        have hsq := HV.out x HXP.out
        rcases hsq with hsq | hsq
        · have HE : Hid ((ps.take (K + 1)).filter (fun q => decide (symV a b q = -1)) = (ps.take K).filter (fun q => decide (symV a b q = -1))) := hid (by rw [HS.out, hsq]; simp)
          have HSQ := hid hsq
          clear hsq
          go_wp2_with (go_at_call 60; refine (l3Symbol_any _ _ _ HA.out HBb.out (by omega) (by omega) (by omega) (by omega) HXP.out _).mono ?_; rw [HSQ.out]; rintro e w' ⟨rfl, rfl⟩)
          go_round
          case measure => simp only [intOf]; omega
          case rel => exact ⟨K + 1, by go_num, by omega, hid (by rw [HE.out]; exact HO.out), HAs, hsz, HB⟩
        · have HE : Hid ((ps.take (K + 1)).filter (fun q => decide (symV a b q = -1)) = (ps.take K).filter (fun q => decide (symV a b q = -1)) ++ [x]) := hid (by rw [HS.out, hsq]; simp)
          have HSQ := hid hsq
          obtain ⟨pre, hpre⟩ : ∃ pre, pre = (ps.take K).filter (fun q => decide (symV a b q = -1)) := ⟨_, rfl⟩
          have hprel : pre.length ≤ 1000000000002 := by rw [hpre]; have := HL.out; omega
          rw [← hpre] at HO
          have hbs : w.heap.size ≤ wr.heap.size := HB.out.size
          clear hsq
          go_wp2_with (first | (go_at_call 60; refine (l3Symbol_any _ _ _ HA.out HBb.out (by omega) (by omega) (by omega) (by omega) HXP.out _).mono ?_; rw [HSQ.out]; rintro e w' ⟨rfl, rfl⟩) | (at_builtin; refine wpList_append_own_at _ rfl _ _ 28 rfl w.heap.size 3 i0 (.int .i64 0) 1 8 Try.underlying28 hi hz0 hz1 hz2 rfl (by decide) _ _ _ rfl ((show World.ownsRow _ _ _ _ _ _ _ from HO.out).alloc _) ⟨wr.heap.size, 0, none⟩ 1 1 [.int .i64 x] rfl rfl (cell_one_new _ _ _) (by simp [Value.oneCell']) (by unfold maxLen; omega) (by omega) (by simp; omega) ?_; intro v' w3 hown' hgrow _ hat))
          have hsg := hgrow.size
          simp only [World.size_alloc] at hsg
          go_round
          case measure => simp only [intOf]; omega
          case rel =>
            refine ⟨K + 1, by go_num, by omega, hid ?_, hid (fun b' o' e => ?_), by omega, hid (HB.out.alloc hbs _ |>.grown hgrow (by simp; omega) (fun k e => (HO.out.ge k e)))⟩
            · rw [HE.out, ← hpre]
              unfold Owns
              simpa using hown'
            · cases e
              obtain ⟨q1, q2⟩ := HAs.out bb o rfl
              refine ⟨?_, ?_⟩
              · rcases hat with e | e
                · rw [e]; exact q1
                · rw [e]; intro h; cases h; simp at hlt2; omega
              · rw [hgrow.block bb (by simp; omega) (Ne.symm q1), ← q2, Below.heap_alloc _ _ _ (by omega)]
      · obtain rfl : K = ps.length := by omega
        have HE : Hid (splL a b = (ps.take ps.length).filter (fun q => decide (symV a b q = -1))) := hid (by rw [HP.out, List.take_length])
        clear hlt
        go_wp2
        go_ret
        exact ⟨_, rfl, by rw [HE.out]; exact HO.out, HB.out⟩
  · have HP : Hid (splL a b = []) := hid (by unfold splL; rw [O]; rfl)
    go_enter Try.func24, Try.ntmps24
    go_wp2_with (first | (go_at_call 58; refine (l3Ok_any _ _ _).mono ?_; rintro e w' ⟨rfl, rfl⟩))
    go_ret
    exact ⟨_, rfl, by rw [HP.out]; exact HO0.out, HB0.out⟩

end Go.Proofs.Ytdidmblkknnglaa
