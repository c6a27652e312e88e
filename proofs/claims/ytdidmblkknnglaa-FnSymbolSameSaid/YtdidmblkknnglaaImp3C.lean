/-
  Contracts of the program's chapter 3: the places where the symbol is -1.
-/
import Derived.Test.YtdidmblkknnglaaImp3B
set_option linter.unusedVariables false
namespace Go.Proofs.Ytdidmblkknnglaa
open Go.RowKit Go.Shelf
attribute [local go_sem] Oper.semAt_some

set_option maxRecDepth 100000 in
set_option maxHeartbeats 2000000 in
theorem symbolPlaces_any (a b : Int) (w : World) :
    Calls Try.prog 23 #[.int .i64 a, .int .i64 b] w fun e w' => ∃ v, e = .returned v ∧ Owns w' w.heap.size v (splL a b) ∧ Below w.heap.size w w' := by
  have HB0 := hid ((Below.refl w.heap.size w).alloc (Nat.le_refl _) (.cells #[] 3))
  have HO0 : Hid (Owns (w.alloc (.cells #[] 3)) w.heap.size (.slice (some ⟨w.heap.size, 0, none⟩) 0 0) []) := hid (World.ownsRow_made (size := 1) w #[] 0 (Nat.le_refl _) (by unfold maxLen; omega) rfl)
  cases hA : factB a with
  | false =>
    have HP : Hid (splL a b = []) := hid (by unfold splL okAB; rw [hA]; rfl)
    have HA := hid hA
    clear hA
    go_enter Try.func23, Try.ntmps23
    go_wp2_with (go_at_call 55; refine (factored_any _ _).mono ?_; rw [HA.out]; rintro e w' ⟨rfl, rfl⟩)
    go_ret
    exact ⟨_, rfl, by rw [HP.out]; exact HO0.out, HB0.out⟩
  | true =>
    cases hBB : factB b with
    | false =>
      have HP : Hid (splL a b = []) := hid (by unfold splL okAB; rw [hA, hBB]; rfl)
      have HA := hid hA
      have HBB := hid hBB
      clear hA hBB
      go_enter Try.func23, Try.ntmps23
      go_wp2_with (go_at_call 55; refine (factored_any _ _).mono ?_; (first | rw [HA.out] | rw [HBB.out]); rintro e w' ⟨rfl, rfl⟩)
      go_ret
      exact ⟨_, rfl, by rw [HP.out]; exact HO0.out, HB0.out⟩
    | true =>
      obtain ⟨a0, a1, a2⟩ := factB_bd hA
      obtain ⟨b0, b1, b2⟩ := factB_bd hBB
      obtain ⟨i0, hi, hz0, hz1, hz2⟩ := info_parts infoInt
      have hmb := mul_bdI a1 a2 b1 b2
      have hm1 := hmb.1
      have hm2 := hmb.2
      have A0 := hid a0
      have B0 := hid b0
      have M0 := hid (Int.mul_ne_zero a0 b0)
      have HA := hid hA
      have HBB := hid hBB
      have HP : Hid (splL a b = (placesG (a * b)).filter (fun q => decide (symV a b q = -1))) := hid (by unfold splL okAB; rw [hA, hBB]; rfl)
      have hpl := placesG_len M0.out (by omega) (by omega)
      have HPP := hid (placesG_pl a0 b0 a1 a2 b1 b2)
      clear a0 b0 hA hBB hmb
      go_enter Try.func23, Try.ntmps23
      go_wp2_with (first | (go_at_call 55; refine (factored_any _ _).mono ?_; (first | rw [HA.out] | rw [HBB.out]); rintro e w' ⟨rfl, rfl⟩) | (go_at_call 64; refine (placesOfG_any _ M0.out hm1 hm2 _).mono ?_; rintro e w2 ⟨v, rfl, ho, hb⟩))
      have hs0 := hb.size
      rw [World.size_alloc] at hs0
      have HO1 := hid (HO0.out.keep HO0.out.lt hb)
      have HB1 := hid (HB0.out.trans (hb.mono (by simp)))
      have HG := hid ho.ge
      obtain ⟨ps, hps⟩ : ∃ ps, ps = placesG (a * b) := ⟨_, rfl⟩
      rw [← hps] at ho hpl HP HPP
      obtain ⟨ad, cap, rfl, hform⟩ := ho.rd.form
      have HFM := hid hform
      have HLT := hid ho.lt
      clear ho hform hb hps
      go_wp2_with fail
      simp only [Builtin.len_]
      go_simp
      go_wp2_with fail
      go_loopw [5, 23] (fun so si wr => ∃ K : Nat, si = .int .i64 K ∧ K ≤ ps.length ∧ Hid (Owns wr w.heap.size so ((ps.take K).filter (fun q => decide (symV a b q = -1)))) ∧
          Hid (∀ b o, ad = some ⟨b, o, none⟩ → so.ownBlock ≠ some b ∧ wr.heap[b]? = w2.heap[b]?) ∧ w2.heap.size ≤ wr.heap.size ∧ Hid (Below w.heap.size w wr)) (fun _ si _ => ps.length - (intOf si).toNat)
      case atStart =>
        refine ⟨0, rfl, by omega, hid (by simpa using HO1.out), hid (fun b o e => ⟨?_, rfl⟩), Nat.le_refl _, HB1⟩
        have := HG.out b (by rw [e]; rfl)
        simp only [World.size_alloc] at this
        show some w.heap.size ≠ some b
        intro h
        cases h
        omega
      case round =>
        obtain ⟨K, rfl, hK, HO, HAD, hsz, HB⟩ := hrel
        rename World => wr
        by_cases hlt : K < ps.length
        · obtain ⟨bk, o, rfl, hml, hc⟩ := HFM.out (by omega)
          obtain ⟨x, hx⟩ : ∃ x, x = ps.getD K 0 := ⟨_, rfl⟩
          have hxm : x ∈ ps := by rw [hx, getD_at _ _ hlt]; exact List.getElem_mem _
          have hxp := HPP.out x hxm
          have hx2 := plI_bd hxp
          have hx3 := hx2.1
          have hx4 := hx2.2
          have HXP := hid hxp
          have hcell := (World.cell?_of_block (HAD.out bk o rfl).2).trans (hc K hlt)
          rw [← hx] at hcell
          have hstep := filter_step (f := fun q => decide (symV a b q = -1)) hlt
          rw [← hx] at hstep
          have HS := hid hstep
          have HL := hid (filter_len (f := fun q => decide (symV a b q = -1)) (show K ≤ ps.length by omega))
          have hi0 : (K : Int) < (ps.length : Int) := by omega
          have hlt2 := HLT.out bk rfl
          unfold maxLen at hml
          obtain ⟨y, hy⟩ : ∃ y, y = symV a b x := ⟨_, rfl⟩
          have hyv := symV_val A0.out B0.out hxp
          rw [← hy] at hyv
          have HY := hid hy.symm
          clear hc hx hxm hxp hstep hx2 hy
          go_wp2_with fail
          refine (symbolAt_any x HXP.out _).mono ?_
          rintro e wq ⟨fv, rfl, hfs, hbq⟩
          have hsq0 := hbq.size
          have HOq := hid (HO.out.keep HO.out.lt hbq)
          have HAq : Hid (∀ b' o', (some (⟨bk, o, none⟩ : Addr)) = some ⟨b', o', none⟩ → u5.ownBlock ≠ some b' ∧ wq.heap[b']? = w2.heap[b']?) := hid (fun b' o' e => ⟨(HAD.out b' o' e).1, (hbq.block b' (by cases e; omega)).trans (HAD.out b' o' e).2⟩)
          have HBq := hid (HB.out.trans (hbq.mono HB.out.size))
          clear hbq
          rcases hyv with rfl | rfl
          · have HE : Hid ((ps.take (K + 1)).filter (fun q => decide (symV a b q = -1)) = (ps.take K).filter (fun q => decide (symV a b q = -1))) := hid (by rw [HS.out, HY.out]; simp)
            rcases hfs with ⟨rfl, rfl⟩ | ⟨rfl, rfl⟩ | ⟨P, C, rfl, hP, h3, rfl, hC1, hC2, hC3⟩
            · go_wp2_with (go_at_call 86; refine (symZero_any _ _ A0.out B0.out _).mono ?_; rw [HY.out]; rintro e w' ⟨rfl, rfl⟩)
              go_round
              case measure => simp only [intOf]; omega
              case rel => exact ⟨K + 1, by go_num, by omega, hid (by rw [HE.out]; exact HOq.out), HAq, by omega, HBq⟩
            · go_wp2_with (go_at_call 88; refine (symbolAtTwo_any _ _ A0.out B0.out (by omega) (by omega) (by omega) (by omega) _).mono ?_; rw [HY.out]; rintro e w' ⟨rfl, rfl⟩)
              go_round
              case measure => simp only [intOf]; omega
              case rel => exact ⟨K + 1, by go_num, by omega, hid (by rw [HE.out]; exact HOq.out), HAq, by omega, HBq⟩
            · have HPr := hid hP
              clear hP
              go_wp2_with (go_at_call 89; refine (symP_any _ _ P C HPr.out h3 A0.out B0.out (by omega) (by omega) (by omega) (by omega) _ hC3).mono ?_; rw [HY.out]; rintro e w' ⟨rfl, rfl⟩)
              go_round
              case measure => simp only [intOf]; omega
              case rel => exact ⟨K + 1, by go_num, by omega, hid (by rw [HE.out]; exact HOq.out), HAq, by omega, HBq⟩
          · have HE : Hid ((ps.take (K + 1)).filter (fun q => decide (symV a b q = -1)) = (ps.take K).filter (fun q => decide (symV a b q = -1)) ++ [x]) := hid (by rw [HS.out, HY.out]; simp)
            obtain ⟨pre, hpre⟩ : ∃ pre, pre = (ps.take K).filter (fun q => decide (symV a b q = -1)) := ⟨_, rfl⟩
            have hprel : pre.length ≤ 1000000000002 := by rw [hpre]; have := HL.out; omega
            rw [← hpre] at HOq
            have hbs : w.heap.size ≤ wq.heap.size := HBq.out.size
            rcases hfs with ⟨rfl, rfl⟩ | ⟨rfl, rfl⟩ | ⟨P, C, rfl, hP, h3, rfl, hC1, hC2, hC3⟩
            · skip
              go_wp2_with (first | (go_at_call 86; refine (symZero_any _ _ A0.out B0.out _).mono ?_; rw [HY.out]; rintro e w' ⟨rfl, rfl⟩) | (at_builtin; refine wpList_append_own_at _ rfl _ _ 28 rfl w.heap.size 3 i0 (.int .i64 0) 1 8 Try.underlying28 hi hz0 hz1 hz2 rfl (by decide) _ _ _ rfl ((show World.ownsRow _ _ _ _ _ _ _ from HOq.out).alloc _) ⟨wq.heap.size, 0, none⟩ 1 1 [.int .i64 (0 : Int)] rfl rfl (cell_one_new _ _ _) (by simp [Value.oneCell']) (by unfold maxLen; omega) (by omega) (by simp; omega) ?_; intro v' w3 hown' hgrow _ hat))
              have hsg := hgrow.size
              simp only [World.size_alloc] at hsg
              go_round
              case measure => simp only [intOf]; omega
              case rel =>
                refine ⟨K + 1, by go_num, by omega, hid ?_, hid (fun b' o' e => ?_), by omega, hid (HBq.out.alloc hbs _ |>.grown hgrow (by simp; omega) (fun k e => (HOq.out.ge k e)))⟩
                · rw [HE.out, ← hpre]
                  unfold Owns
                  simpa using hown'
                · cases e
                  obtain ⟨q1, q2⟩ := HAq.out bk o rfl
                  refine ⟨?_, ?_⟩
                  · rcases hat with e | e
                    · rw [e]; exact q1
                    · rw [e]; intro h; cases h; simp at hlt2; omega
                  · rw [hgrow.block bk (by simp; omega) (Ne.symm q1), ← q2, Below.heap_alloc _ _ _ (by omega)]
            · skip
              go_wp2_with (first | (go_at_call 88; refine (symbolAtTwo_any _ _ A0.out B0.out (by omega) (by omega) (by omega) (by omega) _).mono ?_; rw [HY.out]; rintro e w' ⟨rfl, rfl⟩) | (at_builtin; refine wpList_append_own_at _ rfl _ _ 28 rfl w.heap.size 3 i0 (.int .i64 0) 1 8 Try.underlying28 hi hz0 hz1 hz2 rfl (by decide) _ _ _ rfl ((show World.ownsRow _ _ _ _ _ _ _ from HOq.out).alloc _) ⟨wq.heap.size, 0, none⟩ 1 1 [.int .i64 (2 : Int)] rfl rfl (cell_one_new _ _ _) (by simp [Value.oneCell']) (by unfold maxLen; omega) (by omega) (by simp; omega) ?_; intro v' w3 hown' hgrow _ hat))
              have hsg := hgrow.size
              simp only [World.size_alloc] at hsg
              go_round
              case measure => simp only [intOf]; omega
              case rel =>
                refine ⟨K + 1, by go_num, by omega, hid ?_, hid (fun b' o' e => ?_), by omega, hid (HBq.out.alloc hbs _ |>.grown hgrow (by simp; omega) (fun k e => (HOq.out.ge k e)))⟩
                · rw [HE.out, ← hpre]
                  unfold Owns
                  simpa using hown'
                · cases e
                  obtain ⟨q1, q2⟩ := HAq.out bk o rfl
                  refine ⟨?_, ?_⟩
                  · rcases hat with e | e
                    · rw [e]; exact q1
                    · rw [e]; intro h; cases h; simp at hlt2; omega
                  · rw [hgrow.block bk (by simp; omega) (Ne.symm q1), ← q2, Below.heap_alloc _ _ _ (by omega)]
            · have HPr := hid hP
              clear hP
              go_wp2_with (first | (go_at_call 89; refine (symP_any _ _ P C HPr.out h3 A0.out B0.out (by omega) (by omega) (by omega) (by omega) _ hC3).mono ?_; rw [HY.out]; rintro e w' ⟨rfl, rfl⟩) | (at_builtin; refine wpList_append_own_at _ rfl _ _ 28 rfl w.heap.size 3 i0 (.int .i64 0) 1 8 Try.underlying28 hi hz0 hz1 hz2 rfl (by decide) _ _ _ rfl ((show World.ownsRow _ _ _ _ _ _ _ from HOq.out).alloc _) ⟨wq.heap.size, 0, none⟩ 1 1 [.int .i64 (P : Int)] rfl rfl (cell_one_new _ _ _) (by simp [Value.oneCell']) (by unfold maxLen; omega) (by omega) (by simp; omega) ?_; intro v' w3 hown' hgrow _ hat))
              have hsg := hgrow.size
              simp only [World.size_alloc] at hsg
              go_round
              case measure => simp only [intOf]; omega
              case rel =>
                refine ⟨K + 1, by go_num, by omega, hid ?_, hid (fun b' o' e => ?_), by omega, hid (HBq.out.alloc hbs _ |>.grown hgrow (by simp; omega) (fun k e => (HOq.out.ge k e)))⟩
                · rw [HE.out, ← hpre]
                  unfold Owns
                  simpa using hown'
                · cases e
                  obtain ⟨q1, q2⟩ := HAq.out bk o rfl
                  refine ⟨?_, ?_⟩
                  · rcases hat with e | e
                    · rw [e]; exact q1
                    · rw [e]; intro h; cases h; simp at hlt2; omega
                  · rw [hgrow.block bk (by simp; omega) (Ne.symm q1), ← q2, Below.heap_alloc _ _ _ (by omega)]
        · obtain rfl : K = ps.length := by omega
          have HE : Hid (splL a b = (ps.take ps.length).filter (fun q => decide (symV a b q = -1))) := hid (by rw [HP.out, List.take_length])
          clear hlt
          go_wp2_with fail
          go_ret
          exact ⟨_, rfl, by rw [HE.out]; exact HO.out, HB.out⟩

end Go.Proofs.Ytdidmblkknnglaa
