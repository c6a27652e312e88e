/-
  Contracts of the program's chapter 2: lists of places.
-/
import Derived.Test.YtamdjgcnjgiflabImpC
set_option linter.unusedVariables false
namespace Go.Proofs.Ytamdjgcnjgiflab
open Go.RowKit Go.Shelf
attribute [local go_sem] Oper.semAt_some

def plcs (l : List Nat) : List Int := [0, 2] ++ (natsI l).filter (fun x => decide (2 < x))
theorem plcs_yes {l : List Nat} {x : Nat} (h : 2 < x) : plcs (l ++ [x]) = plcs l ++ [(x : Int)] := by
  unfold plcs
  rw [natsI_snoc, List.filter_append, List.filter_cons, if_pos (by rw [decide_eq_true_eq]; omega), List.append_assoc]
  rfl
theorem plcs_no {l : List Nat} {x : Nat} (h : ¬ 2 < x) : plcs (l ++ [x]) = plcs l := by
  unfold plcs
  rw [natsI_snoc, List.filter_append, List.filter_cons, if_neg (by rw [decide_eq_true_eq]; omega), List.filter_nil, List.append_nil]
theorem plcs_len (l : List Nat) : (plcs l).length ≤ l.length + 2 := by
  unfold plcs
  have h3 := List.length_filter_le (fun x : Int => decide (2 < x)) (natsI l)
  rw [natsI_len] at h3
  rw [List.length_append]
  simp only [List.length_cons, List.length_nil]
  omega
theorem fsts_len (l : List PP) : (fsts l).length = l.length := by unfold fsts; rw [List.length_map]

set_option maxRecDepth 100000 in
set_option maxHeartbeats 2000000 in
theorem placesOf_any (n : Int) (h0 : n ≠ 0) (a1 : -5000 ≤ n) (a2 : n ≤ 5000) (w : World) :
    Calls Try.prog 37 #[.int .i64 n] w fun e w' => ∃ v, e = .returned v ∧ Owns w' w.heap.size v (placesOf n) ∧ Below w.heap.size w w' := by
  obtain ⟨i0, hi, hz0, hz1, hz2⟩ := info_parts infoInt
  have HPL : Hid (placesOf n = plcs ((ppow n.natAbs).map (·.1))) := hid (by unfold plcs placesOf; rw [plist_eq])
  obtain ⟨v0, hv0⟩ : ∃ v0 : Value, v0 = .slice (some ⟨w.heap.size, 0, none⟩) 2 2 := ⟨_, rfl⟩
  have hr0 : (w.alloc (.cells #[.int .i64 0, .int .i64 2] 3)).ownsRow w.heap.size 3 1 v0 2 [.int .i64 0, .int .i64 2] := by
    rw [hv0]; exact World.ownsRow_lit w #[.int .i64 0, .int .i64 2] 2 (Nat.le_refl _) (by unfold maxLen; omega) rfl
  have hB0 : Below w.heap.size w (((w.alloc (.cells #[.int .i64 0, .int .i64 2] 3)).alloc (.cells #[v0] 27)).alloc (.cells #[.int .i64 n] 34)) := (((Below.refl _ _).alloc (Nat.le_refl _) _).alloc (by simp) _).alloc (by simp; omega) _
  have bO := (Boxed.new (w.alloc (.cells #[.int .i64 0, .int .i64 2] 3)) 27 v0).alloc (.cells #[.int .i64 n] 34)
  have bN := Boxed.new ((w.alloc (.cells #[.int .i64 0, .int .i64 2] 3)).alloc (.cells #[v0] 27)) 34 (.int .i64 n)
  simp only [World.size_alloc] at bN bO
  have hrN := (hr0.alloc (.cells #[v0] 27)).alloc (.cells #[.int .i64 n] 34)
  have H0 := hid h0
  subst hv0
  clear h0 hr0
  refine (callsIn_wide (n := 5)).1 ?_
  refine callsIn_of_wp_marks Try.func37 rfl trivial ?_ rfl
  simp only [Try.ntmps37, List.size_toArray, List.length_cons, List.length_nil, Nat.reduceAdd, Nat.reduceSub, Array.replicate_succ, Array.replicate_zero, List.push_toArray, List.append_toArray, List.nil_append, List.cons_append]
  gi_wp2_with (refine ⟨trivial, ?_⟩; gi_at_call 57; refine (callsIn_wide.2 (pp_make _ _)).mono ?_; rintro e w' ⟨rfl, rfl⟩)
  refine wpIn_rangeFunc_ownG rfl (by omega) (gf := 65) (lb := #[.pointer (some ⟨w.heap.size + 1 + 1, 0, none⟩)]) rfl trivial (enters_of Try.func65 (by kernel_rfl) rfl)
    (pp_stops _ (w.heap.size + 1 + 1) n H0.out (by omega) (by omega) _ (by simp) bN.cell) walksK_t walksK_b (Below.refl _ _) (fun _ => rfl)
    (fun pre W => (∃ v, Boxed W (w.heap.size + 1) 27 v ∧ W.ownsRow w.heap.size 3 1 v (plcs (fsts pre)).length ((plcs (fsts pre)).map (Value.int .i64)) ∧ True) ∧ Below w.heap.size w W)
    (fun _ _ _ => False)
    (OwnFrom.and (Own.from (holdsRow_own w.heap.size (w.heap.size + 1) 27 3 1 (fun pre => (plcs (fsts pre)).length) (fun pre => (plcs (fsts pre)).map (Value.int .i64)) (fun _ _ => True)) _) (ownFrom_below (Nat.le_refl _) (by simp; omega)))
    (fun _ _ _ _ _ hs _ _ => hs)
    ⟨⟨_, bO, hrN, trivial⟩, hB0⟩ ?a1 ?assign ?body ?done ?stop
  case assign =>
    intro l x W K hK
    gi_wp2
    exact hK
  case body =>
    rintro l pre x W ⟨⟨v, hv, hrow, _⟩, hB⟩ hlt
    have hc := hv.cell
    have hpl := ppow_len n.natAbs
    have hll := plcs_len (fsts pre)
    rw [fsts_len] at hll
    by_cases hx : 2 < x.1.1
    · have hxi : (2 : Int) < (x.1.1 : Int) := by omega
      have HX := hid hx
      clear hx
      gi_wp2_with (gi_at_builtin; refine wpListIn_append_own _ rfl _ _ 27 rfl w.heap.size 3 i0 (.int .i64 0) 1 8 Try.underlying27 hi hz0 hz1 hz2 rfl (by decide) _ _ _ rfl (hrow.alloc _) ⟨W.heap.size, 0, none⟩ 1 1 [.int .i64 x.1.1] rfl rfl (cell_one_new _ _ _) (by simp [Value.oneCell']) (by unfold maxLen; omega) (by omega) (by have := hB.size; simp; omega) ?_; intro v' w1 hown' hgrow _; obtain ⟨g', cap', rfl⟩ := ownsRow_succ hown'; obtain ⟨hv1, hv2, hr2, hk2, hb2⟩ := hv.appended (by decide) hrow hB.size (by omega) hown' hgrow; have hc1 := hv1.cell; have hf1 := hv1.frozen)
      exact ⟨hk2.from _, hk2.walks, ⟨_, hv2, by rw [fsts_snoc, plcs_yes HX.out]; simpa using hr2, trivial⟩, hB.trans hb2⟩
    · have hxi : ¬ (2 : Int) < (x.1.1 : Int) := by omega
      have HX := hid hx
      clear hx
      gi_wp2
      exact ⟨KeepsFrom.refl _ _, KeepsWalks.refl _, ⟨v, hv, by rw [fsts_snoc, plcs_no HX.out]; exact hrow⟩, hB⟩
  case done =>
    rintro D ys W hD hS ⟨⟨v, hv, hrow, _⟩, hB⟩ hK
    have hc := hv.cell
    rw [fsts_all hS] at hrow
    have HP2 := HPL
    gi_wp2
    refine ⟨by simp, .inl ⟨_, _, rfl, run_takeDeferred hK, ?_⟩⟩
    refine ⟨_, results_tmp rfl _ _ _, ?_⟩
    exact ⟨v, rfl, by unfold Owns; rw [HPL.out]; exact ownsRow_putObj hrow _ hK rfl, hB.trans (belowK_b (w := w) (Nat.le_refl _) W D _ _ (by simp at hD; omega) hK rfl rfl)⟩
  case stop =>
    rintro D c pre W _ _ h _
    exact h.elim

set_option maxRecDepth 100000 in
set_option maxHeartbeats 1000000 in
theorem localPlaces_any (n : Int) (w : World) :
    Calls Try.prog 17 #[.int .i64 n] w fun e w' => ∃ v, e = .returned v ∧ Owns w' w.heap.size v (lplacesL n) ∧ Below w.heap.size w w' := by
  have HB0 := hid ((Below.refl w.heap.size w).alloc (Nat.le_refl _) (.cells #[] 3))
  have HO0 : Hid (Owns (w.alloc (.cells #[] 3)) w.heap.size (.slice (some ⟨w.heap.size, 0, none⟩) 0 0) []) := hid (World.ownsRow_made (size := 1) w #[] 0 (Nat.le_refl _) (by unfold maxLen; omega) rfl)
  cases hF : factB n with
  | false =>
    have HP : Hid (lplacesL n = []) := hid (by unfold lplacesL; rw [hF]; rfl)
    have HF := hid hF
    clear hF
    go_enter Try.func17, Try.ntmps17
    go_wp2_with (go_at_call 29; refine (factored_any _ _).mono ?_; rw [HF.out]; rintro e w' ⟨rfl, rfl⟩)
    go_ret
    exact ⟨_, rfl, by rw [HP.out]; exact HO0.out, HB0.out⟩
  | true =>
    obtain ⟨h0, h1, h2⟩ := factB_bd hF
    obtain ⟨i0, hi, hz0, hz1, hz2⟩ := info_parts infoInt
    have H0 := hid h0
    have HF := hid hF
    have HP : Hid (lplacesL n = (placesOf n).filter (fun q => !sqAt n q)) := hid (by unfold lplacesL; rw [hF]; rfl)
    obtain ⟨hpl, hpp⟩ := placesOf_ok h0 h1 h2
    have HPP := hid hpp
    clear h0 hF hpp
    go_enter Try.func17, Try.ntmps17
    go_wp2_with (first | (go_at_call 29; refine (factored_any _ _).mono ?_; rw [HF.out]; rintro e w' ⟨rfl, rfl⟩) | (go_at_call 37; refine (placesOf_any _ H0.out h1 h2 _).mono ?_; rintro e w2 ⟨v, rfl, ho, hb⟩))
    have hs0 := hb.size
    rw [World.size_alloc] at hs0
    have HO1 := hid (HO0.out.keep HO0.out.lt hb)
    have HB1 := hid (HB0.out.trans (hb.mono (by simp)))
    have HG := hid ho.ge
    obtain ⟨ps, hps⟩ : ∃ ps, ps = placesOf n := ⟨_, rfl⟩
    rw [← hps] at ho hpl HP HPP
    obtain ⟨a, cap, rfl, hform⟩ := ho.rd.form
    have HFM := hid hform
    have HLT := hid ho.lt
    clear ho hform hb hps
    go_wp2_with fail
    simp only [Builtin.len_]
    go_simp
    go_wp2_with fail
    go_loopw [3, 14] (fun so si wr => ∃ K : Nat, si = .int .i64 K ∧ K ≤ ps.length ∧ Hid (Owns wr w.heap.size so ((ps.take K).filter (fun q => !sqAt n q))) ∧
        Hid (∀ b o, a = some ⟨b, o, none⟩ → so.ownBlock ≠ some b ∧ wr.heap[b]? = w2.heap[b]?) ∧ w2.heap.size ≤ wr.heap.size ∧ Hid (Below w.heap.size w wr)) (fun _ si _ => ps.length - (intOf si).toNat)
    case atStart =>
      refine ⟨0, rfl, by omega, hid (by simpa using HO1.out), hid (fun b o e => ⟨?_, rfl⟩), Nat.le_refl _, HB1⟩
      have := HG.out b (by rw [e]; rfl)
      simp only [World.size_alloc] at this
      show some w.heap.size ≠ some b
      intro h
      cases h
      omega
    case round =>
      obtain ⟨K, rfl, hK, HO, HA, hsz, HB⟩ := hrel
      rename World => wr
      by_cases hlt : K < ps.length
      · obtain ⟨b, o, rfl, hml, hc⟩ := HFM.out (by omega)
        obtain ⟨x, hx⟩ : ∃ x, x = ps.getD K 0 := ⟨_, rfl⟩
        have hxm : x ∈ ps := by rw [hx, getD_at _ _ hlt]; exact List.getElem_mem _
        have hxp := HPP.out x hxm
        have hx2 := plI_bd hxp
        have hx3 := hx2.1
        have hx4 := hx2.2
        have HXP := hid hxp
        have hcell := (World.cell?_of_block (HA.out b o rfl).2).trans (hc K hlt)
        rw [← hx] at hcell
        have hstep := filter_step (f := fun q => !sqAt n q) hlt
        rw [← hx] at hstep
        have HS := hid hstep
        have HL := hid (filter_len (f := fun q => !sqAt n q) (show K ≤ ps.length by omega))
        have hi0 : (K : Int) < (ps.length : Int) := by omega
        have hlt2 := HLT.out b rfl
        unfold maxLen at hml
        clear hc hx hxm hxp hstep hx2
        go_wp2_with fail
        go_at_call 34
        refine (plSquare_any _ _ H0.out (by omega) (by omega) HXP.out _).mono ?_
        rintro e wq ⟨rfl, hbq⟩
        have hsq0 := hbq.size
        have HOq := hid (HO.out.keep HO.out.lt hbq)
        have HAq : Hid (∀ b' o', (some (⟨b, o, none⟩ : Addr)) = some ⟨b', o', none⟩ → u3.ownBlock ≠ some b' ∧ wq.heap[b']? = w2.heap[b']?) := hid (fun b' o' e => ⟨(HA.out b' o' e).1, (hbq.block b' (by cases e; omega)).trans (HA.out b' o' e).2⟩)
        have HBq := hid (HB.out.trans (hbq.mono HB.out.size))
        clear hbq
        have hsq : sqAt n x = true ∨ sqAt n x = false := by cases sqAt n x <;> simp
        rcases hsq with hsq | hsq
        · have HE : Hid ((ps.take (K + 1)).filter (fun q => !sqAt n q) = (ps.take K).filter (fun q => !sqAt n q)) := hid (by rw [HS.out, hsq]; simp)
          rw [hsq]
          clear hsq
          go_wp2_with fail
          go_round
          case measure => simp only [intOf]; omega
          case rel => exact ⟨K + 1, by go_num, by omega, hid (by rw [HE.out]; exact HOq.out), HAq, by omega, HBq⟩
        · have HE : Hid ((ps.take (K + 1)).filter (fun q => !sqAt n q) = (ps.take K).filter (fun q => !sqAt n q) ++ [x]) := hid (by rw [HS.out, hsq]; simp)
          obtain ⟨pre, hpre⟩ : ∃ pre, pre = (ps.take K).filter (fun q => !sqAt n q) := ⟨_, rfl⟩
          have hprel : pre.length ≤ 72 := by rw [hpre]; have := HL.out; omega
          rw [← hpre] at HOq
          have hbs : w.heap.size ≤ wq.heap.size := HBq.out.size
          rw [hsq]
          clear hsq
          go_wp2_with (at_builtin; refine wpList_append_own_at _ rfl _ _ 27 rfl w.heap.size 3 i0 (.int .i64 0) 1 8 Try.underlying27 hi hz0 hz1 hz2 rfl (by decide) _ _ _ rfl ((show World.ownsRow _ _ _ _ _ _ _ from HOq.out).alloc _) ⟨wq.heap.size, 0, none⟩ 1 1 [.int .i64 x] rfl rfl (cell_one_new _ _ _) (by simp [Value.oneCell']) (by unfold maxLen; omega) (by omega) (by simp; omega) ?_; intro v' w3 hown' hgrow _ hat)
          have hsg := hgrow.size
          simp only [World.size_alloc] at hsg
          go_round
          case measure => simp only [intOf]; omega
          case rel =>
            refine ⟨K + 1, by go_num, by omega, hid ?_, hid (fun b' o' e => ?_), by omega, hid (HBq.out.alloc hbs _ |>.grown hgrow (by simp; omega) (fun k e => (HOq.out.ge k e)))⟩
            · rw [HE.out, ← hpre]
              unfold Owns
              simpa using hown'
            · cases e
              obtain ⟨q1, q2⟩ := HAq.out b o rfl
              refine ⟨?_, ?_⟩
              · rcases hat with e | e
                · rw [e]; exact q1
                · rw [e]; intro h; cases h; simp at hlt2; omega
              · rw [hgrow.block b (by simp; omega) (Ne.symm q1), ← q2, Below.heap_alloc _ _ _ (by omega)]
      · obtain rfl : K = ps.length := by omega
        have HE : Hid (lplacesL n = (ps.take ps.length).filter (fun q => !sqAt n q)) := hid (by rw [HP.out, List.take_length])
        clear hlt
        go_wp2_with fail
        go_ret
        exact ⟨_, rfl, by rw [HE.out]; exact HO.out, HB.out⟩

end Go.Proofs.Ytamdjgcnjgiflab
