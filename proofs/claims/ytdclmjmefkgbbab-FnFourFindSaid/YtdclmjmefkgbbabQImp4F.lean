/-
  Contracts of the program's chapter 4: lists of cores, multiples, places at which a form doesn't vanish.
-/
import Derived.Test.YtdclmjmefkgbbabQImp4C
set_option linter.unusedVariables false
namespace Go.Proofs.Ytdclmjmefkgbbab
open Go.RowKit

theorem coreG_bd {n B : Int} (h0 : n ≠ 0) (h1 : -B ≤ n) (h2 : n ≤ B) : -B ≤ coreG n ∧ coreG n ≤ B := by
  have hcb := core_is h0
  have e : n.natAbs = (coreG n).natAbs * (rootG n * rootG n) := by
    conv => lhs; rw [← hcb.eq]
    rw [Int.natAbs_mul, Int.natAbs_mul, Int.natAbs_natCast]
  have := Nat.le_mul_of_pos_right (coreG n).natAbs (Nat.mul_pos hcb.pos hcb.pos)
  omega




theorem placesG_short (n : Int) : (placesG n).length ≤ n.natAbs + 3 := by
  have h : placesG n = plcs ((ppowG n.natAbs).map (·.1)) := by unfold plcs placesG; rw [plistG_eq]
  have h1 := plcs_len ((ppowG n.natAbs).map (·.1))
  have h2 := ppowG_len n.natAbs
  rw [List.length_map] at h1
  rw [h]
  omega

theorem Owns.beside {W W' : World} {B m : Nat} {v : Value} {xs : List Int} (h : Owns W B v xs) (hb : Beside m W W') (hne : v.ownBlock ≠ some m) : Owns W' B v xs := by
  have hlt := h.lt
  obtain ⟨h1, h2⟩ := h
  refine ⟨h1, ?_⟩
  rcases h2 with h2 | ⟨g, cap, cur, hv, hg, hh, r⟩
  · exact .inl h2
  · exact .inr ⟨g, cap, cur, hv, hg, by rw [hb.2 g (hlt g (by rw [hv]; rfl)) (fun e => hne (by rw [hv, ← e]; rfl))]; exact hh, r⟩

set_option maxRecDepth 100000 in
set_option maxHeartbeats 4000000 in
theorem formBad_any (v : Value) (xs : List Int) (w : World) (h : Rd w v xs) (hl : xs.length ≤ 1048576) : Calls Try.prog 22 #[v] w fun e w' => ∃ u, e = .returned u ∧ Owns w' w.heap.size u (badL xs) ∧ Below w.heap.size w w' := by
  obtain ⟨i0, hi, hz0, hz1, hz2⟩ := info_parts infoInt
  have HB0 := hid ((Below.refl w.heap.size w).alloc (Nat.le_refl _) (.cells #[] 3))
  have HO0 : Hid (Owns (w.alloc (.cells #[] 3)) w.heap.size (.slice (some ⟨w.heap.size, 0, none⟩) 0 0) []) := hid (World.ownsRow_made (size := 1) w #[] 0 (Nat.le_refl _) (by unfold maxLen; omega) rfl)
  have HH := hid h
  have HH1 := hid (h.keep (w' := w.alloc (.cells #[] 3)) HB0.out)
  have HP : Hid (badL xs = (fplL xs).filter (fun q => !vanB xs q)) := rfl
  cases hf : fvB xs with
  | false =>
    have HF := hid hf
    have HR : Hid (badL xs = []) := hid (by rw [HP.out]; unfold fplL; rw [hf]; rfl)
    clear hf h
    go_enter Try.func22, Try.ntmps22
    go_wp2_with fail
    refine (quadraticOf_no v xs _ HH1.out HF.out).mono ?_
    rintro e w' ⟨rfl, rfl⟩
    go_wp2_with fail
    go_ret
    exact ⟨_, rfl, by rw [HR.out]; exact HO0.out, HB0.out⟩
  | true =>
    have HF := hid hf
    have HPL : Hid (fplL xs = placesG (prodI xs)) := hid (by unfold fplL; rw [hf]; rfl)
    have hpp := (@fpl_all xs).2
    rw [HPL.out] at hpp HP
    have hpl := placesG_short (prodI xs)
    have hprb := prod_full hf
    have HPP := hid hpp
    have HPR := hid (prod_full hf)
    have Q0 := hid (quad_new HH.out hf HB0.out)
    have O0 := hid (HO0.out.keep (C := w.heap.size + 1) (fun g e => by have := HO0.out.lt g e; simpa using this) ((Below.refl (w.heap.size + 1) (w.alloc (.cells #[] 3))).alloc (by simp) (.map #[] 0)))
    replace hpl : (placesG (prodI xs)).length ≤ 900000 := by omega
    clear hpp h hf hprb
    go_enter Try.func22, Try.ntmps22
    go_wp2_with fail
    refine (quadraticOf_yes v xs _ HH1.out HF.out).mono ?_
    rintro e w' ⟨rfl, rfl⟩
    have Q1 : Hid (Quad w ((w.alloc (.cells #[] 3)).alloc (.map #[] 0)) (w.heap.size + 1) 0 v xs) := hid (by simpa using Q0.out)
    unfold quadV
    go_wp2_with fail
    refine (diaProduct_any v xs _ _ Q0.out.read HF.out).mono ?_
    rintro e w' ⟨rfl, hb⟩
    rename World => w2
    have hs2 := hb.size
    simp only [World.size_alloc] at hs2
    have Q2 := hid (Q1.out.step hb)
    have O2 := hid (O0.out.keep O0.out.lt hb)
    clear hb
    go_wp2_with fail
    refine (placesOfG_any _ HPR.out.1 (by have := HPR.out; omega) (by have := HPR.out; omega) _).mono ?_
    rintro e w' ⟨u, rfl, ho, hb⟩
    rename World => w3
    have hs3 := hb.size
    have Q3 := hid (Q2.out.step hb)
    have O3 := hid (O2.out.keep O2.out.lt hb)
    have HG := hid ho.ge
    have HLT := hid ho.lt
    obtain ⟨ps, hps⟩ : ∃ ps, ps = placesG (prodI xs) := ⟨_, rfl⟩
    rw [← hps] at ho hpl HP HPP
    obtain ⟨ad, cap, rfl, hform⟩ := ho.rd.form
    have HFM := hid hform
    have HBG : Hid (∀ bb o, ad = some ⟨bb, o, none⟩ → (w.heap.size + 1) < bb) := hid (fun bb o e => by have := HG.out bb (by rw [e]; rfl); omega)
    clear ho hform hb hps Q0 Q1 Q2 O0 O2
    go_wp2_with fail
    try simp only [Builtin.len_]
    try go_simp
    try go_wp2_with fail
    go_loopw [3, 21] (fun so si wr => ∃ K : Nat, si = .int .i64 K ∧ K ≤ ps.length ∧ Hid (Owns wr w.heap.size so ((ps.take K).filter (fun q => !vanB xs q))) ∧ Hid (so.ownBlock ≠ some (w.heap.size + 1)) ∧
        Hid (∀ bb o, ad = some ⟨bb, o, none⟩ → so.ownBlock ≠ some bb ∧ wr.heap[bb]? = w3.heap[bb]?) ∧ w3.heap.size ≤ wr.heap.size ∧ Hid (Quad w wr (w.heap.size + 1) K v xs)) (fun _ si _ => ps.length - (intOf si).toNat)
    case atStart =>
      refine ⟨0, rfl, by omega, hid (by simpa using O3.out), hid ?_, hid (fun bb o e => ⟨?_, rfl⟩), Nat.le_refl _, Q3⟩
      · show some w.heap.size ≠ some (w.heap.size + 1)
        intro h; have h2 := Option.some.inj h; omega
      · have := HBG.out bb o e
        show some w.heap.size ≠ some bb
        intro h
        cases h
        omega
    case round =>
      obtain ⟨K, rfl, hK, HO, HM, HAs, hsz, HQD⟩ := hrel
      rename World => wr
      by_cases hlt : K < ps.length
      · obtain ⟨bb, o, rfl, hml, hc⟩ := HFM.out (by omega)
        obtain ⟨x, hx⟩ : ∃ x, x = ps.getD K 0 := ⟨_, rfl⟩
        have hxm : x ∈ ps := by rw [hx, getD_at _ _ hlt]; exact List.getElem_mem _
        have hxp := HPP.out x hxm
        have HXP := hid hxp.2
        have hcell := (World.cell?_of_block (HAs.out bb o rfl).2).trans (hc K hlt)
        rw [← hx] at hcell
        have hstep := filter_step (f := fun q => !vanB xs q) hlt
        rw [← hx] at hstep
        have HS := hid hstep
        have HL := hid (filter_len (f := fun q => !vanB xs q) (show K ≤ ps.length by omega))
        have hi0 : (K : Int) < (ps.length : Int) := by omega
        have hlt2 := HLT.out bb rfl
        have hmb := HBG.out bb o rfl
        unfold maxLen at hml
        clear hc hx hxm hxp hstep
        go_wp2_with fail
        refine (vanishesAt_any v xs x (w.heap.size + 1) K w _ HQD.out HXP.out (by omega)).mono ?_
        rintro e w' ⟨rfl, hqd, hbs⟩
        rename World => wq
        have HQq := hid hqd
        have HOq := hid (HO.out.beside hbs HM.out)
        have hsq0 := hbs.1
        have HAq : Hid (∀ b' o', (some (⟨bb, o, none⟩ : Addr)) = some ⟨b', o', none⟩ → u3.ownBlock ≠ some b' ∧ wq.heap[b']? = w3.heap[b']?) := hid (fun b' o' e => ⟨(HAs.out b' o' e).1, (hbs.2 b' (by cases e; omega) (by cases e; omega)).trans (HAs.out b' o' e).2⟩)
        have hcell2 : wq.cell? ⟨bb, o + K, none⟩ = some (.int .i64 x) := (World.cell?_of_block (hbs.2 bb (by omega) (by omega))).trans hcell
        clear hqd hbs
        have hsq : vanB xs x = true ∨ vanB xs x = false := by cases vanB xs x <;> simp
        rcases hsq with hsq | hsq
        · have HE : Hid ((ps.take (K + 1)).filter (fun q => !vanB xs q) = (ps.take K).filter (fun q => !vanB xs q)) := hid (by rw [HS.out, hsq]; simp)
          rw [hsq]
          clear hsq
          go_wp2_with fail
          go_round
          case measure => simp only [intOf]; omega
          case rel => exact ⟨K + 1, by go_num, by omega, hid (by rw [HE.out]; exact HOq.out), HM, HAq, by omega, HQq⟩
        · have HE : Hid ((ps.take (K + 1)).filter (fun q => !vanB xs q) = (ps.take K).filter (fun q => !vanB xs q) ++ [x]) := hid (by rw [HS.out, hsq]; simp)
          obtain ⟨pre, hpre⟩ : ∃ pre, pre = (ps.take K).filter (fun q => !vanB xs q) := ⟨_, rfl⟩
          have hprel : pre.length ≤ 900000 := by rw [hpre]; have := HL.out; omega
          rw [← hpre] at HOq
          have hbs : w.heap.size ≤ wq.heap.size := HQq.out.bel.size
          have hmw := HQq.out.lt
          rw [hsq]
          clear hsq
          go_wp2_with (at_builtin; refine wpList_append_own_at _ rfl _ _ 27 rfl w.heap.size 3 i0 (.int .i64 0) 1 8 Try.underlying27 hi hz0 hz1 hz2 rfl (by decide) _ _ _ rfl ((show World.ownsRow _ _ _ _ _ _ _ from HOq.out).alloc _) ⟨wq.heap.size, 0, none⟩ 1 1 [.int .i64 x] rfl rfl (cell_one_new _ _ _) (by simp [Value.oneCell']) (by unfold maxLen; omega) (by omega) (by simp; omega) ?_; intro v' w4 hown' hgrow _ hat)
          have hsg := hgrow.size
          simp only [World.size_alloc] at hsg
          go_round
          case measure => simp only [intOf]; omega
          case rel =>
            have hB4 : Below w.heap.size w w4 := HQq.out.bel.alloc hbs _ |>.grown hgrow (by simp; omega) (fun k e => (HOq.out.ge k e))
            have hne : v'.ownBlock ≠ some (w.heap.size + 1) := by
              rcases hat with e | e
              · rw [e]; exact HM.out
              · rw [e]; intro h; have h2 := Option.some.inj h; simp at h2; omega
            refine ⟨K + 1, by go_num, by omega, hid ?_, hid hne, hid (fun b' o' e => ?_), by omega, hid ⟨HQq.out.rd, HQq.out.ok, HQq.out.ge, hB4, ?_⟩⟩
            · rw [HE.out, ← hpre]
              unfold Owns
              simpa using hown'
            · cases e
              obtain ⟨q1, q2⟩ := HAq.out bb o rfl
              refine ⟨?_, ?_⟩
              · rcases hat with e | e
                · rw [e]; exact q1
                · rw [e]; intro h; cases h; simp at hlt2; omega
              · rw [hgrow.block bb (by simp; omega) (Ne.symm q1), ← q2, Below.heap_alloc _ _ _ (by omega)]
            · obtain ⟨D, hD, hI⟩ := HQq.out.map
              exact ⟨D, ownsMap_of_block hD ((hgrow.block (w.heap.size + 1) (by simp; omega) (Ne.symm HM.out)).trans (Below.heap_alloc _ _ _ hmw)), hI⟩
      · obtain rfl : K = ps.length := by omega
        have HE : Hid (badL xs = (ps.take ps.length).filter (fun q => !vanB xs q)) := hid (by rw [HP.out, List.take_length])
        clear hlt
        go_wp2_with fail
        go_ret
        exact ⟨_, rfl, by rw [HE.out]; exact HO.out, HQD.out.bel⟩

end Go.Proofs.Ytdclmjmefkgbbab
