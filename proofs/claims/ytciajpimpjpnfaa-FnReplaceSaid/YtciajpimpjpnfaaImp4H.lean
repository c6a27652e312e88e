/-
  Contracts of the program's chapter 4: the same form.
-/
import Derived.Test.YtciajpimpjpnfaaImp4E
import Derived.Test.YtciajpimpjpnfaaImp4F
import Derived.Test.YtciajpimpjpnfaaImp4G
import Derived.Test.YtciajpimpjpnfaaFmSame
set_option linter.unusedVariables false
namespace Go.Proofs.Ytciajpimpjpnfaa
open Go.RowKit

theorem Owns.beside2 {W W' : World} {B m m' : Nat} {v : Value} {xs : List Int} (h : Owns W B v xs) (hb : Beside2 m m' W W') (h1 : ∀ g, v.ownBlock = some g → g ≠ m ∧ g ≠ m') : Owns W' B v xs := by
  have hlt := h.lt
  obtain ⟨h0, h2⟩ := h
  refine ⟨h0, ?_⟩
  rcases h2 with h2 | ⟨g, cap, cur, hv, hg, hh, r⟩
  · exact .inl h2
  · have := h1 g (by rw [hv]; rfl)
    exact .inr ⟨g, cap, cur, hv, hg, by rw [hb.2 g (hlt g (by rw [hv]; rfl)) this.1 this.2]; exact hh, r⟩

theorem mem_placesG {n q : Int} (hn : n ≠ 0) : q ∈ placesG n ↔ q = 0 ∨ q = 2 ∨ ∃ x : Nat, q = (x : Int) ∧ 2 < x ∧ PrG x ∧ x ∣ n.natAbs := by
  obtain ⟨s1, _, s3⟩ := plistG_spec (show 0 < n.natAbs by omega)
  unfold placesG
  simp only [List.cons_append, List.nil_append, List.mem_cons]
  constructor
  · rintro (h | h | h)
    · exact .inl h
    · exact .inr (.inl h)
    · obtain ⟨h1, h2⟩ := List.mem_filter.1 h
      unfold natsI at h1
      obtain ⟨x, hx, rfl⟩ := List.mem_map.1 h1
      have := s1 x hx
      exact .inr (.inr ⟨x, rfl, by have := of_decide_eq_true h2; omega, this.1, this.2⟩)
  · rintro (h | h | ⟨x, rfl, h2, hp, hd⟩)
    · exact .inl h
    · exact .inr (.inl h)
    · right; right
      refine List.mem_filter.2 ⟨?_, decide_eq_true (by omega)⟩
      unfold natsI
      exact List.mem_map.2 ⟨x, s3 x hp hd, rfl⟩
theorem mem_places_prod {xs ys : List Int} (hf : fvB xs = true) (hg : fvB ys = true) (q : Int) : q ∈ placesG (prodI xs * prodI ys) ↔ q ∈ placesG (prodI xs) ∨ q ∈ placesG (prodI ys) := by
  have hx := (prod_full hf).1
  have hy := (prod_full hg).1
  rw [mem_placesG (Int.mul_ne_zero hx hy), mem_placesG hx, mem_placesG hy]
  constructor
  · rintro (h | h | ⟨x, rfl, h2, hp, hd⟩)
    · exact .inl (.inl h)
    · exact .inl (.inr (.inl h))
    · rw [Int.natAbs_mul] at hd
      rcases prG_mul hp hd with h | h
      · exact .inl (.inr (.inr ⟨x, rfl, h2, hp, h⟩))
      · exact .inr (.inr (.inr ⟨x, rfl, h2, hp, h⟩))
  · rintro ((h | h | ⟨x, rfl, h2, hp, hd⟩) | (h | h | ⟨x, rfl, h2, hp, hd⟩))
    · exact .inl h
    · exact .inr (.inl h)
    · exact .inr (.inr ⟨x, rfl, h2, hp, by rw [Int.natAbs_mul]; exact Nat.dvd_trans hd (Nat.dvd_mul_right _ _)⟩)
    · exact .inl h
    · exact .inr (.inl h)
    · exact .inr (.inr ⟨x, rfl, h2, hp, by rw [Int.natAbs_mul]; exact Nat.dvd_trans hd (Nat.dvd_mul_left _ _)⟩)
/-- the places of a product are those of both -/
theorem fsame_all {xs ys : List Int} (hf : fvB xs = true) (hg : fvB ys = true) : (placesG (prodI xs * prodI ys)).all (alikeB xs ys) = (placesG (prodI xs) ++ placesG (prodI ys)).all (alikeB xs ys) := by
  rw [Bool.eq_iff_iff, List.all_eq_true, List.all_eq_true]
  have h : ∀ q, q ∈ placesG (prodI xs * prodI ys) ↔ q ∈ placesG (prodI xs) ++ placesG (prodI ys) := fun q => by
    rw [List.mem_append]
    exact mem_places_prod hf hg q
  exact ⟨fun hh q hq => hh q ((h q).2 hq), fun hh q hq => hh q ((h q).1 hq)⟩

set_option maxRecDepth 100000 in
set_option maxHeartbeats 4000000 in
theorem formSame_any (va vb : Value) (xs ys : List Int) (w : World) (hx : Rd w va xs) (hy : Rd w vb ys) (l1 : xs.length ≤ 1048576) (l2 : ys.length ≤ 1048576) : Calls Try.prog 55 #[va, vb] w fun e w' => e = .returned (.bool (fsameV xs ys)) ∧ Below w.heap.size w w' := by
  have hcall := quadraticsOf_any va vb xs ys w hx hy
  clear hx hy
  cases hb : bothB xs ys with
  | false =>
    have HR : Hid (fsameV xs ys = false) := hid (by unfold fsameV; rw [hb]; rfl)
    have HC : Hid (Calls Try.prog 93 #[va, vb] w fun e w' => e = .returned (.tuple #[.nilIface, .nilIface, .bool false]) ∧ Below w.heap.size w w') := hid (hcall.mono (by
      rintro e w' (⟨_, h2, h3⟩ | ⟨h, _⟩)
      · exact ⟨h2, h3⟩
      · rw [hb] at h; cases h))
    clear hb hcall
    go_enter Try.func55, Try.ntmps55
    go_wp2_with fail
    refine (HC.out).mono ?_
    rintro e w' ⟨rfl, hb1⟩
    have HB1 := hid hb1
    clear hb1
    go_wp2_with fail
    go_ret
    exact ⟨retB HR.out.symm, HB1.out⟩
  | true =>
    have HC : Hid (Calls Try.prog 93 #[va, vb] w fun e w' => ∃ m1 m2, m1 ≠ m2 ∧ e = .returned (.tuple #[quadV va m1, quadV vb m2, .bool true]) ∧ Quad w w' m1 0 va xs ∧ Quad w w' m2 0 vb ys) := hid (hcall.mono (by
      rintro e w' (⟨h, _⟩ | ⟨_, h⟩)
      · rw [hb] at h; cases h
      · exact h))
    have hfg : fvB xs = true ∧ fvB ys = true := by
      unfold bothB at hb
      rw [Bool.and_eq_true, Bool.and_eq_true] at hb
      exact ⟨hb.1, hb.2.1⟩
    have HF := hid hfg.1
    have HG := hid hfg.2
    have HS : Hid (fsameV xs ys = (decide (coreG (prodI xs) = coreG (prodI ys)) && (placesG (prodI xs) ++ placesG (prodI ys)).all (alikeB xs ys))) := hid (by unfold fsameV; rw [hb, Bool.true_and, fsame_all hfg.1 hfg.2])
    have HP := hid (prod_full hfg.1)
    have HR := hid (prod_full hfg.2)
    have HPA : Hid (∀ q ∈ placesG (prodI xs) ++ placesG (prodI ys), plI q = true) := hid (fun q hq => by
      rcases List.mem_append.1 hq with h | h
      · exact places_fv hfg.1 q h
      · exact places_fv hfg.2 q h)
    have hs1 := placesG_short (prodI xs)
    have hs2 := placesG_short (prodI ys)
    have hpx := HP.out
    have hpy := HR.out
    have hlen : (placesG (prodI xs)).length + (placesG (prodI ys)).length ≤ 1700000 := by omega
    have HL1 : Hid (1 ≤ (placesG (prodI xs)).length) := hid (by
      have : placesG (prodI xs) = plcs ((ppowG (prodI xs).natAbs).map (·.1)) := by unfold plcs placesG; rw [plistG_eq]
      rw [this]; unfold plcs; simp)
    have HLEN := hid hlen
    obtain ⟨c, hc⟩ : ∃ c, c = coreG (prodI xs) := ⟨_, rfl⟩
    obtain ⟨d, hd⟩ : ∃ d, d = coreG (prodI ys) := ⟨_, rfl⟩
    have HCE := hid hc.symm
    have HDE := hid hd.symm
    rw [← hc, ← hd] at HS
    clear hb hcall hfg hs1 hs2 hpx hpy hc hd hlen
    by_cases hcd : c = d
    · have HV : Hid (fsameV xs ys = (placesG (prodI xs) ++ placesG (prodI ys)).all (alikeB xs ys)) := hid (by rw [HS.out, decide_eq_true hcd, Bool.true_and])
      have T : (c == d) = true := by rw [beq_iff_eq]; exact hcd
      clear hcd HS
      go_enter Try.func55, Try.ntmps55
      go_wp2_with fail
      refine (HC.out).mono ?_
      rintro e w' ⟨m1, m2, hne, rfl, ha, hc⟩
      have A1 := hid ha
      have B1 := hid hc
      have HNE := hid hne
      clear ha hc hne
      go_wp2_with fail
      refine (discriminantOf_any va xs _ _ A1.out.read HF.out).mono ?_
      rw [HCE.out]
      rintro e w' ⟨rfl, hb⟩
      have A2 := hid (A1.out.step hb)
      have B2 := hid (B1.out.step hb)
      clear hb A1 B1
      go_wp2_with fail
      refine (discriminantOf_any vb ys _ _ B2.out.read HG.out).mono ?_
      rw [HDE.out]
      rintro e w' ⟨rfl, hb⟩
      have A3 := hid (A2.out.step hb)
      have B3 := hid (B2.out.step hb)
      clear hb A2 B2
      unfold quadV
      go_wp2_with fail
      refine (diaProduct_any va xs _ _ A3.out.read HF.out).mono ?_
      rintro e w' ⟨rfl, hb⟩
      have A4 := hid (A3.out.step hb)
      have B4 := hid (B3.out.step hb)
      clear hb A3 B3
      go_wp2_with fail
      refine (placesOfG_any _ HP.out.1 (by have := HP.out; omega) (by have := HP.out; omega) _).mono ?_
      rintro e w' ⟨u, rfl, ho, hb⟩
      rename World => w5
      have A5 := hid (A4.out.step hb)
      have B5 := hid (B4.out.step hb)
      have O5 := hid ho
      obtain ⟨au, ucap, rfl, _⟩ := ho.rd.form
      clear hb ho A4 B4
      go_wp2_with fail
      refine (diaProduct_any vb ys _ _ B5.out.read HG.out).mono ?_
      rintro e w' ⟨rfl, hb⟩
      have A6 := hid (A5.out.step hb)
      have B6 := hid (B5.out.step hb)
      have O6 := hid (O5.out.keep O5.out.lt hb)
      clear hb A5 B5 O5
      go_wp2_with fail
      refine (placesOfG_any _ HR.out.1 (by have := HR.out; omega) (by have := HR.out; omega) _).mono ?_
      rintro e w' ⟨u2, rfl, ho, hb⟩
      rename World => w7
      have A7 := hid (A6.out.step hb)
      have B7 := hid (B6.out.step hb)
      have O7 := hid (O6.out.keep O6.out.lt hb)
      have P7 := hid ho
      obtain ⟨au2, ucap2, rfl, _⟩ := ho.rd.form
      clear hb ho A6 B6 O6
      obtain ⟨X, hX⟩ : ∃ X, X = placesG (prodI xs) := ⟨_, rfl⟩
      obtain ⟨Y, hY⟩ : ∃ Y, Y = placesG (prodI ys) := ⟨_, rfl⟩
      rw [← hX] at O7 HV HPA HLEN HL1 ⊢
      rw [← hY] at P7 HV HPA HLEN ⊢
      clear hX hY
      have hl1 := HL1.out
      have hl2 := HLEN.out
      have hBn := hid ((Below.refl w7.heap.size w7).alloc (Nat.le_refl _) (.cells #[.slice au X.length ucap, .slice au2 Y.length ucap2] 25))
      have A8 := hid (A7.out.step hBn.out)
      have B8 := hid (B7.out.step hBn.out)
      have O8 := hid (O7.out.rd.keep hBn.out)
      have P8 := hid (P7.out.rd.keep hBn.out)
      have FO := hid O7.out.firm
      have FP := hid P7.out.firm
      have hnew := heap_alloc_new w7 (.cells #[.slice au X.length ucap, .slice au2 Y.length ucap2] 25)
      have C0 := hid (cell_of_row hnew 0 _ rfl)
      have C1 := hid (cell_of_row hnew 1 _ rfl)
      have hm1 := A7.out.lt
      have hm2 := B7.out.lt
      clear hnew
      go_wp2_with fail
      refine (concat_any w7.heap.size _ _ X Y _ C0.out C1.out O8.out P8.out FO.out FP.out (by omega) (by omega)).mono ?_
      rintro e w' ⟨z, rfl, ho, hb⟩
      rename World => w9
      have hs9 := hb.size
      simp only [World.size_alloc] at hs9
      have A9 := hid (A8.out.step hb)
      have B9 := hid (B8.out.step hb)
      have HG9 := hid ho.ge
      have HLT9 := hid ho.lt
      obtain ⟨ps, hps⟩ : ∃ ps, ps = X ++ Y := ⟨_, rfl⟩
      have hpl : ps.length ≤ 1700000 := by rw [hps, List.length_append]; omega
      rw [← hps] at ho HV HPA
      obtain ⟨ad, cap, rfl, hform⟩ := ho.rd.form
      have HFM := hid hform
      have HBG : Hid (∀ bb o, ad = some ⟨bb, o, none⟩ → m1 < bb ∧ m2 < bb ∧ bb < w9.heap.size) := hid (fun bb o e => by
        have h1 := HG9.out bb (by rw [e]; rfl)
        have h2 := HLT9.out bb (by rw [e]; rfl)
        simp only [World.size_alloc] at h1
        omega)
      clear ho hform hb hps A7 B7 O7 P7 A8 B8 O8 P8 C0 C1 HG9 HLT9 FO FP
      go_wp2_with fail
      try simp only [Builtin.len_]
      try go_simp
      try go_wp2_with fail
      go_loopw [35] (fun si wr => ∃ K : Nat, si = .int .i64 K ∧ K ≤ ps.length ∧ Hid (∀ i, i < K → alikeB xs ys (ps.getD i 0) = true) ∧
          Hid (∀ bb o, ad = some ⟨bb, o, none⟩ → wr.heap[bb]? = w9.heap[bb]?) ∧ w9.heap.size ≤ wr.heap.size ∧ Hid (Quad w wr m1 K va xs) ∧ Hid (Quad w wr m2 K vb ys)) (fun si _ => ps.length - (intOf si).toNat)
      case atStart => exact ⟨0, rfl, by omega, hid (fun i hi => by omega), hid (fun bb o e => rfl), Nat.le_refl _, A9, B9⟩
      case round =>
        obtain ⟨K, rfl, hK, HE, HAs, hsz, HQA, HQB⟩ := hrel
        rename World => wr
        by_cases hlt : K < ps.length
        · obtain ⟨bb, o, rfl, hml, hc⟩ := HFM.out (by omega)
          obtain ⟨x, hx⟩ : ∃ x, x = ps.getD K 0 := ⟨_, rfl⟩
          have hxm : x ∈ ps := by rw [hx, getD_at _ _ hlt]; exact List.getElem_mem _
          have HXP := hid (HPA.out x hxm)
          have HXM := hid hxm
          have HX := hid hx
          have hcell := (World.cell?_of_block (HAs.out bb o rfl)).trans (hc K hlt)
          rw [← hx] at hcell
          have hi0 : (K : Int) < (ps.length : Int) := by omega
          have hbg := HBG.out bb o rfl
          have hbg1 := hbg.1
          have hbg2 := hbg.2.1
          have hbg3 := hbg.2.2
          unfold maxLen at hml
          clear hc hx hxm hbg
          go_wp2_with fail
          refine (alikeAt_any va vb xs ys x m1 m2 K w _ HQA.out HQB.out HNE.out HXP.out (by omega)).mono ?_
          rintro e w' ⟨rfl, hqa, hqb, hbs⟩
          rename World => wq
          have HQA2 := hid hqa
          have HQB2 := hid hqb
          have hsq0 := hbs.1
          have HAq : Hid (∀ b' o', (some (⟨bb, o, none⟩ : Addr)) = some ⟨b', o', none⟩ → wq.heap[b']? = w9.heap[b']?) := hid (fun b' o' e => (hbs.2 b' (by cases e; omega) (by cases e; omega) (by cases e; omega)).trans (HAs.out b' o' e))
          clear hqa hqb hbs
          have hal : alikeB xs ys x = true ∨ alikeB xs ys x = false := by cases alikeB xs ys x <;> simp
          rcases hal with hal | hal
          · have HE2 : Hid (∀ i, i < K + 1 → alikeB xs ys (ps.getD i 0) = true) := hid (fun i hi => by
              by_cases e : i = K
              · rw [e, ← HX.out]; exact hal
              · exact HE.out i (by omega))
            rw [hal]
            clear hal
            go_wp2_with fail
            go_round
            case measure => simp only [intOf]; omega
            case rel => exact ⟨K + 1, by go_num, by omega, HE2, HAq, by omega, HQA2, HQB2⟩
          · have HV2 : Hid (fsameV xs ys = false) := hid (by
              rw [HV.out, List.all_eq_false]
              exact ⟨x, HXM.out, by rw [hal]; decide⟩)
            rw [hal]
            clear hal
            go_wp2_with fail
            go_ret
            exact ⟨retB HV2.out.symm, HQA2.out.bel⟩
        · obtain rfl : K = ps.length := by omega
          have HV2 : Hid (fsameV xs ys = true) := hid (by
            rw [HV.out, List.all_eq_true]
            intro x hx
            obtain ⟨i, hi, rfl⟩ := List.getElem_of_mem hx
            have := HE.out i hi
            rwa [getD_at _ _ hi] at this)
          clear hlt
          go_wp2_with fail
          go_ret
          exact ⟨retB HV2.out.symm, HQA.out.bel⟩
    · have HV : Hid (fsameV xs ys = false) := hid (by rw [HS.out, decide_eq_false hcd, Bool.false_and])
      have T : (c == d) = false := by rw [beq_eq_false_iff_ne]; exact hcd
      clear hcd HS
      go_enter Try.func55, Try.ntmps55
      go_wp2_with fail
      refine (HC.out).mono ?_
      rintro e w' ⟨m1, m2, hne, rfl, ha, hc⟩
      have A1 := hid ha
      have B1 := hid hc
      clear ha hc hne
      go_wp2_with fail
      refine (discriminantOf_any va xs _ _ A1.out.read HF.out).mono ?_
      rw [HCE.out]
      rintro e w' ⟨rfl, hb⟩
      have A2 := hid (A1.out.step hb)
      have B2 := hid (B1.out.step hb)
      clear hb A1 B1
      go_wp2_with fail
      refine (discriminantOf_any vb ys _ _ B2.out.read HG.out).mono ?_
      rw [HDE.out]
      rintro e w' ⟨rfl, hb⟩
      have A3 := hid (A2.out.step hb)
      clear hb
      go_wp2_with fail
      go_ret
      exact ⟨retB HV.out.symm, A3.out.bel⟩

end Go.Proofs.Ytciajpimpjpnfaa
