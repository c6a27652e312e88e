/-
  Contracts of the program's chapter 4: what the thirteen functions answer (those that build no list).
-/
import Derived.Test.YtciajpimpjpnfaaImp4C
set_option linter.unusedVariables false
namespace Go.Proofs.Ytciajpimpjpnfaa
open Go.RowKit

set_option maxRecDepth 100000 in
set_option maxHeartbeats 1000000 in
theorem formDisc_any (v : Value) (xs : List Int) (w : World) (h : Rd w v xs) (hl : xs.length ≤ 1048576) : Calls Try.prog 26 #[v] w fun e w' => e = .returned (.int .i64 (discV xs)) ∧ Below w.heap.size w w' := by
  have HH := hid h
  cases hf : fvB xs with
  | false =>
    have HF := hid hf
    have HR : Hid (discV xs = 0) := hid (by unfold discV; rw [hf]; rfl)
    clear hf h
    go_enter Try.func26, Try.ntmps26
    go_wp2_with fail
    refine (quadraticOf_no v xs _ HH.out HF.out).mono ?_
    rintro e w' ⟨rfl, rfl⟩
    go_wp2_with fail
    go_ret
    exact ⟨retI HR.out.symm, Below.refl _ _⟩
  | true =>
    have HF := hid hf
    have HR : Hid (discV xs = coreG (prodI xs)) := hid (by unfold discV; rw [hf]; rfl)
    have HB := hid ((Below.refl w.heap.size w).alloc (Nat.le_refl _) (.map #[] 0))
    clear hf h
    go_enter Try.func26, Try.ntmps26
    go_wp2_with fail
    refine (quadraticOf_yes v xs _ HH.out HF.out).mono ?_
    rintro e w' ⟨rfl, rfl⟩
    go_wp2_with fail
    refine (discriminantOf_any v xs _ _ (rd_alloc HH.out _) HF.out).mono ?_
    rintro e w' ⟨rfl, hb⟩
    have HB2 := hid (HB.out.trans (hb.mono HB.out.size))
    clear hb
    go_wp2_with fail
    go_ret
    exact ⟨retI HR.out.symm, HB2.out⟩

set_option maxRecDepth 100000 in
set_option maxHeartbeats 1000000 in
theorem formSigns_any (v : Value) (xs : List Int) (w : World) (h : Rd w v xs) (hl : xs.length ≤ 1048576) : Calls Try.prog 33 #[v] w fun e w' => e = .returned (signsV xs) ∧ Below w.heap.size w w' := by
  have HH := hid h
  cases hf : fvB xs with
  | false =>
    have HF := hid hf
    have HR : Hid (signsV xs = .tuple #[.int .i64 0, .bool false]) := hid (by unfold signsV; rw [hf]; rfl)
    clear hf h
    go_enter Try.func33, Try.ntmps33
    go_wp2_with fail
    refine (quadraticOf_no v xs _ HH.out HF.out).mono ?_
    rintro e w' ⟨rfl, rfl⟩
    go_wp2_with fail
    go_ret2
    exact ⟨retV HR.out.symm, Below.refl _ _⟩
  | true =>
    have HF := hid hf
    have HR : Hid (signsV xs = .tuple #[.int .i64 ((xs.length : Int) - 2 * (lessN xs : Int)), .bool true]) := hid (by unfold signsV; rw [hf]; rfl)
    have Q0 := hid (quad_new HH.out hf (Below.refl _ _))
    have hle := less_le xs
    have hl4 := (fvB_iff.1 hf).2.2
    obtain ⟨N, hN⟩ : ∃ N, N = lessN xs := ⟨_, rfl⟩
    have HN := hid hN.symm
    rw [← hN] at HR hle
    clear hf h hN
    go_enter Try.func33, Try.ntmps33
    go_wp2_with fail
    refine (quadraticOf_yes v xs _ HH.out HF.out).mono ?_
    rintro e w' ⟨rfl, rfl⟩
    unfold quadV
    go_wp2_with fail
    refine (diaCount_any v xs _ _ Q0.out.read).mono ?_
    rintro e w' ⟨rfl, hb⟩
    have Q1 := hid (Q0.out.step hb)
    clear hb
    go_wp2_with fail
    refine (diaLess_any v xs _ _ Q1.out.read HF.out).mono ?_
    rw [HN.out]
    rintro e w' ⟨rfl, hb⟩
    have Q2 := hid (Q1.out.step hb)
    clear hb
    go_wp2_with fail
    go_ret2
    exact ⟨retV HR.out.symm, Q2.out.bel⟩

set_option maxRecDepth 100000 in
set_option maxHeartbeats 1000000 in
theorem formInvariant_any (v : Value) (xs : List Int) (q : Int) (w : World) (h : Rd w v xs) (hl : xs.length ≤ 1048576) : Calls Try.prog 36 #[v, .int .i64 q] w fun e w' => e = .returned (.int .i64 (finvV xs q)) ∧ Below w.heap.size w w' := by
  have HH := hid h
  cases hf : fvB xs with
  | false =>
    have HF := hid hf
    have HR : Hid (finvV xs q = 0) := hid (by unfold finvV; rw [hf]; rfl)
    clear hf h
    go_enter Try.func36, Try.ntmps36
    go_wp2_with fail
    refine (quadraticOf_no v xs _ HH.out HF.out).mono ?_
    rintro e w' ⟨rfl, rfl⟩
    go_wp2_with fail
    go_ret
    exact ⟨retI HR.out.symm, Below.refl _ _⟩
  | true =>
    have HF := hid hf
    have Q0 := hid (quad_new HH.out hf (Below.refl _ _))
    cases hq : plI q with
    | false =>
      have HQ := hid hq
      have HR : Hid (finvV xs q = 0) := hid (by unfold finvV; rw [hf, hq]; rfl)
      clear hf h hq
      go_enter Try.func36, Try.ntmps36
      go_wp2_with fail
      refine (quadraticOf_yes v xs _ HH.out HF.out).mono ?_
      rintro e w' ⟨rfl, rfl⟩
      go_wp2_with fail
      refine (plValid_any q _).mono ?_
      rw [HQ.out]
      rintro e w' ⟨rfl, hb⟩
      have Q1 := hid (Q0.out.step hb)
      clear hb
      go_wp2_with fail
      go_ret
      exact ⟨retI HR.out.symm, Q1.out.bel⟩
    | true =>
      have HQ := hid hq
      have HR : Hid (finvV xs q = hasF xs q) := hid (by unfold finvV; rw [hf, hq]; rfl)
      clear hf h hq
      go_enter Try.func36, Try.ntmps36
      go_wp2_with fail
      refine (quadraticOf_yes v xs _ HH.out HF.out).mono ?_
      rintro e w' ⟨rfl, rfl⟩
      unfold quadV
      go_wp2_with fail
      refine (plValid_any q _).mono ?_
      rw [HQ.out]
      rintro e w' ⟨rfl, hb⟩
      have Q1 := hid (Q0.out.step hb)
      clear hb
      go_wp2_with fail
      refine (diaInv_any v xs q _ 0 w _ Q1.out HQ.out (by omega)).mono ?_
      rintro e w' ⟨rfl, hq2, hs2⟩
      have Q2 := hid hq2
      clear hq2 hs2
      go_wp2_with fail
      go_ret
      exact ⟨retI HR.out.symm, Q2.out.bel⟩

set_option maxRecDepth 100000 in
set_option maxHeartbeats 1000000 in
theorem formPlaces_any (v : Value) (xs : List Int) (w : World) (h : Rd w v xs) (hl : xs.length ≤ 1048576) : Calls Try.prog 41 #[v] w fun e w' => ∃ u, e = .returned u ∧ Owns w' w.heap.size u (fplL xs) ∧ Below w.heap.size w w' := by
  have HH := hid h
  cases hf : fvB xs with
  | false =>
    have HF := hid hf
    have HR : Hid (fplL xs = []) := hid (by unfold fplL; rw [hf]; rfl)
    clear hf h
    go_enter Try.func41, Try.ntmps41
    go_wp2_with fail
    refine (quadraticOf_no v xs _ HH.out HF.out).mono ?_
    rintro e w' ⟨rfl, rfl⟩
    go_wp2_with fail
    go_ret
    exact ⟨_, rfl, by rw [HR.out]; exact World.ownsRow_made (size := 1) w #[] 0 (Nat.le_refl _) (by unfold maxLen; omega) rfl, (Below.refl _ _).alloc (Nat.le_refl _) _⟩
  | true =>
    have HF := hid hf
    have HR : Hid (fplL xs = placesG (prodI xs)) := hid (by unfold fplL; rw [hf]; rfl)
    have Q0 := hid (quad_new HH.out hf (Below.refl _ _))
    have HP := hid (prod_full hf)
    clear hf h
    go_enter Try.func41, Try.ntmps41
    go_wp2_with fail
    refine (quadraticOf_yes v xs _ HH.out HF.out).mono ?_
    rintro e w' ⟨rfl, rfl⟩
    unfold quadV
    go_wp2_with fail
    refine (diaProduct_any v xs _ _ Q0.out.read HF.out).mono ?_
    rintro e w' ⟨rfl, hb⟩
    have Q1 := hid (Q0.out.step hb)
    clear hb
    go_wp2_with fail
    refine (placesOfG_any _ HP.out.1 (by have := HP.out; omega) (by have := HP.out; omega) _).mono ?_
    rintro e w' ⟨u, rfl, ho, hb⟩
    have Q2 := hid (Q1.out.step hb)
    have HO := hid (ho.low Q1.out.bel.size)
    clear hb ho
    go_wp2_with fail
    go_ret
    exact ⟨_, rfl, by rw [HR.out]; exact HO.out, Q2.out.bel⟩

set_option maxRecDepth 100000 in
set_option maxHeartbeats 1000000 in
theorem formVanishes_any (v : Value) (xs : List Int) (q : Int) (w : World) (h : Rd w v xs) (hl : xs.length ≤ 1048576) : Calls Try.prog 19 #[v, .int .i64 q] w fun e w' => e = .returned (.bool (fvanV xs q)) ∧ Below w.heap.size w w' := by
  have HH := hid h
  cases hf : fvB xs with
  | false =>
    have HF := hid hf
    have HR : Hid (fvanV xs q = false) := hid (by unfold fvanV; rw [hf]; rfl)
    clear hf h
    go_enter Try.func19, Try.ntmps19
    go_wp2_with fail
    refine (quadraticOf_no v xs _ HH.out HF.out).mono ?_
    rintro e w' ⟨rfl, rfl⟩
    go_wp2_with fail
    go_ret
    exact ⟨retB HR.out.symm, Below.refl _ _⟩
  | true =>
    have HF := hid hf
    have Q0 := hid (quad_new HH.out hf (Below.refl _ _))
    cases hq : plI q with
    | false =>
      have HQ := hid hq
      have HR : Hid (fvanV xs q = false) := hid (by unfold fvanV; rw [hf, hq]; rfl)
      clear hf h hq
      go_enter Try.func19, Try.ntmps19
      go_wp2_with fail
      refine (quadraticOf_yes v xs _ HH.out HF.out).mono ?_
      rintro e w' ⟨rfl, rfl⟩
      go_wp2_with fail
      refine (plValid_any q _).mono ?_
      rw [HQ.out]
      rintro e w' ⟨rfl, hb⟩
      have Q1 := hid (Q0.out.step hb)
      clear hb
      go_wp2_with fail
      go_ret
      exact ⟨retB HR.out.symm, Q1.out.bel⟩
    | true =>
      have HQ := hid hq
      have HR : Hid (fvanV xs q = vanB xs q) := hid (by unfold fvanV; rw [hf, hq]; rfl)
      clear hf h hq
      go_enter Try.func19, Try.ntmps19
      go_wp2_with fail
      refine (quadraticOf_yes v xs _ HH.out HF.out).mono ?_
      rintro e w' ⟨rfl, rfl⟩
      go_wp2_with fail
      refine (plValid_any q _).mono ?_
      rw [HQ.out]
      rintro e w' ⟨rfl, hb⟩
      have Q1 := hid (Q0.out.step hb)
      clear hb
      go_wp2_with fail
      refine (vanishesAt_any v xs q _ 0 w _ Q1.out HQ.out (by omega)).mono ?_
      rintro e w' ⟨rfl, hq2, hs2⟩
      have Q2 := hid hq2
      clear hq2 hs2
      go_wp2_with fail
      go_ret
      exact ⟨retB HR.out.symm, Q2.out.bel⟩

set_option maxRecDepth 100000 in
set_option maxHeartbeats 2000000 in
theorem formValue_any (va vb : Value) (xs ys : List Int) (w : World) (hx : Rd w va xs) (hy : Rd w vb ys) (l1 : xs.length ≤ 1048576) (l2 : ys.length ≤ 1048576) : Calls Try.prog 21 #[va, vb] w fun e w' => e = .returned (fvalV xs ys) ∧ Below w.heap.size w w' := by
  obtain ⟨a, cap, rfl, hfx⟩ := hx.form
  obtain ⟨a', cap', rfl, hfy⟩ := hy.form
  have HX := hid hx
  have HFX := hid hfx
  have HFY := hid hfy
  clear hx hy hfx hfy
  have hno : vecB xs ys 1000 = false → fvalV xs ys = .tuple #[.int .i64 0, .bool false] := fun e => by unfold fvalV; rw [e]; rfl
  cases hf : fvB xs with
  | false =>
    have HF := hid hf
    have HR : Hid (fvalV xs ys = .tuple #[.int .i64 0, .bool false]) := hid (hno (by unfold vecB; rw [hf, Bool.false_and, Bool.and_false]))
    clear hf hno
    go_enter Try.func21, Try.ntmps21
    go_wp2_with fail
    refine (formValidP_any _ xs _ HX.out).mono ?_
    rw [HF.out]
    rintro e w' ⟨rfl, rfl⟩
    go_wp2_with fail
    go_ret2
    exact ⟨retV HR.out.symm, Below.refl _ _⟩
  | true =>
    have HF := hid hf
    have hl4 := (fvB_iff.1 hf).2.2
    by_cases hl : ys.length = xs.length
    · have hll : (ys.length : Int) = (xs.length : Int) := by omega
      have HL := hid hl
      have T : (((ys.length : Nat) : Int) == ((xs.length : Nat) : Int)) = true := by rw [beq_iff_eq]; exact hll
      have HNO := hid hno
      clear hf hno hll
      go_enter Try.func21, Try.ntmps21
      go_wp2_with fail
      refine (formValidP_any _ xs _ HX.out).mono ?_
      rw [HF.out]
      rintro e w' ⟨rfl, rfl⟩
      go_wp2_with fail
      go_loop [6, 21] (fun so si => ∃ K : Nat, si = .int .i64 K ∧ K ≤ ys.length ∧ so = .int .i64 (valI xs ys K) ∧ Hid (∀ i, i < K → inR (ys.getD i 0) (-1000) 1000 = true) ∧ Hid (-30000000 * (K : Int) ≤ valI xs ys K ∧ valI xs ys K ≤ 30000000 * (K : Int))) (fun _ si => ys.length - (intOf si).toNat)
      case atStart => exact ⟨0, rfl, by omega, rfl, hid (fun i hi => by omega), hid (by simp [valI])⟩
      case round =>
        obtain ⟨K, rfl, hK, rfl, HE, HB⟩ := hrel
        by_cases hlt : K < ys.length
        · obtain ⟨b, o, rfl, hml, hc⟩ := HFX.out (by have := HL.out; omega)
          obtain ⟨b', o', rfl, hml', hc'⟩ := HFY.out (by omega)
          have hcell := hc K (by have := HL.out; omega)
          have hcell' := hc' K hlt
          have ht := fv_at HF.out (show K < xs.length by have := HL.out; omega)
          have hb := HB.out
          have hst : valI xs ys (K + 1) = valI xs ys K + xs.getD K 0 * ys.getD K 0 * ys.getD K 0 := rfl
          have hyE : inR (ys.getD K 0) (-1000) 1000 = true ↔ -1000 ≤ ys.getD K 0 ∧ ys.getD K 0 ≤ 1000 := by unfold inR; simp
          have hny : inR (ys.getD K 0) (-1000) 1000 = false → vecB xs ys 1000 = false := fun e => by
            unfold vecB
            rw [show ys.all (fun v => inR v (-1000) 1000) = false from ?_, Bool.false_and]
            rw [List.all_eq_false]
            exact ⟨ys.getD K 0, by rw [getD_at _ _ hlt]; exact List.getElem_mem _, by rw [e]; decide⟩
          obtain ⟨x, hx⟩ : ∃ x, x = xs.getD K 0 := ⟨_, rfl⟩
          obtain ⟨y, hy⟩ : ∃ y, y = ys.getD K 0 := ⟨_, rfl⟩
          obtain ⟨s, hs⟩ : ∃ s, s = valI xs ys K := ⟨_, rfl⟩
          rw [← hx] at hcell hst ht
          rw [← hy] at hcell' hst hyE hny
          rw [← hs] at hst hb ⊢
          have hKi : (K : Int) < (ys.length : Int) := by omega
          have hKj : (K : Int) < (xs.length : Int) := by have := HL.out; omega
          have HLT := hid hlt
          have HST := hid hst
          have HY := hid hy
          have HYE := hid hyE
          have x1 := ht.2.1
          have x2 := ht.2.2
          have s1 := hb.1
          have s2 := hb.2
          have hno2 : ¬ (-1000 ≤ y ∧ y ≤ 1000) → Hid (fvalV xs ys = .tuple #[.int .i64 0, .bool false]) := fun h => hid (HNO.out (hny (by
            cases e : inR y (-1000) 1000 with
            | false => rfl
            | true => exact absurd (HYE.out.1 e) h)))
          by_cases y1 : y < -1000
          · have HR := hno2 (by omega)
            clear hx hy hs hc hc' hml hml' hlt hst ht hb hno2 hny hyE
            go_wp2_with fail
            go_ret2
            exact ⟨retV HR.out.symm, Below.refl _ _⟩
          · by_cases y2 : y > 1000
            · have HR := hno2 (by omega)
              clear hx hy hs hc hc' hml hml' hlt hst ht hb hno2 hny hyE
              go_wp2_with fail
              go_ret2
              exact ⟨retV HR.out.symm, Below.refl _ _⟩
            · have hbd := term_bd x1 x2 (show -1000 ≤ y by omega) (show y ≤ 1000 by omega)
              have b1 := hbd.1
              have b2 := hbd.2.1
              have b3 := hbd.2.2.1
              have b4 := hbd.2.2.2
              have HIN : Hid (inR y (-1000) 1000 = true) := hid (HYE.out.2 ⟨by omega, by omega⟩)
              have HB2 : Hid (-30000000 * ((K + 1 : Nat) : Int) ≤ valI xs ys (K + 1) ∧ valI xs ys (K + 1) ≤ 30000000 * ((K + 1 : Nat) : Int)) := hid (by rw [HST.out]; omega)
              clear hx hy hs hc hc' hml hml' hlt hst ht hb hno2 hny hyE hbd
              go_wp2_with fail
              go_round
              case measure => simp only [intOf]; have := HLT.out; omega
              case rel => exact ⟨K + 1, by go_num, by have := HLT.out; omega, vI HST.out.symm, hid (fun i hi => by
                by_cases e : i = K
                · rw [e, ← HY.out]; exact HIN.out
                · exact HE.out i (by omega)), HB2⟩
        · obtain rfl : K = ys.length := by omega
          have HR : Hid (fvalV xs ys = .tuple #[.int .i64 (valI xs ys ys.length), .bool true]) := hid (by
            unfold fvalV
            rw [if_pos (by
              unfold vecB
              rw [HF.out, HL.out, show ys.all (fun v => inR v (-1000) 1000) = true from List.all_eq_true.2 fun v hv => by
                obtain ⟨i, hi, rfl⟩ := List.getElem_of_mem hv
                have := HE.out i hi
                rwa [getD_at _ _ hi] at this]
              simp), HL.out])
          have HR2 : Hid (fvalV xs ys = .tuple #[.int .i64 (valI xs ys xs.length), .bool true]) := hid (by rw [HR.out, HL.out])
          clear hlt
          go_wp2_with fail
          go_ret2
          first | exact ⟨retV HR.out.symm, Below.refl _ _⟩ | exact ⟨retV HR2.out.symm, Below.refl _ _⟩
    · have HR : Hid (fvalV xs ys = .tuple #[.int .i64 0, .bool false]) := hid (hno (by unfold vecB; rw [beq_eq_false_iff_ne.2 hl, Bool.and_false, Bool.and_false]))
      have T : (((ys.length : Nat) : Int) == ((xs.length : Nat) : Int)) = false := by rw [beq_eq_false_iff_ne]; omega
      clear hf hno hl
      go_enter Try.func21, Try.ntmps21
      go_wp2_with fail
      refine (formValidP_any _ xs _ HX.out).mono ?_
      rw [HF.out]
      rintro e w' ⟨rfl, rfl⟩
      go_wp2_with fail
      go_ret2
      exact ⟨retV HR.out.symm, Below.refl _ _⟩

end Go.Proofs.Ytciajpimpjpnfaa
