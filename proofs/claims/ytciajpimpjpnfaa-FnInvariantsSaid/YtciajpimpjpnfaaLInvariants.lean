/-
  Proves: for every code: the invariant of a form is -1 at an even number of its places, and 1 at all others.
  Conditions: none beyond the given statement's own.
-/
import Derived.Test.YtciajpimpjpnfaaRows
import Derived.Test.YtciajpimpjpnfaaFmCore
import Derived.Test.YtciajpimpjpnfaaBun30
import Derived.Test.YtciajpimpjpnfaaImp4D
import Derived.ProofKit
import Derived.OpenShut
import Derived.ShutString
import Derived.ChangeOld
namespace Go.Proofs.Ytciajpimpjpnfaa.fnInvariants
open Go.ChangeShapes Go.WideShapes Go.ChangeAt Go.RowKit
open Go.ChangeMaps (open_string shut_string)
set_option linter.unusedVariables false
theorem inv_c {xs : List Int} {q : Int} (h : fvB xs = true) (hq : plI q = true) : finvV xs q = hasC q xs := by
  unfold finvV
  rw [h, hq]
  exact hasF_eq hq (fv_nz h)
theorem fv_small {xs : List Int} (h : fvB xs = true) : SmallT xs := (fvB_iff.1 h).1
theorem inv_even {xs : List Int} (h : fvB xs = true) : ((fplL xs).filter (fun q => decide (finvV xs q = -1))).length % 2 = 0 := by
  have e : (fplL xs).filter (fun q => decide (finvV xs q = -1)) = (placesG (prodI xs)).filter (fun q => decide (hasC q xs = -1)) := by
    have e1 : fplL xs = placesG (prodI xs) := by unfold fplL; rw [h]; rfl
    rw [e1]
    refine List.filter_congr fun q hq => ?_
    rw [inv_c h (places_fv h q hq)]
  rw [e]
  exact has_even (fv_small h)
theorem inv_away {xs : List Int} (h : fvB xs = true) {q : Int} (hq : plI q = true) (hm : q ∉ fplL xs) : finvV xs q = 1 := by
  rw [inv_c h hq]
  refine has_away (fv_small h) hq ?_
  unfold fplL at hm
  rw [h] at hm
  exact hm
theorem inv_val {xs : List Int} (h : fvB xs = true) {q : Int} (hq : plI q = true) : finvV xs q = 1 ∨ finvV xs q = -1 := by
  rw [inv_c h hq]
  exact hasC_pm hq (fv_nz h)
theorem fpl_head {xs : List Int} (h : fvB xs = true) : 2 ≤ (fplL xs).length ∧ (fplL xs).getD 0 0 = 0 ∧ (fplL xs).getD 1 0 = 2 := by
  unfold fplL placesG
  rw [h]
  simp
theorem fpl_none {xs : List Int} (h : fvB xs = false) : fplL xs = [] := by
  unfold fplL
  rw [h]
  rfl
set_option maxRecDepth 100000 in
set_option maxHeartbeats 4000000 in
theorem walk  (a0 : Option Addr) (len0 cap0 : Nat) (z0 : List Int) (w : World) (w0 : IsRow .u8 w a0 len0 cap0 z0) :
    Calls Try.prog 8 #[.slice a0 len0 cap0] w fun e w' => e = .returned (.bool true) ∧ Below w.heap.size w w' := by
  have HC := hid (codeIn_of w0)
  clear w0
  by_cases hl0 : (1048576 : Int) < (len0 : Int)
  · go_enter Try.func8, Try.ntmps8
    go_wp2
    go_ret
    exact ⟨rfl, Below.refl _ _⟩
  · go_enter Try.func8, Try.ntmps8
    go_wp2_with fail
    refine (drawFormPlaces_any _ len0 _ HC.out).mono ?_
    rintro e d1 ⟨u, xs, rfl, HT, HXo, hb0⟩
    have HB1 := hid hb0
    clear hb0
    have hxl := HT.1
    clear HT
    go_wp2_with fail
    refine (formPlaces_any u xs _ HXo.out.rd (by omega)).mono ?_
    rintro e d2 ⟨O_o, rfl, hO2, hb2⟩
    have HB2 := hid (HB1.out.trans (hb2.mono HB1.out.size))
    have X_2 := hid (HXo.out.keep HXo.out.lt hb2)
    have O_2 := hid hO2
    clear hO2
    clear hb2
    go_wp2_with fail
    refine (formPlacesS_any u xs _ X_2.out.rd).mono ?_
    rintro e d3 ⟨W_o, rfl, hO3, hb3⟩
    have HB3 := hid (HB2.out.trans (hb3.mono HB2.out.size))
    have X_3 := hid (X_2.out.keep X_2.out.lt hb3)
    have O_3 := hid (O_2.out.keep O_2.out.lt hb3)
    have W_3 := hid hO3
    clear hO3
    clear hb3
    cases hf : fvB xs with
    | false =>
      rw [fpl_none hf] at O_3 W_3
      obtain ⟨oa, ocap, rfl, _⟩ := (O_3.out.rd).form
      have HD : decide (([] : List Int) = []) = true := by simp
      go_wp2_with fail
      refine (sameInts_any _ _ [] [] _ O_3.out.rd W_3.out.rd).mono ?_
      rintro e d4 ⟨rfl, k4, hw4⟩
      have hb4 : Below d3.heap.size d3 d4 := by rw [hw4]; exact below_dn (Below.refl _ _)
      have HB4 := hid (HB3.out.trans (hb4.mono HB3.out.size))
      have X_4 := hid (X_3.out.keep X_3.out.lt hb4)
      have O_4 := hid (O_3.out.keep O_3.out.lt hb4)
      have W_4 := hid (W_3.out.keep W_3.out.lt hb4)
      clear hw4 hb4
      go_wp2_with fail
      refine (sameInts_any _ _ [] [] _ O_4.out.rd W_4.out.rd).mono ?_
      rintro e d5 ⟨rfl, k5, hw5⟩
      have hb5 : Below d4.heap.size d4 d5 := by rw [hw5]; exact below_dn (Below.refl _ _)
      have HB5 := hid (HB4.out.trans (hb5.mono HB4.out.size))
      have X_5 := hid (X_4.out.keep X_4.out.lt hb5)
      have O_5 := hid (O_4.out.keep O_4.out.lt hb5)
      have W_5 := hid (W_4.out.keep W_4.out.lt hb5)
      clear hw5 hb5
      go_wp2
      go_ret
      exact ⟨retB (by simp), HB5.out⟩
    | true =>
      have HPN := fpl_len xs
      have HEV := hid (inv_even hf)
      have HAW : Hid (∀ q, plI q = true → q ∉ fplL xs → finvV xs q = 1) := hid (fun q hq hm => inv_away hf hq hm)
      have HVL : Hid (∀ q, plI q = true → finvV xs q = 1 ∨ finvV xs q = -1) := hid (fun q hq => inv_val hf hq)
      have HPL : Hid (∀ q ∈ fplL xs, plI q = true) := hid (fun q hq => (fpl_all.2 q hq).2)
      obtain ⟨hp0, hp1, hp2⟩ := fpl_head hf
      obtain ⟨L, hL⟩ : ∃ L, L = fplL xs := ⟨_, rfl⟩
      have HD : decide (L = L) = true := by simp
      rw [← hL] at O_3 W_3 HPN HEV HAW HPL hp0 hp1 hp2
      have HH1 := hid hp1
      have HH2 := hid hp2
      clear hL hf hp1 hp2
      obtain ⟨oa, ocap, hoe, hoform⟩ := (O_3.out.rd).form
      have HOF := hid hoform
      clear hoform
      subst hoe
      have hL0 : ((L.length : Int) == 0) = false := by rw [beq_eq_false_iff_ne]; omega
      go_wp2_with fail
      refine (sameInts_any _ _ L L _ O_3.out.rd W_3.out.rd).mono ?_
      rintro e d4 ⟨rfl, k4, hw4⟩
      have hb4 : Below d3.heap.size d3 d4 := by rw [hw4]; exact below_dn (Below.refl _ _)
      have HB4 := hid (HB3.out.trans (hb4.mono HB3.out.size))
      have X_4 := hid (X_3.out.keep X_3.out.lt hb4)
      have O_4 := hid (O_3.out.keep O_3.out.lt hb4)
      have W_4 := hid (W_3.out.keep W_3.out.lt hb4)
      clear hw4 hb4
      have HOJ : Hid (∀ wx : World, Below d4.heap.size d4 wx → Rd wx (.slice oa L.length ocap) L) := hid (fun wx hbx => (O_4.out.keep O_4.out.lt hbx).rd)
      have HVX : Hid (∀ wx : World, Below d4.heap.size d4 wx → Rd wx u xs) := hid (fun wx hbx => (X_4.out.keep X_4.out.lt hbx).rd)
      obtain ⟨bb, o, rfl, hml, _⟩ := HOF.out (by omega)
      have HXC : Hid (∀ (wx : World) (K : Nat), Below d4.heap.size d4 wx → K < L.length → wx.cell? ⟨bb, o + K, none⟩ = some (.int .i64 (L.getD K 0))) := hid (fun wx K hbx hlt => by
        obtain ⟨ad, cap, e1, hform⟩ := (HOJ.out wx hbx).form
        simp only [Value.slice.injEq, true_and] at e1
        obtain ⟨rfl, _⟩ := e1
        obtain ⟨b2, o2, e2, hml, hc⟩ := hform (by omega)
        cases e2
        exact hc K hlt)
      unfold maxLen at hml
      go_wp2_with fail
      go_loopw [6, 7] (fun sn si wr => ∃ K : Nat, si = .int .i64 K ∧ K ≤ L.length ∧ sn = .int .i64 (((L.take K).filter (fun q => decide (finvV xs q = -1))).length : Nat) ∧ Below d4.heap.size d4 wr) (fun _ si _ => L.length - (intOf si).toNat)
      case atStart => exact ⟨0, rfl, by omega, rfl, Below.refl _ _⟩
      case round =>
        obtain ⟨K, rfl, hK, rfl, hBr⟩ := hrel
        rename World => wr
        by_cases hlt : K < L.length
        · skip
          have c1 := HXC.out wr K hBr hlt
          obtain ⟨q, hq⟩ : ∃ q, q = L.getD K 0 := ⟨_, rfl⟩
          have hqm : q ∈ L := by rw [hq, getD_at _ _ hlt]; exact List.getElem_mem _
          have HVQ := hid (HVL.out q (HPL.out q hqm))
          have hstep := filter_step (f := fun q => decide (finvV xs q = -1)) hlt
          have hfl := filter_len (f := fun q => decide (finvV xs q = -1)) (show K ≤ L.length by omega)
          rw [← hq] at c1 hstep
          obtain ⟨c, hcc⟩ : ∃ c, c = ((L.take K).filter (fun q => decide (finvV xs q = -1))).length := ⟨_, rfl⟩
          rw [← hcc] at hfl ⊢
          have HCC := hid hcc
          have HS := hid hstep
          have hi0 : (K : Int) < (L.length : Int) := by omega
          have HLT := hid hlt
          have HRX := hid (HVX.out wr hBr)
          clear hq hqm hstep hcc hlt
          go_wp2_with fail
          refine (formInvariant_any u xs q _ HRX.out (by omega)).mono ?_
          rintro e w2 ⟨rfl, hb2⟩
          have HB2 := hid (hBr.trans (hb2.mono hBr.size))
          clear hb2
          rcases HVQ.out with hs | hs
          · have HE : Hid (((L.take (K + 1)).filter (fun q => decide (finvV xs q = -1))).length = c) := hid (by rw [HS.out, hs, List.length_append, ← HCC.out]; rfl)
            rw [hs]
            clear hs
            go_wp2
            go_round
            case measure => simp only [intOf]; have := HLT.out; omega
            case rel => exact ⟨K + 1, by go_num, by have := HLT.out; omega, by rw [HE.out], HB2.out⟩
          · have HE : Hid (((L.take (K + 1)).filter (fun q => decide (finvV xs q = -1))).length = c + 1) := hid (by rw [HS.out, hs, List.length_append, ← HCC.out]; rfl)
            rw [hs]
            clear hs
            go_wp2
            go_round
            case measure => simp only [intOf]; have := HLT.out; omega
            case rel => exact ⟨K + 1, by go_num, by have := HLT.out; omega, by rw [HE.out]; go_num, HB2.out⟩
        · have hKL : K = L.length := by omega
          have HNE : Hid (((L.take K).filter (fun q => decide (finvV xs q = -1))).length % 2 = 0) := hid (by rw [hKL, List.take_length]; exact HEV.out)
          have hfl := filter_len (f := fun q => decide (finvV xs q = -1)) (show K ≤ L.length by omega)
          obtain ⟨c, hcc⟩ : ∃ c, c = ((L.take K).filter (fun q => decide (finvV xs q = -1))).length := ⟨_, rfl⟩
          rw [← hcc] at hfl HNE ⊢
          have hge : ¬ (K : Int) < (L.length : Int) := by omega
          clear hcc hlt hKL
          go_wp2_with fail
          go_loopw [8] (fun sp wp => ∃ P : Nat, sp = .int .i64 P ∧ 3 ≤ P ∧ P ≤ 32 ∧ Below wr.heap.size wr wp) (fun sp _ => 32 - (intOf sp).toNat)
          case atStart => exact ⟨3, rfl, by omega, by omega, Below.refl _ _⟩
          case round =>
            obtain ⟨P, rfl, hP3, hP32, hBp⟩ := hrel
            rename World => wp
            have HBp := hid (hBr.trans (hBp.mono hBr.size))
            by_cases hlt : P ≤ 31
            · have hi0 : (P : Int) ≤ 31 := by omega
              cases hpr : primeI (P : Int) with
              | false =>
                have HPR := hid hpr
                clear hpr
                go_wp2_with fail
                refine (primeIs_any (P : Int) _).mono ?_
                rw [HPR.out]
                rintro e w2 ⟨rfl, hb2⟩
                have HB2 := hid (hBp.trans (hb2.mono hBp.size))
                clear hb2
                go_wp2
                go_roundw
                case measure => simp only [intOf]; omega
                case rel => exact ⟨P + 1, by go_num, by omega, by omega, HB2.out⟩
              | true =>
                have HPR := hid hpr
                have hplp : plI (P : Int) = true := by unfold plI; rw [hpr, Bool.or_true]
                cases hin : decide ((P : Int) ∈ L) with
                | true =>
                  have HIN := hid hin
                  clear hpr hplp hin
                  go_wp2_with fail
                  refine (primeIs_any (P : Int) _).mono ?_
                  rw [HPR.out]
                  rintro e w2 ⟨rfl, hb2⟩
                  have HB2 := hid (hBp.trans (hb2.mono hBp.size))
                  have HB3 := hid (HBp.out.trans (hb2.mono HBp.out.size))
                  clear hb2
                  go_wp2_with fail
                  refine (hasInt_any _ L (P : Int) _ (HOJ.out _ HB3.out)).mono ?_
                  rw [HIN.out]
                  rintro e w3 ⟨rfl, rfl⟩
                  go_wp2
                  go_roundw
                  case measure => simp only [intOf]; omega
                  case rel => exact ⟨P + 1, by go_num, by omega, by omega, HB2.out⟩
                | false =>
                  have HIN := hid hin
                  have HV1 := hid (HAW.out (P : Int) hplp (of_decide_eq_false hin))
                  clear hpr hplp hin
                  go_wp2_with fail
                  refine (primeIs_any (P : Int) _).mono ?_
                  rw [HPR.out]
                  rintro e w2 ⟨rfl, hb2⟩
                  have HB2 := hid (hBp.trans (hb2.mono hBp.size))
                  have HB3 := hid (HBp.out.trans (hb2.mono HBp.out.size))
                  clear hb2
                  go_wp2_with fail
                  refine (hasInt_any _ L (P : Int) _ (HOJ.out _ HB3.out)).mono ?_
                  rw [HIN.out]
                  rintro e w3 ⟨rfl, rfl⟩
                  go_wp2_with fail
                  refine (formInvariant_any u xs (P : Int) _ (HVX.out _ HB3.out) (by omega)).mono ?_
                  rw [HV1.out]
                  rintro e w3 ⟨rfl, hb3⟩
                  have HB4 := hid (HB2.out.trans (hb3.mono HB2.out.size))
                  clear hb3
                  go_wp2
                  go_roundw
                  case measure => simp only [intOf]; omega
                  case rel => exact ⟨P + 1, by go_num, by omega, by omega, HB4.out⟩
            · have hi0 : ¬ (P : Int) ≤ 31 := by omega
              have d0 := HXC.out wp 0 HBp.out (by omega)
              have d1 := HXC.out wp 1 HBp.out (by omega)
              rw [HH1.out, Nat.add_zero] at d0
              rw [HH2.out] at d1
              have TC : ((c : Int) % 2 == 0) = true := by rw [beq_iff_eq]; have := HNE.out; omega
              have i0 : (0 : Int) < (L.length : Int) := by omega
              have i1 : (1 : Int) < (L.length : Int) := by omega
              go_wp2
              go_ret
              exact ⟨rfl, HB4.out.trans (HBp.out.mono HB4.out.size)⟩
theorem own : ownKnob Try.prog.godebug = none := by kernel_rfl
theorem laidOut : laidOutB Try.prog = true := by kernel_rfl
set_option maxRecDepth 100000 in
theorem lifted (os : Os) (started : os.Started) (H : Type) (enc : TypeId × Value → H) :
    ReturnsInHanded {} Try.checked os 8 .any (Rows.fnInvariantsSpec.pre6 enc Try.prog Try.f8 Rows.fnInvariantsRow.domain false) (Rows.fnInvariantsSpec.post enc Try.prog Try.f8 false true false false) := by
  refine returnsInHanded_of_change (C := Try.checked) own started (by kernel_rfl) Try.func8
    (ChangeSpec.witness6 (enc := enc) (C := Try.checked) false ⟨#[], #[.slice none 0 0], []⟩ 8 (by kernel_rfl) (by kernel_rfl) (by kernel_rfl) (by kernel_rfl)) ?_
  intro W base args ds gs before hval0 hW hcnd _
  have hval : ∀ (j : Nat) t v, Try.f8.params[j]? = some t → args[j]? = some v → Value.okWide Try.prog W .any base t v := hval0
  have hW' := hW
  obtain ⟨p, q, hA0, hV, rfl, hfz, hnd⟩ := hW
  have hA : DataW.TrodAll enc Try.prog W 0 (fun _ => true) true Try.f8.params.toList args.toList ds p := hA0
  rw [Try.params8] at hA hval
  obtain ⟨v0, vs0, d0, ds0, p0, q0, hargs, rfl, rfl, h0, r0⟩ := trodAll_cons hA
  obtain ⟨rfl, rfl, rfl⟩ := trodAll_nil r0
  obtain rfl : args = #[v0] := by cases args; simp_all
  obtain ⟨rfl, rfl⟩ := trodVars_none hV
  obtain ⟨a0, len0, cap0, rfl⟩ := okWide_slice Try.underlying22 (hval 0 22 v0 rfl rfl)
  have k0 := h0
  have lt0 : ∀ x ∈ p0, x.block < W.heap.size := by obtain ⟨m, hm⟩ := k0; exact DataW.trod_lt m _ _ _ hm
  obtain ⟨z0, w0⟩ : ∃ zs, IsRow .u8 W a0 len0 cap0 zs := by
    obtain ⟨fuel, hf⟩ := h0
    rcases open_ints Try.underlying22 Try.underlying5 (by kernel_rfl) hf with ⟨hcs, _⟩ | ⟨x, l, c, zs, hcs, _, hl, hm, hz, _, hcell, hwz⟩
    · simp [Value.cells] at hcs
      obtain ⟨rfl, rfl, rfl⟩ := hcs
      exact ⟨[], .inl ⟨rfl, rfl, rfl, rfl⟩⟩
    · simp [Value.cells] at hcs
      obtain ⟨rfl, rfl, rfl⟩ := hcs
      exact ⟨zs, .inr ⟨_, rfl, hl, hm, by simpa using hz, hcell, hwz⟩⟩
  clear hA0 hval0
  refine (walk a0 len0 cap0 z0 W w0).mono fun e W' ⟨he, bel⟩ => ?_
  subst he
  exact ⟨_, rfl, _, _, _, [], _, [], hW', trodAll_mk1 (shut_bool Try.underlying4 _), (trodAll_cons_mk (Below.trod laidOut (by kernel_rfl) (of_decide_eq_true (by kernel_rfl)) k0 bel lt0) trodAll_mk0), rfl, bel.frame _, fun h => by cases h⟩
theorem over : Rows.fnInvariantsRow.holds Try.pinned (OpenSpec.ofChange Rows.fnInvariantsSpec) :=
  OpenClaim.holds_of_wide 8 Try.f8 rfl rfl rfl rfl rfl rfl rfl ⟨rfl, rfl, rfl, rfl, rfl⟩ rfl rfl rfl rfl rfl (by kernel_rfl) Try.func8 (by kernel_rfl)
    (of_decide_eq_true (by kernel_rfl)) (by unfold Func.isWrapper; first | (rw [if_pos (by decide +kernel)]; kernel_rfl) | (rw [if_neg (by decide +kernel)]; exact ⟨rfl, rfl⟩))
    (fun os started H enc _ => lifted os started H enc)
theorem proved : Rows.FnInvariantsSaid := over
end Go.Proofs.Ytciajpimpjpnfaa.fnInvariants
