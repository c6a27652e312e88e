/-
  Proves: for every two codes: the discriminant is its own core, and those of two parts have its name at a place, multiplied.
  Conditions: none beyond the given statement's own.
-/
import Derived.Test.YtciajpimpjpnfaaRows
import Derived.Test.YtciajpimpjpnfaaBun48
import Derived.Test.YtciajpimpjpnfaaBun26
import Derived.Test.YtciajpimpjpnfaaBun22
import Derived.Test.YtciajpimpjpnfaaCore2
import Derived.Test.YtciajpimpjpnfaaImpC
import Derived.Test.YtciajpimpjpnfaaImp4D
import Derived.ProofKit
import Derived.OpenShut
import Derived.ShutString
import Derived.ChangeOld
namespace Go.Proofs.Ytciajpimpjpnfaa.fnDisc
open Go.ChangeShapes Go.WideShapes Go.ChangeAt Go.RowKit
open Go.ChangeMaps (open_string shut_string)
set_option linter.unusedVariables false
theorem disc_one {x : Int} (h : fvB [x] = true) : factB x = true ∧ coreV x = .tuple #[.int .i64 (coreG (prodI [x])), .int .i64 (rootG x : Nat), .bool true] := by
  obtain ⟨h1, h2, h3⟩ := (fvB_iff.1 h).1 x (by simp)
  have hf := factB_yes (n := x) (by omega) (by omega) h1
  refine ⟨hf, ?_⟩
  rw [coreV_G hf, show prodI [x] = x from Int.mul_one x]
theorem disc_core {n : Int} (hn : n ≠ 0) (h1 : -5000 ≤ coreG n) (h2 : coreG n ≤ 5000) : coreV (coreG n) = .tuple #[.int .i64 (coreG n), .int .i64 1, .bool true] := by
  have h := core_is hn
  have hc := h.ne hn
  have e := core_eq (r := 1) hc ⟨by simp, Nat.le_refl _, h.free⟩
  rw [coreV_G (factB_yes h1 h2 hc), e.1, e.2]
  rfl
theorem disc_name {xs : List Int} {K : Nat} {q : Int} (hz : NZ xs) (hq : plI q = true) (h1 : factB (coreG (prodI (xs.take K))) = true) (h2 : factB (coreG (prodI (xs.drop K))) = true) (h3 : factB (coreG (prodI xs)) = true) :
    lmulV (coreG (prodI (xs.take K))) (coreG (prodI (xs.drop K))) q = .tuple #[.int .i64 (nameOf (coreG (prodI xs)) q), .bool true] ∧ lnameV (coreG (prodI xs)) q = .tuple #[.int .i64 (nameOf (coreG (prodI xs)) q), .bool true] := by
  have e : ∀ {n : Int}, factB n = true → okAt n q = true := fun h => by unfold okAt; rw [h, hq]; rfl
  refine ⟨?_, lnameV_yes (e h3)⟩
  have z1 : NZ (xs.take K) := fun x hx => hz x (List.mem_of_mem_take hx)
  have z2 : NZ (xs.drop K) := fun x hx => hz x (List.mem_of_mem_drop hx)
  obtain ⟨c1, k1⟩ := core_cls z1.prod hq
  obtain ⟨c2, k2⟩ := core_cls z2.prod hq
  obtain ⟨c3, k3⟩ := core_cls hz.prod hq
  rw [lmulV_yes (e h1) (e h2)]
  rw [name_congr (show cls (coreG (prodI (xs.take K)) * coreG (prodI (xs.drop K))) q = cls (coreG (prodI xs)) q by
    rw [cls_mul c1 c2 hq, k1, k2, k3, ← cls_mul z1.prod z2.prod hq, ← prodI_app, List.take_append_drop])]
theorem four_pl : ∀ q ∈ ([0, 2, 3, 5] : List Int), plI q = true := by decide +kernel
theorem disc_size {xs : List Int} (h : fvB xs = true) : coreG (prodI xs) ≠ 0 ∧ (coreG (prodI xs)).natAbs ≤ 810000 := by
  have hz := fv_nz h
  have := core_bd2 hz.prod
  have := prod_full h
  omega
set_option maxRecDepth 100000 in
set_option maxHeartbeats 4000000 in
theorem walk  (a0 : Option Addr) (len0 cap0 : Nat) (z0 : List Int) (a1 : Option Addr) (len1 cap1 : Nat) (z1 : List Int) (w : World) (w0 : IsRow .u8 w a0 len0 cap0 z0) (w1 : IsRow .u8 w a1 len1 cap1 z1) :
    Calls Try.prog 5 #[.slice a0 len0 cap0, .slice a1 len1 cap1] w fun e w' => e = .returned (.bool true) ∧ Below w.heap.size w w' := by
  have HC := hid (codeIn_of w0)
  clear w0 w1
  by_cases hl0 : (1048576 : Int) < (len0 : Int)
  · go_enter Try.func5, Try.ntmps5
    go_wp2
    go_ret
    exact ⟨rfl, Below.refl _ _⟩
  by_cases hl1 : (1048576 : Int) < (len1 : Int)
  · go_enter Try.func5, Try.ntmps5
    go_wp2
    go_ret
    exact ⟨rfl, Below.refl _ _⟩
  · go_enter Try.func5, Try.ntmps5
    go_wp2_with fail
    refine (drawFormDisc_any _ len0 _ HC.out).mono ?_
    rintro e d1 ⟨u, xs, rfl, HT, HXo, hb0⟩
    have HB1 := hid hb0
    clear hb0
    have hxl := HT.1
    clear HT
    cases hf : fvB xs with
    | false =>
      have HS : Hid (discV xs = 0) := hid (by unfold discV; rw [hf]; rfl)
      clear hf
      go_wp2_with fail
      refine (formDisc_any u xs _ HXo.out.rd (by omega)).mono ?_
      rw [HS.out]
      rintro e d2 ⟨rfl, hb2⟩
      have HB2 := hid (HB1.out.trans (hb2.mono HB1.out.size))
      have X_2 := hid (HXo.out.keep HXo.out.lt hb2)
      clear hb2
      go_wp2_with fail
      refine (formDiscS_any u xs _ X_2.out.rd).mono ?_
      rw [HS.out]
      rintro e d3 ⟨rfl, rfl⟩
      go_wp2
      go_ret
      exact ⟨rfl, HB2.out⟩
    | true =>
      have HF := hid hf
      have HS := hid (disc_yes hf)
      have HZ := hid (fv_nz hf)
      have hcs := disc_size hf
      have hn1 := (fvB_iff.1 hf).2.1
      have hn4 := (fvB_iff.1 hf).2.2
      have HCO := hid (@disc_core (prodI xs) (fv_nz hf).prod)
      obtain ⟨C, hC⟩ : ∃ C, C = coreG (prodI xs) := ⟨_, rfl⟩
      rw [← hC] at HS hcs HCO
      have HCC := hid hC
      obtain ⟨hc0, hcb⟩ := hcs
      obtain ⟨g, cap, rfl⟩ := (HXo.out).slice_of (by omega)
      have hroom := (HXo.out).room
      have T0 : (C == 0) = false := by rw [beq_eq_false_iff_ne]; exact hc0
      clear hf hC
      go_wp2_with fail
      refine (formDisc_any _ xs _ HXo.out.rd (by omega)).mono ?_
      rw [HS.out]
      rintro e d2 ⟨rfl, hb2⟩
      have HB2 := hid (HB1.out.trans (hb2.mono HB1.out.size))
      have X_2 := hid (HXo.out.keep HXo.out.lt hb2)
      clear hb2
      go_wp2_with fail
      refine (formDiscS_any _ xs _ X_2.out.rd).mono ?_
      rw [HS.out]
      rintro e d3 ⟨rfl, rfl⟩
      by_cases h5 : C.natAbs ≤ 5000
      · have HV := hid (HCO.out (by omega) (by omega))
        have hs : ((C.natAbs : Nat) : Int) ≤ 5000 := by omega
        go_wp2_with fail
        refine (coreOf_any C _).mono ?_
        rw [HV.out]
        rintro e d4 ⟨rfl, hb4⟩
        have HB4 := hid (HB2.out.trans (hb4.mono HB2.out.size))
        have X_4 := hid (X_2.out.keep X_2.out.lt hb4)
        clear hb4
        by_cases h1 : xs.length = 1
        · skip
          obtain ⟨x, rfl⟩ := List.length_eq_one_iff.1 h1
          have c1 := (X_4.out).at (i := 0) (by simp)
          simp only [List.getElem_cons_zero] at c1
          obtain ⟨k1, k2⟩ := disc_one HF.out
          rw [← HCC.out] at k2
          have HK := hid k2
          clear k1 k2
          go_wp2_with fail
          refine (coreOf_any x _).mono ?_
          rw [HK.out]
          rintro e d5 ⟨rfl, hb5⟩
          have HB5 := hid (HB4.out.trans (hb5.mono HB4.out.size))
          have X_5 := hid (X_4.out.keep X_4.out.lt hb5)
          clear hb5
          go_wp2
          go_ret
          exact ⟨rfl, HB5.out⟩
        · have hN : xs.length = 2 ∨ xs.length = 3 ∨ xs.length = 4 := by omega
          rcases hN with hN | hN | hN
          · skip
            have hm : (xs.length : Int) - 1 = 1 := by omega
            have hKb : 1 < xs.length := by omega
            have hK1 : 1 ≤ 1 := by omega
            have hck : ¬ cap = 1 := by omega
            have HKL : Hid ((xs.take 1).length ≤ 1048576) := hid (by rw [List.length_take]; omega)
            have HDL : Hid ((xs.drop 1).length ≤ 1048576) := hid (by rw [List.length_drop]; omega)
            have HA := hid (disc_yes (fv_take HF.out hK1 (Nat.le_of_lt hKb)))
            have HB' := hid (disc_yes (fv_drop HF.out hKb))
            have hA := disc_size (fv_take HF.out hK1 (Nat.le_of_lt hKb))
            have hB := disc_size (fv_drop HF.out hKb)
            have HNM := hid (fun (q : Int) (hq : plI q = true) => @disc_name xs 1 q HZ.out hq)
            obtain ⟨A, hA0⟩ : ∃ A, A = coreG (prodI (xs.take 1)) := ⟨_, rfl⟩
            obtain ⟨B, hB0⟩ : ∃ B, B = coreG (prodI (xs.drop 1)) := ⟨_, rfl⟩
            rw [← hA0] at HA hA
            rw [← hB0] at HB' hB
            rw [← hA0, ← hB0, ← HCC.out] at HNM
            obtain ⟨a0, a5⟩ := hA
            obtain ⟨b0, b5⟩ := hB
            clear hA0 hB0 hN
            have HRT := hid ((X_4.out.rd).take (k := 1) (c := cap) (by omega) rfl)
            go_wp2_with fail
            refine (formDisc_any _ (xs.take 1) _ HRT.out HKL.out).mono ?_
            rw [HA.out]
            rintro e d5 ⟨rfl, hb5⟩
            have HB5 := hid (HB4.out.trans (hb5.mono HB4.out.size))
            have X_5 := hid (X_4.out.keep X_4.out.lt hb5)
            clear hb5
            have HRD := (X_5.out.rd).cut (k := 1) (by omega) rfl hroom
            rw [if_neg hck] at HRD
            replace HRD := hid HRD
            go_wp2_with fail
            refine (formDisc_any _ (xs.drop 1) _ (by simpa using HRD.out) HDL.out).mono ?_
            rw [HB'.out]
            rintro e d6 ⟨rfl, hb6⟩
            have HB6 := hid (HB5.out.trans (hb6.mono HB5.out.size))
            have X_6 := hid (X_5.out.keep X_5.out.lt hb6)
            clear hb6
            obtain ⟨j, hj⟩ : ∃ j, j = len1 % 4 := ⟨_, rfl⟩
            have hlt : j < 4 := by omega
            have hje : (len1 : Int) % 4 = (j : Int) := by rw [hj]; push_cast; rfl
            clear hj
            have ha7 := (Below.refl d6.heap.size d6).alloc (Nat.le_refl _) (.cells #[.int .i64 0, .int .i64 2, .int .i64 3, .int .i64 5] 3)
            have HB7 := hid (HB6.out.trans (ha7.mono HB6.out.size))
            have X_7 := hid (X_6.out.keep X_6.out.lt ha7)
            have PL_7 : Hid (Owns (d6.alloc (.cells #[.int .i64 0, .int .i64 2, .int .i64 3, .int .i64 5] 3)) d6.heap.size (.slice (some ⟨d6.heap.size, 0, none⟩) 4 4) [0, 2, 3, 5]) := hid (owns_lit [0, 2, 3, 5] _ rfl (Nat.le_refl _) (by unfold maxLen; simp))
            clear ha7
            obtain ⟨ad, cap, e1, hform⟩ := (PL_7.out.rd).form
            cases e1
            obtain ⟨bb, o, e2, hml, hc⟩ := hform (by decide)
            cases e2
            have hcell := hc j hlt
            rw [Nat.zero_add] at hcell
            clear hc hml
            obtain ⟨q, hq⟩ : ∃ q, q = ([0, 2, 3, 5] : List Int).getD j 0 := ⟨_, rfl⟩
            rw [← hq] at hcell
            have HQ : Hid (plI q = true) := hid (four_pl q (by rw [hq, getD_at _ _ (show j < ([0, 2, 3, 5] : List Int).length from hlt)]; exact List.getElem_mem _))
            clear hq
            by_cases hA5 : A.natAbs ≤ 5000
            · have hsA : ((A.natAbs : Nat) : Int) ≤ 5000 := by omega
              by_cases hB5 : B.natAbs ≤ 5000
              · have hsB : ((B.natAbs : Nat) : Int) ≤ 5000 := by omega
                obtain ⟨n1, n2⟩ := HNM.out q HQ.out (factB_yes (by omega) (by omega) a0) (factB_yes (by omega) (by omega) b0) (factB_yes (by omega) (by omega) hc0)
                have HN1 := hid n1
                have HN2 := hid n2
                clear n1 n2 HNM hA5 hB5 h5
                go_wp2_with (go_at_call 29; refine (sizeOf_any _ (by omega) (by omega) _).mono ?_; rintro e w' ⟨rfl, rfl⟩)
                refine (localMul_any A B q _).mono ?_
                rw [HN1.out]
                rintro e d8 ⟨rfl, hb8⟩
                have HB8 := hid (HB7.out.trans (hb8.mono HB7.out.size))
                have X_8 := hid (X_7.out.keep X_7.out.lt hb8)
                clear hb8
                go_wp2_with (go_at_call 29; refine (sizeOf_any _ (by omega) (by omega) _).mono ?_; rintro e w' ⟨rfl, rfl⟩)
                refine (localName_any C q _).mono ?_
                rw [HN2.out]
                rintro e d9 ⟨rfl, hb9⟩
                have HB9 := hid (HB8.out.trans (hb9.mono HB8.out.size))
                have X_9 := hid (X_8.out.keep X_8.out.lt hb9)
                clear hb9
                go_wp2
                go_ret
                exact ⟨rfl, HB9.out⟩
              · have hsB : (5000 : Int) < ((B.natAbs : Nat) : Int) := by omega
                clear hA5 hB5 h5
                go_wp2_with (go_at_call 29; refine (sizeOf_any _ (by omega) (by omega) _).mono ?_; rintro e w' ⟨rfl, rfl⟩)
                go_ret
                exact ⟨rfl, HB7.out⟩
            · have hsA : (5000 : Int) < ((A.natAbs : Nat) : Int) := by omega
              clear hA5 h5
              go_wp2_with (go_at_call 29; refine (sizeOf_any _ (by omega) (by omega) _).mono ?_; rintro e w' ⟨rfl, rfl⟩)
              go_ret
              exact ⟨rfl, HB7.out⟩
          · skip
            have hm : (xs.length : Int) - 1 = 2 := by omega
            obtain ⟨K, hK⟩ : ∃ K, K = 1 + len1 % 2 := ⟨_, rfl⟩
            have hke : 1 + (len1 : Int) % 2 = (K : Int) := by rw [hK]; push_cast; rfl
            have hKb : K < xs.length := by omega
            have hK1 : 1 ≤ K := by omega
            have hck : ¬ cap = K := by omega
            have HKL : Hid ((xs.take K).length ≤ 1048576) := hid (by rw [List.length_take]; omega)
            have HDL : Hid ((xs.drop K).length ≤ 1048576) := hid (by rw [List.length_drop]; omega)
            clear hK
            have HA := hid (disc_yes (fv_take HF.out hK1 (Nat.le_of_lt hKb)))
            have HB' := hid (disc_yes (fv_drop HF.out hKb))
            have hA := disc_size (fv_take HF.out hK1 (Nat.le_of_lt hKb))
            have hB := disc_size (fv_drop HF.out hKb)
            have HNM := hid (fun (q : Int) (hq : plI q = true) => @disc_name xs K q HZ.out hq)
            obtain ⟨A, hA0⟩ : ∃ A, A = coreG (prodI (xs.take K)) := ⟨_, rfl⟩
            obtain ⟨B, hB0⟩ : ∃ B, B = coreG (prodI (xs.drop K)) := ⟨_, rfl⟩
            rw [← hA0] at HA hA
            rw [← hB0] at HB' hB
            rw [← hA0, ← hB0, ← HCC.out] at HNM
            obtain ⟨a0, a5⟩ := hA
            obtain ⟨b0, b5⟩ := hB
            clear hA0 hB0 hN
            have HRT := hid ((X_4.out.rd).take (k := K) (c := cap) (by omega) rfl)
            go_wp2_with fail
            refine (formDisc_any _ (xs.take K) _ HRT.out HKL.out).mono ?_
            rw [HA.out]
            rintro e d5 ⟨rfl, hb5⟩
            have HB5 := hid (HB4.out.trans (hb5.mono HB4.out.size))
            have X_5 := hid (X_4.out.keep X_4.out.lt hb5)
            clear hb5
            have HRD := (X_5.out.rd).cut (k := K) (by omega) rfl hroom
            rw [if_neg hck] at HRD
            replace HRD := hid HRD
            go_wp2_with fail
            refine (formDisc_any _ (xs.drop K) _ (by simpa using HRD.out) HDL.out).mono ?_
            rw [HB'.out]
            rintro e d6 ⟨rfl, hb6⟩
            have HB6 := hid (HB5.out.trans (hb6.mono HB5.out.size))
            have X_6 := hid (X_5.out.keep X_5.out.lt hb6)
            clear hb6
            obtain ⟨j, hj⟩ : ∃ j, j = len1 % 4 := ⟨_, rfl⟩
            have hlt : j < 4 := by omega
            have hje : (len1 : Int) % 4 = (j : Int) := by rw [hj]; push_cast; rfl
            clear hj
            have ha7 := (Below.refl d6.heap.size d6).alloc (Nat.le_refl _) (.cells #[.int .i64 0, .int .i64 2, .int .i64 3, .int .i64 5] 3)
            have HB7 := hid (HB6.out.trans (ha7.mono HB6.out.size))
            have X_7 := hid (X_6.out.keep X_6.out.lt ha7)
            have PL_7 : Hid (Owns (d6.alloc (.cells #[.int .i64 0, .int .i64 2, .int .i64 3, .int .i64 5] 3)) d6.heap.size (.slice (some ⟨d6.heap.size, 0, none⟩) 4 4) [0, 2, 3, 5]) := hid (owns_lit [0, 2, 3, 5] _ rfl (Nat.le_refl _) (by unfold maxLen; simp))
            clear ha7
            obtain ⟨ad, cap, e1, hform⟩ := (PL_7.out.rd).form
            cases e1
            obtain ⟨bb, o, e2, hml, hc⟩ := hform (by decide)
            cases e2
            have hcell := hc j hlt
            rw [Nat.zero_add] at hcell
            clear hc hml
            obtain ⟨q, hq⟩ : ∃ q, q = ([0, 2, 3, 5] : List Int).getD j 0 := ⟨_, rfl⟩
            rw [← hq] at hcell
            have HQ : Hid (plI q = true) := hid (four_pl q (by rw [hq, getD_at _ _ (show j < ([0, 2, 3, 5] : List Int).length from hlt)]; exact List.getElem_mem _))
            clear hq
            by_cases hA5 : A.natAbs ≤ 5000
            · have hsA : ((A.natAbs : Nat) : Int) ≤ 5000 := by omega
              by_cases hB5 : B.natAbs ≤ 5000
              · have hsB : ((B.natAbs : Nat) : Int) ≤ 5000 := by omega
                obtain ⟨n1, n2⟩ := HNM.out q HQ.out (factB_yes (by omega) (by omega) a0) (factB_yes (by omega) (by omega) b0) (factB_yes (by omega) (by omega) hc0)
                have HN1 := hid n1
                have HN2 := hid n2
                clear n1 n2 HNM hA5 hB5 h5
                go_wp2_with (go_at_call 29; refine (sizeOf_any _ (by omega) (by omega) _).mono ?_; rintro e w' ⟨rfl, rfl⟩)
                refine (localMul_any A B q _).mono ?_
                rw [HN1.out]
                rintro e d8 ⟨rfl, hb8⟩
                have HB8 := hid (HB7.out.trans (hb8.mono HB7.out.size))
                have X_8 := hid (X_7.out.keep X_7.out.lt hb8)
                clear hb8
                go_wp2_with (go_at_call 29; refine (sizeOf_any _ (by omega) (by omega) _).mono ?_; rintro e w' ⟨rfl, rfl⟩)
                refine (localName_any C q _).mono ?_
                rw [HN2.out]
                rintro e d9 ⟨rfl, hb9⟩
                have HB9 := hid (HB8.out.trans (hb9.mono HB8.out.size))
                have X_9 := hid (X_8.out.keep X_8.out.lt hb9)
                clear hb9
                go_wp2
                go_ret
                exact ⟨rfl, HB9.out⟩
              · have hsB : (5000 : Int) < ((B.natAbs : Nat) : Int) := by omega
                clear hA5 hB5 h5
                go_wp2_with (go_at_call 29; refine (sizeOf_any _ (by omega) (by omega) _).mono ?_; rintro e w' ⟨rfl, rfl⟩)
                go_ret
                exact ⟨rfl, HB7.out⟩
            · have hsA : (5000 : Int) < ((A.natAbs : Nat) : Int) := by omega
              clear hA5 h5
              go_wp2_with (go_at_call 29; refine (sizeOf_any _ (by omega) (by omega) _).mono ?_; rintro e w' ⟨rfl, rfl⟩)
              go_ret
              exact ⟨rfl, HB7.out⟩
          · skip
            have hm : (xs.length : Int) - 1 = 3 := by omega
            obtain ⟨K, hK⟩ : ∃ K, K = 1 + len1 % 3 := ⟨_, rfl⟩
            have hke : 1 + (len1 : Int) % 3 = (K : Int) := by rw [hK]; push_cast; rfl
            have hKb : K < xs.length := by omega
            have hK1 : 1 ≤ K := by omega
            have hck : ¬ cap = K := by omega
            have HKL : Hid ((xs.take K).length ≤ 1048576) := hid (by rw [List.length_take]; omega)
            have HDL : Hid ((xs.drop K).length ≤ 1048576) := hid (by rw [List.length_drop]; omega)
            clear hK
            have HA := hid (disc_yes (fv_take HF.out hK1 (Nat.le_of_lt hKb)))
            have HB' := hid (disc_yes (fv_drop HF.out hKb))
            have hA := disc_size (fv_take HF.out hK1 (Nat.le_of_lt hKb))
            have hB := disc_size (fv_drop HF.out hKb)
            have HNM := hid (fun (q : Int) (hq : plI q = true) => @disc_name xs K q HZ.out hq)
            obtain ⟨A, hA0⟩ : ∃ A, A = coreG (prodI (xs.take K)) := ⟨_, rfl⟩
            obtain ⟨B, hB0⟩ : ∃ B, B = coreG (prodI (xs.drop K)) := ⟨_, rfl⟩
            rw [← hA0] at HA hA
            rw [← hB0] at HB' hB
            rw [← hA0, ← hB0, ← HCC.out] at HNM
            obtain ⟨a0, a5⟩ := hA
            obtain ⟨b0, b5⟩ := hB
            clear hA0 hB0 hN
            have HRT := hid ((X_4.out.rd).take (k := K) (c := cap) (by omega) rfl)
            go_wp2_with fail
            refine (formDisc_any _ (xs.take K) _ HRT.out HKL.out).mono ?_
            rw [HA.out]
            rintro e d5 ⟨rfl, hb5⟩
            have HB5 := hid (HB4.out.trans (hb5.mono HB4.out.size))
            have X_5 := hid (X_4.out.keep X_4.out.lt hb5)
            clear hb5
            have HRD := (X_5.out.rd).cut (k := K) (by omega) rfl hroom
            rw [if_neg hck] at HRD
            replace HRD := hid HRD
            go_wp2_with fail
            refine (formDisc_any _ (xs.drop K) _ (by simpa using HRD.out) HDL.out).mono ?_
            rw [HB'.out]
            rintro e d6 ⟨rfl, hb6⟩
            have HB6 := hid (HB5.out.trans (hb6.mono HB5.out.size))
            have X_6 := hid (X_5.out.keep X_5.out.lt hb6)
            clear hb6
            obtain ⟨j, hj⟩ : ∃ j, j = len1 % 4 := ⟨_, rfl⟩
            have hlt : j < 4 := by omega
            have hje : (len1 : Int) % 4 = (j : Int) := by rw [hj]; push_cast; rfl
            clear hj
            have ha7 := (Below.refl d6.heap.size d6).alloc (Nat.le_refl _) (.cells #[.int .i64 0, .int .i64 2, .int .i64 3, .int .i64 5] 3)
            have HB7 := hid (HB6.out.trans (ha7.mono HB6.out.size))
            have X_7 := hid (X_6.out.keep X_6.out.lt ha7)
            have PL_7 : Hid (Owns (d6.alloc (.cells #[.int .i64 0, .int .i64 2, .int .i64 3, .int .i64 5] 3)) d6.heap.size (.slice (some ⟨d6.heap.size, 0, none⟩) 4 4) [0, 2, 3, 5]) := hid (owns_lit [0, 2, 3, 5] _ rfl (Nat.le_refl _) (by unfold maxLen; simp))
            clear ha7
            obtain ⟨ad, cap, e1, hform⟩ := (PL_7.out.rd).form
            cases e1
            obtain ⟨bb, o, e2, hml, hc⟩ := hform (by decide)
            cases e2
            have hcell := hc j hlt
            rw [Nat.zero_add] at hcell
            clear hc hml
            obtain ⟨q, hq⟩ : ∃ q, q = ([0, 2, 3, 5] : List Int).getD j 0 := ⟨_, rfl⟩
            rw [← hq] at hcell
            have HQ : Hid (plI q = true) := hid (four_pl q (by rw [hq, getD_at _ _ (show j < ([0, 2, 3, 5] : List Int).length from hlt)]; exact List.getElem_mem _))
            clear hq
            by_cases hA5 : A.natAbs ≤ 5000
            · have hsA : ((A.natAbs : Nat) : Int) ≤ 5000 := by omega
              by_cases hB5 : B.natAbs ≤ 5000
              · have hsB : ((B.natAbs : Nat) : Int) ≤ 5000 := by omega
                obtain ⟨n1, n2⟩ := HNM.out q HQ.out (factB_yes (by omega) (by omega) a0) (factB_yes (by omega) (by omega) b0) (factB_yes (by omega) (by omega) hc0)
                have HN1 := hid n1
                have HN2 := hid n2
                clear n1 n2 HNM hA5 hB5 h5
                go_wp2_with (go_at_call 29; refine (sizeOf_any _ (by omega) (by omega) _).mono ?_; rintro e w' ⟨rfl, rfl⟩)
                refine (localMul_any A B q _).mono ?_
                rw [HN1.out]
                rintro e d8 ⟨rfl, hb8⟩
                have HB8 := hid (HB7.out.trans (hb8.mono HB7.out.size))
                have X_8 := hid (X_7.out.keep X_7.out.lt hb8)
                clear hb8
                go_wp2_with (go_at_call 29; refine (sizeOf_any _ (by omega) (by omega) _).mono ?_; rintro e w' ⟨rfl, rfl⟩)
                refine (localName_any C q _).mono ?_
                rw [HN2.out]
                rintro e d9 ⟨rfl, hb9⟩
                have HB9 := hid (HB8.out.trans (hb9.mono HB8.out.size))
                have X_9 := hid (X_8.out.keep X_8.out.lt hb9)
                clear hb9
                go_wp2
                go_ret
                exact ⟨rfl, HB9.out⟩
              · have hsB : (5000 : Int) < ((B.natAbs : Nat) : Int) := by omega
                clear hA5 hB5 h5
                go_wp2_with (go_at_call 29; refine (sizeOf_any _ (by omega) (by omega) _).mono ?_; rintro e w' ⟨rfl, rfl⟩)
                go_ret
                exact ⟨rfl, HB7.out⟩
            · have hsA : (5000 : Int) < ((A.natAbs : Nat) : Int) := by omega
              clear hA5 h5
              go_wp2_with (go_at_call 29; refine (sizeOf_any _ (by omega) (by omega) _).mono ?_; rintro e w' ⟨rfl, rfl⟩)
              go_ret
              exact ⟨rfl, HB7.out⟩
      · have HV : Hid (coreV C = _) := hid (coreV_no (factB_no (by omega)))
        have hs : (5000 : Int) < ((C.natAbs : Nat) : Int) := by omega
        by_cases h1 : xs.length = 1
        · exfalso
          obtain ⟨x, rfl⟩ := List.length_eq_one_iff.1 h1
          obtain ⟨e1, e2, e3⟩ := (fvB_iff.1 HF.out).1 x (by simp)
          have := core_bd2 e1
          have e4 := HCC.out
          rw [show prodI [x] = x from Int.mul_one x] at e4
          omega
        go_wp2_with fail
        refine (coreOf_any C _).mono ?_
        rw [HV.out]
        rintro e d4 ⟨rfl, hb4⟩
        have HB4 := hid (HB2.out.trans (hb4.mono HB2.out.size))
        have X_4 := hid (X_2.out.keep X_2.out.lt hb4)
        clear hb4
        have hN : xs.length = 2 ∨ xs.length = 3 ∨ xs.length = 4 := by omega
        rcases hN with hN | hN | hN
        · skip
          have hm : (xs.length : Int) - 1 = 1 := by omega
          have hKb : 1 < xs.length := by omega
          have hK1 : 1 ≤ 1 := by omega
          have hck : ¬ cap = 1 := by omega
          have HKL : Hid ((xs.take 1).length ≤ 1048576) := hid (by rw [List.length_take]; omega)
          have HDL : Hid ((xs.drop 1).length ≤ 1048576) := hid (by rw [List.length_drop]; omega)
          have HA := hid (disc_yes (fv_take HF.out hK1 (Nat.le_of_lt hKb)))
          have HB' := hid (disc_yes (fv_drop HF.out hKb))
          have hA := disc_size (fv_take HF.out hK1 (Nat.le_of_lt hKb))
          have hB := disc_size (fv_drop HF.out hKb)
          have HNM := hid (fun (q : Int) (hq : plI q = true) => @disc_name xs 1 q HZ.out hq)
          obtain ⟨A, hA0⟩ : ∃ A, A = coreG (prodI (xs.take 1)) := ⟨_, rfl⟩
          obtain ⟨B, hB0⟩ : ∃ B, B = coreG (prodI (xs.drop 1)) := ⟨_, rfl⟩
          rw [← hA0] at HA hA
          rw [← hB0] at HB' hB
          rw [← hA0, ← hB0, ← HCC.out] at HNM
          obtain ⟨a0, a5⟩ := hA
          obtain ⟨b0, b5⟩ := hB
          clear hA0 hB0 hN
          have HRT := hid ((X_4.out.rd).take (k := 1) (c := cap) (by omega) rfl)
          go_wp2_with fail
          refine (formDisc_any _ (xs.take 1) _ HRT.out HKL.out).mono ?_
          rw [HA.out]
          rintro e d5 ⟨rfl, hb5⟩
          have HB5 := hid (HB4.out.trans (hb5.mono HB4.out.size))
          have X_5 := hid (X_4.out.keep X_4.out.lt hb5)
          clear hb5
          have HRD := (X_5.out.rd).cut (k := 1) (by omega) rfl hroom
          rw [if_neg hck] at HRD
          replace HRD := hid HRD
          go_wp2_with fail
          refine (formDisc_any _ (xs.drop 1) _ (by simpa using HRD.out) HDL.out).mono ?_
          rw [HB'.out]
          rintro e d6 ⟨rfl, hb6⟩
          have HB6 := hid (HB5.out.trans (hb6.mono HB5.out.size))
          have X_6 := hid (X_5.out.keep X_5.out.lt hb6)
          clear hb6
          obtain ⟨j, hj⟩ : ∃ j, j = len1 % 4 := ⟨_, rfl⟩
          have hlt : j < 4 := by omega
          have hje : (len1 : Int) % 4 = (j : Int) := by rw [hj]; push_cast; rfl
          clear hj
          have ha7 := (Below.refl d6.heap.size d6).alloc (Nat.le_refl _) (.cells #[.int .i64 0, .int .i64 2, .int .i64 3, .int .i64 5] 3)
          have HB7 := hid (HB6.out.trans (ha7.mono HB6.out.size))
          have X_7 := hid (X_6.out.keep X_6.out.lt ha7)
          have PL_7 : Hid (Owns (d6.alloc (.cells #[.int .i64 0, .int .i64 2, .int .i64 3, .int .i64 5] 3)) d6.heap.size (.slice (some ⟨d6.heap.size, 0, none⟩) 4 4) [0, 2, 3, 5]) := hid (owns_lit [0, 2, 3, 5] _ rfl (Nat.le_refl _) (by unfold maxLen; simp))
          clear ha7
          obtain ⟨ad, cap, e1, hform⟩ := (PL_7.out.rd).form
          cases e1
          obtain ⟨bb, o, e2, hml, hc⟩ := hform (by decide)
          cases e2
          have hcell := hc j hlt
          rw [Nat.zero_add] at hcell
          clear hc hml
          obtain ⟨q, hq⟩ : ∃ q, q = ([0, 2, 3, 5] : List Int).getD j 0 := ⟨_, rfl⟩
          rw [← hq] at hcell
          have HQ : Hid (plI q = true) := hid (four_pl q (by rw [hq, getD_at _ _ (show j < ([0, 2, 3, 5] : List Int).length from hlt)]; exact List.getElem_mem _))
          clear hq
          clear h5 HNM
          go_wp2_with (go_at_call 29; refine (sizeOf_any _ (by omega) (by omega) _).mono ?_; rintro e w' ⟨rfl, rfl⟩)
          go_ret
          exact ⟨rfl, HB7.out⟩
        · skip
          have hm : (xs.length : Int) - 1 = 2 := by omega
          obtain ⟨K, hK⟩ : ∃ K, K = 1 + len1 % 2 := ⟨_, rfl⟩
          have hke : 1 + (len1 : Int) % 2 = (K : Int) := by rw [hK]; push_cast; rfl
          have hKb : K < xs.length := by omega
          have hK1 : 1 ≤ K := by omega
          have hck : ¬ cap = K := by omega
          have HKL : Hid ((xs.take K).length ≤ 1048576) := hid (by rw [List.length_take]; omega)
          have HDL : Hid ((xs.drop K).length ≤ 1048576) := hid (by rw [List.length_drop]; omega)
          clear hK
          have HA := hid (disc_yes (fv_take HF.out hK1 (Nat.le_of_lt hKb)))
          have HB' := hid (disc_yes (fv_drop HF.out hKb))
          have hA := disc_size (fv_take HF.out hK1 (Nat.le_of_lt hKb))
          have hB := disc_size (fv_drop HF.out hKb)
          have HNM := hid (fun (q : Int) (hq : plI q = true) => @disc_name xs K q HZ.out hq)
          obtain ⟨A, hA0⟩ : ∃ A, A = coreG (prodI (xs.take K)) := ⟨_, rfl⟩
          obtain ⟨B, hB0⟩ : ∃ B, B = coreG (prodI (xs.drop K)) := ⟨_, rfl⟩
          rw [← hA0] at HA hA
          rw [← hB0] at HB' hB
          rw [← hA0, ← hB0, ← HCC.out] at HNM
          obtain ⟨a0, a5⟩ := hA
          obtain ⟨b0, b5⟩ := hB
          clear hA0 hB0 hN
          have HRT := hid ((X_4.out.rd).take (k := K) (c := cap) (by omega) rfl)
          go_wp2_with fail
          refine (formDisc_any _ (xs.take K) _ HRT.out HKL.out).mono ?_
          rw [HA.out]
          rintro e d5 ⟨rfl, hb5⟩
          have HB5 := hid (HB4.out.trans (hb5.mono HB4.out.size))
          have X_5 := hid (X_4.out.keep X_4.out.lt hb5)
          clear hb5
          have HRD := (X_5.out.rd).cut (k := K) (by omega) rfl hroom
          rw [if_neg hck] at HRD
          replace HRD := hid HRD
          go_wp2_with fail
          refine (formDisc_any _ (xs.drop K) _ (by simpa using HRD.out) HDL.out).mono ?_
          rw [HB'.out]
          rintro e d6 ⟨rfl, hb6⟩
          have HB6 := hid (HB5.out.trans (hb6.mono HB5.out.size))
          have X_6 := hid (X_5.out.keep X_5.out.lt hb6)
          clear hb6
          obtain ⟨j, hj⟩ : ∃ j, j = len1 % 4 := ⟨_, rfl⟩
          have hlt : j < 4 := by omega
          have hje : (len1 : Int) % 4 = (j : Int) := by rw [hj]; push_cast; rfl
          clear hj
          have ha7 := (Below.refl d6.heap.size d6).alloc (Nat.le_refl _) (.cells #[.int .i64 0, .int .i64 2, .int .i64 3, .int .i64 5] 3)
          have HB7 := hid (HB6.out.trans (ha7.mono HB6.out.size))
          have X_7 := hid (X_6.out.keep X_6.out.lt ha7)
          have PL_7 : Hid (Owns (d6.alloc (.cells #[.int .i64 0, .int .i64 2, .int .i64 3, .int .i64 5] 3)) d6.heap.size (.slice (some ⟨d6.heap.size, 0, none⟩) 4 4) [0, 2, 3, 5]) := hid (owns_lit [0, 2, 3, 5] _ rfl (Nat.le_refl _) (by unfold maxLen; simp))
          clear ha7
          obtain ⟨ad, cap, e1, hform⟩ := (PL_7.out.rd).form
          cases e1
          obtain ⟨bb, o, e2, hml, hc⟩ := hform (by decide)
          cases e2
          have hcell := hc j hlt
          rw [Nat.zero_add] at hcell
          clear hc hml
          obtain ⟨q, hq⟩ : ∃ q, q = ([0, 2, 3, 5] : List Int).getD j 0 := ⟨_, rfl⟩
          rw [← hq] at hcell
          have HQ : Hid (plI q = true) := hid (four_pl q (by rw [hq, getD_at _ _ (show j < ([0, 2, 3, 5] : List Int).length from hlt)]; exact List.getElem_mem _))
          clear hq
          clear h5 HNM
          go_wp2_with (go_at_call 29; refine (sizeOf_any _ (by omega) (by omega) _).mono ?_; rintro e w' ⟨rfl, rfl⟩)
          go_ret
          exact ⟨rfl, HB7.out⟩
        · skip
          have hm : (xs.length : Int) - 1 = 3 := by omega
          obtain ⟨K, hK⟩ : ∃ K, K = 1 + len1 % 3 := ⟨_, rfl⟩
          have hke : 1 + (len1 : Int) % 3 = (K : Int) := by rw [hK]; push_cast; rfl
          have hKb : K < xs.length := by omega
          have hK1 : 1 ≤ K := by omega
          have hck : ¬ cap = K := by omega
          have HKL : Hid ((xs.take K).length ≤ 1048576) := hid (by rw [List.length_take]; omega)
          have HDL : Hid ((xs.drop K).length ≤ 1048576) := hid (by rw [List.length_drop]; omega)
          clear hK
          have HA := hid (disc_yes (fv_take HF.out hK1 (Nat.le_of_lt hKb)))
          have HB' := hid (disc_yes (fv_drop HF.out hKb))
          have hA := disc_size (fv_take HF.out hK1 (Nat.le_of_lt hKb))
          have hB := disc_size (fv_drop HF.out hKb)
          have HNM := hid (fun (q : Int) (hq : plI q = true) => @disc_name xs K q HZ.out hq)
          obtain ⟨A, hA0⟩ : ∃ A, A = coreG (prodI (xs.take K)) := ⟨_, rfl⟩
          obtain ⟨B, hB0⟩ : ∃ B, B = coreG (prodI (xs.drop K)) := ⟨_, rfl⟩
          rw [← hA0] at HA hA
          rw [← hB0] at HB' hB
          rw [← hA0, ← hB0, ← HCC.out] at HNM
          obtain ⟨a0, a5⟩ := hA
          obtain ⟨b0, b5⟩ := hB
          clear hA0 hB0 hN
          have HRT := hid ((X_4.out.rd).take (k := K) (c := cap) (by omega) rfl)
          go_wp2_with fail
          refine (formDisc_any _ (xs.take K) _ HRT.out HKL.out).mono ?_
          rw [HA.out]
          rintro e d5 ⟨rfl, hb5⟩
          have HB5 := hid (HB4.out.trans (hb5.mono HB4.out.size))
          have X_5 := hid (X_4.out.keep X_4.out.lt hb5)
          clear hb5
          have HRD := (X_5.out.rd).cut (k := K) (by omega) rfl hroom
          rw [if_neg hck] at HRD
          replace HRD := hid HRD
          go_wp2_with fail
          refine (formDisc_any _ (xs.drop K) _ (by simpa using HRD.out) HDL.out).mono ?_
          rw [HB'.out]
          rintro e d6 ⟨rfl, hb6⟩
          have HB6 := hid (HB5.out.trans (hb6.mono HB5.out.size))
          have X_6 := hid (X_5.out.keep X_5.out.lt hb6)
          clear hb6
          obtain ⟨j, hj⟩ : ∃ j, j = len1 % 4 := ⟨_, rfl⟩
          have hlt : j < 4 := by omega
          have hje : (len1 : Int) % 4 = (j : Int) := by rw [hj]; push_cast; rfl
          clear hj
          have ha7 := (Below.refl d6.heap.size d6).alloc (Nat.le_refl _) (.cells #[.int .i64 0, .int .i64 2, .int .i64 3, .int .i64 5] 3)
          have HB7 := hid (HB6.out.trans (ha7.mono HB6.out.size))
          have X_7 := hid (X_6.out.keep X_6.out.lt ha7)
          have PL_7 : Hid (Owns (d6.alloc (.cells #[.int .i64 0, .int .i64 2, .int .i64 3, .int .i64 5] 3)) d6.heap.size (.slice (some ⟨d6.heap.size, 0, none⟩) 4 4) [0, 2, 3, 5]) := hid (owns_lit [0, 2, 3, 5] _ rfl (Nat.le_refl _) (by unfold maxLen; simp))
          clear ha7
          obtain ⟨ad, cap, e1, hform⟩ := (PL_7.out.rd).form
          cases e1
          obtain ⟨bb, o, e2, hml, hc⟩ := hform (by decide)
          cases e2
          have hcell := hc j hlt
          rw [Nat.zero_add] at hcell
          clear hc hml
          obtain ⟨q, hq⟩ : ∃ q, q = ([0, 2, 3, 5] : List Int).getD j 0 := ⟨_, rfl⟩
          rw [← hq] at hcell
          have HQ : Hid (plI q = true) := hid (four_pl q (by rw [hq, getD_at _ _ (show j < ([0, 2, 3, 5] : List Int).length from hlt)]; exact List.getElem_mem _))
          clear hq
          clear h5 HNM
          go_wp2_with (go_at_call 29; refine (sizeOf_any _ (by omega) (by omega) _).mono ?_; rintro e w' ⟨rfl, rfl⟩)
          go_ret
          exact ⟨rfl, HB7.out⟩
theorem own : ownKnob Try.prog.godebug = none := by kernel_rfl
theorem laidOut : laidOutB Try.prog = true := by kernel_rfl
set_option maxRecDepth 100000 in
theorem lifted (os : Os) (started : os.Started) (H : Type) (enc : TypeId × Value → H) :
    ReturnsInHanded {} Try.checked os 5 .any (Rows.fnDiscSpec.pre6 enc Try.prog Try.f5 Rows.fnDiscRow.domain false) (Rows.fnDiscSpec.post enc Try.prog Try.f5 false true false false) := by
  refine returnsInHanded_of_change (C := Try.checked) own started (by kernel_rfl) Try.func5
    (ChangeSpec.witness6 (enc := enc) (C := Try.checked) false ⟨#[], #[.slice none 0 0, .slice none 0 0], []⟩ 8 (by kernel_rfl) (by kernel_rfl) (by kernel_rfl) (by kernel_rfl)) ?_
  intro W base args ds gs before hval0 hW hcnd _
  have hval : ∀ (j : Nat) t v, Try.f5.params[j]? = some t → args[j]? = some v → Value.okWide Try.prog W .any base t v := hval0
  have hW' := hW
  obtain ⟨p, q, hA0, hV, rfl, hfz, hnd⟩ := hW
  have hA : DataW.TrodAll enc Try.prog W 0 (fun _ => true) true Try.f5.params.toList args.toList ds p := hA0
  rw [Try.params5] at hA hval
  obtain ⟨v0, vs0, d0, ds0, p0, q0, hargs, rfl, rfl, h0, r0⟩ := trodAll_cons hA
  obtain ⟨v1, vs1, d1, ds1, p1, q1, rfl, rfl, rfl, h1, r1⟩ := trodAll_cons r0
  obtain ⟨rfl, rfl, rfl⟩ := trodAll_nil r1
  obtain rfl : args = #[v0, v1] := by cases args; simp_all
  obtain ⟨rfl, rfl⟩ := trodVars_none hV
  obtain ⟨a0, len0, cap0, rfl⟩ := okWide_slice Try.underlying22 (hval 0 22 v0 rfl rfl)
  have k0 := h0
  have lt0 : ∀ x ∈ p0, x.block < W.heap.size := by obtain ⟨m, hm⟩ := k0; exact DataW.trod_lt m _ _ _ hm
  obtain ⟨z0, w0⟩ : ∃ zs, IsRow .u8 W a0 len0 cap0 zs := by
    obtain ⟨fuel, hf⟩ := h0
    rcases open_ints Try.underlying22 Try.underlying5 (by kernel_rfl) hf with ⟨hcs, _⟩ | ⟨x, l, c, zs, hcs, _, hl, hm, hz, _, hcell, hwz⟩
    · simp [Value.cells] at hcs
      obtain ⟨rfl, rfl, rfl⟩ := hcs
      exact ⟨[], .inl ⟨rfl, rfl, rfl, rfl⟩⟩
    · simp [Value.cells] at hcs
      obtain ⟨rfl, rfl, rfl⟩ := hcs
      exact ⟨zs, .inr ⟨_, rfl, hl, hm, by simpa using hz, hcell, hwz⟩⟩
  obtain ⟨a1, len1, cap1, rfl⟩ := okWide_slice Try.underlying22 (hval 1 22 v1 rfl rfl)
  have k1 := h1
  have lt1 : ∀ x ∈ p1, x.block < W.heap.size := by obtain ⟨m, hm⟩ := k1; exact DataW.trod_lt m _ _ _ hm
  obtain ⟨z1, w1⟩ : ∃ zs, IsRow .u8 W a1 len1 cap1 zs := by
    obtain ⟨fuel, hf⟩ := h1
    rcases open_ints Try.underlying22 Try.underlying5 (by kernel_rfl) hf with ⟨hcs, _⟩ | ⟨x, l, c, zs, hcs, _, hl, hm, hz, _, hcell, hwz⟩
    · simp [Value.cells] at hcs
      obtain ⟨rfl, rfl, rfl⟩ := hcs
      exact ⟨[], .inl ⟨rfl, rfl, rfl, rfl⟩⟩
    · simp [Value.cells] at hcs
      obtain ⟨rfl, rfl, rfl⟩ := hcs
      exact ⟨zs, .inr ⟨_, rfl, hl, hm, by simpa using hz, hcell, hwz⟩⟩
  clear hA0 hval0
  refine (walk a0 len0 cap0 z0 a1 len1 cap1 z1 W w0 w1).mono fun e W' ⟨he, bel⟩ => ?_
  subst he
  exact ⟨_, rfl, _, _, _, [], _, [], hW', trodAll_mk1 (shut_bool Try.underlying4 _), (trodAll_cons_mk (Below.trod laidOut (by kernel_rfl) (of_decide_eq_true (by kernel_rfl)) k0 bel lt0) (trodAll_cons_mk (Below.trod laidOut (by kernel_rfl) (of_decide_eq_true (by kernel_rfl)) k1 bel lt1) trodAll_mk0)), rfl, bel.frame _, fun h => by cases h⟩
theorem over : Rows.fnDiscRow.holds Try.pinned (OpenSpec.ofChange Rows.fnDiscSpec) :=
  OpenClaim.holds_of_wide 5 Try.f5 rfl rfl rfl rfl rfl rfl rfl ⟨rfl, rfl, rfl, rfl, rfl⟩ rfl rfl rfl rfl rfl (by kernel_rfl) Try.func5 (by kernel_rfl)
    (of_decide_eq_true (by kernel_rfl)) (by unfold Func.isWrapper; first | (rw [if_pos (by decide +kernel)]; kernel_rfl) | (rw [if_neg (by decide +kernel)]; exact ⟨rfl, rfl⟩))
    (fun os started H enc _ => lifted os started H enc)
theorem proved : Rows.FnDiscSaid := over
end Go.Proofs.Ytciajpimpjpnfaa.fnDisc
