/-
  Proves: for every two codes: the invariant knows neither the order of terms nor squares in them, and is that of two parts with the symbol of their discriminants.
  Conditions: none beyond the given statement's own.
-/
import Derived.Test.YtciajpimpjpnfaaRows
import Derived.Test.YtciajpimpjpnfaaBun48
import Derived.Test.YtciajpimpjpnfaaBun26
import Derived.Test.YtciajpimpjpnfaaBun22
import Derived.Test.YtciajpimpjpnfaaBun38
import Derived.Test.YtciajpimpjpnfaaImp4D
import Derived.Test.YtciajpimpjpnfaaImp4F
import Derived.ProofKit
import Derived.OpenShut
import Derived.ShutString
import Derived.ChangeOld
namespace Go.Proofs.Ytciajpimpjpnfaa.fnInvariant
open Go.ChangeShapes Go.WideShapes Go.ChangeAt Go.RowKit
open Go.ChangeMaps (open_string shut_string)
set_option linter.unusedVariables false
theorem inv_c2 {xs : List Int} {q : Int} (h : fvB xs = true) (hq : plI q = true) : finvV xs q = hasC q xs := by
  unfold finvV
  rw [h, hq]
  exact hasF_eq hq (fv_nz h)
theorem inv_rev {xs : List Int} {q : Int} (h : fvB xs = true) (hq : plI q = true) : finvV xs.reverse q = hasC q xs := by
  have hp := (List.reverse_perm xs).symm
  rw [inv_c2 (fv_perm hp h) hq, ← hasC_perm hq hp (fv_nz h)]
theorem inv_cores {xs : List Int} {q : Int} (h : fvB xs = true) (hq : plI q = true) : finvV (fcoresL xs) q = hasC q xs := by
  rw [cores_yes h, inv_c2 (fv_cores h) hq, hasC_cls hq (fun x hx => core_cls hx hq) (fv_nz h)]
theorem inv_split {xs : List Int} {K : Nat} {q : Int} (h : fvB xs = true) (hK : 1 ≤ K) (hl : K < xs.length) (hq : plI q = true) :
    ∃ a b : Int, finvV (xs.take K) q = a ∧ finvV (xs.drop K) q = b ∧ (a = 1 ∨ a = -1) ∧ (b = 1 ∨ b = -1) ∧ symV (coreG (prodI (xs.take K))) (coreG (prodI (xs.drop K))) q * a * b = hasC q xs := by
  have f1 := fv_take h hK (Nat.le_of_lt hl)
  have f2 := fv_drop h hl
  have z1 := fv_nz f1
  have z2 := fv_nz f2
  refine ⟨_, _, inv_c2 f1 hq, inv_c2 f2 hq, hasC_pm hq z1, hasC_pm hq z2, ?_⟩
  rw [symV_congr (core_cls z1.prod hq).2 (core_cls z2.prod hq).2]
  have e := hasC_app hq z1 z2
  rw [List.take_append_drop] at e
  rw [e, Int.mul_assoc, Int.mul_comm]
theorem inv_size {xs : List Int} (h : fvB xs = true) : coreG (prodI xs) ≠ 0 ∧ (coreG (prodI xs)).natAbs ≤ 810000 := by
  have hz := fv_nz h
  have := core_bd2 hz.prod
  have := prod_full h
  omega
set_option maxRecDepth 100000 in
set_option maxHeartbeats 4000000 in
theorem walk  (a0 : Option Addr) (len0 cap0 : Nat) (z0 : List Int) (a1 : Option Addr) (len1 cap1 : Nat) (z1 : List Int) (w : World) (w0 : IsRow .u8 w a0 len0 cap0 z0) (w1 : IsRow .u8 w a1 len1 cap1 z1) :
    Calls Try.prog 7 #[.slice a0 len0 cap0, .slice a1 len1 cap1] w fun e w' => e = .returned (.bool true) ∧ Below w.heap.size w w' := by
  have HC := hid (codeIn_of w0)
  clear w0 w1
  by_cases hl0 : (1048576 : Int) < (len0 : Int)
  · go_enter Try.func7, Try.ntmps7
    go_wp2
    go_ret
    exact ⟨rfl, Below.refl _ _⟩
  by_cases hl1 : (1048576 : Int) < (len1 : Int)
  · go_enter Try.func7, Try.ntmps7
    go_wp2
    go_ret
    exact ⟨rfl, Below.refl _ _⟩
  · go_enter Try.func7, Try.ntmps7
    go_wp2_with fail
    refine (drawFormInvariant_any _ len0 _ HC.out).mono ?_
    rintro e d1 ⟨u, xs, q, rfl, hat, HXo, hb0⟩
    have HB1 := hid hb0
    clear hb0
    have hxl := hat.1.1
    have HM := hid hat.1.mild
    clear hat
    cases hfq : (fvB xs && plI q) with
    | false =>
      have HS : Hid (finvV xs q = 0) := hid (by unfold finvV; rw [hfq]; rfl)
      clear hfq
      go_wp2_with fail
      refine (formInvariant_any u xs q _ HXo.out.rd (by omega)).mono ?_
      rw [HS.out]
      rintro e d2 ⟨rfl, hb2⟩
      have HB2 := hid (HB1.out.trans (hb2.mono HB1.out.size))
      have X_2 := hid (HXo.out.keep HXo.out.lt hb2)
      clear hb2
      go_wp2_with fail
      refine (formInvariantS_any u xs q _ X_2.out.rd).mono ?_
      rw [HS.out]
      rintro e d3 ⟨rfl, k3, hw3⟩
      have hb3 : Below d2.heap.size d2 d3 := by rw [hw3]; exact below_dn (Below.refl _ _)
      have HB3 := hid (HB2.out.trans (hb3.mono HB2.out.size))
      have X_3 := hid (X_2.out.keep X_2.out.lt hb3)
      clear hw3 hb3
      go_wp2
      go_ret
      exact ⟨rfl, HB3.out⟩
    | true =>
      rw [Bool.and_eq_true] at hfq
      obtain ⟨hf, hq⟩ := hfq
      have HF := hid hf
      have HQ := hid hq
      have HS := hid (inv_c2 hf hq)
      have HRV := hid (inv_rev hf hq)
      have HCR := hid (inv_cores hf hq)
      have hO := hasC_pm hq (fv_nz hf)
      have hn1 := (fvB_iff.1 hf).2.1
      have hn4 := (fvB_iff.1 hf).2.2
      obtain ⟨O, hO0⟩ : ∃ O, O = hasC q xs := ⟨_, rfl⟩
      rw [← hO0] at HS HRV HCR hO
      have HOO := hid hO0
      have HLN := hid (fcores_len xs)
      obtain ⟨g, cap, rfl⟩ := (HXo.out).slice_of (by omega)
      have hroom := (HXo.out).room
      have T0 : (O == 0) = false := by rw [beq_eq_false_iff_ne]; omega
      clear hf hq hO0 hO
      go_wp2_with fail
      refine (formInvariant_any _ xs q _ HXo.out.rd (by omega)).mono ?_
      rw [HS.out]
      rintro e d2 ⟨rfl, hb2⟩
      have HB2 := hid (HB1.out.trans (hb2.mono HB1.out.size))
      have X_2 := hid (HXo.out.keep HXo.out.lt hb2)
      clear hb2
      go_wp2_with fail
      refine (formInvariantS_any _ xs q _ X_2.out.rd).mono ?_
      rw [HS.out]
      rintro e d3 ⟨rfl, k3, hw3⟩
      have hb3 : Below d2.heap.size d2 d3 := by rw [hw3]; exact below_dn (Below.refl _ _)
      have HB3 := hid (HB2.out.trans (hb3.mono HB2.out.size))
      have X_3 := hid (X_2.out.keep X_2.out.lt hb3)
      clear hw3 hb3
      go_wp2_with fail
      refine (formCores_any _ xs _ X_3.out.rd (by omega)).mono ?_
      rw [HF.out]
      rintro e d4 ⟨C_o, rfl, hO4, hb4⟩
      have HB4 := hid (HB3.out.trans (hb4.mono HB3.out.size))
      have X_4 := hid (X_3.out.keep X_3.out.lt hb4)
      have C_4 := hid hO4
      clear hO4
      clear hb4
      go_wp2_with fail
      refine (backOf_any _ xs _ X_4.out.rd HM.out).mono ?_
      rintro e d5 ⟨R_o, rfl, hO5, hb5⟩
      have HB5 := hid (HB4.out.trans (hb5.mono HB4.out.size))
      have X_5 := hid (X_4.out.keep X_4.out.lt hb5)
      have C_5 := hid (C_4.out.keep C_4.out.lt hb5)
      have R_5 := hid hO5
      clear hO5
      clear hb5
      go_wp2_with fail
      refine (formInvariant_any _ _ q _ R_5.out.rd (by rw [List.length_reverse]; omega)).mono ?_
      rw [HRV.out]
      rintro e d6 ⟨rfl, hb6⟩
      have HB6 := hid (HB5.out.trans (hb6.mono HB5.out.size))
      have X_6 := hid (X_5.out.keep X_5.out.lt hb6)
      have C_6 := hid (C_5.out.keep C_5.out.lt hb6)
      have R_6 := hid (R_5.out.keep R_5.out.lt hb6)
      clear hb6
      go_wp2_with fail
      refine (formInvariant_any _ _ q _ C_6.out.rd (by have := HLN.out; omega)).mono ?_
      rw [HCR.out]
      rintro e d7 ⟨rfl, hb7⟩
      have HB7 := hid (HB6.out.trans (hb7.mono HB6.out.size))
      have X_7 := hid (X_6.out.keep X_6.out.lt hb7)
      have C_7 := hid (C_6.out.keep C_6.out.lt hb7)
      clear hb7
      by_cases h1 : xs.length = 1
      · skip
        obtain ⟨x, rfl⟩ := List.length_eq_one_iff.1 h1
        have HO1 := HOO.out
        rw [hasC_one q HQ.out ((fvB_iff.1 HF.out).1 x (by simp)).1] at HO1
        subst HO1
        go_wp2
        go_ret
        exact ⟨rfl, HB7.out⟩
      · have hN : xs.length = 2 ∨ xs.length = 3 ∨ xs.length = 4 := by omega
        rcases hN with hN | hN | hN
        · skip
          have hm : (xs.length : Int) - 1 = 1 := by omega
          have hKb : 1 < xs.length := by omega
          have hK1 : 1 ≤ 1 := by omega
          have hck : ¬ cap = 1 := by omega
          have HKL : Hid ((xs.take 1).length ≤ 1048576) := hid (by rw [List.length_take]; omega)
          have HDL : Hid ((xs.drop 1).length ≤ 1048576) := hid (by rw [List.length_drop]; omega)
          have HA := hid (disc_yes (fv_take HF.out hK1 (Nat.le_of_lt hKb)))
          have HB' := hid (disc_yes (fv_drop HF.out hKb))
          have hA := inv_size (fv_take HF.out hK1 (Nat.le_of_lt hKb))
          have hB := inv_size (fv_drop HF.out hKb)
          obtain ⟨a, b, hia, hib, hav, hbv, hpr⟩ := inv_split HF.out hK1 hKb HQ.out
          obtain ⟨A, hA0⟩ : ∃ A, A = coreG (prodI (xs.take 1)) := ⟨_, rfl⟩
          obtain ⟨B, hB0⟩ : ∃ B, B = coreG (prodI (xs.drop 1)) := ⟨_, rfl⟩
          rw [← hA0] at HA hA hpr
          rw [← hB0] at HB' hB hpr
          rw [← HOO.out] at hpr
          obtain ⟨a0, a5⟩ := hA
          obtain ⟨b0, b5⟩ := hB
          have HIA := hid hia
          have HIB := hid hib
          have HPR := hid hpr
          have HAV := hid hav
          have HBV := hid hbv
          clear hA0 hB0 hN hia hib hpr hav hbv
          have HRT := hid ((X_7.out.rd).take (k := 1) (c := cap) (by omega) rfl)
          go_wp2_with fail
          refine (formDisc_any _ (xs.take 1) _ HRT.out HKL.out).mono ?_
          rw [HA.out]
          rintro e d8 ⟨rfl, hb8⟩
          have HB8 := hid (HB7.out.trans (hb8.mono HB7.out.size))
          have X_8 := hid (X_7.out.keep X_7.out.lt hb8)
          clear hb8
          have HRD := (X_8.out.rd).cut (k := 1) (by omega) rfl hroom
          rw [if_neg hck] at HRD
          replace HRD := hid HRD
          go_wp2_with fail
          refine (formDisc_any _ (xs.drop 1) _ (by simpa using HRD.out) HDL.out).mono ?_
          rw [HB'.out]
          rintro e d9 ⟨rfl, hb9⟩
          have HB9 := hid (HB8.out.trans (hb9.mono HB8.out.size))
          have X_9 := hid (X_8.out.keep X_8.out.lt hb9)
          clear hb9
          obtain ⟨S, hS⟩ : ∃ S, S = symOfV A B q := ⟨_, rfl⟩
          have HSY := hid hS.symm
          clear hS
          go_wp2_with fail
          refine (symbolOf_any A B q _).mono ?_
          rw [HSY.out]
          rintro e d10 ⟨rfl, hb10⟩
          have HB10 := hid (HB9.out.trans (hb10.mono HB9.out.size))
          have X_10 := hid (X_9.out.keep X_9.out.lt hb10)
          clear hb10
          by_cases hA5 : A.natAbs ≤ 5000
          · have hsA : ((A.natAbs : Nat) : Int) ≤ 5000 := by omega
            by_cases hB5 : B.natAbs ≤ 5000
            · have hsB : ((B.natAbs : Nat) : Int) ≤ 5000 := by omega
              have HT1 := hid ((X_10.out.rd).take (k := 1) (c := cap) (by omega) rfl)
              have HD1 := (X_10.out.rd).cut (k := 1) (by omega) rfl hroom
              rw [if_neg hck] at HD1
              replace HD1 := hid HD1
              have hSV : S = symV A B q := by
                rw [← HSY.out]
                unfold symOfV okAB
                rw [factB_yes (by omega) (by omega) a0, factB_yes (by omega) (by omega) b0, HQ.out]
                rfl
              have hsv := symV_val a0 b0 HQ.out
              rw [← hSV] at hsv
              have hpr := HPR.out
              rw [← hSV] at hpr
              have hav := HAV.out
              have hbv := HBV.out
              have hs1 : S * a = 1 ∨ S * a = -1 := pm_mul hsv hav
              have hs2 : S * a * b = 1 ∨ S * a * b = -1 := pm_mul hs1 hbv
              have m1 : -1 ≤ S * a := by omega
              have m2 : S * a ≤ 1 := by omega
              have m3 : -1 ≤ S * a * b := by omega
              have m4 : S * a * b ≤ 1 := by omega
              have T : (O == S * a * b) = true := by rw [beq_iff_eq]; exact hpr.symm
              have hBr : Below d10.heap.size d10 d10 := Below.refl _ _
              have HTK : Hid (∀ wx : World, Below d10.heap.size d10 wx → Calls Try.prog 36 #[.slice (some ⟨g, 0, none⟩) 1 cap, .int .i64 q] wx fun e w' => e = .returned (.int .i64 a) ∧ Below wx.heap.size wx w') := hid (fun wx hbx => by
                refine (formInvariant_any _ (xs.take 1) q wx (HT1.out.keep hbx) HKL.out).mono ?_
                rw [HIA.out]
                exact fun e w' h => h)
              have HDK : Hid (∀ wx : World, Below d10.heap.size d10 wx → Calls Try.prog 36 #[.slice (some ⟨g, 1, none⟩) (xs.length - 1) (cap - 1), .int .i64 q] wx fun e w' => e = .returned (.int .i64 b) ∧ Below wx.heap.size wx w') := hid (fun wx hbx => by
                refine (formInvariant_any _ (xs.drop 1) q wx ((by simpa using HD1.out : Rd d10 _ _).keep hbx) HDL.out).mono ?_
                rw [HIB.out]
                exact fun e w' h => h)
              have ha1 : -1 ≤ a := by omega
              have ha2 : a ≤ 1 := by omega
              have hb1' : -1 ≤ b := by omega
              have hb2' : b ≤ 1 := by omega
              have hS1 : -1 ≤ S := by omega
              have hS2 : S ≤ 1 := by omega
              have i1 : (0 : Int) ≤ (1 : Int) := by omega
              have i2 : (1 : Int) ≤ (xs.length : Int) := by omega
              have i3 : (xs.length : Int) ≤ (cap : Int) := by omega
              have i4 : (1 : Int) ≤ (cap : Int) := by omega
              clear hSV hsv hpr hav hbv hs1 hs2 hA5 hB5
              go_wp2_with (go_at_call 29; refine (sizeOf_any _ (by omega) (by omega) _).mono ?_; rintro e w' ⟨rfl, rfl⟩)
              go_region_held3 (fun wx => Below d10.heap.size d10 wx) (first | exact hb3.out | exact hb2.out | exact hBr.drew)
                (first | (go_at_call 36; refine (HDK.out _ hb2.out).mono ?_; rintro e w' ⟨rfl, hbq2⟩; have hb3 := hid (hb2.out.trans (hbq2.mono hb2.out.size))) | (go_at_call 36; refine (HTK.out _ hBr.drew).mono ?_; rintro e w' ⟨rfl, hbq⟩; have hb2 := hid (hBr.trans ((below_of_drew hbq).mono hBr.size))))
              go_wp2
              go_ret
              exact ⟨retB (by rw [IntWalk.i64_in (S * a) (by omega), IntWalk.i64_in (S * a * b) (by omega)]; exact T), HB10.out.trans (hb3.out.mono HB10.out.size)⟩
            · have hsB : (5000 : Int) < ((B.natAbs : Nat) : Int) := by omega
              clear hA5 hB5
              go_wp2_with (go_at_call 29; refine (sizeOf_any _ (by omega) (by omega) _).mono ?_; rintro e w' ⟨rfl, rfl⟩)
              go_ret
              exact ⟨rfl, HB10.out⟩
          · have hsA : (5000 : Int) < ((A.natAbs : Nat) : Int) := by omega
            clear hA5
            go_wp2_with (go_at_call 29; refine (sizeOf_any _ (by omega) (by omega) _).mono ?_; rintro e w' ⟨rfl, rfl⟩)
            go_ret
            exact ⟨rfl, HB10.out⟩
        · skip
          have hm : (xs.length : Int) - 1 = 2 := by omega
          obtain ⟨K, hK⟩ : ∃ K, K = 1 + len1 % 2 := ⟨_, rfl⟩
          have hke : 1 + (len1 : Int) % 2 = (K : Int) := by rw [hK]; push_cast; rfl
          have hKb : K < xs.length := by omega
          have hK1 : 1 ≤ K := by omega
          have hck : ¬ cap = K := by omega
          have HKL : Hid ((xs.take K).length ≤ 1048576) := hid (by rw [List.length_take]; omega)
          have HDL : Hid ((xs.drop K).length ≤ 1048576) := hid (by rw [List.length_drop]; omega)
          clear hK
          have HA := hid (disc_yes (fv_take HF.out hK1 (Nat.le_of_lt hKb)))
          have HB' := hid (disc_yes (fv_drop HF.out hKb))
          have hA := inv_size (fv_take HF.out hK1 (Nat.le_of_lt hKb))
          have hB := inv_size (fv_drop HF.out hKb)
          obtain ⟨a, b, hia, hib, hav, hbv, hpr⟩ := inv_split HF.out hK1 hKb HQ.out
          obtain ⟨A, hA0⟩ : ∃ A, A = coreG (prodI (xs.take K)) := ⟨_, rfl⟩
          obtain ⟨B, hB0⟩ : ∃ B, B = coreG (prodI (xs.drop K)) := ⟨_, rfl⟩
          rw [← hA0] at HA hA hpr
          rw [← hB0] at HB' hB hpr
          rw [← HOO.out] at hpr
          obtain ⟨a0, a5⟩ := hA
          obtain ⟨b0, b5⟩ := hB
          have HIA := hid hia
          have HIB := hid hib
          have HPR := hid hpr
          have HAV := hid hav
          have HBV := hid hbv
          clear hA0 hB0 hN hia hib hpr hav hbv
          have HRT := hid ((X_7.out.rd).take (k := K) (c := cap) (by omega) rfl)
          go_wp2_with fail
          refine (formDisc_any _ (xs.take K) _ HRT.out HKL.out).mono ?_
          rw [HA.out]
          rintro e d8 ⟨rfl, hb8⟩
          have HB8 := hid (HB7.out.trans (hb8.mono HB7.out.size))
          have X_8 := hid (X_7.out.keep X_7.out.lt hb8)
          clear hb8
          have HRD := (X_8.out.rd).cut (k := K) (by omega) rfl hroom
          rw [if_neg hck] at HRD
          replace HRD := hid HRD
          go_wp2_with fail
          refine (formDisc_any _ (xs.drop K) _ (by simpa using HRD.out) HDL.out).mono ?_
          rw [HB'.out]
          rintro e d9 ⟨rfl, hb9⟩
          have HB9 := hid (HB8.out.trans (hb9.mono HB8.out.size))
          have X_9 := hid (X_8.out.keep X_8.out.lt hb9)
          clear hb9
          obtain ⟨S, hS⟩ : ∃ S, S = symOfV A B q := ⟨_, rfl⟩
          have HSY := hid hS.symm
          clear hS
          go_wp2_with fail
          refine (symbolOf_any A B q _).mono ?_
          rw [HSY.out]
          rintro e d10 ⟨rfl, hb10⟩
          have HB10 := hid (HB9.out.trans (hb10.mono HB9.out.size))
          have X_10 := hid (X_9.out.keep X_9.out.lt hb10)
          clear hb10
          by_cases hA5 : A.natAbs ≤ 5000
          · have hsA : ((A.natAbs : Nat) : Int) ≤ 5000 := by omega
            by_cases hB5 : B.natAbs ≤ 5000
            · have hsB : ((B.natAbs : Nat) : Int) ≤ 5000 := by omega
              have HT1 := hid ((X_10.out.rd).take (k := K) (c := cap) (by omega) rfl)
              have HD1 := (X_10.out.rd).cut (k := K) (by omega) rfl hroom
              rw [if_neg hck] at HD1
              replace HD1 := hid HD1
              have hSV : S = symV A B q := by
                rw [← HSY.out]
                unfold symOfV okAB
                rw [factB_yes (by omega) (by omega) a0, factB_yes (by omega) (by omega) b0, HQ.out]
                rfl
              have hsv := symV_val a0 b0 HQ.out
              rw [← hSV] at hsv
              have hpr := HPR.out
              rw [← hSV] at hpr
              have hav := HAV.out
              have hbv := HBV.out
              have hs1 : S * a = 1 ∨ S * a = -1 := pm_mul hsv hav
              have hs2 : S * a * b = 1 ∨ S * a * b = -1 := pm_mul hs1 hbv
              have m1 : -1 ≤ S * a := by omega
              have m2 : S * a ≤ 1 := by omega
              have m3 : -1 ≤ S * a * b := by omega
              have m4 : S * a * b ≤ 1 := by omega
              have T : (O == S * a * b) = true := by rw [beq_iff_eq]; exact hpr.symm
              have hBr : Below d10.heap.size d10 d10 := Below.refl _ _
              have HTK : Hid (∀ wx : World, Below d10.heap.size d10 wx → Calls Try.prog 36 #[.slice (some ⟨g, 0, none⟩) K cap, .int .i64 q] wx fun e w' => e = .returned (.int .i64 a) ∧ Below wx.heap.size wx w') := hid (fun wx hbx => by
                refine (formInvariant_any _ (xs.take K) q wx (HT1.out.keep hbx) HKL.out).mono ?_
                rw [HIA.out]
                exact fun e w' h => h)
              have HDK : Hid (∀ wx : World, Below d10.heap.size d10 wx → Calls Try.prog 36 #[.slice (some ⟨g, K, none⟩) (xs.length - K) (cap - K), .int .i64 q] wx fun e w' => e = .returned (.int .i64 b) ∧ Below wx.heap.size wx w') := hid (fun wx hbx => by
                refine (formInvariant_any _ (xs.drop K) q wx ((by simpa using HD1.out : Rd d10 _ _).keep hbx) HDL.out).mono ?_
                rw [HIB.out]
                exact fun e w' h => h)
              have ha1 : -1 ≤ a := by omega
              have ha2 : a ≤ 1 := by omega
              have hb1' : -1 ≤ b := by omega
              have hb2' : b ≤ 1 := by omega
              have hS1 : -1 ≤ S := by omega
              have hS2 : S ≤ 1 := by omega
              have i1 : (0 : Int) ≤ (K : Int) := by omega
              have i2 : (K : Int) ≤ (xs.length : Int) := by omega
              have i3 : (xs.length : Int) ≤ (cap : Int) := by omega
              have i4 : (K : Int) ≤ (cap : Int) := by omega
              clear hSV hsv hpr hav hbv hs1 hs2 hA5 hB5
              go_wp2_with (go_at_call 29; refine (sizeOf_any _ (by omega) (by omega) _).mono ?_; rintro e w' ⟨rfl, rfl⟩)
              go_region_held3 (fun wx => Below d10.heap.size d10 wx) (first | exact hb3.out | exact hb2.out | exact hBr.drew)
                (first | (go_at_call 36; refine (HDK.out _ hb2.out).mono ?_; rintro e w' ⟨rfl, hbq2⟩; have hb3 := hid (hb2.out.trans (hbq2.mono hb2.out.size))) | (go_at_call 36; refine (HTK.out _ hBr.drew).mono ?_; rintro e w' ⟨rfl, hbq⟩; have hb2 := hid (hBr.trans ((below_of_drew hbq).mono hBr.size))))
              go_wp2
              go_ret
              exact ⟨retB (by rw [IntWalk.i64_in (S * a) (by omega), IntWalk.i64_in (S * a * b) (by omega)]; exact T), HB10.out.trans (hb3.out.mono HB10.out.size)⟩
            · have hsB : (5000 : Int) < ((B.natAbs : Nat) : Int) := by omega
              clear hA5 hB5
              go_wp2_with (go_at_call 29; refine (sizeOf_any _ (by omega) (by omega) _).mono ?_; rintro e w' ⟨rfl, rfl⟩)
              go_ret
              exact ⟨rfl, HB10.out⟩
          · have hsA : (5000 : Int) < ((A.natAbs : Nat) : Int) := by omega
            clear hA5
            go_wp2_with (go_at_call 29; refine (sizeOf_any _ (by omega) (by omega) _).mono ?_; rintro e w' ⟨rfl, rfl⟩)
            go_ret
            exact ⟨rfl, HB10.out⟩
        · skip
          have hm : (xs.length : Int) - 1 = 3 := by omega
          obtain ⟨K, hK⟩ : ∃ K, K = 1 + len1 % 3 := ⟨_, rfl⟩
          have hke : 1 + (len1 : Int) % 3 = (K : Int) := by rw [hK]; push_cast; rfl
          have hKb : K < xs.length := by omega
          have hK1 : 1 ≤ K := by omega
          have hck : ¬ cap = K := by omega
          have HKL : Hid ((xs.take K).length ≤ 1048576) := hid (by rw [List.length_take]; omega)
          have HDL : Hid ((xs.drop K).length ≤ 1048576) := hid (by rw [List.length_drop]; omega)
          clear hK
          have HA := hid (disc_yes (fv_take HF.out hK1 (Nat.le_of_lt hKb)))
          have HB' := hid (disc_yes (fv_drop HF.out hKb))
          have hA := inv_size (fv_take HF.out hK1 (Nat.le_of_lt hKb))
          have hB := inv_size (fv_drop HF.out hKb)
          obtain ⟨a, b, hia, hib, hav, hbv, hpr⟩ := inv_split HF.out hK1 hKb HQ.out
          obtain ⟨A, hA0⟩ : ∃ A, A = coreG (prodI (xs.take K)) := ⟨_, rfl⟩
          obtain ⟨B, hB0⟩ : ∃ B, B = coreG (prodI (xs.drop K)) := ⟨_, rfl⟩
          rw [← hA0] at HA hA hpr
          rw [← hB0] at HB' hB hpr
          rw [← HOO.out] at hpr
          obtain ⟨a0, a5⟩ := hA
          obtain ⟨b0, b5⟩ := hB
          have HIA := hid hia
          have HIB := hid hib
          have HPR := hid hpr
          have HAV := hid hav
          have HBV := hid hbv
          clear hA0 hB0 hN hia hib hpr hav hbv
          have HRT := hid ((X_7.out.rd).take (k := K) (c := cap) (by omega) rfl)
          go_wp2_with fail
          refine (formDisc_any _ (xs.take K) _ HRT.out HKL.out).mono ?_
          rw [HA.out]
          rintro e d8 ⟨rfl, hb8⟩
          have HB8 := hid (HB7.out.trans (hb8.mono HB7.out.size))
          have X_8 := hid (X_7.out.keep X_7.out.lt hb8)
          clear hb8
          have HRD := (X_8.out.rd).cut (k := K) (by omega) rfl hroom
          rw [if_neg hck] at HRD
          replace HRD := hid HRD
          go_wp2_with fail
          refine (formDisc_any _ (xs.drop K) _ (by simpa using HRD.out) HDL.out).mono ?_
          rw [HB'.out]
          rintro e d9 ⟨rfl, hb9⟩
          have HB9 := hid (HB8.out.trans (hb9.mono HB8.out.size))
          have X_9 := hid (X_8.out.keep X_8.out.lt hb9)
          clear hb9
          obtain ⟨S, hS⟩ : ∃ S, S = symOfV A B q := ⟨_, rfl⟩
          have HSY := hid hS.symm
          clear hS
          go_wp2_with fail
          refine (symbolOf_any A B q _).mono ?_
          rw [HSY.out]
          rintro e d10 ⟨rfl, hb10⟩
          have HB10 := hid (HB9.out.trans (hb10.mono HB9.out.size))
          have X_10 := hid (X_9.out.keep X_9.out.lt hb10)
          clear hb10
          by_cases hA5 : A.natAbs ≤ 5000
          · have hsA : ((A.natAbs : Nat) : Int) ≤ 5000 := by omega
            by_cases hB5 : B.natAbs ≤ 5000
            · have hsB : ((B.natAbs : Nat) : Int) ≤ 5000 := by omega
              have HT1 := hid ((X_10.out.rd).take (k := K) (c := cap) (by omega) rfl)
              have HD1 := (X_10.out.rd).cut (k := K) (by omega) rfl hroom
              rw [if_neg hck] at HD1
              replace HD1 := hid HD1
              have hSV : S = symV A B q := by
                rw [← HSY.out]
                unfold symOfV okAB
                rw [factB_yes (by omega) (by omega) a0, factB_yes (by omega) (by omega) b0, HQ.out]
                rfl
              have hsv := symV_val a0 b0 HQ.out
              rw [← hSV] at hsv
              have hpr := HPR.out
              rw [← hSV] at hpr
              have hav := HAV.out
              have hbv := HBV.out
              have hs1 : S * a = 1 ∨ S * a = -1 := pm_mul hsv hav
              have hs2 : S * a * b = 1 ∨ S * a * b = -1 := pm_mul hs1 hbv
              have m1 : -1 ≤ S * a := by omega
              have m2 : S * a ≤ 1 := by omega
              have m3 : -1 ≤ S * a * b := by omega
              have m4 : S * a * b ≤ 1 := by omega
              have T : (O == S * a * b) = true := by rw [beq_iff_eq]; exact hpr.symm
              have hBr : Below d10.heap.size d10 d10 := Below.refl _ _
              have HTK : Hid (∀ wx : World, Below d10.heap.size d10 wx → Calls Try.prog 36 #[.slice (some ⟨g, 0, none⟩) K cap, .int .i64 q] wx fun e w' => e = .returned (.int .i64 a) ∧ Below wx.heap.size wx w') := hid (fun wx hbx => by
                refine (formInvariant_any _ (xs.take K) q wx (HT1.out.keep hbx) HKL.out).mono ?_
                rw [HIA.out]
                exact fun e w' h => h)
              have HDK : Hid (∀ wx : World, Below d10.heap.size d10 wx → Calls Try.prog 36 #[.slice (some ⟨g, K, none⟩) (xs.length - K) (cap - K), .int .i64 q] wx fun e w' => e = .returned (.int .i64 b) ∧ Below wx.heap.size wx w') := hid (fun wx hbx => by
                refine (formInvariant_any _ (xs.drop K) q wx ((by simpa using HD1.out : Rd d10 _ _).keep hbx) HDL.out).mono ?_
                rw [HIB.out]
                exact fun e w' h => h)
              have ha1 : -1 ≤ a := by omega
              have ha2 : a ≤ 1 := by omega
              have hb1' : -1 ≤ b := by omega
              have hb2' : b ≤ 1 := by omega
              have hS1 : -1 ≤ S := by omega
              have hS2 : S ≤ 1 := by omega
              have i1 : (0 : Int) ≤ (K : Int) := by omega
              have i2 : (K : Int) ≤ (xs.length : Int) := by omega
              have i3 : (xs.length : Int) ≤ (cap : Int) := by omega
              have i4 : (K : Int) ≤ (cap : Int) := by omega
              clear hSV hsv hpr hav hbv hs1 hs2 hA5 hB5
              go_wp2_with (go_at_call 29; refine (sizeOf_any _ (by omega) (by omega) _).mono ?_; rintro e w' ⟨rfl, rfl⟩)
              go_region_held3 (fun wx => Below d10.heap.size d10 wx) (first | exact hb3.out | exact hb2.out | exact hBr.drew)
                (first | (go_at_call 36; refine (HDK.out _ hb2.out).mono ?_; rintro e w' ⟨rfl, hbq2⟩; have hb3 := hid (hb2.out.trans (hbq2.mono hb2.out.size))) | (go_at_call 36; refine (HTK.out _ hBr.drew).mono ?_; rintro e w' ⟨rfl, hbq⟩; have hb2 := hid (hBr.trans ((below_of_drew hbq).mono hBr.size))))
              go_wp2
              go_ret
              exact ⟨retB (by rw [IntWalk.i64_in (S * a) (by omega), IntWalk.i64_in (S * a * b) (by omega)]; exact T), HB10.out.trans (hb3.out.mono HB10.out.size)⟩
            · have hsB : (5000 : Int) < ((B.natAbs : Nat) : Int) := by omega
              clear hA5 hB5
              go_wp2_with (go_at_call 29; refine (sizeOf_any _ (by omega) (by omega) _).mono ?_; rintro e w' ⟨rfl, rfl⟩)
              go_ret
              exact ⟨rfl, HB10.out⟩
          · have hsA : (5000 : Int) < ((A.natAbs : Nat) : Int) := by omega
            clear hA5
            go_wp2_with (go_at_call 29; refine (sizeOf_any _ (by omega) (by omega) _).mono ?_; rintro e w' ⟨rfl, rfl⟩)
            go_ret
            exact ⟨rfl, HB10.out⟩
theorem own : ownKnob Try.prog.godebug = none := by kernel_rfl
theorem laidOut : laidOutB Try.prog = true := by kernel_rfl
set_option maxRecDepth 100000 in
theorem lifted (os : Os) (started : os.Started) (H : Type) (enc : TypeId × Value → H) :
    ReturnsInHanded {} Try.checked os 7 .any (Rows.fnInvariantSpec.pre6 enc Try.prog Try.f7 Rows.fnInvariantRow.domain false) (Rows.fnInvariantSpec.post enc Try.prog Try.f7 false true false false) := by
  refine returnsInHanded_of_change (C := Try.checked) own started (by kernel_rfl) Try.func7
    (ChangeSpec.witness6 (enc := enc) (C := Try.checked) false ⟨#[], #[.slice none 0 0, .slice none 0 0], []⟩ 8 (by kernel_rfl) (by kernel_rfl) (by kernel_rfl) (by kernel_rfl)) ?_
  intro W base args ds gs before hval0 hW hcnd _
  have hval : ∀ (j : Nat) t v, Try.f7.params[j]? = some t → args[j]? = some v → Value.okWide Try.prog W .any base t v := hval0
  have hW' := hW
  obtain ⟨p, q, hA0, hV, rfl, hfz, hnd⟩ := hW
  have hA : DataW.TrodAll enc Try.prog W 0 (fun _ => true) true Try.f7.params.toList args.toList ds p := hA0
  rw [Try.params7] at hA hval
  obtain ⟨v0, vs0, d0, ds0, p0, q0, hargs, rfl, rfl, h0, r0⟩ := trodAll_cons hA
  obtain ⟨v1, vs1, d1, ds1, p1, q1, rfl, rfl, rfl, h1, r1⟩ := trodAll_cons r0
  obtain ⟨rfl, rfl, rfl⟩ := trodAll_nil r1
  obtain rfl : args = #[v0, v1] := by cases args; simp_all
  obtain ⟨rfl, rfl⟩ := trodVars_none hV
  obtain ⟨a0, len0, cap0, rfl⟩ := okWide_slice Try.underlying22 (hval 0 22 v0 rfl rfl)
  have k0 := h0
  have lt0 : ∀ x ∈ p0, x.block < W.heap.size := by obtain ⟨m, hm⟩ := k0; exact DataW.trod_lt m _ _ _ hm
  obtain ⟨z0, w0⟩ : ∃ zs, IsRow .u8 W a0 len0 cap0 zs := by
    obtain ⟨fuel, hf⟩ := h0
    rcases open_ints Try.underlying22 Try.underlying5 (by kernel_rfl) hf with ⟨hcs, _⟩ | ⟨x, l, c, zs, hcs, _, hl, hm, hz, _, hcell, hwz⟩
    · simp [Value.cells] at hcs
      obtain ⟨rfl, rfl, rfl⟩ := hcs
      exact ⟨[], .inl ⟨rfl, rfl, rfl, rfl⟩⟩
    · simp [Value.cells] at hcs
      obtain ⟨rfl, rfl, rfl⟩ := hcs
      exact ⟨zs, .inr ⟨_, rfl, hl, hm, by simpa using hz, hcell, hwz⟩⟩
  obtain ⟨a1, len1, cap1, rfl⟩ := okWide_slice Try.underlying22 (hval 1 22 v1 rfl rfl)
  have k1 := h1
  have lt1 : ∀ x ∈ p1, x.block < W.heap.size := by obtain ⟨m, hm⟩ := k1; exact DataW.trod_lt m _ _ _ hm
  obtain ⟨z1, w1⟩ : ∃ zs, IsRow .u8 W a1 len1 cap1 zs := by
    obtain ⟨fuel, hf⟩ := h1
    rcases open_ints Try.underlying22 Try.underlying5 (by kernel_rfl) hf with ⟨hcs, _⟩ | ⟨x, l, c, zs, hcs, _, hl, hm, hz, _, hcell, hwz⟩
    · simp [Value.cells] at hcs
      obtain ⟨rfl, rfl, rfl⟩ := hcs
      exact ⟨[], .inl ⟨rfl, rfl, rfl, rfl⟩⟩
    · simp [Value.cells] at hcs
      obtain ⟨rfl, rfl, rfl⟩ := hcs
      exact ⟨zs, .inr ⟨_, rfl, hl, hm, by simpa using hz, hcell, hwz⟩⟩
  clear hA0 hval0
  refine (walk a0 len0 cap0 z0 a1 len1 cap1 z1 W w0 w1).mono fun e W' ⟨he, bel⟩ => ?_
  subst he
  exact ⟨_, rfl, _, _, _, [], _, [], hW', trodAll_mk1 (shut_bool Try.underlying4 _), (trodAll_cons_mk (Below.trod laidOut (by kernel_rfl) (of_decide_eq_true (by kernel_rfl)) k0 bel lt0) (trodAll_cons_mk (Below.trod laidOut (by kernel_rfl) (of_decide_eq_true (by kernel_rfl)) k1 bel lt1) trodAll_mk0)), rfl, bel.frame _, fun h => by cases h⟩
theorem over : Rows.fnInvariantRow.holds Try.pinned (OpenSpec.ofChange Rows.fnInvariantSpec) :=
  OpenClaim.holds_of_wide 7 Try.f7 rfl rfl rfl rfl rfl rfl rfl ⟨rfl, rfl, rfl, rfl, rfl⟩ rfl rfl rfl rfl rfl (by kernel_rfl) Try.func7 (by kernel_rfl)
    (of_decide_eq_true (by kernel_rfl)) (by unfold Func.isWrapper; first | (rw [if_pos (by decide +kernel)]; kernel_rfl) | (rw [if_neg (by decide +kernel)]; exact ⟨rfl, rfl⟩))
    (fun os started H enc _ => lifted os started H enc)
theorem proved : Rows.FnInvariantSaid := over
end Go.Proofs.Ytciajpimpjpnfaa.fnInvariant
