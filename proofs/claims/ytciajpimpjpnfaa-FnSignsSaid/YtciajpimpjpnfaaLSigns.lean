/-
  Proves: for every two codes: signs add up, and the opposites' are the opposite.
  Conditions: none beyond the given statement's own.
-/
import Derived.Test.YtciajpimpjpnfaaRows
import Derived.Test.YtciajpimpjpnfaaBun26
import Derived.Test.YtciajpimpjpnfaaImp4D
import Derived.ProofKit
import Derived.OpenShut
import Derived.ShutString
import Derived.ChangeOld
namespace Go.Proofs.Ytciajpimpjpnfaa.fnSigns
open Go.ChangeShapes Go.WideShapes Go.ChangeAt Go.RowKit
open Go.ChangeMaps (open_string shut_string)
set_option linter.unusedVariables false

set_option maxRecDepth 100000 in
set_option maxHeartbeats 4000000 in
theorem walk  (a0 : Option Addr) (len0 cap0 : Nat) (z0 : List Int) (a1 : Option Addr) (len1 cap1 : Nat) (z1 : List Int) (w : World) (w0 : IsRow .u8 w a0 len0 cap0 z0) (w1 : IsRow .u8 w a1 len1 cap1 z1) :
    Calls Try.prog 6 #[.slice a0 len0 cap0, .slice a1 len1 cap1] w fun e w' => e = .returned (.bool true) ∧ Below w.heap.size w w' := by
  have HC := hid (codeIn_of w0)
  clear w0 w1
  by_cases hl : (1048576 : Int) < (len0 : Int)
  · go_enter Try.func6, Try.ntmps6
    go_wp2
    go_ret
    exact ⟨rfl, Below.refl _ _⟩
  by_cases hl1 : (1048576 : Int) < (len1 : Int)
  · go_enter Try.func6, Try.ntmps6
    go_wp2
    go_ret
    exact ⟨rfl, Below.refl _ _⟩
  · go_enter Try.func6, Try.ntmps6
    go_wp2_with fail
    refine (drawFormSigns_any _ len0 _ HC.out).mono ?_
    rintro e w1 ⟨u, xs, rfl, HT, HO, hb⟩
    have hxl := HT.1
    go_wp2_with fail
    refine (formSigns_any u xs _ HO.out.rd (by omega)).mono ?_
    cases hf : fvB xs with
    | false =>
      have HS := hid (signs_no hf)
      rw [HS.out]
      rintro e w2 ⟨rfl, hb2⟩
      have HB2 := hid (hb.trans (hb2.mono hb.size))
      have HO2 := hid (HO.out.keep HO.out.lt hb2)
      clear hb hb2 hf
      go_wp2_with fail
      refine (formSignsS_any u xs _ HO2.out.rd).mono ?_
      rw [HS.out]
      rintro e w3 ⟨rfl, rfl⟩
      go_wp2
      go_ret
      exact ⟨rfl, HB2.out⟩
    | true =>
      have HS := hid (signs_yes hf)
      have HF := hid hf
      have HNG := hid (signs_yes (fv_neg hf))
      have hbd := sg_bd xs
      have hneg := sg_neg hf
      obtain ⟨s, hs⟩ : ∃ s, s = sg xs := ⟨_, rfl⟩
      have HSG := hid hs
      rw [hneg] at HNG
      rw [← hs] at HS HNG hbd
      have hn1 := (fvB_iff.1 hf).2.1
      obtain ⟨g, cap, rfl⟩ := HO.out.slice_of (by omega)
      have hroom := HO.out.room
      clear hs hf hneg
      rw [HS.out]
      rintro e w2 ⟨rfl, hb2⟩
      have HB2 := hid (hb.trans (hb2.mono hb.size))
      have HO2 := hid (HO.out.keep HO.out.lt hb2)
      clear hb hb2
      go_wp2_with fail
      refine (formSignsS_any _ xs _ HO2.out.rd).mono ?_
      rw [HS.out]
      rintro e w3 ⟨rfl, rfl⟩
      go_wp2_with fail
      refine (minusOf_any _ xs _ HO2.out.rd HT.mild).mono ?_
      rintro e w3 ⟨u3, rfl, hO3, hb3⟩
      have HO3 := hid hO3
      have HX3 := hid (HO2.out.keep HO2.out.lt hb3)
      have HB3 := hid (HB2.out.trans (hb3.mono HB2.out.size))
      clear hO3 hb3
      go_wp2_with fail
      refine (formSigns_any _ _ _ HO3.out.rd (by rw [List.length_map]; omega)).mono ?_
      rw [HNG.out]
      rintro e w4 ⟨rfl, hb4⟩
      have HX4 := hid (HX3.out.keep HX3.out.lt hb4)
      have HB4 := hid (HB3.out.trans (hb4.mono HB3.out.size))
      clear hb4
      by_cases h1 : xs.length = 1
      · obtain ⟨x, rfl⟩ := List.length_eq_one_iff.1 h1
        have c1 := HX4.out.at (i := 0) (by simp)
        simp only [List.getElem_cons_zero] at c1
        by_cases hx : x < 0
        · obtain rfl : s = -1 := by rw [HSG.out, sg_one, if_pos hx]
          go_wp2
          go_ret
          exact ⟨retB (by simp; omega), HB4.out⟩
        · obtain rfl : s = 1 := by rw [HSG.out, sg_one, if_neg hx]
          go_wp2
          go_ret
          exact ⟨retB (by have := ((fvB_iff.1 HF.out).1 x (by simp)).1; simp; omega), HB4.out⟩
      · have hN : xs.length = 2 ∨ xs.length = 3 ∨ xs.length = 4 := by have := (fvB_iff.1 HF.out).2.2; omega
        rcases hN with hN | hN | hN
        · have hm : (xs.length : Int) - 1 = 1 := by omega
          have hKb : 1 < xs.length := by omega
          have hK1 : 1 ≤ 1 := by omega
          have HTK := hid (signs_yes (fv_take HF.out hK1 (by omega)))
          have HDK := hid (signs_yes (fv_drop HF.out hKb))
          have hsp := sg_split xs 1
          rw [← HSG.out] at hsp
          obtain ⟨t, ht⟩ : ∃ t, t = sg (xs.take 1) := ⟨_, rfl⟩
          have hd : sg (xs.drop 1) = s - t := by omega
          have htb := sg_bd (xs.take 1)
          have htl : (xs.take 1).length ≤ xs.length := by rw [List.length_take]; omega
          rw [← ht] at HTK htb
          rw [hd] at HDK
          have ht1 : -10 ≤ t := by omega
          have ht2 : t ≤ 10 := by omega
          have HRT := hid (HX4.out.rd.take (k := 1) (c := cap) (by omega) rfl)
          have hck : ¬ cap = 1 := by omega
          have HKL : Hid ((xs.take 1).length ≤ 1048576) := hid (by omega)
          have HDL : Hid ((xs.drop 1).length ≤ 1048576) := hid (by rw [List.length_drop]; omega)
          have hsz : ((s.natAbs : Nat) : Int) ≤ (xs.length : Int) := by omega
          have hev : ((xs.length : Int) - s) % 2 = 0 := hbd.2.2
          have hge : 0 ≤ (xs.length : Int) - s := by omega
          have hs1 : -10 ≤ s := by omega
          have hs2 : s ≤ 10 := by omega
          clear hsp hd ht htb htl hN hbd
          go_wp2_with fail
          refine (formSigns_any _ (xs.take 1) _ HRT.out HKL.out).mono ?_
          rw [HTK.out]
          rintro e w5 ⟨rfl, hb5⟩
          have HX5 := hid (HX4.out.keep HX4.out.lt hb5)
          have HB5 := hid (HB4.out.trans (hb5.mono HB4.out.size))
          have HRD := HX5.out.rd.cut (k := 1) (by omega) rfl hroom
          rw [if_neg hck] at HRD
          replace HRD := hid HRD
          clear hb5
          go_wp2_with fail
          refine (formSigns_any _ (xs.drop 1) _ (by simpa using HRD.out) HDL.out).mono ?_
          rw [HDK.out]
          rintro e w6 ⟨rfl, hb6⟩
          have HB6 := hid (HB5.out.trans (hb6.mono HB5.out.size))
          clear hb6
          have hst : t + (s - t) = s := by omega
          go_wp2_with (go_at_call 29; refine (sizeOf_any _ (by omega) (by omega) _).mono ?_; rintro e w' ⟨rfl, rfl⟩)
          go_ret
          exact ⟨rfl, HB6.out⟩
        · have hm : (xs.length : Int) - 1 = 2 := by omega
          obtain ⟨K, hK⟩ : ∃ K, K = 1 + len1 % 2 := ⟨_, rfl⟩
          have hKb : K < xs.length := by omega
          have hK1 : 1 ≤ K := by omega
          have hke : 1 + (len1 : Int) % 2 = (K : Int) := by rw [hK]; push_cast; rfl
          have HTK := hid (signs_yes (fv_take HF.out hK1 (by omega)))
          have HDK := hid (signs_yes (fv_drop HF.out hKb))
          have hsp := sg_split xs K
          rw [← HSG.out] at hsp
          obtain ⟨t, ht⟩ : ∃ t, t = sg (xs.take K) := ⟨_, rfl⟩
          have hd : sg (xs.drop K) = s - t := by omega
          have htb := sg_bd (xs.take K)
          have htl : (xs.take K).length ≤ xs.length := by rw [List.length_take]; omega
          rw [← ht] at HTK htb
          rw [hd] at HDK
          have ht1 : -10 ≤ t := by omega
          have ht2 : t ≤ 10 := by omega
          have HRT := hid (HX4.out.rd.take (k := K) (c := cap) (by omega) rfl)
          have hck : ¬ cap = K := by omega
          have HKL : Hid ((xs.take K).length ≤ 1048576) := hid (by omega)
          have HDL : Hid ((xs.drop K).length ≤ 1048576) := hid (by rw [List.length_drop]; omega)
          have hsz : ((s.natAbs : Nat) : Int) ≤ (xs.length : Int) := by omega
          have hev : ((xs.length : Int) - s) % 2 = 0 := hbd.2.2
          have hge : 0 ≤ (xs.length : Int) - s := by omega
          have hs1 : -10 ≤ s := by omega
          have hs2 : s ≤ 10 := by omega
          clear hsp hd ht hK htb htl hN hbd
          go_wp2_with fail
          refine (formSigns_any _ (xs.take K) _ HRT.out HKL.out).mono ?_
          rw [HTK.out]
          rintro e w5 ⟨rfl, hb5⟩
          have HX5 := hid (HX4.out.keep HX4.out.lt hb5)
          have HB5 := hid (HB4.out.trans (hb5.mono HB4.out.size))
          have HRD := HX5.out.rd.cut (k := K) (by omega) rfl hroom
          rw [if_neg hck] at HRD
          replace HRD := hid HRD
          clear hb5
          go_wp2_with fail
          refine (formSigns_any _ (xs.drop K) _ (by simpa using HRD.out) HDL.out).mono ?_
          rw [HDK.out]
          rintro e w6 ⟨rfl, hb6⟩
          have HB6 := hid (HB5.out.trans (hb6.mono HB5.out.size))
          clear hb6
          have hst : t + (s - t) = s := by omega
          go_wp2_with (go_at_call 29; refine (sizeOf_any _ (by omega) (by omega) _).mono ?_; rintro e w' ⟨rfl, rfl⟩)
          go_ret
          exact ⟨rfl, HB6.out⟩
        · have hm : (xs.length : Int) - 1 = 3 := by omega
          obtain ⟨K, hK⟩ : ∃ K, K = 1 + len1 % 3 := ⟨_, rfl⟩
          have hKb : K < xs.length := by omega
          have hK1 : 1 ≤ K := by omega
          have hke : 1 + (len1 : Int) % 3 = (K : Int) := by rw [hK]; push_cast; rfl
          have HTK := hid (signs_yes (fv_take HF.out hK1 (by omega)))
          have HDK := hid (signs_yes (fv_drop HF.out hKb))
          have hsp := sg_split xs K
          rw [← HSG.out] at hsp
          obtain ⟨t, ht⟩ : ∃ t, t = sg (xs.take K) := ⟨_, rfl⟩
          have hd : sg (xs.drop K) = s - t := by omega
          have htb := sg_bd (xs.take K)
          have htl : (xs.take K).length ≤ xs.length := by rw [List.length_take]; omega
          rw [← ht] at HTK htb
          rw [hd] at HDK
          have ht1 : -10 ≤ t := by omega
          have ht2 : t ≤ 10 := by omega
          have HRT := hid (HX4.out.rd.take (k := K) (c := cap) (by omega) rfl)
          have hck : ¬ cap = K := by omega
          have HKL : Hid ((xs.take K).length ≤ 1048576) := hid (by omega)
          have HDL : Hid ((xs.drop K).length ≤ 1048576) := hid (by rw [List.length_drop]; omega)
          have hsz : ((s.natAbs : Nat) : Int) ≤ (xs.length : Int) := by omega
          have hev : ((xs.length : Int) - s) % 2 = 0 := hbd.2.2
          have hge : 0 ≤ (xs.length : Int) - s := by omega
          have hs1 : -10 ≤ s := by omega
          have hs2 : s ≤ 10 := by omega
          clear hsp hd ht hK htb htl hN hbd
          go_wp2_with fail
          refine (formSigns_any _ (xs.take K) _ HRT.out HKL.out).mono ?_
          rw [HTK.out]
          rintro e w5 ⟨rfl, hb5⟩
          have HX5 := hid (HX4.out.keep HX4.out.lt hb5)
          have HB5 := hid (HB4.out.trans (hb5.mono HB4.out.size))
          have HRD := HX5.out.rd.cut (k := K) (by omega) rfl hroom
          rw [if_neg hck] at HRD
          replace HRD := hid HRD
          clear hb5
          go_wp2_with fail
          refine (formSigns_any _ (xs.drop K) _ (by simpa using HRD.out) HDL.out).mono ?_
          rw [HDK.out]
          rintro e w6 ⟨rfl, hb6⟩
          have HB6 := hid (HB5.out.trans (hb6.mono HB5.out.size))
          clear hb6
          have hst : t + (s - t) = s := by omega
          go_wp2_with (go_at_call 29; refine (sizeOf_any _ (by omega) (by omega) _).mono ?_; rintro e w' ⟨rfl, rfl⟩)
          go_ret
          exact ⟨rfl, HB6.out⟩
theorem own : ownKnob Try.prog.godebug = none := by kernel_rfl
theorem laidOut : laidOutB Try.prog = true := by kernel_rfl
set_option maxRecDepth 100000 in
theorem lifted (os : Os) (started : os.Started) (H : Type) (enc : TypeId × Value → H) :
    ReturnsInHanded {} Try.checked os 6 .any (Rows.fnSignsSpec.pre6 enc Try.prog Try.f6 Rows.fnSignsRow.domain false) (Rows.fnSignsSpec.post enc Try.prog Try.f6 false true false false) := by
  refine returnsInHanded_of_change (C := Try.checked) own started (by kernel_rfl) Try.func6
    (ChangeSpec.witness6 (enc := enc) (C := Try.checked) false ⟨#[], #[.slice none 0 0, .slice none 0 0], []⟩ 8 (by kernel_rfl) (by kernel_rfl) (by kernel_rfl) (by kernel_rfl)) ?_
  intro W base args ds gs before hval0 hW hcnd _
  have hval : ∀ (j : Nat) t v, Try.f6.params[j]? = some t → args[j]? = some v → Value.okWide Try.prog W .any base t v := hval0
  have hW' := hW
  obtain ⟨p, q, hA0, hV, rfl, hfz, hnd⟩ := hW
  have hA : DataW.TrodAll enc Try.prog W 0 (fun _ => true) true Try.f6.params.toList args.toList ds p := hA0
  rw [Try.params6] at hA hval
  obtain ⟨v0, vs0, d0, ds0, p0, q0, hargs, rfl, rfl, h0, r0⟩ := trodAll_cons hA
  obtain ⟨v1, vs1, d1, ds1, p1, q1, rfl, rfl, rfl, h1, r1⟩ := trodAll_cons r0
  obtain ⟨rfl, rfl, rfl⟩ := trodAll_nil r1
  obtain rfl : args = #[v0, v1] := by cases args; simp_all
  obtain ⟨rfl, rfl⟩ := trodVars_none hV
  obtain ⟨a0, len0, cap0, rfl⟩ := okWide_slice Try.underlying22 (hval 0 22 v0 rfl rfl)
  have k0 := h0
  have lt0 : ∀ x ∈ p0, x.block < W.heap.size := by obtain ⟨m, hm⟩ := k0; exact DataW.trod_lt m _ _ _ hm
  obtain ⟨z0, w0⟩ : ∃ zs, IsRow .u8 W a0 len0 cap0 zs := by
    obtain ⟨fuel, hf⟩ := h0
    rcases open_ints Try.underlying22 Try.underlying5 (by kernel_rfl) hf with ⟨hcs, _⟩ | ⟨x, l, c, zs, hcs, _, hl, hm, hz, _, hcell, hwz⟩
    · simp [Value.cells] at hcs
      obtain ⟨rfl, rfl, rfl⟩ := hcs
      exact ⟨[], .inl ⟨rfl, rfl, rfl, rfl⟩⟩
    · simp [Value.cells] at hcs
      obtain ⟨rfl, rfl, rfl⟩ := hcs
      exact ⟨zs, .inr ⟨_, rfl, hl, hm, by simpa using hz, hcell, hwz⟩⟩
  obtain ⟨a1, len1, cap1, rfl⟩ := okWide_slice Try.underlying22 (hval 1 22 v1 rfl rfl)
  have k1 := h1
  have lt1 : ∀ x ∈ p1, x.block < W.heap.size := by obtain ⟨m, hm⟩ := k1; exact DataW.trod_lt m _ _ _ hm
  obtain ⟨z1, w1⟩ : ∃ zs, IsRow .u8 W a1 len1 cap1 zs := by
    obtain ⟨fuel, hf⟩ := h1
    rcases open_ints Try.underlying22 Try.underlying5 (by kernel_rfl) hf with ⟨hcs, _⟩ | ⟨x, l, c, zs, hcs, _, hl, hm, hz, _, hcell, hwz⟩
    · simp [Value.cells] at hcs
      obtain ⟨rfl, rfl, rfl⟩ := hcs
      exact ⟨[], .inl ⟨rfl, rfl, rfl, rfl⟩⟩
    · simp [Value.cells] at hcs
      obtain ⟨rfl, rfl, rfl⟩ := hcs
      exact ⟨zs, .inr ⟨_, rfl, hl, hm, by simpa using hz, hcell, hwz⟩⟩
  clear hA0 hval0
  refine (walk a0 len0 cap0 z0 a1 len1 cap1 z1 W w0 w1).mono fun e W' ⟨he, bel⟩ => ?_
  subst he
  exact ⟨_, rfl, _, _, _, [], _, [], hW', trodAll_mk1 (shut_bool Try.underlying4 _), (trodAll_cons_mk (Below.trod laidOut (by kernel_rfl) (of_decide_eq_true (by kernel_rfl)) k0 bel lt0) (trodAll_cons_mk (Below.trod laidOut (by kernel_rfl) (of_decide_eq_true (by kernel_rfl)) k1 bel lt1) trodAll_mk0)), rfl, bel.frame _, fun h => by cases h⟩
theorem over : Rows.fnSignsRow.holds Try.pinned (OpenSpec.ofChange Rows.fnSignsSpec) :=
  OpenClaim.holds_of_wide 6 Try.f6 rfl rfl rfl rfl rfl rfl rfl ⟨rfl, rfl, rfl, rfl, rfl⟩ rfl rfl rfl rfl rfl (by kernel_rfl) Try.func6 (by kernel_rfl)
    (of_decide_eq_true (by kernel_rfl)) (by unfold Func.isWrapper; first | (rw [if_pos (by decide +kernel)]; kernel_rfl) | (rw [if_neg (by decide +kernel)]; exact ⟨rfl, rfl⟩))
    (fun os started H enc _ => lifted os started H enc)
theorem proved : Rows.FnSignsSaid := over
end Go.Proofs.Ytciajpimpjpnfaa.fnSigns
