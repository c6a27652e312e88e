/-
  Proves: for every code: a form of two terms is the same as the one made of a number that it represents and of what its discriminant asks.
  Conditions: none beyond the given statement's own.
-/
import Derived.Test.YtciajpimpjpnfaaRows
import Derived.Test.YtciajpimpjpnfaaBun48
import Derived.Test.YtciajpimpjpnfaaBun26
import Derived.Test.YtciajpimpjpnfaaCore2
import Derived.Test.YtciajpimpjpnfaaBun38
import Derived.Test.YtciajpimpjpnfaaImp4D
import Derived.Test.YtciajpimpjpnfaaImp4H
import Derived.ProofKit
import Derived.OpenShut
import Derived.ShutString
import Derived.ChangeOld
namespace Go.Proofs.Ytciajpimpjpnfaa.fnReplace
open Go.ChangeShapes Go.WideShapes Go.ChangeAt Go.RowKit
open Go.ChangeMaps (open_string shut_string)
set_option linter.unusedVariables false
set_option maxRecDepth 100000 in
set_option maxHeartbeats 4000000 in
theorem walk  (a0 : Option Addr) (len0 cap0 : Nat) (z0 : List Int) (w : World) (w0 : IsRow .u8 w a0 len0 cap0 z0) :
    Calls Try.prog 14 #[.slice a0 len0 cap0] w fun e w' => e = .returned (.bool true) ∧ Below w.heap.size w w' := by
  have HC := hid (codeIn_of w0)
  clear w0
  by_cases hl0 : (1048576 : Int) < (len0 : Int)
  · go_enter Try.func14, Try.ntmps14
    go_wp2
    go_ret
    exact ⟨rfl, Below.refl _ _⟩
  · go_enter Try.func14, Try.ntmps14
    go_wp2_with fail
    refine (drawFormValue_any _ len0 _ HC.out).mono ?_
    rintro e d1 ⟨u, v, xs, vs, rfl, ⟨HT, HT2⟩, HXo, HYr, hfv, hb0⟩
    have HB1 := hid hb0
    clear hb0
    have hxl := HT.1
    have hyl := HT2.1
    clear hfv HT HT2
    cases hv : vecB xs vs 1000 with
    | false =>
      have HV : Hid (fvalV xs vs = .tuple #[.int .i64 0, .bool false]) := hid (by unfold fvalV; rw [hv]; rfl)
      clear hv
      go_wp2_with fail
      refine (formValue_any u v xs vs _ HXo.out.rd HYr.out (by omega) (by omega)).mono ?_
      rw [HV.out]
      rintro e d2 ⟨rfl, hb2⟩
      have HB2 := hid (HB1.out.trans (hb2.mono HB1.out.size))
      have X_2 := hid (HXo.out.keep HXo.out.lt hb2)
      have Y_2 := hid (HYr.out.keep hb2)
      clear hb2
      go_wp2_with fail
      refine (formValueS_any u v xs vs _ X_2.out.rd Y_2.out).mono ?_
      rw [HV.out]
      rintro e d3 ⟨rfl, k3, hw3⟩
      have hb3 : Below d2.heap.size d2 d3 := by rw [hw3]; exact below_dn (Below.refl _ _)
      have HB3 := hid (HB2.out.trans (hb3.mono HB2.out.size))
      have X_3 := hid (X_2.out.keep X_2.out.lt hb3)
      have Y_3 := hid (Y_2.out.keep hb3)
      clear hw3 hb3
      go_wp2
      go_ret
      exact ⟨rfl, HB3.out⟩
    | true =>
      have HV : Hid (fvalV xs vs = .tuple #[.int .i64 (valI xs vs xs.length), .bool true]) := hid (by unfold fvalV; rw [hv]; rfl)
      have HVO := hid (vecOk hv)
      have hbd := vecVal hv
      obtain ⟨t, ht⟩ : ∃ t, t = valI xs vs xs.length := ⟨_, rfl⟩
      rw [← ht] at HV hbd
      have HTV := hid ht
      have hbd1 := hbd.1
      have hbd2 := hbd.2
      clear hv ht hbd
      go_wp2_with fail
      refine (formValue_any u v xs vs _ HXo.out.rd HYr.out (by omega) (by omega)).mono ?_
      rw [HV.out]
      rintro e d2 ⟨rfl, hb2⟩
      have HB2 := hid (HB1.out.trans (hb2.mono HB1.out.size))
      have X_2 := hid (HXo.out.keep HXo.out.lt hb2)
      have Y_2 := hid (HYr.out.keep hb2)
      clear hb2
      go_wp2_with fail
      refine (formValueS_any u v xs vs _ X_2.out.rd Y_2.out).mono ?_
      rw [HV.out]
      rintro e d3 ⟨rfl, k3, hw3⟩
      have hb3 : Below d2.heap.size d2 d3 := by rw [hw3]; exact below_dn (Below.refl _ _)
      have HB3 := hid (HB2.out.trans (hb3.mono HB2.out.size))
      have X_3 := hid (X_2.out.keep X_2.out.lt hb3)
      have Y_3 := hid (Y_2.out.keep hb3)
      clear hw3 hb3
      by_cases h2 : xs.length = 2
      · skip
        by_cases h0 : t = 0
        · subst h0
          have T2 : ((xs.length : Int) == 2) = true := by rw [beq_iff_eq]; omega
          obtain ⟨ua, ucap, rfl, _⟩ := (X_3.out.rd).form
          go_wp2_with (go_at_call 29; refine (sizeOf_any _ (by omega) (by omega) _).mono ?_; rintro e w' ⟨rfl, rfl⟩)
          go_ret
          exact ⟨rfl, HB3.out⟩
        · have T0 : (t == 0) = false := by rw [beq_eq_false_iff_ne]; exact h0
          by_cases hs : t.natAbs ≤ 30
          · skip
            obtain ⟨a, b, rfl⟩ := len_two' h2
            obtain ⟨x, y, rfl⟩ := len_two' (show vs.length = 2 from HVO.out.2.2)
            have hf := HVO.out.2.1
            have he := HTV.out
            rw [val_two] at he
            obtain ⟨ha1, ha2, ha3⟩ := (fvB_iff.1 hf).1 a (by simp)
            obtain ⟨hb1, hb2, hb3⟩ := (fvB_iff.1 hf).1 b (by simp)
            have hab : (a * b).natAbs ≤ 30 * 30 := by rw [Int.natAbs_mul]; exact Nat.mul_le_mul (by omega) (by omega)
            have hc := core_bd2 (show t ≠ 0 from h0)
            have hd := core_bd2 (Int.mul_ne_zero ha1 hb1)
            have HC1 := hid (coreV_G (factB_yes (n := t) (by omega) (by omega) h0))
            have HD1 : Hid (discV [a, b] = coreG (a * b)) := hid (by rw [disc_yes hf, prod_two])
            have HRS : Hid (fvB [coreG t, coreG (coreG (a * b) * coreG t)] = true → fsameV [a, b] [coreG t, coreG (coreG (a * b) * coreG t)] = true) := hid (replace_same hf h0 he)
            obtain ⟨c, hc0⟩ : ∃ c, c = coreG t := ⟨_, rfl⟩
            obtain ⟨r, hr0⟩ : ∃ r : Nat, r = rootG t := ⟨_, rfl⟩
            obtain ⟨D, hD0⟩ : ∃ D, D = coreG (a * b) := ⟨_, rfl⟩
            rw [← hc0, ← hr0] at HC1
            rw [← hc0] at hc
            rw [← hD0] at hd HD1
            rw [← hc0, ← hD0] at HRS
            have hDc : (D * c).natAbs ≤ 900 * 30 := by rw [Int.natAbs_mul]; exact Nat.mul_le_mul (by omega) (by omega)
            have hDc1 : -27000 ≤ D * c := by omega
            have hDc2 : D * c ≤ 27000 := by omega
            have hsz : ((t.natAbs : Nat) : Int) ≤ 30 := by omega
            have T2 : (((2 : Nat) : Int) == 2) = true := by decide
            have hDD1 : -900 ≤ D := by omega
            have hDD2 : D ≤ 900 := by omega
            have hcc1 : -30 ≤ c := by omega
            have hcc2 : c ≤ 30 := by omega
            clear hf he ha1 ha2 ha3 hb1 hb2 hb3 hab hc hd hc0 hr0 hD0 hDc HTV HVO hs h0
            obtain ⟨ua, ucap, rfl, _⟩ := (X_3.out.rd).form
            go_wp2_with (go_at_call 29; refine (sizeOf_any _ (by omega) (by omega) _).mono ?_; rintro e w' ⟨rfl, rfl⟩)
            refine (coreOf_any t _).mono ?_
            rw [HC1.out]
            rintro e d4 ⟨rfl, hb4⟩
            have HB4 := hid (HB3.out.trans (hb4.mono HB3.out.size))
            have X_4 := hid (X_3.out.keep X_3.out.lt hb4)
            clear hb4
            go_wp2_with fail
            refine (formDisc_any _ [a, b] _ X_4.out.rd (by simp)).mono ?_
            rw [HD1.out]
            rintro e d5 ⟨rfl, hb5⟩
            have HB5 := hid (HB4.out.trans (hb5.mono HB4.out.size))
            have X_5 := hid (X_4.out.keep X_4.out.lt hb5)
            clear hb5
            cases hF : factB (D * c) with
            | false =>
              have HF := hid (coreV_no hF)
              clear hF
              go_wp2_with fail
              refine (coreOf_any (D * c) _).mono ?_
              rw [HF.out]
              rintro e d6 ⟨rfl, hb6⟩
              have HB6 := hid (HB5.out.trans (hb6.mono HB5.out.size))
              have X_6 := hid (X_5.out.keep X_5.out.lt hb6)
              clear hb6
              have ha7 := (Below.refl d6.heap.size d6).alloc (Nat.le_refl _) (.cells #[.int .i64 c, .int .i64 0] 3)
              have HB7 := hid (HB6.out.trans (ha7.mono HB6.out.size))
              have X_7 := hid (X_6.out.keep X_6.out.lt ha7)
              clear ha7
              go_wp2
              go_ret
              exact ⟨rfl, HB7.out⟩
            | true =>
              have HF := hid (coreV_G hF)
              obtain ⟨d, hd0⟩ : ∃ d, d = coreG (D * c) := ⟨_, rfl⟩
              obtain ⟨s, hs0⟩ : ∃ s : Nat, s = rootG (D * c) := ⟨_, rfl⟩
              rw [← hd0] at HRS
              rw [← hd0, ← hs0] at HF
              clear hF hd0 hs0
              go_wp2_with fail
              refine (coreOf_any (D * c) _).mono ?_
              rw [HF.out]
              rintro e d6 ⟨rfl, hb6⟩
              have HB6 := hid (HB5.out.trans (hb6.mono HB5.out.size))
              have X_6 := hid (X_5.out.keep X_5.out.lt hb6)
              clear hb6
              have ha7 := (Below.refl d6.heap.size d6).alloc (Nat.le_refl _) (.cells #[.int .i64 c, .int .i64 d] 3)
              have HB7 := hid (HB6.out.trans (ha7.mono HB6.out.size))
              have X_7 := hid (X_6.out.keep X_6.out.lt ha7)
              have O_7 : Hid (Owns (d6.alloc (.cells #[.int .i64 c, .int .i64 d] 3)) d6.heap.size (.slice (some ⟨d6.heap.size, 0, none⟩) 2 2) [c, d]) := hid (owns_lit [c, d] _ rfl (Nat.le_refl _) (by unfold maxLen; simp))
              clear ha7
              cases hg : fvB [c, d] with
              | false =>
                have HG := hid hg
                clear hg
                go_wp2_with fail
                refine (formValid_any _ [c, d] _ O_7.out.rd (by simp)).mono ?_
                rw [HG.out]
                rintro e d8 ⟨rfl, hb8⟩
                have HB8 := hid (HB7.out.trans (hb8.mono HB7.out.size))
                have X_8 := hid (X_7.out.keep X_7.out.lt hb8)
                have O_8 := hid (O_7.out.keep O_7.out.lt hb8)
                clear hb8
                go_wp2
                go_ret
                exact ⟨rfl, HB8.out⟩
              | true =>
                have HG := hid hg
                have HS := hid (HRS.out hg)
                clear hg HRS
                go_wp2_with fail
                refine (formValid_any _ [c, d] _ O_7.out.rd (by simp)).mono ?_
                rw [HG.out]
                rintro e d8 ⟨rfl, hb8⟩
                have HB8 := hid (HB7.out.trans (hb8.mono HB7.out.size))
                have X_8 := hid (X_7.out.keep X_7.out.lt hb8)
                have O_8 := hid (O_7.out.keep O_7.out.lt hb8)
                clear hb8
                go_wp2_with fail
                refine (formSame_any _ _ [a, b] [c, d] _ X_8.out.rd O_8.out.rd (by simp) (by simp)).mono ?_
                rw [HS.out]
                rintro e d9 ⟨rfl, hb9⟩
                have HB9 := hid (HB8.out.trans (hb9.mono HB8.out.size))
                have X_9 := hid (X_8.out.keep X_8.out.lt hb9)
                have O_9 := hid (O_8.out.keep O_8.out.lt hb9)
                clear hb9
                go_wp2
                go_ret
                exact ⟨rfl, HB9.out⟩
          · have hsz : (30 : Int) < ((t.natAbs : Nat) : Int) := by omega
            have T2 : ((xs.length : Int) == 2) = true := by rw [beq_iff_eq]; omega
            obtain ⟨ua, ucap, rfl, _⟩ := (X_3.out.rd).form
            go_wp2_with (go_at_call 29; refine (sizeOf_any _ (by omega) (by omega) _).mono ?_; rintro e w' ⟨rfl, rfl⟩)
            go_ret
            exact ⟨rfl, HB3.out⟩
      · have T2 : ((xs.length : Int) == 2) = false := by rw [beq_eq_false_iff_ne]; omega
        obtain ⟨ua, ucap, rfl, _⟩ := (X_3.out.rd).form
        go_wp2_with (go_at_call 29; refine (sizeOf_any _ (by omega) (by omega) _).mono ?_; rintro e w' ⟨rfl, rfl⟩)
        go_ret
        exact ⟨rfl, HB3.out⟩
theorem own : ownKnob Try.prog.godebug = none := by kernel_rfl
theorem laidOut : laidOutB Try.prog = true := by kernel_rfl
set_option maxRecDepth 100000 in
theorem lifted (os : Os) (started : os.Started) (H : Type) (enc : TypeId × Value → H) :
    ReturnsInHanded {} Try.checked os 14 .any (Rows.fnReplaceSpec.pre6 enc Try.prog Try.f14 Rows.fnReplaceRow.domain false) (Rows.fnReplaceSpec.post enc Try.prog Try.f14 false true false false) := by
  refine returnsInHanded_of_change (C := Try.checked) own started (by kernel_rfl) Try.func14
    (ChangeSpec.witness6 (enc := enc) (C := Try.checked) false ⟨#[], #[.slice none 0 0], []⟩ 8 (by kernel_rfl) (by kernel_rfl) (by kernel_rfl) (by kernel_rfl)) ?_
  intro W base args ds gs before hval0 hW hcnd _
  have hval : ∀ (j : Nat) t v, Try.f14.params[j]? = some t → args[j]? = some v → Value.okWide Try.prog W .any base t v := hval0
  have hW' := hW
  obtain ⟨p, q, hA0, hV, rfl, hfz, hnd⟩ := hW
  have hA : DataW.TrodAll enc Try.prog W 0 (fun _ => true) true Try.f14.params.toList args.toList ds p := hA0
  rw [Try.params14] at hA hval
  obtain ⟨v0, vs0, d0, ds0, p0, q0, hargs, rfl, rfl, h0, r0⟩ := trodAll_cons hA
  obtain ⟨rfl, rfl, rfl⟩ := trodAll_nil r0
  obtain rfl : args = #[v0] := by cases args; simp_all
  obtain ⟨rfl, rfl⟩ := trodVars_none hV
  obtain ⟨a0, len0, cap0, rfl⟩ := okWide_slice Try.underlying22 (hval 0 22 v0 rfl rfl)
  have k0 := h0
  have lt0 : ∀ x ∈ p0, x.block < W.heap.size := by obtain ⟨m, hm⟩ := k0; exact DataW.trod_lt m _ _ _ hm
  obtain ⟨z0, w0⟩ : ∃ zs, IsRow .u8 W a0 len0 cap0 zs := by
    obtain ⟨fuel, hf⟩ := h0
    rcases open_ints Try.underlying22 Try.underlying5 (by kernel_rfl) hf with ⟨hcs, _⟩ | ⟨x, l, c, zs, hcs, _, hl, hm, hz, _, hcell, hwz⟩
    · simp [Value.cells] at hcs
      obtain ⟨rfl, rfl, rfl⟩ := hcs
      exact ⟨[], .inl ⟨rfl, rfl, rfl, rfl⟩⟩
    · simp [Value.cells] at hcs
      obtain ⟨rfl, rfl, rfl⟩ := hcs
      exact ⟨zs, .inr ⟨_, rfl, hl, hm, by simpa using hz, hcell, hwz⟩⟩
  clear hA0 hval0
  refine (walk a0 len0 cap0 z0 W w0).mono fun e W' ⟨he, bel⟩ => ?_
  subst he
  exact ⟨_, rfl, _, _, _, [], _, [], hW', trodAll_mk1 (shut_bool Try.underlying4 _), (trodAll_cons_mk (Below.trod laidOut (by kernel_rfl) (of_decide_eq_true (by kernel_rfl)) k0 bel lt0) trodAll_mk0), rfl, bel.frame _, fun h => by cases h⟩
theorem over : Rows.fnReplaceRow.holds Try.pinned (OpenSpec.ofChange Rows.fnReplaceSpec) :=
  OpenClaim.holds_of_wide 14 Try.f14 rfl rfl rfl rfl rfl rfl rfl ⟨rfl, rfl, rfl, rfl, rfl⟩ rfl rfl rfl rfl rfl (by kernel_rfl) Try.func14 (by kernel_rfl)
    (of_decide_eq_true (by kernel_rfl)) (by unfold Func.isWrapper; first | (rw [if_pos (by decide +kernel)]; kernel_rfl) | (rw [if_neg (by decide +kernel)]; exact ⟨rfl, rfl⟩))
    (fun os started H enc _ => lifted os started H enc)
theorem proved : Rows.FnReplaceSaid := over
end Go.Proofs.Ytciajpimpjpnfaa.fnReplace
