/-
  Proves: for every two codes: equal forms have the same signs, are alike at the first places, the same in the other order, and with one more term.
  Conditions: none beyond the given statement's own.
-/
import Derived.Test.YtciajpimpjpnfaaRows
import Derived.Test.YtciajpimpjpnfaaFmCore
import Derived.Test.YtciajpimpjpnfaaImp4D
import Derived.Test.YtciajpimpjpnfaaImp4E
import Derived.Test.YtciajpimpjpnfaaImp4G
import Derived.Test.YtciajpimpjpnfaaImp4H
import Derived.ProofKit
import Derived.OpenShut
import Derived.ShutString
import Derived.ChangeOld
namespace Go.Proofs.Ytciajpimpjpnfaa.fnFormSame
open Go.ChangeShapes Go.WideShapes Go.ChangeAt Go.RowKit
open Go.ChangeMaps (open_string shut_string)
set_option linter.unusedVariables false
theorem fv_snoc {a : List Int} {t : Int} (h : fvB a = true) (h0 : t ≠ 0) (h1 : -30 ≤ t) (h2 : t ≤ 30) : fvB (a ++ [t]) = decide (a.length ≤ 3) := by
  obtain ⟨a1, a2, a3⟩ := fvB_iff.1 h
  rw [Bool.eq_iff_iff, fvB_iff, decide_eq_true_eq, List.length_append, List.length_singleton]
  constructor
  · intro hh; omega
  · intro hl
    refine ⟨fun x hx => ?_, by omega, by omega⟩
    rcases List.mem_append.1 hx with hx | hx
    · exact a1 x hx
    · rw [List.mem_singleton] at hx
      rw [hx]
      exact ⟨h0, h1, h2⟩
theorem join_t {a b : List Int} {t : Int} (h : fvB a = true) (k : fvB b = true) (hl : a.length = b.length) (h0 : t ≠ 0) (h1 : -30 ≤ t) (h2 : t ≤ 30) : joinOk b [t] = joinOk a [t] := by
  unfold joinOk
  rw [h, k, fv_snoc h h0 h1 h2, fv_snoc k h0 h1 h2, hl]
theorem same_alike {a b : List Int} (h : fsameV a b = true) {q : Int} (hq : plI q = true) : falikeV a b q = true := by
  obtain ⟨h1, h2⟩ := same_valid h
  obtain ⟨h3, _, h5⟩ := (same_iff h1 h2).1 h
  unfold falikeV bothB
  rw [h1, h2, hq, h5 q hq, h3]
  simp
theorem same_join {a b : List Int} {t : Int} (h : fsameV a b = true) (hj : joinOk a [t] = true) (hk : joinOk b [t] = true) : fsameV (joinL a [t]) (joinL b [t]) = true := by
  obtain ⟨a1, _, a3, a4⟩ := join_yes hj
  obtain ⟨b1, _, b3, b4⟩ := join_yes hk
  rw [a4, b4, cancel a1 b1 a3 b3, h]
theorem five_pl : ∀ q ∈ ([0, 2, 3, 5, 7] : List Int), plI q = true := by decide +kernel
set_option maxRecDepth 100000 in
set_option maxHeartbeats 4000000 in
theorem walk  (a0 : Option Addr) (len0 cap0 : Nat) (z0 : List Int) (a1 : Option Addr) (len1 cap1 : Nat) (z1 : List Int) (w : World) (w0 : IsRow .u8 w a0 len0 cap0 z0) (w1 : IsRow .u8 w a1 len1 cap1 z1) :
    Calls Try.prog 12 #[.slice a0 len0 cap0, .slice a1 len1 cap1] w fun e w' => e = .returned (.bool true) ∧ Below w.heap.size w w' := by
  have HC := hid (codeIn_of w0)
  clear w0 w1
  by_cases hl0 : (1048576 : Int) < (len0 : Int)
  · go_enter Try.func12, Try.ntmps12
    go_wp2
    go_ret
    exact ⟨rfl, Below.refl _ _⟩
  by_cases hl1 : (1048576 : Int) < (len1 : Int)
  · go_enter Try.func12, Try.ntmps12
    go_wp2
    go_ret
    exact ⟨rfl, Below.refl _ _⟩
  · go_enter Try.func12, Try.ntmps12
    go_wp2_with fail
    refine (drawFormSame_any _ len0 _ HC.out).mono ?_
    rintro e d1 ⟨u, v, xs, ys, rfl, ⟨HT1, HT2⟩, HXo, HYr, hfv, hb0⟩
    have HB1 := hid hb0
    clear hb0
    have hxl := HT1.1
    have hyl := HT2.1
    have HFU := hid HXo.out.firm
    have HFV := hid hfv
    clear hfv HT1 HT2
    go_wp2_with fail
    refine (formSame_any u v xs ys _ HXo.out.rd HYr.out (by omega) (by omega)).mono ?_
    rintro e d2 ⟨rfl, hb2⟩
    have HB2 := hid (HB1.out.trans (hb2.mono HB1.out.size))
    have X_2 := hid (HXo.out.keep HXo.out.lt hb2)
    have Y_2 := hid (HYr.out.keep hb2)
    clear hb2
    go_wp2_with fail
    refine (formSameS_any u v xs ys _ X_2.out.rd Y_2.out).mono ?_
    rintro e d3 ⟨rfl, hb3⟩
    have HB3 := hid (HB2.out.trans (hb3.mono HB2.out.size))
    have X_3 := hid (X_2.out.keep X_2.out.lt hb3)
    have Y_3 := hid (Y_2.out.keep hb3)
    clear hb3
    cases hs : fsameV xs ys with
    | false =>
      go_wp2
      go_ret
      exact ⟨rfl, HB3.out⟩
    | true =>
      have hse := same_less hs
      have hva := (same_valid hs).1
      have hvb := (same_valid hs).2
      have S1 := hid (signs_yes hva)
      have S2 : Hid (signsV ys = .tuple #[.int .i64 (sg xs), .bool true]) := hid (by rw [signs_yes hvb]; unfold sg; rw [hse.1, hse.2])
      obtain ⟨s, hs0⟩ : ∃ s, s = sg xs := ⟨_, rfl⟩
      rw [← hs0] at S1 S2
      obtain ⟨t, ht⟩ : ∃ t : Nat, t = 1 + len1 % 15 := ⟨_, rfl⟩
      have ht1 : 1 ≤ t := by omega
      have ht2 : t ≤ 15 := by omega
      have hte : 1 + (len1 : Int) % 15 = (t : Int) := by rw [ht]; push_cast; rfl
      have HJO : Hid (joinOk ys [(t : Int)] = joinOk xs [(t : Int)]) := hid (join_t hva hvb hse.2 (by omega) (by omega) (by omega))
      have HAL : Hid (∀ q, plI q = true → falikeV xs ys q = true) := hid (fun q hq => same_alike hs hq)
      have HSM := hid (same_symm hs)
      have HJS : Hid (joinOk xs [(t : Int)] = true → fsameV (joinL xs [(t : Int)]) (joinL ys [(t : Int)]) = true) := hid (fun h => same_join hs h (by rw [HJO.out]; exact h))
      have HL1 : Hid ((joinL xs [(t : Int)]).length ≤ 1048576) := hid (Nat.le_trans (join_len _ _) (by omega))
      have HL2 : Hid ((joinL ys [(t : Int)]).length ≤ 1048576) := hid (Nat.le_trans (join_len _ _) (by omega))
      obtain ⟨jo, hjo⟩ : ∃ jo, jo = joinOk xs [(t : Int)] := ⟨_, rfl⟩
      rw [← hjo] at HJO HJS
      have HJ := hid hjo.symm
      clear hs hse hva hvb hs0 ht hjo
      go_wp2_with fail
      refine (formSigns_any u xs _ X_3.out.rd (by omega)).mono ?_
      rw [S1.out]
      rintro e d4 ⟨rfl, hb4⟩
      have HB4 := hid (HB3.out.trans (hb4.mono HB3.out.size))
      have X_4 := hid (X_3.out.keep X_3.out.lt hb4)
      have Y_4 := hid (Y_3.out.keep hb4)
      clear hb4
      go_wp2_with fail
      refine (formSigns_any v ys _ Y_4.out (by omega)).mono ?_
      rw [S2.out]
      rintro e d5 ⟨rfl, hb5⟩
      have HB5 := hid (HB4.out.trans (hb5.mono HB4.out.size))
      have X_5 := hid (X_4.out.keep X_4.out.lt hb5)
      have Y_5 := hid (Y_4.out.keep hb5)
      clear hb5
      have ha6 := (Below.refl d5.heap.size d5).alloc (Nat.le_refl _) (.cells #[.int .i64 (t : Int)] 3)
      have HB6 := hid (HB5.out.trans (ha6.mono HB5.out.size))
      have X_6 := hid (X_5.out.keep X_5.out.lt ha6)
      have Y_6 := hid (Y_5.out.keep ha6)
      have T_6 : Hid (Owns (d5.alloc (.cells #[.int .i64 (t : Int)] 3)) d5.heap.size (.slice (some ⟨d5.heap.size, 0, none⟩) 1 1) [(t : Int)]) := hid (owns_lit [(t : Int)] _ rfl (Nat.le_refl _) (by unfold maxLen; simp))
      clear ha6
      go_wp2_with fail
      refine (formJoin_any u _ xs [(t : Int)] _ HFU.out (.inr ⟨_, _, _, rfl⟩) X_6.out.rd T_6.out.rd (by omega) (by simp)).mono ?_
      rw [HJ.out]
      rintro e d7 ⟨Z_o, rfl, hO7, hb7⟩
      have HB7 := hid (HB6.out.trans (hb7.mono HB6.out.size))
      have X_7 := hid (X_6.out.keep X_6.out.lt hb7)
      have Y_7 := hid (Y_6.out.keep hb7)
      have T_7 := hid (T_6.out.keep T_6.out.lt hb7)
      have Z_7 := hid hO7
      clear hO7
      clear hb7
      have ha8 := (Below.refl d7.heap.size d7).alloc (Nat.le_refl _) (.cells #[.int .i64 (t : Int)] 3)
      have HB8 := hid (HB7.out.trans (ha8.mono HB7.out.size))
      have X_8 := hid (X_7.out.keep X_7.out.lt ha8)
      have Y_8 := hid (Y_7.out.keep ha8)
      have T_8 := hid (T_7.out.keep T_7.out.lt ha8)
      have Z_8 := hid (Z_7.out.keep Z_7.out.lt ha8)
      have T2_8 : Hid (Owns (d7.alloc (.cells #[.int .i64 (t : Int)] 3)) d7.heap.size (.slice (some ⟨d7.heap.size, 0, none⟩) 1 1) [(t : Int)]) := hid (owns_lit [(t : Int)] _ rfl (Nat.le_refl _) (by unfold maxLen; simp))
      clear ha8
      go_wp2_with fail
      refine (formJoin_any v _ ys [(t : Int)] _ HFV.out (.inr ⟨_, _, _, rfl⟩) Y_8.out T2_8.out.rd (by omega) (by simp)).mono ?_
      rw [HJO.out]
      rintro e d9 ⟨Q_o, rfl, hO9, hb9⟩
      have HB9 := hid (HB8.out.trans (hb9.mono HB8.out.size))
      have X_9 := hid (X_8.out.keep X_8.out.lt hb9)
      have Y_9 := hid (Y_8.out.keep hb9)
      have T_9 := hid (T_8.out.keep T_8.out.lt hb9)
      have Z_9 := hid (Z_8.out.keep Z_8.out.lt hb9)
      have T2_9 := hid (T2_8.out.keep T2_8.out.lt hb9)
      have Q_9 := hid hO9
      clear hO9
      clear hb9
      have ha10 := (Below.refl d9.heap.size d9).alloc (Nat.le_refl _) (.cells #[.int .i64 0, .int .i64 2, .int .i64 3, .int .i64 5, .int .i64 7] 3)
      have HB10 := hid (HB9.out.trans (ha10.mono HB9.out.size))
      have X_10 := hid (X_9.out.keep X_9.out.lt ha10)
      have Y_10 := hid (Y_9.out.keep ha10)
      have Z_10 := hid (Z_9.out.keep Z_9.out.lt ha10)
      have Q_10 := hid (Q_9.out.keep Q_9.out.lt ha10)
      have PL_10 : Hid (Owns (d9.alloc (.cells #[.int .i64 0, .int .i64 2, .int .i64 3, .int .i64 5, .int .i64 7] 3)) d9.heap.size (.slice (some ⟨d9.heap.size, 0, none⟩) 5 5) [0, 2, 3, 5, 7]) := hid (owns_lit [0, 2, 3, 5, 7] _ rfl (Nat.le_refl _) (by unfold maxLen; simp))
      clear ha10
      go_wp2_with fail
      go_loopw [19] (fun si wr => ∃ K : Nat, si = .int .i64 K ∧ K ≤ 5 ∧ Hid (Below (d9.alloc (.cells #[.int .i64 0, .int .i64 2, .int .i64 3, .int .i64 5, .int .i64 7] 3)).heap.size (d9.alloc (.cells #[.int .i64 0, .int .i64 2, .int .i64 3, .int .i64 5, .int .i64 7] 3)) wr)) (fun si _ => 5 - (intOf si).toNat)
      case atStart => exact ⟨0, rfl, by omega, hid (Below.refl _ _)⟩
      case round =>
        obtain ⟨K, rfl, hK, HL11⟩ := hrel
        rename World => v11
        have HB11 := hid (HB10.out.trans (HL11.out.mono HB10.out.size))
        have X_11 := hid (X_10.out.keep X_10.out.lt HL11.out)
        have Y_11 := hid (Y_10.out.keep HL11.out)
        have Z_11 := hid (Z_10.out.keep Z_10.out.lt HL11.out)
        have Q_11 := hid (Q_10.out.keep Q_10.out.lt HL11.out)
        have PL_11 := hid (PL_10.out.keep PL_10.out.lt HL11.out)
        by_cases hlt : K < 5
        · skip
          obtain ⟨ad, cap, e1, hform⟩ := (PL_11.out.rd).form
          cases e1
          obtain ⟨bb, o, e2, hml, hc⟩ := hform (by decide)
          cases e2
          have hcell := hc K hlt
          rw [Nat.zero_add] at hcell
          clear hc hml
          obtain ⟨q, hq⟩ : ∃ q, q = ([0, 2, 3, 5, 7] : List Int).getD K 0 := ⟨_, rfl⟩
          rw [← hq] at hcell
          have HQ : Hid (falikeV xs ys q = true) := hid (HAL.out q (five_pl q (by rw [hq, getD_at _ _ (show K < ([0, 2, 3, 5, 7] : List Int).length from hlt)]; exact List.getElem_mem _)))
          have hi0 : (K : Int) < 5 := by omega
          clear hq
          go_wp2_with fail
          refine (formAlike_any u v xs ys q _ X_11.out.rd Y_11.out (by omega) (by omega)).mono ?_
          rw [HQ.out]
          rintro e d12 ⟨rfl, hb12⟩
          have HB12 := hid (HB11.out.trans (hb12.mono HB11.out.size))
          have HL12_1 := hid (HL11.out.trans (hb12.mono HL11.out.size))
          have X_12 := hid (X_11.out.keep X_11.out.lt hb12)
          have Y_12 := hid (Y_11.out.keep hb12)
          have Z_12 := hid (Z_11.out.keep Z_11.out.lt hb12)
          have Q_12 := hid (Q_11.out.keep Q_11.out.lt hb12)
          have PL_12 := hid (PL_11.out.keep PL_11.out.lt hb12)
          clear hb12
          go_wp2
          go_round
          case measure => simp only [intOf]; omega
          case rel => exact ⟨K + 1, by go_num, by omega, HL12_1⟩
        · obtain rfl : K = 5 := by omega
          clear hlt HJ HJO
          go_wp2_with fail
          refine (formSame_any v u ys xs _ Y_11.out X_11.out.rd (by omega) (by omega)).mono ?_
          rw [HSM.out]
          rintro e d12 ⟨rfl, hb12⟩
          have HB12 := hid (HB11.out.trans (hb12.mono HB11.out.size))
          have HL12_1 := hid (HL11.out.trans (hb12.mono HL11.out.size))
          have X_12 := hid (X_11.out.keep X_11.out.lt hb12)
          have Y_12 := hid (Y_11.out.keep hb12)
          have Z_12 := hid (Z_11.out.keep Z_11.out.lt hb12)
          have Q_12 := hid (Q_11.out.keep Q_11.out.lt hb12)
          have PL_12 := hid (PL_11.out.keep PL_11.out.lt hb12)
          clear hb12
          cases jo with
          | false =>
            go_wp2
            go_ret
            exact ⟨rfl, HB12.out⟩
          | true =>
            go_wp2_with fail
            refine (formSame_any _ _ _ _ _ Z_12.out.rd Q_12.out.rd HL1.out HL2.out).mono ?_
            rw [HJS.out (by trivial)]
            rintro e d13 ⟨rfl, hb13⟩
            have HB13 := hid (HB12.out.trans (hb13.mono HB12.out.size))
            have HL13_1 := hid (HL12_1.out.trans (hb13.mono HL12_1.out.size))
            have X_13 := hid (X_12.out.keep X_12.out.lt hb13)
            have Y_13 := hid (Y_12.out.keep hb13)
            have Z_13 := hid (Z_12.out.keep Z_12.out.lt hb13)
            have Q_13 := hid (Q_12.out.keep Q_12.out.lt hb13)
            have PL_13 := hid (PL_12.out.keep PL_12.out.lt hb13)
            clear hb13
            go_wp2
            go_ret
            exact ⟨rfl, HB13.out⟩
theorem own : ownKnob Try.prog.godebug = none := by kernel_rfl
theorem laidOut : laidOutB Try.prog = true := by kernel_rfl
set_option maxRecDepth 100000 in
theorem lifted (os : Os) (started : os.Started) (H : Type) (enc : TypeId × Value → H) :
    ReturnsInHanded {} Try.checked os 12 .any (Rows.fnFormSameSpec.pre6 enc Try.prog Try.f12 Rows.fnFormSameRow.domain false) (Rows.fnFormSameSpec.post enc Try.prog Try.f12 false true false false) := by
  refine returnsInHanded_of_change (C := Try.checked) own started (by kernel_rfl) Try.func12
    (ChangeSpec.witness6 (enc := enc) (C := Try.checked) false ⟨#[], #[.slice none 0 0, .slice none 0 0], []⟩ 8 (by kernel_rfl) (by kernel_rfl) (by kernel_rfl) (by kernel_rfl)) ?_
  intro W base args ds gs before hval0 hW hcnd _
  have hval : ∀ (j : Nat) t v, Try.f12.params[j]? = some t → args[j]? = some v → Value.okWide Try.prog W .any base t v := hval0
  have hW' := hW
  obtain ⟨p, q, hA0, hV, rfl, hfz, hnd⟩ := hW
  have hA : DataW.TrodAll enc Try.prog W 0 (fun _ => true) true Try.f12.params.toList args.toList ds p := hA0
  rw [Try.params12] at hA hval
  obtain ⟨v0, vs0, d0, ds0, p0, q0, hargs, rfl, rfl, h0, r0⟩ := trodAll_cons hA
  obtain ⟨v1, vs1, d1, ds1, p1, q1, rfl, rfl, rfl, h1, r1⟩ := trodAll_cons r0
  obtain ⟨rfl, rfl, rfl⟩ := trodAll_nil r1
  obtain rfl : args = #[v0, v1] := by cases args; simp_all
  obtain ⟨rfl, rfl⟩ := trodVars_none hV
  obtain ⟨a0, len0, cap0, rfl⟩ := okWide_slice Try.underlying22 (hval 0 22 v0 rfl rfl)
  have k0 := h0
  have lt0 : ∀ x ∈ p0, x.block < W.heap.size := by obtain ⟨m, hm⟩ := k0; exact DataW.trod_lt m _ _ _ hm
  obtain ⟨z0, w0⟩ : ∃ zs, IsRow .u8 W a0 len0 cap0 zs := by
    obtain ⟨fuel, hf⟩ := h0
    rcases open_ints Try.underlying22 Try.underlying5 (by kernel_rfl) hf with ⟨hcs, _⟩ | ⟨x, l, c, zs, hcs, _, hl, hm, hz, _, hcell, hwz⟩
    · simp [Value.cells] at hcs
      obtain ⟨rfl, rfl, rfl⟩ := hcs
      exact ⟨[], .inl ⟨rfl, rfl, rfl, rfl⟩⟩
    · simp [Value.cells] at hcs
      obtain ⟨rfl, rfl, rfl⟩ := hcs
      exact ⟨zs, .inr ⟨_, rfl, hl, hm, by simpa using hz, hcell, hwz⟩⟩
  obtain ⟨a1, len1, cap1, rfl⟩ := okWide_slice Try.underlying22 (hval 1 22 v1 rfl rfl)
  have k1 := h1
  have lt1 : ∀ x ∈ p1, x.block < W.heap.size := by obtain ⟨m, hm⟩ := k1; exact DataW.trod_lt m _ _ _ hm
  obtain ⟨z1, w1⟩ : ∃ zs, IsRow .u8 W a1 len1 cap1 zs := by
    obtain ⟨fuel, hf⟩ := h1
    rcases open_ints Try.underlying22 Try.underlying5 (by kernel_rfl) hf with ⟨hcs, _⟩ | ⟨x, l, c, zs, hcs, _, hl, hm, hz, _, hcell, hwz⟩
    · simp [Value.cells] at hcs
      obtain ⟨rfl, rfl, rfl⟩ := hcs
      exact ⟨[], .inl ⟨rfl, rfl, rfl, rfl⟩⟩
    · simp [Value.cells] at hcs
      obtain ⟨rfl, rfl, rfl⟩ := hcs
      exact ⟨zs, .inr ⟨_, rfl, hl, hm, by simpa using hz, hcell, hwz⟩⟩
  clear hA0 hval0
  refine (walk a0 len0 cap0 z0 a1 len1 cap1 z1 W w0 w1).mono fun e W' ⟨he, bel⟩ => ?_
  subst he
  exact ⟨_, rfl, _, _, _, [], _, [], hW', trodAll_mk1 (shut_bool Try.underlying4 _), (trodAll_cons_mk (Below.trod laidOut (by kernel_rfl) (of_decide_eq_true (by kernel_rfl)) k0 bel lt0) (trodAll_cons_mk (Below.trod laidOut (by kernel_rfl) (of_decide_eq_true (by kernel_rfl)) k1 bel lt1) trodAll_mk0)), rfl, bel.frame _, fun h => by cases h⟩
theorem over : Rows.fnFormSameRow.holds Try.pinned (OpenSpec.ofChange Rows.fnFormSameSpec) :=
  OpenClaim.holds_of_wide 12 Try.f12 rfl rfl rfl rfl rfl rfl rfl ⟨rfl, rfl, rfl, rfl, rfl⟩ rfl rfl rfl rfl rfl (by kernel_rfl) Try.func12 (by kernel_rfl)
    (of_decide_eq_true (by kernel_rfl)) (by unfold Func.isWrapper; first | (rw [if_pos (by decide +kernel)]; kernel_rfl) | (rw [if_neg (by decide +kernel)]; exact ⟨rfl, rfl⟩))
    (fun os started H enc _ => lifted os started H enc)
theorem proved : Rows.FnFormSameSaid := over
end Go.Proofs.Ytciajpimpjpnfaa.fnFormSame
