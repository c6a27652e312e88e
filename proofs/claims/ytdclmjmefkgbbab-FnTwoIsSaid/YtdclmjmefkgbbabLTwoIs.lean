/-
  Proves: for every code: a sum of two squares by its primes is one, so is twice it, and the form of 1, 1 and the opposite of its core is bad nowhere.
  Conditions: none beyond the given statement's own.
-/
import Derived.Test.YtdclmjmefkgbbabRows
import Derived.Test.YtdclmjmefkgbbabSuG
import Derived.Test.YtdclmjmefkgbbabQBun15
import Derived.Test.YtdclmjmefkgbbabSuC2
import Derived.Test.YtdclmjmefkgbbabQBun17
import Derived.Test.YtdclmjmefkgbbabDraws24
import Derived.Test.YtdclmjmefkgbbabQRowWord
import Derived.ProofKit
import Derived.OpenShut
import Derived.ShutString
import Derived.ChangeOld
namespace Go.Proofs.Ytdclmjmefkgbbab.fnTwoIs
open Go.ChangeShapes Go.WideShapes Go.ChangeAt Go.RowKit
open Go.ChangeMaps (open_string shut_string)
set_option linter.unusedVariables false

set_option maxRecDepth 100000 in
set_option maxHeartbeats 4000000 in
theorem walk (a0 : Option Addr) (len0 cap0 : Nat) (z0 : List Int) (w : World) (w0 : IsRow .u8 w a0 len0 cap0 z0) :
    Calls Try.prog 3 #[.slice a0 len0 cap0] w fun e w' => e = .returned (.bool true) ∧ Below w.heap.size w w' := by
  have HC := hid (codeIn_of w0)
  clear w0
  by_cases hl : (1048576 : Int) < (len0 : Int)
  · go_enter Try.func3, Try.ntmps3
    go_wp2
    go_ret
    exact ⟨rfl, Below.refl _ _⟩
  · go_enter Try.func3, Try.ntmps3
    go_wp2_with fail
    refine (drawTwoIs_any _ len0 _ HC.out).mono ?_
    rintro e w1 ⟨n, rfl, hn, hb⟩
    have HB1 := hid hb
    clear hb HC
    rcases Bool.eq_false_or_eq_true (twoIsB n) with ht | ht
    · rcases sum_cases8 hn with h | ⟨N, rfl, h, hN⟩
      · rw [twoIs_no h] at ht; cases ht
      · have HI := hid (fun w => twoIs_any (N : Int) w)
        have HS := hid (fun w => twoIsS_any (N : Int) w)
        have HD := hid (fun w => twoIs_any (2 * (N : Int)) w)
        rw [ht] at HI HS
        have k := two_kernel (n := N) (by omega)
        rw [ht] at k
        obtain ⟨l, e⟩ := Option.isSome_iff_exists.1 k
        obtain ⟨x, y, rfl, x0, xy, hs, y2⟩ := two_found8 (by omega) e
        have HF := hid (fun w => twoFind_any (N : Int) w)
        rw [show twoFindV (N : Int) = .tuple #[.int .i64 x, .int .i64 y, .bool true] by unfold twoFindV; rw [h, e]; rfl] at HF
        have H2 := two_twice hN ht
        generalize twoIsB (2 * (N : Int)) = tw at *
        have HM := hid (fun w => twoMany_any (N : Int) w)
        have HC := hid (fun w => coreOf_any (N : Int) w)
        by_cases h0 : N = 0
        · subst h0
          rw [show (((0 : Nat) : Int)) = 0 from rfl] at *
          rw [show coreV 0 = .tuple #[.int .i64 0, .int .i64 0, .bool false] from coreV_no (by decide)] at HC
          have HD := hid (fun w => twoIs_any 0 w)
          rw [show twoIsB 0 = true by decide] at HD
          clear ht k e h hn hs H2 HM
          go_wp2_with fail
          refine (HI.out _).mono ?_
          rintro e w2 ⟨rfl, hb2⟩
          have HB2 := hid (HB1.out.trans (hb2.mono HB1.out.size))
          clear hb2
          go_wp2_with fail
          refine (HS.out _).mono ?_
          rintro e w3 ⟨rfl, hb3⟩
          have HB3 := hid (HB2.out.trans (hb3.mono HB2.out.size))
          clear hb3
          go_wp2_with fail
          refine (HF.out _).mono ?_
          rintro e w4 ⟨rfl, hb4⟩
          have HB4 := hid (HB3.out.trans (hb4.mono HB3.out.size))
          clear hb4
          go_wp2_with fail
          refine (HC.out _).mono ?_
          rintro e w5 ⟨rfl, hb5⟩
          have HB5 := hid (HB4.out.trans (hb5.mono HB4.out.size))
          clear hb5
          have HBF := hid (HB5.out.alloc HB5.out.size (.cells #[.int .i64 1, .int .i64 1, .int .i64 0] 3))
          go_wp2_with fail
          refine (HD.out _).mono ?_
          rintro e w6 ⟨rfl, hb6⟩
          have HB6 := hid (HBF.out.trans (hb6.mono HBF.out.size))
          clear hb6
          go_wp2
          all_goals (go_ret; exact ⟨rfl, HB6.out⟩)
        · obtain ⟨c, r, hc, hcr, r1, c1⟩ := core8 hN h0
          rw [hc] at HC
          have km := (many_kernel hN h0).2
          rw [ht, decide_eq_true_eq] at km
          rw [twoMany_yes (show sum1 (N : Int) = true by unfold sum1 inR; simp; omega)] at HM
          have hmb := div2_bd (N := N) (D := N + 1) (by omega) (by omega)
          rw [Nat.add_sub_cancel] at hmb
          obtain ⟨m, hm⟩ : ∃ m, m = 4 * divS g2 N N := ⟨_, rfl⟩
          rw [← hm] at HM hmb
          have hm1 : 0 < m := by omega
          have hr2 : r ≤ 2000 := by
            have h1 : r * 1 ≤ r * r := Nat.mul_le_mul_left r r1
            have h2 : 1 * (r * r) ≤ c * (r * r) := Nat.mul_le_mul_right _ c1
            omega
          have hc2 : c ≤ 2000 := by
            have h1 : c * 1 ≤ c * (r * r) := Nat.mul_le_mul_left c (Nat.mul_pos r1 r1)
            omega
          have HBAD : Hid (fvB [1, 1, -(c : Int)] = true → badL [1, 1, -(c : Int)] = []) := hid (fun hf => bad_two c1 r1 hr2 (by rw [hcr]; exact hs) ⟨x0, by omega⟩ ⟨by omega, y2⟩ hf)
          have hN1 : 0 < (N : Int) := by omega
          have TN : ((N : Int) == 0) = false := by rw [beq_eq_false_iff_ne]; omega
          have hN2 : N ≤ 2000 := by omega
          obtain ⟨q, hq⟩ : ∃ q, q = -(c : Int) := ⟨_, rfl⟩
          rw [← hq] at HBAD
          have HQ : Hid (-(c : Int) = q) := hid hq.symm
          have HV : Hid (∀ w : World, Calls Try.prog 21 #[.slice (some ⟨w.heap.size, 0, none⟩) 3 3] (w.alloc (.cells #[.int .i64 1, .int .i64 1, .int .i64 (-(c : Int))] 3)) fun e w' => e = .returned (.bool (fvB [1, 1, q])) ∧ w.alloc (.cells #[.int .i64 1, .int .i64 1, .int .i64 (-(c : Int))] 3) = w') := hid (fun w => by
            rw [HQ.out]
            exact formValidP_any _ [1, 1, q] _ (world_row9 w #[.int .i64 1, .int .i64 1, .int .i64 q] [1, 1, q] rfl (by simp)).rd)
          have HX : Hid (∀ w W : World, Below (w.alloc (.cells #[.int .i64 1, .int .i64 1, .int .i64 (-(c : Int))] 3)).heap.size (w.alloc (.cells #[.int .i64 1, .int .i64 1, .int .i64 (-(c : Int))] 3)) W → Calls Try.prog 22 #[.slice (some ⟨w.heap.size, 0, none⟩) 3 3] W fun e w' => ∃ u, e = .returned u ∧ Owns w' W.heap.size u (badL [1, 1, q]) ∧ Below W.heap.size W w') := hid (fun w W hb => by
            rw [HQ.out] at hb
            exact formBad_any _ [1, 1, q] _ ((world_row9 w #[.int .i64 1, .int .i64 1, .int .i64 q] [1, 1, q] rfl (by simp)).rd.keep hb) (by simp))
          clear hc hcr km hm ht k e h hn hN h0 hs hq
          obtain ⟨f, hf⟩ : ∃ f, f = fvB [1, 1, q] := ⟨_, rfl⟩
          have HFV := hid hf
          have HB9 : Hid (f = true → badL [1, 1, q] = []) := hid (fun h => HBAD.out (by rw [← HFV.out]; exact h))
          clear hf HBAD HV
          cases f with
          | false =>
            by_cases hb : (2000 : Int) < 2 * (N : Int)
            · skip
              go_wp2_with fail
              refine (HI.out _).mono ?_
              rintro e w2 ⟨rfl, hb2⟩
              have HB2 := hid (HB1.out.trans (hb2.mono HB1.out.size))
              clear hb2
              go_wp2_with fail
              refine (HS.out _).mono ?_
              rintro e w3 ⟨rfl, hb3⟩
              have HB3 := hid (HB2.out.trans (hb3.mono HB2.out.size))
              clear hb3
              go_wp2_with fail
              refine (HF.out _).mono ?_
              rintro e w4 ⟨rfl, hb4⟩
              have HB4 := hid (HB3.out.trans (hb4.mono HB3.out.size))
              clear hb4
              go_wp2_with fail
              refine (HC.out _).mono ?_
              rintro e w5 ⟨rfl, hb5⟩
              have HB5 := hid (HB4.out.trans (hb5.mono HB4.out.size))
              clear hb5
              have HBF := hid (HB5.out.alloc HB5.out.size (.cells #[.int .i64 1, .int .i64 1, .int .i64 (-(c : Int))] 3))
              go_wp2_with fail
              refine (HM.out _).mono ?_
              rintro e w6 ⟨rfl, hb6⟩
              have HX6 := hid hb6
              have HB6 := hid (HBF.out.trans (hb6.mono HBF.out.size))
              clear hb6
              have HY6 := HX6
              have HVW := hid (formValidP_any (.slice (some ⟨w5.heap.size, 0, none⟩) 3 3) [1, 1, q] w6 (by have h9 := HY6.out; rw [HQ.out] at h9; exact (world_row9 w5 #[.int .i64 1, .int .i64 1, .int .i64 q] [1, 1, q] rfl (by simp)).rd.keep h9))
              rw [← HFV.out] at HVW
              go_wp2_with fail
              refine HVW.out.mono ?_
              rintro e w' ⟨rfl, rfl⟩
              go_wp2
              go_ret
              exact ⟨rfl, HB6.out⟩
            · obtain rfl := H2.resolve_left hb
              go_wp2_with fail
              refine (HI.out _).mono ?_
              rintro e w2 ⟨rfl, hb2⟩
              have HB2 := hid (HB1.out.trans (hb2.mono HB1.out.size))
              clear hb2
              go_wp2_with fail
              refine (HS.out _).mono ?_
              rintro e w3 ⟨rfl, hb3⟩
              have HB3 := hid (HB2.out.trans (hb3.mono HB2.out.size))
              clear hb3
              go_wp2_with fail
              refine (HF.out _).mono ?_
              rintro e w4 ⟨rfl, hb4⟩
              have HB4 := hid (HB3.out.trans (hb4.mono HB3.out.size))
              clear hb4
              go_wp2_with fail
              refine (HC.out _).mono ?_
              rintro e w5 ⟨rfl, hb5⟩
              have HB5 := hid (HB4.out.trans (hb5.mono HB4.out.size))
              clear hb5
              have HBF := hid (HB5.out.alloc HB5.out.size (.cells #[.int .i64 1, .int .i64 1, .int .i64 (-(c : Int))] 3))
              go_wp2_with fail
              refine (HM.out _).mono ?_
              rintro e w6 ⟨rfl, hb6⟩
              have HX6 := hid hb6
              have HB6 := hid (HBF.out.trans (hb6.mono HBF.out.size))
              clear hb6
              have HY6 := HX6
              go_wp2_with fail
              refine (HD.out _).mono ?_
              rintro e w7 ⟨rfl, hb7⟩
              have HY7 := hid (HY6.out.trans (hb7.mono HY6.out.size))
              have HB7 := hid (HB6.out.trans (hb7.mono HB6.out.size))
              clear hb7
              have HVW := hid (formValidP_any (.slice (some ⟨w5.heap.size, 0, none⟩) 3 3) [1, 1, q] w7 (by have h9 := HY7.out; rw [HQ.out] at h9; exact (world_row9 w5 #[.int .i64 1, .int .i64 1, .int .i64 q] [1, 1, q] rfl (by simp)).rd.keep h9))
              rw [← HFV.out] at HVW
              go_wp2_with fail
              refine HVW.out.mono ?_
              rintro e w' ⟨rfl, rfl⟩
              go_wp2
              go_ret
              exact ⟨rfl, HB7.out⟩
          | true =>
            have HB9 : Hid (badL [1, 1, q] = []) := hid (by first | exact HB9.out rfl | exact HB9.out trivial)
            by_cases hb : (2000 : Int) < 2 * (N : Int)
            · skip
              go_wp2_with fail
              refine (HI.out _).mono ?_
              rintro e w2 ⟨rfl, hb2⟩
              have HB2 := hid (HB1.out.trans (hb2.mono HB1.out.size))
              clear hb2
              go_wp2_with fail
              refine (HS.out _).mono ?_
              rintro e w3 ⟨rfl, hb3⟩
              have HB3 := hid (HB2.out.trans (hb3.mono HB2.out.size))
              clear hb3
              go_wp2_with fail
              refine (HF.out _).mono ?_
              rintro e w4 ⟨rfl, hb4⟩
              have HB4 := hid (HB3.out.trans (hb4.mono HB3.out.size))
              clear hb4
              go_wp2_with fail
              refine (HC.out _).mono ?_
              rintro e w5 ⟨rfl, hb5⟩
              have HB5 := hid (HB4.out.trans (hb5.mono HB4.out.size))
              clear hb5
              have HBF := hid (HB5.out.alloc HB5.out.size (.cells #[.int .i64 1, .int .i64 1, .int .i64 (-(c : Int))] 3))
              go_wp2_with fail
              refine (HM.out _).mono ?_
              rintro e w6 ⟨rfl, hb6⟩
              have HX6 := hid hb6
              have HB6 := hid (HBF.out.trans (hb6.mono HBF.out.size))
              clear hb6
              have HY6 := HX6
              have HVW := hid (formValidP_any (.slice (some ⟨w5.heap.size, 0, none⟩) 3 3) [1, 1, q] w6 (by have h9 := HY6.out; rw [HQ.out] at h9; exact (world_row9 w5 #[.int .i64 1, .int .i64 1, .int .i64 q] [1, 1, q] rfl (by simp)).rd.keep h9))
              rw [← HFV.out] at HVW
              go_wp2_with fail
              refine HVW.out.mono ?_
              rintro e w' ⟨rfl, rfl⟩
              go_wp2_with fail
              refine (HX.out w5 w6 HY6.out).mono ?_
              rw [HB9.out]
              rintro e w9 ⟨u, rfl, ho9, hb9⟩
              obtain ⟨au, cu, rfl, _⟩ := ho9.rd.form
              have HBZ := hid (HB6.out.trans (hb9.mono HB6.out.size))
              clear ho9 hb9
              go_wp2
              go_ret
              exact ⟨rfl, HBZ.out⟩
              all_goals trivial
            · obtain rfl := H2.resolve_left hb
              go_wp2_with fail
              refine (HI.out _).mono ?_
              rintro e w2 ⟨rfl, hb2⟩
              have HB2 := hid (HB1.out.trans (hb2.mono HB1.out.size))
              clear hb2
              go_wp2_with fail
              refine (HS.out _).mono ?_
              rintro e w3 ⟨rfl, hb3⟩
              have HB3 := hid (HB2.out.trans (hb3.mono HB2.out.size))
              clear hb3
              go_wp2_with fail
              refine (HF.out _).mono ?_
              rintro e w4 ⟨rfl, hb4⟩
              have HB4 := hid (HB3.out.trans (hb4.mono HB3.out.size))
              clear hb4
              go_wp2_with fail
              refine (HC.out _).mono ?_
              rintro e w5 ⟨rfl, hb5⟩
              have HB5 := hid (HB4.out.trans (hb5.mono HB4.out.size))
              clear hb5
              have HBF := hid (HB5.out.alloc HB5.out.size (.cells #[.int .i64 1, .int .i64 1, .int .i64 (-(c : Int))] 3))
              go_wp2_with fail
              refine (HM.out _).mono ?_
              rintro e w6 ⟨rfl, hb6⟩
              have HX6 := hid hb6
              have HB6 := hid (HBF.out.trans (hb6.mono HBF.out.size))
              clear hb6
              have HY6 := HX6
              go_wp2_with fail
              refine (HD.out _).mono ?_
              rintro e w7 ⟨rfl, hb7⟩
              have HY7 := hid (HY6.out.trans (hb7.mono HY6.out.size))
              have HB7 := hid (HB6.out.trans (hb7.mono HB6.out.size))
              clear hb7
              have HVW := hid (formValidP_any (.slice (some ⟨w5.heap.size, 0, none⟩) 3 3) [1, 1, q] w7 (by have h9 := HY7.out; rw [HQ.out] at h9; exact (world_row9 w5 #[.int .i64 1, .int .i64 1, .int .i64 q] [1, 1, q] rfl (by simp)).rd.keep h9))
              rw [← HFV.out] at HVW
              go_wp2_with fail
              refine HVW.out.mono ?_
              rintro e w' ⟨rfl, rfl⟩
              go_wp2_with fail
              refine (HX.out w5 w7 HY7.out).mono ?_
              rw [HB9.out]
              rintro e w9 ⟨u, rfl, ho9, hb9⟩
              obtain ⟨au, cu, rfl, _⟩ := ho9.rd.form
              have HBZ := hid (HB7.out.trans (hb9.mono HB7.out.size))
              clear ho9 hb9
              go_wp2
              go_ret
              exact ⟨rfl, HBZ.out⟩
              all_goals trivial
    · have HI := hid (fun w => twoIs_any n w)
      have HS := hid (fun w => twoIsS_any n w)
      rw [ht] at HI HS
      clear ht hn
      go_wp2_with fail
      refine (HI.out _).mono ?_
      rintro e w2 ⟨rfl, hb2⟩
      have HB2 := hid (HB1.out.trans (hb2.mono HB1.out.size))
      clear hb2
      go_wp2_with fail
      refine (HS.out _).mono ?_
      rintro e w3 ⟨rfl, hb3⟩
      have HB3 := hid (HB2.out.trans (hb3.mono HB2.out.size))
      clear hb3
      go_wp2
      all_goals (go_ret; exact ⟨rfl, HB3.out⟩)
theorem own : ownKnob Try.prog.godebug = none := by kernel_rfl
theorem laidOut : laidOutB Try.prog = true := by kernel_rfl
set_option maxRecDepth 100000 in
theorem lifted (os : Os) (started : os.Started) (H : Type) (enc : TypeId × Value → H) :
    ReturnsInHanded {} Try.checked os 3 .any (Rows.fnTwoIsSpec.pre6 enc Try.prog Try.f3 Rows.fnTwoIsRow.domain false) (Rows.fnTwoIsSpec.post enc Try.prog Try.f3 false true false false) := by
  refine returnsInHanded_of_change (C := Try.checked) own started (by kernel_rfl) Try.func3
    (ChangeSpec.witness6 (enc := enc) (C := Try.checked) false ⟨#[], #[.slice none 0 0], []⟩ 8 (by kernel_rfl) (by kernel_rfl) (by kernel_rfl) (by kernel_rfl)) ?_
  intro W base args ds gs before hval0 hW hcnd _
  have hval : ∀ (j : Nat) t v, Try.f3.params[j]? = some t → args[j]? = some v → Value.okWide Try.prog W .any base t v := hval0
  have hW' := hW
  obtain ⟨p, q, hA0, hV, rfl, hfz, hnd⟩ := hW
  have hA : DataW.TrodAll enc Try.prog W 0 (fun _ => true) true Try.f3.params.toList args.toList ds p := hA0
  rw [Try.params3] at hA hval
  obtain ⟨v0, vs0, d0, ds0, p0, q0, hargs, rfl, rfl, h0, r0⟩ := trodAll_cons hA
  obtain ⟨rfl, rfl, rfl⟩ := trodAll_nil r0
  obtain rfl : args = #[v0] := by cases args; simp_all
  obtain ⟨rfl, rfl⟩ := trodVars_none hV
  obtain ⟨a0, len0, cap0, rfl⟩ := okWide_slice Try.underlying22 (hval 0 22 v0 rfl rfl)
  have k0 := h0
  have lt0 : ∀ x ∈ p0, x.block < W.heap.size := by obtain ⟨m, hm⟩ := k0; exact DataW.trod_lt m _ _ _ hm
  obtain ⟨z0, w0⟩ : ∃ zs, IsRow .u8 W a0 len0 cap0 zs := by
    obtain ⟨fuel, hf⟩ := h0
    rcases open_ints Try.underlying22 Try.underlying5 (by kernel_rfl) hf with ⟨hcs, _⟩ | ⟨x, l, c, zs, hcs, _, hl, hm, hz, _, hcell, hwz⟩
    · simp [Value.cells] at hcs
      obtain ⟨rfl, rfl, rfl⟩ := hcs
      exact ⟨[], .inl ⟨rfl, rfl, rfl, rfl⟩⟩
    · simp [Value.cells] at hcs
      obtain ⟨rfl, rfl, rfl⟩ := hcs
      exact ⟨zs, .inr ⟨_, rfl, hl, hm, by simpa using hz, hcell, hwz⟩⟩
  clear hA0 hval0
  refine (walk a0 len0 cap0 z0 W w0).mono fun e W' ⟨he, bel⟩ => ?_
  subst he
  exact ⟨_, rfl, _, _, _, [], _, [], hW', trodAll_mk1 (shut_bool Try.underlying4 _), (trodAll_cons_mk (Below.trod laidOut (by kernel_rfl) (of_decide_eq_true (by kernel_rfl)) k0 bel lt0) trodAll_mk0), rfl, bel.frame _, fun h => by cases h⟩
theorem over : Rows.fnTwoIsRow.holds Try.pinned (OpenSpec.ofChange Rows.fnTwoIsSpec) :=
  OpenClaim.holds_of_wide 3 Try.f3 rfl rfl rfl rfl rfl rfl rfl ⟨rfl, rfl, rfl, rfl, rfl⟩ rfl rfl rfl rfl rfl (by kernel_rfl) Try.func3 (by kernel_rfl)
    (of_decide_eq_true (by kernel_rfl)) (by unfold Func.isWrapper; first | (rw [if_pos (by decide +kernel)]; kernel_rfl) | (rw [if_neg (by decide +kernel)]; exact ⟨rfl, rfl⟩))
    (fun os started H enc _ => lifted os started H enc)
theorem proved : Rows.FnTwoIsSaid := over
end Go.Proofs.Ytdclmjmefkgbbab.fnTwoIs
