/-
  Proves: for every code: a sum of three squares is found, so is four times it, and the form of 1, 1, 1 and the opposite of its core vanishes at 2.
  Conditions: none beyond the given statement's own.
-/
import Derived.Test.YtdclmjmefkgbbabRows
import Derived.Test.YtdclmjmefkgbbabSuG
import Derived.Test.YtdclmjmefkgbbabImp4D
import Derived.Test.YtdclmjmefkgbbabQBun15
import Derived.Test.YtdclmjmefkgbbabSuC2
import Derived.Test.YtdclmjmefkgbbabQBun16
import Derived.Test.YtdclmjmefkgbbabDraws24
import Derived.Test.YtdclmjmefkgbbabQRowWord
import Derived.ProofKit
import Derived.OpenShut
import Derived.ShutString
import Derived.ChangeOld
namespace Go.Proofs.Ytdclmjmefkgbbab.fnThreeIs
open Go.ChangeShapes Go.WideShapes Go.ChangeAt Go.RowKit
open Go.ChangeMaps (open_string shut_string)
set_option linter.unusedVariables false

set_option maxRecDepth 100000 in
set_option maxHeartbeats 4000000 in
theorem walk (a0 : Option Addr) (len0 cap0 : Nat) (z0 : List Int) (w : World) (w0 : IsRow .u8 w a0 len0 cap0 z0) :
    Calls Try.prog 6 #[.slice a0 len0 cap0] w fun e w' => e = .returned (.bool true) ∧ Below w.heap.size w w' := by
  have HC := hid (codeIn_of w0)
  clear w0
  by_cases hl : (1048576 : Int) < (len0 : Int)
  · go_enter Try.func6, Try.ntmps6
    go_wp2
    go_ret
    exact ⟨rfl, Below.refl _ _⟩
  · go_enter Try.func6, Try.ntmps6
    go_wp2_with fail
    refine (drawThreeIs_any _ len0 _ HC.out).mono ?_
    rintro e w1 ⟨n, rfl, hn, hb⟩
    have HB1 := hid hb
    clear hb HC
    rcases Bool.eq_false_or_eq_true (threeIsB n) with ht | ht
    · rcases sum_cases8 hn with h | ⟨N, rfl, h, hN⟩
      · rw [threeIs_no h] at ht; cases ht
      · have HI := hid (fun w => threeIs_any (N : Int) w)
        have HS := hid (fun w => threeIsS_any (N : Int) w)
        have HD := hid (fun w => threeIs_any (4 * (N : Int)) w)
        rw [ht] at HI HS
        have k := three_kernel hN
        rw [ht] at k
        obtain ⟨l, e⟩ := Option.isSome_iff_exists.1 k
        obtain ⟨x, y, z, rfl, x0, xy, yz, hs, px, py, pz⟩ := three_found (by omega) e
        have HF := hid (fun w => (threeFind_any (N : Int) w).mono fun _ _ q => many_yes8 h e q)
        have H2 := three_times ht
        generalize threeIsB (4 * (N : Int)) = tw at *
        have HC := hid (fun w => coreOf_any (N : Int) w)
        by_cases h0 : N = 0
        · subst h0
          rw [show (((0 : Nat) : Int)) = 0 from rfl] at *
          rw [show coreV 0 = .tuple #[.int .i64 0, .int .i64 0, .bool false] from coreV_no (by decide)] at HC
          have HD := hid (fun w => threeIs_any 0 w)
          rw [show threeIsB 0 = true by decide] at HD
          clear ht k e h hn hs H2 px py pz x0 xy yz
          go_wp2_with fail
          refine (HI.out _).mono ?_
          rintro e w2 ⟨rfl, hb2⟩
          have HB2 := hid (HB1.out.trans (hb2.mono HB1.out.size))
          clear hb2
          go_wp2_with fail
          refine (HS.out _).mono ?_
          rintro e w3 ⟨rfl, hb3⟩
          have HB3 := hid (HB2.out.trans (hb3.mono HB2.out.size))
          clear hb3
          go_wp2_with fail
          refine (HF.out _).mono ?_
          rintro e w4 ⟨uf, rfl, ho4, hb4⟩
          have HOuf := hid ho4
          have HBx4 := hid hb4
          have HB4 := hid (HB3.out.trans (hb4.mono HB3.out.size))
          clear ho4 hb4
          go_wp2_with fail
          refine (HC.out _).mono ?_
          rintro e w5 ⟨rfl, hb5⟩
          have HB5 := hid (HB4.out.trans (hb5.mono HB4.out.size))
          clear hb5
          have HBF := hid (HB5.out.alloc HB5.out.size (.cells #[.int .i64 1, .int .i64 1, .int .i64 1, .int .i64 0] 3))
          go_wp2_with fail
          refine (HD.out _).mono ?_
          rintro e w6 ⟨rfl, hb6⟩
          have HB6 := hid (HBF.out.trans (hb6.mono HBF.out.size))
          clear hb6
          go_wp2
          all_goals (go_ret; exact ⟨rfl, HB6.out⟩)
        · obtain ⟨c, r, hc, hcr, r1, c1⟩ := core8 hN h0
          rw [hc] at HC
          have hc2 : c ≤ 2000 := by
            have h1 : c * 1 ≤ c * (r * r) := Nat.mul_le_mul_left c (Nat.mul_pos r1 r1)
            omega
          have HVAN : Hid (fvB [1, 1, 1, -(c : Int)] = true → fvanV [1, 1, 1, -(c : Int)] 2 = true) := hid (fun hf => van_three8 c1 r1 (by rw [hcr]; exact hs) hf)
          have hN1 : 0 < (N : Int) := by omega
          have TN : ((N : Int) == 0) = false := by rw [beq_eq_false_iff_ne]; omega
          have hN2 : N ≤ 2000 := by omega
          obtain ⟨q, hq⟩ : ∃ q, q = -(c : Int) := ⟨_, rfl⟩
          rw [← hq] at HVAN
          have HQ : Hid (-(c : Int) = q) := hid hq.symm
          have HX : Hid (∀ w W : World, Below (w.alloc (.cells #[.int .i64 1, .int .i64 1, .int .i64 1, .int .i64 (-(c : Int))] 3)).heap.size (w.alloc (.cells #[.int .i64 1, .int .i64 1, .int .i64 1, .int .i64 (-(c : Int))] 3)) W → Calls Try.prog 32 #[.slice (some ⟨w.heap.size, 0, none⟩) 4 4, .int .i64 2] W fun e w' => e = .returned (.bool (fvanV [1, 1, 1, q] 2)) ∧ Below W.heap.size W w') := hid (fun w W hb => by
            rw [HQ.out] at hb
            exact formVanishes_any _ [1, 1, 1, q] 2 _ ((world_row9 w #[.int .i64 1, .int .i64 1, .int .i64 1, .int .i64 q] [1, 1, 1, q] rfl (by simp)).rd.keep hb) (by simp))
          clear hc hcr ht k e h hn hN h0 hs hq px py pz x0 xy yz
          obtain ⟨f, hf⟩ : ∃ f, f = fvB [1, 1, 1, q] := ⟨_, rfl⟩
          have HFV := hid hf
          have HB9 : Hid (f = true → fvanV [1, 1, 1, q] 2 = true) := hid (fun h => HVAN.out (by rw [← HFV.out]; exact h))
          clear hf HVAN
          cases f with
          | false =>
            by_cases hb : (2000 : Int) < 4 * (N : Int)
            · skip
              go_wp2_with fail
              refine (HI.out _).mono ?_
              rintro e w2 ⟨rfl, hb2⟩
              have HB2 := hid (HB1.out.trans (hb2.mono HB1.out.size))
              clear hb2
              go_wp2_with fail
              refine (HS.out _).mono ?_
              rintro e w3 ⟨rfl, hb3⟩
              have HB3 := hid (HB2.out.trans (hb3.mono HB2.out.size))
              clear hb3
              go_wp2_with fail
              refine (HF.out _).mono ?_
              rintro e w4 ⟨uf, rfl, ho4, hb4⟩
              have HOuf := hid ho4
              have HBx4 := hid hb4
              have HB4 := hid (HB3.out.trans (hb4.mono HB3.out.size))
              clear ho4 hb4
              go_wp2_with fail
              refine (HC.out _).mono ?_
              rintro e w5 ⟨rfl, hb5⟩
              have HB5 := hid (HB4.out.trans (hb5.mono HB4.out.size))
              clear hb5
              have HBF := hid (HB5.out.alloc HB5.out.size (.cells #[.int .i64 1, .int .i64 1, .int .i64 1, .int .i64 (-(c : Int))] 3))
              have HY5 := hid (Below.refl (w5.alloc (.cells #[.int .i64 1, .int .i64 1, .int .i64 1, .int .i64 (-(c : Int))] 3)).heap.size (w5.alloc (.cells #[.int .i64 1, .int .i64 1, .int .i64 1, .int .i64 (-(c : Int))] 3)))
              have HVW := hid (formValidP_any (.slice (some ⟨w5.heap.size, 0, none⟩) 4 4) [1, 1, 1, q] (w5.alloc (.cells #[.int .i64 1, .int .i64 1, .int .i64 1, .int .i64 (-(c : Int))] 3)) (by have h9 := HY5.out; rw [HQ.out] at h9 ⊢; exact (world_row9 w5 #[.int .i64 1, .int .i64 1, .int .i64 1, .int .i64 q] [1, 1, 1, q] rfl (by simp)).rd.keep h9))
              rw [← HFV.out] at HVW
              go_wp2_with fail
              refine HVW.out.mono ?_
              rintro e w' ⟨rfl, rfl⟩
              go_wp2
              go_ret
              exact ⟨rfl, HBF.out⟩
              all_goals trivial
            · obtain rfl := H2.resolve_left hb
              go_wp2_with fail
              refine (HI.out _).mono ?_
              rintro e w2 ⟨rfl, hb2⟩
              have HB2 := hid (HB1.out.trans (hb2.mono HB1.out.size))
              clear hb2
              go_wp2_with fail
              refine (HS.out _).mono ?_
              rintro e w3 ⟨rfl, hb3⟩
              have HB3 := hid (HB2.out.trans (hb3.mono HB2.out.size))
              clear hb3
              go_wp2_with fail
              refine (HF.out _).mono ?_
              rintro e w4 ⟨uf, rfl, ho4, hb4⟩
              have HOuf := hid ho4
              have HBx4 := hid hb4
              have HB4 := hid (HB3.out.trans (hb4.mono HB3.out.size))
              clear ho4 hb4
              go_wp2_with fail
              refine (HC.out _).mono ?_
              rintro e w5 ⟨rfl, hb5⟩
              have HB5 := hid (HB4.out.trans (hb5.mono HB4.out.size))
              clear hb5
              have HBF := hid (HB5.out.alloc HB5.out.size (.cells #[.int .i64 1, .int .i64 1, .int .i64 1, .int .i64 (-(c : Int))] 3))
              have HY5 := hid (Below.refl (w5.alloc (.cells #[.int .i64 1, .int .i64 1, .int .i64 1, .int .i64 (-(c : Int))] 3)).heap.size (w5.alloc (.cells #[.int .i64 1, .int .i64 1, .int .i64 1, .int .i64 (-(c : Int))] 3)))
              go_wp2_with fail
              refine (HD.out _).mono ?_
              rintro e w7 ⟨rfl, hb7⟩
              have HY7 := hid (HY5.out.trans (hb7.mono HY5.out.size))
              have HB7 := hid (HBF.out.trans (hb7.mono HBF.out.size))
              clear hb7
              have HVW := hid (formValidP_any (.slice (some ⟨w5.heap.size, 0, none⟩) 4 4) [1, 1, 1, q] w7 (by have h9 := HY7.out; rw [HQ.out] at h9; exact (world_row9 w5 #[.int .i64 1, .int .i64 1, .int .i64 1, .int .i64 q] [1, 1, 1, q] rfl (by simp)).rd.keep h9))
              rw [← HFV.out] at HVW
              go_wp2_with fail
              refine HVW.out.mono ?_
              rintro e w' ⟨rfl, rfl⟩
              go_wp2
              go_ret
              exact ⟨rfl, HB7.out⟩
              all_goals trivial
          | true =>
            have HB9 : Hid (fvanV [1, 1, 1, q] 2 = true) := hid (by first | exact HB9.out rfl | exact HB9.out trivial)
            by_cases hb : (2000 : Int) < 4 * (N : Int)
            · skip
              go_wp2_with fail
              refine (HI.out _).mono ?_
              rintro e w2 ⟨rfl, hb2⟩
              have HB2 := hid (HB1.out.trans (hb2.mono HB1.out.size))
              clear hb2
              go_wp2_with fail
              refine (HS.out _).mono ?_
              rintro e w3 ⟨rfl, hb3⟩
              have HB3 := hid (HB2.out.trans (hb3.mono HB2.out.size))
              clear hb3
              go_wp2_with fail
              refine (HF.out _).mono ?_
              rintro e w4 ⟨uf, rfl, ho4, hb4⟩
              have HOuf := hid ho4
              have HBx4 := hid hb4
              have HB4 := hid (HB3.out.trans (hb4.mono HB3.out.size))
              clear ho4 hb4
              go_wp2_with fail
              refine (HC.out _).mono ?_
              rintro e w5 ⟨rfl, hb5⟩
              have HB5 := hid (HB4.out.trans (hb5.mono HB4.out.size))
              clear hb5
              have HBF := hid (HB5.out.alloc HB5.out.size (.cells #[.int .i64 1, .int .i64 1, .int .i64 1, .int .i64 (-(c : Int))] 3))
              have HY5 := hid (Below.refl (w5.alloc (.cells #[.int .i64 1, .int .i64 1, .int .i64 1, .int .i64 (-(c : Int))] 3)).heap.size (w5.alloc (.cells #[.int .i64 1, .int .i64 1, .int .i64 1, .int .i64 (-(c : Int))] 3)))
              have HVW := hid (formValidP_any (.slice (some ⟨w5.heap.size, 0, none⟩) 4 4) [1, 1, 1, q] (w5.alloc (.cells #[.int .i64 1, .int .i64 1, .int .i64 1, .int .i64 (-(c : Int))] 3)) (by have h9 := HY5.out; rw [HQ.out] at h9 ⊢; exact (world_row9 w5 #[.int .i64 1, .int .i64 1, .int .i64 1, .int .i64 q] [1, 1, 1, q] rfl (by simp)).rd.keep h9))
              rw [← HFV.out] at HVW
              go_wp2_with fail
              refine HVW.out.mono ?_
              rintro e w' ⟨rfl, rfl⟩
              go_wp2_with fail
              refine (HX.out w5 (w5.alloc (.cells #[.int .i64 1, .int .i64 1, .int .i64 1, .int .i64 (-(c : Int))] 3)) HY5.out).mono ?_
              rw [HB9.out]
              rintro e w9 ⟨rfl, hb9⟩
              have HBZ := hid (HBF.out.trans (hb9.mono HBF.out.size))
              clear hb9
              go_wp2
              go_ret
              exact ⟨rfl, HBZ.out⟩
              all_goals trivial
            · obtain rfl := H2.resolve_left hb
              go_wp2_with fail
              refine (HI.out _).mono ?_
              rintro e w2 ⟨rfl, hb2⟩
              have HB2 := hid (HB1.out.trans (hb2.mono HB1.out.size))
              clear hb2
              go_wp2_with fail
              refine (HS.out _).mono ?_
              rintro e w3 ⟨rfl, hb3⟩
              have HB3 := hid (HB2.out.trans (hb3.mono HB2.out.size))
              clear hb3
              go_wp2_with fail
              refine (HF.out _).mono ?_
              rintro e w4 ⟨uf, rfl, ho4, hb4⟩
              have HOuf := hid ho4
              have HBx4 := hid hb4
              have HB4 := hid (HB3.out.trans (hb4.mono HB3.out.size))
              clear ho4 hb4
              go_wp2_with fail
              refine (HC.out _).mono ?_
              rintro e w5 ⟨rfl, hb5⟩
              have HB5 := hid (HB4.out.trans (hb5.mono HB4.out.size))
              clear hb5
              have HBF := hid (HB5.out.alloc HB5.out.size (.cells #[.int .i64 1, .int .i64 1, .int .i64 1, .int .i64 (-(c : Int))] 3))
              have HY5 := hid (Below.refl (w5.alloc (.cells #[.int .i64 1, .int .i64 1, .int .i64 1, .int .i64 (-(c : Int))] 3)).heap.size (w5.alloc (.cells #[.int .i64 1, .int .i64 1, .int .i64 1, .int .i64 (-(c : Int))] 3)))
              go_wp2_with fail
              refine (HD.out _).mono ?_
              rintro e w7 ⟨rfl, hb7⟩
              have HY7 := hid (HY5.out.trans (hb7.mono HY5.out.size))
              have HB7 := hid (HBF.out.trans (hb7.mono HBF.out.size))
              clear hb7
              have HVW := hid (formValidP_any (.slice (some ⟨w5.heap.size, 0, none⟩) 4 4) [1, 1, 1, q] w7 (by have h9 := HY7.out; rw [HQ.out] at h9; exact (world_row9 w5 #[.int .i64 1, .int .i64 1, .int .i64 1, .int .i64 q] [1, 1, 1, q] rfl (by simp)).rd.keep h9))
              rw [← HFV.out] at HVW
              go_wp2_with fail
              refine HVW.out.mono ?_
              rintro e w' ⟨rfl, rfl⟩
              go_wp2_with fail
              refine (HX.out w5 w7 HY7.out).mono ?_
              rw [HB9.out]
              rintro e w9 ⟨rfl, hb9⟩
              have HBZ := hid (HB7.out.trans (hb9.mono HB7.out.size))
              clear hb9
              go_wp2
              go_ret
              exact ⟨rfl, HBZ.out⟩
              all_goals trivial
    · have HI := hid (fun w => threeIs_any n w)
      have HS := hid (fun w => threeIsS_any n w)
      rw [ht] at HI HS
      clear ht hn
      go_wp2_with fail
      refine (HI.out _).mono ?_
      rintro e w2 ⟨rfl, hb2⟩
      have HB2 := hid (HB1.out.trans (hb2.mono HB1.out.size))
      clear hb2
      go_wp2_with fail
      refine (HS.out _).mono ?_
      rintro e w3 ⟨rfl, hb3⟩
      have HB3 := hid (HB2.out.trans (hb3.mono HB2.out.size))
      clear hb3
      go_wp2
      all_goals (go_ret; exact ⟨rfl, HB3.out⟩)
theorem own : ownKnob Try.prog.godebug = none := by kernel_rfl
theorem laidOut : laidOutB Try.prog = true := by kernel_rfl
set_option maxRecDepth 100000 in
theorem lifted (os : Os) (started : os.Started) (H : Type) (enc : TypeId × Value → H) :
    ReturnsInHanded {} Try.checked os 6 .any (Rows.fnThreeIsSpec.pre6 enc Try.prog Try.f6 Rows.fnThreeIsRow.domain false) (Rows.fnThreeIsSpec.post enc Try.prog Try.f6 false true false false) := by
  refine returnsInHanded_of_change (C := Try.checked) own started (by kernel_rfl) Try.func6
    (ChangeSpec.witness6 (enc := enc) (C := Try.checked) false ⟨#[], #[.slice none 0 0], []⟩ 8 (by kernel_rfl) (by kernel_rfl) (by kernel_rfl) (by kernel_rfl)) ?_
  intro W base args ds gs before hval0 hW hcnd _
  have hval : ∀ (j : Nat) t v, Try.f6.params[j]? = some t → args[j]? = some v → Value.okWide Try.prog W .any base t v := hval0
  have hW' := hW
  obtain ⟨p, q, hA0, hV, rfl, hfz, hnd⟩ := hW
  have hA : DataW.TrodAll enc Try.prog W 0 (fun _ => true) true Try.f6.params.toList args.toList ds p := hA0
  rw [Try.params6] at hA hval
  obtain ⟨v0, vs0, d0, ds0, p0, q0, hargs, rfl, rfl, h0, r0⟩ := trodAll_cons hA
  obtain ⟨rfl, rfl, rfl⟩ := trodAll_nil r0
  obtain rfl : args = #[v0] := by cases args; simp_all
  obtain ⟨rfl, rfl⟩ := trodVars_none hV
  obtain ⟨a0, len0, cap0, rfl⟩ := okWide_slice Try.underlying22 (hval 0 22 v0 rfl rfl)
  have k0 := h0
  have lt0 : ∀ x ∈ p0, x.block < W.heap.size := by obtain ⟨m, hm⟩ := k0; exact DataW.trod_lt m _ _ _ hm
  obtain ⟨z0, w0⟩ : ∃ zs, IsRow .u8 W a0 len0 cap0 zs := by
    obtain ⟨fuel, hf⟩ := h0
    rcases open_ints Try.underlying22 Try.underlying5 (by kernel_rfl) hf with ⟨hcs, _⟩ | ⟨x, l, c, zs, hcs, _, hl, hm, hz, _, hcell, hwz⟩
    · simp [Value.cells] at hcs
      obtain ⟨rfl, rfl, rfl⟩ := hcs
      exact ⟨[], .inl ⟨rfl, rfl, rfl, rfl⟩⟩
    · simp [Value.cells] at hcs
      obtain ⟨rfl, rfl, rfl⟩ := hcs
      exact ⟨zs, .inr ⟨_, rfl, hl, hm, by simpa using hz, hcell, hwz⟩⟩
  clear hA0 hval0
  refine (walk a0 len0 cap0 z0 W w0).mono fun e W' ⟨he, bel⟩ => ?_
  subst he
  exact ⟨_, rfl, _, _, _, [], _, [], hW', trodAll_mk1 (shut_bool Try.underlying4 _), (trodAll_cons_mk (Below.trod laidOut (by kernel_rfl) (of_decide_eq_true (by kernel_rfl)) k0 bel lt0) trodAll_mk0), rfl, bel.frame _, fun h => by cases h⟩
theorem over : Rows.fnThreeIsRow.holds Try.pinned (OpenSpec.ofChange Rows.fnThreeIsSpec) :=
  OpenClaim.holds_of_wide 6 Try.f6 rfl rfl rfl rfl rfl rfl rfl ⟨rfl, rfl, rfl, rfl, rfl⟩ rfl rfl rfl rfl rfl (by kernel_rfl) Try.func6 (by kernel_rfl)
    (of_decide_eq_true (by kernel_rfl)) (by unfold Func.isWrapper; first | (rw [if_pos (by decide +kernel)]; kernel_rfl) | (rw [if_neg (by decide +kernel)]; exact ⟨rfl, rfl⟩))
    (fun os started H enc _ => lifted os started H enc)
theorem proved : Rows.FnThreeIsSaid := over
end Go.Proofs.Ytdclmjmefkgbbab.fnThreeIs
