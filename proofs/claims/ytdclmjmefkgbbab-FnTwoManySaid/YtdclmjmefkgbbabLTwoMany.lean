/-
  Proves: for every code: the ways of two squares told by divisors are those counted one by one, there are some exactly for sums of two squares, and as many for twice the number.
  Conditions: none beyond the given statement's own.
-/
import Derived.Test.YtdclmjmefkgbbabRows
import Derived.Test.YtdclmjmefkgbbabSuC2
import Derived.Test.YtdclmjmefkgbbabQBun15
import Derived.Test.YtdclmjmefkgbbabSuK
import Derived.Test.YtdclmjmefkgbbabQBun17
import Derived.Test.YtdclmjmefkgbbabDraws24
import Derived.Test.YtdclmjmefkgbbabQRowWord
import Derived.ProofKit
import Derived.OpenShut
import Derived.ShutString
import Derived.ChangeOld
namespace Go.Proofs.Ytdclmjmefkgbbab.fnTwoMany
open Go.ChangeShapes Go.WideShapes Go.ChangeAt Go.RowKit
open Go.ChangeMaps (open_string shut_string)
set_option linter.unusedVariables false
theorem many_cases {n : Int} (h : DrawnS n) : sum1 n = false ∨ ∃ N : Nat, n = (N : Int) ∧ sum1 n = true ∧ 1 ≤ N ∧ (N < 495 ∨ N = 2000) := by
  rcases sum1_cases n with ⟨a, b, c⟩ | ⟨_, c⟩ | ⟨_, _, c⟩
  · obtain ⟨N, rfl⟩ := Int.eq_ofNat_of_zero_le (show 0 ≤ n by omega)
    exact .inr ⟨N, rfl, c, by omega, by unfold DrawnS at h; omega⟩
  · exact .inl c
  · exact .inl c
theorem sum1_sumB {n : Int} (h : sum1 n = true) : sumB n = true := by
  rcases sum1_cases n with ⟨a, b, _⟩ | ⟨_, c⟩ | ⟨_, _, c⟩
  · unfold sumB inR; simp; omega
  · rw [h] at c; cases c
  · rw [h] at c; cases c

set_option maxRecDepth 100000 in
set_option maxHeartbeats 4000000 in
theorem walk (a0 : Option Addr) (len0 cap0 : Nat) (z0 : List Int) (w : World) (w0 : IsRow .u8 w a0 len0 cap0 z0) :
    Calls Try.prog 5 #[.slice a0 len0 cap0] w fun e w' => e = .returned (.bool true) ∧ Below w.heap.size w w' := by
  have HC := hid (codeIn_of w0)
  clear w0
  by_cases hl : (1048576 : Int) < (len0 : Int)
  · go_enter Try.func5, Try.ntmps5
    go_wp2
    go_ret
    exact ⟨rfl, Below.refl _ _⟩
  · go_enter Try.func5, Try.ntmps5
    go_wp2_with fail
    refine (drawTwoMany_any _ len0 _ HC.out).mono ?_
    rintro e w1 ⟨n, rfl, hn, hb⟩
    have HB1 := hid hb
    clear hb HC
    rcases many_cases hn with h | ⟨N, rfl, h, h1, hN⟩
    · have HI := hid (fun w => twoMany_any n w)
      have HS := hid (fun w => twoManyS_any n w)
      rw [twoMany_no h] at HI HS
      clear h hn
      go_wp2_with fail
      refine (HI.out _).mono ?_
      rintro e w2 ⟨rfl, hb2⟩
      have HB2 := hid (HB1.out.trans (hb2.mono HB1.out.size))
      clear hb2
      go_wp2_with fail
      refine (HS.out _).mono ?_
      rintro e w3 ⟨rfl, hb3⟩
      have HB3 := hid (HB2.out.trans (hb3.mono HB2.out.size))
      clear hb3
      go_wp2
      all_goals (go_ret; exact ⟨rfl, HB3.out⟩)
    · obtain ⟨k1, k2⟩ := many_kernel hN (by omega)
      have HI := hid (fun w => twoMany_any (N : Int) w)
      have HS := hid (fun w => twoManyS_any (N : Int) w)
      have HE := hid (fun w => twoEach_any (N : Int) w)
      have HT := hid (fun w => twoIs_any (N : Int) w)
      have H2 := hid (fun w => twoMany_any (2 * (N : Int)) w)
      rw [twoMany_yes h] at HI HS
      rw [twoEach_yes (sum1_sumB h), ← k1] at HE
      rw [← k2] at HT
      have hb := div2_bd (N := N) (D := N + 1) (by omega) (by omega)
      rw [Nat.add_sub_cancel] at hb
      have hp : 0 ≤ divS g2 N N := by
        have := (twoW_bd (n := (N : Int)) (by omega)).1
        omega
      have H22 : Hid ((2000 : Int) < 2 * (N : Int) ∨ twoManyV (2 * (N : Int)) = 4 * divS g2 N N) := hid (by
        by_cases hb : (2000 : Int) < 2 * (N : Int)
        · exact .inl hb
        · right
          rw [show 2 * (N : Int) = ((2 * N : Nat) : Int) by push_cast; rfl, twoMany_yes (by unfold sum1 inR; simp; omega), many_twice h1])
      obtain ⟨y, hy⟩ : ∃ y, y = twoManyV (2 * (N : Int)) := ⟨_, rfl⟩
      rw [← hy] at H2 H22
      generalize divS g2 N N = x at *
      have hN1 : 1 ≤ N := h1
      have hN2 : N ≤ 2000 := by omega
      clear k1 k2 h hN hy hn h1
      have T3 : decide (0 < x) = decide (0 < 4 * x) := by
        rw [Bool.eq_iff_iff, decide_eq_true_eq, decide_eq_true_eq]; omega
      rw [T3] at HT
      obtain ⟨z, hz⟩ : ∃ z, z = 4 * x := ⟨_, rfl⟩
      have hz0 : 0 ≤ z := by omega
      have hz1 : z ≤ 8004 := by omega
      rw [← hz] at HI HS HE HT H22
      have HX2 : Hid ((y == z) = true ∨ (2000 : Int) < 2 * (N : Int)) := hid (by
        rcases H22.out with h | h
        · exact .inr h
        · exact .inl (by rw [h]; simp))
      have T1 : (z == z) = true := by simp
      have T0 : (z != z) = false := by simp
      clear T3 H22 hz hb hp
      rcases Int.lt_or_le 0 z with hx | hx
      · rw [decide_eq_true hx] at HT
        have hn0 : ¬ z < 0 := by omega
        rcases HX2.out with hy | hy
        · skip
          go_wp2_with fail
          refine (HI.out _).mono ?_
          rintro e w2 ⟨rfl, hb2⟩
          have HB2 := hid (HB1.out.trans (hb2.mono HB1.out.size))
          clear hb2
          go_wp2_with fail
          refine (HS.out _).mono ?_
          rintro e w3 ⟨rfl, hb3⟩
          have HB3 := hid (HB2.out.trans (hb3.mono HB2.out.size))
          clear hb3
          go_wp2_with fail
          refine (H2.out _).mono ?_
          rintro e w4 ⟨rfl, hb4⟩
          have HB4 := hid (HB3.out.trans (hb4.mono HB3.out.size))
          clear hb4
          go_wp2_with fail
          refine (HE.out _).mono ?_
          rintro e w5 ⟨rfl, hb5⟩
          have HB5 := hid (HB4.out.trans (hb5.mono HB4.out.size))
          clear hb5
          go_wp2_with fail
          refine (HT.out _).mono ?_
          rintro e w6 ⟨rfl, hb6⟩
          have HB6 := hid (HB5.out.trans (hb6.mono HB5.out.size))
          clear hb6
          go_wp2
          all_goals (go_ret; exact ⟨rfl, HB6.out⟩)
        · skip
          go_wp2_with fail
          refine (HI.out _).mono ?_
          rintro e w2 ⟨rfl, hb2⟩
          have HB2 := hid (HB1.out.trans (hb2.mono HB1.out.size))
          clear hb2
          go_wp2_with fail
          refine (HS.out _).mono ?_
          rintro e w3 ⟨rfl, hb3⟩
          have HB3 := hid (HB2.out.trans (hb3.mono HB2.out.size))
          clear hb3
          go_wp2_with fail
          refine (H2.out _).mono ?_
          rintro e w4 ⟨rfl, hb4⟩
          have HB4 := hid (HB3.out.trans (hb4.mono HB3.out.size))
          clear hb4
          go_wp2_with fail
          refine (HE.out _).mono ?_
          rintro e w5 ⟨rfl, hb5⟩
          have HB5 := hid (HB4.out.trans (hb5.mono HB4.out.size))
          clear hb5
          go_wp2_with fail
          refine (HT.out _).mono ?_
          rintro e w6 ⟨rfl, hb6⟩
          have HB6 := hid (HB5.out.trans (hb6.mono HB5.out.size))
          clear hb6
          go_wp2
          all_goals (go_ret; exact ⟨rfl, HB6.out⟩)
      · obtain rfl : z = 0 := by omega
        rw [show decide ((0 : Int) < 0) = false from rfl] at HT
        rcases HX2.out with hy | hy
        · skip
          go_wp2_with fail
          refine (HI.out _).mono ?_
          rintro e w2 ⟨rfl, hb2⟩
          have HB2 := hid (HB1.out.trans (hb2.mono HB1.out.size))
          clear hb2
          go_wp2_with fail
          refine (HS.out _).mono ?_
          rintro e w3 ⟨rfl, hb3⟩
          have HB3 := hid (HB2.out.trans (hb3.mono HB2.out.size))
          clear hb3
          go_wp2_with fail
          refine (H2.out _).mono ?_
          rintro e w4 ⟨rfl, hb4⟩
          have HB4 := hid (HB3.out.trans (hb4.mono HB3.out.size))
          clear hb4
          go_wp2_with fail
          refine (HE.out _).mono ?_
          rintro e w5 ⟨rfl, hb5⟩
          have HB5 := hid (HB4.out.trans (hb5.mono HB4.out.size))
          clear hb5
          go_wp2_with fail
          refine (HT.out _).mono ?_
          rintro e w6 ⟨rfl, hb6⟩
          have HB6 := hid (HB5.out.trans (hb6.mono HB5.out.size))
          clear hb6
          go_wp2
          all_goals (go_ret; exact ⟨rfl, HB6.out⟩)
        · skip
          go_wp2_with fail
          refine (HI.out _).mono ?_
          rintro e w2 ⟨rfl, hb2⟩
          have HB2 := hid (HB1.out.trans (hb2.mono HB1.out.size))
          clear hb2
          go_wp2_with fail
          refine (HS.out _).mono ?_
          rintro e w3 ⟨rfl, hb3⟩
          have HB3 := hid (HB2.out.trans (hb3.mono HB2.out.size))
          clear hb3
          go_wp2_with fail
          refine (H2.out _).mono ?_
          rintro e w4 ⟨rfl, hb4⟩
          have HB4 := hid (HB3.out.trans (hb4.mono HB3.out.size))
          clear hb4
          go_wp2_with fail
          refine (HE.out _).mono ?_
          rintro e w5 ⟨rfl, hb5⟩
          have HB5 := hid (HB4.out.trans (hb5.mono HB4.out.size))
          clear hb5
          go_wp2_with fail
          refine (HT.out _).mono ?_
          rintro e w6 ⟨rfl, hb6⟩
          have HB6 := hid (HB5.out.trans (hb6.mono HB5.out.size))
          clear hb6
          go_wp2
          all_goals (go_ret; exact ⟨rfl, HB6.out⟩)
theorem own : ownKnob Try.prog.godebug = none := by kernel_rfl
theorem laidOut : laidOutB Try.prog = true := by kernel_rfl
set_option maxRecDepth 100000 in
theorem lifted (os : Os) (started : os.Started) (H : Type) (enc : TypeId × Value → H) :
    ReturnsInHanded {} Try.checked os 5 .any (Rows.fnTwoManySpec.pre6 enc Try.prog Try.f5 Rows.fnTwoManyRow.domain false) (Rows.fnTwoManySpec.post enc Try.prog Try.f5 false true false false) := by
  refine returnsInHanded_of_change (C := Try.checked) own started (by kernel_rfl) Try.func5
    (ChangeSpec.witness6 (enc := enc) (C := Try.checked) false ⟨#[], #[.slice none 0 0], []⟩ 8 (by kernel_rfl) (by kernel_rfl) (by kernel_rfl) (by kernel_rfl)) ?_
  intro W base args ds gs before hval0 hW hcnd _
  have hval : ∀ (j : Nat) t v, Try.f5.params[j]? = some t → args[j]? = some v → Value.okWide Try.prog W .any base t v := hval0
  have hW' := hW
  obtain ⟨p, q, hA0, hV, rfl, hfz, hnd⟩ := hW
  have hA : DataW.TrodAll enc Try.prog W 0 (fun _ => true) true Try.f5.params.toList args.toList ds p := hA0
  rw [Try.params5] at hA hval
  obtain ⟨v0, vs0, d0, ds0, p0, q0, hargs, rfl, rfl, h0, r0⟩ := trodAll_cons hA
  obtain ⟨rfl, rfl, rfl⟩ := trodAll_nil r0
  obtain rfl : args = #[v0] := by cases args; simp_all
  obtain ⟨rfl, rfl⟩ := trodVars_none hV
  obtain ⟨a0, len0, cap0, rfl⟩ := okWide_slice Try.underlying22 (hval 0 22 v0 rfl rfl)
  have k0 := h0
  have lt0 : ∀ x ∈ p0, x.block < W.heap.size := by obtain ⟨m, hm⟩ := k0; exact DataW.trod_lt m _ _ _ hm
  obtain ⟨z0, w0⟩ : ∃ zs, IsRow .u8 W a0 len0 cap0 zs := by
    obtain ⟨fuel, hf⟩ := h0
    rcases open_ints Try.underlying22 Try.underlying5 (by kernel_rfl) hf with ⟨hcs, _⟩ | ⟨x, l, c, zs, hcs, _, hl, hm, hz, _, hcell, hwz⟩
    · simp [Value.cells] at hcs
      obtain ⟨rfl, rfl, rfl⟩ := hcs
      exact ⟨[], .inl ⟨rfl, rfl, rfl, rfl⟩⟩
    · simp [Value.cells] at hcs
      obtain ⟨rfl, rfl, rfl⟩ := hcs
      exact ⟨zs, .inr ⟨_, rfl, hl, hm, by simpa using hz, hcell, hwz⟩⟩
  clear hA0 hval0
  refine (walk a0 len0 cap0 z0 W w0).mono fun e W' ⟨he, bel⟩ => ?_
  subst he
  exact ⟨_, rfl, _, _, _, [], _, [], hW', trodAll_mk1 (shut_bool Try.underlying4 _), (trodAll_cons_mk (Below.trod laidOut (by kernel_rfl) (of_decide_eq_true (by kernel_rfl)) k0 bel lt0) trodAll_mk0), rfl, bel.frame _, fun h => by cases h⟩
theorem over : Rows.fnTwoManyRow.holds Try.pinned (OpenSpec.ofChange Rows.fnTwoManySpec) :=
  OpenClaim.holds_of_wide 5 Try.f5 rfl rfl rfl rfl rfl rfl rfl ⟨rfl, rfl, rfl, rfl, rfl⟩ rfl rfl rfl rfl rfl (by kernel_rfl) Try.func5 (by kernel_rfl)
    (of_decide_eq_true (by kernel_rfl)) (by unfold Func.isWrapper; first | (rw [if_pos (by decide +kernel)]; kernel_rfl) | (rw [if_neg (by decide +kernel)]; exact ⟨rfl, rfl⟩))
    (fun os started H enc _ => lifted os started H enc)
theorem proved : Rows.FnTwoManySaid := over
end Go.Proofs.Ytdclmjmefkgbbab.fnTwoMany
