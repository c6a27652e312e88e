/-
  Proves: for every code: the ways of four squares told by divisors are those added up, at least eight, and three times as many for twice and four times an odd number.
  Conditions: none beyond the given statement's own.
-/
import Derived.Test.YtdclmjmefkgbbabRows
import Derived.Test.YtdclmjmefkgbbabSuC2
import Derived.Test.YtdclmjmefkgbbabQBun15
import Derived.Test.YtdclmjmefkgbbabSuK
import Derived.Test.YtdclmjmefkgbbabDraws24
import Derived.Test.YtdclmjmefkgbbabQRowWord
import Derived.ProofKit
import Derived.OpenShut
import Derived.ShutString
import Derived.ChangeOld
namespace Go.Proofs.Ytdclmjmefkgbbab.fnFourMany
open Go.ChangeShapes Go.WideShapes Go.ChangeAt Go.RowKit
open Go.ChangeMaps (open_string shut_string)
set_option linter.unusedVariables false
theorem many_cases {n : Int} (h : DrawnS n) : sum1 n = false ∨ ∃ N : Nat, n = (N : Int) ∧ sum1 n = true ∧ 1 ≤ N ∧ (N < 495 ∨ N = 2000) := by
  rcases sum1_cases n with ⟨a, b, c⟩ | ⟨_, c⟩ | ⟨_, _, c⟩
  · obtain ⟨N, rfl⟩ := Int.eq_ofNat_of_zero_le (show 0 ≤ n by omega)
    exact .inr ⟨N, rfl, c, by omega, by unfold DrawnS at h; omega⟩
  · exact .inl c
  · exact .inl c
theorem sum1_sumB {n : Int} (h : sum1 n = true) : sumB n = true := by
  rcases sum1_cases n with ⟨a, b, _⟩ | ⟨_, c⟩ | ⟨_, _, c⟩
  · unfold sumB inR; simp; omega
  · rw [h] at c; cases c
  · rw [h] at c; cases c
theorem each_cases (n : Int) : inR n 0 300 = false ∨ ∃ N : Nat, n = (N : Int) ∧ inR n 0 300 = true ∧ N ≤ 300 := by
  rcases inR_cases n 0 300 with ⟨a, b, c⟩ | ⟨_, c⟩ | ⟨_, _, c⟩
  · obtain ⟨N, rfl⟩ := Int.eq_ofNat_of_zero_le a
    exact .inr ⟨N, rfl, c, by omega⟩
  · exact .inl c
  · exact .inl c

set_option maxRecDepth 100000 in
set_option maxHeartbeats 4000000 in
theorem walk (a0 : Option Addr) (len0 cap0 : Nat) (z0 : List Int) (w : World) (w0 : IsRow .u8 w a0 len0 cap0 z0) :
    Calls Try.prog 8 #[.slice a0 len0 cap0] w fun e w' => e = .returned (.bool true) ∧ Below w.heap.size w w' := by
  have HC := hid (codeIn_of w0)
  clear w0
  by_cases hl : (1048576 : Int) < (len0 : Int)
  · go_enter Try.func8, Try.ntmps8
    go_wp2
    go_ret
    exact ⟨rfl, Below.refl _ _⟩
  · go_enter Try.func8, Try.ntmps8
    go_wp2_with fail
    refine (drawFourMany_any _ len0 _ HC.out).mono ?_
    rintro e w1 ⟨n, rfl, hn, hb⟩
    have HB1 := hid hb
    clear hb HC
    rcases many_cases hn with h | ⟨N, rfl, h, h1, hN⟩
    · have HI := hid (fun w => fourMany_any n w)
      have HS := hid (fun w => fourManyS_any n w)
      rw [fourMany_no h] at HI HS
      clear h hn
      go_wp2_with fail
      refine (HI.out _).mono ?_
      rintro e w2 ⟨rfl, hb2⟩
      have HB2 := hid (HB1.out.trans (hb2.mono HB1.out.size))
      clear hb2
      go_wp2_with fail
      refine (HS.out _).mono ?_
      rintro e w3 ⟨rfl, hb3⟩
      have HB3 := hid (HB2.out.trans (hb3.mono HB2.out.size))
      clear hb3
      go_wp2
      all_goals (go_ret; exact ⟨rfl, HB3.out⟩)
    · have HI := hid (fun w => fourMany_any (N : Int) w)
      have HS := hid (fun w => fourManyS_any (N : Int) w)
      have HE := hid (fun w => fourEach_any (N : Int) w)
      have H2 := hid (fun w => fourMany_any (2 * (N : Int)) w)
      have H4 := hid (fun w => fourMany_any (4 * (N : Int)) w)
      rw [fourMany_yes h] at HI HS
      have hb := div4_bd (N := N) (D := N + 1) (by omega) (by omega)
      rw [Nat.add_sub_cancel] at hb
      have hp := div_pos4 h1 N h1 (by omega)
      have E1 : fourEachV (N : Int) = -1 ∨ fourEachV (N : Int) = 8 * divS g4 N N := by
        rcases each_cases (N : Int) with h | ⟨M, e, h, hM⟩
        · exact .inl (fourE_no h)
        · have : M = N := by omega
          subst this
          right
          rw [fourE_yes h, (four_each hM).1, if_neg (by omega)]
      have E2 : ∀ c : Nat, c = 2 ∨ c = 4 → N % 2 = 1 → fourManyV ((c : Int) * (N : Int)) = -1 ∨ fourManyV ((c : Int) * (N : Int)) = 3 * (8 * divS g4 N N) := fun c hc ho => by
        cases hs : sum1 ((c : Int) * (N : Int)) with
        | false => exact .inl (fourMany_no hs)
        | true =>
          right
          have e : ((c : Int) * (N : Int)) = ((c * N : Nat) : Int) := by push_cast; rfl
          rw [e] at hs ⊢
          rw [fourMany_yes hs, four_odd ho hc]
          omega
      obtain ⟨x, hx⟩ : ∃ x, x = 8 * divS g4 N N := ⟨_, rfl⟩
      have hx1 : 8 ≤ x := by omega
      have hx2 : x ≤ 32000000 := by omega
      rw [← hx] at HI HS E1
      have F2 := E2 2 (.inl rfl)
      have F4 := E2 4 (.inr rfl)
      rw [← hx] at F2 F4
      simp only [Int.cast_ofNat_Int] at F2 F4
      generalize fourEachV (N : Int) = u at *
      generalize fourManyV (2 * (N : Int)) = v at *
      generalize fourManyV (4 * (N : Int)) = y at *
      have hN2 : N ≤ 2000 := by omega
      have TX : (x != x) = false := by simp
      have TXX : (x == x) = true := by simp
      have TM : (x == -1) = false := by rw [beq_eq_false_iff_ne]; omega
      have T3 : (3 * x == 3 * x) = true := by simp
      have T3M : (3 * x == -1) = false := by rw [beq_eq_false_iff_ne]; omega
      clear E2 hx hb hp h h1 hn hN
      by_cases ho : N % 2 = 1
      · have TO : ((N : Int) % 2 == 0) = false := by rw [beq_eq_false_iff_ne]; omega
        have G2 := F2 ho
        have G4 := F4 ho
        clear F2 F4 ho
        rcases E1 with rfl | rfl <;> rcases G2 with rfl | rfl <;> rcases G4 with rfl | rfl
        all_goals
          go_wp2_with fail
          refine (HI.out _).mono ?_
          rintro e w2 ⟨rfl, hb2⟩
          have HB2 := hid (HB1.out.trans (hb2.mono HB1.out.size))
          clear hb2
          go_wp2_with fail
          refine (HS.out _).mono ?_
          rintro e w3 ⟨rfl, hb3⟩
          have HB3 := hid (HB2.out.trans (hb3.mono HB2.out.size))
          clear hb3
          go_wp2_with fail
          refine (HE.out _).mono ?_
          rintro e w4 ⟨rfl, hb4⟩
          have HB4 := hid (HB3.out.trans (hb4.mono HB3.out.size))
          clear hb4
          go_wp2_with fail
          refine (H2.out _).mono ?_
          rintro e w5 ⟨rfl, hb5⟩
          have HB5 := hid (HB4.out.trans (hb5.mono HB4.out.size))
          clear hb5
          go_wp2_with fail
          refine (H4.out _).mono ?_
          rintro e w6 ⟨rfl, hb6⟩
          have HB6 := hid (HB5.out.trans (hb6.mono HB5.out.size))
          clear hb6
          go_wp2
          all_goals (go_ret; exact ⟨rfl, HB6.out⟩)
      · have TO : ((N : Int) % 2 == 0) = true := by rw [beq_iff_eq]; omega
        clear F2 F4 ho
        rcases E1 with rfl | rfl
        all_goals
          go_wp2_with fail
          refine (HI.out _).mono ?_
          rintro e w2 ⟨rfl, hb2⟩
          have HB2 := hid (HB1.out.trans (hb2.mono HB1.out.size))
          clear hb2
          go_wp2_with fail
          refine (HS.out _).mono ?_
          rintro e w3 ⟨rfl, hb3⟩
          have HB3 := hid (HB2.out.trans (hb3.mono HB2.out.size))
          clear hb3
          go_wp2_with fail
          refine (HE.out _).mono ?_
          rintro e w4 ⟨rfl, hb4⟩
          have HB4 := hid (HB3.out.trans (hb4.mono HB3.out.size))
          clear hb4
          go_wp2_with fail
          refine (H2.out _).mono ?_
          rintro e w5 ⟨rfl, hb5⟩
          have HB5 := hid (HB4.out.trans (hb5.mono HB4.out.size))
          clear hb5
          go_wp2_with fail
          refine (H4.out _).mono ?_
          rintro e w6 ⟨rfl, hb6⟩
          have HB6 := hid (HB5.out.trans (hb6.mono HB5.out.size))
          clear hb6
          go_wp2
          all_goals (go_ret; exact ⟨rfl, HB6.out⟩)
theorem own : ownKnob Try.prog.godebug = none := by kernel_rfl
theorem laidOut : laidOutB Try.prog = true := by kernel_rfl
set_option maxRecDepth 100000 in
theorem lifted (os : Os) (started : os.Started) (H : Type) (enc : TypeId × Value → H) :
    ReturnsInHanded {} Try.checked os 8 .any (Rows.fnFourManySpec.pre6 enc Try.prog Try.f8 Rows.fnFourManyRow.domain false) (Rows.fnFourManySpec.post enc Try.prog Try.f8 false true false false) := by
  refine returnsInHanded_of_change (C := Try.checked) own started (by kernel_rfl) Try.func8
    (ChangeSpec.witness6 (enc := enc) (C := Try.checked) false ⟨#[], #[.slice none 0 0], []⟩ 8 (by kernel_rfl) (by kernel_rfl) (by kernel_rfl) (by kernel_rfl)) ?_
  intro W base args ds gs before hval0 hW hcnd _
  have hval : ∀ (j : Nat) t v, Try.f8.params[j]? = some t → args[j]? = some v → Value.okWide Try.prog W .any base t v := hval0
  have hW' := hW
  obtain ⟨p, q, hA0, hV, rfl, hfz, hnd⟩ := hW
  have hA : DataW.TrodAll enc Try.prog W 0 (fun _ => true) true Try.f8.params.toList args.toList ds p := hA0
  rw [Try.params8] at hA hval
  obtain ⟨v0, vs0, d0, ds0, p0, q0, hargs, rfl, rfl, h0, r0⟩ := trodAll_cons hA
  obtain ⟨rfl, rfl, rfl⟩ := trodAll_nil r0
  obtain rfl : args = #[v0] := by cases args; simp_all
  obtain ⟨rfl, rfl⟩ := trodVars_none hV
  obtain ⟨a0, len0, cap0, rfl⟩ := okWide_slice Try.underlying22 (hval 0 22 v0 rfl rfl)
  have k0 := h0
  have lt0 : ∀ x ∈ p0, x.block < W.heap.size := by obtain ⟨m, hm⟩ := k0; exact DataW.trod_lt m _ _ _ hm
  obtain ⟨z0, w0⟩ : ∃ zs, IsRow .u8 W a0 len0 cap0 zs := by
    obtain ⟨fuel, hf⟩ := h0
    rcases open_ints Try.underlying22 Try.underlying5 (by kernel_rfl) hf with ⟨hcs, _⟩ | ⟨x, l, c, zs, hcs, _, hl, hm, hz, _, hcell, hwz⟩
    · simp [Value.cells] at hcs
      obtain ⟨rfl, rfl, rfl⟩ := hcs
      exact ⟨[], .inl ⟨rfl, rfl, rfl, rfl⟩⟩
    · simp [Value.cells] at hcs
      obtain ⟨rfl, rfl, rfl⟩ := hcs
      exact ⟨zs, .inr ⟨_, rfl, hl, hm, by simpa using hz, hcell, hwz⟩⟩
  clear hA0 hval0
  refine (walk a0 len0 cap0 z0 W w0).mono fun e W' ⟨he, bel⟩ => ?_
  subst he
  exact ⟨_, rfl, _, _, _, [], _, [], hW', trodAll_mk1 (shut_bool Try.underlying4 _), (trodAll_cons_mk (Below.trod laidOut (by kernel_rfl) (of_decide_eq_true (by kernel_rfl)) k0 bel lt0) trodAll_mk0), rfl, bel.frame _, fun h => by cases h⟩
theorem over : Rows.fnFourManyRow.holds Try.pinned (OpenSpec.ofChange Rows.fnFourManySpec) :=
  OpenClaim.holds_of_wide 8 Try.f8 rfl rfl rfl rfl rfl rfl rfl ⟨rfl, rfl, rfl, rfl, rfl⟩ rfl rfl rfl rfl rfl (by kernel_rfl) Try.func8 (by kernel_rfl)
    (of_decide_eq_true (by kernel_rfl)) (by unfold Func.isWrapper; first | (rw [if_pos (by decide +kernel)]; kernel_rfl) | (rw [if_neg (by decide +kernel)]; exact ⟨rfl, rfl⟩))
    (fun os started H enc _ => lifted os started H enc)
theorem proved : Rows.FnFourManySaid := over
end Go.Proofs.Ytdclmjmefkgbbab.fnFourMany
