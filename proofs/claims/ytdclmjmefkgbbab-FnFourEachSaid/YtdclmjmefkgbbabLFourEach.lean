/-
  Proves: for every code: each number has ways of four squares, eight times as many as something but for 0, and at least as many as of two.
  Conditions: none beyond the given statement's own.
-/
import Derived.Test.YtdclmjmefkgbbabRows
import Derived.Test.YtdclmjmefkgbbabSuC2
import Derived.Test.YtdclmjmefkgbbabQBun15
import Derived.Test.YtdclmjmefkgbbabSuK
import Derived.Test.YtdclmjmefkgbbabDraws24
import Derived.Test.YtdclmjmefkgbbabQRowWord
import Derived.ProofKit
import Derived.OpenShut
import Derived.ShutString
import Derived.ChangeOld
namespace Go.Proofs.Ytdclmjmefkgbbab.fnFourEach
open Go.ChangeShapes Go.WideShapes Go.ChangeAt Go.RowKit
open Go.ChangeMaps (open_string shut_string)
set_option linter.unusedVariables false
theorem each_cases (n : Int) : inR n 0 300 = false ∨ ∃ N : Nat, n = (N : Int) ∧ inR n 0 300 = true ∧ N ≤ 300 := by
  rcases inR_cases n 0 300 with ⟨a, b, c⟩ | ⟨_, c⟩ | ⟨_, _, c⟩
  · obtain ⟨N, rfl⟩ := Int.eq_ofNat_of_zero_le a
    exact .inr ⟨N, rfl, c, by omega⟩
  · exact .inl c
  · exact .inl c

set_option maxRecDepth 100000 in
set_option maxHeartbeats 4000000 in
theorem walk (a0 : Option Addr) (len0 cap0 : Nat) (z0 : List Int) (w : World) (w0 : IsRow .u8 w a0 len0 cap0 z0) :
    Calls Try.prog 9 #[.slice a0 len0 cap0] w fun e w' => e = .returned (.bool true) ∧ Below w.heap.size w w' := by
  have HC := hid (codeIn_of w0)
  clear w0
  by_cases hl : (1048576 : Int) < (len0 : Int)
  · go_enter Try.func9, Try.ntmps9
    go_wp2
    go_ret
    exact ⟨rfl, Below.refl _ _⟩
  · go_enter Try.func9, Try.ntmps9
    go_wp2_with fail
    refine (drawFourEach_any _ len0 _ HC.out).mono ?_
    rintro e w1 ⟨n, rfl, hn, hb⟩
    have HB1 := hid hb
    clear hb HC
    rcases each_cases n with h | ⟨N, rfl, h, hN⟩
    · have HI := hid (fun w => fourEach_any n w)
      have HS := hid (fun w => fourEachS_any n w)
      rw [fourE_no h] at HI HS
      clear h hn
      go_wp2_with fail
      refine (HI.out _).mono ?_
      rintro e w2 ⟨rfl, hb2⟩
      have HB2 := hid (HB1.out.trans (hb2.mono HB1.out.size))
      clear hb2
      go_wp2_with fail
      refine (HS.out _).mono ?_
      rintro e w3 ⟨rfl, hb3⟩
      have HB3 := hid (HB2.out.trans (hb3.mono HB2.out.size))
      clear hb3
      go_wp2
      all_goals (go_ret; exact ⟨rfl, HB3.out⟩)
    · obtain ⟨k1, k2⟩ := four_each hN
      have HI := hid (fun w => fourEach_any (N : Int) w)
      have HS := hid (fun w => fourEachS_any (N : Int) w)
      have HT := hid (fun w => twoEach_any (N : Int) w)
      rw [fourE_yes h] at HI HS
      rw [twoEach_yes (show sumB (N : Int) = true by unfold sumB inR; simp; omega)] at HT
      have hb := twoW_bd (n := (N : Int)) (by omega)
      have hf := fourK_bd (n := (N : Int)) (by omega) (N + 1) (by omega)
      generalize twoW (N : Int) = y at *
      by_cases h0 : N = 0
      · rw [if_pos h0] at k1
        rw [k1] at HI HS k2
        subst h0
        clear h hn k1 hf
        go_wp2_with fail
        refine (HI.out _).mono ?_
        rintro e w2 ⟨rfl, hb2⟩
        have HB2 := hid (HB1.out.trans (hb2.mono HB1.out.size))
        clear hb2
        go_wp2_with fail
        refine (HS.out _).mono ?_
        rintro e w3 ⟨rfl, hb3⟩
        have HB3 := hid (HB2.out.trans (hb3.mono HB2.out.size))
        clear hb3
        go_wp2_with fail
        refine (HT.out _).mono ?_
        rintro e w4 ⟨rfl, hb4⟩
        have HB4 := hid (HB3.out.trans (hb4.mono HB3.out.size))
        clear hb4
        go_wp2
        all_goals (go_ret; exact ⟨rfl, HB4.out⟩)
      · rw [if_neg h0] at k1
        have hp := div_pos4 (n := N) (by omega) N (by omega) (by omega)
        obtain ⟨x, hx⟩ : ∃ x, x = fourK (N : Int) (N + 1) := ⟨_, rfl⟩
        rw [← hx] at HI HS k1 k2 hf
        have T1 : (x % 8 == 0) = true := by rw [beq_iff_eq]; omega
        have h8 : 8 ≤ x := by omega
        have hx2 : x ≤ 30000000000 := by omega
        have hn1 : 0 < (N : Int) := by omega
        have TN : ((N : Int) == 0) = false := by rw [beq_eq_false_iff_ne]; omega
        have TX : (x != x) = false := by simp
        clear h hn k1 hx hp hf h0
        go_wp2_with fail
        refine (HI.out _).mono ?_
        rintro e w2 ⟨rfl, hb2⟩
        have HB2 := hid (HB1.out.trans (hb2.mono HB1.out.size))
        clear hb2
        go_wp2_with fail
        refine (HS.out _).mono ?_
        rintro e w3 ⟨rfl, hb3⟩
        have HB3 := hid (HB2.out.trans (hb3.mono HB2.out.size))
        clear hb3
        go_wp2_with fail
        refine (HT.out _).mono ?_
        rintro e w4 ⟨rfl, hb4⟩
        have HB4 := hid (HB3.out.trans (hb4.mono HB3.out.size))
        clear hb4
        go_wp2
        all_goals (go_ret; exact ⟨rfl, HB4.out⟩)
theorem own : ownKnob Try.prog.godebug = none := by kernel_rfl
theorem laidOut : laidOutB Try.prog = true := by kernel_rfl
set_option maxRecDepth 100000 in
theorem lifted (os : Os) (started : os.Started) (H : Type) (enc : TypeId × Value → H) :
    ReturnsInHanded {} Try.checked os 9 .any (Rows.fnFourEachSpec.pre6 enc Try.prog Try.f9 Rows.fnFourEachRow.domain false) (Rows.fnFourEachSpec.post enc Try.prog Try.f9 false true false false) := by
  refine returnsInHanded_of_change (C := Try.checked) own started (by kernel_rfl) Try.func9
    (ChangeSpec.witness6 (enc := enc) (C := Try.checked) false ⟨#[], #[.slice none 0 0], []⟩ 8 (by kernel_rfl) (by kernel_rfl) (by kernel_rfl) (by kernel_rfl)) ?_
  intro W base args ds gs before hval0 hW hcnd _
  have hval : ∀ (j : Nat) t v, Try.f9.params[j]? = some t → args[j]? = some v → Value.okWide Try.prog W .any base t v := hval0
  have hW' := hW
  obtain ⟨p, q, hA0, hV, rfl, hfz, hnd⟩ := hW
  have hA : DataW.TrodAll enc Try.prog W 0 (fun _ => true) true Try.f9.params.toList args.toList ds p := hA0
  rw [Try.params9] at hA hval
  obtain ⟨v0, vs0, d0, ds0, p0, q0, hargs, rfl, rfl, h0, r0⟩ := trodAll_cons hA
  obtain ⟨rfl, rfl, rfl⟩ := trodAll_nil r0
  obtain rfl : args = #[v0] := by cases args; simp_all
  obtain ⟨rfl, rfl⟩ := trodVars_none hV
  obtain ⟨a0, len0, cap0, rfl⟩ := okWide_slice Try.underlying22 (hval 0 22 v0 rfl rfl)
  have k0 := h0
  have lt0 : ∀ x ∈ p0, x.block < W.heap.size := by obtain ⟨m, hm⟩ := k0; exact DataW.trod_lt m _ _ _ hm
  obtain ⟨z0, w0⟩ : ∃ zs, IsRow .u8 W a0 len0 cap0 zs := by
    obtain ⟨fuel, hf⟩ := h0
    rcases open_ints Try.underlying22 Try.underlying5 (by kernel_rfl) hf with ⟨hcs, _⟩ | ⟨x, l, c, zs, hcs, _, hl, hm, hz, _, hcell, hwz⟩
    · simp [Value.cells] at hcs
      obtain ⟨rfl, rfl, rfl⟩ := hcs
      exact ⟨[], .inl ⟨rfl, rfl, rfl, rfl⟩⟩
    · simp [Value.cells] at hcs
      obtain ⟨rfl, rfl, rfl⟩ := hcs
      exact ⟨zs, .inr ⟨_, rfl, hl, hm, by simpa using hz, hcell, hwz⟩⟩
  clear hA0 hval0
  refine (walk a0 len0 cap0 z0 W w0).mono fun e W' ⟨he, bel⟩ => ?_
  subst he
  exact ⟨_, rfl, _, _, _, [], _, [], hW', trodAll_mk1 (shut_bool Try.underlying4 _), (trodAll_cons_mk (Below.trod laidOut (by kernel_rfl) (of_decide_eq_true (by kernel_rfl)) k0 bel lt0) trodAll_mk0), rfl, bel.frame _, fun h => by cases h⟩
theorem over : Rows.fnFourEachRow.holds Try.pinned (OpenSpec.ofChange Rows.fnFourEachSpec) :=
  OpenClaim.holds_of_wide 9 Try.f9 rfl rfl rfl rfl rfl rfl rfl ⟨rfl, rfl, rfl, rfl, rfl⟩ rfl rfl rfl rfl rfl (by kernel_rfl) Try.func9 (by kernel_rfl)
    (of_decide_eq_true (by kernel_rfl)) (by unfold Func.isWrapper; first | (rw [if_pos (by decide +kernel)]; kernel_rfl) | (rw [if_neg (by decide +kernel)]; exact ⟨rfl, rfl⟩))
    (fun os started H enc _ => lifted os started H enc)
theorem proved : Rows.FnFourEachSaid := over
end Go.Proofs.Ytdclmjmefkgbbab.fnFourEach
