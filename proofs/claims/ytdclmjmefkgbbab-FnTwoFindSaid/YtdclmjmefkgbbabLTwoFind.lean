/-
  Proves: for every code: two squares are found exactly for sums of two squares, the least one first.
  Conditions: none beyond the given statement's own.
-/
import Derived.Test.YtdclmjmefkgbbabRows
import Derived.Test.YtdclmjmefkgbbabQBun16
import Derived.Test.YtdclmjmefkgbbabQBun15
import Derived.Test.YtdclmjmefkgbbabSuK3
import Derived.Test.YtdclmjmefkgbbabQBun17
import Derived.Test.YtdclmjmefkgbbabDraws24
import Derived.Test.YtdclmjmefkgbbabQRowWord
import Derived.ProofKit
import Derived.OpenShut
import Derived.ShutString
import Derived.ChangeOld
namespace Go.Proofs.Ytdclmjmefkgbbab.fnTwoFind
open Go.ChangeShapes Go.WideShapes Go.ChangeAt Go.RowKit
open Go.ChangeMaps (open_string shut_string)
set_option linter.unusedVariables false
theorem find_cases {n : Int} (h : DrawnT n) : sumB n = false ∨ ∃ N : Nat, n = (N : Int) ∧ sumB n = true ∧ (N < 723 ∨ N = 2000) := by
  rcases sumB_cases n with ⟨a, b, c⟩ | ⟨_, c⟩ | ⟨_, _, c⟩
  · obtain ⟨N, rfl⟩ := Int.eq_ofNat_of_zero_le a
    exact .inr ⟨N, rfl, c, by unfold DrawnT at h; omega⟩
  · exact .inl c
  · exact .inl c
theorem two_found {N : Nat} (h2 : N ≤ 2000) {l : List Int} (e : lvl 2 (N : Int) 0 = some l) : ∃ x y : Int, l = [x, y] ∧ 0 ≤ x ∧ x ≤ y ∧ x * x + y * y = (N : Int) ∧ (0 ≤ x * x ∧ x * x ≤ 2000) ∧ 0 ≤ y * y ∧ y * y ≤ 2000 := by
  obtain ⟨h1, h2', h3, h4⟩ := lvl_spec 2 _ _ l e
  match l, h1 with
  | [x, y], _ =>
    have hx := h3 x (by simp)
    have hxy : x ≤ y := by simpa using h4
    have hs : x * x + y * y = (N : Int) := by simpa using h2'
    have p1 : 0 ≤ x * x := Int.mul_nonneg hx hx
    have p2 : 0 ≤ y * y := Int.mul_nonneg (by omega) (by omega)
    exact ⟨x, y, rfl, hx, hxy, hs, by omega, by omega⟩

set_option maxRecDepth 100000 in
set_option maxHeartbeats 4000000 in
theorem walk (a0 : Option Addr) (len0 cap0 : Nat) (z0 : List Int) (w : World) (w0 : IsRow .u8 w a0 len0 cap0 z0) :
    Calls Try.prog 4 #[.slice a0 len0 cap0] w fun e w' => e = .returned (.bool true) ∧ Below w.heap.size w w' := by
  have HC := hid (codeIn_of w0)
  clear w0
  by_cases hl : (1048576 : Int) < (len0 : Int)
  · go_enter Try.func4, Try.ntmps4
    go_wp2
    go_ret
    exact ⟨rfl, Below.refl _ _⟩
  · go_enter Try.func4, Try.ntmps4
    go_wp2_with fail
    refine (drawTwoFind_any _ len0 _ HC.out).mono ?_
    rintro e w1 ⟨n, rfl, hn, hb⟩
    have HB1 := hid hb
    clear hb HC
    rcases find_cases hn with h | ⟨N, rfl, h, hN⟩
    · have HI := hid (fun w => twoFind_any n w)
      have HS := hid (fun w => twoFindS_any n w)
      have HT := hid (fun w => twoIs_any n w)
      rw [show twoFindV n = .tuple #[.int .i64 0, .int .i64 0, .bool false] by unfold twoFindV; rw [h]; rfl] at HI HS
      rw [twoIs_no h] at HT
      clear h hn
      go_wp2_with fail
      refine (HI.out _).mono ?_
      rintro e w2 ⟨rfl, hb2⟩
      have HB2 := hid (HB1.out.trans (hb2.mono HB1.out.size))
      clear hb2
      go_wp2_with fail
      refine (HS.out _).mono ?_
      rintro e w3 ⟨rfl, hb3⟩
      have HB3 := hid (HB2.out.trans (hb3.mono HB2.out.size))
      clear hb3
      go_wp2_with fail
      refine (HT.out _).mono ?_
      rintro e w4 ⟨rfl, hb4⟩
      have HB4 := hid (HB3.out.trans (hb4.mono HB3.out.size))
      clear hb4
      go_wp2
      all_goals (go_ret; exact ⟨rfl, HB4.out⟩)
    · have k := two_kernel hN
      have HI := hid (fun w => twoFind_any (N : Int) w)
      have HS := hid (fun w => twoFindS_any (N : Int) w)
      have HT := hid (fun w => twoIs_any (N : Int) w)
      rw [← k] at HT
      cases e : lvl 2 (N : Int) 0 with
      | none =>
        rw [show twoFindV (N : Int) = .tuple #[.int .i64 0, .int .i64 0, .bool false] by unfold twoFindV; rw [h, e]; rfl] at HI HS
        rw [e] at HT
        clear h hn k e hN
        go_wp2_with fail
        refine (HI.out _).mono ?_
        rintro e w2 ⟨rfl, hb2⟩
        have HB2 := hid (HB1.out.trans (hb2.mono HB1.out.size))
        clear hb2
        go_wp2_with fail
        refine (HS.out _).mono ?_
        rintro e w3 ⟨rfl, hb3⟩
        have HB3 := hid (HB2.out.trans (hb3.mono HB2.out.size))
        clear hb3
        go_wp2_with fail
        refine (HT.out _).mono ?_
        rintro e w4 ⟨rfl, hb4⟩
        have HB4 := hid (HB3.out.trans (hb4.mono HB3.out.size))
        clear hb4
        go_wp2
        all_goals (go_ret; exact ⟨rfl, HB4.out⟩)
      | some l =>
        obtain ⟨x, y, rfl, x0, xy, hs, px, py⟩ := two_found (by omega) e
        rw [show twoFindV (N : Int) = .tuple #[.int .i64 x, .int .i64 y, .bool true] by unfold twoFindV; rw [h, e]; rfl] at HI HS
        rw [e] at HT
        have T1 : (x * x + y * y == (N : Int)) = true := by rw [beq_iff_eq]; exact hs
        have T2 : (x != x) = false := by simp
        have T3 : (y != y) = false := by simp
        clear h hn k e hN hs
        go_wp2_with fail
        refine (HI.out _).mono ?_
        rintro e w2 ⟨rfl, hb2⟩
        have HB2 := hid (HB1.out.trans (hb2.mono HB1.out.size))
        clear hb2
        go_wp2_with fail
        refine (HS.out _).mono ?_
        rintro e w3 ⟨rfl, hb3⟩
        have HB3 := hid (HB2.out.trans (hb3.mono HB2.out.size))
        clear hb3
        go_wp2_with fail
        refine (HT.out _).mono ?_
        rintro e w4 ⟨rfl, hb4⟩
        have HB4 := hid (HB3.out.trans (hb4.mono HB3.out.size))
        clear hb4
        go_wp2
        all_goals (go_ret; exact ⟨rfl, HB4.out⟩)
theorem own : ownKnob Try.prog.godebug = none := by kernel_rfl
theorem laidOut : laidOutB Try.prog = true := by kernel_rfl
set_option maxRecDepth 100000 in
theorem lifted (os : Os) (started : os.Started) (H : Type) (enc : TypeId × Value → H) :
    ReturnsInHanded {} Try.checked os 4 .any (Rows.fnTwoFindSpec.pre6 enc Try.prog Try.f4 Rows.fnTwoFindRow.domain false) (Rows.fnTwoFindSpec.post enc Try.prog Try.f4 false true false false) := by
  refine returnsInHanded_of_change (C := Try.checked) own started (by kernel_rfl) Try.func4
    (ChangeSpec.witness6 (enc := enc) (C := Try.checked) false ⟨#[], #[.slice none 0 0], []⟩ 8 (by kernel_rfl) (by kernel_rfl) (by kernel_rfl) (by kernel_rfl)) ?_
  intro W base args ds gs before hval0 hW hcnd _
  have hval : ∀ (j : Nat) t v, Try.f4.params[j]? = some t → args[j]? = some v → Value.okWide Try.prog W .any base t v := hval0
  have hW' := hW
  obtain ⟨p, q, hA0, hV, rfl, hfz, hnd⟩ := hW
  have hA : DataW.TrodAll enc Try.prog W 0 (fun _ => true) true Try.f4.params.toList args.toList ds p := hA0
  rw [Try.params4] at hA hval
  obtain ⟨v0, vs0, d0, ds0, p0, q0, hargs, rfl, rfl, h0, r0⟩ := trodAll_cons hA
  obtain ⟨rfl, rfl, rfl⟩ := trodAll_nil r0
  obtain rfl : args = #[v0] := by cases args; simp_all
  obtain ⟨rfl, rfl⟩ := trodVars_none hV
  obtain ⟨a0, len0, cap0, rfl⟩ := okWide_slice Try.underlying22 (hval 0 22 v0 rfl rfl)
  have k0 := h0
  have lt0 : ∀ x ∈ p0, x.block < W.heap.size := by obtain ⟨m, hm⟩ := k0; exact DataW.trod_lt m _ _ _ hm
  obtain ⟨z0, w0⟩ : ∃ zs, IsRow .u8 W a0 len0 cap0 zs := by
    obtain ⟨fuel, hf⟩ := h0
    rcases open_ints Try.underlying22 Try.underlying5 (by kernel_rfl) hf with ⟨hcs, _⟩ | ⟨x, l, c, zs, hcs, _, hl, hm, hz, _, hcell, hwz⟩
    · simp [Value.cells] at hcs
      obtain ⟨rfl, rfl, rfl⟩ := hcs
      exact ⟨[], .inl ⟨rfl, rfl, rfl, rfl⟩⟩
    · simp [Value.cells] at hcs
      obtain ⟨rfl, rfl, rfl⟩ := hcs
      exact ⟨zs, .inr ⟨_, rfl, hl, hm, by simpa using hz, hcell, hwz⟩⟩
  clear hA0 hval0
  refine (walk a0 len0 cap0 z0 W w0).mono fun e W' ⟨he, bel⟩ => ?_
  subst he
  exact ⟨_, rfl, _, _, _, [], _, [], hW', trodAll_mk1 (shut_bool Try.underlying4 _), (trodAll_cons_mk (Below.trod laidOut (by kernel_rfl) (of_decide_eq_true (by kernel_rfl)) k0 bel lt0) trodAll_mk0), rfl, bel.frame _, fun h => by cases h⟩
theorem over : Rows.fnTwoFindRow.holds Try.pinned (OpenSpec.ofChange Rows.fnTwoFindSpec) :=
  OpenClaim.holds_of_wide 4 Try.f4 rfl rfl rfl rfl rfl rfl rfl ⟨rfl, rfl, rfl, rfl, rfl⟩ rfl rfl rfl rfl rfl (by kernel_rfl) Try.func4 (by kernel_rfl)
    (of_decide_eq_true (by kernel_rfl)) (by unfold Func.isWrapper; first | (rw [if_pos (by decide +kernel)]; kernel_rfl) | (rw [if_neg (by decide +kernel)]; exact ⟨rfl, rfl⟩))
    (fun os started H enc _ => lifted os started H enc)
theorem proved : Rows.FnTwoFindSaid := over
end Go.Proofs.Ytdclmjmefkgbbab.fnTwoFind
