/-
  Contracts of the program's chapter 5: four terms along one pair of integers.
-/
import Derived.Test.YtbhlgdleklfonabBun46
import Derived.BigQuiet
import Derived.Deep.RegionWith
set_option linter.unusedVariables false
namespace Go.Proofs.Ytbhlgdleklfonab
open Go.RowKit

theorem along_bd {a b c d : Int} (ok : Ok4 a b c d) {x y : Nat} (hx : x ≤ 3) (hy : y ≤ 3) : (-540 ≤ splitV a b x y ∧ splitV a b x y ≤ 540) := by
  have hb := splitV_bd ok.a1 ok.a2 ok.b1 ok.b2 hx hy
  unfold splitV
  omega
theorem mul_23 {u : Nat} {n : Int} (hu : u ≤ 23) (h1 : -2000 ≤ n) (h2 : n ≤ 2000) : -46000 ≤ (u : Int) * n ∧ (u : Int) * n ≤ 46000 := by
  have : ((u : Int) * n).natAbs ≤ 23 * 2000 := by rw [Int.natAbs_mul, Int.natAbs_natCast]; exact Nat.mul_le_mul hu (by omega)
  omega

set_option maxRecDepth 100000 in
set_option maxHeartbeats 8000000 in
theorem zeroAlong_any (v : Value) (a b c d : Int) (x y : Nat) (ok : Ok4 a b c d) (hx : x ≤ 3) (hy : y ≤ 3) (w : World) (h : Rd w v [a, b, c, d]) :
    Calls Try.prog 78 #[v, .int .i64 x, .int .i64 y] w (SearchPost (alongO a b c d x y) w) := by
  have HH := hid h
  have HOK := hid ok
  obtain ⟨ad, cap, rfl, hform⟩ := h.form
  obtain ⟨g, o, rfl, _, hc⟩ := hform (by simp)
  have HK : Hid (∀ W : World, Below w.heap.size w W → W.cell? ⟨g, o, none⟩ = some (.int .i64 a) ∧ W.cell? ⟨g, o + 1, none⟩ = some (.int .i64 b) ∧ W.cell? ⟨g, o + 2, none⟩ = some (.int .i64 c) ∧ W.cell? ⟨g, o + 3, none⟩ = some (.int .i64 d)) := hid (fun W hW => by
    obtain ⟨ad2, cap2, e, hform2⟩ := (HH.out.keep hW).form
    cases e
    obtain ⟨g2, o2, e2, _, hc2⟩ := hform2 (by simp)
    cases e2
    exact ⟨hc2 0 (by simp), hc2 1 (by simp), hc2 2 (by simp), hc2 3 (by simp)⟩)
  obtain ⟨k0, k1, k2, k3⟩ := HK.out w (Below.refl _ _)
  have hb := splitV_bd ok.a1 ok.a2 ok.b1 ok.b2 hx hy
  obtain ⟨ht1, ht2⟩ := along_bd ok hx hy
  have HAL : Hid (alongO a b c d x y = if splitV a b x y = 0 then some [(x : Int), (y : Int), 0, 0] else (zfindO [c, d, coreG (splitV a b x y)]).map (vec4 (rootG (splitV a b x y)) x y)) := hid rfl
  have HRT : Hid (splitV a b x y ≠ 0 → rootG (splitV a b x y) ≤ 23) := hid (fun h0 => (root_24 h0 ht1 ht2).2)
  have hx3 : (x : Int) ≤ 3 := by omega
  have hy3 : (y : Int) ≤ 3 := by omega
  have hx0 : (0 : Int) ≤ (x : Int) := by omega
  have hy0 : (0 : Int) ≤ (y : Int) := by omega
  unfold splitV at HAL ht1 ht2 HRT
  obtain ⟨X, hX⟩ : ∃ X : Int, X = (x : Int) := ⟨_, rfl⟩
  obtain ⟨Y, hY⟩ : ∃ Y : Int, Y = (y : Int) := ⟨_, rfl⟩
  rw [← hX, ← hY] at HAL ht1 ht2 HRT hb
  rw [← hX] at hx3 hx0 ⊢
  rw [← hY] at hy3 hy0 ⊢
  have HXM : Hid (∀ n : Int, -2000 ≤ n → n ≤ 2000 → -46000 ≤ X * n ∧ X * n ≤ 46000) := hid (fun n h1 h2 => by rw [hX]; exact mul_23 (by omega) h1 h2)
  have HYM : Hid (∀ n : Int, -2000 ≤ n → n ≤ 2000 → -46000 ≤ Y * n ∧ Y * n ≤ 46000) := hid (fun n h1 h2 => by rw [hY]; exact mul_23 (by omega) h1 h2)
  have w1 := wrap_4 (x := a * X) (by omega) (by omega)
  have w2 := wrap_4 (x := a * X * X) (by omega) (by omega)
  have w3 := wrap_4 (x := b * Y) (by omega) (by omega)
  have w4 := wrap_4 (x := b * Y * Y) (by omega) (by omega)
  have w5 := wrap_4 (x := a * X * X + b * Y * Y) (by omega) (by omega)
  obtain ⟨o', ho'⟩ : ∃ o', o' = alongO a b c d x y := ⟨_, rfl⟩
  rw [← ho'] at HAL ⊢
  clear h hform hc hb ok hX hY ho' hx hy
  by_cases h0 : a * X * X + b * Y * Y = 0
  · have T0 : (a * X * X + b * Y * Y == 0) = true := by rw [beq_iff_eq]; exact h0
    rw [if_pos h0] at HAL
    clear h0 HRT
    go_enter Try.func78, Try.ntmps78
    go_wp2_with fail
    go_quiet (fail)
    go_wp2_with fail
    go_ret2
    exact some_post HAL.out (below_drewN (Below.refl _ _) _) (owns_lit [X, Y, 0, 0] _ rfl (Nat.le_refl _) (by unfold maxLen; simp)) ((Below.refl _ _).alloc (Nat.le_refl _) _)
  · have T0 : (a * X * X + b * Y * Y == 0) = false := by rw [beq_eq_false_iff_ne]; exact h0
    rw [if_neg h0] at HAL
    have hr := HRT.out h0
    have HCO : Hid (∀ W, Calls Try.prog 74 #[.int .i64 (a * X * X + b * Y * Y)] W fun e w' => e = .returned (.tuple #[.int .i64 (coreG (a * X * X + b * Y * Y)), .int .i64 (rootG (a * X * X + b * Y * Y) : Nat)]) ∧ Below W.heap.size W w') := hid (fun W => numCore_any _ h0 (by omega) (by omega) W)
    obtain ⟨A, hA⟩ : ∃ A, A = coreG (a * X * X + b * Y * Y) := ⟨_, rfl⟩
    obtain ⟨r, hr'⟩ : ∃ r, r = rootG (a * X * X + b * Y * Y) := ⟨_, rfl⟩
    rw [← hA, ← hr'] at HAL HCO
    rw [← hr'] at hr
    have HZF : Hid (∀ W : World, Calls Try.prog 25 #[.slice (some ⟨W.heap.size, 0, none⟩) 3 3] (W.alloc (.cells #[.int .i64 c, .int .i64 d, .int .i64 A] 3)).drew (SearchPost (zfindO [c, d, A]) (W.alloc (.cells #[.int .i64 c, .int .i64 d, .int .i64 A] 3)).drew)) := hid (fun W => zeroFind_low _ [c, d, A] (by simp) _ (show Owns (W.alloc (.cells #[.int .i64 c, .int .i64 d, .int .i64 A] 3)).drew W.heap.size (.slice (some ⟨W.heap.size, 0, none⟩) 3 3) [c, d, A] from owns_lit (B := W.heap.size) [c, d, A] _ rfl (Nat.le_refl _) (by unfold maxLen; simp)).rd)
    have HGOT : Hid (∀ l, zfindO [c, d, A] = some l → ∃ p q s, l = [p, q, s] ∧ (-2000 ≤ p ∧ p ≤ 2000) ∧ (-2000 ≤ q ∧ q ≤ 2000) ∧ (-2000 ≤ s ∧ s ≤ 2000)) := hid (fun l hl => by
      have k := find_got hl
      have e : l.length = 3 := (zeroB_iff.1 k.zero).2.2.1
      obtain ⟨p, q, s, rfl⟩ := list_three e
      exact ⟨p, q, s, rfl, k.small p (by simp), k.small q (by simp), k.small s (by simp)⟩)
    clear h0 HRT hA hr'
    go_enter Try.func78, Try.ntmps78
    go_wp2_with fail
    go_quiet (fail)
    go_wp2_with fail
    refine (HCO.out _).mono ?_
    rintro e w6 ⟨rfl, hb6⟩
    have HB6 := hid ((below_drewN (Below.refl w.heap.size w) _).trans (hb6.mono (by simp)))
    obtain ⟨_, _, c2, c3⟩ := HK.out w6 HB6.out
    have HA7 := hid (HB6.out.alloc HB6.out.size (.cells #[.int .i64 c, .int .i64 d, .int .i64 A] 3)).drew
    obtain ⟨o2, ho2⟩ : ∃ o2, o2 = zfindO [c, d, A] := ⟨_, rfl⟩
    rw [← ho2] at HZF HAL HGOT
    clear hb6 k0 k1 k2 k3 w1 w2 w3 w4 w5 T0 ho2
    go_wp2_with fail
    cases o2 with
    | none =>
      go_region_with (go_at_call 25; refine (HZF.out _).mono ?_; rintro e w8 ⟨u, rfl, hu, hb8⟩; have hbx := HA7.out.trans (hb8.mono HA7.out.size))
      all_goals (
        go_wp2_with fail
        go_ret2
        exact none_post HAL.out hbx)
    | some l =>
      obtain ⟨p, q, s, rfl, ⟨p1, p2⟩, ⟨q1, q2⟩, ⟨s1, s2⟩⟩ := HGOT.out l rfl
      obtain ⟨x1, x2⟩ := HXM.out s s1 s2
      obtain ⟨y1, y2⟩ := HYM.out s s1 s2
      obtain ⟨u1, u2⟩ := mul_23 (u := r) (n := p) hr p1 p2
      obtain ⟨v1, v2⟩ := mul_23 (u := r) (n := q) hr q1 q2
      have w1 := wrap_4 (x := X * s) (by omega) (by omega)
      have w2 := wrap_4 (x := Y * s) (by omega) (by omega)
      have w3 := wrap_4 (x := (r : Int) * p) (by omega) (by omega)
      have w4 := wrap_4 (x := (r : Int) * q) (by omega) (by omega)
      go_region_with (go_at_call 25; refine (HZF.out _).mono ?_; rintro e w8 ⟨u, rfl, hu, hb8⟩; have hbx := HA7.out.trans (hb8.mono HA7.out.size); obtain ⟨gz, zcap, rfl, hz1, hz2⟩ := hu.block_of (Nat.succ_pos _); have z0 : w8.cell? ⟨gz, 0, none⟩ = some (.int .i64 p) := hu.elem (i := 0) (show 0 < 3 by decide); have z1 : w8.cell? ⟨gz, 1, none⟩ = some (.int .i64 q) := hu.elem (i := 1) (show 1 < 3 by decide); have z2 : w8.cell? ⟨gz, 2, none⟩ = some (.int .i64 s) := hu.elem (i := 2) (show 2 < 3 by decide))
      all_goals (
        go_wp2_with fail
        go_quiet (fail)
        go_wp2_with fail
        go_ret2
        exact some_post HAL.out (below_drewN hbx _) (owns_lit [X * s, Y * s, (r : Int) * p, (r : Int) * q] _ rfl (Nat.le_refl _) (by unfold maxLen; simp)) ((Below.refl _ _).alloc (Nat.le_refl _) _))

end Go.Proofs.Ytbhlgdleklfonab
