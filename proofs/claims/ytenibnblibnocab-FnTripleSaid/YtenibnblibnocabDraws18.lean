/-
  What the drawing functions of chapter 6 hand out: m and n.
-/
import Derived.Test.YtenibnblibnocabBun48
import Derived.Test.YtenibnblibnocabBun0
set_option linter.unusedVariables false
namespace Go.Proofs.Ytenibnblibnocab
open Go.RowKit

set_option maxRecDepth 100000 in
set_option maxHeartbeats 2000000 in
theorem drawTripleMake_any (v : Value) (n : Nat) (w : World) (h : CodeIn w v n) : Calls Try.prog 38 #[v] w (Drew2 (fun x y => 1 ≤ x ∧ x ≤ 320 ∧ 0 ≤ y ∧ y ≤ x) w) := by
  go_enter Try.func38, Try.ntmps38
  go_wp2_with fail
  refine (open_any v n _ h).mono ?_
  rintro e w1 ⟨v1, n1, rfl, HR, HB⟩
  have hsz := HB.size
  go_wp2_with fail
  refine (pick_any _ _ _ _ 0 20 (by omega) (by omega) (by omega) _ (HR)).mono ?_
  rintro e wHC ⟨x, q, rfl, hx0, hx1, _, hq, HC, HP⟩
  replace hx1 := hx1 (by omega)
  go_wp2_with fail
  refine (pick_any _ _ _ _ q 20 (by omega) (by omega) (by omega) _ (HC.out)).mono ?_
  rintro e wHD ⟨y, r, rfl, hy0, hy1, _, hr, HD, HQ⟩
  replace hy1 := hy1 (by omega)
  have hy0 := Int.ediv_nonneg hy0 (show (0 : Int) ≤ 19 by decide)
  have hy2 : y / 19 ≤ 1 := by omega
  obtain ⟨t, ht⟩ : ∃ t, t = y / 19 := ⟨_, rfl⟩
  rw [← ht] at hy0 hy2
  go_wp2_with fail
  refine (pick_any _ _ _ _ r (1 + x + y / 19 * 300 + 1) (by omega) (by omega) (by omega) _ (HD.out)).mono ?_
  rintro e wHE ⟨z, s, rfl, hz0, hz1, _, hs, HE, HU⟩
  replace hz1 := hz1 (by omega)
  go_wp2
  go_ret2
  exact Drew2.mk ⟨by omega, by omega, by omega, by omega⟩ (only_below HB ((HP.out.trans HQ.out).trans HU.out))

end Go.Proofs.Ytenibnblibnocab
