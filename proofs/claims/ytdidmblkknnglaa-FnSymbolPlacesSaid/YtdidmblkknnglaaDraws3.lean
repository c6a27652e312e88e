/-
  What the drawing functions of chapter 3 hand out.
-/
import Derived.Test.YtdidmblkknnglaaDraws2
set_option linter.unusedVariables false
namespace Go.Proofs.Ytdidmblkknnglaa
open Go.RowKit

set_option maxRecDepth 100000 in
set_option maxHeartbeats 2000000 in
theorem drawSymbolOf_any (v : Value) (n : Nat) (w : World) (h : CodeIn w v n) : Calls Try.prog 15 #[v] w (Drew3 (fun a b q => numOk a ∧ parOk a b ∧ prOk q) w) := by
  go_enter Try.func15, Try.ntmps15
  go_wp2_with fail
  refine (open_any v n _ h).mono ?_
  rintro e w1 ⟨v1, n1, rfl, HR, HB⟩
  have hsz := HB.size
  go_wp2_with fail
  refine (pair_any _ _ _ _ 0 (by omega) _ HR (by omega)).mono ?_
  rintro e w2 ⟨x, y, z, q, rfl, hx, hq, HA, HO⟩
  have HX := hid hx
  clear hx
  go_wp2
  go_ret3
  exact Drew3.mk HX.out (only_below HB HO.out)

set_option maxRecDepth 100000 in
set_option maxHeartbeats 2000000 in
theorem drawSymbolPlaces_any (v : Value) (n : Nat) (w : World) (h : CodeIn w v n) : Calls Try.prog 22 #[v] w (Drew2 (fun a b => numOk a ∧ parOk a b) w) := by
  go_enter Try.func22, Try.ntmps22
  go_wp2_with fail
  refine (open_any v n _ h).mono ?_
  rintro e w1 ⟨v1, n1, rfl, HR, HB⟩
  have hsz := HB.size
  go_wp2_with fail
  refine (pair_any _ _ _ _ 0 (by omega) _ HR (by omega)).mono ?_
  rintro e w2 ⟨x, y, z, q, rfl, hx, hq, HA, HO⟩
  have HX := hid hx
  clear hx
  go_wp2
  go_ret2
  exact Drew2.mk ⟨HX.out.1, HX.out.2.1⟩ (only_below HB HO.out)

set_option maxRecDepth 100000 in
set_option maxHeartbeats 2000000 in
theorem drawSymbolSign_any (v : Value) (n : Nat) (w : World) (h : CodeIn w v n) : Calls Try.prog 28 #[v] w (Drew2 (fun a b => numOk a ∧ parOk a b) w) := by
  go_enter Try.func28, Try.ntmps28
  go_wp2_with fail
  refine (open_any v n _ h).mono ?_
  rintro e w1 ⟨v1, n1, rfl, HR, HB⟩
  have hsz := HB.size
  go_wp2_with fail
  refine (pair_any _ _ _ _ 0 (by omega) _ HR (by omega)).mono ?_
  rintro e w2 ⟨x, y, z, q, rfl, hx, hq, HA, HO⟩
  have HX := hid hx
  clear hx
  go_wp2
  go_ret2
  exact Drew2.mk ⟨HX.out.1, HX.out.2.1⟩ (only_below HB HO.out)

set_option maxRecDepth 100000 in
set_option maxHeartbeats 2000000 in
theorem drawSymbolSplit_any (v : Value) (n : Nat) (w : World) (h : CodeIn w v n) : Calls Try.prog 41 #[v] w (Drew2 (fun a b => numOk a ∧ (parOk a b ∨ b = -a)) w) := by
  go_enter Try.func41, Try.ntmps41
  go_wp2_with fail
  refine (open_any v n _ h).mono ?_
  rintro e w1 ⟨v1, n1, rfl, HR, HB⟩
  have hsz := HB.size
  go_wp2_with fail
  refine (pair_any _ _ _ _ 0 (by omega) _ HR (by omega)).mono ?_
  rintro e w2 ⟨x, y, z, q, rfl, hx, hq, HA, HO⟩
  have HX := hid hx
  have hxs := numOk_small hx.1
  clear hx
  have hs2 := HO.out.size
  go_wp2_with fail
  refine (pick_any _ _ _ _ q 3 (by omega) (by omega) (by omega) _ (HA.out)).mono ?_
  rintro e wHC ⟨t, r, rfl, ht0, ht1, _, hr, HC, HP⟩
  replace ht1 := ht1 (by omega)
  by_cases h0 : t = 0
  · have T : (t == 0) = true := by rw [beq_iff_eq]; exact h0
    clear h0
    go_wp2
    go_ret2
    exact Drew2.mk ⟨HX.out.1, .inr (by omega)⟩ (only_below HB (HO.out.trans HP.out))
  · have T : (t == 0) = false := by rw [beq_eq_false_iff_ne]; exact h0
    clear h0
    go_wp2
    go_ret2
    exact Drew2.mk ⟨HX.out.1, .inl HX.out.2.1⟩ (only_below HB (HO.out.trans HP.out))

set_option maxRecDepth 100000 in
set_option maxHeartbeats 2000000 in
theorem drawSymbolNorm_any (v : Value) (n : Nat) (w : World) (h : CodeIn w v n) : Calls Try.prog 46 #[v] w (Drew2 (fun x p => locOk x ∧ prOk p) w) := by
  go_enter Try.func46, Try.ntmps46
  go_wp2_with fail
  refine (open_any v n _ h).mono ?_
  rintro e w1 ⟨v1, n1, rfl, HR, HB⟩
  have hsz := HB.size
  go_wp2_with fail
  refine (local_any _ _ _ _ 0 (by omega) _ HR (by omega)).mono ?_
  rintro e w2 ⟨x, y, q, rfl, hx, hq, HA, HO⟩
  have HX := hid hx
  clear hx
  go_wp2
  go_ret2
  exact Drew2.mk HX.out (only_below HB HO.out)

set_option maxRecDepth 100000 in
set_option maxHeartbeats 2000000 in
theorem drawSymbolFind_any (v : Value) (n : Nat) (w : World) (h : CodeIn w v n) : Calls Try.prog 49 #[v] w (Drew2 (fun x p => locOk x ∧ prOk p) w) := by
  go_enter Try.func49, Try.ntmps49
  go_wp2_with fail
  refine (open_any v n _ h).mono ?_
  rintro e w1 ⟨v1, n1, rfl, HR, HB⟩
  have hsz := HB.size
  go_wp2_with fail
  refine (local_any _ _ _ _ 0 (by omega) _ HR (by omega)).mono ?_
  rintro e w2 ⟨x, y, q, rfl, hx, hq, HA, HO⟩
  have HX := hid hx
  clear hx
  go_wp2
  go_ret2
  exact Drew2.mk HX.out (only_below HB HO.out)


end Go.Proofs.Ytdidmblkknnglaa
