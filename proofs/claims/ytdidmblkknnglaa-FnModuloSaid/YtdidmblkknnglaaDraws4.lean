/-
  What the drawing functions of chapter 3 hand out: four and five numbers.
-/
import Derived.Test.YtdidmblkknnglaaDraws2
set_option linter.unusedVariables false
namespace Go.Proofs.Ytdidmblkknnglaa
open Go.RowKit

theorem results_tmp4 {fn : Func} {t u v x : Tmp} (h : fn.results = #[.tmp t, .tmp u, .tmp v, .tmp x]) (tmps : Array Value) (P : Program) (w : World) :
    (results fn tmps).run P w = .ok (.tuple #[tmps.getD t undef, tmps.getD u undef, tmps.getD v undef, tmps.getD x undef]) w := by
  simp [results, h]
theorem results_tmp5 {fn : Func} {t u v x y : Tmp} (h : fn.results = #[.tmp t, .tmp u, .tmp v, .tmp x, .tmp y]) (tmps : Array Value) (P : Program) (w : World) :
    (results fn tmps).run P w = .ok (.tuple #[tmps.getD t undef, tmps.getD u undef, tmps.getD v undef, tmps.getD x undef, tmps.getD y undef]) w := by
  simp [results, h]
def Drew4 (P : Int → Int → Int → Int → Prop) (w : World) (e : Ending) (w' : World) : Prop := ∃ x y z u : Int, e = .returned (.tuple #[.int .i64 x, .int .i64 y, .int .i64 z, .int .i64 u]) ∧ P x y z u ∧ Below w.heap.size w w'
def Drew5 (P : Int → Int → Int → Int → Int → Prop) (w : World) (e : Ending) (w' : World) : Prop := ∃ x y z u v : Int, e = .returned (.tuple #[.int .i64 x, .int .i64 y, .int .i64 z, .int .i64 u, .int .i64 v]) ∧ P x y z u v ∧ Below w.heap.size w w'
theorem Drew4.mk {P : Int → Int → Int → Int → Prop} {w w' : World} {x y z u : Int} (h : P x y z u) (hb : Below w.heap.size w w') : Drew4 P w (.returned (.tuple #[.int .i64 x, .int .i64 y, .int .i64 z, .int .i64 u])) w' := ⟨x, y, z, u, rfl, h, hb⟩
theorem Drew5.mk {P : Int → Int → Int → Int → Int → Prop} {w w' : World} {x y z u v : Int} (h : P x y z u v) (hb : Below w.heap.size w w') : Drew5 P w (.returned (.tuple #[.int .i64 x, .int .i64 y, .int .i64 z, .int .i64 u, .int .i64 v])) w' := ⟨x, y, z, u, v, rfl, h, hb⟩
def mildI (x : Int) : Prop := -2000000 ≤ x ∧ x ≤ 2000000

set_option maxRecDepth 100000 in
set_option maxHeartbeats 2000000 in
theorem drawSymbolSolved_any (v : Value) (n : Nat) (w : World) (h : CodeIn w v n) : Calls Try.prog 30 #[v] w (Drew5 (fun a b x y z => smallI a ∧ mildI b ∧ smallI x ∧ smallI y ∧ smallI z) w) := by
  go_enter Try.func30, Try.ntmps30
  go_wp2_with fail
  refine (open_any v n _ h).mono ?_
  rintro e w1 ⟨v1, n1, rfl, HR, HB⟩
  have hsz := HB.size
  go_wp2_with fail
  refine (pair_any _ _ _ _ 0 (by omega) _ HR (by omega)).mono ?_
  rintro e w2 ⟨a, b, y0, q, rfl, hx, hq, HA, HO⟩
  have hs2 := HO.out.size
  have ha := numOk_small hx.1
  have hb := parOk_small hx.1 hx.2.1
  clear hx
  go_wp2_with fail
  refine (pick_any _ _ _ _ q 2 (by omega) (by omega) (by omega) _ (HA.out)).mono ?_
  rintro e wHC ⟨t, r, rfl, ht0, ht1, _, hr, HC, HP⟩
  replace ht1 := ht1 (by omega)
  have hs3 := HP.out.size
  by_cases h0 : t = 0
  · have T : (t == 0) = true := by rw [beq_iff_eq]; exact h0
    clear h0
    go_wp2_with fail
    refine (pick_any _ _ _ _ r 4 (by omega) (by omega) (by omega) _ (HC.out)).mono ?_
    rintro e wHD ⟨x, s, rfl, hx0, hx1, _, hs, HD, HQ⟩
    replace hx1 := hx1 (by omega)
    have hs4 := HQ.out.size
    go_wp2_with fail
    refine (pick_any _ _ _ _ s 9 (by omega) (by omega) (by omega) _ (HD.out)).mono ?_
    rintro e wHE ⟨z, u, rfl, hz0, hz1, _, hu, HE, HU⟩
    replace hz1 := hz1 (by omega)
    have zz1 : 0 ≤ z * z := Int.mul_nonneg (by omega) (by omega)
    have zz2 : z * z ≤ 8 * 8 := Int.le_trans (Int.mul_le_mul_of_nonneg_right (show z ≤ 8 by omega) (by omega)) (Int.mul_le_mul_of_nonneg_left (by omega) (by omega))
    have hb1 : (a * x).natAbs ≤ 5001 * 3 := by rw [Int.natAbs_mul]; exact Nat.mul_le_mul (by omega) (by omega)
    have hb2 : -15003 ≤ a * x := by omega
    have hb3 : a * x ≤ 15003 := by omega
    have hc1 : (a * x * x).natAbs ≤ 15003 * 3 := by rw [Int.natAbs_mul]; exact Nat.mul_le_mul (by omega) (by omega)
    have hc2 : -45009 ≤ a * x * x := by omega
    have hc3 : a * x * x ≤ 45009 := by omega
    clear hb1 hc1
    go_wp2
    (try simp only [Exit.inBlock, Exit.then])
    refine bodyPost_ret (results_tmp5 rfl _ _ _) rfl ?_
    exact Drew5.mk ⟨by unfold smallI; omega, by unfold mildI; omega, by unfold smallI; omega, by unfold smallI; omega, by unfold smallI; omega⟩ (only_below HB (((HO.out.trans HP.out).trans HQ.out).trans HU.out))
  · have T : (t == 0) = false := by rw [beq_eq_false_iff_ne]; exact h0
    clear h0
    go_wp2_with fail
    refine (pick_any _ _ _ _ r 5 (by omega) (by omega) (by omega) _ (HC.out)).mono ?_
    rintro e wHD ⟨x, s, rfl, hx0, hx1, _, hs, HD, HQ⟩
    replace hx1 := hx1 (by omega)
    have hs4 := HQ.out.size
    go_wp2_with fail
    refine (pick_any _ _ _ _ s 5 (by omega) (by omega) (by omega) _ (HD.out)).mono ?_
    rintro e wHE ⟨y, u, rfl, hy0, hy1, _, hu, HE, HU⟩
    replace hy1 := hy1 (by omega)
    have hs5 := HU.out.size
    go_wp2_with fail
    refine (pick_any _ _ _ _ u 20 (by omega) (by omega) (by omega) _ (HE.out)).mono ?_
    rintro e wHF ⟨z, k, rfl, hz0, hz1, _, hk, HF, HV⟩
    replace hz1 := hz1 (by omega)
    go_wp2
    (try simp only [Exit.inBlock, Exit.then])
    refine bodyPost_ret (results_tmp5 rfl _ _ _) rfl ?_
    exact Drew5.mk ⟨by unfold smallI; omega, by unfold mildI; omega, by unfold smallI; omega, by unfold smallI; omega, by unfold smallI; omega⟩ (only_below HB ((((HO.out.trans HP.out).trans HQ.out).trans HU.out).trans HV.out))

set_option maxRecDepth 100000 in
set_option maxHeartbeats 2000000 in
theorem drawSymbolModulo_any (v : Value) (n : Nat) (w : World) (h : CodeIn w v n) : Calls Try.prog 34 #[v] w (Drew4 (fun a b p k => smallI a ∧ mildI b ∧ smallI p ∧ smallI k) w) := by
  go_enter Try.func34, Try.ntmps34
  go_wp2_with fail
  refine (open_any v n _ h).mono ?_
  rintro e w1 ⟨v1, n1, rfl, HR, HB⟩
  have hsz := HB.size
  go_wp2_with fail
  refine (pair_any _ _ _ _ 0 (by omega) _ HR (by omega)).mono ?_
  rintro e w2 ⟨a, b, y0, q, rfl, hx, hq, HA, HO⟩
  have hs2 := HO.out.size
  have ha := numOk_small hx.1
  have hb := parOk_small hx.1 hx.2.1
  clear hx
  go_wp2_with fail
  refine (pick_any _ _ _ _ q 6 (by omega) (by omega) (by omega) _ (HA.out)).mono ?_
  rintro e wHC ⟨t, r, rfl, ht0, ht1, _, hr, HC, HP⟩
  replace ht1 := ht1 (by omega)
  have hs3 := HP.out.size
  by_cases h0 : t = 0
  · have T : (t == 0) = true := by rw [beq_iff_eq]; exact h0
    clear h0
    go_wp2_with fail
    refine (pick_any _ _ _ _ r 4 (by omega) (by omega) (by omega) _ (HC.out)).mono ?_
    rintro e wHD ⟨x, s, rfl, hx0, hx1, _, hs, HD, HQ⟩
    replace hx1 := hx1 (by omega)
    go_wp2
    (try simp only [Exit.inBlock, Exit.then])
    refine bodyPost_ret (results_tmp4 rfl _ _ _) rfl ?_
    exact Drew4.mk ⟨by unfold smallI; omega, by unfold mildI; omega, by unfold smallI; omega, by unfold smallI; omega⟩ (only_below HB ((HO.out.trans HP.out).trans HQ.out))
  · have T : (t == 0) = false := by rw [beq_eq_false_iff_ne]; exact h0
    by_cases h1 : t = 1
    · have T1 : (t == 1) = true := by rw [beq_iff_eq]; exact h1
      clear h0 h1
      go_wp2_with fail
      refine (drawnPrime_any _ _ _ _ r (by omega) _ HC (by omega)).mono ?_
      rintro e w3 ⟨z, s, rfl, hz, hr, HD, HQ⟩
      have hs4 := HQ.out.size
      have hz2 := prOk_small hz
      clear hz
      go_wp2_with fail
      refine (pick_any _ _ _ _ s 3 (by omega) (by omega) (by omega) _ (HD.out)).mono ?_
      rintro e wHE ⟨x, u, rfl, hx0, hx1, _, hu, HE, HU⟩
      replace hx1 := hx1 (by omega)
      go_wp2
      (try simp only [Exit.inBlock, Exit.then])
      refine bodyPost_ret (results_tmp4 rfl _ _ _) rfl ?_
      exact Drew4.mk ⟨by unfold smallI; omega, by unfold mildI; omega, by unfold smallI; omega, by unfold smallI; omega⟩ (only_below HB (((HO.out.trans HP.out).trans HQ.out).trans HU.out))
    · have T1 : (t == 1) = false := by rw [beq_eq_false_iff_ne]; exact h1
      clear h0 h1
      go_wp2_with fail
      refine (pick_any _ _ _ _ r 3 (by omega) (by omega) (by omega) _ (HC.out)).mono ?_
      rintro e wHD ⟨x, s, rfl, hx0, hx1, _, hs, HD, HQ⟩
      replace hx1 := hx1 (by omega)
      go_wp2
      (try simp only [Exit.inBlock, Exit.then])
      refine bodyPost_ret (results_tmp4 rfl _ _ _) rfl ?_
      exact Drew4.mk ⟨by unfold smallI; omega, by unfold mildI; omega, by unfold smallI; omega, by unfold smallI; omega⟩ (only_below HB ((HO.out.trans HP.out).trans HQ.out))

set_option maxRecDepth 100000 in
set_option maxHeartbeats 2000000 in
theorem drawSymbolSame_any (v : Value) (n : Nat) (w : World) (h : CodeIn w v n) : Calls Try.prog 43 #[v] w (Drew4 (fun a b c d => smallI a ∧ mildI b ∧ mildI c ∧ mildI d) w) := by
  go_enter Try.func43, Try.ntmps43
  go_wp2_with fail
  refine (open_any v n _ h).mono ?_
  rintro e w1 ⟨v1, n1, rfl, HR, HB⟩
  have hsz := HB.size
  go_wp2_with fail
  refine (pair_any _ _ _ _ 0 (by omega) _ HR (by omega)).mono ?_
  rintro e w2 ⟨a, b, y0, q, rfl, hx, hq, HA, HO⟩
  have hs2 := HO.out.size
  have ha := numOk_small hx.1
  have hb := parOk_small hx.1 hx.2.1
  clear hx
  go_wp2_with fail
  refine (pick_any _ _ _ _ q 2 (by omega) (by omega) (by omega) _ (HA.out)).mono ?_
  rintro e wHC ⟨t, r, rfl, ht0, ht1, _, hr, HC, HP⟩
  replace ht1 := ht1 (by omega)
  have hs3 := HP.out.size
  by_cases h0 : t = 0
  · have T : (t == 0) = true := by rw [beq_iff_eq]; exact h0
    clear h0
    go_wp2
    (try simp only [Exit.inBlock, Exit.then])
    refine bodyPost_ret (results_tmp4 rfl _ _ _) rfl ?_
    exact Drew4.mk ⟨by unfold smallI; omega, by unfold mildI; omega, by unfold mildI; omega, by unfold mildI; omega⟩ (only_below HB (HO.out.trans HP.out))
  · have T : (t == 0) = false := by rw [beq_eq_false_iff_ne]; exact h0
    clear h0
    go_wp2_with fail
    refine (pair_any _ _ _ _ r (by omega) _ HC (by omega)).mono ?_
    rintro e w3 ⟨c, d, y1, s, rfl, hx, hs, HD, HQ⟩
    have hc := numOk_small hx.1
    have hd := parOk_small hx.1 hx.2.1
    clear hx
    go_wp2
    (try simp only [Exit.inBlock, Exit.then])
    refine bodyPost_ret (results_tmp4 rfl _ _ _) rfl ?_
    exact Drew4.mk ⟨by unfold smallI; omega, by unfold mildI; omega, by unfold mildI; omega, by unfold mildI; omega⟩ (only_below HB ((HO.out.trans HP.out).trans HQ.out))

end Go.Proofs.Ytdidmblkknnglaa
