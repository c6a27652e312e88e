/-
  Some texts in one file: Sym6 Sym7 Draws4.
-/
import Derived.Test.YtciajpimpjpnfacBun33
import Derived.BigQuiet
import Derived.Test.YtciajpimpjpnfacBun36
/-! Sym6 -/
set_option linter.unusedVariables false
namespace Go.Proofs.Ytciajpimpjpnfac
open Go.RowKit



end Go.Proofs.Ytciajpimpjpnfac

/-! Sym7 -/
set_option linter.unusedVariables false
namespace Go.Proofs.Ytciajpimpjpnfac
open Go.RowKit



set_option maxRecDepth 100000 in
set_option maxHeartbeats 2000000 in
theorem symbolModuloS_any (a b p k : Int) (w : World) : Calls Try.prog 28 #[.int .i64 a, .int .i64 b, .int .i64 p, .int .i64 k] w fun e w' => e = .returned (.bool (smodV a b p k)) ∧ w = w' := by
  rcases okAB_cases a b with ⟨a1, a2, a0, b1, b2, b0, O⟩ | O
  · clear a0 b0
    cases hp : primeI p with
    | false =>
      have HK := hid (smodV_no (k := k) (show modOk a b p k = false by unfold modOk; rw [hp, Bool.false_and, Bool.and_false]))
      go_enter Try.func28, Try.ntmps28
      go_wp2_with (first | (go_at_call 57; refine (l3Ok_any _ _ _).mono ?_; rintro e w' ⟨rfl, rfl⟩) | (go_at_call 58; refine (primeIsS_any _ _).mono ?_; rintro e w' ⟨rfl, rfl⟩) | (go_at_call 59; refine (l6In_any _ _ _ _).mono ?_; rintro e w' ⟨rfl, rfl⟩))
      go_ret
      exact ⟨retB HK.out.symm, rfl⟩
    | true =>
      have hpb := primeI_bd hp
      obtain ⟨P, rfl⟩ := Int.eq_ofNat_of_zero_le (show 0 ≤ p by omega)
      by_cases hp31 : 31 < (P : Int)
      · have HK := hid (smodV_no (k := k) (show modOk a b (P : Int) k = false by unfold modOk; rw [decide_eq_false (by omega : ¬ (P : Int) ≤ 31), Bool.false_and, Bool.and_false, Bool.and_false]))
        go_enter Try.func28, Try.ntmps28
        go_wp2_with (first | (go_at_call 57; refine (l3Ok_any _ _ _).mono ?_; rintro e w' ⟨rfl, rfl⟩) | (go_at_call 58; refine (primeIsS_any _ _).mono ?_; rintro e w' ⟨rfl, rfl⟩) | (go_at_call 59; refine (l6In_any _ _ _ _).mono ?_; rintro e w' ⟨rfl, rfl⟩))
        go_ret
        exact ⟨retB HK.out.symm, rfl⟩
      · rcases inR_cases k 1 5 with ⟨k1, k2, hI⟩ | ⟨k1, hI⟩ | ⟨k1, k2, hI⟩
        · obtain ⟨K, rfl⟩ := Int.eq_ofNat_of_zero_le (show 0 ≤ k by omega)
          have HO : Hid (smodV a b (P : Int) (K : Int) = (decide (P ^ K ≤ 32) && anyHit a b P (P ^ K))) := hid (by
            unfold smodV modOk
            rw [O, hp, hI, decide_eq_true (by omega : (P : Int) ≤ 31)]
            rfl)
          have hP2 : 2 ≤ P := by omega
          have hP31 : P ≤ 31 := by omega
          have hK5 : K ≤ 5 := by omega
          go_enter Try.func28, Try.ntmps28
          go_wp2_with (first | (go_at_call 57; refine (l3Ok_any _ _ _).mono ?_; rintro e w' ⟨rfl, rfl⟩) | (go_at_call 58; refine (primeIsS_any _ _).mono ?_; rintro e w' ⟨rfl, rfl⟩) | (go_at_call 59; refine (l6In_any _ _ _ _).mono ?_; rintro e w' ⟨rfl, rfl⟩))
          go_loopw [9, 10] (fun sm si wr => ∃ i m : Nat, si = .int .i64 i ∧ i ≤ K ∧ sm = .int .i64 m ∧ Hid (m = P ^ i) ∧ wr = w) (fun _ si _ => K - (intOf si).toNat)
          case atStart => exact ⟨0, 1, rfl, by omega, rfl, hid rfl, rfl⟩
          case round =>
            obtain ⟨i, m, rfl, hi, rfl, HM, rfl⟩ := hrel
            rename World => w
            have hmb : m ≤ 31 ^ 5 := by
              rw [HM.out]
              exact Nat.le_trans (Nat.pow_le_pow_left hP31 i) (Nat.pow_le_pow_right (by omega) (by omega))
            have h315 : 31 ^ 5 = 28629151 := by decide
            by_cases hlt : i < K
            · have hmP := Nat.mul_le_mul hmb hP31
              have e1 : (m : Int) * (P : Int) = ((m * P : Nat) : Int) := by push_cast; rfl
              have m1 : 0 ≤ (m : Int) * (P : Int) := by rw [e1]; omega
              have m2 : (m : Int) * (P : Int) ≤ 887503681 := by rw [e1]; omega
              have hi0 : (i : Int) < (K : Int) := by omega
              clear e1 hmP hmb h315
              go_wp2_with fail
              go_round
              case measure => simp only [intOf]; omega
              case rel => exact ⟨i + 1, m * P, by go_num, by omega, vI (by push_cast; go_num), hid (by rw [HM.out, Nat.pow_succ]), by first | rfl | trivial⟩
            · obtain rfl : i = K := by omega
              rw [← HM.out] at HO
              clear hlt hmb h315 HM
              by_cases hm32 : m ≤ 32
              · have HV : Hid (smodV a b (P : Int) (i : Int) = anyHit a b P m) := hid (by rw [HO.out, decide_eq_true hm32, Bool.true_and])
                have hm32i : ¬ ((32 : Int) < (m : Int)) := by omega
                go_wp2_with fail
                go_loopw [11] (fun sx wr => ∃ X : Nat, sx = .int .i64 X ∧ X ≤ m ∧ Hid (NoHit a b P m X 0 0) ∧ wr = w) (fun sx _ => m - (intOf sx).toNat)
                case atStart => exact ⟨0, rfl, by omega, hid (fun u v t _ _ _ h => by omega), rfl⟩
                case round =>
                  obtain ⟨X, rfl, hX, HNX, rfl⟩ := hrel
                  rename World => w
                  by_cases hx : X < m
                  · have hX0 : (X : Int) < (m : Int) := by omega
                    go_wp2_with fail
                    go_loopw [12] (fun sy wr => ∃ Y : Nat, sy = .int .i64 Y ∧ Y ≤ m ∧ Hid (NoHit a b P m X Y 0) ∧ wr = w) (fun sy _ => m - (intOf sy).toNat)
                    case atStart => exact ⟨0, rfl, by omega, HNX, rfl⟩
                    case round =>
                      obtain ⟨Y, rfl, hY, HNY, rfl⟩ := hrel
                      rename World => w
                      by_cases hy : Y < m
                      · have hY0 : (Y : Int) < (m : Int) := by omega
                        go_wp2_with fail
                        go_loopw [13] (fun sz wr => ∃ Z : Nat, sz = .int .i64 Z ∧ Z ≤ m ∧ Hid (NoHit a b P m X Y Z) ∧ wr = w) (fun sz _ => m - (intOf sz).toNat)
                        case atStart => exact ⟨0, rfl, by omega, HNY, rfl⟩
                        case round =>
                          obtain ⟨Z, rfl, hZ, HNZ, rfl⟩ := hrel
                          rename World => w
                          by_cases hz : Z < m
                          · have hZ0 : (Z : Int) < (m : Int) := by omega
                            obtain ⟨p1, p2, p3, p4⟩ := tri_bd a1 a2 hX hm32
                            obtain ⟨q1, q2, q3, q4⟩ := tri_bd b1 b2 hY hm32
                            have hzz := mul_bd (show Z ≤ 32 by omega) (show Z ≤ 32 by omega)
                            have z1 := hzz.1
                            have z2 := hzz.2
                            have hmm : ∀ n : Nat, ((n : Int) % (P : Int) != 0) = (n % P != 0) := fun n => by
                              rw [Bool.eq_iff_iff, bne_iff_ne, bne_iff_ne]
                              constructor
                              · intro h e; exact h (by rw [← Int.natCast_emod, e]; rfl)
                              · intro h e; exact h (by exact_mod_cast e)
                            have hx2 := hmm X
                            have hy2 := hmm Y
                            have hz2 := hmm Z
                            have HD : Hid (hitB a b P m X Y Z = ((X % P != 0 || (Y % P != 0 || Z % P != 0)) && ((a * (X : Int) * (X : Int) + b * (Y : Int) * (Y : Int) - (Z : Int) * (Z : Int)) % (m : Int) == 0))) := rfl
                            clear hmm hzz
                            cases hE : ((a * (X : Int) * (X : Int) + b * (Y : Int) * (Y : Int) - (Z : Int) * (Z : Int)) % (m : Int) == 0) with
                            | true =>
                              cases gX : (X % P != 0) with
                              | true =>
                                rw [gX] at hx2
                                have HT : Hid (smodV a b (P : Int) (i : Int) = true) := hid (by rw [HV.out]; exact anyHit_yes hx hy hz (by rw [HD.out, hE, gX]; rfl))
                                go_wp2_with (go_at_call 60; refine (l1Mod_any _ _ (by omega) (by omega) (by omega) (by omega) _).mono ?_; rintro e w' ⟨rfl, rfl⟩)
                                go_ret
                                exact ⟨retB HT.out.symm, rfl⟩
                              | false =>
                                rw [gX] at hx2
                                cases gY : (Y % P != 0) with
                                | true =>
                                  rw [gY] at hy2
                                  have HT : Hid (smodV a b (P : Int) (i : Int) = true) := hid (by rw [HV.out]; exact anyHit_yes hx hy hz (by rw [HD.out, hE, gX, gY]; rfl))
                                  go_wp2_with (go_at_call 60; refine (l1Mod_any _ _ (by omega) (by omega) (by omega) (by omega) _).mono ?_; rintro e w' ⟨rfl, rfl⟩)
                                  go_ret
                                  exact ⟨retB HT.out.symm, rfl⟩
                                | false =>
                                  rw [gY] at hy2
                                  cases gZ : (Z % P != 0) with
                                  | true =>
                                    rw [gZ] at hz2
                                    have HT : Hid (smodV a b (P : Int) (i : Int) = true) := hid (by rw [HV.out]; exact anyHit_yes hx hy hz (by rw [HD.out, hE, gX, gY, gZ]; rfl))
                                    go_wp2_with (go_at_call 60; refine (l1Mod_any _ _ (by omega) (by omega) (by omega) (by omega) _).mono ?_; rintro e w' ⟨rfl, rfl⟩)
                                    go_ret
                                    exact ⟨retB HT.out.symm, rfl⟩
                                  | false =>
                                    rw [gZ] at hz2
                                    have HN2 := hid (noHit_z HNZ.out (show hitB a b P m X Y Z = false by rw [HD.out, gX, gY, gZ]; rfl))
                                    go_wp2_with (go_at_call 60; refine (l1Mod_any _ _ (by omega) (by omega) (by omega) (by omega) _).mono ?_; rintro e w' ⟨rfl, rfl⟩)
                                    go_round
                                    case measure => simp only [intOf]; omega
                                    case rel => exact ⟨Z + 1, by go_num, by omega, HN2, by first | rfl | trivial⟩
                            | false =>
                              cases gX : (X % P != 0) with
                              | true =>
                                rw [gX] at hx2
                                have HN2 := hid (noHit_z HNZ.out (show hitB a b P m X Y Z = false by rw [HD.out, hE, Bool.and_false]))
                                go_wp2_with (go_at_call 60; refine (l1Mod_any _ _ (by omega) (by omega) (by omega) (by omega) _).mono ?_; rintro e w' ⟨rfl, rfl⟩)
                                go_round
                                case measure => simp only [intOf]; omega
                                case rel => exact ⟨Z + 1, by go_num, by omega, HN2, by first | rfl | trivial⟩
                              | false =>
                                rw [gX] at hx2
                                cases gY : (Y % P != 0) with
                                | true =>
                                  rw [gY] at hy2
                                  have HN2 := hid (noHit_z HNZ.out (show hitB a b P m X Y Z = false by rw [HD.out, hE, Bool.and_false]))
                                  go_wp2_with (go_at_call 60; refine (l1Mod_any _ _ (by omega) (by omega) (by omega) (by omega) _).mono ?_; rintro e w' ⟨rfl, rfl⟩)
                                  go_round
                                  case measure => simp only [intOf]; omega
                                  case rel => exact ⟨Z + 1, by go_num, by omega, HN2, by first | rfl | trivial⟩
                                | false =>
                                  rw [gY] at hy2
                                  cases gZ : (Z % P != 0) with
                                  | true =>
                                    rw [gZ] at hz2
                                    have HN2 := hid (noHit_z HNZ.out (show hitB a b P m X Y Z = false by rw [HD.out, hE, Bool.and_false]))
                                    go_wp2_with (go_at_call 60; refine (l1Mod_any _ _ (by omega) (by omega) (by omega) (by omega) _).mono ?_; rintro e w' ⟨rfl, rfl⟩)
                                    go_round
                                    case measure => simp only [intOf]; omega
                                    case rel => exact ⟨Z + 1, by go_num, by omega, HN2, by first | rfl | trivial⟩
                                  | false =>
                                    rw [gZ] at hz2
                                    have HN2 := hid (noHit_z HNZ.out (show hitB a b P m X Y Z = false by rw [HD.out, gX, gY, gZ]; rfl))
                                    go_wp2_with (go_at_call 60; refine (l1Mod_any _ _ (by omega) (by omega) (by omega) (by omega) _).mono ?_; rintro e w' ⟨rfl, rfl⟩)
                                    go_round
                                    case measure => simp only [intOf]; omega
                                    case rel => exact ⟨Z + 1, by go_num, by omega, HN2, by first | rfl | trivial⟩
                          · obtain rfl : Z = m := by omega
                            clear hz
                            go_wp2_with fail
                            go_round
                            case measure => simp only [intOf]; omega
                            case rel => exact ⟨Y + 1, by go_num, by omega, hid (noHit_y HNZ.out), by first | rfl | trivial⟩
                      · obtain rfl : Y = m := by omega
                        clear hy
                        go_wp2_with fail
                        go_round
                        case measure => simp only [intOf]; omega
                        case rel => exact ⟨X + 1, by go_num, by omega, hid (noHit_x HNY.out), by first | rfl | trivial⟩
                  · obtain rfl : X = m := by omega
                    have HF : Hid (smodV a b (P : Int) (i : Int) = false) := hid (by rw [HV.out]; exact anyHit_no HNX.out)
                    clear hx
                    go_wp2_with fail
                    go_ret
                    exact ⟨retB HF.out.symm, rfl⟩
              · have HF : Hid (smodV a b (P : Int) (i : Int) = false) := hid (by rw [HO.out, decide_eq_false hm32, Bool.false_and])
                have hm32i : (32 : Int) < (m : Int) := by omega
                clear hm32
                go_wp2_with fail
                go_ret
                exact ⟨retB HF.out.symm, rfl⟩
        · have HK := hid (smodV_no (show modOk a b (P : Int) k = false by unfold modOk; rw [hI, Bool.and_false, Bool.and_false, Bool.and_false]))
          go_enter Try.func28, Try.ntmps28
          go_wp2_with (first | (go_at_call 57; refine (l3Ok_any _ _ _).mono ?_; rintro e w' ⟨rfl, rfl⟩) | (go_at_call 58; refine (primeIsS_any _ _).mono ?_; rintro e w' ⟨rfl, rfl⟩) | (go_at_call 59; refine (l6In_any _ _ _ _).mono ?_; rintro e w' ⟨rfl, rfl⟩))
          go_ret
          exact ⟨retB HK.out.symm, rfl⟩
        · have HK := hid (smodV_no (show modOk a b (P : Int) k = false by unfold modOk; rw [hI, Bool.and_false, Bool.and_false, Bool.and_false]))
          go_enter Try.func28, Try.ntmps28
          go_wp2_with (first | (go_at_call 57; refine (l3Ok_any _ _ _).mono ?_; rintro e w' ⟨rfl, rfl⟩) | (go_at_call 58; refine (primeIsS_any _ _).mono ?_; rintro e w' ⟨rfl, rfl⟩) | (go_at_call 59; refine (l6In_any _ _ _ _).mono ?_; rintro e w' ⟨rfl, rfl⟩))
          go_ret
          exact ⟨retB HK.out.symm, rfl⟩
  · have HK := hid (smodV_no (p := p) (k := k) (show modOk a b p k = false by unfold modOk; rw [O, Bool.false_and]))
    go_enter Try.func28, Try.ntmps28
    go_wp2_with (first | (go_at_call 57; refine (l3Ok_any _ _ _).mono ?_; rintro e w' ⟨rfl, rfl⟩) | (go_at_call 58; refine (primeIsS_any _ _).mono ?_; rintro e w' ⟨rfl, rfl⟩) | (go_at_call 59; refine (l6In_any _ _ _ _).mono ?_; rintro e w' ⟨rfl, rfl⟩))
    go_ret
    exact ⟨retB HK.out.symm, rfl⟩

end Go.Proofs.Ytciajpimpjpnfac

/-! Draws4 -/
set_option linter.unusedVariables false
namespace Go.Proofs.Ytciajpimpjpnfac
open Go.RowKit

theorem results_tmp4 {fn : Func} {t u v x : Tmp} (h : fn.results = #[.tmp t, .tmp u, .tmp v, .tmp x]) (tmps : Array Value) (P : Program) (w : World) :
    (results fn tmps).run P w = .ok (.tuple #[tmps.getD t undef, tmps.getD u undef, tmps.getD v undef, tmps.getD x undef]) w := by
  simp [results, h]
theorem results_tmp5 {fn : Func} {t u v x y : Tmp} (h : fn.results = #[.tmp t, .tmp u, .tmp v, .tmp x, .tmp y]) (tmps : Array Value) (P : Program) (w : World) :
    (results fn tmps).run P w = .ok (.tuple #[tmps.getD t undef, tmps.getD u undef, tmps.getD v undef, tmps.getD x undef, tmps.getD y undef]) w := by
  simp [results, h]
def Drew4 (P : Int → Int → Int → Int → Prop) (w : World) (e : Ending) (w' : World) : Prop := ∃ x y z u : Int, e = .returned (.tuple #[.int .i64 x, .int .i64 y, .int .i64 z, .int .i64 u]) ∧ P x y z u ∧ Below w.heap.size w w'
def Drew5 (P : Int → Int → Int → Int → Int → Prop) (w : World) (e : Ending) (w' : World) : Prop := ∃ x y z u v : Int, e = .returned (.tuple #[.int .i64 x, .int .i64 y, .int .i64 z, .int .i64 u, .int .i64 v]) ∧ P x y z u v ∧ Below w.heap.size w w'
theorem Drew4.mk {P : Int → Int → Int → Int → Prop} {w w' : World} {x y z u : Int} (h : P x y z u) (hb : Below w.heap.size w w') : Drew4 P w (.returned (.tuple #[.int .i64 x, .int .i64 y, .int .i64 z, .int .i64 u])) w' := ⟨x, y, z, u, rfl, h, hb⟩
theorem Drew5.mk {P : Int → Int → Int → Int → Int → Prop} {w w' : World} {x y z u v : Int} (h : P x y z u v) (hb : Below w.heap.size w w') : Drew5 P w (.returned (.tuple #[.int .i64 x, .int .i64 y, .int .i64 z, .int .i64 u, .int .i64 v])) w' := ⟨x, y, z, u, v, rfl, h, hb⟩
def mildI (x : Int) : Prop := -2000000 ≤ x ∧ x ≤ 2000000

set_option maxRecDepth 100000 in
set_option maxHeartbeats 2000000 in
theorem drawSymbolModulo_any (v : Value) (n : Nat) (w : World) (h : CodeIn w v n) : Calls Try.prog 26 #[v] w (Drew4 (fun a b p k => smallI a ∧ mildI b ∧ smallI p ∧ smallI k) w) := by
  go_enter Try.func26, Try.ntmps26
  go_wp2_with fail
  refine (open_any v n _ h).mono ?_
  rintro e w1 ⟨v1, n1, rfl, HR, HB⟩
  have hsz := HB.size
  go_wp2_with fail
  refine (pair_any _ _ _ _ 0 (by omega) _ HR (by omega)).mono ?_
  rintro e w2 ⟨a, b, y0, q, rfl, hx, hq, HA, HO⟩
  have hs2 := HO.out.size
  have ha := numOk_small hx.1
  have hb := parOk_small hx.1 hx.2.1
  clear hx
  go_wp2_with fail
  refine (pick_any _ _ _ _ q 6 (by omega) (by omega) (by omega) _ (HA.out)).mono ?_
  rintro e wHC ⟨t, r, rfl, ht0, ht1, _, hr, HC, HP⟩
  replace ht1 := ht1 (by omega)
  have hs3 := HP.out.size
  by_cases h0 : t = 0
  · have T : (t == 0) = true := by rw [beq_iff_eq]; exact h0
    clear h0
    go_wp2_with fail
    refine (pick_any _ _ _ _ r 4 (by omega) (by omega) (by omega) _ (HC.out)).mono ?_
    rintro e wHD ⟨x, s, rfl, hx0, hx1, _, hs, HD, HQ⟩
    replace hx1 := hx1 (by omega)
    go_wp2
    (try simp only [Exit.inBlock, Exit.then])
    refine bodyPost_ret (results_tmp4 rfl _ _ _) rfl ?_
    exact Drew4.mk ⟨by unfold smallI; omega, by unfold mildI; omega, by unfold smallI; omega, by unfold smallI; omega⟩ (only_below HB ((HO.out.trans HP.out).trans HQ.out))
  · have T : (t == 0) = false := by rw [beq_eq_false_iff_ne]; exact h0
    by_cases h1 : t = 1
    · have T1 : (t == 1) = true := by rw [beq_iff_eq]; exact h1
      clear h0 h1
      go_wp2_with fail
      refine (drawnPrime_any _ _ _ _ r (by omega) _ HC (by omega)).mono ?_
      rintro e w3 ⟨z, s, rfl, hz, hr, HD, HQ⟩
      have hs4 := HQ.out.size
      have hz2 := prOk_small hz
      clear hz
      go_wp2_with fail
      refine (pick_any _ _ _ _ s 3 (by omega) (by omega) (by omega) _ (HD.out)).mono ?_
      rintro e wHE ⟨x, u, rfl, hx0, hx1, _, hu, HE, HU⟩
      replace hx1 := hx1 (by omega)
      go_wp2
      (try simp only [Exit.inBlock, Exit.then])
      refine bodyPost_ret (results_tmp4 rfl _ _ _) rfl ?_
      exact Drew4.mk ⟨by unfold smallI; omega, by unfold mildI; omega, by unfold smallI; omega, by unfold smallI; omega⟩ (only_below HB (((HO.out.trans HP.out).trans HQ.out).trans HU.out))
    · have T1 : (t == 1) = false := by rw [beq_eq_false_iff_ne]; exact h1
      clear h0 h1
      go_wp2_with fail
      refine (pick_any _ _ _ _ r 3 (by omega) (by omega) (by omega) _ (HC.out)).mono ?_
      rintro e wHD ⟨x, s, rfl, hx0, hx1, _, hs, HD, HQ⟩
      replace hx1 := hx1 (by omega)
      go_wp2
      (try simp only [Exit.inBlock, Exit.then])
      refine bodyPost_ret (results_tmp4 rfl _ _ _) rfl ?_
      exact Drew4.mk ⟨by unfold smallI; omega, by unfold mildI; omega, by unfold smallI; omega, by unfold smallI; omega⟩ (only_below HB ((HO.out.trans HP.out).trans HQ.out))

end Go.Proofs.Ytciajpimpjpnfac
