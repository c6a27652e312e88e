/-
  Contracts of the model's chapter 3: signs, splits, norms.
-/
import Derived.Test.YtdidmblkknnglaaSym3
set_option linter.unusedVariables false
namespace Go.Proofs.Ytdidmblkknnglaa
open Go.RowKit


theorem symbolSignS_any (a b : Int) (w : World) : Calls Try.prog 29 #[.int .i64 a, .int .i64 b] w fun e w' => e = .returned (.int .i64 (sgnV a b)) ∧ Below w.heap.size w w' := by
  cases O : okAB a b with
  | false =>
    have HK : Hid (sgnV a b = 0) := hid (by unfold sgnV; rw [O]; rfl)
    go_enter Try.func29, Try.ntmps29
    go_wp2_with (go_at_call 58; refine (l3Ok_any _ _ _).mono ?_; rintro e w' ⟨rfl, rfl⟩)
    go_ret
    exact ⟨retI HK.out.symm, Below.refl _ _⟩
  | true =>
    have hl := @splL_len a b
    have HC : Hid (∀ w : World, Calls Try.prog 24 #[.int .i64 a, .int .i64 b] w fun e w' => ∃ v, e = .returned v ∧ Owns w' w.heap.size v (splL a b) ∧ Below w.heap.size w w') := hid (fun w => symbolPlacesS_any a b w)
    have HK : Hid (sgnV a b = halfI ((splL a b).length : Nat)) := hid (by unfold sgnV; rw [O]; rfl)
    obtain ⟨L, hL⟩ : ∃ L, L = splL a b := ⟨_, rfl⟩
    rw [← hL] at HC HK hl
    clear hL
    go_enter Try.func29, Try.ntmps29
    go_wp2_with (first | (go_at_call 58; refine (l3Ok_any _ _ _).mono ?_; rintro e w' ⟨rfl, rfl⟩) | (go_at_call 24; refine (HC.out _).mono ?_; rintro e w2 ⟨v, rfl, ho, hb⟩; have HB := hid hb; obtain ⟨ad, cap, rfl, hform⟩ := ho.rd.form; clear ho hb hform) | (go_at_call 67; refine (l3Half_any _ (by omega) (by omega) _).mono ?_; rintro e w' ⟨rfl, rfl⟩))
    go_ret
    exact ⟨retI HK.out.symm, HB.out⟩

theorem symbolSplitS_any (a b : Int) (w : World) : Calls Try.prog 42 #[.int .i64 a, .int .i64 b] w fun e w' => e = .returned (.bool (spltV a b)) ∧ Below w.heap.size w w' := by
  cases O : okAB a b with
  | false =>
    have HK : Hid (spltV a b = false) := hid (by unfold spltV; rw [O]; rfl)
    go_enter Try.func42, Try.ntmps42
    go_wp2_with (go_at_call 58; refine (l3Ok_any _ _ _).mono ?_; rintro e w' ⟨rfl, rfl⟩)
    go_ret
    exact ⟨retB HK.out.symm, Below.refl _ _⟩
  | true =>
    have HC : Hid (∀ w : World, Calls Try.prog 24 #[.int .i64 a, .int .i64 b] w fun e w' => ∃ v, e = .returned v ∧ Owns w' w.heap.size v (splL a b) ∧ Below w.heap.size w w') := hid (fun w => symbolPlacesS_any a b w)
    have HK : Hid (spltV a b = ((splL a b).length == 0)) := hid (by unfold spltV; rw [O]; rfl)
    obtain ⟨L, hL⟩ : ∃ L, L = splL a b := ⟨_, rfl⟩
    rw [← hL] at HC HK
    clear hL
    by_cases h0 : L.length = 0
    · have T : ((L.length : Int) == 0) = true := by rw [beq_iff_eq]; omega
      have HK2 : Hid (spltV a b = true) := hid (by rw [HK.out, h0]; rfl)
      clear h0
      go_enter Try.func42, Try.ntmps42
      go_wp2_with (first | (go_at_call 58; refine (l3Ok_any _ _ _).mono ?_; rintro e w' ⟨rfl, rfl⟩) | (go_at_call 24; refine (HC.out _).mono ?_; rintro e w2 ⟨v, rfl, ho, hb⟩; have HB := hid hb; obtain ⟨ad, cap, rfl, hform⟩ := ho.rd.form; clear ho hb hform))
      go_ret
      exact ⟨retB HK2.out.symm, HB.out⟩
    · have T : ((L.length : Int) == 0) = false := by rw [beq_eq_false_iff_ne]; omega
      have HK2 : Hid (spltV a b = false) := hid (by rw [HK.out, beq_eq_false_iff_ne]; exact h0)
      clear h0
      go_enter Try.func42, Try.ntmps42
      go_wp2_with (first | (go_at_call 58; refine (l3Ok_any _ _ _).mono ?_; rintro e w' ⟨rfl, rfl⟩) | (go_at_call 24; refine (HC.out _).mono ?_; rintro e w2 ⟨v, rfl, ho, hb⟩; have HB := hid hb; obtain ⟨ad, cap, rfl, hform⟩ := ho.rd.form; clear ho hb hform))
      go_ret
      exact ⟨retB HK2.out.symm, HB.out⟩

set_option maxHeartbeats 1000000 in
theorem symbolNormS_any (a q : Int) (w : World) : Calls Try.prog 48 #[.int .i64 a, .int .i64 q] w fun e w' => e = .returned (.int .i64 (normV a q)) ∧ Below w.heap.size w w' := by
  rcases okAt_cases a q with ⟨h1, h2, h0, hq, O⟩ | O
  · have HK : Hid (normV a q = ((normC a q : Nat) : Int)) := hid (by unfold normV; rw [O]; rfl)
    have HD : Hid (normC a q = ((namesOf q).filter (fun m => decide (symV a m q = 1))).length) := rfl
    have H0 := hid h0
    have HQ := hid hq
    have HN := hid (names_bd hq)
    have HZ := hid (names_ne hq)
    have hl8 : (namesOf q).length ≤ 8 := by
      rw [names_len hq]; unfold clsList; split; (· decide); (· split <;> decide)
    have HC : Hid (∀ w : World, Calls Try.prog 82 #[.int .i64 q] w fun e w' => ∃ v, e = .returned v ∧ Owns w' w.heap.size v (namesOf q) ∧ Below w.heap.size w w') := hid (fun w => l2Names_any q hq w)
    obtain ⟨L, hL⟩ : ∃ L, L = namesOf q := ⟨_, rfl⟩
    rw [← hL] at HD HN HZ HC hl8
    clear hL h0 hq
    go_enter Try.func48, Try.ntmps48
    go_wp2_with (first | (go_at_call 81; refine (l2Ok_any _ _ _).mono ?_; rintro e w' ⟨rfl, rfl⟩) | (go_at_call 82; refine (HC.out _).mono ?_; rintro e w2 ⟨v, rfl, ho, hb⟩; have HB := hid hb; obtain ⟨ad, cap, rfl, hform⟩ := ho.rd.form; have HF := hid hform; clear ho hb hform))
    go_loopw [5, 7] (fun sn si wr => ∃ K : Nat, si = .int .i64 K ∧ K ≤ L.length ∧ sn = .int .i64 (((L.take K).filter (fun m => decide (symV a m q = 1))).length : Nat) ∧ wr = w2) (fun _ si _ => L.length - (intOf si).toNat)
    case atStart => exact ⟨0, rfl, by omega, rfl, rfl⟩
    case round =>
      obtain ⟨K, rfl, hK, rfl, rfl⟩ := hrel
      by_cases hlt : K < L.length
      · obtain ⟨bb, o, rfl, hml, hc⟩ := HF.out (by omega)
        obtain ⟨x, hx⟩ : ∃ x, x = L.getD K 0 := ⟨_, rfl⟩
        have hxm : x ∈ L := by rw [hx, getD_at _ _ hlt]; exact List.getElem_mem _
        have c1 := hc K hlt
        rw [← hx] at c1
        have hxb := HN.out x hxm
        have hx1 := hxb.1
        have hx2 := hxb.2
        have HX0 := hid (HZ.out x hxm)
        have hstep := filter_step (f := fun m => decide (symV a m q = 1)) hlt
        rw [← hx] at hstep
        have hfl := filter_len (f := fun m => decide (symV a m q = 1)) (show K ≤ L.length by omega)
        obtain ⟨c, hcc⟩ : ∃ c, c = ((L.take K).filter (fun m => decide (symV a m q = 1))).length := ⟨_, rfl⟩
        rw [← hcc] at hfl ⊢
        have HCC := hid hcc
        have HS := hid hstep
        have hi : (K : Int) < (L.length : Int) := by omega
        unfold maxLen at hml
        clear hc hx hxm hxb hstep hcc
        by_cases hs : symV a x q = 1
        · have HSS := hid hs
          have HE : Hid (((L.take (K + 1)).filter (fun m => decide (symV a m q = 1))).length = c + 1) := hid (by rw [HS.out, hs, List.length_append, ← HCC.out]; rfl)
          clear hs
          go_wp2_with (go_at_call 60; refine (l3Symbol_any _ _ _ H0.out HX0.out (by omega) (by omega) (by omega) (by omega) HQ.out _).mono ?_; rw [HSS.out]; rintro e w' ⟨rfl, rfl⟩)
          go_round
          case measure => simp only [intOf]; omega
          case rel => exact ⟨K + 1, by go_num, by omega, by rw [HE.out]; go_num, by first | rfl | trivial⟩
        · have T : (symV a x q == 1) = false := by rw [beq_eq_false_iff_ne]; exact hs
          have HE : Hid (((L.take (K + 1)).filter (fun m => decide (symV a m q = 1))).length = c) := hid (by rw [HS.out, decide_eq_false hs, List.length_append, ← HCC.out]; rfl)
          clear hs
          go_wp2_with (go_at_call 60; refine (l3Symbol_any _ _ _ H0.out HX0.out (by omega) (by omega) (by omega) (by omega) HQ.out _).mono ?_; rintro e w' ⟨rfl, rfl⟩)
          go_round
          case measure => simp only [intOf]; omega
          case rel => exact ⟨K + 1, by go_num, by omega, by rw [HE.out], by first | rfl | trivial⟩
      · obtain rfl : K = L.length := by omega
        have HE : Hid (normV a q = (((L.take L.length).filter (fun m => decide (symV a m q = 1))).length : Nat)) := hid (by rw [HK.out, HD.out, List.take_length])
        clear hlt
        go_wp2
        go_ret
        exact ⟨retI HE.out.symm, HB.out⟩
  · have HK : Hid (normV a q = -1) := hid (by unfold normV; rw [O]; rfl)
    go_enter Try.func48, Try.ntmps48
    go_wp2_with (go_at_call 81; refine (l2Ok_any _ _ _).mono ?_; rintro e w' ⟨rfl, rfl⟩)
    go_ret
    exact ⟨retI HK.out.symm, Below.refl _ _⟩

end Go.Proofs.Ytdidmblkknnglaa
