/-
  Contracts of the program's chapter 3: names of which the symbol is 1.
-/
import Derived.Test.YtdidmblkknnglaaImp3B
set_option linter.unusedVariables false
namespace Go.Proofs.Ytdidmblkknnglaa
open Go.RowKit Go.Shelf
attribute [local go_sem] Oper.semAt_some

set_option maxRecDepth 100000 in
set_option maxHeartbeats 4000000 in
theorem symbolNorm_any (a q : Int) (w : World) : Calls Try.prog 47 #[.int .i64 a, .int .i64 q] w fun e w' => e = .returned (.int .i64 (normV a q)) ∧ Below w.heap.size w w' := by
  cases hA : factB a with
  | false =>
    have HA := hid hA
    have HP : Hid (normV a q = -1) := hid (by unfold normV okAt; rw [hA]; rfl)
    clear hA
    go_enter Try.func47, Try.ntmps47
    go_wp2_with (go_at_call 55; refine (factored_any _ _).mono ?_; rw [HA.out]; rintro e w' ⟨rfl, rfl⟩)
    go_ret
    exact ⟨retI HP.out.symm, Below.refl _ _⟩
  | true =>
    cases hQ : plI q with
    | false =>
      have HA := hid hA
      have HQ := hid hQ
      have HP : Hid (normV a q = -1) := hid (by unfold normV okAt; rw [hA, hQ]; rfl)
      clear hA hQ
      go_enter Try.func47, Try.ntmps47
      go_wp2_with (first | (go_at_call 55; refine (factored_any _ _).mono ?_; rw [HA.out]; rintro e w' ⟨rfl, rfl⟩) | (go_at_call 56; refine (plValid_any _ _).mono ?_; rw [HQ.out]; rintro e w1 ⟨rfl, hb1⟩))
      go_ret
      exact ⟨retI HP.out.symm, hb1⟩
    | true =>
      obtain ⟨a0, a1, a2⟩ := factB_bd hA
      have H0 := hid a0
      have HA := hid hA
      have HQ := hid hQ
      have HK : Hid (normV a q = ((normC a q : Nat) : Int)) := hid (by unfold normV okAt; rw [hA, hQ]; rfl)
      have HD : Hid (normC a q = ((namesOf q).filter (fun m => decide (symV a m q = 1))).length) := rfl
      have HN := hid (names_bd hQ)
      have HZ := hid (names_ne hQ)
      have hl8 : (namesOf q).length ≤ 8 := by
        rw [names_len hQ]; unfold clsList; split; (· decide); (· split <;> decide)
      have HSV : Hid (∀ x ∈ namesOf q, symV a x q = 1 ∨ symV a x q = -1) := hid (fun x hx => symV_val a0 (names_ne hQ x hx) hQ)
      have HC : Hid (∀ w : World, Calls Try.prog 63 #[.int .i64 q] w fun e w' => ∃ v, e = .returned v ∧ Owns w' w.heap.size v (namesOf q) ∧ Below w.heap.size w w') := hid (fun w => plNames_any q hQ w)
      obtain ⟨L, hL⟩ : ∃ L, L = namesOf q := ⟨_, rfl⟩
      rw [← hL] at HD HN HZ HC HSV hl8
      clear hL a0 hA hQ
      go_enter Try.func47, Try.ntmps47
      go_wp2_with (first | (go_at_call 55; refine (factored_any _ _).mono ?_; rw [HA.out]; rintro e w' ⟨rfl, rfl⟩) | (go_at_call 56; refine (plValid_any _ _).mono ?_; rw [HQ.out]; rintro e w1 ⟨rfl, hb1⟩))
      refine (symbolAt_any q HQ.out _).mono ?_
      rintro e w2 ⟨fv, rfl, hfs, hb2⟩
      rcases hfs with ⟨rfl, rfl⟩ | ⟨rfl, rfl⟩ | ⟨P, C, rfl, hP, hp3, rfl, hC1, hC2, hC3c⟩
      · skip
        go_wp2_with (go_at_call 63; refine (HC.out _).mono ?_; rintro e w3 ⟨v, rfl, ho, hb3⟩; have HB := hid (hb1.trans ((hb2.mono hb1.size).trans (hb3.mono (Nat.le_trans hb1.size hb2.size)))); obtain ⟨ad, cap, rfl, hform⟩ := ho.rd.form; have HF := hid hform; clear ho hb3 hform)
        go_loopw [6, 22] (fun sn si wr => ∃ K : Nat, si = .int .i64 K ∧ K ≤ L.length ∧ sn = .int .i64 (((L.take K).filter (fun m => decide (symV a m (0 : Int) = 1))).length : Nat) ∧ wr = w3) (fun _ si _ => L.length - (intOf si).toNat)
        case atStart => exact ⟨0, rfl, by omega, rfl, rfl⟩
        case round =>
          obtain ⟨K, rfl, hK, rfl, rfl⟩ := hrel
          by_cases hlt : K < L.length
          · obtain ⟨bb, o, rfl, hml, hc⟩ := HF.out (by omega)
            obtain ⟨x, hx⟩ : ∃ x, x = L.getD K 0 := ⟨_, rfl⟩
            have hxm : x ∈ L := by rw [hx, getD_at _ _ hlt]; exact List.getElem_mem _
            have c1 := hc K hlt
            rw [← hx] at c1
            have hxb := HN.out x hxm
            have hx1 := hxb.1
            have hx2 := hxb.2
            have HX0 := hid (HZ.out x hxm)
            have hi : (K : Int) < (L.length : Int) := by omega
            have HX := hid hx
            have HV2 := hid (HSV.out x hxm)
            unfold maxLen at hml
            have hstep := filter_step (f := (fun m => decide (symV a m (0 : Int) = 1))) hlt
            rw [← hx] at hstep
            have hfl := filter_len (f := (fun m => decide (symV a m (0 : Int) = 1))) (show K ≤ L.length by omega)
            obtain ⟨c, hcc⟩ : ∃ c, c = ((L.take K).filter (fun m => decide (symV a m (0 : Int) = 1))).length := ⟨_, rfl⟩
            rw [← hcc] at hfl ⊢
            have HCC := hid hcc
            have HS := hid hstep
            clear hc hx hxm hxb hstep hcc
            rcases HV2.out with hs | hs
            · have HSS := hid hs
              have HE : Hid (((L.take (K + 1)).filter (fun m => decide (symV a m (0 : Int) = 1))).length = c + 1) := hid (by rw [HS.out, hs, List.length_append, ← HCC.out]; rfl)
              clear hs
              go_wp2_with (go_at_call 86; refine (symZero_any _ _ H0.out HX0.out _).mono ?_; rw [HSS.out]; rintro e w' ⟨rfl, rfl⟩)
              go_round
              case measure => simp only [intOf]; omega
              case rel => exact ⟨K + 1, by go_num, by omega, by rw [HE.out]; go_num, by first | rfl | trivial⟩
            · have HSS := hid hs
              have HE : Hid (((L.take (K + 1)).filter (fun m => decide (symV a m (0 : Int) = 1))).length = c) := hid (by rw [HS.out, hs, List.length_append, ← HCC.out]; rfl)
              clear hs
              go_wp2_with (go_at_call 86; refine (symZero_any _ _ H0.out HX0.out _).mono ?_; rw [HSS.out]; rintro e w' ⟨rfl, rfl⟩)
              go_round
              case measure => simp only [intOf]; omega
              case rel => exact ⟨K + 1, by go_num, by omega, by rw [HE.out], by first | rfl | trivial⟩
          · obtain rfl : K = L.length := by omega
            have HE : Hid (normV a (0 : Int) = (((L.take L.length).filter (fun m => decide (symV a m (0 : Int) = 1))).length : Nat)) := hid (by rw [HK.out, HD.out, List.take_length])
            clear hlt
            go_wp2
            go_ret
            exact ⟨retI HE.out.symm, HB.out⟩
      · skip
        go_wp2_with (go_at_call 63; refine (HC.out _).mono ?_; rintro e w3 ⟨v, rfl, ho, hb3⟩; have HB := hid (hb1.trans ((hb2.mono hb1.size).trans (hb3.mono (Nat.le_trans hb1.size hb2.size)))); obtain ⟨ad, cap, rfl, hform⟩ := ho.rd.form; have HF := hid hform; clear ho hb3 hform)
        go_loopw [6, 22] (fun sn si wr => ∃ K : Nat, si = .int .i64 K ∧ K ≤ L.length ∧ sn = .int .i64 (((L.take K).filter (fun m => decide (symV a m (2 : Int) = 1))).length : Nat) ∧ wr = w3) (fun _ si _ => L.length - (intOf si).toNat)
        case atStart => exact ⟨0, rfl, by omega, rfl, rfl⟩
        case round =>
          obtain ⟨K, rfl, hK, rfl, rfl⟩ := hrel
          by_cases hlt : K < L.length
          · obtain ⟨bb, o, rfl, hml, hc⟩ := HF.out (by omega)
            obtain ⟨x, hx⟩ : ∃ x, x = L.getD K 0 := ⟨_, rfl⟩
            have hxm : x ∈ L := by rw [hx, getD_at _ _ hlt]; exact List.getElem_mem _
            have c1 := hc K hlt
            rw [← hx] at c1
            have hxb := HN.out x hxm
            have hx1 := hxb.1
            have hx2 := hxb.2
            have HX0 := hid (HZ.out x hxm)
            have hi : (K : Int) < (L.length : Int) := by omega
            have HX := hid hx
            have HV2 := hid (HSV.out x hxm)
            unfold maxLen at hml
            have hstep := filter_step (f := (fun m => decide (symV a m (2 : Int) = 1))) hlt
            rw [← hx] at hstep
            have hfl := filter_len (f := (fun m => decide (symV a m (2 : Int) = 1))) (show K ≤ L.length by omega)
            obtain ⟨c, hcc⟩ : ∃ c, c = ((L.take K).filter (fun m => decide (symV a m (2 : Int) = 1))).length := ⟨_, rfl⟩
            rw [← hcc] at hfl ⊢
            have HCC := hid hcc
            have HS := hid hstep
            clear hc hx hxm hxb hstep hcc
            rcases HV2.out with hs | hs
            · have HSS := hid hs
              have HE : Hid (((L.take (K + 1)).filter (fun m => decide (symV a m (2 : Int) = 1))).length = c + 1) := hid (by rw [HS.out, hs, List.length_append, ← HCC.out]; rfl)
              clear hs
              go_wp2_with (go_at_call 88; refine (symbolAtTwo_any _ _ H0.out HX0.out (by omega) (by omega) (by omega) (by omega) _).mono ?_; rw [HSS.out]; rintro e w' ⟨rfl, rfl⟩)
              go_round
              case measure => simp only [intOf]; omega
              case rel => exact ⟨K + 1, by go_num, by omega, by rw [HE.out]; go_num, by first | rfl | trivial⟩
            · have HSS := hid hs
              have HE : Hid (((L.take (K + 1)).filter (fun m => decide (symV a m (2 : Int) = 1))).length = c) := hid (by rw [HS.out, hs, List.length_append, ← HCC.out]; rfl)
              clear hs
              go_wp2_with (go_at_call 88; refine (symbolAtTwo_any _ _ H0.out HX0.out (by omega) (by omega) (by omega) (by omega) _).mono ?_; rw [HSS.out]; rintro e w' ⟨rfl, rfl⟩)
              go_round
              case measure => simp only [intOf]; omega
              case rel => exact ⟨K + 1, by go_num, by omega, by rw [HE.out], by first | rfl | trivial⟩
          · obtain rfl : K = L.length := by omega
            have HE : Hid (normV a (2 : Int) = (((L.take L.length).filter (fun m => decide (symV a m (2 : Int) = 1))).length : Nat)) := hid (by rw [HK.out, HD.out, List.take_length])
            clear hlt
            go_wp2
            go_ret
            exact ⟨retI HE.out.symm, HB.out⟩
      · have HPr := hid hP
        clear hP
        go_wp2_with (go_at_call 63; refine (HC.out _).mono ?_; rintro e w3 ⟨v, rfl, ho, hb3⟩; have HB := hid (hb1.trans ((hb2.mono hb1.size).trans (hb3.mono (Nat.le_trans hb1.size hb2.size)))); obtain ⟨ad, cap, rfl, hform⟩ := ho.rd.form; have HF := hid hform; have hC3 := (World.cell?_of_block (hb3.block C hC2)).trans hC3c; clear ho hb3 hform)
        go_loopw [6, 22] (fun sn si wr => ∃ K : Nat, si = .int .i64 K ∧ K ≤ L.length ∧ sn = .int .i64 (((L.take K).filter (fun m => decide (symV a m (P : Int) = 1))).length : Nat) ∧ wr = w3) (fun _ si _ => L.length - (intOf si).toNat)
        case atStart => exact ⟨0, rfl, by omega, rfl, rfl⟩
        case round =>
          obtain ⟨K, rfl, hK, rfl, rfl⟩ := hrel
          by_cases hlt : K < L.length
          · obtain ⟨bb, o, rfl, hml, hc⟩ := HF.out (by omega)
            obtain ⟨x, hx⟩ : ∃ x, x = L.getD K 0 := ⟨_, rfl⟩
            have hxm : x ∈ L := by rw [hx, getD_at _ _ hlt]; exact List.getElem_mem _
            have c1 := hc K hlt
            rw [← hx] at c1
            have hxb := HN.out x hxm
            have hx1 := hxb.1
            have hx2 := hxb.2
            have HX0 := hid (HZ.out x hxm)
            have hi : (K : Int) < (L.length : Int) := by omega
            have HX := hid hx
            have HV2 := hid (HSV.out x hxm)
            unfold maxLen at hml
            have hstep := filter_step (f := (fun m => decide (symV a m (P : Int) = 1))) hlt
            rw [← hx] at hstep
            have hfl := filter_len (f := (fun m => decide (symV a m (P : Int) = 1))) (show K ≤ L.length by omega)
            obtain ⟨c, hcc⟩ : ∃ c, c = ((L.take K).filter (fun m => decide (symV a m (P : Int) = 1))).length := ⟨_, rfl⟩
            rw [← hcc] at hfl ⊢
            have HCC := hid hcc
            have HS := hid hstep
            clear hc hx hxm hxb hstep hcc
            rcases HV2.out with hs | hs
            · have HSS := hid hs
              have HE : Hid (((L.take (K + 1)).filter (fun m => decide (symV a m (P : Int) = 1))).length = c + 1) := hid (by rw [HS.out, hs, List.length_append, ← HCC.out]; rfl)
              clear hs
              go_wp2_with (go_at_call 89; refine (symP_any _ _ P C HPr.out hp3 H0.out HX0.out (by omega) (by omega) (by omega) (by omega) _ hC3).mono ?_; rw [HSS.out]; rintro e w' ⟨rfl, rfl⟩)
              go_round
              case measure => simp only [intOf]; omega
              case rel => exact ⟨K + 1, by go_num, by omega, by rw [HE.out]; go_num, by first | rfl | trivial⟩
            · have HSS := hid hs
              have HE : Hid (((L.take (K + 1)).filter (fun m => decide (symV a m (P : Int) = 1))).length = c) := hid (by rw [HS.out, hs, List.length_append, ← HCC.out]; rfl)
              clear hs
              go_wp2_with (go_at_call 89; refine (symP_any _ _ P C HPr.out hp3 H0.out HX0.out (by omega) (by omega) (by omega) (by omega) _ hC3).mono ?_; rw [HSS.out]; rintro e w' ⟨rfl, rfl⟩)
              go_round
              case measure => simp only [intOf]; omega
              case rel => exact ⟨K + 1, by go_num, by omega, by rw [HE.out], by first | rfl | trivial⟩
          · obtain rfl : K = L.length := by omega
            have HE : Hid (normV a (P : Int) = (((L.take L.length).filter (fun m => decide (symV a m (P : Int) = 1))).length : Nat)) := hid (by rw [HK.out, HD.out, List.take_length])
            clear hlt
            go_wp2
            go_ret
            exact ⟨retI HE.out.symm, HB.out⟩

end Go.Proofs.Ytdidmblkknnglaa
