/-
  Contracts of the program's chapter 3: the first name of which the symbol is -1.
-/
import Derived.Test.YtdidmblkknnglaaImp3B
set_option linter.unusedVariables false
namespace Go.Proofs.Ytdidmblkknnglaa
open Go.RowKit Go.Shelf
attribute [local go_sem] Oper.semAt_some

theorem findI_le {a q : Int} : findI a q ≤ (namesOf q).length := List.findIdx_le_length
theorem sfind_ok {a q : Int} (hA : factB a = true) (hQ : plI q = true) : sfindV a q = if findI a q < (namesOf q).length then .tuple #[.int .i64 ((namesOf q).getD (findI a q) 0), .bool true] else .tuple #[.int .i64 0, .bool false] := by
  obtain ⟨a0, a1, a2⟩ := factB_bd hA
  unfold sfindV okAt
  rw [hA, hQ]
  cases hs : sqAt a q with
  | false => rw [if_pos (findI_lt a0 hQ hs)]; rfl
  | true =>
    rw [if_neg (c := findI a q < (namesOf q).length) (fun h => ?_)]
    · rfl
    · refine findI_at h ?_
      have hm : (namesOf q).getD (findI a q) 0 ∈ namesOf q := by rw [getD_at _ _ h]; exact List.getElem_mem _
      rw [symV_comm a0 (names_ne hQ _ hm) hQ]
      exact symV_sq (names_ne hQ _ hm) hQ hs

set_option maxRecDepth 100000 in
set_option maxHeartbeats 4000000 in
theorem symbolFind_any (a q : Int) (w : World) : Calls Try.prog 50 #[.int .i64 a, .int .i64 q] w fun e w' => e = .returned (sfindV a q) ∧ Below w.heap.size w w' := by
  cases hA : factB a with
  | false =>
    have HA := hid hA
    have HP : Hid (sfindV a q = .tuple #[.int .i64 0, .bool false]) := hid (by unfold sfindV okAt; rw [hA]; rfl)
    clear hA
    go_enter Try.func50, Try.ntmps50
    go_wp2_with (go_at_call 55; refine (factored_any _ _).mono ?_; rw [HA.out]; rintro e w' ⟨rfl, rfl⟩)
    go_ret2
    exact ⟨retV HP.out.symm, Below.refl _ _⟩
  | true =>
    cases hQ : plI q with
    | false =>
      have HA := hid hA
      have HQ := hid hQ
      have HP : Hid (sfindV a q = .tuple #[.int .i64 0, .bool false]) := hid (by unfold sfindV okAt; rw [hA, hQ]; rfl)
      clear hA hQ
      go_enter Try.func50, Try.ntmps50
      go_wp2_with (first | (go_at_call 55; refine (factored_any _ _).mono ?_; rw [HA.out]; rintro e w' ⟨rfl, rfl⟩) | (go_at_call 56; refine (plValid_any _ _).mono ?_; rw [HQ.out]; rintro e w1 ⟨rfl, hb1⟩))
      go_ret2
      exact ⟨retV HP.out.symm, hb1⟩
    | true =>
      obtain ⟨a0, a1, a2⟩ := factB_bd hA
      have H0 := hid a0
      have HA := hid hA
      have HQ := hid hQ
      have HK : Hid (sfindV a q = if findI a q < (namesOf q).length then .tuple #[.int .i64 ((namesOf q).getD (findI a q) 0), .bool true] else .tuple #[.int .i64 0, .bool false]) := hid (sfind_ok hA hQ)
      have HAT : Hid (findI a q < (namesOf q).length → symV a ((namesOf q).getD (findI a q) 0) q ≠ 1) := hid (fun h => findI_at h)
      have HBL : Hid (∀ i, i < findI a q → i < (namesOf q).length → symV a ((namesOf q).getD i 0) q = 1) := hid (fun i h hl => findI_below h hl)
      have hIl := @findI_le a q
      have HN := hid (names_bd hQ)
      have HZ := hid (names_ne hQ)
      have hl8 : (namesOf q).length ≤ 8 := by
        rw [names_len hQ]; unfold clsList; split; (· decide); (· split <;> decide)
      have HSV : Hid (∀ x ∈ namesOf q, symV a x q = 1 ∨ symV a x q = -1) := hid (fun x hx => symV_val a0 (names_ne hQ x hx) hQ)
      have HC : Hid (∀ w : World, Calls Try.prog 63 #[.int .i64 q] w fun e w' => ∃ v, e = .returned v ∧ Owns w' w.heap.size v (namesOf q) ∧ Below w.heap.size w w') := hid (fun w => plNames_any q hQ w)
      obtain ⟨I, hIe⟩ : ∃ I, I = findI a q := ⟨_, rfl⟩
      obtain ⟨L, hL⟩ : ∃ L, L = namesOf q := ⟨_, rfl⟩
      rw [← hIe, ← hL] at HK HAT HBL hIl
      rw [← hL] at HN HZ HC HSV hl8
      clear hL hIe a0 hA hQ
      go_enter Try.func50, Try.ntmps50
      go_wp2_with (first | (go_at_call 55; refine (factored_any _ _).mono ?_; rw [HA.out]; rintro e w' ⟨rfl, rfl⟩) | (go_at_call 56; refine (plValid_any _ _).mono ?_; rw [HQ.out]; rintro e w1 ⟨rfl, hb1⟩))
      refine (symbolAt_any q HQ.out _).mono ?_
      rintro e w2 ⟨fv, rfl, hfs, hb2⟩
      rcases hfs with ⟨rfl, rfl⟩ | ⟨rfl, rfl⟩ | ⟨P, C, rfl, hP, hp3, rfl, hC1, hC2, hC3c⟩
      · skip
        go_wp2_with (go_at_call 63; refine (HC.out _).mono ?_; rintro e w3 ⟨v, rfl, ho, hb3⟩; have HB := hid (hb1.trans ((hb2.mono hb1.size).trans (hb3.mono (Nat.le_trans hb1.size hb2.size)))); obtain ⟨ad, cap, rfl, hform⟩ := ho.rd.form; have HF := hid hform; clear ho hb3 hform)
        go_loopw [22] (fun si wr => ∃ K : Nat, si = .int .i64 K ∧ K ≤ L.length ∧ K ≤ I ∧ wr = w3) (fun si _ => L.length - (intOf si).toNat)
        case atStart => exact ⟨0, rfl, by omega, by omega, rfl⟩
        case round =>
          obtain ⟨K, rfl, hK, hKI, rfl⟩ := hrel
          by_cases hlt : K < L.length
          · obtain ⟨bb, o, rfl, hml, hc⟩ := HF.out (by omega)
            obtain ⟨x, hx⟩ : ∃ x, x = L.getD K 0 := ⟨_, rfl⟩
            have hxm : x ∈ L := by rw [hx, getD_at _ _ hlt]; exact List.getElem_mem _
            have c1 := hc K hlt
            rw [← hx] at c1
            have hxb := HN.out x hxm
            have hx1 := hxb.1
            have hx2 := hxb.2
            have HX0 := hid (HZ.out x hxm)
            have hi : (K : Int) < (L.length : Int) := by omega
            have HX := hid hx
            have HV2 := hid (HSV.out x hxm)
            unfold maxLen at hml
            clear hc hx hxm hxb
            by_cases e : K = I
            · have hs : symV a x (0 : Int) = -1 := by
                rcases HV2.out with h | h
                · have := HAT.out (by omega)
                  rw [← e, ← HX.out] at this
                  exact absurd h this
                · exact h
              have HSS := hid hs
              have HR : Hid (sfindV a (0 : Int) = .tuple #[.int .i64 x, .bool true]) := hid (by rw [HK.out, if_pos (by omega), HX.out, e])
              clear hs e
              go_wp2_with (go_at_call 86; refine (symZero_any _ _ H0.out HX0.out _).mono ?_; rw [HSS.out]; rintro e w' ⟨rfl, rfl⟩)
              go_ret2
              exact ⟨retV HR.out.symm, HB.out⟩
            · have HSS : Hid (symV a x (0 : Int) = 1) := hid (by rw [HX.out]; exact HBL.out K (by omega) hlt)
              go_wp2_with (go_at_call 86; refine (symZero_any _ _ H0.out HX0.out _).mono ?_; rw [HSS.out]; rintro e w' ⟨rfl, rfl⟩)
              go_round
              case measure => simp only [intOf]; omega
              case rel => exact ⟨K + 1, by go_num, by omega, by omega, by first | rfl | trivial⟩
          · have HR : Hid (sfindV a (0 : Int) = .tuple #[.int .i64 0, .bool false]) := hid (by rw [HK.out, if_neg (by omega)])
            obtain rfl : K = L.length := by omega
            clear hlt
            go_wp2
            go_ret2
            exact ⟨retV HR.out.symm, HB.out⟩
      · skip
        go_wp2_with (go_at_call 63; refine (HC.out _).mono ?_; rintro e w3 ⟨v, rfl, ho, hb3⟩; have HB := hid (hb1.trans ((hb2.mono hb1.size).trans (hb3.mono (Nat.le_trans hb1.size hb2.size)))); obtain ⟨ad, cap, rfl, hform⟩ := ho.rd.form; have HF := hid hform; clear ho hb3 hform)
        go_loopw [22] (fun si wr => ∃ K : Nat, si = .int .i64 K ∧ K ≤ L.length ∧ K ≤ I ∧ wr = w3) (fun si _ => L.length - (intOf si).toNat)
        case atStart => exact ⟨0, rfl, by omega, by omega, rfl⟩
        case round =>
          obtain ⟨K, rfl, hK, hKI, rfl⟩ := hrel
          by_cases hlt : K < L.length
          · obtain ⟨bb, o, rfl, hml, hc⟩ := HF.out (by omega)
            obtain ⟨x, hx⟩ : ∃ x, x = L.getD K 0 := ⟨_, rfl⟩
            have hxm : x ∈ L := by rw [hx, getD_at _ _ hlt]; exact List.getElem_mem _
            have c1 := hc K hlt
            rw [← hx] at c1
            have hxb := HN.out x hxm
            have hx1 := hxb.1
            have hx2 := hxb.2
            have HX0 := hid (HZ.out x hxm)
            have hi : (K : Int) < (L.length : Int) := by omega
            have HX := hid hx
            have HV2 := hid (HSV.out x hxm)
            unfold maxLen at hml
            clear hc hx hxm hxb
            by_cases e : K = I
            · have hs : symV a x (2 : Int) = -1 := by
                rcases HV2.out with h | h
                · have := HAT.out (by omega)
                  rw [← e, ← HX.out] at this
                  exact absurd h this
                · exact h
              have HSS := hid hs
              have HR : Hid (sfindV a (2 : Int) = .tuple #[.int .i64 x, .bool true]) := hid (by rw [HK.out, if_pos (by omega), HX.out, e])
              clear hs e
              go_wp2_with (go_at_call 88; refine (symbolAtTwo_any _ _ H0.out HX0.out (by omega) (by omega) (by omega) (by omega) _).mono ?_; rw [HSS.out]; rintro e w' ⟨rfl, rfl⟩)
              go_ret2
              exact ⟨retV HR.out.symm, HB.out⟩
            · have HSS : Hid (symV a x (2 : Int) = 1) := hid (by rw [HX.out]; exact HBL.out K (by omega) hlt)
              go_wp2_with (go_at_call 88; refine (symbolAtTwo_any _ _ H0.out HX0.out (by omega) (by omega) (by omega) (by omega) _).mono ?_; rw [HSS.out]; rintro e w' ⟨rfl, rfl⟩)
              go_round
              case measure => simp only [intOf]; omega
              case rel => exact ⟨K + 1, by go_num, by omega, by omega, by first | rfl | trivial⟩
          · have HR : Hid (sfindV a (2 : Int) = .tuple #[.int .i64 0, .bool false]) := hid (by rw [HK.out, if_neg (by omega)])
            obtain rfl : K = L.length := by omega
            clear hlt
            go_wp2
            go_ret2
            exact ⟨retV HR.out.symm, HB.out⟩
      · have HPr := hid hP
        clear hP
        go_wp2_with (go_at_call 63; refine (HC.out _).mono ?_; rintro e w3 ⟨v, rfl, ho, hb3⟩; have HB := hid (hb1.trans ((hb2.mono hb1.size).trans (hb3.mono (Nat.le_trans hb1.size hb2.size)))); obtain ⟨ad, cap, rfl, hform⟩ := ho.rd.form; have HF := hid hform; have hC3 := (World.cell?_of_block (hb3.block C hC2)).trans hC3c; clear ho hb3 hform)
        go_loopw [22] (fun si wr => ∃ K : Nat, si = .int .i64 K ∧ K ≤ L.length ∧ K ≤ I ∧ wr = w3) (fun si _ => L.length - (intOf si).toNat)
        case atStart => exact ⟨0, rfl, by omega, by omega, rfl⟩
        case round =>
          obtain ⟨K, rfl, hK, hKI, rfl⟩ := hrel
          by_cases hlt : K < L.length
          · obtain ⟨bb, o, rfl, hml, hc⟩ := HF.out (by omega)
            obtain ⟨x, hx⟩ : ∃ x, x = L.getD K 0 := ⟨_, rfl⟩
            have hxm : x ∈ L := by rw [hx, getD_at _ _ hlt]; exact List.getElem_mem _
            have c1 := hc K hlt
            rw [← hx] at c1
            have hxb := HN.out x hxm
            have hx1 := hxb.1
            have hx2 := hxb.2
            have HX0 := hid (HZ.out x hxm)
            have hi : (K : Int) < (L.length : Int) := by omega
            have HX := hid hx
            have HV2 := hid (HSV.out x hxm)
            unfold maxLen at hml
            clear hc hx hxm hxb
            by_cases e : K = I
            · have hs : symV a x (P : Int) = -1 := by
                rcases HV2.out with h | h
                · have := HAT.out (by omega)
                  rw [← e, ← HX.out] at this
                  exact absurd h this
                · exact h
              have HSS := hid hs
              have HR : Hid (sfindV a (P : Int) = .tuple #[.int .i64 x, .bool true]) := hid (by rw [HK.out, if_pos (by omega), HX.out, e])
              clear hs e
              go_wp2_with (go_at_call 89; refine (symP_any _ _ P C HPr.out hp3 H0.out HX0.out (by omega) (by omega) (by omega) (by omega) _ hC3).mono ?_; rw [HSS.out]; rintro e w' ⟨rfl, rfl⟩)
              go_ret2
              exact ⟨retV HR.out.symm, HB.out⟩
            · have HSS : Hid (symV a x (P : Int) = 1) := hid (by rw [HX.out]; exact HBL.out K (by omega) hlt)
              go_wp2_with (go_at_call 89; refine (symP_any _ _ P C HPr.out hp3 H0.out HX0.out (by omega) (by omega) (by omega) (by omega) _ hC3).mono ?_; rw [HSS.out]; rintro e w' ⟨rfl, rfl⟩)
              go_round
              case measure => simp only [intOf]; omega
              case rel => exact ⟨K + 1, by go_num, by omega, by omega, by first | rfl | trivial⟩
          · have HR : Hid (sfindV a (P : Int) = .tuple #[.int .i64 0, .bool false]) := hid (by rw [HK.out, if_neg (by omega)])
            obtain rfl : K = L.length := by omega
            clear hlt
            go_wp2
            go_ret2
            exact ⟨retV HR.out.symm, HB.out⟩

end Go.Proofs.Ytdidmblkknnglaa
