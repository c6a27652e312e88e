/-
  Contracts of the model's chapter 3: the first name whose symbol is -1; solved equations.
-/
import Derived.Test.YtdidmblkknnglaaSym4
set_option linter.unusedVariables false
namespace Go.Proofs.Ytdidmblkknnglaa
open Go.RowKit


set_option maxHeartbeats 1000000 in
theorem symbolFindS_any (a q : Int) (w : World) : Calls Try.prog 51 #[.int .i64 a, .int .i64 q] w fun e w' => e = .returned (sfindV a q) ∧ Below w.heap.size w w' := by
  rcases okAt_cases a q with ⟨h1, h2, h0, hq, O⟩ | O
  · have H0 := hid h0
    have HQ := hid hq
    cases hs : sqAt a q with
    | true =>
      have HK : Hid (sfindV a q = .tuple #[.int .i64 0, .bool false]) := hid (by unfold sfindV; rw [O, hs]; rfl)
      have HS := hid hs
      clear h0 hq hs
      go_enter Try.func51, Try.ntmps51
      go_wp2_with (first | (go_at_call 81; refine (l2Ok_any _ _ _).mono ?_; rintro e w' ⟨rfl, rfl⟩) | (go_at_call 83; refine (l2Square_any _ _ H0.out (by omega) (by omega) HQ.out _).mono ?_; rw [HS.out]; rintro e w' ⟨rfl, rfl⟩))
      go_ret2
      exact ⟨retV HK.out.symm, Below.refl _ _⟩
    | false =>
      have HK : Hid (sfindV a q = .tuple #[.int .i64 ((namesOf q).getD (findI a q) 0), .bool true]) := hid (by unfold sfindV; rw [O, hs]; rfl)
      have hI := findI_lt h0 hq hs
      have HAT := hid (findI_at hI)
      have HBL : Hid (∀ i, i < findI a q → i < (namesOf q).length → symV a ((namesOf q).getD i 0) q = 1) := hid (fun i h hl => findI_below h hl)
      have HN := hid (names_bd hq)
      have HZ := hid (names_ne hq)
      have HC : Hid (∀ w : World, Calls Try.prog 82 #[.int .i64 q] w fun e w' => ∃ v, e = .returned v ∧ Owns w' w.heap.size v (namesOf q) ∧ Below w.heap.size w w') := hid (fun w => l2Names_any q hq w)
      obtain ⟨I, hIe⟩ : ∃ I, I = findI a q := ⟨_, rfl⟩
      obtain ⟨L, hL⟩ : ∃ L, L = namesOf q := ⟨_, rfl⟩
      rw [← hIe, ← hL] at HK HAT HBL hI
      rw [← hL] at HN HZ HC
      have HS := hid hs
      clear hL hIe h0 hq hs
      go_enter Try.func51, Try.ntmps51
      go_wp2_with (first | (go_at_call 81; refine (l2Ok_any _ _ _).mono ?_; rintro e w' ⟨rfl, rfl⟩) | (go_at_call 83; refine (l2Square_any _ _ H0.out (by omega) (by omega) HQ.out _).mono ?_; rw [HS.out]; rintro e w' ⟨rfl, rfl⟩) | (go_at_call 82; refine (HC.out _).mono ?_; rintro e w2 ⟨v, rfl, ho, hb⟩; have HB := hid hb; obtain ⟨ad, cap, rfl, hform⟩ := ho.rd.form; obtain ⟨bb, o, rfl, hml, hc⟩ := hform (by omega); have HCC := hid hc; unfold maxLen at hml; clear ho hb hform hc))
      go_loopw [7] (fun sk wr => ∃ K : Nat, sk = .int .i64 K ∧ K ≤ I ∧ wr = w2) (fun sk _ => I - (intOf sk).toNat)
      case atStart => exact ⟨0, rfl, by omega, rfl⟩
      case round =>
        obtain ⟨K, rfl, hK, rfl⟩ := hrel
        have hKl : K < L.length := by omega
        obtain ⟨x, hx⟩ : ∃ x, x = L.getD K 0 := ⟨_, rfl⟩
        have hxm : x ∈ L := by rw [hx, getD_at _ _ hKl]; exact List.getElem_mem _
        have c1 := HCC.out K hKl
        rw [← hx] at c1
        have hxb := HN.out x hxm
        have hx1 := hxb.1
        have hx2 := hxb.2
        have HX0 := hid (HZ.out x hxm)
        have hi : (K : Int) < (L.length : Int) := by omega
        have HX := hid hx
        clear hx hxm hxb
        by_cases e : K = I
        · have HR : Hid (L.getD I 0 = x) := hid (by rw [HX.out, e])
          have hs : ¬ symV a x q = 1 := by rw [← HR.out]; exact HAT.out
          have T : (symV a x q == 1) = false := by rw [beq_eq_false_iff_ne]; exact hs
          have HK2 : Hid (sfindV a q = .tuple #[.int .i64 x, .bool true]) := hid (by rw [HK.out, HR.out])
          clear e hs
          go_wp2_with (go_at_call 60; refine (l3Symbol_any _ _ _ H0.out HX0.out (by omega) (by omega) (by omega) (by omega) HQ.out _).mono ?_; rintro e w' ⟨rfl, rfl⟩)
          go_ret2
          exact ⟨retV HK2.out.symm, HB.out⟩
        · have HSS : Hid (symV a x q = 1) := hid (by rw [HX.out]; exact HBL.out K (by omega) hKl)
          go_wp2_with (go_at_call 60; refine (l3Symbol_any _ _ _ H0.out HX0.out (by omega) (by omega) (by omega) (by omega) HQ.out _).mono ?_; rw [HSS.out]; rintro e w' ⟨rfl, rfl⟩)
          go_round
          case measure => simp only [intOf]; omega
          case rel => exact ⟨K + 1, by go_num, by omega, by first | rfl | trivial⟩
  · have HK : Hid (sfindV a q = .tuple #[.int .i64 0, .bool false]) := hid (by unfold sfindV; rw [O]; rfl)
    go_enter Try.func51, Try.ntmps51
    go_wp2_with (go_at_call 81; refine (l2Ok_any _ _ _).mono ?_; rintro e w' ⟨rfl, rfl⟩)
    go_ret2
    exact ⟨retV HK.out.symm, Below.refl _ _⟩

end Go.Proofs.Ytdidmblkknnglaa
