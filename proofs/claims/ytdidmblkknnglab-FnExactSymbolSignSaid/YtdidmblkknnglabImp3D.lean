/-
  Contracts of the program's chapter 3: the product of the symbols.
-/
import Derived.Test.YtdidmblkknnglabImp3B
set_option linter.unusedVariables false
namespace Go.Proofs.Ytdidmblkknnglab
open Go.RowKit Go.Shelf
attribute [local go_sem] Oper.semAt_some

def prS (a b : Int) : List Int → Int
  | [] => 1
  | q :: t => symV a b q * prS a b t
theorem prS_snoc (a b : Int) (x : Int) : ∀ l : List Int, prS a b (l ++ [x]) = prS a b l * symV a b x
  | [] => by simp [prS]
  | q :: t => by
    show symV a b q * prS a b (t ++ [x]) = symV a b q * prS a b t * symV a b x
    rw [prS_snoc a b x t, Int.mul_assoc]
theorem prS_half {a b : Int} (ha : a ≠ 0) (hb : b ≠ 0) : ∀ l : List Int, (∀ q ∈ l, plI q = true) → prS a b l = halfI ((l.filter (fun q => decide (symV a b q = -1))).length : Nat)
  | [], _ => rfl
  | q :: t, h => by
    have ih := prS_half ha hb t (fun x hx => h x (List.mem_cons_of_mem _ hx))
    unfold prS
    rw [ih]
    rcases symV_val ha hb (h q List.mem_cons_self) with e | e
    · rw [e, List.filter_cons_of_neg (by rw [e]; decide), Int.one_mul]
    · rw [e, List.filter_cons_of_pos (by rw [e]; decide), List.length_cons]
      unfold halfI
      split <;> split <;> omega
theorem prS_small {a b : Int} (ha : a ≠ 0) (hb : b ≠ 0) (l : List Int) (h : ∀ q ∈ l, plI q = true) : -1 ≤ prS a b l ∧ prS a b l ≤ 1 := by
  rw [prS_half ha hb l h]
  exact halfI_small _

set_option maxRecDepth 100000 in
set_option maxHeartbeats 2000000 in
theorem symbolSign_any (a b : Int) (w : World) : Calls Try.prog 35 #[.int .i64 a, .int .i64 b] w fun e w' => e = .returned (.int .i64 (sgnV a b)) ∧ Below w.heap.size w w' := by
  cases hA : factB a with
  | false =>
    have HP : Hid (sgnV a b = 0) := hid (by unfold sgnV okAB; rw [hA]; rfl)
    have HA := hid hA
    clear hA
    go_enter Try.func35, Try.ntmps35
    go_wp2_with (go_at_call 39; refine (factored_any _ _).mono ?_; rw [HA.out]; rintro e w' ⟨rfl, rfl⟩)
    go_ret
    exact ⟨retI HP.out.symm, Below.refl _ _⟩
  | true =>
    cases hBB : factB b with
    | false =>
      have HP : Hid (sgnV a b = 0) := hid (by unfold sgnV okAB; rw [hA, hBB]; rfl)
      have HA := hid hA
      have HBB := hid hBB
      clear hA hBB
      go_enter Try.func35, Try.ntmps35
      go_wp2_with (go_at_call 39; refine (factored_any _ _).mono ?_; (first | rw [HA.out] | rw [HBB.out]); rintro e w' ⟨rfl, rfl⟩)
      go_ret
      exact ⟨retI HP.out.symm, Below.refl _ _⟩
    | true =>
      obtain ⟨a0, a1, a2⟩ := factB_bd hA
      obtain ⟨b0, b1, b2⟩ := factB_bd hBB
      have hmb := mul_bdI a1 a2 b1 b2
      have hm1 := hmb.1
      have hm2 := hmb.2
      have A0 := hid a0
      have B0 := hid b0
      have M0 := hid (Int.mul_ne_zero a0 b0)
      have HA := hid hA
      have HBB := hid hBB
      have HP : Hid (sgnV a b = prS a b (placesG (a * b))) := hid (by
        rw [prS_half a0 b0 _ (placesG_pl a0 b0 a1 a2 b1 b2)]
        unfold sgnV splL okAB
        rw [hA, hBB]
        rfl)
      have hpl := placesG_len M0.out (by omega) (by omega)
      have HPP := hid (placesG_pl a0 b0 a1 a2 b1 b2)
      clear a0 b0 hA hBB hmb
      go_enter Try.func35, Try.ntmps35
      go_wp2_with (first | (go_at_call 39; refine (factored_any _ _).mono ?_; (first | rw [HA.out] | rw [HBB.out]); rintro e w' ⟨rfl, rfl⟩) | (go_at_call 43; refine (placesOfG_any _ M0.out hm1 hm2 _).mono ?_; rintro e w2 ⟨v, rfl, ho, hb⟩))
      obtain ⟨ps, hps⟩ : ∃ ps, ps = placesG (a * b) := ⟨_, rfl⟩
      rw [← hps] at ho hpl HP HPP
      obtain ⟨ad, cap, rfl, hform⟩ := ho.rd.form
      have HFM := hid hform
      have HLT := hid ho.lt
      have HB1 := hid hb
      clear ho hform hb hps
      go_wp2_with fail
      simp only [Builtin.len_]
      go_simp
      go_wp2_with fail
      go_loopw [5, 21] (fun ss si wr => ∃ (K : Nat) (s : Int), si = .int .i64 K ∧ ss = .int .i64 s ∧ K ≤ ps.length ∧ -1 ≤ s ∧ s ≤ 1 ∧ Hid (s = prS a b (ps.take K)) ∧ w2.heap.size ≤ wr.heap.size ∧ Hid (Below w2.heap.size w2 wr)) (fun _ si _ => ps.length - (intOf si).toNat)
      case atStart => exact ⟨0, 1, rfl, rfl, by omega, by omega, by omega, hid rfl, Nat.le_refl _, hid (Below.refl _ _)⟩
      case round =>
        obtain ⟨K, s, rfl, rfl, hK, s1, s2, HS, hsz, HB⟩ := hrel
        rename World => wr
        by_cases hlt : K < ps.length
        · obtain ⟨bk, o, rfl, hml, hc⟩ := HFM.out (by omega)
          obtain ⟨x, hx⟩ : ∃ x, x = ps.getD K 0 := ⟨_, rfl⟩
          have hxm : x ∈ ps := by rw [hx, getD_at _ _ hlt]; exact List.getElem_mem _
          have hxp := HPP.out x hxm
          have hx2 := plI_bd hxp
          have hx3 := hx2.1
          have hx4 := hx2.2
          have HXP := hid hxp
          have hlt2 := HLT.out bk rfl
          have hcell := (World.cell?_of_block (HB.out.block bk hlt2)).trans (hc K hlt)
          rw [← hx] at hcell
          have HT : Hid (ps.take (K + 1) = ps.take K ++ [x]) := hid (by rw [List.take_succ_eq_append_getElem hlt, hx, getD_at _ _ hlt])
          have hi0 : (K : Int) < (ps.length : Int) := by omega
          unfold maxLen at hml
          obtain ⟨y, hy⟩ : ∃ y, y = symV a b x := ⟨_, rfl⟩
          have hyv := symV_val A0.out B0.out hxp
          rw [← hy] at hyv
          have y1 : -1 ≤ y := by omega
          have y2 : y ≤ 1 := by omega
          have hsy := small_mul s1 s2 y1 y2
          have p1 := hsy.1
          have p2 := hsy.2
          have HY := hid hy.symm
          have HN : Hid (s * y = prS a b (ps.take (K + 1))) := hid (by rw [HT.out, prS_snoc, HS.out, hy])
          clear hc hx hxm hxp hx2 hy hyv hsy
          go_wp2_with fail
          refine (symbolAt_any x HXP.out _).mono ?_
          rintro e wq ⟨fv, rfl, hfs, hbq⟩
          have hsq0 := hbq.size
          have HBq := hid (HB.out.trans (hbq.mono HB.out.size))
          clear hbq
          rcases hfs with ⟨rfl, rfl⟩ | ⟨rfl, rfl⟩ | ⟨P, C, rfl, hP, h3, rfl, hC1, hC2, hC3⟩
          · go_wp2_with (go_at_call 60; refine (symZero_any _ _ A0.out B0.out _).mono ?_; rw [HY.out]; rintro e w' ⟨rfl, rfl⟩)
            go_round
            case measure => simp only [intOf]; omega
            case rel => exact ⟨K + 1, s * y, by go_num, rfl, by omega, p1, p2, HN, by omega, HBq⟩
          · go_wp2_with (go_at_call 62; refine (symbolAtTwo_any _ _ A0.out B0.out (by omega) (by omega) (by omega) (by omega) _).mono ?_; rw [HY.out]; rintro e w' ⟨rfl, rfl⟩)
            go_round
            case measure => simp only [intOf]; omega
            case rel => exact ⟨K + 1, s * y, by go_num, rfl, by omega, p1, p2, HN, by omega, HBq⟩
          · have HPr := hid hP
            clear hP
            go_wp2_with (go_at_call 63; refine (symP_any _ _ P C HPr.out h3 A0.out B0.out (by omega) (by omega) (by omega) (by omega) _ hC3).mono ?_; rw [HY.out]; rintro e w' ⟨rfl, rfl⟩)
            go_round
            case measure => simp only [intOf]; omega
            case rel => exact ⟨K + 1, s * y, by go_num, rfl, by omega, p1, p2, HN, by omega, HBq⟩
        · obtain rfl : K = ps.length := by omega
          have HE : Hid (s = sgnV a b) := hid (by rw [HP.out, HS.out, List.take_length])
          clear hlt
          go_wp2_with fail
          go_ret
          exact ⟨retI HE.out, HB1.out.trans (HB.out.mono HB1.out.size)⟩

end Go.Proofs.Ytdidmblkknnglab
