/-
  Contracts of the program's chapter 4: lists of cores, multiples, places at which a form doesn't vanish.
-/
import Derived.Test.YtciajpimpjpnfacImp4C
set_option linter.unusedVariables false
namespace Go.Proofs.Ytciajpimpjpnfac
open Go.RowKit

theorem coreG_bd {n B : Int} (h0 : n ≠ 0) (h1 : -B ≤ n) (h2 : n ≤ B) : -B ≤ coreG n ∧ coreG n ≤ B := by
  have hcb := core_is h0
  have e : n.natAbs = (coreG n).natAbs * (rootG n * rootG n) := by
    conv => lhs; rw [← hcb.eq]
    rw [Int.natAbs_mul, Int.natAbs_mul, Int.natAbs_natCast]
  have := Nat.le_mul_of_pos_right (coreG n).natAbs (Nat.mul_pos hcb.pos hcb.pos)
  omega

set_option maxRecDepth 100000 in
set_option maxHeartbeats 2000000 in
theorem coresTimes_any (v : Value) (xs : List Int) (n : Int) (n0 : n ≠ 0) (n1 : -5000 ≤ n) (n2 : n ≤ 5000) (w : World) (h : Rd w v xs) (hf : fvB xs = true) :
    Calls Try.prog 45 #[v, .int .i64 n] w fun e w' => ∃ u, e = .returned u ∧ Owns w' w.heap.size u (timesL xs n) ∧ Below w.heap.size w w' := by
  obtain ⟨i0, hi, hz0, hz1, hz2⟩ := info_parts infoInt
  have HB0 := hid ((Below.refl w.heap.size w).alloc (Nat.le_refl _) (.cells #[] 3))
  have HO0 : Hid (Owns (w.alloc (.cells #[] 3)) w.heap.size (.slice (some ⟨w.heap.size, 0, none⟩) 0 0) []) := hid (World.ownsRow_made (size := 1) w #[] 0 (Nat.le_refl _) (by unfold maxLen; omega) rfl)
  have HH := hid h
  obtain ⟨ad, cap, rfl, _⟩ := h.form
  have HF := hid hf
  have HN := hid n0
  have hl4 := (fvB_iff.1 hf).2.2
  clear h hf n0
  go_enter Try.func45, Try.ntmps45
  go_wp2_with fail
  go_loopw [5, 13] (fun so si wr => ∃ K : Nat, si = .int .i64 K ∧ K ≤ xs.length ∧ Hid (Owns wr w.heap.size so ((xs.take K).map (fun x => coreG (n * x)))) ∧ Hid (Below w.heap.size w wr)) (fun _ si _ => xs.length - (intOf si).toNat)
  case atStart => exact ⟨0, rfl, by omega, hid (by simpa using HO0.out), HB0⟩
  case round =>
    obtain ⟨K, rfl, hK, HO, HB⟩ := hrel
    rename World => wr
    by_cases hlt : K < xs.length
    · obtain ⟨a2, cap2, e2, hform⟩ := (HH.out.keep HB.out).form
      cases e2
      obtain ⟨bb, o, rfl, hml, hc⟩ := hform (by omega)
      have hcell := hc K hlt
      have ht := fv_at HF.out hlt
      obtain ⟨x, hx⟩ : ∃ x, x = xs.getD K 0 := ⟨_, rfl⟩
      rw [← hx] at hcell ht
      have hm : (x * n).natAbs ≤ 30 * 5000 := by rw [Int.natAbs_mul]; exact Nat.mul_le_mul (by omega) (by omega)
      have m1 : -150000 ≤ x * n := by omega
      have m2 : x * n ≤ 150000 := by omega
      have HNX := hid (Int.mul_ne_zero ht.1 HN.out)
      have HS : Hid ((xs.take (K + 1)).map (fun x => coreG (n * x)) = (xs.take K).map (fun x => coreG (n * x)) ++ [coreG (x * n)]) := hid (by rw [map_take hlt, hx, Int.mul_comm])
      have hi0 : (K : Int) < (xs.length : Int) := by omega
      have HLT := hid hlt
      obtain ⟨pre, hpre⟩ : ∃ pre, pre = (xs.take K).map (fun x => coreG (n * x)) := ⟨_, rfl⟩
      have hprel : pre.length ≤ 4 := by rw [hpre, List.length_map, List.length_take]; omega
      rw [← hpre] at HO HS
      have hbs : w.heap.size ≤ wr.heap.size := HB.out.size
      have hcbd := coreG_bd HNX.out m1 m2
      obtain ⟨c, hce⟩ : ∃ c, c = coreG (x * n) := ⟨_, rfl⟩
      have HCE : Hid (coreG (x * n) = c) := hid hce.symm
      rw [← hce] at HS hcbd
      have c1 := hcbd.1
      have c2 := hcbd.2
      unfold maxLen at hml
      clear hform hc hx ht hm hlt hpre hce hcbd
      go_wp2_with fail
      refine (numCore_any (x * n) HNX.out (by omega) (by omega) _).mono ?_
      rw [HCE.out]
      rintro e w' ⟨rfl, hb⟩
      rename World => wq
      have HOq := hid (HO.out.keep HO.out.lt hb)
      have HBq := hid (HB.out.trans (hb.mono HB.out.size))
      have hbq : w.heap.size ≤ wq.heap.size := HBq.out.size
      clear hb
      go_wp2_with (at_builtin; refine wpList_append_own_at _ rfl _ _ 22 rfl w.heap.size 3 i0 (.int .i64 0) 1 8 Try.underlying22 hi hz0 hz1 hz2 rfl (by decide) _ _ _ rfl ((show World.ownsRow _ _ _ _ _ _ _ from HOq.out).alloc _) ⟨wq.heap.size, 0, none⟩ 1 1 [.int .i64 c] rfl rfl (cell_one_new _ _ _) (by simp [Value.oneCell']) (by unfold maxLen; omega) (by omega) (by simp; omega) ?_; intro v' w3 hown' hgrow _ hat)
      have hsg := hgrow.size
      simp only [World.size_alloc] at hsg
      go_roundw
      case measure => simp only [intOf]; have := HLT.out; omega
      case rel =>
        refine ⟨K + 1, by go_num, by have := HLT.out; omega, hid ?_, hid (HBq.out.alloc hbq _ |>.grown hgrow (by simp; omega) (fun k e => (HOq.out.ge k e)))⟩
        rw [HS.out]
        unfold Owns
        simpa using hown'
    · obtain rfl : K = xs.length := by omega
      have HE : Hid (timesL xs n = (xs.take xs.length).map (fun x => coreG (n * x))) := hid (by rw [List.take_length]; rfl)
      clear hlt
      go_wp2_with fail
      go_ret
      exact ⟨_, rfl, by rw [HE.out]; exact HO.out, HB.out⟩

theorem formCores_any (v : Value) (xs : List Int) (w : World) (h : Rd w v xs) (hl : xs.length ≤ 1048576) : Calls Try.prog 21 #[v] w fun e w' => ∃ u, e = .returned (.tuple #[u, .bool (fvB xs)]) ∧ Owns w' w.heap.size u (fcoresL xs) ∧ Below w.heap.size w w' := by
  have HH := hid h
  cases hf : fvB xs with
  | false =>
    have HR : Hid (fcoresL xs = []) := hid (by unfold fcoresL; rw [hf]; rfl)
    have HF := hid hf
    clear hf h
    go_enter Try.func21, Try.ntmps21
    go_wp2_with fail
    refine (formValidP_any _ xs _ HH.out).mono ?_
    rw [HF.out]
    rintro e w' ⟨rfl, rfl⟩
    go_wp2_with fail
    go_ret2
    exact ⟨_, rfl, by rw [HR.out]; exact World.ownsRow_made (size := 1) w #[] 0 (Nat.le_refl _) (by unfold maxLen; omega) rfl, (Below.refl _ _).alloc (Nat.le_refl _) _⟩
  | true =>
    have HR : Hid (fcoresL xs = timesL xs 1) := hid (by unfold fcoresL; rw [hf]; rfl)
    have HF := hid hf
    clear hf h
    go_enter Try.func21, Try.ntmps21
    go_wp2_with fail
    refine (formValidP_any _ xs _ HH.out).mono ?_
    rw [HF.out]
    rintro e w' ⟨rfl, rfl⟩
    go_wp2_with fail
    refine (coresTimes_any _ xs 1 (by decide) (by decide) (by decide) _ HH.out HF.out).mono ?_
    rintro e w' ⟨u, rfl, ho, hb⟩
    go_wp2_with fail
    go_ret2
    exact ⟨_, rfl, by rw [HR.out]; exact ho, hb⟩

set_option maxRecDepth 100000 in
set_option maxHeartbeats 1000000 in
theorem formTimes_any (v : Value) (xs : List Int) (n : Int) (w : World) (h : Rd w v xs) (hl : xs.length ≤ 1048576) : Calls Try.prog 19 #[v, .int .i64 n] w fun e w' => ∃ u, e = .returned (.tuple #[u, .bool (timesOk xs n)]) ∧ Owns w' w.heap.size u (ftimesL xs n) ∧ Below w.heap.size w w' := by
  have HH := hid h
  have HNO : Hid (timesOk xs n = false → ftimesL xs n = []) := hid (fun e => by unfold ftimesL; rw [e]; rfl)
  cases hf : fvB xs with
  | false =>
    have HO : Hid (timesOk xs n = false) := hid (by unfold timesOk; rw [hf]; rfl)
    have HF := hid hf
    clear hf h
    go_enter Try.func19, Try.ntmps19
    go_wp2_with fail
    refine (formValidP_any _ xs _ HH.out).mono ?_
    rw [HF.out]
    rintro e w' ⟨rfl, rfl⟩
    go_wp2_with fail
    go_ret2
    rw [HO.out]
    exact ⟨_, rfl, by rw [HNO.out HO.out]; exact World.ownsRow_made (size := 1) w #[] 0 (Nat.le_refl _) (by unfold maxLen; omega) rfl, (Below.refl _ _).alloc (Nat.le_refl _) _⟩
  | true =>
    have HF := hid hf
    cases hn : factB n with
    | false =>
      have HN := hid hn
      have HO : Hid (timesOk xs n = false) := hid (by unfold timesOk; rw [hn, Bool.false_and, Bool.and_false])
      clear hf h hn
      go_enter Try.func19, Try.ntmps19
      go_wp2_with fail
      refine (formValidP_any _ xs _ HH.out).mono ?_
      rw [HF.out]
      rintro e w' ⟨rfl, rfl⟩
      go_wp2_with fail
      refine (factored_any n _).mono ?_
      rw [HN.out]
      rintro e w' ⟨rfl, rfl⟩
      go_wp2_with fail
      go_ret2
      rw [HO.out]
      exact ⟨_, rfl, by rw [HNO.out HO.out]; exact World.ownsRow_made (size := 1) w #[] 0 (Nat.le_refl _) (by unfold maxLen; omega) rfl, (Below.refl _ _).alloc (Nat.le_refl _) _⟩
    | true =>
      have HN := hid hn
      have hbd := factB_bd hn
      have N0 := hid hbd.1
      have n1 := hbd.2.1
      have n2 := hbd.2.2
      cases ht : fvB (timesL xs n) with
      | false =>
        have HT := hid ht
        have HO : Hid (timesOk xs n = false) := hid (by unfold timesOk; rw [ht, Bool.and_false, Bool.and_false])
        clear hf h hn ht hbd
        go_enter Try.func19, Try.ntmps19
        go_wp2_with fail
        refine (formValidP_any _ xs _ HH.out).mono ?_
        rw [HF.out]
        rintro e w' ⟨rfl, rfl⟩
        go_wp2_with fail
        refine (factored_any n _).mono ?_
        rw [HN.out]
        rintro e w' ⟨rfl, rfl⟩
        go_wp2_with fail
        refine (coresTimes_any _ xs n N0.out (by omega) (by omega) _ HH.out HF.out).mono ?_
        rintro e w' ⟨u, rfl, ho, hb⟩
        rename World => w3
        have HOW := hid ho
        have HB := hid hb
        clear ho hb
        go_wp2_with fail
        refine (formValidP_any _ (timesL xs n) _ HOW.out.rd).mono ?_
        rw [HT.out]
        rintro e w' ⟨rfl, rfl⟩
        go_wp2_with fail
        go_ret2
        rw [HO.out]
        exact ⟨_, rfl, by rw [HNO.out HO.out]; exact World.ownsRow_made (size := 1) w3 #[] 0 HB.out.size (by unfold maxLen; omega) rfl, HB.out.alloc HB.out.size _⟩
      | true =>
        have HT := hid ht
        have HO : Hid (timesOk xs n = true) := hid (by unfold timesOk; rw [hf, hn, ht]; rfl)
        have HL : Hid (ftimesL xs n = timesL xs n) := hid (by unfold ftimesL; rw [HO.out]; rfl)
        clear hf h hn ht hbd
        go_enter Try.func19, Try.ntmps19
        go_wp2_with fail
        refine (formValidP_any _ xs _ HH.out).mono ?_
        rw [HF.out]
        rintro e w' ⟨rfl, rfl⟩
        go_wp2_with fail
        refine (factored_any n _).mono ?_
        rw [HN.out]
        rintro e w' ⟨rfl, rfl⟩
        go_wp2_with fail
        refine (coresTimes_any _ xs n N0.out (by omega) (by omega) _ HH.out HF.out).mono ?_
        rintro e w' ⟨u, rfl, ho, hb⟩
        have HOW := hid ho
        have HB := hid hb
        clear ho hb
        go_wp2_with fail
        refine (formValidP_any _ (timesL xs n) _ HOW.out.rd).mono ?_
        rw [HT.out]
        rintro e w' ⟨rfl, rfl⟩
        go_wp2_with fail
        go_ret2
        rw [HO.out]
        exact ⟨_, rfl, by rw [HL.out]; exact HOW.out, HB.out⟩

theorem placesG_short (n : Int) : (placesG n).length ≤ n.natAbs + 3 := by
  have h : placesG n = plcs ((ppowG n.natAbs).map (·.1)) := by unfold plcs placesG; rw [plistG_eq]
  have h1 := plcs_len ((ppowG n.natAbs).map (·.1))
  have h2 := ppowG_len n.natAbs
  rw [List.length_map] at h1
  rw [h]
  omega


end Go.Proofs.Ytciajpimpjpnfac
