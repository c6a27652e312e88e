/-
  Contracts of the model's chapter 4: equal forms; joined forms; multiplied forms and cores.
-/
import Derived.Test.YtciajpimpjpnfabFm4
import Derived.Laws.AppendOwnNone
set_option linter.unusedVariables false
namespace Go.Proofs.Ytciajpimpjpnfab
open Go.RowKit

theorem prod_join {xs ys : List Int} (hf : fvB xs = true) (hg : fvB ys = true) : prodI xs * prodI ys ≠ 0 ∧ -656100000000 ≤ prodI xs * prodI ys ∧ prodI xs * prodI ys ≤ 656100000000 ∧ (∀ q ∈ placesG (prodI xs * prodI ys), plI q = true) := by
  have hp := prod_full hf
  have hr := prod_full hg
  have hn := Int.mul_ne_zero hp.1 hr.1
  have hm : (prodI xs * prodI ys).natAbs ≤ 810000 * 810000 := by rw [Int.natAbs_mul]; exact Nat.mul_le_mul (by omega) (by omega)
  refine ⟨hn, by omega, by omega, ?_⟩
  rw [← prodI_app]
  refine places_small (fun x hx => ?_) (by rw [prodI_app]; exact hn)
  rcases List.mem_append.1 hx with h | h
  · exact (fvB_iff.1 hf).1 x h
  · exact (fvB_iff.1 hg).1 x h


theorem map_take {xs : List Int} {f : Int → Int} {i : Nat} (hi : i < xs.length) : (xs.take (i + 1)).map f = (xs.take i).map f ++ [f (xs.getD i 0)] := by
  rw [take_snoc _ _ hi, List.map_append, getD_at _ _ hi]; rfl

set_option maxRecDepth 100000 in
set_option maxHeartbeats 2000000 in
theorem l4Times_any (v : Value) (xs : List Int) (n : Int) (n0 : n ≠ 0) (n1 : -5000 ≤ n) (n2 : n ≤ 5000) (w : World) (h : Rd w v xs) (hf : fvB xs = true) :
    Calls Try.prog 60 #[v, .int .i64 n] w fun e w' => ∃ u, e = .returned u ∧ Owns w' w.heap.size u (timesL xs n) ∧ Below w.heap.size w w' := by
  obtain ⟨i0, hi, hz0, hz1, hz2⟩ := info_parts infoInt
  have HB0 := hid ((Below.refl w.heap.size w).alloc (Nat.le_refl _) (.cells #[] 3))
  have HO0 : Hid (Owns (w.alloc (.cells #[] 3)) w.heap.size (.slice (some ⟨w.heap.size, 0, none⟩) 0 0) []) := hid (World.ownsRow_made (size := 1) w #[] 0 (Nat.le_refl _) (by unfold maxLen; omega) rfl)
  have HH := hid h
  obtain ⟨ad, cap, rfl, _⟩ := h.form
  have HF := hid hf
  have HN := hid n0
  have hl4 := (fvB_iff.1 hf).2.2
  clear h hf n0
  go_enter Try.func60, Try.ntmps60
  go_wp2_with fail
  go_loopw [5, 6] (fun so si wr => ∃ K : Nat, si = .int .i64 K ∧ K ≤ xs.length ∧ Hid (Owns wr w.heap.size so ((xs.take K).map (fun x => coreG (n * x)))) ∧ Hid (Below w.heap.size w wr)) (fun _ si _ => xs.length - (intOf si).toNat)
  case atStart => exact ⟨0, rfl, by omega, hid (by simpa using HO0.out), HB0⟩
  case round =>
    obtain ⟨K, rfl, hK, HO, HB⟩ := hrel
    rename World => wr
    by_cases hlt : K < xs.length
    · obtain ⟨a2, cap2, e2, hform⟩ := (HH.out.keep HB.out).form
      cases e2
      obtain ⟨bb, o, rfl, hml, hc⟩ := hform (by omega)
      have hcell := hc K hlt
      have ht := fv_at HF.out hlt
      obtain ⟨x, hx⟩ : ∃ x, x = xs.getD K 0 := ⟨_, rfl⟩
      rw [← hx] at hcell ht
      have hm : (n * x).natAbs ≤ 5000 * 30 := by rw [Int.natAbs_mul]; exact Nat.mul_le_mul (by omega) (by omega)
      have m1 : -150000 ≤ n * x := by omega
      have m2 : n * x ≤ 150000 := by omega
      have HNX := hid (Int.mul_ne_zero HN.out ht.1)
      have HS : Hid ((xs.take (K + 1)).map (fun x => coreG (n * x)) = (xs.take K).map (fun x => coreG (n * x)) ++ [coreG (n * x)]) := hid (by rw [map_take hlt, hx])
      have hi0 : (K : Int) < (xs.length : Int) := by omega
      have HLT := hid hlt
      obtain ⟨pre, hpre⟩ : ∃ pre, pre = (xs.take K).map (fun x => coreG (n * x)) := ⟨_, rfl⟩
      have hprel : pre.length ≤ 4 := by rw [hpre, List.length_map, List.length_take]; omega
      rw [← hpre] at HO HS
      have hbs : w.heap.size ≤ wr.heap.size := HB.out.size
      obtain ⟨c, hce⟩ : ∃ c, c = coreG (n * x) := ⟨_, rfl⟩
      have HCE : Hid (coreG (n * x) = c) := hid hce.symm
      rw [← hce] at HS
      have hcb := core_is HNX.out
      have hcbd : c.natAbs ≤ 150000 := by
        rw [hce]
        have e : (n * x).natAbs = (coreG (n * x)).natAbs * (rootG (n * x) * rootG (n * x)) := by
          conv => lhs; rw [← hcb.eq]
          rw [Int.natAbs_mul, Int.natAbs_mul, Int.natAbs_natCast]
        have := Nat.le_mul_of_pos_right (coreG (n * x)).natAbs (Nat.mul_pos hcb.pos hcb.pos)
        omega
      unfold maxLen at hml
      clear hform hc hx ht hm hlt hpre hce hcb
      go_wp2_with (first | (go_at_call 66; refine (l1CoreG_any _ HNX.out (by omega) (by omega) _).mono ?_; rw [HCE.out]; rintro e w' ⟨rfl, rfl⟩) | (at_builtin; refine wpList_append_own_at _ rfl _ _ 23 rfl w.heap.size 3 i0 (.int .i64 0) 1 8 Try.underlying23 hi hz0 hz1 hz2 rfl (by decide) _ _ _ rfl ((show World.ownsRow _ _ _ _ _ _ _ from HO.out).alloc _) ⟨wr.heap.size, 0, none⟩ 1 1 [.int .i64 c] rfl rfl (cell_one_new _ _ _) (by simp [Value.oneCell']) (by unfold maxLen; omega) (by omega) (by simp; omega) ?_; intro v' w3 hown' hgrow _ hat))
      have hsg := hgrow.size
      simp only [World.size_alloc] at hsg
      go_roundw
      case measure => simp only [intOf]; have := HLT.out; omega
      case rel =>
        refine ⟨K + 1, by go_num, by have := HLT.out; omega, hid ?_, hid (HB.out.alloc hbs _ |>.grown hgrow (by simp; omega) (fun k e => (HO.out.ge k e)))⟩
        rw [HS.out]
        unfold Owns
        simpa using hown'
    · obtain rfl : K = xs.length := by omega
      have HE : Hid (timesL xs n = (xs.take xs.length).map (fun x => coreG (n * x))) := hid (by rw [List.take_length]; rfl)
      clear hlt
      go_wp2_with fail
      go_ret
      exact ⟨_, rfl, by rw [HE.out]; exact HO.out, HB.out⟩

theorem formCoresS_any (v : Value) (xs : List Int) (w : World) (h : Rd w v xs) : Calls Try.prog 28 #[v] w fun e w' => ∃ u, e = .returned (.tuple #[u, .bool (fvB xs)]) ∧ Owns w' w.heap.size u (fcoresL xs) ∧ Below w.heap.size w w' := by
  have HH := hid h
  cases hf : fvB xs with
  | false =>
    have HR : Hid (fcoresL xs = []) := hid (by unfold fcoresL; rw [hf]; rfl)
    have HF := hid hf
    clear hf h
    go_enter Try.func28, Try.ntmps28
    go_wp2_with (go_at_call 30; refine (formValidS_any _ _ _ HH.out).mono ?_; rw [HF.out]; rintro e w' ⟨rfl, rfl⟩)
    go_ret2
    exact ⟨_, rfl, by rw [HR.out]; exact World.ownsRow_made (size := 1) w #[] 0 (Nat.le_refl _) (by unfold maxLen; omega) rfl, (Below.refl _ _).alloc (Nat.le_refl _) _⟩
  | true =>
    have HR : Hid (fcoresL xs = timesL xs 1) := hid (by unfold fcoresL; rw [hf]; rfl)
    have HF := hid hf
    clear hf h
    go_enter Try.func28, Try.ntmps28
    go_wp2_with (first | (go_at_call 30; refine (formValidS_any _ _ _ HH.out).mono ?_; rw [HF.out]; rintro e w' ⟨rfl, rfl⟩) | (go_at_call 60; refine (l4Times_any _ _ 1 (by decide) (by decide) (by decide) _ HH.out HF.out).mono ?_; rintro e w2 ⟨u, rfl, ho, hb⟩))
    go_ret2
    exact ⟨_, rfl, by rw [HR.out]; exact ho, hb⟩

set_option maxRecDepth 100000 in
set_option maxHeartbeats 1000000 in
theorem formTimesS_any (v : Value) (xs : List Int) (n : Int) (w : World) (h : Rd w v xs) : Calls Try.prog 24 #[v, .int .i64 n] w fun e w' => ∃ u, e = .returned (.tuple #[u, .bool (timesOk xs n)]) ∧ Owns w' w.heap.size u (ftimesL xs n) ∧ Below w.heap.size w w' := by
  have HH := hid h
  cases hf : fvB xs with
  | false =>
    have HO : Hid (timesOk xs n = false) := hid (by unfold timesOk; rw [hf]; rfl)
    have HR : Hid (ftimesL xs n = []) := hid (by unfold ftimesL; rw [HO.out]; rfl)
    have HF := hid hf
    clear hf h
    go_enter Try.func24, Try.ntmps24
    go_wp2_with (go_at_call 30; refine (formValidS_any _ _ _ HH.out).mono ?_; rw [HF.out]; rintro e w' ⟨rfl, rfl⟩)
    go_ret2
    rw [HO.out]
    exact ⟨_, rfl, by rw [HR.out]; exact World.ownsRow_made (size := 1) w #[] 0 (Nat.le_refl _) (by unfold maxLen; omega) rfl, (Below.refl _ _).alloc (Nat.le_refl _) _⟩
  | true =>
    have HF := hid hf
    rcases factB_cases n with ⟨n1, n2, n0, O, hF⟩ | ⟨rfl, hF⟩ | ⟨n0, O, hF⟩
    · have T0 : (n == 0) = false := by rw [beq_eq_false_iff_ne]; exact n0
      have HN := hid n0
      have HON := hid O
      cases ht : fvB (timesL xs n) with
      | false =>
        have HO : Hid (timesOk xs n = false) := hid (by unfold timesOk; rw [ht, Bool.and_false, Bool.and_false])
        have HR : Hid (ftimesL xs n = []) := hid (by unfold ftimesL; rw [HO.out]; rfl)
        have HT := hid ht
        clear hf h hF n0 O ht
        go_enter Try.func24, Try.ntmps24
        go_wp2_with fail
        refine (formValidS_any _ xs _ HH.out).mono ?_
        rw [HF.out]
        rintro e w' ⟨rfl, rfl⟩
        go_wp2_with fail
        refine (l1Number_any _ _).mono ?_
        rw [HON.out]
        rintro e w' ⟨rfl, rfl⟩
        go_wp2_with fail
        refine (l4Times_any _ _ n HN.out n1 n2 _ HH.out HF.out).mono ?_
        rintro e w2 ⟨u, rfl, ho, hb⟩
        go_wp2_with fail
        refine (formValidS_any _ (timesL xs n) _ ho.rd).mono ?_
        rw [HT.out]
        rintro e w' ⟨rfl, rfl⟩
        go_wp2
        go_ret2
        rw [HO.out]
        exact ⟨_, rfl, by rw [HR.out]; exact World.ownsRow_made (size := 1) w2 #[] 0 hb.size (by unfold maxLen; omega) rfl, hb.alloc hb.size _⟩
      | true =>
        have HO : Hid (timesOk xs n = true) := hid (by unfold timesOk; rw [hf, hF, ht]; rfl)
        have HR : Hid (ftimesL xs n = timesL xs n) := hid (by unfold ftimesL; rw [HO.out]; rfl)
        have HT := hid ht
        clear hf h hF n0 O ht
        go_enter Try.func24, Try.ntmps24
        go_wp2_with fail
        refine (formValidS_any _ xs _ HH.out).mono ?_
        rw [HF.out]
        rintro e w' ⟨rfl, rfl⟩
        go_wp2_with fail
        refine (l1Number_any _ _).mono ?_
        rw [HON.out]
        rintro e w' ⟨rfl, rfl⟩
        go_wp2_with fail
        refine (l4Times_any _ _ n HN.out n1 n2 _ HH.out HF.out).mono ?_
        rintro e w2 ⟨u, rfl, ho, hb⟩
        go_wp2_with fail
        refine (formValidS_any _ (timesL xs n) _ ho.rd).mono ?_
        rw [HT.out]
        rintro e w' ⟨rfl, rfl⟩
        go_wp2
        go_ret2
        rw [HO.out]
        exact ⟨_, rfl, by rw [HR.out]; exact ho, hb⟩
    · have HO : Hid (timesOk xs 0 = false) := hid (by unfold timesOk; rw [hF, Bool.false_and, Bool.and_false])
      have HR : Hid (ftimesL xs 0 = []) := hid (by unfold ftimesL; rw [HO.out]; rfl)
      clear hf h hF
      go_enter Try.func24, Try.ntmps24
      go_wp2_with (first | (go_at_call 59; refine (l1Number_any _ _).mono ?_; rw [show okN 0 = true from rfl]; rintro e w' ⟨rfl, rfl⟩) | (go_at_call 30; refine (formValidS_any _ xs _ HH.out).mono ?_; rw [HF.out]; rintro e w' ⟨rfl, rfl⟩))
      go_ret2
      rw [HO.out]
      exact ⟨_, rfl, by rw [HR.out]; exact World.ownsRow_made (size := 1) w #[] 0 (Nat.le_refl _) (by unfold maxLen; omega) rfl, (Below.refl _ _).alloc (Nat.le_refl _) _⟩
    · have HO : Hid (timesOk xs n = false) := hid (by unfold timesOk; rw [hF, Bool.false_and, Bool.and_false])
      have HR : Hid (ftimesL xs n = []) := hid (by unfold ftimesL; rw [HO.out]; rfl)
      have HON := hid O
      clear hf h hF n0 O
      go_enter Try.func24, Try.ntmps24
      go_wp2_with (first | (go_at_call 59; refine (l1Number_any _ _).mono ?_; rw [HON.out]; rintro e w' ⟨rfl, rfl⟩) | (go_at_call 30; refine (formValidS_any _ xs _ HH.out).mono ?_; rw [HF.out]; rintro e w' ⟨rfl, rfl⟩))
      go_ret2
      rw [HO.out]
      exact ⟨_, rfl, by rw [HR.out]; exact World.ownsRow_made (size := 1) w #[] 0 (Nat.le_refl _) (by unfold maxLen; omega) rfl, (Below.refl _ _).alloc (Nat.le_refl _) _⟩

end Go.Proofs.Ytciajpimpjpnfab
