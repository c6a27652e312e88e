/-
  Contracts of the model's chapter 4: equal forms; joined forms; multiplied forms and cores.
-/
import Derived.Test.YtciajpimpjpnfacFm4
import Derived.Laws.AppendOwnNone
set_option linter.unusedVariables false
namespace Go.Proofs.Ytciajpimpjpnfac
open Go.RowKit

theorem prod_join {xs ys : List Int} (hf : fvB xs = true) (hg : fvB ys = true) : prodI xs * prodI ys ≠ 0 ∧ -656100000000 ≤ prodI xs * prodI ys ∧ prodI xs * prodI ys ≤ 656100000000 ∧ (∀ q ∈ placesG (prodI xs * prodI ys), plI q = true) := by
  have hp := prod_full hf
  have hr := prod_full hg
  have hn := Int.mul_ne_zero hp.1 hr.1
  have hm : (prodI xs * prodI ys).natAbs ≤ 810000 * 810000 := by rw [Int.natAbs_mul]; exact Nat.mul_le_mul (by omega) (by omega)
  refine ⟨hn, by omega, by omega, ?_⟩
  rw [← prodI_app]
  refine places_small (fun x hx => ?_) (by rw [prodI_app]; exact hn)
  rcases List.mem_append.1 hx with h | h
  · exact (fvB_iff.1 hf).1 x h
  · exact (fvB_iff.1 hg).1 x h

set_option maxRecDepth 100000 in
set_option maxHeartbeats 2000000 in
theorem formSameS_any (va vb : Value) (xs ys : List Int) (w : World) (hx : Rd w va xs) (hy : Rd w vb ys) : Calls Try.prog 10 #[va, vb] w fun e w' => e = .returned (.bool (fsameV xs ys)) ∧ Below w.heap.size w w' := by
  have HX := hid hx
  have HY := hid hy
  clear hx hy
  cases hb : bothB xs ys with
  | false =>
    have HR : Hid (fsameV xs ys = false) := hid (by unfold fsameV; rw [hb]; rfl)
    have HBO := hid hb
    clear hb
    go_enter Try.func10, Try.ntmps10
    go_wp2_with (go_at_call 30; refine (l4Both_any _ _ _ _ _ HX.out HY.out).mono ?_; rw [HBO.out]; rintro e w' ⟨rfl, rfl⟩)
    go_ret
    exact ⟨retB HR.out.symm, Below.refl _ _⟩
  | true =>
    have HBO := hid hb
    have hbb := hb
    unfold bothB at hbb
    rw [Bool.and_eq_true, Bool.and_eq_true] at hbb
    have HF := hid hbb.1
    have HG := hid hbb.2.1
    have hdx : discV xs = coreG (prodI xs) := by unfold discV; rw [hbb.1]; rfl
    have hdy : discV ys = coreG (prodI ys) := by unfold discV; rw [hbb.2.1]; rfl
    obtain ⟨c, hc⟩ : ∃ c, c = coreG (prodI xs) := ⟨_, rfl⟩
    obtain ⟨d, hd⟩ : ∃ d, d = coreG (prodI ys) := ⟨_, rfl⟩
    have HC : Hid (discV xs = c) := hid (by rw [hdx, hc])
    have HD : Hid (discV ys = d) := hid (by rw [hdy, hd])
    have HV : Hid (fsameV xs ys = (decide (c = d) && (placesG (prodI xs * prodI ys)).all (alikeB xs ys))) := hid (by unfold fsameV; rw [hb, hc, hd]; rfl)
    obtain ⟨hn, m1, m2, hpl⟩ := prod_join hbb.1 hbb.2.1
    have hp := prod_full hbb.1
    have hr := prod_full hbb.2.1
    have p1 := hp.2.1
    have p2 := hp.2.2
    have r1 := hr.2.1
    have r2 := hr.2.2
    have HN := hid hn
    have HPP := hid hpl
    have hlen := placesG_len hn (by omega) (by omega)
    clear hb hbb hdx hdy hc hd hn hpl hp hr
    by_cases hcd : c = d
    · have TN : (c != d) = false := by rw [hcd]; simp
      have HV2 : Hid (fsameV xs ys = (placesG (prodI xs * prodI ys)).all (alikeB xs ys)) := hid (by rw [HV.out, decide_eq_true hcd, Bool.true_and])
      clear hcd
      go_enter Try.func10, Try.ntmps10
      go_wp2_with (go_at_call 30; refine (l4Both_any _ _ _ _ _ HX.out HY.out).mono ?_; rw [HBO.out]; rintro e w' ⟨rfl, rfl⟩)
      refine (formDiscS_any _ xs _ HX.out).mono ?_
      rw [HC.out]
      rintro e w' ⟨rfl, rfl⟩
      go_wp2_with fail
      refine (formDiscS_any _ ys _ HY.out).mono ?_
      rw [HD.out]
      rintro e w' ⟨rfl, rfl⟩
      go_wp2_with fail
      refine (l4Product_any _ xs _ HX.out HF.out).mono ?_
      rintro e w' ⟨rfl, rfl⟩
      go_wp2_with fail
      refine (l4Product_any _ ys _ HY.out HG.out).mono ?_
      rintro e w' ⟨rfl, rfl⟩
      go_wp2_with (go_at_call 32; refine (l2PlacesG_any _ HN.out (by omega) (by omega) _).mono ?_; rintro e w2 ⟨u, rfl, ho, hb⟩)
      obtain ⟨ps, hps⟩ : ∃ ps, ps = placesG (prodI xs * prodI ys) := ⟨_, rfl⟩
      rw [← hps] at ho HPP HV2 hlen
      have HX2 := hid (HX.out.keep hb)
      have HY2 := hid (HY.out.keep hb)
      have HB2 := hid hb
      obtain ⟨ad, cap, rfl, hform⟩ := ho.rd.form
      have HFM := hid hform
      clear ho hform hb hps
      go_wp2_with fail
      go_loopw [6] (fun si wr => ∃ K : Nat, si = .int .i64 K ∧ K ≤ ps.length ∧ Hid (∀ i, i < K → alikeB xs ys (ps.getD i 0) = true) ∧ Hid (∃ k, wr = w2.drewN k)) (fun si _ => ps.length - (intOf si).toNat)
      case atStart => exact ⟨0, rfl, by omega, hid (fun i hi => by omega), hid ⟨0, rfl⟩⟩
      case round =>
        obtain ⟨K, rfl, hK, HE, HW⟩ := hrel
        rename World => wr
        have HXr : Hid (Rd wr va xs) := hid (by obtain ⟨k, rfl⟩ := HW.out; exact HX2.out.drewN k)
        have HYr : Hid (Rd wr vb ys) := hid (by obtain ⟨k, rfl⟩ := HW.out; exact HY2.out.drewN k)
        have HBr : Hid (Below w.heap.size w wr) := hid (by obtain ⟨k, rfl⟩ := HW.out; exact below_drewN HB2.out k)
        by_cases hlt : K < ps.length
        · obtain ⟨bb, o, rfl, hml, hc⟩ := HFM.out (by omega)
          have hcell : wr.cell? ⟨bb, o + K, none⟩ = some (.int .i64 (ps.getD K 0)) := by obtain ⟨k, rfl⟩ := HW.out; exact hc K hlt
          obtain ⟨x, hxe⟩ : ∃ x, x = ps.getD K 0 := ⟨_, rfl⟩
          have HXP : Hid (plI x = true) := hid (HPP.out x (by rw [hxe, getD_at _ _ hlt]; exact List.getElem_mem _))
          rw [← hxe] at hcell
          have HXE := hid hxe
          have HLT := hid hlt
          have hi0 : (K : Int) < (ps.length : Int) := by omega
          unfold maxLen at hml
          clear hc hxe hlt
          cases hal : alikeB xs ys x with
          | false =>
            have HAL := hid hal
            have HR : Hid (fsameV xs ys = false) := hid (by
              rw [HV2.out, List.all_eq_false]
              exact ⟨x, by rw [HXE.out, getD_at _ _ HLT.out]; exact List.getElem_mem _, by rw [hal]; decide⟩)
            clear hal
            go_wp2_with fail
            refine (l4Alike_any _ _ xs ys x _ HXr.out HYr.out HF.out HG.out HXP.out).mono ?_
            rw [HAL.out]
            rintro e wq ⟨rfl, kq, rfl⟩
            go_wp2
            go_ret
            exact ⟨retB HR.out.symm, below_drewN HBr.out kq⟩
          | true =>
            have HAL := hid hal
            clear hal
            go_wp2_with fail
            refine (l4Alike_any _ _ xs ys x _ HXr.out HYr.out HF.out HG.out HXP.out).mono ?_
            rw [HAL.out]
            rintro e wq ⟨rfl, kq, rfl⟩
            go_wp2_with fail
            go_round
            case measure => simp only [intOf]; have := HLT.out; omega
            case rel => exact ⟨K + 1, by go_num, by have := HLT.out; omega, hid (fun i hi => by
              by_cases e : i = K
              · rw [e, ← HXE.out]; exact HAL.out
              · exact HE.out i (by omega)), hid (by obtain ⟨k, hk⟩ := HW.out; exact ⟨k + kq, by rw [hk, World.drewN_drewN]⟩)⟩
        · obtain rfl : K = ps.length := by omega
          have HR : Hid (fsameV xs ys = true) := hid (by
            rw [HV2.out]
            exact List.all_eq_true.2 fun x hx => by
              obtain ⟨i, hi, rfl⟩ := List.getElem_of_mem hx
              have := HE.out i hi
              rwa [getD_at _ _ hi] at this)
          clear hlt
          go_wp2_with fail
          go_ret
          exact ⟨retB HR.out.symm, HBr.out⟩
    · have TN : (c != d) = true := by rw [bne_iff_ne]; exact hcd
      have HR : Hid (fsameV xs ys = false) := hid (by rw [HV.out, decide_eq_false hcd, Bool.false_and])
      clear hcd
      go_enter Try.func10, Try.ntmps10
      go_wp2_with (go_at_call 30; refine (l4Both_any _ _ _ _ _ HX.out HY.out).mono ?_; rw [HBO.out]; rintro e w' ⟨rfl, rfl⟩)
      refine (formDiscS_any _ xs _ HX.out).mono ?_
      rw [HC.out]
      rintro e w' ⟨rfl, rfl⟩
      go_wp2_with fail
      refine (formDiscS_any _ ys _ HY.out).mono ?_
      rw [HD.out]
      rintro e w' ⟨rfl, rfl⟩
      go_wp2
      go_ret
      exact ⟨retB HR.out.symm, Below.refl _ _⟩

theorem map_take {xs : List Int} {f : Int → Int} {i : Nat} (hi : i < xs.length) : (xs.take (i + 1)).map f = (xs.take i).map f ++ [f (xs.getD i 0)] := by
  rw [take_snoc _ _ hi, List.map_append, getD_at _ _ hi]; rfl

set_option maxRecDepth 100000 in
set_option maxHeartbeats 2000000 in
theorem l4Times_any (v : Value) (xs : List Int) (n : Int) (n0 : n ≠ 0) (n1 : -5000 ≤ n) (n2 : n ≤ 5000) (w : World) (h : Rd w v xs) (hf : fvB xs = true) :
    Calls Try.prog 43 #[v, .int .i64 n] w fun e w' => ∃ u, e = .returned u ∧ Owns w' w.heap.size u (timesL xs n) ∧ Below w.heap.size w w' := by
  obtain ⟨i0, hi, hz0, hz1, hz2⟩ := info_parts infoInt
  have HB0 := hid ((Below.refl w.heap.size w).alloc (Nat.le_refl _) (.cells #[] 3))
  have HO0 : Hid (Owns (w.alloc (.cells #[] 3)) w.heap.size (.slice (some ⟨w.heap.size, 0, none⟩) 0 0) []) := hid (World.ownsRow_made (size := 1) w #[] 0 (Nat.le_refl _) (by unfold maxLen; omega) rfl)
  have HH := hid h
  obtain ⟨ad, cap, rfl, _⟩ := h.form
  have HF := hid hf
  have HN := hid n0
  have hl4 := (fvB_iff.1 hf).2.2
  clear h hf n0
  go_enter Try.func43, Try.ntmps43
  go_wp2_with fail
  go_loopw [5, 6] (fun so si wr => ∃ K : Nat, si = .int .i64 K ∧ K ≤ xs.length ∧ Hid (Owns wr w.heap.size so ((xs.take K).map (fun x => coreG (n * x)))) ∧ Hid (Below w.heap.size w wr)) (fun _ si _ => xs.length - (intOf si).toNat)
  case atStart => exact ⟨0, rfl, by omega, hid (by simpa using HO0.out), HB0⟩
  case round =>
    obtain ⟨K, rfl, hK, HO, HB⟩ := hrel
    rename World => wr
    by_cases hlt : K < xs.length
    · obtain ⟨a2, cap2, e2, hform⟩ := (HH.out.keep HB.out).form
      cases e2
      obtain ⟨bb, o, rfl, hml, hc⟩ := hform (by omega)
      have hcell := hc K hlt
      have ht := fv_at HF.out hlt
      obtain ⟨x, hx⟩ : ∃ x, x = xs.getD K 0 := ⟨_, rfl⟩
      rw [← hx] at hcell ht
      have hm : (n * x).natAbs ≤ 5000 * 30 := by rw [Int.natAbs_mul]; exact Nat.mul_le_mul (by omega) (by omega)
      have m1 : -150000 ≤ n * x := by omega
      have m2 : n * x ≤ 150000 := by omega
      have HNX := hid (Int.mul_ne_zero HN.out ht.1)
      have HS : Hid ((xs.take (K + 1)).map (fun x => coreG (n * x)) = (xs.take K).map (fun x => coreG (n * x)) ++ [coreG (n * x)]) := hid (by rw [map_take hlt, hx])
      have hi0 : (K : Int) < (xs.length : Int) := by omega
      have HLT := hid hlt
      obtain ⟨pre, hpre⟩ : ∃ pre, pre = (xs.take K).map (fun x => coreG (n * x)) := ⟨_, rfl⟩
      have hprel : pre.length ≤ 4 := by rw [hpre, List.length_map, List.length_take]; omega
      rw [← hpre] at HO HS
      have hbs : w.heap.size ≤ wr.heap.size := HB.out.size
      obtain ⟨c, hce⟩ : ∃ c, c = coreG (n * x) := ⟨_, rfl⟩
      have HCE : Hid (coreG (n * x) = c) := hid hce.symm
      rw [← hce] at HS
      have hcb := core_is HNX.out
      have hcbd : c.natAbs ≤ 150000 := by
        rw [hce]
        have e : (n * x).natAbs = (coreG (n * x)).natAbs * (rootG (n * x) * rootG (n * x)) := by
          conv => lhs; rw [← hcb.eq]
          rw [Int.natAbs_mul, Int.natAbs_mul, Int.natAbs_natCast]
        have := Nat.le_mul_of_pos_right (coreG (n * x)).natAbs (Nat.mul_pos hcb.pos hcb.pos)
        omega
      unfold maxLen at hml
      clear hform hc hx ht hm hlt hpre hce hcb
      go_wp2_with (first | (go_at_call 49; refine (l1CoreG_any _ HNX.out (by omega) (by omega) _).mono ?_; rw [HCE.out]; rintro e w' ⟨rfl, rfl⟩) | (at_builtin; refine wpList_append_own_at _ rfl _ _ 22 rfl w.heap.size 3 i0 (.int .i64 0) 1 8 Try.underlying22 hi hz0 hz1 hz2 rfl (by decide) _ _ _ rfl ((show World.ownsRow _ _ _ _ _ _ _ from HO.out).alloc _) ⟨wr.heap.size, 0, none⟩ 1 1 [.int .i64 c] rfl rfl (cell_one_new _ _ _) (by simp [Value.oneCell']) (by unfold maxLen; omega) (by omega) (by simp; omega) ?_; intro v' w3 hown' hgrow _ hat))
      have hsg := hgrow.size
      simp only [World.size_alloc] at hsg
      go_roundw
      case measure => simp only [intOf]; have := HLT.out; omega
      case rel =>
        refine ⟨K + 1, by go_num, by have := HLT.out; omega, hid ?_, hid (HB.out.alloc hbs _ |>.grown hgrow (by simp; omega) (fun k e => (HO.out.ge k e)))⟩
        rw [HS.out]
        unfold Owns
        simpa using hown'
    · obtain rfl : K = xs.length := by omega
      have HE : Hid (timesL xs n = (xs.take xs.length).map (fun x => coreG (n * x))) := hid (by rw [List.take_length]; rfl)
      clear hlt
      go_wp2_with fail
      go_ret
      exact ⟨_, rfl, by rw [HE.out]; exact HO.out, HB.out⟩

theorem formCoresS_any (v : Value) (xs : List Int) (w : World) (h : Rd w v xs) : Calls Try.prog 20 #[v] w fun e w' => ∃ u, e = .returned (.tuple #[u, .bool (fvB xs)]) ∧ Owns w' w.heap.size u (fcoresL xs) ∧ Below w.heap.size w w' := by
  have HH := hid h
  cases hf : fvB xs with
  | false =>
    have HR : Hid (fcoresL xs = []) := hid (by unfold fcoresL; rw [hf]; rfl)
    have HF := hid hf
    clear hf h
    go_enter Try.func20, Try.ntmps20
    go_wp2_with (go_at_call 40; refine (formValidS_any _ _ _ HH.out).mono ?_; rw [HF.out]; rintro e w' ⟨rfl, rfl⟩)
    go_ret2
    exact ⟨_, rfl, by rw [HR.out]; exact World.ownsRow_made (size := 1) w #[] 0 (Nat.le_refl _) (by unfold maxLen; omega) rfl, (Below.refl _ _).alloc (Nat.le_refl _) _⟩
  | true =>
    have HR : Hid (fcoresL xs = timesL xs 1) := hid (by unfold fcoresL; rw [hf]; rfl)
    have HF := hid hf
    clear hf h
    go_enter Try.func20, Try.ntmps20
    go_wp2_with (first | (go_at_call 40; refine (formValidS_any _ _ _ HH.out).mono ?_; rw [HF.out]; rintro e w' ⟨rfl, rfl⟩) | (go_at_call 43; refine (l4Times_any _ _ 1 (by decide) (by decide) (by decide) _ HH.out HF.out).mono ?_; rintro e w2 ⟨u, rfl, ho, hb⟩))
    go_ret2
    exact ⟨_, rfl, by rw [HR.out]; exact ho, hb⟩

set_option maxRecDepth 100000 in
set_option maxHeartbeats 1000000 in
theorem formTimesS_any (v : Value) (xs : List Int) (n : Int) (w : World) (h : Rd w v xs) : Calls Try.prog 18 #[v, .int .i64 n] w fun e w' => ∃ u, e = .returned (.tuple #[u, .bool (timesOk xs n)]) ∧ Owns w' w.heap.size u (ftimesL xs n) ∧ Below w.heap.size w w' := by
  have HH := hid h
  cases hf : fvB xs with
  | false =>
    have HO : Hid (timesOk xs n = false) := hid (by unfold timesOk; rw [hf]; rfl)
    have HR : Hid (ftimesL xs n = []) := hid (by unfold ftimesL; rw [HO.out]; rfl)
    have HF := hid hf
    clear hf h
    go_enter Try.func18, Try.ntmps18
    go_wp2_with (go_at_call 40; refine (formValidS_any _ _ _ HH.out).mono ?_; rw [HF.out]; rintro e w' ⟨rfl, rfl⟩)
    go_ret2
    rw [HO.out]
    exact ⟨_, rfl, by rw [HR.out]; exact World.ownsRow_made (size := 1) w #[] 0 (Nat.le_refl _) (by unfold maxLen; omega) rfl, (Below.refl _ _).alloc (Nat.le_refl _) _⟩
  | true =>
    have HF := hid hf
    rcases factB_cases n with ⟨n1, n2, n0, O, hF⟩ | ⟨rfl, hF⟩ | ⟨n0, O, hF⟩
    · have T0 : (n == 0) = false := by rw [beq_eq_false_iff_ne]; exact n0
      have HN := hid n0
      have HON := hid O
      cases ht : fvB (timesL xs n) with
      | false =>
        have HO : Hid (timesOk xs n = false) := hid (by unfold timesOk; rw [ht, Bool.and_false, Bool.and_false])
        have HR : Hid (ftimesL xs n = []) := hid (by unfold ftimesL; rw [HO.out]; rfl)
        have HT := hid ht
        clear hf h hF n0 O ht
        go_enter Try.func18, Try.ntmps18
        go_wp2_with fail
        refine (formValidS_any _ xs _ HH.out).mono ?_
        rw [HF.out]
        rintro e w' ⟨rfl, rfl⟩
        go_wp2_with fail
        refine (l1Number_any _ _).mono ?_
        rw [HON.out]
        rintro e w' ⟨rfl, rfl⟩
        go_wp2_with fail
        refine (l4Times_any _ _ n HN.out n1 n2 _ HH.out HF.out).mono ?_
        rintro e w2 ⟨u, rfl, ho, hb⟩
        go_wp2_with fail
        refine (formValidS_any _ (timesL xs n) _ ho.rd).mono ?_
        rw [HT.out]
        rintro e w' ⟨rfl, rfl⟩
        go_wp2
        go_ret2
        rw [HO.out]
        exact ⟨_, rfl, by rw [HR.out]; exact World.ownsRow_made (size := 1) w2 #[] 0 hb.size (by unfold maxLen; omega) rfl, hb.alloc hb.size _⟩
      | true =>
        have HO : Hid (timesOk xs n = true) := hid (by unfold timesOk; rw [hf, hF, ht]; rfl)
        have HR : Hid (ftimesL xs n = timesL xs n) := hid (by unfold ftimesL; rw [HO.out]; rfl)
        have HT := hid ht
        clear hf h hF n0 O ht
        go_enter Try.func18, Try.ntmps18
        go_wp2_with fail
        refine (formValidS_any _ xs _ HH.out).mono ?_
        rw [HF.out]
        rintro e w' ⟨rfl, rfl⟩
        go_wp2_with fail
        refine (l1Number_any _ _).mono ?_
        rw [HON.out]
        rintro e w' ⟨rfl, rfl⟩
        go_wp2_with fail
        refine (l4Times_any _ _ n HN.out n1 n2 _ HH.out HF.out).mono ?_
        rintro e w2 ⟨u, rfl, ho, hb⟩
        go_wp2_with fail
        refine (formValidS_any _ (timesL xs n) _ ho.rd).mono ?_
        rw [HT.out]
        rintro e w' ⟨rfl, rfl⟩
        go_wp2
        go_ret2
        rw [HO.out]
        exact ⟨_, rfl, by rw [HR.out]; exact ho, hb⟩
    · have HO : Hid (timesOk xs 0 = false) := hid (by unfold timesOk; rw [hF, Bool.false_and, Bool.and_false])
      have HR : Hid (ftimesL xs 0 = []) := hid (by unfold ftimesL; rw [HO.out]; rfl)
      clear hf h hF
      go_enter Try.func18, Try.ntmps18
      go_wp2_with (first | (go_at_call 42; refine (l1Number_any _ _).mono ?_; rw [show okN 0 = true from rfl]; rintro e w' ⟨rfl, rfl⟩) | (go_at_call 40; refine (formValidS_any _ xs _ HH.out).mono ?_; rw [HF.out]; rintro e w' ⟨rfl, rfl⟩))
      go_ret2
      rw [HO.out]
      exact ⟨_, rfl, by rw [HR.out]; exact World.ownsRow_made (size := 1) w #[] 0 (Nat.le_refl _) (by unfold maxLen; omega) rfl, (Below.refl _ _).alloc (Nat.le_refl _) _⟩
    · have HO : Hid (timesOk xs n = false) := hid (by unfold timesOk; rw [hF, Bool.false_and, Bool.and_false])
      have HR : Hid (ftimesL xs n = []) := hid (by unfold ftimesL; rw [HO.out]; rfl)
      have HON := hid O
      clear hf h hF n0 O
      go_enter Try.func18, Try.ntmps18
      go_wp2_with (first | (go_at_call 42; refine (l1Number_any _ _).mono ?_; rw [HON.out]; rintro e w' ⟨rfl, rfl⟩) | (go_at_call 40; refine (formValidS_any _ xs _ HH.out).mono ?_; rw [HF.out]; rintro e w' ⟨rfl, rfl⟩))
      go_ret2
      rw [HO.out]
      exact ⟨_, rfl, by rw [HR.out]; exact World.ownsRow_made (size := 1) w #[] 0 (Nat.le_refl _) (by unfold maxLen; omega) rfl, (Below.refl _ _).alloc (Nat.le_refl _) _⟩

end Go.Proofs.Ytciajpimpjpnfac
