/-
  Contracts of the model's chapter 4: equal forms; joined forms; multiplied forms and cores.
-/
import Derived.Test.YtciajpimpjpnfaaFm4
import Derived.Laws.AppendOwnNone
set_option linter.unusedVariables false
namespace Go.Proofs.Ytciajpimpjpnfaa
open Go.RowKit

theorem prod_join {xs ys : List Int} (hf : fvB xs = true) (hg : fvB ys = true) : prodI xs * prodI ys ≠ 0 ∧ -656100000000 ≤ prodI xs * prodI ys ∧ prodI xs * prodI ys ≤ 656100000000 ∧ (∀ q ∈ placesG (prodI xs * prodI ys), plI q = true) := by
  have hp := prod_full hf
  have hr := prod_full hg
  have hn := Int.mul_ne_zero hp.1 hr.1
  have hm : (prodI xs * prodI ys).natAbs ≤ 810000 * 810000 := by rw [Int.natAbs_mul]; exact Nat.mul_le_mul (by omega) (by omega)
  refine ⟨hn, by omega, by omega, ?_⟩
  rw [← prodI_app]
  refine places_small (fun x hx => ?_) (by rw [prodI_app]; exact hn)
  rcases List.mem_append.1 hx with h | h
  · exact (fvB_iff.1 hf).1 x h
  · exact (fvB_iff.1 hg).1 x h

set_option maxRecDepth 100000 in
set_option maxHeartbeats 2000000 in
theorem formSameS_any (va vb : Value) (xs ys : List Int) (w : World) (hx : Rd w va xs) (hy : Rd w vb ys) : Calls Try.prog 56 #[va, vb] w fun e w' => e = .returned (.bool (fsameV xs ys)) ∧ Below w.heap.size w w' := by
  have HX := hid hx
  have HY := hid hy
  clear hx hy
  cases hb : bothB xs ys with
  | false =>
    have HR : Hid (fsameV xs ys = false) := hid (by unfold fsameV; rw [hb]; rfl)
    have HBO := hid hb
    clear hb
    go_enter Try.func56, Try.ntmps56
    go_wp2_with (go_at_call 95; refine (l4Both_any _ _ _ _ _ HX.out HY.out).mono ?_; rw [HBO.out]; rintro e w' ⟨rfl, rfl⟩)
    go_ret
    exact ⟨retB HR.out.symm, Below.refl _ _⟩
  | true =>
    have HBO := hid hb
    have hbb := hb
    unfold bothB at hbb
    rw [Bool.and_eq_true, Bool.and_eq_true] at hbb
    have HF := hid hbb.1
    have HG := hid hbb.2.1
    have hdx : discV xs = coreG (prodI xs) := by unfold discV; rw [hbb.1]; rfl
    have hdy : discV ys = coreG (prodI ys) := by unfold discV; rw [hbb.2.1]; rfl
    obtain ⟨c, hc⟩ : ∃ c, c = coreG (prodI xs) := ⟨_, rfl⟩
    obtain ⟨d, hd⟩ : ∃ d, d = coreG (prodI ys) := ⟨_, rfl⟩
    have HC : Hid (discV xs = c) := hid (by rw [hdx, hc])
    have HD : Hid (discV ys = d) := hid (by rw [hdy, hd])
    have HV : Hid (fsameV xs ys = (decide (c = d) && (placesG (prodI xs * prodI ys)).all (alikeB xs ys))) := hid (by unfold fsameV; rw [hb, hc, hd]; rfl)
    obtain ⟨hn, m1, m2, hpl⟩ := prod_join hbb.1 hbb.2.1
    have hp := prod_full hbb.1
    have hr := prod_full hbb.2.1
    have p1 := hp.2.1
    have p2 := hp.2.2
    have r1 := hr.2.1
    have r2 := hr.2.2
    have HN := hid hn
    have HPP := hid hpl
    have hlen := placesG_len hn (by omega) (by omega)
    clear hb hbb hdx hdy hc hd hn hpl hp hr
    by_cases hcd : c = d
    · have TN : (c != d) = false := by rw [hcd]; simp
      have HV2 : Hid (fsameV xs ys = (placesG (prodI xs * prodI ys)).all (alikeB xs ys)) := hid (by rw [HV.out, decide_eq_true hcd, Bool.true_and])
      clear hcd
      go_enter Try.func56, Try.ntmps56
      go_wp2_with (go_at_call 95; refine (l4Both_any _ _ _ _ _ HX.out HY.out).mono ?_; rw [HBO.out]; rintro e w' ⟨rfl, rfl⟩)
      refine (formDiscS_any _ xs _ HX.out).mono ?_
      rw [HC.out]
      rintro e w' ⟨rfl, rfl⟩
      go_wp2_with fail
      refine (formDiscS_any _ ys _ HY.out).mono ?_
      rw [HD.out]
      rintro e w' ⟨rfl, rfl⟩
      go_wp2_with fail
      refine (l4Product_any _ xs _ HX.out HF.out).mono ?_
      rintro e w' ⟨rfl, rfl⟩
      go_wp2_with fail
      refine (l4Product_any _ ys _ HY.out HG.out).mono ?_
      rintro e w' ⟨rfl, rfl⟩
      go_wp2_with (go_at_call 85; refine (l2PlacesG_any _ HN.out (by omega) (by omega) _).mono ?_; rintro e w2 ⟨u, rfl, ho, hb⟩)
      obtain ⟨ps, hps⟩ : ∃ ps, ps = placesG (prodI xs * prodI ys) := ⟨_, rfl⟩
      rw [← hps] at ho HPP HV2 hlen
      have HX2 := hid (HX.out.keep hb)
      have HY2 := hid (HY.out.keep hb)
      have HB2 := hid hb
      obtain ⟨ad, cap, rfl, hform⟩ := ho.rd.form
      have HFM := hid hform
      clear ho hform hb hps
      go_wp2_with fail
      go_loopw [6] (fun si wr => ∃ K : Nat, si = .int .i64 K ∧ K ≤ ps.length ∧ Hid (∀ i, i < K → alikeB xs ys (ps.getD i 0) = true) ∧ Hid (∃ k, wr = w2.drewN k)) (fun si _ => ps.length - (intOf si).toNat)
      case atStart => exact ⟨0, rfl, by omega, hid (fun i hi => by omega), hid ⟨0, rfl⟩⟩
      case round =>
        obtain ⟨K, rfl, hK, HE, HW⟩ := hrel
        rename World => wr
        have HXr : Hid (Rd wr va xs) := hid (by obtain ⟨k, rfl⟩ := HW.out; exact HX2.out.drewN k)
        have HYr : Hid (Rd wr vb ys) := hid (by obtain ⟨k, rfl⟩ := HW.out; exact HY2.out.drewN k)
        have HBr : Hid (Below w.heap.size w wr) := hid (by obtain ⟨k, rfl⟩ := HW.out; exact below_drewN HB2.out k)
        by_cases hlt : K < ps.length
        · obtain ⟨bb, o, rfl, hml, hc⟩ := HFM.out (by omega)
          have hcell : wr.cell? ⟨bb, o + K, none⟩ = some (.int .i64 (ps.getD K 0)) := by obtain ⟨k, rfl⟩ := HW.out; exact hc K hlt
          obtain ⟨x, hxe⟩ : ∃ x, x = ps.getD K 0 := ⟨_, rfl⟩
          have HXP : Hid (plI x = true) := hid (HPP.out x (by rw [hxe, getD_at _ _ hlt]; exact List.getElem_mem _))
          rw [← hxe] at hcell
          have HXE := hid hxe
          have HLT := hid hlt
          have hi0 : (K : Int) < (ps.length : Int) := by omega
          unfold maxLen at hml
          clear hc hxe hlt
          cases hal : alikeB xs ys x with
          | false =>
            have HAL := hid hal
            have HR : Hid (fsameV xs ys = false) := hid (by
              rw [HV2.out, List.all_eq_false]
              exact ⟨x, by rw [HXE.out, getD_at _ _ HLT.out]; exact List.getElem_mem _, by rw [hal]; decide⟩)
            clear hal
            go_wp2_with fail
            refine (l4Alike_any _ _ xs ys x _ HXr.out HYr.out HF.out HG.out HXP.out).mono ?_
            rw [HAL.out]
            rintro e wq ⟨rfl, kq, rfl⟩
            go_wp2
            go_ret
            exact ⟨retB HR.out.symm, below_drewN HBr.out kq⟩
          | true =>
            have HAL := hid hal
            clear hal
            go_wp2_with fail
            refine (l4Alike_any _ _ xs ys x _ HXr.out HYr.out HF.out HG.out HXP.out).mono ?_
            rw [HAL.out]
            rintro e wq ⟨rfl, kq, rfl⟩
            go_wp2_with fail
            go_round
            case measure => simp only [intOf]; have := HLT.out; omega
            case rel => exact ⟨K + 1, by go_num, by have := HLT.out; omega, hid (fun i hi => by
              by_cases e : i = K
              · rw [e, ← HXE.out]; exact HAL.out
              · exact HE.out i (by omega)), hid (by obtain ⟨k, hk⟩ := HW.out; exact ⟨k + kq, by rw [hk, World.drewN_drewN]⟩)⟩
        · obtain rfl : K = ps.length := by omega
          have HR : Hid (fsameV xs ys = true) := hid (by
            rw [HV2.out]
            exact List.all_eq_true.2 fun x hx => by
              obtain ⟨i, hi, rfl⟩ := List.getElem_of_mem hx
              have := HE.out i hi
              rwa [getD_at _ _ hi] at this)
          clear hlt
          go_wp2_with fail
          go_ret
          exact ⟨retB HR.out.symm, HBr.out⟩
    · have TN : (c != d) = true := by rw [bne_iff_ne]; exact hcd
      have HR : Hid (fsameV xs ys = false) := hid (by rw [HV.out, decide_eq_false hcd, Bool.false_and])
      clear hcd
      go_enter Try.func56, Try.ntmps56
      go_wp2_with (go_at_call 95; refine (l4Both_any _ _ _ _ _ HX.out HY.out).mono ?_; rw [HBO.out]; rintro e w' ⟨rfl, rfl⟩)
      refine (formDiscS_any _ xs _ HX.out).mono ?_
      rw [HC.out]
      rintro e w' ⟨rfl, rfl⟩
      go_wp2_with fail
      refine (formDiscS_any _ ys _ HY.out).mono ?_
      rw [HD.out]
      rintro e w' ⟨rfl, rfl⟩
      go_wp2
      go_ret
      exact ⟨retB HR.out.symm, Below.refl _ _⟩

theorem map_take {xs : List Int} {f : Int → Int} {i : Nat} (hi : i < xs.length) : (xs.take (i + 1)).map f = (xs.take i).map f ++ [f (xs.getD i 0)] := by
  rw [take_snoc _ _ hi, List.map_append, getD_at _ _ hi]; rfl




end Go.Proofs.Ytciajpimpjpnfaa
