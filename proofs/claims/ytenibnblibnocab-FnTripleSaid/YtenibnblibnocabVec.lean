/-
  Contracts of the program's helpers for vectors: are all integers within a limit; what a form pairs two vectors to.
-/
import Derived.Test.YtenibnblibnocabFm2
import Derived.Test.YtenibnblibnocabBun14
set_option linter.unusedVariables false
namespace Go.Proofs.Ytenibnblibnocab
open Go.RowKit

set_option maxRecDepth 100000 in
set_option maxHeartbeats 1000000 in
theorem vectorWithin_any (v : Value) (xs : List Int) (count m : Int) (hm1 : 0 ≤ m) (hm2 : m ≤ 1000000) (w : World) (h : Rd w v xs) : Calls Try.prog 97 #[v, .int .i64 count, .int .i64 m] w fun e w' => e = .returned (.bool (inAll xs m && decide ((xs.length : Int) = count))) ∧ w = w' := by
  obtain ⟨a, cap, rfl, hform⟩ := h.form
  have HFM := hid hform
  have hmx : xs.length ≤ maxLen := by
    rcases Nat.eq_zero_or_pos xs.length with e | e
    · rw [e]; exact Nat.zero_le _
    · obtain ⟨_, _, _, hm, _⟩ := hform e; exact hm
  unfold maxLen at hmx
  clear hform h
  go_enter Try.func97, Try.ntmps97
  go_wp2_with fail
  go_loop [11] (fun si => ∃ K : Nat, si = .int .i64 K ∧ K ≤ xs.length ∧ Hid (∀ i, i < K → inR (xs.getD i 0) (-m) m = true)) (fun si => xs.length - (intOf si).toNat)
  case atStart => exact ⟨0, rfl, by omega, hid (fun i hi => by omega)⟩
  case round =>
    obtain ⟨K, rfl, hK, HE⟩ := hrel
    by_cases hlt : K < xs.length
    · obtain ⟨b, o, rfl, hml, hc⟩ := HFM.out (by omega)
      have hcell := hc K hlt
      obtain ⟨x, hx⟩ : ∃ x, x = xs.getD K 0 := ⟨_, rfl⟩
      rw [← hx] at hcell
      have HXE := hid hx
      have HLT := hid hlt
      have hKi : (K : Int) < (xs.length : Int) := by omega
      have HNO : Hid (inR x (-m) m = false → inAll xs m = false) := hid (fun e => by
        unfold inAll
        rw [List.all_eq_false]
        exact ⟨x, by rw [hx, getD_at _ _ hlt]; exact List.getElem_mem _, by rw [e]; decide⟩)
      have HIR : Hid (inR x (-m) m = true ↔ -m ≤ x ∧ x ≤ m) := hid (by unfold inR; rw [Bool.and_eq_true, decide_eq_true_eq, decide_eq_true_eq])
      clear hx hc hml hlt
      by_cases x1 : x < -m
      · have HR := hid (HNO.out (by
          cases e : inR x (-m) m with
          | false => rfl
          | true => have := HIR.out.1 e; omega))
        go_wp2_with fail
        go_ret
        exact ⟨retB (by rw [HR.out]; rfl), rfl⟩
      · by_cases x2 : x > m
        · have HR := hid (HNO.out (by
            cases e : inR x (-m) m with
            | false => rfl
            | true => have := HIR.out.1 e; omega))
          go_wp2_with fail
          go_ret
          exact ⟨retB (by rw [HR.out]; rfl), rfl⟩
        · have HIN : Hid (inR x (-m) m = true) := hid (HIR.out.2 ⟨by omega, by omega⟩)
          go_wp2_with fail
          go_round
          case measure => simp only [intOf]; have := HLT.out; omega
          case rel => exact ⟨K + 1, by go_num, by have := HLT.out; omega, hid (fun i hi => by
            by_cases e : i = K
            · rw [e, ← HXE.out]; exact HIN.out
            · exact HE.out i (by omega))⟩
    · obtain rfl : K = xs.length := by omega
      have HR : Hid (inAll xs m = true) := hid (List.all_eq_true.2 fun x hx => by
          obtain ⟨i, hi, rfl⟩ := List.getElem_of_mem hx
          have := HE.out i hi
          rwa [getD_at _ _ hi] at this)
      clear hlt
      by_cases hc : (xs.length : Int) = count
      · have T : ((xs.length : Int) == count) = true := by rw [beq_iff_eq]; exact hc
        have HD := hid (decide_eq_true hc)
        clear hc
        go_wp2_with fail
        go_ret
        exact ⟨retB (by rw [HR.out, HD.out]; rfl), rfl⟩
      · have T : ((xs.length : Int) == count) = false := by rw [beq_eq_false_iff_ne]; exact hc
        have HD := hid (decide_eq_false hc)
        clear hc
        go_wp2_with fail
        go_ret
        exact ⟨retB (by rw [HR.out, HD.out]; rfl), rfl⟩

set_option maxRecDepth 100000 in
set_option maxHeartbeats 1000000 in
theorem pairAt_any (vf vv vw : Value) (xs vs ws : List Int) (w : World) (hx : Rd w vf xs) (hv : Rd w vv vs) (hw : Rd w vw ws) (hf : fvB xs = true) (bv : Vec6 vs) (bw : Vec6 ws) (hl : vs.length = xs.length) (hl2 : ws.length = xs.length) :
    Calls Try.prog 101 #[vf, vv, vw] w fun e w' => e = .returned (.int .i64 (pairI xs vs ws xs.length)) ∧ ∃ k, w' = w.drewN k := by
  obtain ⟨a, cap, rfl, hform⟩ := hx.form
  obtain ⟨a', cap', rfl, hform'⟩ := hv.form
  obtain ⟨a3, cap3, rfl, hform3⟩ := hw.form
  have HFM := hid hform
  have HFV := hid hform'
  have HFW := hid hform3
  have HF := hid hf
  have HVB := hid bv
  have HWB := hid bw
  have HL := hid hl
  have HL2 := hid hl2
  have hl4 := (fvB_iff.1 hf).2.2
  clear hform hform' hform3 hx hv hw hf bv bw hl hl2
  go_enter Try.func101, Try.ntmps101
  go_wp2_with fail
  go_loopw [7, 12] (fun so si wr => ∃ K k : Nat, si = .int .i64 K ∧ K ≤ xs.length ∧ so = .int .i64 (pairI xs vs ws K) ∧ wr = w.drewN k) (fun _ si _ => xs.length - (intOf si).toNat)
  case atStart => exact ⟨0, 0, rfl, by omega, rfl, rfl⟩
  case round =>
    obtain ⟨K, k, rfl, hK, rfl, rfl⟩ := hrel
    by_cases hlt : K < xs.length
    · obtain ⟨b, o, rfl, hml, hc⟩ := HFM.out (by omega)
      obtain ⟨b', o', rfl, hml', hc'⟩ := HFV.out (by have := HL.out; omega)
      obtain ⟨b3, o3, rfl, hml3, hc3⟩ := HFW.out (by have := HL2.out; omega)
      have hcell := hc K hlt
      have hcell' := hc' K (by have := HL.out; omega)
      have hcell3 := hc3 K (by have := HL2.out; omega)
      have ht := fv_at HF.out hlt
      have hv1 := HVB.out (vs.getD K 0) (by rw [getD_at _ _ (by have := HL.out; omega)]; exact List.getElem_mem _)
      have hw1 := HWB.out (ws.getD K 0) (by rw [getD_at _ _ (by have := HL2.out; omega)]; exact List.getElem_mem _)
      have hbd := term_bd7 ht.2.1 ht.2.2 hv1.1 hv1.2 hw1.1 hw1.2
      have hvb := pair_bd HF.out HVB.out HWB.out HL.out HL2.out K (by omega)
      have hst : pairI xs vs ws (K + 1) = pairI xs vs ws K + xs.getD K 0 * vs.getD K 0 * ws.getD K 0 := rfl
      obtain ⟨x, hx⟩ : ∃ x, x = xs.getD K 0 := ⟨_, rfl⟩
      obtain ⟨y, hy⟩ : ∃ y, y = vs.getD K 0 := ⟨_, rfl⟩
      obtain ⟨z, hz⟩ : ∃ z, z = ws.getD K 0 := ⟨_, rfl⟩
      obtain ⟨s, hs⟩ : ∃ s, s = pairI xs vs ws K := ⟨_, rfl⟩
      rw [← hx] at hcell hst hbd
      rw [← hy] at hcell' hst hbd
      rw [← hz] at hcell3 hst hbd
      rw [← hs] at hst hvb ⊢
      have hKi : (K : Int) < (xs.length : Int) := by omega
      have hKj : (K : Int) < (vs.length : Int) := by have := HL.out; omega
      have hKl : (K : Int) < (ws.length : Int) := by have := HL2.out; omega
      have HLT := hid hlt
      have HST := hid hst
      have b1 := hbd.1
      have b2 := hbd.2.1
      have b3' := hbd.2.2.1
      have b4 := hbd.2.2.2
      have s1 := hvb.1
      have s2 := hvb.2
      clear hx hy hz hs hc hc' hc3 hml hml' hml3 hlt hbd hvb hst ht hv1 hw1
      go_wp2_with fail
      go_quiet (fail)
      go_wp2_with fail
      go_roundw
      case measure => simp only [intOf]; have := HLT.out; omega
      case rel => exact ⟨K + 1, _, by go_num, by have := HLT.out; omega, vI HST.out.symm, by first | rfl | exact World.drewN_drewN ..⟩
    · obtain rfl : K = xs.length := by omega
      clear hlt
      go_wp2_with fail
      go_ret
      exact ⟨rfl, k, rfl⟩

end Go.Proofs.Ytenibnblibnocab
