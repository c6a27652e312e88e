/-
  Contracts of the model's chapter 5: vectors up to a power of a prime, tried one after the other.
-/
import Derived.Test.YtbhlgdleklfonabZm8
set_option linter.unusedVariables false
namespace Go.Proofs.Ytbhlgdleklfonab
open Go.RowKit

theorem unit_snoc (P : Nat) (vs : List Int) (v : Int) : unitB P (vs ++ [v]) = (unitB P vs || !(v % (P : Int) == 0)) := by unfold unitB; simp
theorem any_yes {f : Nat → Bool} {m x : Nat} (hx : x < m) (h : f x = true) : (List.range m).any f = true := List.any_eq_true.2 ⟨x, List.mem_range.2 hx, h⟩
theorem any_no {f : Nat → Bool} {m : Nat} (h : ∀ x, x < m → f x = false) : (List.range m).any f = false := by
  rw [List.any_eq_false]
  intro x hx
  rw [h x (List.mem_range.1 hx)]
  decide
set_option maxRecDepth 100000 in
set_option maxHeartbeats 4000000 in
theorem l5Modulo_any (xs : List Int) (P m : Nat) (hf : fvB xs = true) (P1 : 2 ≤ P) (P2 : P ≤ 31) (m1 : 1 ≤ m) (m2 : m ≤ 32) : ∀ (k : Nat) (vf vv : Value) (vs : List Int) (w : World), Rd w vf xs → Rd w vv vs → Firm vv → vs.length + k = xs.length → (∀ v ∈ vs, 0 ≤ v ∧ v < (m : Int)) →
    Calls Try.prog 64 #[vf, vv, .int .i64 P, .int .i64 m] w fun e w' => e = .returned (.bool (modR xs P m k vs)) ∧ Below w.heap.size w w' := by
  have PZ : ((P : Int) == 0) = false := by rw [beq_eq_false_iff_ne]; omega
  intro k
  induction k with
  | zero =>
    intro vf vv vs w hx hv fv hl hb
    have HX := hid hx
    have HV := hid hv
    obtain ⟨a, cap, rfl, _⟩ := hx.form
    obtain ⟨a', cap', rfl, hform⟩ := hv.form
    have HFM := hid hform
    have hl0 : vs.length = xs.length := by omega
    have hli : (vs.length : Int) = (xs.length : Int) := by omega
    have TL : (((vs.length : Nat) : Int) == ((xs.length : Nat) : Int)) = true := by rw [beq_iff_eq]; exact hli
    have hl4 := (fvB_iff.1 hf).2.2
    have hv4 : vs.length ≤ 4 := by omega
    have HB := hid hb
    have H6 : Hid (Vec6 vs) := hid (fun v hv => by have := hb v hv; omega)
    have HF := hid hf
    have HL := hid hl0
    have hvb := valI_bd6 hf H6.out hl0 xs.length (Nat.le_refl _)
    have ER : Hid (modR xs P m 0 vs = (unitB P vs && (valI xs vs xs.length % (m : Int) == 0))) := hid (by show (unitB P vs && (valI xs vs vs.length % (m : Int) == 0)) = _; rw [hl0])
    obtain ⟨V, hV⟩ : ∃ V, V = valI xs vs xs.length := ⟨_, rfl⟩
    have HVE : Hid (valI xs vs xs.length = V) := hid hV.symm
    rw [← hV] at hvb ER
    have v1 := hvb.1
    have v2 := hvb.2
    obtain ⟨R, hR⟩ : ∃ R, R = modR xs P m 0 vs := ⟨_, rfl⟩
    rw [← hR] at ER ⊢
    clear hx hv fv hl hb hf hl0 hli hvb hV hR hform
    go_enter Try.func64, Try.ntmps64
    go_wp2_with fail
    go_loop [9, 10] (fun su si => ∃ (K : Nat) (z : Bool), si = .int .i64 K ∧ K ≤ vs.length ∧ su = .bool z ∧ Hid (z = unitB P (vs.take K))) (fun _ si => vs.length - (intOf si).toNat)
    case atStart => exact ⟨0, false, rfl, by omega, rfl, hid rfl⟩
    case round =>
      obtain ⟨K, z, rfl, hK, rfl, HZ⟩ := hrel
      by_cases hlt : K < vs.length
      · obtain ⟨b, o, rfl, hml, hc⟩ := HFM.out (by omega)
        have hcell := hc K hlt
        have hxb := HB.out (vs.getD K 0) (by rw [getD_at _ _ hlt]; exact List.getElem_mem _)
        have HSN : Hid (unitB P (vs.take (K + 1)) = (z || !(vs.getD K 0 % (P : Int) == 0))) := hid (by rw [takeD_snoc hlt, unit_snoc, ← HZ.out])
        obtain ⟨x, hx⟩ : ∃ x, x = vs.getD K 0 := ⟨_, rfl⟩
        rw [← hx] at hcell hxb HSN
        have x1 := hxb.1
        have x2 := hxb.2
        have HLT := hid hlt
        have hKi : (K : Int) < (vs.length : Int) := by omega
        have hmod : x.tmod (P : Int) = x % (P : Int) := Int.tmod_eq_emod_of_nonneg x1
        have hr1 := Int.emod_nonneg x (show (P : Int) ≠ 0 by omega)
        have hr2 := Int.emod_lt_of_pos x (show (0 : Int) < P by omega)
        clear hx hc hml hlt hxb
        cases z with
        | true =>
          have HS2 : Hid (unitB P (vs.take (K + 1)) = true) := hid (by rw [HSN.out]; rfl)
          go_wp2_with fail
          go_round
          case measure => simp only [intOf]; have := HLT.out; omega
          case rel => exact ⟨K + 1, true, by go_num, by have := HLT.out; omega, rfl, hid HS2.out.symm⟩
        | false =>
          by_cases hd : x % (P : Int) = 0
          · have T : (x % (P : Int) != 0) = false := by rw [bne_eq_false_iff_eq]; exact hd
            have HS2 : Hid (unitB P (vs.take (K + 1)) = false) := hid (by rw [HSN.out, beq_iff_eq.2 hd]; rfl)
            clear hmod hd
            go_wp2_with fail
            go_round
            case measure => simp only [intOf]; have := HLT.out; omega
            case rel => exact ⟨K + 1, false, by go_num, by have := HLT.out; omega, rfl, hid HS2.out.symm⟩
          · have T : (x % (P : Int) != 0) = true := by rw [bne_iff_ne]; exact hd
            have HS2 : Hid (unitB P (vs.take (K + 1)) = true) := hid (by rw [HSN.out, beq_eq_false_iff_ne.2 hd]; rfl)
            clear hmod hd
            go_wp2_with fail
            go_round
            case measure => simp only [intOf]; have := HLT.out; omega
            case rel => exact ⟨K + 1, true, by go_num, by have := HLT.out; omega, rfl, hid HS2.out.symm⟩
      · obtain rfl : K = vs.length := by omega
        have hz : z = unitB P vs := by rw [HZ.out, List.take_length]
        rw [← hz] at ER
        clear hlt hz HZ
        cases z with
        | false =>
          have HR : Hid (R = false) := hid (by rw [ER.out]; rfl)
          go_wp2_with fail
          go_ret
          exact ⟨retB HR.out.symm, Below.refl _ _⟩
        | true =>
          have HR : Hid (R = (V % (m : Int) == 0)) := hid (by rw [ER.out]; rfl)
          go_wp2_with (first | (go_at_call 36; refine (l4Value6_any _ _ xs vs _ HX.out HV.out HF.out H6.out HL.out).mono ?_; rw [HVE.out]; rintro e w' ⟨rfl, kq, rfl⟩) | (go_at_call 81; refine (l1Mod_any _ _ (by omega) (by omega) (by omega) (by omega) _).mono ?_; rintro e w' ⟨rfl, rfl⟩))
          go_ret
          exact ⟨retB HR.out.symm, below_drewN (Below.refl _ _) _⟩
  | succ k ih =>
    intro vf vv vs w hx hv fv hl hb
    have HX := hid hx
    have HV := hid hv
    have HFV := hid fv
    obtain ⟨a, cap, rfl, _⟩ := hx.form
    obtain ⟨a', cap', rfl, _⟩ := hv.form
    have hl4 := (fvB_iff.1 hf).2.2
    have hli : ¬ (vs.length : Int) = (xs.length : Int) := by omega
    have TL : (((vs.length : Nat) : Int) == ((xs.length : Nat) : Int)) = false := by rw [beq_eq_false_iff_ne]; exact hli
    have HB0 := hid hb
    have HL := hid hl
    have IH := hid ih
    have hv4 : vs.length ≤ 3 := by omega
    have ER : Hid (modR xs P m (k + 1) vs = (List.range m).any (fun x => modR xs P m k (vs ++ [(x : Int)]))) := hid rfl
    obtain ⟨R, hR⟩ : ∃ R, R = modR xs P m (k + 1) vs := ⟨_, rfl⟩
    rw [← hR] at ER ⊢
    clear ih hx hv fv hb hl hf hli hR
    go_enter Try.func64, Try.ntmps64
    go_wp2_with fail
    go_loopw [11] (fun sx wr => ∃ X : Nat, sx = .int .i64 X ∧ X ≤ m ∧ Hid (∀ i, i < X → modR xs P m k (vs ++ [(i : Int)]) = false) ∧ Hid (Below w.heap.size w wr)) (fun sx _ => m - (intOf sx).toNat)
    case atStart => exact ⟨0, rfl, by omega, hid (fun i hi => by omega), hid (Below.refl _ _)⟩
    case round =>
      obtain ⟨X, rfl, hX, HE, HB⟩ := hrel
      rename World => wr
      by_cases hlt : X < m
      · have hXi : (X : Int) < (m : Int) := by omega
        have hsz := HB.out.size
        have HO0 : Hid (Owns (wr.alloc (.cells #[] 3)) wr.heap.size (.slice (some ⟨wr.heap.size, 0, none⟩) 0 0) []) := hid (World.ownsRow_made (size := 1) wr #[] 0 (Nat.le_refl _) (by unfold maxLen; omega) rfl)
        have HV0 : Hid (Rd (wr.alloc (.cells #[] 3)) (.slice a' vs.length cap') vs) := hid (HV.out.keep (HB.out.alloc hsz _))
        have HBV : Hid (∀ v ∈ vs ++ [(X : Int)], 0 ≤ v ∧ v < (m : Int)) := hid (fun v hv => by
          rcases List.mem_append.1 hv with h | h
          · exact HB0.out v h
          · rw [List.mem_singleton] at h; omega)
        have HLN : Hid ((vs ++ [(X : Int)]).length + k = xs.length) := hid (by rw [List.length_append, List.length_singleton]; have := HL.out; omega)
        have F1 : Hid (∀ (v1 : Value) (w1 : World), Owns w1 wr.heap.size v1 ([] ++ vs) → (wr.alloc (.cells #[] 3)).grownBy w1 (some wr.heap.size) → Owns (w1.alloc (.cells #[.int .i64 (X : Int)] 3)) wr.heap.size v1 vs ∧ wr.heap.size ≤ (w1.alloc (.cells #[.int .i64 (X : Int)] 3)).heap.size ∧ Rd (w1.alloc (.cells #[.int .i64 (X : Int)] 3)) (.slice (some ⟨w1.heap.size, 0, none⟩) 1 1) [(X : Int)]) := hid (fun v1 w1 o1 g1 => by
          refine ⟨(show Owns w1 wr.heap.size v1 vs from o1).alloc _, ?_, (owns_lit (W := w1) (B := w1.heap.size) [(X : Int)] _ rfl (Nat.le_refl _) (by unfold maxLen; simp)).rd⟩
          have := g1.size
          simp only [World.size_alloc] at this ⊢
          omega)
        have hvl : vs.length + [(X : Int)].length ≤ 10000000 := by simp; omega
        go_wp2_with (first | (at_builtin; refine append_rd rfl _ _ rfl wr.heap.size _ vs rfl (F1.out _ _ HO1A.out HG1.out).1 _ [(X : Int)] rfl (F1.out _ _ HO1A.out HG1.out).2.2 (.inr ⟨_, _, _, rfl⟩) hvl (F1.out _ _ HO1A.out HG1.out).2.1 ?_; intro v2 w2 o2 g2; have HL2 := hid (longer_ok HB.out HO1A.out HG1.out o2 g2); clear o2 g2) | (at_builtin; refine append_rd rfl _ _ rfl wr.heap.size _ [] rfl HO0.out _ vs rfl HV0.out HFV.out (by simp; omega) (by simp) ?_; intro v1 w1 o1 g1; have HO1A := hid o1; have HG1 : Hid ((wr.alloc (.cells #[] 3)).grownBy w1 (some wr.heap.size)) := hid g1; clear o1 g1))
        refine (IH.out _ _ (vs ++ [(X : Int)]) _ (HX.out.keep HL2.out.2) HL2.out.1.rd HL2.out.1.firm HLN.out HBV.out).mono ?_
        rintro e w3 ⟨rfl, hb3⟩
        have HB3 := hid (HL2.out.2.trans (hb3.mono HL2.out.2.size))
        clear hb3
        cases hm : modR xs P m k (vs ++ [(X : Int)]) with
        | true =>
          have HR : Hid (R = true) := hid (by rw [ER.out]; exact any_yes hlt hm)
          clear hm
          go_wp2_with fail
          go_ret
          exact ⟨retB HR.out.symm, HB3.out⟩
        | false =>
          have HM := hid hm
          clear hm
          go_wp2_with fail
          go_roundw
          case measure => simp only [intOf]; omega
          case rel => exact ⟨X + 1, by go_num, by omega, hid (fun i hi => by
            by_cases e : i = X
            · rw [e]; exact HM.out
            · exact HE.out i (by omega)), HB3⟩
      · have HR : Hid (R = false) := hid (by rw [ER.out]; exact any_no fun x hx => HE.out x (by omega))
        go_wp2_with fail
        go_ret
        exact ⟨retB HR.out.symm, HB.out⟩

theorem pow31 {P k : Nat} (hP : P ≤ 31) (hk : k ≤ 5) : P ^ k ≤ 28629151 :=
  Nat.le_trans (Nat.pow_le_pow_left hP k) (Nat.pow_le_pow_right (by decide) hk)
set_option maxRecDepth 100000 in
set_option maxHeartbeats 2000000 in
theorem zeroModuloS_any (vf : Value) (xs : List Int) (p k : Int) (w : World) (hx : Rd w vf xs) : Calls Try.prog 28 #[vf, .int .i64 p, .int .i64 k] w fun e w' => e = .returned (.bool (zmodV xs p k)) ∧ Below w.heap.size w w' := by
  have HX := hid hx
  obtain ⟨a, cap, rfl, _⟩ := hx.form
  clear hx
  have hno : zmodOk xs p k = false → zmodV xs p k = false := fun h => by unfold zmodV; rw [h]; rfl
  cases hf : fvB xs with
  | false =>
    have HF := hid hf
    have HR := hid (hno (by unfold zmodOk; rw [hf]; rfl))
    clear hf hno
    go_enter Try.func28, Try.ntmps28
    go_wp2_with (go_at_call 43; refine (formValidS_any _ xs _ HX.out).mono ?_; rw [HF.out]; rintro e w' ⟨rfl, rfl⟩)
    go_ret
    exact ⟨retB HR.out.symm, Below.refl _ _⟩
  | true =>
    have HF := hid hf
    have hl4 := (fvB_iff.1 hf).2.2
    by_cases h3 : xs.length ≤ 3
    · have h3i : ¬ (3 : Int) < (xs.length : Int) := by omega
      cases hp : primeI p with
      | false =>
        have HP := hid hp
        have HR := hid (hno (by unfold zmodOk; rw [hp, Bool.false_and, Bool.and_false, Bool.and_false]))
        clear hf hno hp
        go_enter Try.func28, Try.ntmps28
        go_wp2_with (first | (go_at_call 43; refine (formValidS_any _ xs _ HX.out).mono ?_; rw [HF.out]; rintro e w' ⟨rfl, rfl⟩) | (go_at_call 63; refine (primeIsS_any _ _).mono ?_; rw [HP.out]; rintro e w' ⟨rfl, rfl⟩))
        go_ret
        exact ⟨retB HR.out.symm, Below.refl _ _⟩
      | true =>
        have HP := hid hp
        have hp2 := (primeI_bd hp).1
        by_cases hp31 : p ≤ 31
        · have hpi : ¬ (31 : Int) < p := by omega
          cases hk : inR k 1 5 with
          | false =>
            have HK := hid hk
            have HR := hid (hno (by unfold zmodOk; rw [hk, Bool.and_false, Bool.and_false, Bool.and_false, Bool.and_false]))
            clear hf hno hp hk
            go_enter Try.func28, Try.ntmps28
            go_wp2_with (first | (go_at_call 43; refine (formValidS_any _ xs _ HX.out).mono ?_; rw [HF.out]; rintro e w' ⟨rfl, rfl⟩) | (go_at_call 63; refine (primeIsS_any _ _).mono ?_; rw [HP.out]; rintro e w' ⟨rfl, rfl⟩) | (go_at_call 59; refine (l6In_any _ _ _ _).mono ?_; rw [HK.out]; rintro e w' ⟨rfl, rfl⟩))
            go_ret
            exact ⟨retB HR.out.symm, Below.refl _ _⟩
          | true =>
            have HK := hid hk
            have hkb : 1 ≤ k ∧ k ≤ 5 := by
              unfold inR at hk
              rwa [Bool.and_eq_true, decide_eq_true_eq, decide_eq_true_eq] at hk
            obtain ⟨P, rfl⟩ := Int.eq_ofNat_of_zero_le (show 0 ≤ p by omega)
            obtain ⟨k', rfl⟩ := Int.eq_ofNat_of_zero_le (show 0 ≤ k by omega)
            have k1 := hkb.1
            have k2 := hkb.2
            have ER : Hid (zmodV xs (P : Int) (k' : Int) = (decide (P ^ k' ≤ 32) && modR xs P (P ^ k') xs.length [])) := hid (by
              unfold zmodV zmodOk
              rw [hf, hp, hk, decide_eq_true h3, decide_eq_true hp31, Int.toNat_natCast, Int.toNat_natCast]
              rfl)
            obtain ⟨R, hR⟩ : ∃ R, R = zmodV xs (P : Int) (k' : Int) := ⟨_, rfl⟩
            rw [← hR] at ER ⊢
            clear hno hp hk hkb hR
            go_enter Try.func28, Try.ntmps28
            go_wp2_with (first | (go_at_call 43; refine (formValidS_any _ xs _ HX.out).mono ?_; rw [HF.out]; rintro e w' ⟨rfl, rfl⟩) | (go_at_call 63; refine (primeIsS_any _ _).mono ?_; rw [HP.out]; rintro e w' ⟨rfl, rfl⟩) | (go_at_call 59; refine (l6In_any _ _ _ _).mono ?_; rw [HK.out]; rintro e w' ⟨rfl, rfl⟩))
            go_loop [7, 8] (fun sm si => ∃ (I A : Nat), si = .int .i64 I ∧ I ≤ k' ∧ sm = .int .i64 A ∧ A ≤ 28629151 ∧ Hid (A = P ^ I)) (fun _ si => k' - (intOf si).toNat)
            case atStart => exact ⟨0, 1, rfl, by omega, rfl, by omega, hid rfl⟩
            case round =>
              obtain ⟨I, A, rfl, hI, rfl, hA, HA⟩ := hrel
              by_cases hlt : I < k'
              · have hIi : (I : Int) < (k' : Int) := by omega
                have HS : Hid (A * P = P ^ (I + 1)) := hid (by rw [HA.out, Nat.pow_succ])
                have hAP : A * P ≤ 28629151 := by rw [HS.out]; exact pow31 (by omega) (by omega)
                have eAP : (A : Int) * (P : Int) = ((A * P : Nat) : Int) := by push_cast; rfl
                have ap1 : 0 ≤ (A : Int) * (P : Int) := by rw [eAP]; omega
                have ap2 : (A : Int) * (P : Int) ≤ 28629151 := by rw [eAP]; omega
                have HE := hid eAP
                clear eAP
                go_wp2_with fail
                go_round
                case measure => simp only [intOf]; omega
                case rel => exact ⟨I + 1, A * P, by go_num, by omega, vI HE.out, hAP, HS⟩
              · obtain rfl : I = k' := by omega
                have hA1 : 1 ≤ A := by rw [HA.out]; exact Nat.pow_pos (by omega)
                rw [← HA.out] at ER
                by_cases h32 : A ≤ 32
                · have h32i : (A : Int) ≤ 32 := by omega
                  have HR : Hid (R = modR xs P A xs.length []) := hid (by rw [ER.out, decide_eq_true h32, Bool.true_and])
                  have HB0 := hid ((Below.refl w.heap.size w).alloc (Nat.le_refl _) (.cells #[] 3))
                  have HO0 : Hid (Owns (w.alloc (.cells #[] 3)) w.heap.size (.slice (some ⟨w.heap.size, 0, none⟩) 0 0) []) := hid (World.ownsRow_made (size := 1) w #[] 0 (Nat.le_refl _) (by unfold maxLen; omega) rfl)
                  have HM := hid (l5Modulo_any xs P A hf (by omega) (by omega) hA1 h32 xs.length _ _ [] _ (HX.out.keep HB0.out) HO0.out.rd HO0.out.firm (by simp) (fun v hv => by cases hv))
                  clear hlt ER HA hf
                  go_wp2_with (go_at_call 64; refine (HM.out).mono ?_; rw [← HR.out]; rintro e w2 ⟨rfl, hb2⟩)
                  go_ret
                  exact ⟨rfl, HB0.out.trans (hb2.mono HB0.out.size)⟩
                · have h32i : ¬ (A : Int) ≤ 32 := by omega
                  have HR : Hid (R = false) := hid (by rw [ER.out, decide_eq_false h32, Bool.false_and])
                  clear hlt ER HA hf
                  go_wp2_with fail
                  go_ret
                  exact ⟨retB HR.out.symm, Below.refl _ _⟩
        · have hpi : (31 : Int) < p := by omega
          have HR := hid (hno (by unfold zmodOk; rw [decide_eq_false hp31, Bool.false_and, Bool.and_false, Bool.and_false, Bool.and_false]))
          clear hf hno hp hp31
          go_enter Try.func28, Try.ntmps28
          go_wp2_with (first | (go_at_call 43; refine (formValidS_any _ xs _ HX.out).mono ?_; rw [HF.out]; rintro e w' ⟨rfl, rfl⟩) | (go_at_call 63; refine (primeIsS_any _ _).mono ?_; rw [HP.out]; rintro e w' ⟨rfl, rfl⟩))
          go_ret
          exact ⟨retB HR.out.symm, Below.refl _ _⟩
    · have h3i : (3 : Int) < (xs.length : Int) := by omega
      have HR := hid (hno (by unfold zmodOk; rw [decide_eq_false h3, Bool.false_and, Bool.and_false]))
      clear hf hno h3
      go_enter Try.func28, Try.ntmps28
      go_wp2_with (go_at_call 43; refine (formValidS_any _ xs _ HX.out).mono ?_; rw [HF.out]; rintro e w' ⟨rfl, rfl⟩)
      go_ret
      exact ⟨retB HR.out.symm, Below.refl _ _⟩

end Go.Proofs.Ytbhlgdleklfonab
