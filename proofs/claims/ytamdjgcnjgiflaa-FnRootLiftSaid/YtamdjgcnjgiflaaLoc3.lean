/-
  Contracts of the model's chapter 2: roots by a power of a prime.
-/
import Derived.Test.YtamdjgcnjgiflaaLift
set_option linter.unusedVariables false
namespace Go.Proofs.Ytamdjgcnjgiflaa
open Go.RowKit

/-- what is read keeps its cells, and what is built lies elsewhere -/
def Aside2 (a : Option Addr) (so : Value) (w0 wr : World) : Prop := ∀ b o, a = some ⟨b, o, none⟩ → so.ownBlock ≠ some b ∧ wr.heap[b]? = w0.heap[b]?

set_option maxRecDepth 100000 in
set_option maxHeartbeats 2000000 in
theorem l2Lift_any (n : Int) (h1 : -5000 ≤ n) (h2 : n ≤ 5000) (P k : Nat) (hP : 2 ≤ P) (hP5 : P ≤ 5000) (hk : k ≤ 12) (hm : P ^ k ≤ 5000) (w : World) :
    Calls Try.prog 78 #[.int .i64 n, .int .i64 P, .int .i64 k] w fun e w' => ∃ v, e = .returned v ∧ Owns w' w.heap.size v (liftL n P k) ∧ Below w.heap.size w w' := by
  obtain ⟨i0, hi, hz0, hz1, hz2⟩ := info_parts infoInt
  have HM := hid hm
  have HB0 := hid ((Below.refl w.heap.size w).alloc (Nat.le_refl _) (.cells #[.int .i64 0] 3))
  have HO0 := hid (owns_lit (W := w) (B := w.heap.size) [0] #[.int .i64 0] rfl (Nat.le_refl _) (by unfold maxLen; simp))
  clear hm
  go_enter Try.func78, Try.ntmps78
  go_wp2_with fail
  go_loopw [7, 8, 9] (fun sr sm si wr => ∃ i m : Nat, si = .int .i64 i ∧ i ≤ k ∧ sm = .int .i64 m ∧ Hid (m = P ^ i) ∧ Hid (Owns wr w.heap.size sr (liftL n P i)) ∧ Hid (Below w.heap.size w wr)) (fun _ _ si _ => k - (intOf si).toNat)
  case atStart => exact ⟨0, 1, rfl, by omega, rfl, hid rfl, hid HO0.out, HB0⟩
  case round =>
    obtain ⟨i, m, rfl, hik, rfl, HMI, HO, HB⟩ := hrel
    rename World => wA
    by_cases hlt : i < k
    · have hmP : m * P ≤ 5000 := by
        rw [HMI.out, ← Nat.pow_succ]
        exact Nat.le_trans (Nat.pow_le_pow_right (by omega) hlt) HM.out
      have hm1 : 1 ≤ m := by rw [HMI.out]; exact Nat.pow_pos (by omega)
      have hm5 : m ≤ 5000 := Nat.le_trans (Nat.le_mul_of_pos_right m (by omega)) hmP
      have hlenR := lift_len n P i
      rw [← HMI.out] at hlenR
      have HRB : Hid (∀ r ∈ liftL n P i, 0 ≤ r ∧ r < (m : Int)) := hid (fun r hr => by
        have := (mem_lift (n := n) (by omega) i r).1 hr
        rw [← HMI.out] at this
        exact ⟨this.1, this.2.1⟩)
      have HLS : Hid (liftL n P (i + 1) = liftPre n P m (liftL n P i) P) := hid (by rw [HMI.out]; rfl)
      have HPL : Hid (∀ d, (liftPre n P m (liftL n P i) d).length ≤ d * (liftL n P i).length) := hid (liftPre_len n P m _)
      have hmPi : (m : Int) * (P : Int) = ((m * P : Nat) : Int) := by push_cast; rfl
      have mp1 : (1 : Int) ≤ (m : Int) * (P : Int) := by rw [hmPi]; have := Nat.mul_le_mul hm1 (show 1 ≤ P by omega); omega
      have mp2 : (m : Int) * (P : Int) ≤ 5000 := by rw [hmPi]; omega
      have HMPI := hid hmPi
      obtain ⟨R, hR⟩ : ∃ R, R = liftL n P i := ⟨_, rfl⟩
      rw [← hR] at HO hlenR HRB HLS HPL
      have HG := hid HO.out.lt
      obtain ⟨a, cap, rfl, hform⟩ := HO.out.rd.form
      have HF := hid hform
      have hi0 : (i : Int) < (k : Int) := by omega
      have hbs : w.heap.size ≤ wA.heap.size := HB.out.size
      have HNX : Hid (Owns (wA.alloc (.cells #[] 3)) w.heap.size (.slice (some ⟨wA.heap.size, 0, none⟩) 0 0) []) := hid (World.ownsRow_made (size := 1) wA #[] 0 hbs (by unfold maxLen; omega) rfl)
      have HMPN := hid hmP
      clear hform hmPi hR hmP
      go_wp2_with fail
      go_loopw [10, 11] (fun sn sd wx => ∃ d : Nat, sd = .int .i64 d ∧ d ≤ P ∧ Hid (Owns wx w.heap.size sn (liftPre n P m R d)) ∧ Hid (Aside2 a sn wA wx) ∧ wA.heap.size ≤ wx.heap.size ∧ Hid (Below w.heap.size w wx)) (fun _ sd _ => P - (intOf sd).toNat)
      case atStart =>
        refine ⟨0, rfl, by omega, hid HNX.out, hid (fun b o e => ⟨?_, ?_⟩), by simp, hid (HB.out.alloc hbs _)⟩
        · have := HG.out b (by rw [e]; rfl)
          show some wA.heap.size ≠ some b
          intro h; cases h; omega
        · have := HG.out b (by rw [e]; rfl)
          exact Below.heap_alloc _ _ _ this
      case round =>
        obtain ⟨d, rfl, hd, HO2, HA, hsz, HB2⟩ := hrel
        rename World => wB
        by_cases hlt2 : d < P
        · have hdm : d * m + m ≤ m * P := by
            rw [← Nat.succ_mul, Nat.mul_comm m P]; exact Nat.mul_le_mul_right m hlt2
          have hdR : d * R.length + R.length ≤ 5000 := by
            rw [← Nat.succ_mul]
            exact Nat.le_trans (Nat.mul_le_mul hlt2 hlenR) (by rw [Nat.mul_comm]; exact HMPN.out)
          have e2 : (d : Int) * (m : Int) = ((d * m : Nat) : Int) := by push_cast; rfl
          have dm1 : (0 : Int) ≤ (d : Int) * (m : Int) := by rw [e2]; omega
          have dm2 : (d : Int) * (m : Int) + (m : Int) ≤ (m : Int) * (P : Int) := by rw [e2, HMPI.out]; omega
          have hd0 : (d : Int) < (P : Int) := by omega
          have hpl0 := HPL.out d
          have HPB : Hid (liftPre n P m R (d + 1) = liftPre n P m R d ++ ((R.map (fun r => r + (d : Int) * (m : Int))).take R.length).filter (liftF n (m * P))) := hid (by rw [liftPre_succ]; unfold liftBlk; rw [List.take_of_length_le (by simp)])
          clear e2 hdm
          go_wp2_with fail
          go_loopw [10, 12] (fun sn sj wy => ∃ j : Nat, sj = .int .i64 j ∧ j ≤ R.length ∧ Hid (Owns wy w.heap.size sn (liftPre n P m R d ++ ((R.map (fun r => r + (d : Int) * (m : Int))).take j).filter (liftF n (m * P)))) ∧ Hid (Aside2 a sn wA wy) ∧ wA.heap.size ≤ wy.heap.size ∧ Hid (Below w.heap.size w wy)) (fun _ sj _ => R.length - (intOf sj).toNat)
          case atStart => exact ⟨0, rfl, by omega, hid (by simpa using HO2.out), HA, hsz, HB2⟩
          case round =>
            obtain ⟨j, rfl, hj, HO3, HA3, hsz3, HB3⟩ := hrel
            rename World => wy
            by_cases hlt3 : j < R.length
            · obtain ⟨b, o, rfl, hml, hc⟩ := HF.out (by omega)
              obtain ⟨r, hr⟩ : ∃ r, r = R.getD j 0 := ⟨_, rfl⟩
              have hrm : r ∈ R := by rw [hr, getD_at _ _ hlt3]; exact List.getElem_mem _
              have r1 := (HRB.out r hrm).1
              have r2 := (HRB.out r hrm).2
              have hcell := (World.cell?_of_block (HA3.out b o rfl).2).trans (hc j hlt3)
              rw [← hr] at hcell
              have hml2 : j < (R.map (fun r => r + (d : Int) * (m : Int))).length := by rw [List.length_map]; exact hlt3
              have hget : (R.map (fun r => r + (d : Int) * (m : Int))).getD j 0 = r + (d : Int) * (m : Int) := by
                rw [getD_at _ _ hml2, List.getElem_map, hr, getD_at _ _ hlt3]
              have hstep := filter_step (f := liftF n (m * P)) hml2
              rw [hget] at hstep
              have hlen3 := filter_len (f := liftF n (m * P)) (show j ≤ (R.map (fun r => r + (d : Int) * (m : Int))).length by rw [List.length_map]; omega)
              have HS := hid hstep
              have hi3 : (j : Int) < (R.length : Int) := by omega
              have hltb := HG.out b rfl
              have x1 : 0 ≤ r + (d : Int) * (m : Int) := by omega
              have x2 : r + (d : Int) * (m : Int) ≤ 5000 := by omega
              have xx1 : 0 ≤ (r + (d : Int) * (m : Int)) * (r + (d : Int) * (m : Int)) := Int.mul_nonneg x1 x1
              have xx2 : (r + (d : Int) * (m : Int)) * (r + (d : Int) * (m : Int)) ≤ 5000 * 5000 := Int.le_trans (Int.mul_le_mul_of_nonneg_right x2 x1) (Int.mul_le_mul_of_nonneg_left x2 (by omega))
              have hbs3 : w.heap.size ≤ wy.heap.size := HB3.out.size
              unfold maxLen at hml
              clear hc hr hrm hstep hget
              by_cases hf : ((r + (d : Int) * (m : Int)) * (r + (d : Int) * (m : Int)) - n) % ((m : Int) * (P : Int)) = 0
              · have T : (((r + (d : Int) * (m : Int)) * (r + (d : Int) * (m : Int)) - n) % ((m : Int) * (P : Int)) == 0) = true := by rw [beq_iff_eq]; exact hf
                have hlf : liftF n (m * P) (r + (d : Int) * (m : Int)) = true := by unfold liftF; rw [← HMPI.out, beq_iff_eq]; exact hf
                have HE : Hid (((R.map (fun r => r + (d : Int) * (m : Int))).take (j + 1)).filter (liftF n (m * P)) = ((R.map (fun r => r + (d : Int) * (m : Int))).take j).filter (liftF n (m * P)) ++ [r + (d : Int) * (m : Int)]) := hid (by rw [HS.out, if_pos hlf])
                obtain ⟨pre, hpre⟩ : ∃ pre, pre = liftPre n P m R d ++ ((R.map (fun r => r + (d : Int) * (m : Int))).take j).filter (liftF n (m * P)) := ⟨_, rfl⟩
                have hprel : pre.length ≤ 5000 := by rw [hpre, List.length_append]; omega
                rw [← hpre] at HO3
                clear hf hlf
                go_wp2_with (first | (go_at_call 86; refine (l1Mod_any _ _ (by omega) (by omega) (by omega) (by omega) _).mono ?_; rintro e w' ⟨rfl, rfl⟩) | (at_builtin; refine wpList_append_own_at _ rfl _ _ 31 rfl w.heap.size 3 i0 (.int .i64 0) 1 8 Try.underlying31 hi hz0 hz1 hz2 rfl (by decide) _ _ _ rfl ((show World.ownsRow _ _ _ _ _ _ _ from HO3.out).alloc _) ⟨wy.heap.size, 0, none⟩ 1 1 [.int .i64 (r + (d : Int) * (m : Int))] rfl rfl (cell_one_new _ _ _) (by simp [Value.oneCell']) (by unfold maxLen; omega) (by omega) (by simp; omega) ?_; intro v' w3 hown' hgrow _ hat))
                have hsg := hgrow.size
                simp only [World.size_alloc] at hsg
                go_round
                case measure => simp only [intOf]; omega
                case rel =>
                  refine ⟨j + 1, by go_num, by omega, hid ?_, hid (fun b' o' e => ?_), by omega, hid (HB3.out.alloc hbs3 _ |>.grown hgrow (by simp; omega) (fun k e => (HO3.out.ge k e)))⟩
                  · rw [HE.out, ← List.append_assoc, ← hpre]
                    unfold Owns
                    simpa using hown'
                  · cases e
                    obtain ⟨q1, q2⟩ := HA3.out b o rfl
                    refine ⟨?_, ?_⟩
                    · rcases hat with e | e
                      · rw [e]; exact q1
                      · rw [e]; intro h; cases h; simp at hltb; omega
                    · rw [hgrow.block b (by simp; omega) (Ne.symm q1), ← q2, Below.heap_alloc _ _ _ (by omega)]
              · have T : (((r + (d : Int) * (m : Int)) * (r + (d : Int) * (m : Int)) - n) % ((m : Int) * (P : Int)) == 0) = false := by rw [beq_eq_false_iff_ne]; exact hf
                have hlf : ¬ liftF n (m * P) (r + (d : Int) * (m : Int)) = true := by unfold liftF; rw [← HMPI.out, beq_iff_eq]; exact hf
                have HE : Hid (((R.map (fun r => r + (d : Int) * (m : Int))).take (j + 1)).filter (liftF n (m * P)) = ((R.map (fun r => r + (d : Int) * (m : Int))).take j).filter (liftF n (m * P))) := hid (by rw [HS.out, if_neg hlf, List.append_nil])
                clear hf hlf
                go_wp2_with (go_at_call 86; refine (l1Mod_any _ _ (by omega) (by omega) (by omega) (by omega) _).mono ?_; rintro e w' ⟨rfl, rfl⟩)
                go_round
                case measure => simp only [intOf]; omega
                case rel => exact ⟨j + 1, by go_num, by omega, hid (by rw [HE.out]; exact HO3.out), HA3, hsz3, HB3⟩
            · obtain rfl : j = R.length := by omega
              clear hlt3
              go_wp2_with fail
              go_round
              case measure => simp only [intOf]; omega
              case rel => exact ⟨d + 1, by go_num, by omega, hid (by rw [HPB.out]; exact HO3.out), HA3, hsz3, HB3⟩
        · obtain rfl : d = P := by omega
          clear hlt2
          go_wp2_with fail
          go_round
          case measure => simp only [intOf]; omega
          case rel => exact ⟨i + 1, m * d, by go_num, by omega, vI (by push_cast; go_num), hid (by rw [HMI.out, Nat.pow_succ]), hid (by rw [HLS.out]; exact HO2.out), HB2⟩
    · obtain rfl : i = k := by omega
      clear hlt
      go_wp2
      go_ret
      exact ⟨_, rfl, HO.out, HB.out⟩


set_option maxRecDepth 100000 in
set_option maxHeartbeats 2000000 in
theorem localRootS_any (n p k : Int) (w : World) :
    Calls Try.prog 40 #[.int .i64 n, .int .i64 p, .int .i64 k] w fun e w' => e = .returned (lrootV n p k) ∧ Below w.heap.size w w' := by
  by_cases O : okN n = true
  · cases hp : primeI p
    · have HK := hid (lrootV_no (k := k) (show lrootOk n p k = false by unfold lrootOk; rw [hp, Bool.false_and, Bool.and_false]))
      go_enter Try.func40, Try.ntmps40
      go_wp2_with (first | (go_at_call 71; refine (l1Number_any _ _).mono ?_; rintro e w' ⟨rfl, rfl⟩) | (go_at_call 76; refine (primeIsS_any _ _).mono ?_; rintro e w' ⟨rfl, rfl⟩))
      go_ret2
      exact ⟨retV HK.out.symm, Below.refl _ _⟩
    · have hpb := primeI_bd hp
      rcases inR_cases k 1 12 with ⟨k1, k2, hI⟩ | ⟨k1, hI⟩ | ⟨k1, k2, hI⟩
      · obtain ⟨P, rfl⟩ := Int.eq_ofNat_of_zero_le (show 0 ≤ p by omega)
        obtain ⟨k', rfl⟩ := Int.eq_ofNat_of_zero_le (show 0 ≤ k by omega)
        have hP2 : 2 ≤ P := by omega
        have hP5 : P ≤ 5000 := by omega
        have hk12 : k' ≤ 12 := by omega
        have hn := okN_iff.1 O
        have hn1 := hn.1
        have hn2 := hn.2
        have HO : Hid (lrootOk n (P : Int) (k' : Int) = decide (P ^ k' ≤ 5000)) := hid (by unfold lrootOk; rw [O, hp, hI]; simp)
        have HV : Hid (lrootV n (P : Int) (k' : Int) = if lrootOk n (P : Int) (k' : Int) then rootT (rootF (n % ((P ^ k' : Nat) : Int)).toNat (P ^ k')) else .tuple #[.int .i64 0, .bool false]) := rfl
        clear hn hpb
        go_enter Try.func40, Try.ntmps40
        go_wp2_with (first | (go_at_call 71; refine (l1Number_any _ _).mono ?_; rintro e w' ⟨rfl, rfl⟩) | (go_at_call 76; refine (primeIsS_any _ _).mono ?_; rintro e w' ⟨rfl, rfl⟩) | (go_at_call 77; refine (l6In_any _ _ _ _).mono ?_; rintro e w' ⟨rfl, rfl⟩))
        go_loopw [8, 9] (fun sm si wr => ∃ i A : Nat, si = .int .i64 i ∧ i ≤ k' ∧ sm = .int .i64 A ∧ A ≤ 5001 ∧ Hid (A = min (P ^ i) 5001) ∧ wr = w) (fun _ si _ => k' - (intOf si).toNat)
        case atStart => exact ⟨0, 1, rfl, by omega, rfl, by omega, hid rfl, rfl⟩
        case round =>
          obtain ⟨i, A, rfl, hi, rfl, hA5, HA, rfl⟩ := hrel
          by_cases hlt : i < k'
          · have hst := cap_step (show 1 ≤ P by omega) HA.out
            obtain ⟨A2, hA2⟩ : ∃ A2, A2 = min (A * P) 5001 := ⟨_, rfl⟩
            rw [← hA2] at hst
            have hA25 : A2 ≤ 5001 := by omega
            have hAP := Nat.mul_le_mul hA5 hP5
            have eAP : (A : Int) * (P : Int) = ((A * P : Nat) : Int) := by push_cast; rfl
            have ap1 : 0 ≤ (A : Int) * (P : Int) := by rw [eAP]; omega
            have ap2 : (A : Int) * (P : Int) ≤ 25005000 := by rw [eAP]; omega
            have hmin : min ((A : Int) * (P : Int)) 5001 = (A2 : Int) := by rw [eAP]; omega
            have hi0 : (i : Int) < (k' : Int) := by omega
            have HST := hid hst
            clear hA2 hAP eAP hst
            go_wp2_with fail
            go_round
            case measure => simp only [intOf]; omega
            case rel => exact ⟨i + 1, A2, by go_num, by omega, by go_num, hA25, HST, by first | rfl | trivial⟩
          · obtain rfl : i = k' := by omega
            clear hlt
            by_cases hpw : P ^ i ≤ 5000
            · have HR : Hid (lrootV n (P : Int) (i : Int) = rootT (rootF (n % ((P ^ i : Nat) : Int)).toNat (P ^ i))) := hid (by rw [HV.out, HO.out, decide_eq_true hpw, if_pos rfl])
              have hA0 : A ≤ 5000 := by rw [HA.out]; omega
              have HPW := hid hpw
              have HLN := hid (lift_none (n := n) (P := P) (k := i) (by omega))
              have HLR : Hid (∀ x, x ∈ liftL n P i → (∀ y ∈ liftL n P i, x ≤ y) → rootF (n % ((P ^ i : Nat) : Int)).toNat (P ^ i) = some x.toNat ∧ 0 ≤ x ∧ x < ((P ^ i : Nat) : Int)) := hid (fun x hx hm => lift_root (by omega) hx hm)
              have HRB : Hid (∀ x, x ∈ liftL n P i → 0 ≤ x ∧ x ≤ 5000) := hid (fun x hx => by
                have := (mem_lift (n := n) (by omega) i x).1 hx
                have := HPW.out
                omega)
              have hll := Nat.le_trans (lift_len n P i) hpw
              clear hpw
              have HCALL : Hid (∀ w : World, Calls Try.prog 78 #[.int .i64 n, .int .i64 P, .int .i64 i] w fun e w' => ∃ v, e = .returned v ∧ Owns w' w.heap.size v (liftL n P i) ∧ Below w.heap.size w w') := hid (fun w => l2Lift_any n hn1 hn2 P i hP2 hP5 hk12 HPW.out w)
              obtain ⟨R, hR⟩ : ∃ R, R = liftL n P i := ⟨_, rfl⟩
              rw [← hR] at HCALL HLN HLR HRB hll
              clear hR
              by_cases hR0 : R = []
              · subst hR0
                have HK : Hid (lrootV n (P : Int) (i : Int) = .tuple #[.int .i64 0, .bool false]) := hid (by rw [HR.out, HLN.out rfl]; rfl)
                go_wp2_with (go_at_call 78; refine (HCALL.out _).mono ?_; rintro e w2 ⟨v, rfl, ho, hb⟩; have HB := hid hb; obtain ⟨a, cap, rfl, hform⟩ := ho.rd.form; clear ho hform hb)
                go_ret2
                exact ⟨retV HK.out.symm, HB.out⟩
              · have hRl : 0 < R.length := List.length_pos_iff.2 hR0
                have T0 : ((R.length : Int) == 0) = false := by rw [beq_eq_false_iff_ne]; omega
                obtain ⟨x0, hx0⟩ : ∃ x0, x0 = R.getD 0 0 := ⟨_, rfl⟩
                have HX0 : Hid (x0 ∈ R) := hid (by rw [hx0, getD_at _ _ hRl]; exact List.getElem_mem _)
                have HX00 := hid hx0
                clear hx0 hR0
                go_wp2_with (go_at_call 78; refine (HCALL.out _).mono ?_; rintro e w2 ⟨v, rfl, ho, hb⟩; have HB := hid hb; obtain ⟨a, cap, rfl, hform⟩ := ho.rd.form; obtain ⟨b, o, rfl, hml, hc⟩ := hform hRl; have HC := hid hc; have c0 := hc 0 hRl; rw [Nat.add_zero, ← HX00.out] at c0; unfold maxLen at hml; clear ho hform hb hc)
                go_loopw [11, 12] (fun sb si wr => ∃ (K : Nat) (x : Int), si = .int .i64 K ∧ K ≤ R.length ∧ sb = .int .i64 x ∧ Hid (x ∈ R) ∧ Hid (∀ j, j < K → x ≤ R.getD j 0) ∧ wr = w2) (fun _ si _ => R.length - (intOf si).toNat)
                case atStart => exact ⟨0, x0, rfl, by omega, rfl, HX0, hid (fun j hj => absurd hj (by omega)), rfl⟩
                case round =>
                  obtain ⟨K, x, rfl, hK, rfl, HX, HMIN, rfl⟩ := hrel
                  by_cases hlt : K < R.length
                  · have c1 := HC.out K hlt
                    obtain ⟨y, hy⟩ : ∃ y, y = R.getD K 0 := ⟨_, rfl⟩
                    rw [← hy] at c1
                    have hym : y ∈ R := by rw [hy, getD_at _ _ hlt]; exact List.getElem_mem _
                    have HY := hid hy
                    have HYM := hid hym
                    have hKi : (K : Int) < (R.length : Int) := by omega
                    clear hy hym
                    by_cases hxy : x ≤ y
                    · have hmin : min x y = x := by omega
                      go_wp2_with fail
                      go_round
                      case measure => simp only [intOf]; omega
                      case rel =>
                        refine ⟨K + 1, x, by go_num, by omega, by go_num, HX, hid (fun j hj => ?_), by first | rfl | trivial⟩
                        by_cases e : j = K
                        · rw [e, ← HY.out]; exact hxy
                        · exact HMIN.out j (by omega)
                    · have hmin : min x y = y := by omega
                      go_wp2_with fail
                      go_round
                      case measure => simp only [intOf]; omega
                      case rel =>
                        refine ⟨K + 1, y, by go_num, by omega, by go_num, HYM, hid (fun j hj => ?_), by first | rfl | trivial⟩
                        by_cases e : j = K
                        · rw [e, ← HY.out]; omega
                        · have := HMIN.out j (by omega); omega
                  · obtain rfl : K = R.length := by omega
                    have hfin := HLR.out x HX.out (fun y hy => by
                      obtain ⟨j, hj, rfl⟩ := List.getElem_of_mem hy
                      have := HMIN.out j hj
                      rw [getD_at _ _ hj] at this
                      exact this)
                    have HK : Hid (lrootV n (P : Int) (i : Int) = .tuple #[.int .i64 x, .bool true]) := hid (by rw [HR.out, hfin.1]; unfold rootT; simp only; rw [Int.toNat_of_nonneg hfin.2.1])
                    clear hlt hfin
                    go_wp2_with fail
                    go_ret2
                    exact ⟨retV HK.out.symm, HB.out⟩
            · have HK : Hid (lrootV n (P : Int) (i : Int) = .tuple #[.int .i64 0, .bool false]) := hid (lrootV_no (by rw [HO.out, decide_eq_false hpw]))
              have hA0 : (5000 : Int) < (A : Int) := by have := HA.out; omega
              clear hpw
              go_wp2_with fail
              go_ret2
              exact ⟨retV HK.out.symm, Below.refl _ _⟩
      · have HK := hid (lrootV_no (show lrootOk n p k = false by unfold lrootOk; rw [hI, Bool.false_and, Bool.and_false, Bool.and_false]))
        go_enter Try.func40, Try.ntmps40
        go_wp2_with (first | (go_at_call 71; refine (l1Number_any _ _).mono ?_; rintro e w' ⟨rfl, rfl⟩) | (go_at_call 76; refine (primeIsS_any _ _).mono ?_; rintro e w' ⟨rfl, rfl⟩) | (go_at_call 77; refine (l6In_any _ _ _ _).mono ?_; rintro e w' ⟨rfl, rfl⟩))
        go_ret2
        exact ⟨retV HK.out.symm, Below.refl _ _⟩
      · have HK := hid (lrootV_no (show lrootOk n p k = false by unfold lrootOk; rw [hI, Bool.false_and, Bool.and_false, Bool.and_false]))
        go_enter Try.func40, Try.ntmps40
        go_wp2_with (first | (go_at_call 71; refine (l1Number_any _ _).mono ?_; rintro e w' ⟨rfl, rfl⟩) | (go_at_call 76; refine (primeIsS_any _ _).mono ?_; rintro e w' ⟨rfl, rfl⟩) | (go_at_call 77; refine (l6In_any _ _ _ _).mono ?_; rintro e w' ⟨rfl, rfl⟩))
        go_ret2
        exact ⟨retV HK.out.symm, Below.refl _ _⟩
  · have O2 : okN n = false := by cases h : okN n; (· rfl); (· exact absurd h O)
    have HK := hid (lrootV_no (show lrootOk n p k = false by unfold lrootOk; rw [O2]; rfl))
    clear O
    go_enter Try.func40, Try.ntmps40
    go_wp2_with (first | (go_at_call 71; refine (l1Number_any _ _).mono ?_; rintro e w' ⟨rfl, rfl⟩))
    go_ret2
    exact ⟨retV HK.out.symm, Below.refl _ _⟩

end Go.Proofs.Ytamdjgcnjgiflaa
