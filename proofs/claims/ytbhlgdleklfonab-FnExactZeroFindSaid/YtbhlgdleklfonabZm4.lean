/-
  Contracts of the model's chapter 5: are three terms normal; ZeroSearch.
-/
import Derived.Test.YtbhlgdleklfonabBun21
set_option linter.unusedVariables false
namespace Go.Proofs.Ytbhlgdleklfonab
open Go.RowKit

def nrm1 (x : Int) : Bool := !(x == 0) && (inR x (-30000) 30000 && decide (rootG x = 1))
theorem nrm1_iff {x : Int} : nrm1 x = true ↔ x ≠ 0 ∧ (-30000 ≤ x ∧ x ≤ 30000) ∧ rootG x = 1 := by
  unfold nrm1 inR
  rw [Bool.and_eq_true, Bool.and_eq_true, Bool.and_eq_true, Bool.not_eq_true', beq_eq_false_iff_ne, decide_eq_true_eq, decide_eq_true_eq, decide_eq_true_eq]
theorem nrmB_all {xs : List Int} (h : nrmB xs = true) : (∀ x ∈ xs, nrm1 x = true) ∧ (prodI xs).natAbs ≤ 30000 := by
  unfold nrmB at h
  rw [Bool.and_eq_true, Bool.and_eq_true, Bool.and_eq_true, decide_eq_true_eq, decide_eq_true_eq, decide_eq_true_eq] at h
  exact ⟨List.all_eq_true.1 h.2.1, h.2.2.1⟩
theorem nrmB_term {xs : List Int} {x : Int} (hm : x ∈ xs) (h : nrm1 x = false) : nrmB xs = false := by
  cases hb : nrmB xs with
  | false => rfl
  | true =>
    have := (nrmB_all hb).1 x hm
    rw [h] at this
    cases this
theorem prod_part {xs : List Int} (h : ∀ x ∈ xs, x ≠ 0) (K : Nat) : (prodI (xs.take K)).natAbs ≤ (prodI xs).natAbs := by
  have e : prodI xs = prodI (xs.take K) * prodI (xs.drop K) := by rw [← prodI_app, List.take_append_drop]
  have h2 : prodI (xs.drop K) ≠ 0 := prodI_ne fun x hx => h x (List.mem_of_mem_drop hx)
  rw [e, Int.natAbs_mul]
  exact Nat.le_mul_of_pos_right _ (by omega)
theorem nrmB_prod {xs : List Int} {K : Nat} (h : 30000 < (prodI (xs.take K)).natAbs) : nrmB xs = false := by
  cases hb : nrmB xs with
  | false => rfl
  | true =>
    obtain ⟨h1, h2⟩ := nrmB_all hb
    have := prod_part (fun x hx => (nrm1_iff.1 (h1 x hx)).1) K
    omega
theorem nrmB_end {a b c : Int} (h : ∀ i, i < 3 → nrm1 ([a, b, c].getD i 0) = true) (hp : (prodI [a, b, c]).natAbs ≤ 30000) : nrmB [a, b, c] = decide (twoD a b c = 1) := by
  have h0 : nrm1 a = true := h 0 (by omega)
  have h1 : nrm1 b = true := h 1 (by omega)
  have h2 : nrm1 c = true := h 2 (by omega)
  have e : nrmB [a, b, c] = (decide (([a, b, c] : List Int).length = 3) && ((nrm1 a && (nrm1 b && (nrm1 c && true))) && (decide ((prodI [a, b, c]).natAbs ≤ 30000) && decide (twoD a b c = 1)))) := rfl
  rw [e, h0, h1, h2, decide_eq_true hp]
  rfl
theorem nrmB_lim {xs : List Int} (h : nrmB xs = true) : ∃ a b c, xs = [a, b, c] ∧ (T3.of xs).Lim := by
  by_cases hl : xs.length = 3
  · obtain ⟨a, b, c, rfl⟩ := list_three hl
    have hn := nrmB_iff.1 h
    refine ⟨a, b, c, rfl, T3.lim_of (t := ⟨a, b, c⟩) hn.1 ?_⟩
    have := hn.2.2.2.1
    rw [Int.natAbs_mul, Int.natAbs_mul] at this
    exact this
  · rw [nrm_len hl] at h; cases h

set_option maxRecDepth 100000 in
set_option maxHeartbeats 4000000 in
theorem l5Ok_any (v : Value) (xs : List Int) (w : World) (h : Rd w v xs) : Calls Try.prog 48 #[v] w fun e w' => e = .returned (.bool (nrmB xs)) ∧ Below w.heap.size w w' := by
  have hmx := rd_max h
  have HH := hid h
  obtain ⟨ad, cap, rfl, hform⟩ := h.form
  have HFM := hid hform
  clear h hform
  by_cases hl : xs.length = 3
  · have hli : (xs.length : Int) = 3 := by omega
    have T3' : ((xs.length : Int) != 3) = false := by rw [bne_eq_false_iff_eq]; exact hli
    have HL := hid hl
    obtain ⟨NB, hNB⟩ : ∃ NB, NB = nrmB xs := ⟨_, rfl⟩
    have HNB := hid hNB
    rw [← hNB]
    clear hl hNB
    go_enter Try.func48, Try.ntmps48
    go_wp2_with fail
    go_loop [3, 4] (fun sp si => ∃ (K : Nat) (p : Int), si = .int .i64 K ∧ K ≤ 3 ∧ sp = .int .i64 p ∧ -30000 ≤ p ∧ p ≤ 30000 ∧ Hid (p = prodI (xs.take K)) ∧ Hid (∀ i, i < K → nrm1 (xs.getD i 0) = true)) (fun _ si => 3 - (intOf si).toNat)
    case atStart => exact ⟨0, 1, rfl, by omega, rfl, by omega, by omega, hid (by simp [prodI]), hid (fun i hi => by omega)⟩
    case round =>
      obtain ⟨K, p, rfl, hK, rfl, p1, p2, HP, HG⟩ := hrel
      by_cases hlt : K < 3
      · have hKl : K < xs.length := by have := HL.out; omega
        obtain ⟨b, o, rfl, hml, hc⟩ := HFM.out (by omega)
        have hcell := hc K hKl
        obtain ⟨x, hx⟩ : ∃ x, x = xs.getD K 0 := ⟨_, rfl⟩
        have hmem : x ∈ xs := by rw [hx, getD_at _ _ hKl]; exact List.getElem_mem _
        rw [← hx] at hcell
        have HX := hid hx
        have HNO : Hid (nrm1 x = false → NB = false) := hid (fun e => by rw [HNB.out]; exact nrmB_term hmem e)
        have HPN : Hid (prodI (xs.take (K + 1)) = p * x) := hid (by rw [prodI_take hKl, ← HP.out, hx])
        have hKi : (K : Int) < (xs.length : Int) := by omega
        have hK3 : (K : Int) < 3 := by omega
        clear hx hc hml hmem hKl
        by_cases x0 : x = 0
        · have T : (x == 0) = true := by rw [beq_iff_eq]; exact x0
          have HR := hid (HNO.out (by unfold nrm1; rw [beq_iff_eq.2 x0]; rfl))
          clear x0
          go_wp2_with fail
          go_ret
          exact ⟨retB HR.out.symm, Below.refl _ _⟩
        · have T : (x == 0) = false := by rw [beq_eq_false_iff_ne]; exact x0
          have HX0 := hid x0
          cases hr : inR x (-30000) 30000 with
          | false =>
            have HR := hid (HNO.out (by unfold nrm1; rw [hr, Bool.false_and, Bool.and_false]))
            have HIN := hid hr
            clear x0 hr
            go_wp2_with (go_at_call 59; refine (l6In_any _ _ _ _).mono ?_; rw [HIN.out]; rintro e w' ⟨rfl, rfl⟩)
            go_ret
            exact ⟨retB HR.out.symm, Below.refl _ _⟩
          | true =>
            have HIN := hid hr
            have hxb : -30000 ≤ x ∧ x ≤ 30000 := by
              unfold inR at hr
              rwa [Bool.and_eq_true, decide_eq_true_eq, decide_eq_true_eq] at hr
            have xb1 := hxb.1
            have xb2 := hxb.2
            have hcs := core_small x0
            have hrp := hcs.2.2.2.2
            have hrle : rootG x ≤ 30000 := by
              have h1 := hcs.2.1
              have h2 : 1 ≤ (coreG x).natAbs := by have := hcs.1; omega
              have h3 := Nat.le_mul_of_pos_left (rootG x * rootG x) h2
              have h4 := Nat.le_mul_of_pos_left (rootG x) hrp
              omega
            obtain ⟨R, hR⟩ : ∃ R, R = rootG x := ⟨_, rfl⟩
            rw [← hR] at hrp hrle
            have HRE : Hid (rootG x = R) := hid hR.symm
            by_cases hr1 : R = 1
            · have hri : ¬ (1 : Int) < (R : Int) := by omega
              have HG1 : Hid (nrm1 x = true) := hid (nrm1_iff.2 ⟨x0, hxb, by rw [← hR]; exact hr1⟩)
              have hpx : (p * x).natAbs ≤ 30000 * 30000 := by rw [Int.natAbs_mul]; exact Nat.mul_le_mul (by omega) (by omega)
              have px1 : -900000000 ≤ p * x := by omega
              have px2 : p * x ≤ 900000000 := by omega
              obtain ⟨S, hS⟩ : ∃ S, S = (p * x).natAbs := ⟨_, rfl⟩
              have HS : Hid ((p * x).natAbs = S) := hid hS.symm
              clear hcs hR hxb hr x0
              by_cases hbig : 30000 < S
              · have hbi : (30000 : Int) < (S : Int) := by omega
                have HR : Hid (NB = false) := hid (by rw [HNB.out]; exact nrmB_prod (K := K + 1) (by rw [HPN.out, ← hS]; exact hbig))
                clear hS
                go_wp2_with (first | (go_at_call 59; refine (l6In_any _ _ _ _).mono ?_; rw [HIN.out]; rintro e w' ⟨rfl, rfl⟩) | (go_at_call 53; refine (l1CoreG_any _ HX0.out (by omega) (by omega) _).mono ?_; rw [HRE.out]; rintro e w' ⟨rfl, rfl⟩) | (go_at_call 69; refine (l1Size_any _ (by omega) (by omega) _).mono ?_; rw [HS.out]; rintro e w' ⟨rfl, rfl⟩))
                go_ret
                exact ⟨retB HR.out.symm, Below.refl _ _⟩
              · have hbi : ¬ (30000 : Int) < (S : Int) := by omega
                have pb1 : -30000 ≤ p * x := by omega
                have pb2 : p * x ≤ 30000 := by omega
                clear hS
                go_wp2_with (first | (go_at_call 59; refine (l6In_any _ _ _ _).mono ?_; rw [HIN.out]; rintro e w' ⟨rfl, rfl⟩) | (go_at_call 53; refine (l1CoreG_any _ HX0.out (by omega) (by omega) _).mono ?_; rw [HRE.out]; rintro e w' ⟨rfl, rfl⟩) | (go_at_call 69; refine (l1Size_any _ (by omega) (by omega) _).mono ?_; rw [HS.out]; rintro e w' ⟨rfl, rfl⟩))
                go_round
                case measure => simp only [intOf]; omega
                case rel => exact ⟨K + 1, p * x, by go_num, by omega, rfl, pb1, pb2, hid HPN.out.symm, hid (fun i hi => by
                  by_cases e : i = K
                  · rw [e, ← HX.out]; exact HG1.out
                  · exact HG.out i (by omega))⟩
            · have hri : (1 : Int) < (R : Int) := by omega
              have HR := hid (HNO.out (by
                cases hn : nrm1 x with
                | false => rfl
                | true => exact absurd ((nrm1_iff.1 hn).2.2) (by rw [← hR]; exact hr1)))
              clear hcs hR hxb hr x0 hr1
              go_wp2_with (first | (go_at_call 59; refine (l6In_any _ _ _ _).mono ?_; rw [HIN.out]; rintro e w' ⟨rfl, rfl⟩) | (go_at_call 53; refine (l1CoreG_any _ HX0.out (by omega) (by omega) _).mono ?_; rw [HRE.out]; rintro e w' ⟨rfl, rfl⟩))
              go_ret
              exact ⟨retB HR.out.symm, Below.refl _ _⟩
      · obtain rfl : K = 3 := by omega
        obtain ⟨a, b, c, rfl⟩ := list_three HL.out
        have ha := nrm1_iff.1 (HG.out 0 (by omega))
        have hb := nrm1_iff.1 (HG.out 1 (by omega))
        have hc := nrm1_iff.1 (HG.out 2 (by omega))
        have hpe : (prodI [a, b, c]).natAbs ≤ 30000 := by
          have := HP.out
          rw [show [a, b, c].take 3 = [a, b, c] from rfl] at this
          omega
        have HE : Hid (NB = decide (twoD a b c = 1)) := hid (by rw [HNB.out]; exact nrmB_end HG.out hpe)
        have HTW : Hid (Calls Try.prog 73 #[.slice ad [a, b, c].length cap] w (TwoDPost a b c w)) := hid (l5Two_any _ a b c ha.1 hb.1 hc.1 (by have := ha.2.1; simp at this; omega) (by have := ha.2.1; simp at this; omega) (by have := hb.2.1; simp at this; omega) (by have := hb.2.1; simp at this; omega) (by have := hc.2.1; simp at this; omega) (by have := hc.2.1; simp at this; omega) w HH.out)
        clear ha hb hc hpe HFM HG HP hli T3' hlt hK
        go_wp2_with fail
        refine (HTW.out).mono ?_
        rintro e w2 ⟨rfl, hb2⟩
        obtain ⟨P, hP⟩ : ∃ P, P = twoD a b c := ⟨_, rfl⟩
        rw [← hP] at HE ⊢
        clear hP
        by_cases hp1 : P = 1
        · have T : ((P : Int) == 1) = true := by rw [beq_iff_eq]; omega
          rw [decide_eq_true hp1] at HE
          clear hp1
          go_wp2_with fail
          go_ret
          exact ⟨retB (by rw [HE.out]), hb2⟩
        · have T : ((P : Int) == 1) = false := by rw [beq_eq_false_iff_ne]; omega
          rw [decide_eq_false hp1] at HE
          clear hp1
          go_wp2_with fail
          go_ret
          exact ⟨retB (by rw [HE.out]), hb2⟩
  · have HR := hid (nrm_len hl)
    have T3' : ((xs.length : Int) != 3) = true := by rw [bne_iff_ne]; omega
    clear hl
    go_enter Try.func48, Try.ntmps48
    go_wp2_with fail
    go_ret
    exact ⟨retB HR.out.symm, Below.refl _ _⟩

set_option maxRecDepth 100000 in
set_option maxHeartbeats 1000000 in
theorem zeroSearchS_any (v : Value) (xs : List Int) (w : World) (h : Rd w v xs) : Calls Try.prog 22 #[v] w (SearchPost (zsearchO xs) w) := by
  have HH := hid h
  obtain ⟨ad, cap, rfl, _⟩ := h.form
  clear h
  cases hn : nrmB xs with
  | false =>
    have HN := hid hn
    have HR : Hid (zsearchO xs = none) := hid (by unfold zsearchO; rw [hn]; rfl)
    clear hn
    go_enter Try.func22, Try.ntmps22
    go_wp2_with (go_at_call 48; refine (l5Ok_any _ xs _ HH.out).mono ?_; rw [HN.out]; rintro e w2 ⟨rfl, hb2⟩)
    go_ret2
    refine ⟨_, by rw [HR.out]; rfl, ?_, hb2.alloc hb2.size _⟩
    rw [HR.out]
    exact World.ownsRow_made (size := 1) _ #[] 0 hb2.size (by unfold maxLen; omega) rfl
  | true =>
    have HN := hid hn
    have HR : Hid (zsearchO xs = searchO (T3.of xs)) := hid (by unfold zsearchO; rw [hn]; rfl)
    obtain ⟨a, b, c, rfl, hlim⟩ := nrmB_lim hn
    have HLIM := hid hlim
    clear hn hlim
    go_enter Try.func22, Try.ntmps22
    go_wp2_with fail
    refine (l5Ok_any _ [a, b, c] _ HH.out).mono ?_
    rw [HN.out]
    rintro e w2 ⟨rfl, hb2⟩
    have H2 := hid (HH.out.keep hb2)
    go_wp2_with fail
    refine (l5Search_any _ (T3.of [a, b, c]) HLIM.out _ H2.out).mono ?_
    rintro e w3 ⟨u, rfl, ho, hb3⟩
    go_wp2_with fail
    go_ret2
    exact ⟨u, by rw [HR.out]; rfl, by rw [HR.out]; exact ho.down hb2.size, hb2.trans (hb3.mono hb2.size)⟩

end Go.Proofs.Ytbhlgdleklfonab
