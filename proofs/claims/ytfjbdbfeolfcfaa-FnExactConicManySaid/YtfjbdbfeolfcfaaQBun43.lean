/-
  Some texts in one file: Zm3 Zm4.
-/
import Derived.Test.YtfjbdbfeolfcfaaQZm2
/-! Zm3 -/
set_option linter.unusedVariables false
namespace Go.Proofs.Ytfjbdbfeolfcfaa
open Go.RowKit

theorem sqz_mul {a : Int} {x : Nat} {A X : Nat} (ha : a.natAbs ≤ A) (hx : x * x ≤ X) (hX : X ≤ 1000000) : (a * (x : Int)).natAbs ≤ A * 1000 ∧ (a * (x : Int) * (x : Int)).natAbs ≤ A * X := by
  have hx1 : x ≤ 1000 := by
    refine Classical.byContradiction fun h => ?_
    have := Nat.mul_le_mul (show 1001 ≤ x by omega) (show 1001 ≤ x by omega)
    omega
  refine ⟨?_, ?_⟩
  · rw [Int.natAbs_mul, Int.natAbs_natCast]; exact Nat.mul_le_mul ha hx1
  · rw [Int.natAbs_mul, Int.natAbs_mul, Int.natAbs_natCast, Nat.mul_assoc]; exact Nat.mul_le_mul ha hx
/-- bounds of what is searched -/
structure T3.Lim (t : T3) : Prop where
  nz : t.nz
  a : t.a.natAbs ≤ 30000
  b : t.b.natAbs ≤ 30000
  c : t.c.natAbs ≤ 30000
  bc : (t.b * t.c).natAbs ≤ 30000
  ac : (t.a * t.c).natAbs ≤ 30000
theorem T3.lim_of {t : T3} (h : t.nz) (hp : t.prod ≤ 30000) : t.Lim := by
  obtain ⟨h1, h2, h3, h4, h5, _⟩ := T3.bd h hp
  exact ⟨h, h1, h2, h3, h4, h5⟩
theorem hit_zero {t : T3} {x y : Nat} (h : x = 0 ∧ y = 0) : hitO t x y = none := by unfold hitO; rw [if_pos h]
theorem hit_rest {t : T3} {x y : Nat} (h : topI t x y % t.c ≠ 0) : hitO t x y = none := by
  unfold hitO
  by_cases h0 : x = 0 ∧ y = 0
  · rw [if_pos h0]
  · rw [if_neg h0, if_neg h]
theorem hit_root {t : T3} {x y : Nat} (h0 : ¬ (x = 0 ∧ y = 0)) (h : topI t x y % t.c = 0) : hitO t x y = (rootO ((topI t x y).tdiv t.c)).map (fun z => [(x : Int), (y : Int), (z : Int)]) := by
  unfold hitO; rw [if_neg h0, if_pos h]
theorem hit_neg {t : T3} {x y : Nat} (h : (topI t x y).tdiv t.c < 0) : hitO t x y = none := by
  unfold hitO
  split
  · rfl
  · split
    · rw [show rootO ((topI t x y).tdiv t.c) = none by unfold rootO; rw [if_pos h]]; rfl
    · rfl
theorem tmod_zero {n c : Int} : n.tmod c = 0 ↔ n % c = 0 :=
  ⟨fun h => Int.emod_eq_zero_of_dvd (Int.dvd_of_tmod_eq_zero h), fun h => Int.tmod_eq_zero_of_dvd (Int.dvd_of_emod_eq_zero h)⟩

/-- what a search hands back -/
def SearchPost (o : Option (List Int)) (w : World) (e : Ending) (w' : World) : Prop := ∃ u, e = .returned (.tuple #[u, .bool o.isSome]) ∧ Owns w' w.heap.size u (o.getD []) ∧ Below w.heap.size w w'
set_option maxRecDepth 100000 in
set_option maxHeartbeats 4000000 in
theorem l5Search_any (v : Value) (t : T3) (hl : t.Lim) (w : World) (h : Rd w v t.toL) : Calls Try.prog 82 #[v] w (SearchPost (searchO t) w) := by
  obtain ⟨a, b, c⟩ := t
  obtain ⟨g, o, cap, rfl, k0, k1, k2⟩ := rd_three h
  obtain ⟨⟨a0, b0, c0⟩, ha, hb, hc, hbc, hac⟩ := hl
  dsimp only at a0 b0 c0 ha hb hc hbc hac
  have HC0 := hid c0
  have C0 : (c == 0) = false := by rw [beq_eq_false_iff_ne]; exact c0
  obtain ⟨N, hN⟩ : ∃ N, N = (b * c).natAbs := ⟨_, rfl⟩
  obtain ⟨M, hM⟩ : ∃ M, M = (a * c).natAbs := ⟨_, rfl⟩
  rw [← hN] at hbc
  rw [← hM] at hac
  have HN := hid hN
  have HM := hid hM
  have eN : Hid (searchO ⟨a, b, c⟩ = firstO (rowO ⟨a, b, c⟩) N) := hid (by unfold searchO; rw [hN])
  have eM : Hid (∀ x, rowO ⟨a, b, c⟩ x = firstO (hitO ⟨a, b, c⟩ x) M) := hid (fun x => by unfold rowO; rw [hM])
  have n1 : -30000 ≤ b * c := by omega
  have n2 : b * c ≤ 30000 := by omega
  have m1 : -30000 ≤ a * c := by omega
  have m2 : a * c ≤ 30000 := by omega
  clear h a0 b0 c0 hN hM
  go_enter Try.func82, Try.ntmps82
  go_wp2_with fail
  go_loop [7] (fun sx => ∃ X : Nat, sx = .int .i64 X ∧ X ≤ 1000 ∧ Hid (∀ i, i < X → rowO ⟨a, b, c⟩ i = none)) (fun sx => 1001 - (intOf sx).toNat)
  case atStart => exact ⟨0, rfl, by omega, hid (fun i hi => by omega)⟩
  case round =>
    obtain ⟨X, rfl, hX, HX⟩ := hrel
    have hXX := Nat.mul_le_mul hX hX
    have eXX : (X : Int) * X = ((X * X : Nat) : Int) := by push_cast; rfl
    have x1 : 0 ≤ (X : Int) * X := by rw [eXX]; omega
    have x2 : (X : Int) * X ≤ 1000000 := by rw [eXX]; omega
    by_cases hle : X * X ≤ N
    · have hle' : (X : Int) * X ≤ (N : Int) := by rw [eXX]; omega
      have hXL : X ≤ 999 := by
        refine Classical.byContradiction fun h => ?_
        have := Nat.mul_le_mul (show 1000 ≤ X by omega) (show 1000 ≤ X by omega)
        omega
      have hsx := sqz_mul ha hle (by omega)
      have HLE := hid hle
      have ax := hsx.1
      have axx : (a * (X : Int) * (X : Int)).natAbs ≤ 900000000 := Nat.le_trans hsx.2 (Nat.mul_le_mul (Nat.le_refl _) hbc)
      have ax1 : -30000000 ≤ a * (X : Int) := by omega
      have ax2 : a * (X : Int) ≤ 30000000 := by omega
      have axx1 : -900000000 ≤ a * (X : Int) * (X : Int) := by omega
      have axx2 : a * (X : Int) * (X : Int) ≤ 900000000 := by omega
      clear hsx ax axx hle eXX hXX
      go_wp2_with (go_at_call 63; refine (l1Size_any _ (by omega) (by omega) _).mono ?_; rw [← HN.out]; rintro e w' ⟨rfl, rfl⟩)
      go_loop [8] (fun sy => ∃ Y : Nat, sy = .int .i64 Y ∧ Y ≤ 1000 ∧ Hid (∀ i, i < Y → hitO ⟨a, b, c⟩ X i = none)) (fun sy => 1001 - (intOf sy).toNat)
      case atStart => exact ⟨0, rfl, by omega, hid (fun i hi => by omega)⟩
      case round =>
        obtain ⟨Y, rfl, hY, HY⟩ := hrel
        have hYY := Nat.mul_le_mul hY hY
        have eYY : (Y : Int) * Y = ((Y * Y : Nat) : Int) := by push_cast; rfl
        have y1 : 0 ≤ (Y : Int) * Y := by rw [eYY]; omega
        have y2 : (Y : Int) * Y ≤ 1000000 := by rw [eYY]; omega
        by_cases hle2 : Y * Y ≤ M
        · have hle2' : (Y : Int) * Y ≤ (M : Int) := by rw [eYY]; omega
          have hYL : Y ≤ 999 := by
            refine Classical.byContradiction fun h => ?_
            have := Nat.mul_le_mul (show 1000 ≤ Y by omega) (show 1000 ≤ Y by omega)
            omega
          have hsy := sqz_mul hb hle2 (by omega)
          have HLE2 := hid hle2
          have by' := hsy.1
          have byy : (b * (Y : Int) * (Y : Int)).natAbs ≤ 900000000 := Nat.le_trans hsy.2 (Nat.mul_le_mul (Nat.le_refl _) hac)
          have by1 : -30000000 ≤ b * (Y : Int) := by omega
          have by2 : b * (Y : Int) ≤ 30000000 := by omega
          have byy1 : -900000000 ≤ b * (Y : Int) * (Y : Int) := by omega
          have byy2 : b * (Y : Int) * (Y : Int) ≤ 900000000 := by omega
          have NEXT : Hid (hitO ⟨a, b, c⟩ X Y = none → ∀ i, i < Y + 1 → hitO ⟨a, b, c⟩ X i = none) := hid (fun h i hi => by
            by_cases e : i = Y
            · rw [e]; exact h
            · exact HY.out i (by omega))
          have HT : topI ⟨a, b, c⟩ X Y = -(a * (X : Int) * (X : Int)) - b * (Y : Int) * (Y : Int) := by unfold topI; rw [Int.zero_sub]
          obtain ⟨q, hq⟩ : ∃ q, q = (-(a * (X : Int) * (X : Int)) - b * (Y : Int) * (Y : Int)).tdiv c := ⟨_, rfl⟩
          have hqb : q.natAbs ≤ 2000000000 := by
            rw [hq, Int.natAbs_tdiv]
            exact Nat.le_trans (Nat.div_le_self _ _) (by omega)
          have hqe := hq.symm
          have HR : hitO ⟨a, b, c⟩ X Y = hitO ⟨a, b, c⟩ X Y := rfl
          clear hsy by' byy hle2 eYY hYY HR
          by_cases hd : (-(a * (X : Int) * (X : Int)) - b * (Y : Int) * (Y : Int)).tmod c = 0
          · have T1 : ((-(a * (X : Int) * (X : Int)) - b * (Y : Int) * (Y : Int)).tmod c != 0) = false := by rw [bne_eq_false_iff_eq]; exact hd
            have hd2 : topI ⟨a, b, c⟩ X Y % (T3.mk a b c).c = 0 := by rw [HT]; exact tmod_zero.1 hd
            by_cases hqn : q < 0
            · have HN2 := hid (NEXT.out (hit_neg (by rw [HT, ← hq]; exact hqn)))
              clear hd2 HT hq
              go_wp2_with (go_at_call 63; refine (l1Size_any _ (by omega) (by omega) _).mono ?_; rw [← HM.out]; rintro e w' ⟨rfl, rfl⟩)
              go_round
              case measure => simp only [intOf]; omega
              case rel => exact ⟨Y + 1, by go_num, by omega, HN2⟩
            · by_cases hz : X = 0 ∧ Y = 0
              · have HN2 := hid (NEXT.out (hit_zero hz))
                obtain ⟨hX0, hY0⟩ := hz
                have X0 : ((X : Int) == 0) = true := by rw [beq_iff_eq]; omega
                have Y0 : ((Y : Int) == 0) = true := by rw [beq_iff_eq]; omega
                clear hd2 HT hq hX0 hY0
                go_wp2_with (go_at_call 63; refine (l1Size_any _ (by omega) (by omega) _).mono ?_; rw [← HM.out]; rintro e w' ⟨rfl, rfl⟩)
                go_round
                case measure => simp only [intOf]; omega
                case rel => exact ⟨Y + 1, by go_num, by omega, HN2⟩
              · have hr := hit_root (t := ⟨a, b, c⟩) hz hd2
                rw [HT, show (T3.mk a b c).c = c from rfl, ← hq] at hr
                have HRT := hid hr
                have hz2 : (X : Int) = 0 → ¬ (Y : Int) = 0 := fun h1 h2 => hz ⟨by omega, by omega⟩
                have hq0 : 0 ≤ q := by omega
                clear hd2 HT hq hr hz
                by_cases hX0 : X = 0
                · have X0 : ((X : Int) == 0) = true := by rw [beq_iff_eq]; omega
                  have Y0 : ((Y : Int) == 0) = false := by rw [beq_eq_false_iff_ne]; exact hz2 (by omega)
                  clear hX0 hz2
                  go_wp2_with (first | (go_at_call 63; refine (l1Size_any _ (by omega) (by omega) _).mono ?_; rw [← HM.out]; rintro e w' ⟨rfl, rfl⟩))
                  refine (l5Root_any q hq0 (by omega) _).mono ?_
                  rintro e w' ⟨⟨z, hzr, hzb, rfl⟩ | ⟨hzn, rfl⟩, rfl⟩
                  · have hz0 : (0 : Int) ≤ (z : Int) := by omega
                    have HS : Hid (searchO ⟨a, b, c⟩ = some [(X : Int), (Y : Int), (z : Int)]) := hid (by
                      rw [eN.out]
                      refine first_some HX.out HLE.out ?_
                      rw [eM.out]
                      refine first_some HY.out HLE2.out ?_
                      rw [HRT.out, hzr]; rfl)
                    clear hzr
                    go_wp2_with fail
                    go_ret2
                    refine ⟨_, by rw [HS.out]; rfl, ?_, (Below.refl _ _).alloc (Nat.le_refl _) _⟩
                    rw [HS.out]
                    exact owns_lit [(X : Int), (Y : Int), (z : Int)] _ rfl (Nat.le_refl _) (by unfold maxLen; simp)
                  · have HN2 := hid (NEXT.out (by rw [HRT.out, hzn]; rfl))
                    clear hzn
                    go_wp2_with fail
                    go_round
                    case measure => simp only [intOf]; omega
                    case rel => exact ⟨Y + 1, by go_num, by omega, HN2⟩
                · have X0 : ((X : Int) == 0) = false := by rw [beq_eq_false_iff_ne]; omega
                  clear hX0 hz2
                  go_wp2_with (first | (go_at_call 63; refine (l1Size_any _ (by omega) (by omega) _).mono ?_; rw [← HM.out]; rintro e w' ⟨rfl, rfl⟩))
                  refine (l5Root_any q hq0 (by omega) _).mono ?_
                  rintro e w' ⟨⟨z, hzr, hzb, rfl⟩ | ⟨hzn, rfl⟩, rfl⟩
                  · have hz0 : (0 : Int) ≤ (z : Int) := by omega
                    have HS : Hid (searchO ⟨a, b, c⟩ = some [(X : Int), (Y : Int), (z : Int)]) := hid (by
                      rw [eN.out]
                      refine first_some HX.out HLE.out ?_
                      rw [eM.out]
                      refine first_some HY.out HLE2.out ?_
                      rw [HRT.out, hzr]; rfl)
                    clear hzr
                    go_wp2_with fail
                    go_ret2
                    refine ⟨_, by rw [HS.out]; rfl, ?_, (Below.refl _ _).alloc (Nat.le_refl _) _⟩
                    rw [HS.out]
                    exact owns_lit [(X : Int), (Y : Int), (z : Int)] _ rfl (Nat.le_refl _) (by unfold maxLen; simp)
                  · have HN2 := hid (NEXT.out (by rw [HRT.out, hzn]; rfl))
                    clear hzn
                    go_wp2_with fail
                    go_round
                    case measure => simp only [intOf]; omega
                    case rel => exact ⟨Y + 1, by go_num, by omega, HN2⟩
          · have T1 : ((-(a * (X : Int) * (X : Int)) - b * (Y : Int) * (Y : Int)).tmod c != 0) = true := by rw [bne_iff_ne]; exact hd
            have HN2 := hid (NEXT.out (hit_rest (by rw [HT]; exact fun h => hd (tmod_zero.2 h))))
            clear HT hq hqe hd
            go_wp2_with (go_at_call 63; refine (l1Size_any _ (by omega) (by omega) _).mono ?_; rw [← HM.out]; rintro e w' ⟨rfl, rfl⟩)
            go_round
            case measure => simp only [intOf]; omega
            case rel => exact ⟨Y + 1, by go_num, by omega, HN2⟩
        · have hle2' : ¬ (Y : Int) * Y ≤ (M : Int) := by rw [eYY]; omega
          have HR : Hid (rowO ⟨a, b, c⟩ X = none) := hid (by rw [eM.out]; exact first_none HY.out hle2)
          clear hle2 eYY hYY
          go_wp2_with (go_at_call 63; refine (l1Size_any _ (by omega) (by omega) _).mono ?_; rw [← HM.out]; rintro e w' ⟨rfl, rfl⟩)
          go_round
          case measure => simp only [intOf]; omega
          case rel => exact ⟨X + 1, by go_num, by omega, hid (fun i hi => by
            by_cases e : i = X
            · rw [e]; exact HR.out
            · exact HX.out i (by omega))⟩
    · have hle' : ¬ (X : Int) * X ≤ (N : Int) := by rw [eXX]; omega
      have HS : Hid (searchO ⟨a, b, c⟩ = none) := hid (by rw [eN.out]; exact first_none HX.out hle)
      clear hle eXX hXX
      go_wp2_with (go_at_call 63; refine (l1Size_any _ (by omega) (by omega) _).mono ?_; rw [← HN.out]; rintro e w' ⟨rfl, rfl⟩)
      go_ret2
      refine ⟨_, by rw [HS.out]; rfl, ?_, (Below.refl _ _).alloc (Nat.le_refl _) _⟩
      rw [HS.out]
      exact World.ownsRow_made (size := 1) _ #[] 0 (Nat.le_refl _) (by unfold maxLen; omega) rfl

end Go.Proofs.Ytfjbdbfeolfcfaa

/-! Zm4 -/
set_option linter.unusedVariables false
namespace Go.Proofs.Ytfjbdbfeolfcfaa
open Go.RowKit

def nrm1 (x : Int) : Bool := !(x == 0) && (inR x (-30000) 30000 && decide (rootG x = 1))
theorem nrm1_iff {x : Int} : nrm1 x = true ↔ x ≠ 0 ∧ (-30000 ≤ x ∧ x ≤ 30000) ∧ rootG x = 1 := by
  unfold nrm1 inR
  rw [Bool.and_eq_true, Bool.and_eq_true, Bool.and_eq_true, Bool.not_eq_true', beq_eq_false_iff_ne, decide_eq_true_eq, decide_eq_true_eq, decide_eq_true_eq]
theorem nrmB_all {xs : List Int} (h : nrmB xs = true) : (∀ x ∈ xs, nrm1 x = true) ∧ (prodI xs).natAbs ≤ 30000 := by
  unfold nrmB at h
  rw [Bool.and_eq_true, Bool.and_eq_true, Bool.and_eq_true, decide_eq_true_eq, decide_eq_true_eq, decide_eq_true_eq] at h
  exact ⟨List.all_eq_true.1 h.2.1, h.2.2.1⟩
theorem nrmB_term {xs : List Int} {x : Int} (hm : x ∈ xs) (h : nrm1 x = false) : nrmB xs = false := by
  cases hb : nrmB xs with
  | false => rfl
  | true =>
    have := (nrmB_all hb).1 x hm
    rw [h] at this
    cases this
theorem prod_part {xs : List Int} (h : ∀ x ∈ xs, x ≠ 0) (K : Nat) : (prodI (xs.take K)).natAbs ≤ (prodI xs).natAbs := by
  have e : prodI xs = prodI (xs.take K) * prodI (xs.drop K) := by rw [← prodI_app, List.take_append_drop]
  have h2 : prodI (xs.drop K) ≠ 0 := prodI_ne fun x hx => h x (List.mem_of_mem_drop hx)
  rw [e, Int.natAbs_mul]
  exact Nat.le_mul_of_pos_right _ (by omega)
theorem nrmB_prod {xs : List Int} {K : Nat} (h : 30000 < (prodI (xs.take K)).natAbs) : nrmB xs = false := by
  cases hb : nrmB xs with
  | false => rfl
  | true =>
    obtain ⟨h1, h2⟩ := nrmB_all hb
    have := prod_part (fun x hx => (nrm1_iff.1 (h1 x hx)).1) K
    omega
theorem nrmB_end {a b c : Int} (h : ∀ i, i < 3 → nrm1 ([a, b, c].getD i 0) = true) (hp : (prodI [a, b, c]).natAbs ≤ 30000) : nrmB [a, b, c] = decide (twoD a b c = 1) := by
  have h0 : nrm1 a = true := h 0 (by omega)
  have h1 : nrm1 b = true := h 1 (by omega)
  have h2 : nrm1 c = true := h 2 (by omega)
  have e : nrmB [a, b, c] = (decide (([a, b, c] : List Int).length = 3) && ((nrm1 a && (nrm1 b && (nrm1 c && true))) && (decide ((prodI [a, b, c]).natAbs ≤ 30000) && decide (twoD a b c = 1)))) := rfl
  rw [e, h0, h1, h2, decide_eq_true hp]
  rfl
theorem nrmB_lim {xs : List Int} (h : nrmB xs = true) : ∃ a b c, xs = [a, b, c] ∧ (T3.of xs).Lim := by
  by_cases hl : xs.length = 3
  · obtain ⟨a, b, c, rfl⟩ := list_three hl
    have hn := nrmB_iff.1 h
    refine ⟨a, b, c, rfl, T3.lim_of (t := ⟨a, b, c⟩) hn.1 ?_⟩
    have := hn.2.2.2.1
    rw [Int.natAbs_mul, Int.natAbs_mul] at this
    exact this
  · rw [nrm_len hl] at h; cases h



end Go.Proofs.Ytfjbdbfeolfcfaa
