/-
  The symbol of two numbers at a place: by their classes; the model's l3Symbol.
-/
import Derived.Test.YtdidmblkknnglaaLoc
set_option linter.unusedVariables false
namespace Go.Proofs.Ytdidmblkknnglaa
open Go.RowKit

def halfI (e : Int) : Int := if e % 2 = 0 then 1 else -1
theorem halfI_small (e : Int) : -1 ≤ halfI e ∧ halfI e ≤ 1 := by unfold halfI; split <;> omega
theorem halfI_congr {e f : Int} (h : e % 2 = f % 2) : halfI e = halfI f := by unfold halfI; rw [h]

/-- the symbol of two classes at a place -/
def symC (q : Int) (c d : Nat × Int) : Int :=
  if q = 0 then (if c.2 = -1 ∧ d.2 = -1 then -1 else 1)
  else if q = 2 then halfI ((c.2 - 1) / 2 * ((d.2 - 1) / 2) + (c.1 : Int) * ((d.2 * d.2 - 1) / 8) + (d.1 : Int) * ((c.2 * c.2 - 1) / 8))
  else halfI ((c.1 : Int) * (d.1 : Int) * ((q - 1) / 2)) * (if d.1 = 1 then c.2 else 1) * (if c.1 = 1 then d.2 else 1)
def symV (a b q : Int) : Int := symC q (cls a q) (cls b q)

/-- how large a valuation can be -/
theorem val_small {n : Int} {P : Nat} (hP : primeN P = true) (h0 : n ≠ 0) (h1 : -1000000000000000 ≤ n) (h2 : n ≤ 1000000000000000) : val n.natAbs P ≤ 50 := by
  have hp2 := (primeN_bd hP).1
  have hd := Nat.le_of_dvd (show 0 < n.natAbs by omega) (val_dvd P hp2 n.natAbs n.natAbs (Nat.le_refl _) (by omega))
  have h3 := Nat.pow_le_pow_left hp2 (val n.natAbs P)
  by_cases hc : val n.natAbs P ≤ 50
  · exact hc
  · have h4 := Nat.pow_le_pow_right (show 0 < 2 by omega) (show 51 ≤ val n.natAbs P by omega)
    have : (2 : Nat) ^ 51 = 2251799813685248 := by decide
    omega

theorem par_mul (i j h : Nat) : ((i : Int) * (j : Int) * (h : Int)) % 2 = (((i % 2 : Nat) : Int) * ((j % 2 : Nat) : Int) * (h : Int)) % 2 := by
  have : (i * j * h) % 2 = ((i % 2) * (j % 2) * h) % 2 := by simp [Nat.mul_mod]
  exact_mod_cast this
theorem par_two {u v : Int} (hu : 0 ≤ u ∧ u < 16 ∧ u % 2 = 1) (hv : 0 ≤ v ∧ v < 16 ∧ v % 2 = 1) (i j : Nat) :
    ((u - 1) / 2 * ((v - 1) / 2) + (i : Int) * ((v * v - 1) / 8) + (j : Int) * ((u * u - 1) / 8)) % 2 =
    ((u % 8 - 1) / 2 * ((v % 8 - 1) / 2) + ((i % 2 : Nat) : Int) * ((v % 8 * (v % 8) - 1) / 8) + ((j % 2 : Nat) : Int) * ((u % 8 * (u % 8) - 1) / 8)) % 2 := by
  have h1 : u = 1 ∨ u = 3 ∨ u = 5 ∨ u = 7 ∨ u = 9 ∨ u = 11 ∨ u = 13 ∨ u = 15 := by omega
  have h2 : v = 1 ∨ v = 3 ∨ v = 5 ∨ v = 7 ∨ v = 9 ∨ v = 11 ∨ v = 13 ∨ v = 15 := by omega
  rcases h1 with rfl | rfl | rfl | rfl | rfl | rfl | rfl | rfl <;> rcases h2 with rfl | rfl | rfl | rfl | rfl | rfl | rfl | rfl <;> (simp only [Int.reduceMod, Int.reduceSub, Int.reduceDiv, Int.reduceMul]; omega)

theorem l3Half_any (e : Int) (h : 0 ≤ e) (h2 : e ≤ 1000000000000000) (w : World) : Calls Try.prog 67 #[.int .i64 e] w fun en w' => en = .returned (.int .i64 (halfI e)) ∧ w = w' := by
  by_cases hp : e % 2 = 0
  · have T : (e % 2 == 0) = true := by rw [beq_iff_eq]; exact hp
    have H : Hid (halfI e = 1) := hid (by unfold halfI; rw [if_pos hp])
    clear hp
    go_enter Try.func67, Try.ntmps67
    go_wp2
    go_ret
    exact ⟨retI H.out.symm, rfl⟩
  · have T : (e % 2 == 0) = false := by rw [beq_eq_false_iff_ne]; exact hp
    have H : Hid (halfI e = -1) := hid (by unfold halfI; rw [if_neg hp])
    clear hp
    go_enter Try.func67, Try.ntmps67
    go_wp2
    go_ret
    exact ⟨retI H.out.symm, rfl⟩

set_option maxHeartbeats 2000000 in
theorem l3Symbol_any (a b q : Int) (a0 : a ≠ 0) (b0 : b ≠ 0) (a1 : -1000000000000000 ≤ a) (a2 : a ≤ 1000000000000000) (b1 : -1000000000000000 ≤ b) (b2 : b ≤ 1000000000000000) (hq : plI q = true) (w : World) :
    Calls Try.prog 60 #[.int .i64 a, .int .i64 b, .int .i64 q] w fun e w' => e = .returned (.int .i64 (symV a b q)) ∧ w = w' := by
  have hub := unit_bd a q
  have hvb := unit_bd b q
  rcases plI_cases hq with rfl | rfl | ⟨P, rfl, hP, h3, h5⟩
  · clear hub hvb
    by_cases ha : a < 0
    · by_cases hb : b < 0
      · have H : Hid (symV a b 0 = -1) := hid (by unfold symV symC; rw [cls_zero, cls_zero, if_neg (by omega : ¬ 0 < a), if_neg (by omega : ¬ 0 < b)]; rfl)
        go_enter Try.func60, Try.ntmps60
        go_wp2
        go_ret
        exact ⟨retI H.out.symm, rfl⟩
      · have H : Hid (symV a b 0 = 1) := hid (by unfold symV symC; rw [cls_zero, cls_zero, if_neg (by omega : ¬ 0 < a), if_pos (by omega : 0 < b)]; rfl)
        go_enter Try.func60, Try.ntmps60
        go_wp2
        go_ret
        exact ⟨retI H.out.symm, rfl⟩
    · have H : Hid (symV a b 0 = 1) := hid (by unfold symV symC; rw [cls_zero, cls_zero, if_pos (by omega : 0 < a)]; simp)
      go_enter Try.func60, Try.ntmps60
      go_wp2
      go_ret
      exact ⟨retI H.out.symm, rfl⟩
  · have hiv := val_small prime2 a0 a1 a2
    have hjv := val_small prime2 b0 b1 b2
    have hud : ¬ 2 ∣ (unitI a 2).natAbs := unit_dvd prime2 a0
    have hvd : ¬ 2 ∣ (unitI b 2).natAbs := unit_dvd prime2 b0
    have hval : Hid (∀ n : Int, val n.natAbs (2 : Int).toNat = val n.natAbs 2) := hid (fun _ => rfl)
    have HS : Hid (symV a b 2 = halfI ((unitI a 2 % 8 - 1) / 2 * ((unitI b 2 % 8 - 1) / 2) + ((val a.natAbs 2 % 2 : Nat) : Int) * ((unitI b 2 % 8 * (unitI b 2 % 8) - 1) / 8) + ((val b.natAbs 2 % 2 : Nat) : Int) * ((unitI a 2 % 8 * (unitI a 2 % 8) - 1) / 8))) := rfl
    obtain ⟨i, hi⟩ : ∃ i, i = val a.natAbs 2 := ⟨_, rfl⟩
    obtain ⟨j, hj⟩ : ∃ j, j = val b.natAbs 2 := ⟨_, rfl⟩
    obtain ⟨U, hU⟩ : ∃ U, U = unitI a 2 := ⟨_, rfl⟩
    obtain ⟨V, hV⟩ : ∃ V, V = unitI b 2 := ⟨_, rfl⟩
    rw [← hi, ← hj, ← hU, ← hV] at HS
    rw [← hU] at hub hud
    rw [← hV] at hvb hvd
    rw [← hi] at hiv
    rw [← hj] at hjv
    have HI := hid hi
    have HJ := hid hj
    have HU : Hid (a.tdiv (2 ^ i) = U) := hid (by rw [hU, hi]; rfl)
    have HV : Hid (b.tdiv (2 ^ j) = V) := hid (by rw [hV, hj]; rfl)
    clear hi hj hU hV hq
    obtain ⟨u, hu⟩ : ∃ u, u = U % 16 := ⟨_, rfl⟩
    obtain ⟨v, hv⟩ : ∃ v, v = V % 16 := ⟨_, rfl⟩
    have hu0 : 0 ≤ u ∧ u < 16 ∧ u % 2 = 1 := by omega
    have hv0 : 0 ≤ v ∧ v < 16 ∧ v % 2 = 1 := by omega
    have HFIN : Hid (symV a b 2 = halfI ((u - 1) / 2 * ((v - 1) / 2) + (i : Int) * ((v * v - 1) / 8) + (j : Int) * ((u * u - 1) / 8))) := hid (by
      rw [HS.out, show U % 8 = u % 8 by omega, show V % 8 = v % 8 by omega]
      exact (halfI_congr (par_two hu0 hv0 i j)).symm)
    have HUm := hid hu
    have HVm := hid hv
    have u1 : 1 ≤ u := by omega
    have u2 : u ≤ 15 := by omega
    have v1 : 1 ≤ v := by omega
    have v2 : v ≤ 15 := by omega
    have uu1 : 0 ≤ u * u := Int.mul_nonneg (by omega) (by omega)
    have uu2 : u * u ≤ 15 * 15 := Int.le_trans (Int.mul_le_mul_of_nonneg_right u2 (by omega)) (Int.mul_le_mul_of_nonneg_left u2 (by omega))
    have vv1 : 0 ≤ v * v := Int.mul_nonneg (by omega) (by omega)
    have vv2 : v * v ≤ 15 * 15 := Int.le_trans (Int.mul_le_mul_of_nonneg_right v2 (by omega)) (Int.mul_le_mul_of_nonneg_left v2 (by omega))
    have uu3 : 1 ≤ u * u := Int.le_trans (show (1 : Int) ≤ 1 * 1 by omega) (Int.le_trans (Int.mul_le_mul_of_nonneg_right u1 (by omega)) (Int.mul_le_mul_of_nonneg_left u1 (by omega)))
    have vv3 : 1 ≤ v * v := Int.le_trans (show (1 : Int) ≤ 1 * 1 by omega) (Int.le_trans (Int.mul_le_mul_of_nonneg_right v1 (by omega)) (Int.mul_le_mul_of_nonneg_left v1 (by omega)))
    have p1 : 0 ≤ (u - 1) / 2 * ((v - 1) / 2) := Int.mul_nonneg (by omega) (by omega)
    have p2 : (u - 1) / 2 * ((v - 1) / 2) ≤ 7 * 7 := Int.le_trans (Int.mul_le_mul_of_nonneg_right (show (u - 1) / 2 ≤ 7 by omega) (by omega)) (Int.mul_le_mul_of_nonneg_left (by omega) (by omega))
    have p3 : 0 ≤ (i : Int) * ((v * v - 1) / 8) := Int.mul_nonneg (by omega) (by omega)
    have p4 : (i : Int) * ((v * v - 1) / 8) ≤ 50 * 28 := Int.le_trans (Int.mul_le_mul_of_nonneg_right (show (i : Int) ≤ 50 by omega) (by omega)) (Int.mul_le_mul_of_nonneg_left (by omega) (by omega))
    have p5 : 0 ≤ (j : Int) * ((u * u - 1) / 8) := Int.mul_nonneg (by omega) (by omega)
    have p6 : (j : Int) * ((u * u - 1) / 8) ≤ 50 * 28 := Int.le_trans (Int.mul_le_mul_of_nonneg_right (show (j : Int) ≤ 50 by omega) (by omega)) (Int.mul_le_mul_of_nonneg_left (by omega) (by omega))
    clear hu hv hu0 hv0
    go_enter Try.func60, Try.ntmps60
    go_wp2_with fail
    refine (l1Valuation_any a 2 a0 a1 a2 (by decide) (by decide) _).mono ?_
    rw [hval.out, ← HI.out, HU.out]
    rintro e w' ⟨rfl, rfl⟩
    go_wp2_with fail
    refine (l1Valuation_any b 2 b0 b1 b2 (by decide) (by decide) _).mono ?_
    rw [hval.out, ← HJ.out, HV.out]
    rintro e w' ⟨rfl, rfl⟩
    go_wp2_with fail
    refine (l1Mod_any U 16 (by omega) (by omega) (by decide) (by decide) _).mono ?_
    rw [← HUm.out]
    rintro e w' ⟨rfl, rfl⟩
    go_wp2_with fail
    refine (l1Mod_any V 16 (by omega) (by omega) (by decide) (by decide) _).mono ?_
    rw [← HVm.out]
    rintro e w' ⟨rfl, rfl⟩
    go_wp2_with (go_at_call 67; refine (l3Half_any _ (by omega) (by omega) _).mono ?_; rintro e w' ⟨rfl, rfl⟩)
    go_ret
    exact ⟨retI HFIN.out.symm, rfl⟩
  · have hiv := val_small hP a0 a1 a2
    have hjv := val_small hP b0 b1 b2
    have hval : Hid (∀ n : Int, val n.natAbs (P : Int).toNat = val n.natAbs P) := hid (fun _ => rfl)
    obtain ⟨h, hh⟩ : ∃ h : Nat, h = (P - 1) / 2 := ⟨_, rfl⟩
    have hhe : ((P : Int) - 1) / 2 = (h : Int) := by omega
    have hh5 : h ≤ 2500 := by omega
    have HS : Hid (symV a b (P : Int) = halfI (((val a.natAbs P % 2 : Nat) : Int) * ((val b.natAbs P % 2 : Nat) : Int) * (((P : Int) - 1) / 2)) * (if val b.natAbs P % 2 = 1 then resN (unitI a (P : Int) % (P : Int)).toNat P else 1) * (if val a.natAbs P % 2 = 1 then resN (unitI b (P : Int) % (P : Int)).toNat P else 1)) := hid (by
      unfold symV symC
      rw [cls_odd h3, cls_odd h3, if_neg (by omega), if_neg (by omega)])
    obtain ⟨i, hi⟩ : ∃ i, i = val a.natAbs P := ⟨_, rfl⟩
    obtain ⟨j, hj⟩ : ∃ j, j = val b.natAbs P := ⟨_, rfl⟩
    obtain ⟨U, hU⟩ : ∃ U, U = unitI a (P : Int) := ⟨_, rfl⟩
    obtain ⟨V, hV⟩ : ∃ V, V = unitI b (P : Int) := ⟨_, rfl⟩
    rw [← hi, ← hj, ← hU, ← hV, hhe] at HS
    rw [← hU] at hub
    rw [← hV] at hvb
    rw [← hi] at hiv
    rw [← hj] at hjv
    have HI := hid hi
    have HJ := hid hj
    have HU : Hid (a.tdiv ((P : Int) ^ i) = U) := hid (by rw [hU, hi]; rfl)
    have HV : Hid (b.tdiv ((P : Int) ^ j) = V) := hid (by rw [hV, hj]; rfl)
    have hru := resN_small hP h3 (U % (P : Int)).toNat
    have hrv := resN_small hP h3 (V % (P : Int)).toNat
    obtain ⟨R, hR⟩ : ∃ R, R = resN (U % (P : Int)).toNat P := ⟨_, rfl⟩
    obtain ⟨T, hT⟩ : ∃ T, T = resN (V % (P : Int)).toNat P := ⟨_, rfl⟩
    rw [← hR] at HS hru
    rw [← hT] at HS hrv
    have HR : Hid (resN (U % (P : Int)).toNat (P : Int).toNat = R) := hid hR.symm
    have HT : Hid (resN (V % (P : Int)).toNat (P : Int).toNat = T) := hid hT.symm
    obtain ⟨H, hH⟩ : ∃ H, H = halfI ((i : Int) * (j : Int) * (h : Int)) := ⟨_, rfl⟩
    have hHs := halfI_small ((i : Int) * (j : Int) * (h : Int))
    rw [← hH] at hHs
    have HFIN : Hid (symV a b (P : Int) = H * (if j % 2 = 1 then R else 1) * (if i % 2 = 1 then T else 1)) := hid (by
      rw [HS.out, hH, halfI_congr (par_mul i j h)])
    have HH := hid hH
    have hs1 := small_mul hHs.1 hHs.2 hru.1 hru.2
    have hs2 := small_mul hHs.1 hHs.2 hrv.1 hrv.2
    have hs3 := small_mul hs1.1 hs1.2 hrv.1 hrv.2
    have ij1 : 0 ≤ (i : Int) * (j : Int) := Int.mul_nonneg (by omega) (by omega)
    have ij2 : (i : Int) * (j : Int) ≤ 50 * 50 := Int.le_trans (Int.mul_le_mul_of_nonneg_right (show (i : Int) ≤ 50 by omega) (by omega)) (Int.mul_le_mul_of_nonneg_left (by omega) (by omega))
    have ijh1 : 0 ≤ (i : Int) * (j : Int) * (h : Int) := Int.mul_nonneg ij1 (by omega)
    have ijh2 : (i : Int) * (j : Int) * (h : Int) ≤ 2500 * 2500 := Int.le_trans (Int.mul_le_mul_of_nonneg_right ij2 (by omega)) (Int.mul_le_mul_of_nonneg_left (by omega) (by omega))
    have E2 : ((P : Int) == 2) = false := by rw [beq_eq_false_iff_ne]; omega
    have E0 : ((P : Int) == 0) = false := by rw [beq_eq_false_iff_ne]; omega
    clear hi hj hU hV hq hR hT hH hh HS hP
    by_cases hjo : j % 2 = 1
    · have Tj : ((j : Int) % 2 == 1) = true := by rw [beq_iff_eq]; omega
      by_cases hio : i % 2 = 1
      · have Ti : ((i : Int) % 2 == 1) = true := by rw [beq_iff_eq]; omega
        have HK : Hid (symV a b (P : Int) = H * R * T) := hid (by rw [HFIN.out, if_pos hjo, if_pos hio])
        clear hjo hio
        go_enter Try.func60, Try.ntmps60
        go_wp2_with fail
        refine (l1Valuation_any a P a0 a1 a2 (by omega) (by omega) _).mono ?_
        rw [hval.out, ← HI.out, HU.out]
        rintro e w' ⟨rfl, rfl⟩
        go_wp2_with fail
        refine (l1Valuation_any b P b0 b1 b2 (by omega) (by omega) _).mono ?_
        rw [hval.out, ← HJ.out, HV.out]
        rintro e w' ⟨rfl, rfl⟩
        go_wp2_with (first | (go_at_call 67; refine (l3Half_any _ (by omega) (by omega) _).mono ?_; rw [← HH.out]; rintro e w' ⟨rfl, rfl⟩) | (go_at_call 93; refine (l1Residue_any _ _ (by omega) (by omega) (by omega) (by omega) _).mono ?_; (first | rw [HR.out] | rw [HT.out]); rintro e w' ⟨rfl, rfl⟩))
        go_ret
        exact ⟨retI HK.out.symm, rfl⟩
      · have Ti : ((i : Int) % 2 == 1) = false := by rw [beq_eq_false_iff_ne]; omega
        have HK : Hid (symV a b (P : Int) = H * R) := hid (by rw [HFIN.out, if_pos hjo, if_neg hio, Int.mul_one])
        clear hjo hio
        go_enter Try.func60, Try.ntmps60
        go_wp2_with fail
        refine (l1Valuation_any a P a0 a1 a2 (by omega) (by omega) _).mono ?_
        rw [hval.out, ← HI.out, HU.out]
        rintro e w' ⟨rfl, rfl⟩
        go_wp2_with fail
        refine (l1Valuation_any b P b0 b1 b2 (by omega) (by omega) _).mono ?_
        rw [hval.out, ← HJ.out, HV.out]
        rintro e w' ⟨rfl, rfl⟩
        go_wp2_with (first | (go_at_call 67; refine (l3Half_any _ (by omega) (by omega) _).mono ?_; rw [← HH.out]; rintro e w' ⟨rfl, rfl⟩) | (go_at_call 93; refine (l1Residue_any _ _ (by omega) (by omega) (by omega) (by omega) _).mono ?_; (first | rw [HR.out] | rw [HT.out]); rintro e w' ⟨rfl, rfl⟩))
        go_ret
        exact ⟨retI HK.out.symm, rfl⟩
    · have Tj : ((j : Int) % 2 == 1) = false := by rw [beq_eq_false_iff_ne]; omega
      by_cases hio : i % 2 = 1
      · have Ti : ((i : Int) % 2 == 1) = true := by rw [beq_iff_eq]; omega
        have HK : Hid (symV a b (P : Int) = H * T) := hid (by rw [HFIN.out, if_neg hjo, if_pos hio, Int.mul_one])
        clear hjo hio
        go_enter Try.func60, Try.ntmps60
        go_wp2_with fail
        refine (l1Valuation_any a P a0 a1 a2 (by omega) (by omega) _).mono ?_
        rw [hval.out, ← HI.out, HU.out]
        rintro e w' ⟨rfl, rfl⟩
        go_wp2_with fail
        refine (l1Valuation_any b P b0 b1 b2 (by omega) (by omega) _).mono ?_
        rw [hval.out, ← HJ.out, HV.out]
        rintro e w' ⟨rfl, rfl⟩
        go_wp2_with (first | (go_at_call 67; refine (l3Half_any _ (by omega) (by omega) _).mono ?_; rw [← HH.out]; rintro e w' ⟨rfl, rfl⟩) | (go_at_call 93; refine (l1Residue_any _ _ (by omega) (by omega) (by omega) (by omega) _).mono ?_; (first | rw [HR.out] | rw [HT.out]); rintro e w' ⟨rfl, rfl⟩))
        go_ret
        exact ⟨retI HK.out.symm, rfl⟩
      · have Ti : ((i : Int) % 2 == 1) = false := by rw [beq_eq_false_iff_ne]; omega
        have HK : Hid (symV a b (P : Int) = H) := hid (by rw [HFIN.out, if_neg hjo, if_neg hio, Int.mul_one, Int.mul_one])
        clear hjo hio
        go_enter Try.func60, Try.ntmps60
        go_wp2_with fail
        refine (l1Valuation_any a P a0 a1 a2 (by omega) (by omega) _).mono ?_
        rw [hval.out, ← HI.out, HU.out]
        rintro e w' ⟨rfl, rfl⟩
        go_wp2_with fail
        refine (l1Valuation_any b P b0 b1 b2 (by omega) (by omega) _).mono ?_
        rw [hval.out, ← HJ.out, HV.out]
        rintro e w' ⟨rfl, rfl⟩
        go_wp2_with (first | (go_at_call 67; refine (l3Half_any _ (by omega) (by omega) _).mono ?_; rw [← HH.out]; rintro e w' ⟨rfl, rfl⟩) | (go_at_call 93; refine (l1Residue_any _ _ (by omega) (by omega) (by omega) (by omega) _).mono ?_; (first | rw [HR.out] | rw [HT.out]); rintro e w' ⟨rfl, rfl⟩))
        go_ret
        exact ⟨retI HK.out.symm, rfl⟩

end Go.Proofs.Ytdidmblkknnglaa
