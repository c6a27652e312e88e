/-
  Some texts in one file: ImpD Sym Sym2 PlacesG.
-/
import Derived.Test.YtciajpimpjpnfacImpC
import Derived.Test.YtciajpimpjpnfacBun7
import Derived.Test.YtciajpimpjpnfacBun8
/-! ImpD -/
set_option linter.unusedVariables false
namespace Go.Proofs.Ytciajpimpjpnfac
open Go.RowKit Go.Shelf
attribute [local go_sem] Oper.semAt_some

def plcs (l : List Nat) : List Int := [0, 2] ++ (natsI l).filter (fun x => decide (2 < x))
theorem plcs_yes {l : List Nat} {x : Nat} (h : 2 < x) : plcs (l ++ [x]) = plcs l ++ [(x : Int)] := by
  unfold plcs
  rw [natsI_snoc, List.filter_append, List.filter_cons, if_pos (by rw [decide_eq_true_eq]; omega), List.append_assoc]
  rfl
theorem plcs_no {l : List Nat} {x : Nat} (h : ¬ 2 < x) : plcs (l ++ [x]) = plcs l := by
  unfold plcs
  rw [natsI_snoc, List.filter_append, List.filter_cons, if_neg (by rw [decide_eq_true_eq]; omega), List.filter_nil, List.append_nil]
theorem plcs_len (l : List Nat) : (plcs l).length ≤ l.length + 2 := by
  unfold plcs
  have h3 := List.length_filter_le (fun x : Int => decide (2 < x)) (natsI l)
  rw [natsI_len] at h3
  rw [List.length_append]
  simp only [List.length_cons, List.length_nil]
  omega
theorem fsts_len (l : List PP) : (fsts l).length = l.length := by unfold fsts; rw [List.length_map]

set_option maxRecDepth 100000 in
set_option maxHeartbeats 2000000 in
theorem placesOf_any (n : Int) (h0 : n ≠ 0) (a1 : -5000 ≤ n) (a2 : n ≤ 5000) (w : World) :
    Calls Try.prog 38 #[.int .i64 n] w fun e w' => ∃ v, e = .returned v ∧ Owns w' w.heap.size v (placesOf n) ∧ Below w.heap.size w w' := by
  obtain ⟨i0, hi, hz0, hz1, hz2⟩ := info_parts infoInt
  have HPL : Hid (placesOf n = plcs ((ppow n.natAbs).map (·.1))) := hid (by unfold plcs placesOf; rw [plist_eq])
  obtain ⟨v0, hv0⟩ : ∃ v0 : Value, v0 = .slice (some ⟨w.heap.size, 0, none⟩) 2 2 := ⟨_, rfl⟩
  have hr0 : (w.alloc (.cells #[.int .i64 0, .int .i64 2] 3)).ownsRow w.heap.size 3 1 v0 2 [.int .i64 0, .int .i64 2] := by
    rw [hv0]; exact World.ownsRow_lit w #[.int .i64 0, .int .i64 2] 2 (Nat.le_refl _) (by unfold maxLen; omega) rfl
  have hB0 : Below w.heap.size w (((w.alloc (.cells #[.int .i64 0, .int .i64 2] 3)).alloc (.cells #[v0] 22)).alloc (.cells #[.int .i64 n] 55)) := (((Below.refl _ _).alloc (Nat.le_refl _) _).alloc (by simp) _).alloc (by simp; omega) _
  have bO := (Boxed.new (w.alloc (.cells #[.int .i64 0, .int .i64 2] 3)) 22 v0).alloc (.cells #[.int .i64 n] 55)
  have bN := Boxed.new ((w.alloc (.cells #[.int .i64 0, .int .i64 2] 3)).alloc (.cells #[v0] 22)) 55 (.int .i64 n)
  simp only [World.size_alloc] at bN bO
  have hrN := (hr0.alloc (.cells #[v0] 22)).alloc (.cells #[.int .i64 n] 55)
  have H0 := hid h0
  subst hv0
  clear h0 hr0
  refine (callsIn_wide (n := 5)).1 ?_
  refine callsIn_of_wp_marks Try.func38 rfl trivial ?_ rfl
  simp only [Try.ntmps38, List.size_toArray, List.length_cons, List.length_nil, Nat.reduceAdd, Nat.reduceSub, Array.replicate_succ, Array.replicate_zero, List.push_toArray, List.append_toArray, List.nil_append, List.cons_append]
  gi_wp2_with (refine ⟨trivial, ?_⟩; gi_at_call 69; refine (callsIn_wide.2 (pp_make _ _)).mono ?_; rintro e w' ⟨rfl, rfl⟩)
  refine wpIn_rangeFunc_ownG rfl (by omega) (gf := 83) (lb := #[.pointer (some ⟨w.heap.size + 1 + 1, 0, none⟩)]) rfl trivial (enters_of Try.func83 (by kernel_rfl) rfl)
    (pp_stops _ (w.heap.size + 1 + 1) n H0.out (by omega) (by omega) _ (by simp) bN.cell) walksK_t walksK_b (Below.refl _ _) (fun _ => rfl)
    (fun pre W => (∃ v, Boxed W (w.heap.size + 1) 22 v ∧ W.ownsRow w.heap.size 3 1 v (plcs (fsts pre)).length ((plcs (fsts pre)).map (Value.int .i64)) ∧ True) ∧ Below w.heap.size w W)
    (fun _ _ _ => False)
    (OwnFrom.and (Own.from (holdsRow_own w.heap.size (w.heap.size + 1) 22 3 1 (fun pre => (plcs (fsts pre)).length) (fun pre => (plcs (fsts pre)).map (Value.int .i64)) (fun _ _ => True)) _) (ownFrom_below (Nat.le_refl _) (by simp; omega)))
    (fun _ _ _ _ _ hs _ _ => hs)
    ⟨⟨_, bO, hrN, trivial⟩, hB0⟩ ?a1 ?assign ?body ?done ?stop
  case assign =>
    intro l x W K hK
    gi_wp2
    exact hK
  case body =>
    rintro l pre x W ⟨⟨v, hv, hrow, _⟩, hB⟩ hlt
    have hc := hv.cell
    have hpl := ppow_len n.natAbs
    have hll := plcs_len (fsts pre)
    rw [fsts_len] at hll
    by_cases hx : 2 < x.1.1
    · have hxi : (2 : Int) < (x.1.1 : Int) := by omega
      have HX := hid hx
      clear hx
      gi_wp2_with (gi_at_builtin; refine wpListIn_append_own _ rfl _ _ 22 rfl w.heap.size 3 i0 (.int .i64 0) 1 8 Try.underlying22 hi hz0 hz1 hz2 rfl (by decide) _ _ _ rfl (hrow.alloc _) ⟨W.heap.size, 0, none⟩ 1 1 [.int .i64 x.1.1] rfl rfl (cell_one_new _ _ _) (by simp [Value.oneCell']) (by unfold maxLen; omega) (by omega) (by have := hB.size; simp; omega) ?_; intro v' w1 hown' hgrow _; obtain ⟨g', cap', rfl⟩ := ownsRow_succ hown'; obtain ⟨hv1, hv2, hr2, hk2, hb2⟩ := hv.appended (by decide) hrow hB.size (by omega) hown' hgrow; have hc1 := hv1.cell; have hf1 := hv1.frozen)
      exact ⟨hk2.from _, hk2.walks, ⟨_, hv2, by rw [fsts_snoc, plcs_yes HX.out]; simpa using hr2, trivial⟩, hB.trans hb2⟩
    · have hxi : ¬ (2 : Int) < (x.1.1 : Int) := by omega
      have HX := hid hx
      clear hx
      gi_wp2
      exact ⟨KeepsFrom.refl _ _, KeepsWalks.refl _, ⟨v, hv, by rw [fsts_snoc, plcs_no HX.out]; exact hrow⟩, hB⟩
  case done =>
    rintro D ys W hD hS ⟨⟨v, hv, hrow, _⟩, hB⟩ hK
    have hc := hv.cell
    rw [fsts_all hS] at hrow
    have HP2 := HPL
    gi_wp2
    refine ⟨by simp, .inl ⟨_, _, rfl, run_takeDeferred hK, ?_⟩⟩
    refine ⟨_, results_tmp rfl _ _ _, ?_⟩
    exact ⟨v, rfl, by unfold Owns; rw [HPL.out]; exact ownsRow_putObj hrow _ hK rfl, hB.trans (belowK_b (w := w) (Nat.le_refl _) W D _ _ (by simp at hD; omega) hK rfl rfl)⟩
  case stop =>
    rintro D c pre W _ _ h _
    exact h.elim

end Go.Proofs.Ytciajpimpjpnfac

/-! Sym -/
set_option linter.unusedVariables false
namespace Go.Proofs.Ytciajpimpjpnfac
open Go.RowKit

def halfI (e : Int) : Int := if e % 2 = 0 then 1 else -1
theorem halfI_small (e : Int) : -1 ≤ halfI e ∧ halfI e ≤ 1 := by unfold halfI; split <;> omega
theorem halfI_congr {e f : Int} (h : e % 2 = f % 2) : halfI e = halfI f := by unfold halfI; rw [h]

/-- the symbol of two classes at a place -/
def symC (q : Int) (c d : Nat × Int) : Int :=
  if q = 0 then (if c.2 = -1 ∧ d.2 = -1 then -1 else 1)
  else if q = 2 then halfI ((c.2 - 1) / 2 * ((d.2 - 1) / 2) + (c.1 : Int) * ((d.2 * d.2 - 1) / 8) + (d.1 : Int) * ((c.2 * c.2 - 1) / 8))
  else halfI ((c.1 : Int) * (d.1 : Int) * ((q - 1) / 2)) * (if d.1 = 1 then c.2 else 1) * (if c.1 = 1 then d.2 else 1)
def symV (a b q : Int) : Int := symC q (cls a q) (cls b q)

/-- how large a valuation can be -/
theorem val_small {n : Int} {P : Nat} (hP : primeN P = true) (h0 : n ≠ 0) (h1 : -1000000000000000 ≤ n) (h2 : n ≤ 1000000000000000) : val n.natAbs P ≤ 50 := by
  have hp2 := (primeN_bd hP).1
  have hd := Nat.le_of_dvd (show 0 < n.natAbs by omega) (val_dvd P hp2 n.natAbs n.natAbs (Nat.le_refl _) (by omega))
  have h3 := Nat.pow_le_pow_left hp2 (val n.natAbs P)
  by_cases hc : val n.natAbs P ≤ 50
  · exact hc
  · have h4 := Nat.pow_le_pow_right (show 0 < 2 by omega) (show 51 ≤ val n.natAbs P by omega)
    have : (2 : Nat) ^ 51 = 2251799813685248 := by decide
    omega

theorem par_mul (i j h : Nat) : ((i : Int) * (j : Int) * (h : Int)) % 2 = (((i % 2 : Nat) : Int) * ((j % 2 : Nat) : Int) * (h : Int)) % 2 := by
  have : (i * j * h) % 2 = ((i % 2) * (j % 2) * h) % 2 := by simp [Nat.mul_mod]
  exact_mod_cast this
theorem par_two {u v : Int} (hu : 0 ≤ u ∧ u < 16 ∧ u % 2 = 1) (hv : 0 ≤ v ∧ v < 16 ∧ v % 2 = 1) (i j : Nat) :
    ((u - 1) / 2 * ((v - 1) / 2) + (i : Int) * ((v * v - 1) / 8) + (j : Int) * ((u * u - 1) / 8)) % 2 =
    ((u % 8 - 1) / 2 * ((v % 8 - 1) / 2) + ((i % 2 : Nat) : Int) * ((v % 8 * (v % 8) - 1) / 8) + ((j % 2 : Nat) : Int) * ((u % 8 * (u % 8) - 1) / 8)) % 2 := by
  have h1 : u = 1 ∨ u = 3 ∨ u = 5 ∨ u = 7 ∨ u = 9 ∨ u = 11 ∨ u = 13 ∨ u = 15 := by omega
  have h2 : v = 1 ∨ v = 3 ∨ v = 5 ∨ v = 7 ∨ v = 9 ∨ v = 11 ∨ v = 13 ∨ v = 15 := by omega
  rcases h1 with rfl | rfl | rfl | rfl | rfl | rfl | rfl | rfl <;> rcases h2 with rfl | rfl | rfl | rfl | rfl | rfl | rfl | rfl <;> (simp only [Int.reduceMod, Int.reduceSub, Int.reduceDiv, Int.reduceMul]; omega)

theorem l3Half_any (e : Int) (h : 0 ≤ e) (h2 : e ≤ 1000000000000000) (w : World) : Calls Try.prog 90 #[.int .i64 e] w fun en w' => en = .returned (.int .i64 (halfI e)) ∧ w = w' := by
  by_cases hp : e % 2 = 0
  · have T : (e % 2 == 0) = true := by rw [beq_iff_eq]; exact hp
    have H : Hid (halfI e = 1) := hid (by unfold halfI; rw [if_pos hp])
    clear hp
    go_enter Try.func90, Try.ntmps90
    go_wp2
    go_ret
    exact ⟨retI H.out.symm, rfl⟩
  · have T : (e % 2 == 0) = false := by rw [beq_eq_false_iff_ne]; exact hp
    have H : Hid (halfI e = -1) := hid (by unfold halfI; rw [if_neg hp])
    clear hp
    go_enter Try.func90, Try.ntmps90
    go_wp2
    go_ret
    exact ⟨retI H.out.symm, rfl⟩

set_option maxHeartbeats 2000000 in
theorem l3Symbol_any (a b q : Int) (a0 : a ≠ 0) (b0 : b ≠ 0) (a1 : -1000000000000000 ≤ a) (a2 : a ≤ 1000000000000000) (b1 : -1000000000000000 ≤ b) (b2 : b ≤ 1000000000000000) (hq : plI q = true) (w : World) :
    Calls Try.prog 82 #[.int .i64 a, .int .i64 b, .int .i64 q] w fun e w' => e = .returned (.int .i64 (symV a b q)) ∧ w = w' := by
  have hub := unit_bd a q
  have hvb := unit_bd b q
  rcases plI_cases hq with rfl | rfl | ⟨P, rfl, hP, h3, h5⟩
  · clear hub hvb
    by_cases ha : a < 0
    · by_cases hb : b < 0
      · have H : Hid (symV a b 0 = -1) := hid (by unfold symV symC; rw [cls_zero, cls_zero, if_neg (by omega : ¬ 0 < a), if_neg (by omega : ¬ 0 < b)]; rfl)
        go_enter Try.func82, Try.ntmps82
        go_wp2
        go_ret
        exact ⟨retI H.out.symm, rfl⟩
      · have H : Hid (symV a b 0 = 1) := hid (by unfold symV symC; rw [cls_zero, cls_zero, if_neg (by omega : ¬ 0 < a), if_pos (by omega : 0 < b)]; rfl)
        go_enter Try.func82, Try.ntmps82
        go_wp2
        go_ret
        exact ⟨retI H.out.symm, rfl⟩
    · have H : Hid (symV a b 0 = 1) := hid (by unfold symV symC; rw [cls_zero, cls_zero, if_pos (by omega : 0 < a)]; simp)
      go_enter Try.func82, Try.ntmps82
      go_wp2
      go_ret
      exact ⟨retI H.out.symm, rfl⟩
  · have hiv := val_small prime2 a0 a1 a2
    have hjv := val_small prime2 b0 b1 b2
    have hud : ¬ 2 ∣ (unitI a 2).natAbs := unit_dvd prime2 a0
    have hvd : ¬ 2 ∣ (unitI b 2).natAbs := unit_dvd prime2 b0
    have hval : Hid (∀ n : Int, val n.natAbs (2 : Int).toNat = val n.natAbs 2) := hid (fun _ => rfl)
    have HS : Hid (symV a b 2 = halfI ((unitI a 2 % 8 - 1) / 2 * ((unitI b 2 % 8 - 1) / 2) + ((val a.natAbs 2 % 2 : Nat) : Int) * ((unitI b 2 % 8 * (unitI b 2 % 8) - 1) / 8) + ((val b.natAbs 2 % 2 : Nat) : Int) * ((unitI a 2 % 8 * (unitI a 2 % 8) - 1) / 8))) := rfl
    obtain ⟨i, hi⟩ : ∃ i, i = val a.natAbs 2 := ⟨_, rfl⟩
    obtain ⟨j, hj⟩ : ∃ j, j = val b.natAbs 2 := ⟨_, rfl⟩
    obtain ⟨U, hU⟩ : ∃ U, U = unitI a 2 := ⟨_, rfl⟩
    obtain ⟨V, hV⟩ : ∃ V, V = unitI b 2 := ⟨_, rfl⟩
    rw [← hi, ← hj, ← hU, ← hV] at HS
    rw [← hU] at hub hud
    rw [← hV] at hvb hvd
    rw [← hi] at hiv
    rw [← hj] at hjv
    have HI := hid hi
    have HJ := hid hj
    have HU : Hid (a.tdiv (2 ^ i) = U) := hid (by rw [hU, hi]; rfl)
    have HV : Hid (b.tdiv (2 ^ j) = V) := hid (by rw [hV, hj]; rfl)
    clear hi hj hU hV hq
    obtain ⟨u, hu⟩ : ∃ u, u = U % 16 := ⟨_, rfl⟩
    obtain ⟨v, hv⟩ : ∃ v, v = V % 16 := ⟨_, rfl⟩
    have hu0 : 0 ≤ u ∧ u < 16 ∧ u % 2 = 1 := by omega
    have hv0 : 0 ≤ v ∧ v < 16 ∧ v % 2 = 1 := by omega
    have HFIN : Hid (symV a b 2 = halfI ((u - 1) / 2 * ((v - 1) / 2) + (i : Int) * ((v * v - 1) / 8) + (j : Int) * ((u * u - 1) / 8))) := hid (by
      rw [HS.out, show U % 8 = u % 8 by omega, show V % 8 = v % 8 by omega]
      exact (halfI_congr (par_two hu0 hv0 i j)).symm)
    have HUm := hid hu
    have HVm := hid hv
    have u1 : 1 ≤ u := by omega
    have u2 : u ≤ 15 := by omega
    have v1 : 1 ≤ v := by omega
    have v2 : v ≤ 15 := by omega
    have uu1 : 0 ≤ u * u := Int.mul_nonneg (by omega) (by omega)
    have uu2 : u * u ≤ 15 * 15 := Int.le_trans (Int.mul_le_mul_of_nonneg_right u2 (by omega)) (Int.mul_le_mul_of_nonneg_left u2 (by omega))
    have vv1 : 0 ≤ v * v := Int.mul_nonneg (by omega) (by omega)
    have vv2 : v * v ≤ 15 * 15 := Int.le_trans (Int.mul_le_mul_of_nonneg_right v2 (by omega)) (Int.mul_le_mul_of_nonneg_left v2 (by omega))
    have uu3 : 1 ≤ u * u := Int.le_trans (show (1 : Int) ≤ 1 * 1 by omega) (Int.le_trans (Int.mul_le_mul_of_nonneg_right u1 (by omega)) (Int.mul_le_mul_of_nonneg_left u1 (by omega)))
    have vv3 : 1 ≤ v * v := Int.le_trans (show (1 : Int) ≤ 1 * 1 by omega) (Int.le_trans (Int.mul_le_mul_of_nonneg_right v1 (by omega)) (Int.mul_le_mul_of_nonneg_left v1 (by omega)))
    have p1 : 0 ≤ (u - 1) / 2 * ((v - 1) / 2) := Int.mul_nonneg (by omega) (by omega)
    have p2 : (u - 1) / 2 * ((v - 1) / 2) ≤ 7 * 7 := Int.le_trans (Int.mul_le_mul_of_nonneg_right (show (u - 1) / 2 ≤ 7 by omega) (by omega)) (Int.mul_le_mul_of_nonneg_left (by omega) (by omega))
    have p3 : 0 ≤ (i : Int) * ((v * v - 1) / 8) := Int.mul_nonneg (by omega) (by omega)
    have p4 : (i : Int) * ((v * v - 1) / 8) ≤ 50 * 28 := Int.le_trans (Int.mul_le_mul_of_nonneg_right (show (i : Int) ≤ 50 by omega) (by omega)) (Int.mul_le_mul_of_nonneg_left (by omega) (by omega))
    have p5 : 0 ≤ (j : Int) * ((u * u - 1) / 8) := Int.mul_nonneg (by omega) (by omega)
    have p6 : (j : Int) * ((u * u - 1) / 8) ≤ 50 * 28 := Int.le_trans (Int.mul_le_mul_of_nonneg_right (show (j : Int) ≤ 50 by omega) (by omega)) (Int.mul_le_mul_of_nonneg_left (by omega) (by omega))
    clear hu hv hu0 hv0
    go_enter Try.func82, Try.ntmps82
    go_wp2_with fail
    refine (l1Valuation_any a 2 a0 a1 a2 (by decide) (by decide) _).mono ?_
    rw [hval.out, ← HI.out, HU.out]
    rintro e w' ⟨rfl, rfl⟩
    go_wp2_with fail
    refine (l1Valuation_any b 2 b0 b1 b2 (by decide) (by decide) _).mono ?_
    rw [hval.out, ← HJ.out, HV.out]
    rintro e w' ⟨rfl, rfl⟩
    go_wp2_with fail
    refine (l1Mod_any U 16 (by omega) (by omega) (by decide) (by decide) _).mono ?_
    rw [← HUm.out]
    rintro e w' ⟨rfl, rfl⟩
    go_wp2_with fail
    refine (l1Mod_any V 16 (by omega) (by omega) (by decide) (by decide) _).mono ?_
    rw [← HVm.out]
    rintro e w' ⟨rfl, rfl⟩
    go_wp2_with (go_at_call 90; refine (l3Half_any _ (by omega) (by omega) _).mono ?_; rintro e w' ⟨rfl, rfl⟩)
    go_ret
    exact ⟨retI HFIN.out.symm, rfl⟩
  · have hiv := val_small hP a0 a1 a2
    have hjv := val_small hP b0 b1 b2
    have hval : Hid (∀ n : Int, val n.natAbs (P : Int).toNat = val n.natAbs P) := hid (fun _ => rfl)
    obtain ⟨h, hh⟩ : ∃ h : Nat, h = (P - 1) / 2 := ⟨_, rfl⟩
    have hhe : ((P : Int) - 1) / 2 = (h : Int) := by omega
    have hh5 : h ≤ 2500 := by omega
    have HS : Hid (symV a b (P : Int) = halfI (((val a.natAbs P % 2 : Nat) : Int) * ((val b.natAbs P % 2 : Nat) : Int) * (((P : Int) - 1) / 2)) * (if val b.natAbs P % 2 = 1 then resN (unitI a (P : Int) % (P : Int)).toNat P else 1) * (if val a.natAbs P % 2 = 1 then resN (unitI b (P : Int) % (P : Int)).toNat P else 1)) := hid (by
      unfold symV symC
      rw [cls_odd h3, cls_odd h3, if_neg (by omega), if_neg (by omega)])
    obtain ⟨i, hi⟩ : ∃ i, i = val a.natAbs P := ⟨_, rfl⟩
    obtain ⟨j, hj⟩ : ∃ j, j = val b.natAbs P := ⟨_, rfl⟩
    obtain ⟨U, hU⟩ : ∃ U, U = unitI a (P : Int) := ⟨_, rfl⟩
    obtain ⟨V, hV⟩ : ∃ V, V = unitI b (P : Int) := ⟨_, rfl⟩
    rw [← hi, ← hj, ← hU, ← hV, hhe] at HS
    rw [← hU] at hub
    rw [← hV] at hvb
    rw [← hi] at hiv
    rw [← hj] at hjv
    have HI := hid hi
    have HJ := hid hj
    have HU : Hid (a.tdiv ((P : Int) ^ i) = U) := hid (by rw [hU, hi]; rfl)
    have HV : Hid (b.tdiv ((P : Int) ^ j) = V) := hid (by rw [hV, hj]; rfl)
    have hru := resN_small hP h3 (U % (P : Int)).toNat
    have hrv := resN_small hP h3 (V % (P : Int)).toNat
    obtain ⟨R, hR⟩ : ∃ R, R = resN (U % (P : Int)).toNat P := ⟨_, rfl⟩
    obtain ⟨T, hT⟩ : ∃ T, T = resN (V % (P : Int)).toNat P := ⟨_, rfl⟩
    rw [← hR] at HS hru
    rw [← hT] at HS hrv
    have HR : Hid (resN (U % (P : Int)).toNat (P : Int).toNat = R) := hid hR.symm
    have HT : Hid (resN (V % (P : Int)).toNat (P : Int).toNat = T) := hid hT.symm
    obtain ⟨H, hH⟩ : ∃ H, H = halfI ((i : Int) * (j : Int) * (h : Int)) := ⟨_, rfl⟩
    have hHs := halfI_small ((i : Int) * (j : Int) * (h : Int))
    rw [← hH] at hHs
    have HFIN : Hid (symV a b (P : Int) = H * (if j % 2 = 1 then R else 1) * (if i % 2 = 1 then T else 1)) := hid (by
      rw [HS.out, hH, halfI_congr (par_mul i j h)])
    have HH := hid hH
    have hs1 := small_mul hHs.1 hHs.2 hru.1 hru.2
    have hs2 := small_mul hHs.1 hHs.2 hrv.1 hrv.2
    have hs3 := small_mul hs1.1 hs1.2 hrv.1 hrv.2
    have ij1 : 0 ≤ (i : Int) * (j : Int) := Int.mul_nonneg (by omega) (by omega)
    have ij2 : (i : Int) * (j : Int) ≤ 50 * 50 := Int.le_trans (Int.mul_le_mul_of_nonneg_right (show (i : Int) ≤ 50 by omega) (by omega)) (Int.mul_le_mul_of_nonneg_left (by omega) (by omega))
    have ijh1 : 0 ≤ (i : Int) * (j : Int) * (h : Int) := Int.mul_nonneg ij1 (by omega)
    have ijh2 : (i : Int) * (j : Int) * (h : Int) ≤ 2500 * 2500 := Int.le_trans (Int.mul_le_mul_of_nonneg_right ij2 (by omega)) (Int.mul_le_mul_of_nonneg_left (by omega) (by omega))
    have E2 : ((P : Int) == 2) = false := by rw [beq_eq_false_iff_ne]; omega
    have E0 : ((P : Int) == 0) = false := by rw [beq_eq_false_iff_ne]; omega
    clear hi hj hU hV hq hR hT hH hh HS hP
    by_cases hjo : j % 2 = 1
    · have Tj : ((j : Int) % 2 == 1) = true := by rw [beq_iff_eq]; omega
      by_cases hio : i % 2 = 1
      · have Ti : ((i : Int) % 2 == 1) = true := by rw [beq_iff_eq]; omega
        have HK : Hid (symV a b (P : Int) = H * R * T) := hid (by rw [HFIN.out, if_pos hjo, if_pos hio])
        clear hjo hio
        go_enter Try.func82, Try.ntmps82
        go_wp2_with fail
        refine (l1Valuation_any a P a0 a1 a2 (by omega) (by omega) _).mono ?_
        rw [hval.out, ← HI.out, HU.out]
        rintro e w' ⟨rfl, rfl⟩
        go_wp2_with fail
        refine (l1Valuation_any b P b0 b1 b2 (by omega) (by omega) _).mono ?_
        rw [hval.out, ← HJ.out, HV.out]
        rintro e w' ⟨rfl, rfl⟩
        go_wp2_with (first | (go_at_call 90; refine (l3Half_any _ (by omega) (by omega) _).mono ?_; rw [← HH.out]; rintro e w' ⟨rfl, rfl⟩) | (go_at_call 81; refine (l1Residue_any _ _ (by omega) (by omega) (by omega) (by omega) _).mono ?_; (first | rw [HR.out] | rw [HT.out]); rintro e w' ⟨rfl, rfl⟩))
        go_ret
        exact ⟨retI HK.out.symm, rfl⟩
      · have Ti : ((i : Int) % 2 == 1) = false := by rw [beq_eq_false_iff_ne]; omega
        have HK : Hid (symV a b (P : Int) = H * R) := hid (by rw [HFIN.out, if_pos hjo, if_neg hio, Int.mul_one])
        clear hjo hio
        go_enter Try.func82, Try.ntmps82
        go_wp2_with fail
        refine (l1Valuation_any a P a0 a1 a2 (by omega) (by omega) _).mono ?_
        rw [hval.out, ← HI.out, HU.out]
        rintro e w' ⟨rfl, rfl⟩
        go_wp2_with fail
        refine (l1Valuation_any b P b0 b1 b2 (by omega) (by omega) _).mono ?_
        rw [hval.out, ← HJ.out, HV.out]
        rintro e w' ⟨rfl, rfl⟩
        go_wp2_with (first | (go_at_call 90; refine (l3Half_any _ (by omega) (by omega) _).mono ?_; rw [← HH.out]; rintro e w' ⟨rfl, rfl⟩) | (go_at_call 81; refine (l1Residue_any _ _ (by omega) (by omega) (by omega) (by omega) _).mono ?_; (first | rw [HR.out] | rw [HT.out]); rintro e w' ⟨rfl, rfl⟩))
        go_ret
        exact ⟨retI HK.out.symm, rfl⟩
    · have Tj : ((j : Int) % 2 == 1) = false := by rw [beq_eq_false_iff_ne]; omega
      by_cases hio : i % 2 = 1
      · have Ti : ((i : Int) % 2 == 1) = true := by rw [beq_iff_eq]; omega
        have HK : Hid (symV a b (P : Int) = H * T) := hid (by rw [HFIN.out, if_neg hjo, if_pos hio, Int.mul_one])
        clear hjo hio
        go_enter Try.func82, Try.ntmps82
        go_wp2_with fail
        refine (l1Valuation_any a P a0 a1 a2 (by omega) (by omega) _).mono ?_
        rw [hval.out, ← HI.out, HU.out]
        rintro e w' ⟨rfl, rfl⟩
        go_wp2_with fail
        refine (l1Valuation_any b P b0 b1 b2 (by omega) (by omega) _).mono ?_
        rw [hval.out, ← HJ.out, HV.out]
        rintro e w' ⟨rfl, rfl⟩
        go_wp2_with (first | (go_at_call 90; refine (l3Half_any _ (by omega) (by omega) _).mono ?_; rw [← HH.out]; rintro e w' ⟨rfl, rfl⟩) | (go_at_call 81; refine (l1Residue_any _ _ (by omega) (by omega) (by omega) (by omega) _).mono ?_; (first | rw [HR.out] | rw [HT.out]); rintro e w' ⟨rfl, rfl⟩))
        go_ret
        exact ⟨retI HK.out.symm, rfl⟩
      · have Ti : ((i : Int) % 2 == 1) = false := by rw [beq_eq_false_iff_ne]; omega
        have HK : Hid (symV a b (P : Int) = H) := hid (by rw [HFIN.out, if_neg hjo, if_neg hio, Int.mul_one, Int.mul_one])
        clear hjo hio
        go_enter Try.func82, Try.ntmps82
        go_wp2_with fail
        refine (l1Valuation_any a P a0 a1 a2 (by omega) (by omega) _).mono ?_
        rw [hval.out, ← HI.out, HU.out]
        rintro e w' ⟨rfl, rfl⟩
        go_wp2_with fail
        refine (l1Valuation_any b P b0 b1 b2 (by omega) (by omega) _).mono ?_
        rw [hval.out, ← HJ.out, HV.out]
        rintro e w' ⟨rfl, rfl⟩
        go_wp2_with (first | (go_at_call 90; refine (l3Half_any _ (by omega) (by omega) _).mono ?_; rw [← HH.out]; rintro e w' ⟨rfl, rfl⟩) | (go_at_call 81; refine (l1Residue_any _ _ (by omega) (by omega) (by omega) (by omega) _).mono ?_; (first | rw [HR.out] | rw [HT.out]); rintro e w' ⟨rfl, rfl⟩))
        go_ret
        exact ⟨retI HK.out.symm, rfl⟩

end Go.Proofs.Ytciajpimpjpnfac

/-! Sym2 -/
set_option linter.unusedVariables false
namespace Go.Proofs.Ytciajpimpjpnfac
open Go.RowKit

/-- the kind of a place: the real one, 2, a prime 1 more than a multiple of 4, another odd prime -/
def kOf (q : Int) : Nat := if q = 0 then 0 else if q = 2 then 1 else if (q - 1) / 2 % 2 = 0 then 2 else 3
def listK (k : Nat) : List (Nat × Int) := if k = 0 then [(0, 1), (0, -1)] else if k = 1 then [(0, 1), (0, 3), (0, 5), (0, 7), (1, 1), (1, 3), (1, 5), (1, 7)] else [(0, 1), (0, -1), (1, 1), (1, -1)]
def combK (k : Nat) (a b : Nat × Int) : Nat × Int := ((a.1 + b.1) % 2, if k = 1 then a.2 * b.2 % 8 else a.2 * b.2)
def symK (k : Nat) (c d : Nat × Int) : Int :=
  if k = 0 then (if c.2 = -1 ∧ d.2 = -1 then -1 else 1)
  else if k = 1 then halfI ((c.2 - 1) / 2 * ((d.2 - 1) / 2) + (c.1 : Int) * ((d.2 * d.2 - 1) / 8) + (d.1 : Int) * ((c.2 * c.2 - 1) / 8))
  else halfI ((c.1 : Int) * (d.1 : Int) * ((k : Int) - 2)) * (if d.1 = 1 then c.2 else 1) * (if c.1 = 1 then d.2 else 1)
def minusK (k : Nat) : Nat × Int := if k = 1 then (0, 7) else if k = 2 then (0, 1) else (0, -1)
theorem kOf_lt (q : Int) : kOf q < 4 := by unfold kOf; split; (· decide); (· split; (· decide); (· split <;> decide))
theorem kOf_zero (q : Int) : kOf q = 0 ↔ q = 0 := by
  unfold kOf; split
  · simp [*]
  · split
    · simp [*]
    · split <;> simp [*]
theorem kOf_one (q : Int) : kOf q = 1 ↔ q = 2 := by
  unfold kOf; split
  · constructor
    · intro h; cases h
    · intro h; omega
  · split
    · simp [*]
    · split <;> simp [*]
theorem clsList_k (q : Int) : clsList q = listK (kOf q) := by
  unfold clsList listK
  by_cases h0 : q = 0
  · rw [if_pos h0, if_pos ((kOf_zero q).2 h0)]
  · rw [if_neg h0, if_neg (fun h => h0 ((kOf_zero q).1 h))]
    by_cases h2 : q = 2
    · rw [if_pos h2, if_pos ((kOf_one q).2 h2)]
    · rw [if_neg h2, if_neg (fun h => h2 ((kOf_one q).1 h))]
theorem comb_k (q : Int) : comb q = combK (kOf q) := by
  funext a b
  unfold comb combK
  by_cases h2 : q = 2
  · rw [if_pos h2, if_pos ((kOf_one q).2 h2)]
  · rw [if_neg h2, if_neg (fun h => h2 ((kOf_one q).1 h))]
theorem sym_k (q : Int) (c d : Nat × Int) : symC q c d = symK (kOf q) c d := by
  unfold symC symK
  by_cases h0 : q = 0
  · rw [if_pos h0, if_pos ((kOf_zero q).2 h0)]
  · rw [if_neg h0, if_neg (fun h => h0 ((kOf_zero q).1 h))]
    by_cases h2 : q = 2
    · rw [if_pos h2, if_pos ((kOf_one q).2 h2)]
    · rw [if_neg h2, if_neg (fun h => h2 ((kOf_one q).1 h))]
      congr 2
      refine halfI_congr ?_
      rw [Int.mul_emod, Int.mul_emod _ ((kOf q : Int) - 2)]
      congr 2
      unfold kOf
      rw [if_neg h0, if_neg h2]
      split
      · next h => rw [h]; rfl
      · next h => rw [show (q - 1) / 2 % 2 = 1 by omega]; rfl

theorem K_all {Q : Nat → (Nat × Int) → (Nat × Int) → (Nat × Int) → Bool} (h : (List.range 4).all (fun k => (listK k).all (fun c => (listK k).all (fun d => (listK k).all (fun e => Q k c d e)))) = true)
    {q : Int} {c d e : Nat × Int} (hc : c ∈ clsList q) (hd : d ∈ clsList q) (he : e ∈ clsList q) : Q (kOf q) c d e = true := by
  rw [clsList_k] at hc hd he
  have h1 := List.all_eq_true.1 h (kOf q) (List.mem_range.2 (kOf_lt q))
  exact List.all_eq_true.1 (List.all_eq_true.1 (List.all_eq_true.1 h1 c hc) d hd) e he

theorem sym_val {q : Int} {c d : Nat × Int} (hc : c ∈ clsList q) (hd : d ∈ clsList q) : symC q c d = 1 ∨ symC q c d = -1 := by
  rw [sym_k]
  have := K_all (Q := fun k c d _ => symK k c d == 1 || symK k c d == -1) (by decide +kernel) hc hd hd
  rw [Bool.or_eq_true, beq_iff_eq, beq_iff_eq] at this
  exact this
theorem sym_comm {q : Int} {c d : Nat × Int} (hc : c ∈ clsList q) (hd : d ∈ clsList q) : symC q c d = symC q d c := by
  rw [sym_k, sym_k]
  have := K_all (Q := fun k c d _ => symK k c d == symK k d c) (by decide +kernel) hc hd hd
  exact beq_iff_eq.1 this
theorem sym_mul {q : Int} {c d e : Nat × Int} (hc : c ∈ clsList q) (hd : d ∈ clsList q) (he : e ∈ clsList q) : symC q c (comb q d e) = symC q c d * symC q c e := by
  rw [sym_k, sym_k, sym_k, comb_k]
  have := K_all (Q := fun k c d e => symK k c (combK k d e) == symK k c d * symK k c e) (by decide +kernel) hc hd he
  exact beq_iff_eq.1 this
theorem sym_one {q : Int} {c : Nat × Int} (hc : c ∈ clsList q) : symC q c (0, 1) = 1 := by
  rw [sym_k]
  have := K_all (Q := fun k c _ _ => symK k c (0, 1) == 1) (by decide +kernel) hc hc hc
  exact beq_iff_eq.1 this
theorem sym_minus {q : Int} {c : Nat × Int} (hc : c ∈ clsList q) : symC q c (comb q (minusK (kOf q)) c) = 1 := by
  rw [sym_k, comb_k]
  have := K_all (Q := fun k c _ _ => symK k c (combK k (minusK k) c) == 1) (by decide +kernel) hc hc hc
  exact beq_iff_eq.1 this

theorem pwm {P : Nat} (h : 2 ≤ P) : ∀ k, pw (P - 1) k P = if k % 2 = 0 then 1 else P - 1
  | 0 => by unfold pw; rw [Nat.pow_zero, Nat.mod_eq_of_lt (by omega)]; rfl
  | k + 1 => by
    rw [pw_succ, pwm h k]
    by_cases e : k % 2 = 0
    · rw [if_pos e, if_neg (by omega), Nat.one_mul, Nat.mod_eq_of_lt (by omega)]
    · rw [if_neg e, if_pos (by omega)]
      obtain ⟨q, rfl⟩ : ∃ q, P = q + 2 := ⟨P - 2, by omega⟩
      have e2 : (q + 2 - 1) * (q + 2 - 1) = 1 + (q + 2) * q := by
        rw [show q + 2 - 1 = q + 1 by omega]
        simp only [Nat.add_mul, Nat.mul_add]
        omega
      rw [e2, Nat.add_mul_mod_self_left, Nat.mod_eq_of_lt (show 1 < q + 2 by omega)]
theorem cls_minus {q : Int} (hq : plI q = true) : cls (-1) q = minusK (kOf q) := by
  rcases plI_cases hq with rfl | rfl | ⟨P, rfl, hP, h3, h5⟩
  · rfl
  · decide
  · have hd : ¬ P ∣ (-1 : Int).natAbs := by
      intro hd
      have := Nat.le_of_dvd (by decide) hd
      have : (-1 : Int).natAbs = 1 := rfl
      omega
    have hodd : P % 2 = 1 := by
      have := primeN_no hP (Nat.le_refl 2)
      by_cases h : P % 2 = 0
      · exact absurd h (this (by omega))
      · omega
    obtain ⟨a, b⟩ := unit_self hP hd (by decide)
    rw [cls_odd h3, a, b]
    have em : ((-1 : Int) % (P : Int)).toNat = P - 1 := by
      have : (-1 : Int) % (P : Int) = (P : Int) - 1 := by
        rw [← Int.add_emod_right (-1) (P : Int), Int.emod_eq_of_lt (by omega) (by omega)]; omega
      rw [this]; omega
    rw [em]
    by_cases h4 : (P - 1) / 2 % 2 = 0
    · have hk : kOf (P : Int) = 2 := by unfold kOf; rw [if_neg (by omega), if_neg (by omega), if_pos (by omega)]
      rw [hk]
      unfold resN
      rw [pwm (by omega), if_pos h4, if_neg (by omega)]
      rfl
    · have hk : kOf (P : Int) = 3 := by unfold kOf; rw [if_neg (by omega), if_neg (by omega), if_neg (by omega)]
      rw [hk]
      unfold resN
      rw [pwm (by omega), if_neg h4, if_pos rfl]
      rfl
theorem minus_mem {q : Int} (hq : plI q = true) : minusK (kOf q) ∈ clsList q := by rw [← cls_minus hq]; exact cls_mem (by decide) hq

/-- numbers -/
theorem symV_val {a b q : Int} (ha : a ≠ 0) (hb : b ≠ 0) (hq : plI q = true) : symV a b q = 1 ∨ symV a b q = -1 := sym_val (cls_mem ha hq) (cls_mem hb hq)
theorem symV_comm {a b q : Int} (ha : a ≠ 0) (hb : b ≠ 0) (hq : plI q = true) : symV a b q = symV b a q := sym_comm (cls_mem ha hq) (cls_mem hb hq)
theorem symV_mul {a b c q : Int} (ha : a ≠ 0) (hb : b ≠ 0) (hc : c ≠ 0) (hq : plI q = true) : symV a (b * c) q = symV a b q * symV a c q := by
  unfold symV
  rw [cls_mul hb hc hq]
  exact sym_mul (cls_mem ha hq) (cls_mem hb hq) (cls_mem hc hq)
theorem symV_minus {a q : Int} (ha : a ≠ 0) (hq : plI q = true) : symV a (-a) q = 1 := by
  unfold symV
  rw [show -a = -1 * a by omega, cls_mul (by decide) ha hq, cls_minus hq]
  exact sym_minus (cls_mem ha hq)
theorem symV_congr {a b c d q : Int} (h1 : cls a q = cls c q) (h2 : cls b q = cls d q) : symV a b q = symV c d q := by unfold symV; rw [h1, h2]
theorem symV_sq {a b q : Int} (ha : a ≠ 0) (hq : plI q = true) (h : sqAt b q = true) : symV a b q = 1 := by
  unfold symV sqAt at *
  rw [beq_iff_eq] at h
  rw [h]
  exact sym_one (cls_mem ha hq)

end Go.Proofs.Ytciajpimpjpnfac

/-! PlacesG -/
set_option linter.unusedVariables false
namespace Go.Proofs.Ytciajpimpjpnfac
open Go.RowKit

def placesG (n : Int) : List Int := [0, 2] ++ (natsI (plistG n.natAbs)).filter (fun x => decide (2 < x))
theorem asc_len : ∀ (l : List Nat) (a b : Nat), l.Pairwise (· < ·) → (∀ x ∈ l, a ≤ x ∧ x ≤ b) → l.length ≤ b + 1 - a
  | [], a, b, _, _ => Nat.zero_le _
  | x :: t, a, b, h, hx => by
    rw [List.pairwise_cons] at h
    have h1 := hx x List.mem_cons_self
    have := asc_len t (a + 1) b h.2 (fun y hy => ⟨by have := h.1 y hy; omega, (hx y (List.mem_cons_of_mem _ hy)).2⟩)
    rw [List.length_cons]
    omega
theorem plistG_ok {n : Int} (h0 : n ≠ 0) (h1 : -1000000000000 ≤ n) (h2 : n ≤ 1000000000000) : (plistG n.natAbs).length ≤ 1000000000000 ∧ ∀ x ∈ plistG n.natAbs, x ≤ 1000000000000 := by
  obtain ⟨a, b, c⟩ := plistG_spec (show 0 < n.natAbs by omega)
  have hb : ∀ x ∈ plistG n.natAbs, 1 ≤ x ∧ x ≤ 1000000000000 := fun x hx => by
    have h3 := Nat.le_of_dvd (show 0 < n.natAbs by omega) (a x hx).2
    have h4 := (a x hx).1.1
    omega
  refine ⟨?_, fun x hx => (hb x hx).2⟩
  have := asc_len _ _ _ b hb
  omega

set_option maxRecDepth 100000 in
set_option maxHeartbeats 1000000 in
theorem l2PlacesG_any (n : Int) (h0 : n ≠ 0) (h1 : -1000000000000 ≤ n) (h2 : n ≤ 1000000000000) (w : World) :
    Calls Try.prog 32 #[.int .i64 n] w fun e w' => ∃ v, e = .returned v ∧ Owns w' w.heap.size v (placesG n) ∧ Below w.heap.size w w' := by
  obtain ⟨i0, hi, hz0, hz1, hz2⟩ := info_parts infoInt
  have H0 := hid h0
  have HP : Hid (placesG n = [0, 2] ++ (natsI (plistG n.natAbs)).filter (fun x => decide (2 < x))) := rfl
  have hpl := (plistG_ok h0 h1 h2).1
  have HPP := hid (plistG_ok h0 h1 h2).2
  have HB0 := hid ((Below.refl w.heap.size w).alloc (Nat.le_refl _) (.cells #[.int .i64 0, .int .i64 2] 3))
  have HO0 := hid (owns_lit (W := w) (B := w.heap.size) [0, 2] #[.int .i64 0, .int .i64 2] rfl (Nat.le_refl _) (by unfold maxLen; simp))
  clear h0
  go_enter Try.func32, Try.ntmps32
  go_wp2_with (go_at_call 63; refine (l1PrimesG_any _ H0.out h1 h2 _).mono ?_; rintro e w2 ⟨v, rfl, ho, hb⟩)
  have hs0 := hb.size
  rw [World.size_alloc] at hs0
  have HO1 := hid (HO0.out.keep HO0.out.lt hb)
  have HB1 := hid (HB0.out.trans (hb.mono (by simp)))
  have HG := hid ho.ge
  obtain ⟨ps, hps⟩ : ∃ ps, ps = plistG n.natAbs := ⟨_, rfl⟩
  rw [← hps] at ho hpl HP HPP
  obtain ⟨a, cap, rfl, hform⟩ := ho.rd.form
  have HF := hid hform
  have hnl : (natsI ps).length ≤ 1000000000000 := by unfold natsI; rw [List.length_map]; exact hpl
  have HLT := hid ho.lt
  clear ho hform hb hps
  go_wp2_with fail
  go_loopw [3, 5] (fun so si wr => ∃ K : Nat, si = .int .i64 K ∧ K ≤ (natsI ps).length ∧ Hid (Owns wr w.heap.size so ([0, 2] ++ ((natsI ps).take K).filter (fun x => decide (2 < x)))) ∧
      Hid (∀ b o, a = some ⟨b, o, none⟩ → so.ownBlock ≠ some b ∧ wr.heap[b]? = w2.heap[b]?) ∧ w2.heap.size ≤ wr.heap.size ∧ Hid (Below w.heap.size w wr)) (fun _ si _ => (natsI ps).length - (intOf si).toNat)
  case atStart =>
    refine ⟨0, rfl, by omega, hid (by simpa using HO1.out), hid (fun b o e => ⟨?_, rfl⟩), Nat.le_refl _, HB1⟩
    have := HG.out b (by rw [e]; rfl)
    simp only [World.size_alloc] at this
    show some w.heap.size ≠ some b
    intro h
    cases h
    omega
  case round =>
    obtain ⟨K, rfl, hK, HO, HA, hsz, HB⟩ := hrel
    by_cases hlt : K < (natsI ps).length
    · obtain ⟨b, o, rfl, hml, hc⟩ := HF.out (by omega)
      obtain ⟨x, hx, hxm⟩ := natsI_get hlt
      have hx2 := HPP.out x hxm
      have hcell := (World.cell?_of_block (HA.out b o rfl).2).trans (hc K hlt)
      rw [hx] at hcell
      have hstep := filter_step (f := fun x => decide (2 < x)) hlt
      rw [hx] at hstep
      have HS := hid hstep
      have HL := hid (filter_len (f := fun x => decide (2 < x)) (show K ≤ (natsI ps).length by omega))
      have hi0 : (K : Int) < ((natsI ps).length : Int) := by omega
      have hlt2 := HLT.out b rfl
      unfold maxLen at hml
      clear hc hx hxm hstep
      by_cases hx3 : 2 < (x : Int)
      · have HE : Hid (((natsI ps).take (K + 1)).filter (fun x => decide (2 < x)) = ((natsI ps).take K).filter (fun x => decide (2 < x)) ++ [(x : Int)]) := hid (by rw [HS.out, decide_eq_true hx3]; rfl)
        obtain ⟨pre, hpre⟩ : ∃ pre, pre = [0, 2] ++ ((natsI ps).take K).filter (fun x => decide (2 < x)) := ⟨_, rfl⟩
        have hprel : pre.length ≤ 1000000000002 := by rw [hpre, List.length_append]; have := HL.out; simp; omega
        rw [← hpre] at HO
        have hbs : w.heap.size ≤ wr.heap.size := HB.out.size
        go_wp2_with (at_builtin; refine wpList_append_own_at _ rfl _ _ 22 rfl w.heap.size 3 i0 (.int .i64 0) 1 8 Try.underlying22 hi hz0 hz1 hz2 rfl (by decide) _ _ _ rfl ((show World.ownsRow _ _ _ _ _ _ _ from HO.out).alloc _) ⟨wr.heap.size, 0, none⟩ 1 1 [.int .i64 x] rfl rfl (cell_one_new _ _ _) (by simp [Value.oneCell']) (by unfold maxLen; omega) (by omega) (by simp; omega) ?_; intro v' w3 hown' hgrow _ hat)
        have hsg := hgrow.size
        simp only [World.size_alloc] at hsg
        go_round
        case measure => simp only [intOf]; omega
        case rel =>
          refine ⟨K + 1, by go_num, by omega, hid ?_, hid (fun b' o' e => ?_), by omega, hid (HB.out.alloc hbs _ |>.grown hgrow (by simp; omega) (fun k e => (HO.out.ge k e)))⟩
          · rw [HE.out, ← List.append_assoc, ← hpre]
            unfold Owns
            simpa using hown'
          · cases e
            obtain ⟨q1, q2⟩ := HA.out b o rfl
            refine ⟨?_, ?_⟩
            · rcases hat with e | e
              · rw [e]; exact q1
              · rw [e]; intro h; cases h; simp at hlt2; omega
            · rw [hgrow.block b (by simp; omega) (Ne.symm q1), ← q2, Below.heap_alloc _ _ _ (by omega)]
      · have HE : Hid (((natsI ps).take (K + 1)).filter (fun x => decide (2 < x)) = ((natsI ps).take K).filter (fun x => decide (2 < x))) := hid (by rw [HS.out, decide_eq_false hx3]; simp)
        go_wp2
        go_round
        case measure => simp only [intOf]; omega
        case rel => exact ⟨K + 1, by go_num, by omega, hid (by rw [HE.out]; exact HO.out), HA, hsz, HB⟩
    · obtain rfl : K = (natsI ps).length := by omega
      have HE : Hid (placesG n = [0, 2] ++ ((natsI ps).take (natsI ps).length).filter (fun x => decide (2 < x))) := hid (by rw [HP.out, List.take_length])
      clear hlt
      go_wp2
      go_ret
      exact ⟨_, rfl, by rw [HE.out]; exact HO.out, HB.out⟩

theorem primeGo_of : ∀ f p n, (∀ d, p ≤ d → d * d ≤ n → n % d ≠ 0) → primeGo f p n = true
  | 0, _, _, _ => rfl
  | f + 1, p, n, h => by
    unfold primeGo
    by_cases h1 : p * p ≤ n
    · rw [if_pos h1, if_neg (h p (Nat.le_refl _) h1)]
      exact primeGo_of f (p + 1) n (fun d hd hdd => h d (by omega) hdd)
    · rw [if_neg h1]
theorem prG_primeN {x : Nat} (h : PrG x) (h5 : x ≤ 5000) : primeN x = true := by
  unfold primeN
  rw [decide_eq_true h.1, decide_eq_true h5, primeGo_of]
  · rfl
  · intro d hd hdd hm
    have h1 := h.1
    rcases h.2 d (Nat.dvd_of_mod_eq_zero hm) with e | e
    · omega
    · rw [e] at hdd
      have := Nat.mul_le_mul h1 (Nat.le_refl x)
      omega
theorem primeN_prG {x : Nat} (h : primeN x = true) : PrG x := ⟨(primeN_bd h).1, fun d hd => primeN_dvd h hd⟩
theorem prG_mul {x a b : Nat} (h : PrG x) (hd : x ∣ a * b) : x ∣ a ∨ x ∣ b := by
  by_cases hc : Nat.Coprime x a
  · exact .inr (hc.dvd_of_dvd_mul_left hd)
  · left
    have h1 := h.2 _ (Nat.gcd_dvd_left x a)
    rcases h1 with e | e
    · exact absurd e hc
    · rw [← e]; exact Nat.gcd_dvd_right x a
/-- the places of a product of two numbers are places -/
theorem placesG_pl {a b : Int} (a0 : a ≠ 0) (b0 : b ≠ 0) (a1 : -5000 ≤ a) (a2 : a ≤ 5000) (b1 : -5000 ≤ b) (b2 : b ≤ 5000) : ∀ q ∈ placesG (a * b), plI q = true := by
  have hab := Int.mul_ne_zero a0 b0
  obtain ⟨s1, _, _⟩ := plistG_spec (show 0 < (a * b).natAbs by omega)
  intro q hq
  unfold placesG at hq
  simp only [List.cons_append, List.nil_append, List.mem_cons] at hq
  rcases hq with rfl | rfl | hq
  · rfl
  · rfl
  · have hm := (List.mem_filter.1 hq).1
    unfold natsI at hm
    rw [List.mem_map] at hm
    obtain ⟨x, hx, rfl⟩ := hm
    obtain ⟨p1, p2⟩ := s1 x hx
    rw [Int.natAbs_mul] at p2
    have h5 : x ≤ 5000 := by
      rcases prG_mul p1 p2 with h | h
      · have := Nat.le_of_dvd (show 0 < a.natAbs by omega) h; omega
      · have := Nat.le_of_dvd (show 0 < b.natAbs by omega) h; omega
    unfold plI
    rw [show primeI (x : Int) = true from prG_primeN p1 h5, Bool.or_true]

end Go.Proofs.Ytciajpimpjpnfac
