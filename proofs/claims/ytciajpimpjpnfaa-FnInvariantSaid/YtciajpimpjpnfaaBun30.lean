/-
  Some texts in one file: FmProd ImpA.
-/
import Derived.Test.YtciajpimpjpnfaaFmSame
import Derived.Test.YtciajpimpjpnfaaFmCls
import Derived.Test.YtciajpimpjpnfaaProd
import Derived.Test.YtciajpimpjpnfaaBun8
import Derived.Test.YtciajpimpjpnfaaRes2
import Derived.Laws.StructEq
import Derived.Laws.ResultCell
/-! FmProd -/
set_option linter.unusedVariables false
namespace Go.Proofs.Ytciajpimpjpnfaa
open Go.RowKit

def prodG (g : Int → Int) : List Int → Int
  | [] => 1
  | q :: t => g q * prodG g t
theorem prodG_half {g : Int → Int} : ∀ l : List Int, (∀ q ∈ l, g q = 1 ∨ g q = -1) → prodG g l = halfI ((l.filter (fun q => decide (g q = -1))).length : Nat)
  | [], _ => rfl
  | q :: t, h => by
    have ih := prodG_half t (fun x hx => h x (List.mem_cons_of_mem _ hx))
    unfold prodG
    rw [ih]
    rcases h q List.mem_cons_self with e | e
    · rw [e, List.filter_cons_of_neg (by rw [e]; decide), Int.one_mul]
    · rw [e, List.filter_cons_of_pos (by rw [e]; decide), List.length_cons]
      unfold halfI
      split <;> split <;> omega
theorem prodG_mul (f g : Int → Int) : ∀ l : List Int, prodG (fun q => f q * g q) l = prodG f l * prodG g l
  | [] => rfl
  | q :: t => by
    show f q * g q * prodG (fun q => f q * g q) t = f q * prodG f t * (g q * prodG g t)
    rw [prodG_mul f g t]
    simp only [Int.mul_assoc, Int.mul_left_comm]
theorem prodG_sym (a b : Int) : ∀ l : List Int, prodG (fun q => symV a b q) l = prodS a b l
  | [] => rfl
  | q :: t => by show symV a b q * _ = symV a b q * _; rw [prodG_sym a b t]
theorem places_in_plc {n : Int} (hs : Smooth n) {q : Int} (hq : q ∈ placesG n) : q ∈ plcL := by
  obtain ⟨s1, _, _⟩ := plistG_spec (show 0 < n.natAbs by have := hs.1; omega)
  unfold placesG at hq
  simp only [List.cons_append, List.nil_append, List.mem_cons] at hq
  rcases hq with rfl | rfl | hq
  · decide
  · decide
  · have hm := (List.mem_filter.1 hq).1
    unfold natsI at hm
    rw [List.mem_map] at hm
    obtain ⟨x, hx, rfl⟩ := hm
    obtain ⟨p1, p2⟩ := s1 x hx
    have := prime_gen p1 (hs.2 x p1 p2)
    unfold genL at this
    rcases List.mem_cons.1 this with e | h
    · omega
    · exact List.mem_cons_of_mem _ h
theorem places_filter {n : Int} (hs : Smooth n) {g : Int → Int} (h : ∀ q, plI q = true → q ∉ placesG n → g q = 1) : (placesG n).filter (fun q => decide (g q = -1)) = plcL.filter (fun q => decide (g q = -1)) := by
  refine asc_eq _ _ (List.Pairwise.filter _ (placesG_asc hs.1)) (List.Pairwise.filter _ plc_asc) fun q => ?_
  rw [List.mem_filter, List.mem_filter]
  constructor
  · rintro ⟨hq, hg⟩
    exact ⟨places_in_plc hs hq, hg⟩
  · rintro ⟨hq, hg⟩
    refine ⟨?_, hg⟩
    by_cases hm : q ∈ placesG n
    · exact hm
    · have := of_decide_eq_true hg
      rw [h q (plc_pl q hq) hm] at this
      cases this
theorem half_even2 {n : Nat} (h : halfI (n : Int) = 1) : n % 2 = 0 := by
  unfold halfI at h
  by_cases e : (n : Int) % 2 = 0
  · omega
  · rw [if_neg e] at h; cases h

def SmallT (xs : List Int) : Prop := ∀ x ∈ xs, x ≠ 0 ∧ -30 ≤ x ∧ x ≤ 30
theorem small_smooth {xs : List Int} (h : SmallT xs) : Smooth (prodI xs) :=
  ⟨prodI_ne fun x hx => (h x hx).1, fun p hp hd => by have := (small_prime h hp hd).1; omega⟩
theorem term_smooth {x : Int} (h : x ≠ 0 ∧ -30 ≤ x ∧ x ≤ 30) : Smooth x :=
  ⟨h.1, fun p hp hd => by have := Nat.le_of_dvd (by omega) hd; omega⟩
theorem neg_smooth {n : Int} (h : Smooth n) : Smooth (-n) := ⟨by have := h.1; omega, fun p hp hd => h.2 p hp (by rwa [Int.natAbs_neg] at hd)⟩
theorem prod_has : ∀ {xs : List Int}, SmallT xs → prodG (fun q => hasC q xs) plcL = 1
  | [], _ => by decide
  | x :: xs, h => by
    have ht : SmallT xs := fun y hy => h y (List.mem_cons_of_mem _ hy)
    show prodG (fun q => symV x (prodI xs) q * hasC q xs) plcL = 1
    rw [prodG_mul, prodG_sym, prod_all (term_smooth (h x (List.mem_cons_self ..))) (small_smooth ht), prod_has ht]
    rfl
theorem away_units {n q : Int} (hn : n ≠ 0) (hq : plI q = true) (hm : q ∉ placesG n) : ∃ P : Nat, q = (P : Int) ∧ primeN P = true ∧ 3 ≤ P ∧ ¬ (P : Int) ∣ n := by
  rcases plI_cases hq with rfl | rfl | ⟨P, rfl, hP, h3, h5⟩
  · exact absurd (by unfold placesG; simp) hm
  · exact absurd (by unfold placesG; simp) hm
  · refine ⟨P, rfl, hP, h3, fun hd => hm ?_⟩
    obtain ⟨_, _, s3⟩ := plistG_spec (show 0 < n.natAbs by omega)
    unfold placesG
    simp only [List.cons_append, List.nil_append, List.mem_cons]
    right; right
    refine List.mem_filter.2 ⟨?_, decide_eq_true (by omega)⟩
    unfold natsI
    exact List.mem_map.2 ⟨P, s3 P (primeN_prG hP) (Int.ofNat_dvd_left.1 hd), rfl⟩
theorem has_away {xs : List Int} (h : SmallT xs) {q : Int} (hq : plI q = true) (hm : q ∉ placesG (prodI xs)) : hasC q xs = 1 := by
  obtain ⟨P, rfl, hP, h3, hnd⟩ := away_units (prodI_ne fun x hx => (h x hx).1) hq hm
  exact hasC_units hP h3 fun x hx hd => hnd (dvd_term hx hd)
/-- INVARIANTS ARE -1 AT AN EVEN NUMBER OF PLACES -/
theorem has_even {xs : List Int} (h : SmallT xs) : ((placesG (prodI xs)).filter (fun q => decide (hasC q xs = -1))).length % 2 = 0 := by
  rw [places_filter (g := fun q => hasC q xs) (small_smooth h) (fun q hq hm => has_away h hq hm)]
  refine half_even2 ?_
  rw [← prodG_half (g := fun q => hasC q xs) plcL (fun q hq => hasC_pm (plc_pl q hq) fun x hx => (h x hx).1)]
  exact prod_has h

/-- three terms: bad exactly where two signs differ -/
def badG (xs : List Int) (q : Int) : Int := hasC q xs * symV (-1) (-(prodI xs)) q
theorem three_zero : (allL 0 3).all (fun cs => vanK 0 cs == (hasK 0 cs == symK 0 (minusK 0) (combK 0 (minusK 0) (prodK 0 cs)))) = true := by decide +kernel
theorem bad_sign {xs : List Int} (h : NZ xs) (hl : xs.length = 3) {q : Int} (hq : plI q = true) : (!vanB xs q) = decide (badG xs q = -1) := by
  have hp := h.prod
  have hm1 : symV (-1) (-(prodI xs)) q = symK (kOf q) (minusK (kOf q)) (combK (kOf q) (minusK (kOf q)) (prodK (kOf q) (xs.map (cls · q)))) := by
    unfold symV
    rw [sym_k, cls_minus hq, cls_neg hp hq, prodK_eq hq h]
  have hv : vanB xs q = (hasC q xs == symV (-1) (-(prodI xs)) q) := by
    rw [vanB_k hq h (by omega) (by omega), hm1, hasK_eq hq h]
    by_cases h0 : kOf q = 0
    · have := List.all_eq_true.1 three_zero (xs.map (cls · q)) (by
        have hm := mem_allL (cls_all hq h)
        rw [h0, List.length_map, hl] at hm
        exact hm)
      rw [h0]
      exact beq_iff_eq.1 this
    · unfold vanK
      rw [if_neg h0, List.length_map, hl, if_neg (by decide), if_neg (by decide), if_pos rfl]
  rw [hv]
  unfold badG
  rcases hasC_pm hq h with e | e <;> rcases symV_val (a := -1) (b := -(prodI xs)) (by decide) (by omega) hq with f | f <;> rw [e, f] <;> decide
theorem bad_even {xs : List Int} (hf : fvB xs = true) (hl : xs.length = 3) : (badL xs).length % 2 = 0 := by
  have h := (fvB_iff.1 hf).1
  have hz := fv_nz hf
  have e : badL xs = (placesG (prodI xs)).filter (fun q => decide (badG xs q = -1)) := by
    unfold badL fplL
    rw [hf, if_pos rfl]
    exact List.filter_congr fun q hq => bad_sign hz hl (places_fv hf q hq)
  rw [e, places_filter (g := badG xs) (small_smooth h) (fun q hq hm => by
    obtain ⟨P, rfl, hP, h3, hnd⟩ := away_units hz.prod hq hm
    unfold badG
    rw [hasC_units hP h3 fun x hx hd => hnd (dvd_term hx hd), sym_units hP h3 (fun hd => by
      have := Int.le_of_dvd (by decide) ((Int.dvd_neg (b := 1)).1 hd); omega) (fun hd => hnd (Int.dvd_neg.1 hd))]
    rfl)]
  refine half_even2 ?_
  rw [← prodG_half (g := badG xs) plcL (fun q hq => pm_mul (hasC_pm (plc_pl q hq) hz) (symV_val (by decide) (by have := hz.prod; omega) (plc_pl q hq)))]
  unfold badG
  rw [prodG_mul, prodG_sym, prod_has h, prod_all (neg_smooth (term_smooth (x := 1) (by decide))) (neg_smooth (small_smooth h))]
  rfl

end Go.Proofs.Ytciajpimpjpnfaa

/-! ImpA -/
set_option linter.unusedVariables false
namespace Go.Proofs.Ytciajpimpjpnfaa
open Go.RowKit

set_option maxHeartbeats 400000 in
theorem valuation2_any (n p : Int) (h0 : n ≠ 0) (h1 : -1000000000 ≤ n) (h2 : n ≤ 1000000000) (hp : 2 ≤ p) (hp2 : p ≤ 1000000) (w : World) :
    Calls Try.prog 117 #[.int .i64 n, .int .i64 p] w fun e w' => e = .returned (.int .i64 (val n.natAbs p.toNat)) ∧ w = w' := by
  go_enter Try.func117, Try.ntmps117
  go_wp2
  go_loop [5, 6] (fun k l => ∃ (K : Nat) (L : Int), k = .int .i64 K ∧ l = .int .i64 L ∧ L ≠ 0 ∧ -1000000000 ≤ L ∧ L ≤ 1000000000 ∧ K + L.natAbs ≤ n.natAbs ∧ Hid (val L.natAbs p.toNat + K = val n.natAbs p.toNat)) (fun _ l => (intOf l).natAbs)
  case atStart => exact ⟨0, n, rfl, rfl, h0, h1, h2, by omega, hid (by simp)⟩
  case round =>
    obtain ⟨K, L, rfl, rfl, hl0, hl1, hl2, hK, HV⟩ := hrel
    have T := tmod_eqz (L := L) hp
    by_cases hd : L.natAbs % p.toNat = 0
    · rw [decide_eq_true hd] at T
      have hs := hid (val_step (n := L.natAbs) (p := p.toNat) (by omega) (by omega) hd)
      have hA : L.natAbs / p.toNat < L.natAbs := Nat.div_lt_self (by omega) (by omega)
      have hB : 0 < L.natAbs / p.toNat := Nat.div_pos (Nat.le_of_dvd (by omega) (Nat.dvd_of_mod_eq_zero hd)) (by omega)
      have hq : (L.tdiv p).natAbs = L.natAbs / p.toNat := by rw [tdiv_natAbs, show p.natAbs = p.toNat by omega]
      have hq1 : (L.tdiv p).natAbs < L.natAbs := by omega
      have hq2 : L.tdiv p ≠ 0 := by omega
      have hq3 : -1000000000 ≤ L.tdiv p := by omega
      have hq4 : L.tdiv p ≤ 1000000000 := by omega
      have HQ := hid hq
      clear hq hd hA hB
      go_wp2
      go_round
      case rel => exact ⟨K + 1, L.tdiv p, by go_num, rfl, hq2, hq3, hq4, by omega, hid (by rw [HQ.out]; have := hs.out; have := HV.out; omega)⟩
      case measure => simp only [intOf]; omega
    · rw [decide_eq_false hd] at T
      have hs := hid (val_stop hd)
      clear hd
      go_wp2
      go_ret
      exact ⟨retI (by have := hs.out; have := HV.out; omega), rfl⟩

theorem tdiv_tdiv_nat (n : Int) (a b : Nat) : (n.tdiv (a : Int)).tdiv (b : Int) = n.tdiv ((a * b : Nat) : Int) := by
  rcases Int.natAbs_eq n with h | h
  · rw [h, ← Int.ofNat_tdiv, ← Int.ofNat_tdiv, ← Int.ofNat_tdiv, Nat.div_div_eq_div_mul]
  · rw [h, Int.neg_tdiv, Int.neg_tdiv, Int.neg_tdiv, ← Int.ofNat_tdiv, ← Int.ofNat_tdiv, ← Int.ofNat_tdiv, Nat.div_div_eq_div_mul]
theorem tdiv_step (n : Int) {p : Int} (hp : 2 ≤ p) (i : Nat) : (n.tdiv (p ^ i)).tdiv p = n.tdiv (p ^ (i + 1)) := by
  obtain ⟨P, rfl⟩ := Int.eq_ofNat_of_zero_le (show 0 ≤ p by omega)
  have e : ∀ k, ((P : Int) ^ k) = ((P ^ k : Nat) : Int) := fun k => by push_cast; rfl
  rw [e, e, tdiv_tdiv_nat, Nat.pow_succ]

theorem splitAt_any (n p : Int) (h0 : n ≠ 0) (h1 : -1000000000 ≤ n) (h2 : n ≤ 1000000000) (hp : 2 ≤ p) (hp2 : p ≤ 1000000) (w : World) :
    Calls Try.prog 103 #[.int .i64 n, .int .i64 p] w fun e w' => e = .returned (.tuple #[.int .i64 (unitI n p), .int .i64 (val n.natAbs p.toNat)]) ∧ w = w' := by
  have H0 := hid h0
  obtain ⟨V, hV⟩ : ∃ V, V = val n.natAbs p.toNat := ⟨_, rfl⟩
  have hv2 := val_le p.toNat (by omega) _ n.natAbs (Nat.le_refl _)
  have HU : Hid (n.tdiv (p ^ V) = unitI n p) := hid (by rw [hV]; rfl)
  rw [← hV] at hv2
  have HV := hid hV
  clear hV h0
  go_enter Try.func103, Try.ntmps103
  go_wp2_with (go_at_call 117; refine (valuation2_any _ _ H0.out h1 h2 hp hp2 _).mono ?_; rw [← HV.out]; rintro e w' ⟨rfl, rfl⟩)
  go_loop [0, 11] (fun l k => ∃ (K : Nat) (L : Int), k = .int .i64 K ∧ l = .int .i64 L ∧ K ≤ V ∧ -1000000000 ≤ L ∧ L ≤ 1000000000 ∧ Hid (L = n.tdiv (p ^ K))) (fun _ k => V - (intOf k).toNat)
  case atStart => exact ⟨0, n, rfl, rfl, by omega, h1, h2, hid (by rw [Int.pow_zero, Int.tdiv_one])⟩
  case round =>
    obtain ⟨K, L, rfl, rfl, hK, hl1, hl2, HL⟩ := hrel
    by_cases hlt : K < V
    · have hq : (L.tdiv p).natAbs = L.natAbs / p.toNat := by rw [tdiv_natAbs, show p.natAbs = p.toNat by omega]
      have hq5 := Nat.div_le_self L.natAbs p.toNat
      have hq3 : -1000000000 ≤ L.tdiv p := by omega
      have hq4 : L.tdiv p ≤ 1000000000 := by omega
      have hi0 : (K : Int) < (V : Int) := by omega
      have HS := hid (tdiv_step n hp K)
      clear hq hq5
      go_wp2
      go_round
      case rel => exact ⟨K + 1, L.tdiv p, by go_num, rfl, by omega, hq3, hq4, hid (by rw [HL.out, HS.out])⟩
      case measure => simp only [intOf]; omega
    · obtain rfl : K = V := by omega
      clear hlt
      go_wp2
      go_ret2
      exact ⟨ret2 (by rw [HL.out, HU.out]) (by rw [← HV.out]), rfl⟩

theorem odd_beq (V : Nat) : ((V : Int) % 2 == 1) = (V % 2 == 1) := by
  rw [Bool.eq_iff_iff, beq_iff_eq, beq_iff_eq]; omega
def clsT (c : Nat × Int) : Value := .agg #[.bool (c.1 == 1), .int .i64 c.2]

theorem class_any (n q : Int) (h0 : n ≠ 0) (h1 : -1000000000 ≤ n) (h2 : n ≤ 1000000000) (hq : plI q = true) (w : World) :
    Calls Try.prog 78 #[.int .i64 q, .int .i64 n] w fun e w' => e = .returned (clsT (cls n q)) ∧ Below w.heap.size w w' := by
  have H0 := hid h0
  rcases plI_cases hq with rfl | rfl | ⟨P, rfl, hP, h3, h5⟩
  · have hc := cls_zero n
    by_cases h : n < 0
    · rw [if_neg (by omega)] at hc
      have HC := hid hc
      clear hc h0
      go_enter Try.func78, Try.ntmps78
      go_wp2
      refine bodyPost_ret (results_cell_row rfl _ _ w.heap.size 76 #[.bool false, .int .i64 (-1)] (0, 0) _ rfl (heap_alloc_new _ _) Try.underlying76 rfl (by kernel_rfl)) rfl ?_
      exact ⟨by rw [HC.out]; rfl, (Below.refl _ _).alloc (Nat.le_refl _) _⟩
    · rw [if_pos (by omega)] at hc
      have HC := hid hc
      clear hc h0
      go_enter Try.func78, Try.ntmps78
      go_wp2
      refine bodyPost_ret (results_cell_row rfl _ _ w.heap.size 76 #[.bool false, .int .i64 1] (0, 0) _ rfl (heap_alloc_new _ _) Try.underlying76 rfl (by kernel_rfl)) rfl ?_
      exact ⟨by rw [HC.out]; rfl, (Below.refl _ _).alloc (Nat.le_refl _) _⟩
  · have hc := cls_two n
    have hu := unit_bd n 2
    obtain ⟨V, hV⟩ : ∃ V, V = val n.natAbs 2 := ⟨_, rfl⟩
    obtain ⟨U, hU⟩ : ∃ U, U = unitI n 2 := ⟨_, rfl⟩
    have hv2 := val_le 2 (by omega) _ n.natAbs (Nat.le_refl _)
    rw [← hU, ← hV] at hc
    rw [← hU] at hu
    rw [← hV] at hv2
    have HC := hid hc
    have HV : Hid (val n.natAbs (2 : Int).toNat = V) := hid hV.symm
    have HU := hid hU.symm
    clear hc h0 hV hU
    go_enter Try.func78, Try.ntmps78
    go_wp2_with (first | (go_at_call 103; refine (splitAt_any _ _ H0.out h1 h2 (by omega) (by omega) _).mono ?_; rw [HV.out, HU.out]; rintro e w' ⟨rfl, rfl⟩) | (go_at_call 104; refine (rest_any _ _ (by omega) (by omega) (by omega) (by omega) _).mono ?_; rintro e w' ⟨rfl, rfl⟩))
    refine bodyPost_ret (results_cell_row rfl _ _ w.heap.size 76 #[.bool ((V : Int) % 2 == 1), .int .i64 (U % 8)] (0, 0) _ rfl (heap_alloc2_old _ _ _) Try.underlying76 rfl (by kernel_rfl)) rfl ?_
    exact ⟨by rw [HC.out]; unfold clsT; rw [odd_beq], ((Below.refl _ _).alloc (Nat.le_refl _) _).alloc (by simp) _⟩
  · have hc := cls_odd h3 n
    have hu := unit_bd n P
    obtain ⟨V, hV⟩ : ∃ V, V = val n.natAbs P := ⟨_, rfl⟩
    obtain ⟨U, hU⟩ : ∃ U, U = unitI n (P : Int) := ⟨_, rfl⟩
    have hv2 := val_le P (by omega) _ n.natAbs (Nat.le_refl _)
    rw [← hU, ← hV] at hc
    rw [← hU] at hu
    rw [← hV] at hv2
    have HC := hid hc
    have HV : Hid (val n.natAbs (P : Int).toNat = V) := hid hV.symm
    have HU := hid hU.symm
    clear hc h0 hV hU
    go_enter Try.func78, Try.ntmps78
    go_wp2_with (first | (go_at_call 103; refine (splitAt_any _ _ H0.out h1 h2 (by omega) (by omega) _).mono ?_; rw [HV.out, HU.out]; rintro e w' ⟨rfl, rfl⟩) | (go_at_call 104; refine (rest_any _ _ (by omega) (by omega) (by omega) (by omega) _).mono ?_; rintro e w' ⟨rfl, rfl⟩))
    go_at_call 50
    refine (residueIs_any _ _ _).mono ?_
    rintro e w5 ⟨rfl, hb⟩
    obtain ⟨r, hr⟩ : ∃ r, r = resV (U % (P : Int)) (P : Int) := ⟨_, rfl⟩
    rw [← hr]
    have hs5 := hb.size
    have e0 := (hb.block w.heap.size (by simp; omega)).trans (heap_alloc2_old _ _ _)
    have e1 := (hb.block (w.heap.size + 1) (by simp)).trans (heap_alloc2_new _ _ _)
    have HB := hid hb
    have HR := hid hr
    clear hb hr
    have c00 : w5.cell? ⟨w.heap.size, 0, none⟩ = some (.bool false) := by simp [World.cell?, e0]
    have c01 : w5.cell? ⟨w.heap.size, 1, none⟩ = some (.int .i64 0) := by simp [World.cell?, e0]
    have c10 : w5.cell? ⟨w.heap.size + 1, 0, none⟩ = some (.bool ((V : Int) % 2 == 1)) := by simp [World.cell?, e1]
    have c11 : w5.cell? ⟨w.heap.size + 1, 1, none⟩ = some (.int .i64 0) := by simp [World.cell?, e1]
    have f0 : ∀ i, w5.frozen? ⟨w.heap.size, i, none⟩ = false := fun i => by simp [World.frozen?, e0]
    have f1 : ∀ i, w5.frozen? ⟨w.heap.size + 1, i, none⟩ = false := fun i => by simp [World.frozen?, e1]
    go_wp2
    have HRV : Hid (resN (U % (P : Int)).toNat P = r) := hid (by
      have m1 := Int.emod_nonneg U (show (P : Int) ≠ 0 by omega)
      have m2 := Int.emod_lt_of_pos U (show (0 : Int) < (P : Int) by omega)
      rw [HR.out, resV_yes (okN_iff.2 ⟨by omega, by omega⟩) (oddP_nat hP h3), Int.toNat_natCast, Int.emod_emod_of_dvd _ (Int.dvd_refl _)])
    refine bodyPost_ret (v := .agg #[.bool ((V : Int) % 2 == 1), .int .i64 r]) (by simp [results, Try.results78, go_sem]; go_simp) rfl ?_
    exact ⟨by rw [HC.out, HRV.out]; unfold clsT; rw [odd_beq], ((((((Below.refl w.heap.size w).alloc (Nat.le_refl _) _).alloc (by simp) _).trans (HB.out.mono (by simp; omega))).setCell (by simp) _).setCell (by simp) _).setCell (by simp) _⟩

end Go.Proofs.Ytciajpimpjpnfaa
