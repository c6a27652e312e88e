/-
  The product of all symbols of two numbers is 1: by its generators.
-/
import Derived.Test.YtbhlgdleklfonabSym4
import Derived.Test.YtbhlgdleklfonabLawMath
set_option linter.unusedVariables false
namespace Go.Proofs.Ytbhlgdleklfonab
open Go.RowKit

def genL : List Int := [-1, 2, 3, 5, 7, 11, 13, 17, 19, 23, 29, 31, 37, 41, 43, 47, 53, 59, 61, 67, 71, 73, 79, 83, 89, 97, 101, 103, 107, 109, 113]
def plcL : List Int := [0, 2, 3, 5, 7, 11, 13, 17, 19, 23, 29, 31, 37, 41, 43, 47, 53, 59, 61, 67, 71, 73, 79, 83, 89, 97, 101, 103, 107, 109, 113]
def prodS (a b : Int) : List Int → Int
  | [] => 1
  | q :: t => symV a b q * prodS a b t
theorem plc_pl : ∀ q ∈ plcL, plI q = true := by decide +kernel
theorem gen_prod : ∀ g ∈ genL, ∀ h ∈ genL, prodS g h plcL = 1 := by decide +kernel
theorem gen_ne : ∀ g ∈ genL, g ≠ 0 := by decide

theorem prodS_mul {a b c : Int} (ha : a ≠ 0) (hb : b ≠ 0) (hc : c ≠ 0) : ∀ l : List Int, (∀ q ∈ l, plI q = true) → prodS a (b * c) l = prodS a b l * prodS a c l
  | [], _ => rfl
  | q :: t, h => by
    unfold prodS
    rw [symV_mul ha hb hc (h q List.mem_cons_self), prodS_mul ha hb hc t (fun x hx => h x (List.mem_cons_of_mem _ hx))]
    simp only [Int.mul_comm, Int.mul_left_comm, Int.mul_assoc]
theorem prodS_comm {a b : Int} (ha : a ≠ 0) (hb : b ≠ 0) : ∀ l : List Int, (∀ q ∈ l, plI q = true) → prodS a b l = prodS b a l
  | [], _ => rfl
  | q :: t, h => by
    unfold prodS
    rw [symV_comm ha hb (h q List.mem_cons_self), prodS_comm ha hb t (fun x hx => h x (List.mem_cons_of_mem _ hx))]
theorem prodS_one {a : Int} (ha : a ≠ 0) : ∀ l : List Int, (∀ q ∈ l, plI q = true) → prodS a 1 l = 1
  | [], _ => rfl
  | q :: t, h => by
    have hq := h q List.mem_cons_self
    unfold prodS
    rw [symV_sq ha hq (by
      have := sq_mul (a := 1) (b := 1) (by decide) (by decide) hq
      rw [Int.mul_one] at this
      rw [this]; simp), prodS_one ha t (fun x hx => h x (List.mem_cons_of_mem _ hx))]
    rfl

/-- no prime above 113 divides it -/
def Smooth (n : Int) : Prop := n ≠ 0 ∧ ∀ p, PrG p → p ∣ n.natAbs → p ≤ 113
theorem prime_gen {p : Nat} (h : PrG p) (h2 : p ≤ 113) : (p : Int) ∈ genL := by
  have hN := prG_primeN h (by omega)
  have : (List.range 114).all (fun x => !primeN x || decide ((x : Int) ∈ genL)) = true := by decide +kernel
  have := List.all_eq_true.1 this p (List.mem_range.2 (by omega))
  rw [hN] at this
  exact of_decide_eq_true (by simpa using this)
theorem prime_factor : ∀ (k n : Nat), n ≤ k → 1 < n → ∃ p, PrG p ∧ p ∣ n
  | 0, n, h, h1 => by omega
  | k + 1, n, h, h1 => by
    by_cases hp : PrG n
    · exact ⟨n, hp, Nat.dvd_refl n⟩
    · have : ∃ d, d ∣ n ∧ d ≠ 1 ∧ d ≠ n := Classical.byContradiction fun hc => hp ⟨h1, fun d hd => Classical.byContradiction fun hne => hc ⟨d, hd, fun e => hne (.inl e), fun e => hne (.inr e)⟩⟩
      obtain ⟨d, hd, d1, dn⟩ := this
      have hle := Nat.le_of_dvd (by omega) hd
      have hd0 : d ≠ 0 := by rintro rfl; rw [Nat.zero_dvd] at hd; omega
      obtain ⟨p, hp1, hp2⟩ := prime_factor k d (by omega) (by omega)
      exact ⟨p, hp1, Nat.dvd_trans hp2 hd⟩
theorem smooth_ind {C : Int → Prop} (h1 : C 1) (hm : ∀ g ∈ genL, ∀ c, c ≠ 0 → C c → C (g * c)) : ∀ (k : Nat) (n : Int), n.natAbs ≤ k → Smooth n → C n
  | 0, n, h, hs => absurd (show n = 0 by omega) hs.1
  | k + 1, n, h, hs => by
    by_cases hn : n.natAbs ≤ 1
    · have : n = 1 ∨ n = -1 := by have := hs.1; omega
      rcases this with rfl | rfl
      · exact h1
      · exact hm (-1) (by decide) 1 (by decide) h1
    · obtain ⟨p, hp, hd⟩ := prime_factor n.natAbs n.natAbs (Nat.le_refl _) (by omega)
      have h113 := hs.2 p hp hd
      obtain ⟨c, hc⟩ := Int.ofNat_dvd_left.2 hd
      have hc0 : c ≠ 0 := by rintro rfl; rw [Int.mul_zero] at hc; exact hs.1 hc
      have hlt : c.natAbs < n.natAbs := by
        rw [hc, Int.natAbs_mul, Int.natAbs_natCast]
        have h2 := hp.1
        have := Nat.mul_le_mul_right c.natAbs h2
        omega
      rw [hc]
      refine hm p (prime_gen hp h113) c hc0 (smooth_ind h1 hm k c (by omega) ⟨hc0, fun q hq hqd => hs.2 q hq ?_⟩)
      rw [hc, Int.natAbs_mul]
      exact Nat.dvd_mul_left_of_dvd hqd _
theorem prod_gen {g : Int} (hg : g ∈ genL) {b : Int} (hb : Smooth b) : prodS g b plcL = 1 := by
  refine smooth_ind (C := fun b => prodS g b plcL = 1) (prodS_one (gen_ne g hg) _ plc_pl) (fun h hh c hc hC => ?_) b.natAbs b (Nat.le_refl _) hb
  rw [prodS_mul (gen_ne g hg) (gen_ne h hh) hc _ plc_pl, gen_prod g hg h hh, hC]
  rfl
theorem prod_all {a b : Int} (ha : Smooth a) (hb : Smooth b) : prodS a b plcL = 1 := by
  refine smooth_ind (C := fun a => prodS a b plcL = 1) ?_ (fun g hg c hc hC => ?_) a.natAbs a (Nat.le_refl _) ha
  · show prodS 1 b plcL = 1
    rw [prodS_comm (by decide) hb.1 _ plc_pl]
    exact prodS_one hb.1 _ plc_pl
  · show prodS (g * c) b plcL = 1
    rw [prodS_comm (Int.mul_ne_zero (gen_ne g hg) hc) hb.1 _ plc_pl, prodS_mul hb.1 (gen_ne g hg) hc _ plc_pl, prodS_comm hb.1 (gen_ne g hg) _ plc_pl, prodS_comm hb.1 hc _ plc_pl, prod_gen hg hb, hC]
    rfl

/-- the product tells how many are -1 -/
theorem prodS_half {a b : Int} (ha : a ≠ 0) (hb : b ≠ 0) : ∀ l : List Int, (∀ q ∈ l, plI q = true) → prodS a b l = halfI ((l.filter (fun q => decide (symV a b q = -1))).length : Nat)
  | [], _ => rfl
  | q :: t, h => by
    have ih := prodS_half ha hb t (fun x hx => h x (List.mem_cons_of_mem _ hx))
    unfold prodS
    rw [ih]
    rcases symV_val ha hb (h q List.mem_cons_self) with e | e
    · rw [e, List.filter_cons_of_neg (by rw [e]; decide), Int.one_mul]
    · rw [e, List.filter_cons_of_pos (by rw [e]; decide), List.length_cons]
      unfold halfI
      split <;> split <;> omega

theorem asc_eq : ∀ (l m : List Int), l.Pairwise (· < ·) → m.Pairwise (· < ·) → (∀ x, x ∈ l ↔ x ∈ m) → l = m
  | [], [], _, _, _ => rfl
  | [], y :: m, _, _, h => absurd ((h y).2 List.mem_cons_self) (by simp)
  | x :: l, [], _, _, h => absurd ((h x).1 List.mem_cons_self) (by simp)
  | x :: l, y :: m, h1, h2, h => by
    rw [List.pairwise_cons] at h1 h2
    have e : x = y := by
      have a1 := (h x).1 List.mem_cons_self
      have a2 := (h y).2 List.mem_cons_self
      rcases List.mem_cons.1 a1 with e | a1
      · exact e
      · rcases List.mem_cons.1 a2 with e | a2
        · exact e.symm
        · have := h2.1 x a1
          have := h1.1 y a2
          omega
    subst e
    congr 1
    refine asc_eq l m h1.2 h2.2 fun z => ?_
    constructor
    · intro hz
      rcases List.mem_cons.1 ((h z).1 (List.mem_cons_of_mem _ hz)) with e | hz2
      · have := h1.1 z hz; omega
      · exact hz2
    · intro hz
      rcases List.mem_cons.1 ((h z).2 (List.mem_cons_of_mem _ hz)) with e | hz2
      · have := h2.1 z hz; omega
      · exact hz2
theorem plc_asc : plcL.Pairwise (· < ·) := by decide +kernel
theorem placesG_asc {n : Int} (h0 : n ≠ 0) : (placesG n).Pairwise (· < ·) := by
  obtain ⟨a, b, _⟩ := plistG_spec (show 0 < n.natAbs by omega)
  unfold placesG
  have hp : ((natsI (plistG n.natAbs)).filter (fun x => decide (2 < x))).Pairwise (· < ·) := by
    refine List.Pairwise.filter _ ?_
    unfold natsI
    rw [List.pairwise_map]
    exact b.imp (fun h => by omega)
  rw [List.cons_append, List.cons_append, List.nil_append, List.pairwise_cons, List.pairwise_cons]
  refine ⟨fun x hx => ?_, fun x hx => ?_, hp⟩
  · rcases List.mem_cons.1 hx with rfl | hx
    · decide
    · have := of_decide_eq_true (List.mem_filter.1 hx).2; omega
  · exact of_decide_eq_true (List.mem_filter.1 hx).2
/-- at an odd prime that divides neither the symbol is 1 -/
theorem sym_away {a b : Int} {P : Nat} (hP : primeN P = true) (h3 : 3 ≤ P) (ha : ¬ P ∣ a.natAbs) (hb : ¬ P ∣ b.natAbs) (a0 : a ≠ 0) (b0 : b ≠ 0) : symV a b (P : Int) = 1 := by
  unfold symV symC
  obtain ⟨va, _⟩ := unit_self hP ha a0
  obtain ⟨vb, _⟩ := unit_self hP hb b0
  rw [cls_odd h3, cls_odd h3, va, vb, if_neg (by omega), if_neg (by omega)]
  simp [halfI]
theorem splL_plc {a b : Int} (ha : Smooth a) (hb : Smooth b) (O : okAB a b = true) : splL a b = plcL.filter (fun q => decide (symV a b q = -1)) := by
  rcases okAB_cases a b with ⟨a1, a2, a0, b1, b2, b0, _⟩ | hO
  · have hab := Int.mul_ne_zero a0 b0
    obtain ⟨s1, _, s3⟩ := plistG_spec (show 0 < (a * b).natAbs by omega)
    unfold splL
    rw [O, if_pos rfl]
    refine asc_eq _ _ (List.Pairwise.filter _ (placesG_asc hab)) (List.Pairwise.filter _ plc_asc) fun q => ?_
    rw [List.mem_filter, List.mem_filter]
    constructor
    · rintro ⟨hq, hs⟩
      refine ⟨?_, hs⟩
      unfold placesG at hq
      simp only [List.cons_append, List.nil_append, List.mem_cons] at hq
      rcases hq with rfl | rfl | hq
      · decide
      · decide
      · have hm := (List.mem_filter.1 hq).1
        unfold natsI at hm
        rw [List.mem_map] at hm
        obtain ⟨x, hx, rfl⟩ := hm
        obtain ⟨p1, p2⟩ := s1 x hx
        rw [Int.natAbs_mul] at p2
        have h113 : x ≤ 113 := by
          rcases prG_mul p1 p2 with h | h
          · exact ha.2 x p1 h
          · exact hb.2 x p1 h
        have := prime_gen p1 h113
        unfold genL at this
        rcases List.mem_cons.1 this with e | h
        · omega
        · exact List.mem_cons_of_mem _ h
    · rintro ⟨hq, hs⟩
      refine ⟨?_, hs⟩
      have hs1 := of_decide_eq_true hs
      unfold placesG
      simp only [List.cons_append, List.nil_append, List.mem_cons]
      rcases plI_cases (plc_pl q hq) with h | h | ⟨P, rfl, hP, h3, h5⟩
      · exact .inl h
      · exact .inr (.inl h)
      · right; right
        refine List.mem_filter.2 ⟨?_, decide_eq_true (by omega)⟩
        unfold natsI
        refine List.mem_map.2 ⟨P, s3 P (primeN_prG hP) ?_, rfl⟩
        rw [Int.natAbs_mul]
        by_cases da : P ∣ a.natAbs
        · exact Nat.dvd_mul_right_of_dvd da _
        · by_cases db : P ∣ b.natAbs
          · exact Nat.dvd_mul_left_of_dvd db _
          · rw [sym_away hP h3 da db a0 b0] at hs1
            cases hs1
  · rw [O] at hO; cases hO
/-- THE PRODUCT FORMULA: symbols are -1 at an even number of places -/
theorem product_formula {a b : Int} (ha : Smooth a) (hb : Smooth b) (O : okAB a b = true) : halfI ((splL a b).length : Nat) = 1 := by
  rw [splL_plc ha hb O, ← prodS_half ha.1 hb.1 _ plc_pl]
  exact prod_all ha hb

end Go.Proofs.Ytbhlgdleklfonab
