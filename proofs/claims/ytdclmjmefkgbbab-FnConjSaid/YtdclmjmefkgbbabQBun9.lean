/-
  Some texts in one file: CoreG Vals4 Fm1 Sym3.
-/
import Derived.Test.YtdclmjmefkgbbabQBun5
import Derived.Test.YtdclmjmefkgbbabQBun8
import Derived.BigQuiet
/-! CoreG -/
set_option linter.unusedVariables false
namespace Go.Proofs.Ytdclmjmefkgbbab
open Go.RowKit

/-- no square from 4 on divides it -/
def SqFree (c : Nat) : Prop := ∀ d, 2 ≤ d → ¬ d * d ∣ c
structure IsCore (c : Int) (r : Nat) (n : Int) : Prop where
  eq : c * ((r : Int) * r) = n
  pos : 1 ≤ r
  free : SqFree c.natAbs
theorem IsCore.ne {c : Int} {r : Nat} {n : Int} (h : IsCore c r n) (hn : n ≠ 0) : c ≠ 0 := by
  rintro rfl
  exact hn (by rw [← h.eq, Int.zero_mul])
theorem isCore_root {c c' : Int} {r r' : Nat} {n : Int} (hn : n ≠ 0) (h : IsCore c r n) (h' : IsCore c' r' n) : r' ∣ r := by
  obtain ⟨g, hg⟩ : ∃ g, g = Nat.gcd r' r := ⟨_, rfl⟩
  have hg0 : 0 < g := by rw [hg]; exact Nat.gcd_pos_of_pos_left _ (by have := h'.pos; omega)
  obtain ⟨a, ha⟩ : g ∣ r' := by rw [hg]; exact Nat.gcd_dvd_left _ _
  obtain ⟨b, hb⟩ : g ∣ r := by rw [hg]; exact Nat.gcd_dvd_right _ _
  have hco : Nat.gcd a b = 1 := by
    have e : g * Nat.gcd a b = g * 1 := by rw [← Nat.gcd_mul_left, ← ha, ← hb, ← hg, Nat.mul_one]
    exact Nat.eq_of_mul_eq_mul_left hg0 e
  have e1 : c.natAbs * (r * r) = n.natAbs := by rw [← h.eq, Int.natAbs_mul, Int.natAbs_mul, Int.natAbs_natCast]
  have e2 : c'.natAbs * (r' * r') = n.natAbs := by rw [← h'.eq, Int.natAbs_mul, Int.natAbs_mul, Int.natAbs_natCast]
  have e3 : c.natAbs * (b * b) = c'.natAbs * (a * a) := by
    refine Nat.eq_of_mul_eq_mul_left (Nat.mul_pos hg0 hg0) ?_
    rw [hb] at e1
    rw [ha] at e2
    have x1 : g * g * (c.natAbs * (b * b)) = c.natAbs * (g * b * (g * b)) := by
      simp only [Nat.mul_assoc, Nat.mul_comm, Nat.mul_left_comm]
    have x2 : g * g * (c'.natAbs * (a * a)) = c'.natAbs * (g * a * (g * a)) := by
      simp only [Nat.mul_assoc, Nat.mul_comm, Nat.mul_left_comm]
    rw [x1, x2, e1, e2]
  have hd : a * a ∣ c.natAbs * (b * b) := by rw [e3]; exact Nat.dvd_mul_left _ _
  have hcop : Nat.Coprime (a * a) (b * b) := by
    have h1 : Nat.Coprime a b := hco
    exact (h1.mul_left h1).mul_right (h1.mul_left h1)
  have hdc : a * a ∣ c.natAbs := hcop.dvd_of_dvd_mul_right hd
  have ha1 : a = 1 := by
    have ha0 : a ≠ 0 := by rintro rfl; have := h'.pos; omega
    by_cases h2 : 2 ≤ a
    · exact absurd hdc (h.free a h2)
    · omega
  rw [ha, ha1, Nat.mul_one, hb]
  exact Nat.dvd_mul_right _ _
theorem isCore_uniq {c c' : Int} {r r' : Nat} {n : Int} (hn : n ≠ 0) (h : IsCore c r n) (h' : IsCore c' r' n) : c = c' ∧ r = r' := by
  have e := Nat.dvd_antisymm (isCore_root hn h' h) (isCore_root hn h h')
  subst e
  refine ⟨?_, rfl⟩
  have h1 := h.eq
  rw [← h'.eq] at h1
  have : (r : Int) * r ≠ 0 := Int.mul_ne_zero (by have := h.pos; omega) (by have := h.pos; omega)
  exact Int.eq_of_mul_eq_mul_right this h1

/-- the root part: the greatest number whose square divides -/
def rootG (n : Int) : Nat := ((List.range (n.natAbs + 1)).filter (fun r => decide (1 ≤ r) && decide (n.natAbs % (r * r) = 0))).foldl max 1
def coreG (n : Int) : Int := n.tdiv ((rootG n : Int) * (rootG n : Int))
theorem foldl_max : ∀ (l : List Nat) (a : Nat), a ≤ l.foldl max a ∧ (∀ x ∈ l, x ≤ l.foldl max a) ∧ (l.foldl max a = a ∨ l.foldl max a ∈ l)
  | [], a => ⟨Nat.le_refl _, fun x hx => (by cases hx), Or.inl rfl⟩
  | y :: l, a => by
    obtain ⟨h1, h2, h3⟩ := foldl_max l (max a y)
    rw [List.foldl_cons]
    refine ⟨by omega, fun x hx => ?_, ?_⟩
    · rcases List.mem_cons.1 hx with rfl | hx
      · omega
      · exact h2 x hx
    · rcases h3 with h3 | h3
      · rw [h3]
        by_cases h : a ≤ y
        · right; rw [Nat.max_eq_right h]; exact List.mem_cons_self ..
        · left; rw [Nat.max_eq_left (by omega)]
      · exact .inr (List.mem_cons_of_mem _ h3)
theorem core_is {n : Int} (hn : n ≠ 0) : IsCore (coreG n) (rootG n) n := by
  obtain ⟨h1, h2, h3⟩ := foldl_max ((List.range (n.natAbs + 1)).filter (fun r => decide (1 ≤ r) && decide (n.natAbs % (r * r) = 0))) 1
  have hm : 1 ≤ rootG n ∧ rootG n * rootG n ∣ n.natAbs := by
    rcases h3 with h3 | h3
    · have : rootG n = 1 := h3
      rw [this]; exact ⟨Nat.le_refl _, Nat.one_dvd _⟩
    · have h4 := (List.mem_filter.1 h3).2
      rw [Bool.and_eq_true, decide_eq_true_eq, decide_eq_true_eq] at h4
      exact ⟨h4.1, Nat.dvd_of_mod_eq_zero h4.2⟩
  have hd : ((rootG n : Int) * (rootG n : Int)) ∣ n := by
    rw [← Int.natAbs_dvd_natAbs, Int.natAbs_mul, Int.natAbs_natCast]; exact hm.2
  have he : coreG n * ((rootG n : Int) * (rootG n : Int)) = n := by unfold coreG; exact Int.tdiv_mul_cancel hd
  refine ⟨he, hm.1, fun d hd2 hdd => ?_⟩
  obtain ⟨e, he2⟩ := hdd
  have hen : n.natAbs = e * ((d * rootG n) * (d * rootG n)) := by
    conv => lhs; rw [← he]
    rw [Int.natAbs_mul, Int.natAbs_mul, Int.natAbs_natCast, he2]
    simp only [Nat.mul_assoc, Nat.mul_comm, Nat.mul_left_comm]
  have hle : d * rootG n ≤ n.natAbs := by
    have h5 : 0 < d * rootG n := Nat.mul_pos (by omega) (by omega)
    have h6 : 0 < e := by
      rcases Nat.eq_zero_or_pos e with h | h
      · rw [h, Nat.zero_mul] at hen; omega
      · exact h
    rw [hen]
    exact Nat.le_trans (Nat.le_mul_of_pos_left _ h5) (Nat.le_mul_of_pos_left _ h6)
  have := h2 (d * rootG n) (List.mem_filter.2 ⟨List.mem_range.2 (by omega), by
    rw [Bool.and_eq_true, decide_eq_true_eq, decide_eq_true_eq]
    exact ⟨Nat.mul_pos (by omega) (by omega), by rw [hen]; exact Nat.mul_mod_left _ _⟩⟩)
  have h7 : d * rootG n ≤ rootG n := this
  have h8 := Nat.mul_le_mul hd2 (Nat.le_refl (rootG n))
  omega
theorem core_eq {n c : Int} {r : Nat} (hn : n ≠ 0) (h : IsCore c r n) : coreG n = c ∧ rootG n = r := isCore_uniq hn (core_is hn) h

/-- two numbers have one core exactly if their product is a square -/
theorem core_same {a b : Int} (ha : a ≠ 0) (hb : b ≠ 0) (h : coreG a = coreG b) : ∃ t : Int, t ≠ 0 ∧ a * b = t * t := by
  have h1 := core_is ha
  have h2 := core_is hb
  have hc := h1.ne ha
  refine ⟨coreG a * ((rootG a : Int) * (rootG b : Int)), Int.mul_ne_zero hc (Int.mul_ne_zero (by have := h1.pos; omega) (by have := h2.pos; omega)), ?_⟩
  conv => lhs; rw [← h1.eq, ← h2.eq, ← h]
  simp only [Int.mul_assoc, Int.mul_comm, Int.mul_left_comm]

theorem sq_le12 {p n : Nat} (h : p * p ≤ n) (hn : n ≤ 1000000000000) : p ≤ 1000000 := sq_le6 h hn
/-- what the loop hands on -/
structure CoreInv (n L : Int) (R p : Nat) : Prop where
  ne : L ≠ 0
  pos : 1 ≤ R
  eq : L * ((R : Int) * R) = n
  less : ∀ d, 2 ≤ d → d < p → ¬ d * d ∣ L.natAbs
theorem CoreInv.core {n L : Int} {R p : Nat} (h : CoreInv n L R p) (hp : ¬ p * p ≤ L.natAbs) : IsCore L R n := by
  refine ⟨h.eq, h.pos, fun d hd hdd => ?_⟩
  by_cases hlt : d < p
  · exact h.less d hd hlt hdd
  · have h1 := Nat.le_of_dvd (by have := h.ne; omega) hdd
    have h2 := Nat.mul_le_mul (show p ≤ d by omega) (show p ≤ d by omega)
    omega
theorem CoreInv.div {n L : Int} {R p : Nat} (hp : 2 ≤ p) (h : CoreInv n L R p) (hd : (p : Int) * p ∣ L) : CoreInv n (L.tdiv ((p : Int) * p)) (R * p) p := by
  have hc := Int.tdiv_mul_cancel hd
  have hn0 : L.tdiv ((p : Int) * p) ≠ 0 := by
    intro e
    rw [e, Int.zero_mul] at hc
    exact h.ne hc.symm
  refine ⟨hn0, Nat.mul_pos h.pos (by omega), ?_, fun d h2 hlt hdd => h.less d h2 hlt ?_⟩
  · rw [← h.eq]
    conv => rhs; rw [← hc]
    push_cast
    simp only [Int.mul_assoc, Int.mul_comm, Int.mul_left_comm]
  · refine Nat.dvd_trans hdd ?_
    rw [Int.natAbs_dvd_natAbs]
    exact ⟨(p : Int) * p, hc.symm⟩
theorem CoreInv.next {n L : Int} {R p : Nat} (h : CoreInv n L R p) (hd : ¬ (p : Int) * p ∣ L) : CoreInv n L R (p + 1) := by
  refine ⟨h.ne, h.pos, h.eq, fun d h2 hlt hdd => ?_⟩
  by_cases e : d = p
  · subst e
    exact hd (by rw [← Int.natAbs_dvd_natAbs, Int.natAbs_mul, Int.natAbs_natCast]; exact hdd)
  · exact h.less d h2 (by omega) hdd
theorem CoreInv.root {n L : Int} {R p : Nat} (h : CoreInv n L R p) (hn : n.natAbs ≤ 1000000000000) : R ≤ 1000000 := by
  have e : n.natAbs = L.natAbs * (R * R) := by rw [← h.eq, Int.natAbs_mul, Int.natAbs_mul, Int.natAbs_natCast]
  have h1 : R * R ≤ n.natAbs := by rw [e]; exact Nat.le_mul_of_pos_left _ (by have := h.ne; omega)
  exact sq_le12 h1 hn


end Go.Proofs.Ytdclmjmefkgbbab

/-! Vals4 -/
set_option linter.unusedVariables false
namespace Go.Proofs.Ytdclmjmefkgbbab
open Go.RowKit

def termB (x : Int) : Bool := !(decide (x = 0)) && inR x (-30) 30
/-- is it a form? -/
def fvB (xs : List Int) : Bool := xs.all termB && inR (xs.length : Nat) 1 4
theorem termB_iff {x : Int} : termB x = true ↔ x ≠ 0 ∧ -30 ≤ x ∧ x ≤ 30 := by
  unfold termB inR
  simp only [Bool.and_eq_true, Bool.not_eq_true', decide_eq_false_iff_not, decide_eq_true_eq]
theorem fvB_iff {xs : List Int} : fvB xs = true ↔ (∀ x ∈ xs, x ≠ 0 ∧ -30 ≤ x ∧ x ≤ 30) ∧ 1 ≤ xs.length ∧ xs.length ≤ 4 := by
  unfold fvB inR
  rw [Bool.and_eq_true, List.all_eq_true, Bool.and_eq_true, decide_eq_true_eq, decide_eq_true_eq]
  constructor
  · rintro ⟨h1, h2, h3⟩
    exact ⟨fun x hx => termB_iff.1 (h1 x hx), by omega, by omega⟩
  · rintro ⟨h1, h2, h3⟩
    exact ⟨fun x hx => termB_iff.2 (h1 x hx), by omega, by omega⟩
theorem fv_at {xs : List Int} (h : fvB xs = true) {i : Nat} (hi : i < xs.length) : xs.getD i 0 ≠ 0 ∧ -30 ≤ xs.getD i 0 ∧ xs.getD i 0 ≤ 30 := by
  rw [getD_at _ _ hi]
  exact (fvB_iff.1 h).1 _ (List.getElem_mem _)

def prodI : List Int → Int
  | [] => 1
  | x :: xs => x * prodI xs
theorem prodI_app : ∀ xs ys : List Int, prodI (xs ++ ys) = prodI xs * prodI ys
  | [], ys => by show prodI ys = 1 * prodI ys; rw [Int.one_mul]
  | x :: xs, ys => by
    show x * prodI (xs ++ ys) = x * prodI xs * prodI ys
    rw [prodI_app xs ys, Int.mul_assoc]
theorem prodI_take {xs : List Int} {i : Nat} (hi : i < xs.length) : prodI (xs.take (i + 1)) = prodI (xs.take i) * xs.getD i 0 := by
  rw [take_snoc _ _ hi, prodI_app, getD_at _ _ hi]
  show prodI (xs.take i) * (xs[i] * 1) = _
  rw [Int.mul_one]
theorem prodI_ne : ∀ {xs : List Int}, (∀ x ∈ xs, x ≠ 0) → prodI xs ≠ 0
  | [], _ => by decide
  | x :: xs, h => Int.mul_ne_zero (h x (List.mem_cons_self ..)) (prodI_ne fun y hy => h y (List.mem_cons_of_mem _ hy))
theorem prodI_abs : ∀ {xs : List Int}, (∀ x ∈ xs, -30 ≤ x ∧ x ≤ 30) → (prodI xs).natAbs ≤ 30 ^ xs.length
  | [], _ => by decide
  | x :: xs, h => by
    have h1 := h x (List.mem_cons_self ..)
    have h2 := prodI_abs (xs := xs) fun y hy => h y (List.mem_cons_of_mem _ hy)
    show (x * prodI xs).natAbs ≤ 30 ^ (xs.length + 1)
    rw [Int.natAbs_mul, Nat.pow_succ, Nat.mul_comm (30 ^ xs.length)]
    exact Nat.mul_le_mul (by omega) h2
theorem prod_fv {xs : List Int} (h : fvB xs = true) (i : Nat) : prodI (xs.take i) ≠ 0 ∧ -810000 ≤ prodI (xs.take i) ∧ prodI (xs.take i) ≤ 810000 := by
  obtain ⟨h1, h2, h3⟩ := fvB_iff.1 h
  have hm : ∀ x ∈ xs.take i, x ≠ 0 ∧ -30 ≤ x ∧ x ≤ 30 := fun x hx => h1 x (List.mem_of_mem_take hx)
  have ha := prodI_abs (xs := xs.take i) (fun x hx => (hm x hx).2)
  have hp := Nat.pow_le_pow_right (show 1 ≤ 30 by decide) (show (xs.take i).length ≤ 4 by rw [List.length_take]; omega)
  exact ⟨prodI_ne fun x hx => (hm x hx).1, by omega, by omega⟩
theorem prod_full {xs : List Int} (h : fvB xs = true) : prodI xs ≠ 0 ∧ -810000 ≤ prodI xs ∧ prodI xs ≤ 810000 := by
  have := prod_fv h xs.length
  rwa [List.take_length] at this

/-- values at a vector -/
def valI (xs vs : List Int) : Nat → Int
  | 0 => 0
  | i + 1 => valI xs vs i + xs.getD i 0 * vs.getD i 0 * vs.getD i 0
def vecB (xs vs : List Int) (most : Int) : Bool := vs.all (fun v => inR v (-most) most) && (fvB xs && (vs.length == xs.length))
theorem term_bd {x v : Int} (h1 : -30 ≤ x) (h2 : x ≤ 30) (h3 : -1000 ≤ v) (h4 : v ≤ 1000) : -30000 ≤ x * v ∧ x * v ≤ 30000 ∧ -30000000 ≤ x * v * v ∧ x * v * v ≤ 30000000 := by
  have e1 : (x * v).natAbs ≤ 30 * 1000 := by rw [Int.natAbs_mul]; exact Nat.mul_le_mul (by omega) (by omega)
  have e2 : (x * v * v).natAbs ≤ 30 * 1000 * 1000 := by rw [Int.natAbs_mul]; exact Nat.mul_le_mul e1 (by omega)
  omega
theorem valI_bd {xs vs : List Int} (h : fvB xs = true) (hv : ∀ v ∈ vs, -1000 ≤ v ∧ v ≤ 1000) (hl : vs.length = xs.length) : ∀ i, i ≤ xs.length → -30000000 * (i : Int) ≤ valI xs vs i ∧ valI xs vs i ≤ 30000000 * (i : Int)
  | 0, _ => by simp [valI]
  | i + 1, hi => by
    have ih := valI_bd h hv hl i (by omega)
    have ht := fv_at h (show i < xs.length by omega)
    have hvv := hv (vs.getD i 0) (by rw [getD_at _ _ (by omega)]; exact List.getElem_mem _)
    have hb := term_bd ht.2.1 ht.2.2 hvv.1 hvv.2
    unfold valI
    push_cast
    omega

def lessN (xs : List Int) : Nat := (xs.filter (fun x => decide (x < 0))).length
theorem less_le (xs : List Int) : lessN xs ≤ xs.length := List.length_filter_le _ _
theorem less_take {xs : List Int} {i : Nat} (hi : i < xs.length) : lessN (xs.take (i + 1)) = lessN (xs.take i) + (if xs.getD i 0 < 0 then 1 else 0) := by
  unfold lessN
  rw [filter_step hi, List.length_append]
  by_cases h : xs.getD i 0 < 0
  · rw [if_pos (decide_eq_true h), if_pos h]; rfl
  · rw [if_neg (by rw [decide_eq_false h]; decide), if_neg h]; rfl

/-- the product of the symbols of a term with the first k -/
def hasR (xs : List Int) (q : Int) (i : Nat) : Nat → Int
  | 0 => 1
  | k + 1 => hasR xs q i k * symV (xs.getD k 0) (xs.getD i 0) q
/-- the invariant of the first i terms -/
def hasP (xs : List Int) (q : Int) : Nat → Int
  | 0 => 1
  | i + 1 => hasP xs q i * hasR xs q i i
def hasF (xs : List Int) (q : Int) : Int := hasP xs q xs.length
theorem pm_mul {a b : Int} (ha : a = 1 ∨ a = -1) (hb : b = 1 ∨ b = -1) : a * b = 1 ∨ a * b = -1 := by
  rcases ha with rfl | rfl <;> rcases hb with rfl | rfl <;> decide
theorem hasR_pm {xs : List Int} {q : Int} (hq : plI q = true) (h : ∀ x ∈ xs, x ≠ 0) {i : Nat} (hi : i < xs.length) : ∀ k, k ≤ xs.length → hasR xs q i k = 1 ∨ hasR xs q i k = -1
  | 0, _ => .inl rfl
  | k + 1, hk => pm_mul (hasR_pm hq h hi k (by omega)) (symV_val (by rw [getD_at _ _ (by omega)]; exact h _ (List.getElem_mem _)) (by rw [getD_at _ _ hi]; exact h _ (List.getElem_mem _)) hq)
theorem hasP_pm {xs : List Int} {q : Int} (hq : plI q = true) (h : ∀ x ∈ xs, x ≠ 0) : ∀ i, i ≤ xs.length → hasP xs q i = 1 ∨ hasP xs q i = -1
  | 0, _ => .inl rfl
  | i + 1, hi => pm_mul (hasP_pm hq h i (by omega)) (hasR_pm hq h (by omega) i (by omega))
theorem hasF_pm {xs : List Int} {q : Int} (hq : plI q = true) (h : ∀ x ∈ xs, x ≠ 0) : hasF xs q = 1 ∨ hasF xs q = -1 := hasP_pm hq h _ (Nat.le_refl _)

/-- what chapter 4's functions answer -/
def fvalV (xs vs : List Int) : Value := if vecB xs vs 1000 then .tuple #[.int .i64 (valI xs vs xs.length), .bool true] else .tuple #[.int .i64 0, .bool false]
def discV (xs : List Int) : Int := if fvB xs then coreG (prodI xs) else 0
def signsV (xs : List Int) : Value := if fvB xs then .tuple #[.int .i64 ((xs.length : Int) - 2 * (lessN xs : Int)), .bool true] else .tuple #[.int .i64 0, .bool false]
def finvV (xs : List Int) (q : Int) : Int := if fvB xs && plI q then hasF xs q else 0
def fplL (xs : List Int) : List Int := if fvB xs then placesG (prodI xs) else []
/-- does a form vanish at a place? -/
def vanB (xs : List Int) (q : Int) : Bool :=
  if q = 0 then decide (0 < lessN xs) && decide (lessN xs < xs.length)
  else match xs.length with
    | 1 => false
    | 2 => sqAt (-(prodI xs)) q
    | 3 => hasF xs q == symV (-1) (-(prodI xs)) q
    | _ => !sqAt (prodI xs) q || (hasF xs q == symV (-1) (-1) q)
theorem van_one {xs : List Int} {q : Int} (h : q ≠ 0) (hl : xs.length = 1) : vanB xs q = false := by
  unfold vanB; rw [if_neg h, hl]; rfl
theorem van_two {xs : List Int} {q : Int} (h : q ≠ 0) (hl : xs.length = 2) : vanB xs q = sqAt (-(prodI xs)) q := by
  unfold vanB; rw [if_neg h, hl]; rfl
theorem van_three {xs : List Int} {q : Int} (h : q ≠ 0) (hl : xs.length = 3) : vanB xs q = (hasF xs q == symV (-1) (-(prodI xs)) q) := by
  unfold vanB; rw [if_neg h, hl]; rfl
theorem van_four {xs : List Int} {q : Int} (h : q ≠ 0) (hl : xs.length = 4) : vanB xs q = (!sqAt (prodI xs) q || (hasF xs q == symV (-1) (-1) q)) := by
  unfold vanB; rw [if_neg h, hl]; rfl
def fvanV (xs : List Int) (q : Int) : Bool := fvB xs && (plI q && vanB xs q)
def badL (xs : List Int) : List Int := (fplL xs).filter (fun q => !vanB xs q)
def alikeB (a b : List Int) (q : Int) : Bool := if q = 0 then lessN a == lessN b else sqAt (prodI a * prodI b) q && (hasF a q == hasF b q)
def bothB (a b : List Int) : Bool := fvB a && (fvB b && (a.length == b.length))
def falikeV (a b : List Int) (q : Int) : Bool := bothB a b && (plI q && alikeB a b q)
def fsameV (a b : List Int) : Bool := bothB a b && (decide (coreG (prodI a) = coreG (prodI b)) && (placesG (prodI a * prodI b)).all (alikeB a b))
def joinOk (a b : List Int) : Bool := fvB a && (fvB b && fvB (a ++ b))
def joinL (a b : List Int) : List Int := if joinOk a b then a ++ b else []
def timesL (xs : List Int) (n : Int) : List Int := xs.map (fun x => coreG (n * x))
def timesOk (xs : List Int) (n : Int) : Bool := fvB xs && (factB n && fvB (timesL xs n))
def ftimesL (xs : List Int) (n : Int) : List Int := if timesOk xs n then timesL xs n else []
def fcoresL (xs : List Int) : List Int := if fvB xs then timesL xs 1 else []

end Go.Proofs.Ytdclmjmefkgbbab

/-! Fm1 -/
set_option linter.unusedVariables false
namespace Go.Proofs.Ytdclmjmefkgbbab
open Go.RowKit






end Go.Proofs.Ytdclmjmefkgbbab

/-! Sym3 -/
set_option linter.unusedVariables false
namespace Go.Proofs.Ytdclmjmefkgbbab
open Go.RowKit



end Go.Proofs.Ytdclmjmefkgbbab
