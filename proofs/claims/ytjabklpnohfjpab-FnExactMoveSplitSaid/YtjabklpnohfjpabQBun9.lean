/-
  Some texts in one file: CoreG Vals4 Stein FmTh Fm1.
-/
import Derived.Test.YtjabklpnohfjpabQBun5
import Derived.Test.YtjabklpnohfjpabQBun8
import Derived.BigQuiet
/-! CoreG -/
set_option linter.unusedVariables false
namespace Go.Proofs.Ytjabklpnohfjpab
open Go.RowKit

/-- no square from 4 on divides it -/
def SqFree (c : Nat) : Prop := ∀ d, 2 ≤ d → ¬ d * d ∣ c
structure IsCore (c : Int) (r : Nat) (n : Int) : Prop where
  eq : c * ((r : Int) * r) = n
  pos : 1 ≤ r
  free : SqFree c.natAbs
theorem IsCore.ne {c : Int} {r : Nat} {n : Int} (h : IsCore c r n) (hn : n ≠ 0) : c ≠ 0 := by
  rintro rfl
  exact hn (by rw [← h.eq, Int.zero_mul])
theorem isCore_root {c c' : Int} {r r' : Nat} {n : Int} (hn : n ≠ 0) (h : IsCore c r n) (h' : IsCore c' r' n) : r' ∣ r := by
  obtain ⟨g, hg⟩ : ∃ g, g = Nat.gcd r' r := ⟨_, rfl⟩
  have hg0 : 0 < g := by rw [hg]; exact Nat.gcd_pos_of_pos_left _ (by have := h'.pos; omega)
  obtain ⟨a, ha⟩ : g ∣ r' := by rw [hg]; exact Nat.gcd_dvd_left _ _
  obtain ⟨b, hb⟩ : g ∣ r := by rw [hg]; exact Nat.gcd_dvd_right _ _
  have hco : Nat.gcd a b = 1 := by
    have e : g * Nat.gcd a b = g * 1 := by rw [← Nat.gcd_mul_left, ← ha, ← hb, ← hg, Nat.mul_one]
    exact Nat.eq_of_mul_eq_mul_left hg0 e
  have e1 : c.natAbs * (r * r) = n.natAbs := by rw [← h.eq, Int.natAbs_mul, Int.natAbs_mul, Int.natAbs_natCast]
  have e2 : c'.natAbs * (r' * r') = n.natAbs := by rw [← h'.eq, Int.natAbs_mul, Int.natAbs_mul, Int.natAbs_natCast]
  have e3 : c.natAbs * (b * b) = c'.natAbs * (a * a) := by
    refine Nat.eq_of_mul_eq_mul_left (Nat.mul_pos hg0 hg0) ?_
    rw [hb] at e1
    rw [ha] at e2
    have x1 : g * g * (c.natAbs * (b * b)) = c.natAbs * (g * b * (g * b)) := by
      simp only [Nat.mul_assoc, Nat.mul_comm, Nat.mul_left_comm]
    have x2 : g * g * (c'.natAbs * (a * a)) = c'.natAbs * (g * a * (g * a)) := by
      simp only [Nat.mul_assoc, Nat.mul_comm, Nat.mul_left_comm]
    rw [x1, x2, e1, e2]
  have hd : a * a ∣ c.natAbs * (b * b) := by rw [e3]; exact Nat.dvd_mul_left _ _
  have hcop : Nat.Coprime (a * a) (b * b) := by
    have h1 : Nat.Coprime a b := hco
    exact (h1.mul_left h1).mul_right (h1.mul_left h1)
  have hdc : a * a ∣ c.natAbs := hcop.dvd_of_dvd_mul_right hd
  have ha1 : a = 1 := by
    have ha0 : a ≠ 0 := by rintro rfl; have := h'.pos; omega
    by_cases h2 : 2 ≤ a
    · exact absurd hdc (h.free a h2)
    · omega
  rw [ha, ha1, Nat.mul_one, hb]
  exact Nat.dvd_mul_right _ _
theorem isCore_uniq {c c' : Int} {r r' : Nat} {n : Int} (hn : n ≠ 0) (h : IsCore c r n) (h' : IsCore c' r' n) : c = c' ∧ r = r' := by
  have e := Nat.dvd_antisymm (isCore_root hn h' h) (isCore_root hn h h')
  subst e
  refine ⟨?_, rfl⟩
  have h1 := h.eq
  rw [← h'.eq] at h1
  have : (r : Int) * r ≠ 0 := Int.mul_ne_zero (by have := h.pos; omega) (by have := h.pos; omega)
  exact Int.eq_of_mul_eq_mul_right this h1

/-- the root part: the greatest number whose square divides -/
def rootG (n : Int) : Nat := ((List.range (n.natAbs + 1)).filter (fun r => decide (1 ≤ r) && decide (n.natAbs % (r * r) = 0))).foldl max 1
def coreG (n : Int) : Int := n.tdiv ((rootG n : Int) * (rootG n : Int))
theorem foldl_max : ∀ (l : List Nat) (a : Nat), a ≤ l.foldl max a ∧ (∀ x ∈ l, x ≤ l.foldl max a) ∧ (l.foldl max a = a ∨ l.foldl max a ∈ l)
  | [], a => ⟨Nat.le_refl _, fun x hx => (by cases hx), Or.inl rfl⟩
  | y :: l, a => by
    obtain ⟨h1, h2, h3⟩ := foldl_max l (max a y)
    rw [List.foldl_cons]
    refine ⟨by omega, fun x hx => ?_, ?_⟩
    · rcases List.mem_cons.1 hx with rfl | hx
      · omega
      · exact h2 x hx
    · rcases h3 with h3 | h3
      · rw [h3]
        by_cases h : a ≤ y
        · right; rw [Nat.max_eq_right h]; exact List.mem_cons_self ..
        · left; rw [Nat.max_eq_left (by omega)]
      · exact .inr (List.mem_cons_of_mem _ h3)
theorem core_is {n : Int} (hn : n ≠ 0) : IsCore (coreG n) (rootG n) n := by
  obtain ⟨h1, h2, h3⟩ := foldl_max ((List.range (n.natAbs + 1)).filter (fun r => decide (1 ≤ r) && decide (n.natAbs % (r * r) = 0))) 1
  have hm : 1 ≤ rootG n ∧ rootG n * rootG n ∣ n.natAbs := by
    rcases h3 with h3 | h3
    · have : rootG n = 1 := h3
      rw [this]; exact ⟨Nat.le_refl _, Nat.one_dvd _⟩
    · have h4 := (List.mem_filter.1 h3).2
      rw [Bool.and_eq_true, decide_eq_true_eq, decide_eq_true_eq] at h4
      exact ⟨h4.1, Nat.dvd_of_mod_eq_zero h4.2⟩
  have hd : ((rootG n : Int) * (rootG n : Int)) ∣ n := by
    rw [← Int.natAbs_dvd_natAbs, Int.natAbs_mul, Int.natAbs_natCast]; exact hm.2
  have he : coreG n * ((rootG n : Int) * (rootG n : Int)) = n := by unfold coreG; exact Int.tdiv_mul_cancel hd
  refine ⟨he, hm.1, fun d hd2 hdd => ?_⟩
  obtain ⟨e, he2⟩ := hdd
  have hen : n.natAbs = e * ((d * rootG n) * (d * rootG n)) := by
    conv => lhs; rw [← he]
    rw [Int.natAbs_mul, Int.natAbs_mul, Int.natAbs_natCast, he2]
    simp only [Nat.mul_assoc, Nat.mul_comm, Nat.mul_left_comm]
  have hle : d * rootG n ≤ n.natAbs := by
    have h5 : 0 < d * rootG n := Nat.mul_pos (by omega) (by omega)
    have h6 : 0 < e := by
      rcases Nat.eq_zero_or_pos e with h | h
      · rw [h, Nat.zero_mul] at hen; omega
      · exact h
    rw [hen]
    exact Nat.le_trans (Nat.le_mul_of_pos_left _ h5) (Nat.le_mul_of_pos_left _ h6)
  have := h2 (d * rootG n) (List.mem_filter.2 ⟨List.mem_range.2 (by omega), by
    rw [Bool.and_eq_true, decide_eq_true_eq, decide_eq_true_eq]
    exact ⟨Nat.mul_pos (by omega) (by omega), by rw [hen]; exact Nat.mul_mod_left _ _⟩⟩)
  have h7 : d * rootG n ≤ rootG n := this
  have h8 := Nat.mul_le_mul hd2 (Nat.le_refl (rootG n))
  omega
theorem core_eq {n c : Int} {r : Nat} (hn : n ≠ 0) (h : IsCore c r n) : coreG n = c ∧ rootG n = r := isCore_uniq hn (core_is hn) h

/-- two numbers have one core exactly if their product is a square -/
theorem core_same {a b : Int} (ha : a ≠ 0) (hb : b ≠ 0) (h : coreG a = coreG b) : ∃ t : Int, t ≠ 0 ∧ a * b = t * t := by
  have h1 := core_is ha
  have h2 := core_is hb
  have hc := h1.ne ha
  refine ⟨coreG a * ((rootG a : Int) * (rootG b : Int)), Int.mul_ne_zero hc (Int.mul_ne_zero (by have := h1.pos; omega) (by have := h2.pos; omega)), ?_⟩
  conv => lhs; rw [← h1.eq, ← h2.eq, ← h]
  simp only [Int.mul_assoc, Int.mul_comm, Int.mul_left_comm]

theorem sq_le12 {p n : Nat} (h : p * p ≤ n) (hn : n ≤ 1000000000000) : p ≤ 1000000 := sq_le6 h hn
/-- what the loop hands on -/
structure CoreInv (n L : Int) (R p : Nat) : Prop where
  ne : L ≠ 0
  pos : 1 ≤ R
  eq : L * ((R : Int) * R) = n
  less : ∀ d, 2 ≤ d → d < p → ¬ d * d ∣ L.natAbs
theorem CoreInv.core {n L : Int} {R p : Nat} (h : CoreInv n L R p) (hp : ¬ p * p ≤ L.natAbs) : IsCore L R n := by
  refine ⟨h.eq, h.pos, fun d hd hdd => ?_⟩
  by_cases hlt : d < p
  · exact h.less d hd hlt hdd
  · have h1 := Nat.le_of_dvd (by have := h.ne; omega) hdd
    have h2 := Nat.mul_le_mul (show p ≤ d by omega) (show p ≤ d by omega)
    omega
theorem CoreInv.div {n L : Int} {R p : Nat} (hp : 2 ≤ p) (h : CoreInv n L R p) (hd : (p : Int) * p ∣ L) : CoreInv n (L.tdiv ((p : Int) * p)) (R * p) p := by
  have hc := Int.tdiv_mul_cancel hd
  have hn0 : L.tdiv ((p : Int) * p) ≠ 0 := by
    intro e
    rw [e, Int.zero_mul] at hc
    exact h.ne hc.symm
  refine ⟨hn0, Nat.mul_pos h.pos (by omega), ?_, fun d h2 hlt hdd => h.less d h2 hlt ?_⟩
  · rw [← h.eq]
    conv => rhs; rw [← hc]
    push_cast
    simp only [Int.mul_assoc, Int.mul_comm, Int.mul_left_comm]
  · refine Nat.dvd_trans hdd ?_
    rw [Int.natAbs_dvd_natAbs]
    exact ⟨(p : Int) * p, hc.symm⟩
theorem CoreInv.next {n L : Int} {R p : Nat} (h : CoreInv n L R p) (hd : ¬ (p : Int) * p ∣ L) : CoreInv n L R (p + 1) := by
  refine ⟨h.ne, h.pos, h.eq, fun d h2 hlt hdd => ?_⟩
  by_cases e : d = p
  · subst e
    exact hd (by rw [← Int.natAbs_dvd_natAbs, Int.natAbs_mul, Int.natAbs_natCast]; exact hdd)
  · exact h.less d h2 (by omega) hdd
theorem CoreInv.root {n L : Int} {R p : Nat} (h : CoreInv n L R p) (hn : n.natAbs ≤ 1000000000000) : R ≤ 1000000 := by
  have e : n.natAbs = L.natAbs * (R * R) := by rw [← h.eq, Int.natAbs_mul, Int.natAbs_mul, Int.natAbs_natCast]
  have h1 : R * R ≤ n.natAbs := by rw [e]; exact Nat.le_mul_of_pos_left _ (by have := h.ne; omega)
  exact sq_le12 h1 hn


end Go.Proofs.Ytjabklpnohfjpab

/-! Vals4 -/
set_option linter.unusedVariables false
namespace Go.Proofs.Ytjabklpnohfjpab
open Go.RowKit

def termB (x : Int) : Bool := !(decide (x = 0)) && inR x (-30) 30
/-- is it a form? -/
def fvB (xs : List Int) : Bool := xs.all termB && inR (xs.length : Nat) 1 4
theorem termB_iff {x : Int} : termB x = true ↔ x ≠ 0 ∧ -30 ≤ x ∧ x ≤ 30 := by
  unfold termB inR
  simp only [Bool.and_eq_true, Bool.not_eq_true', decide_eq_false_iff_not, decide_eq_true_eq]
theorem fvB_iff {xs : List Int} : fvB xs = true ↔ (∀ x ∈ xs, x ≠ 0 ∧ -30 ≤ x ∧ x ≤ 30) ∧ 1 ≤ xs.length ∧ xs.length ≤ 4 := by
  unfold fvB inR
  rw [Bool.and_eq_true, List.all_eq_true, Bool.and_eq_true, decide_eq_true_eq, decide_eq_true_eq]
  constructor
  · rintro ⟨h1, h2, h3⟩
    exact ⟨fun x hx => termB_iff.1 (h1 x hx), by omega, by omega⟩
  · rintro ⟨h1, h2, h3⟩
    exact ⟨fun x hx => termB_iff.2 (h1 x hx), by omega, by omega⟩
theorem fv_at {xs : List Int} (h : fvB xs = true) {i : Nat} (hi : i < xs.length) : xs.getD i 0 ≠ 0 ∧ -30 ≤ xs.getD i 0 ∧ xs.getD i 0 ≤ 30 := by
  rw [getD_at _ _ hi]
  exact (fvB_iff.1 h).1 _ (List.getElem_mem _)

def prodI : List Int → Int
  | [] => 1
  | x :: xs => x * prodI xs
theorem prodI_app : ∀ xs ys : List Int, prodI (xs ++ ys) = prodI xs * prodI ys
  | [], ys => by show prodI ys = 1 * prodI ys; rw [Int.one_mul]
  | x :: xs, ys => by
    show x * prodI (xs ++ ys) = x * prodI xs * prodI ys
    rw [prodI_app xs ys, Int.mul_assoc]
theorem prodI_take {xs : List Int} {i : Nat} (hi : i < xs.length) : prodI (xs.take (i + 1)) = prodI (xs.take i) * xs.getD i 0 := by
  rw [take_snoc _ _ hi, prodI_app, getD_at _ _ hi]
  show prodI (xs.take i) * (xs[i] * 1) = _
  rw [Int.mul_one]
theorem prodI_ne : ∀ {xs : List Int}, (∀ x ∈ xs, x ≠ 0) → prodI xs ≠ 0
  | [], _ => by decide
  | x :: xs, h => Int.mul_ne_zero (h x (List.mem_cons_self ..)) (prodI_ne fun y hy => h y (List.mem_cons_of_mem _ hy))
theorem prodI_abs : ∀ {xs : List Int}, (∀ x ∈ xs, -30 ≤ x ∧ x ≤ 30) → (prodI xs).natAbs ≤ 30 ^ xs.length
  | [], _ => by decide
  | x :: xs, h => by
    have h1 := h x (List.mem_cons_self ..)
    have h2 := prodI_abs (xs := xs) fun y hy => h y (List.mem_cons_of_mem _ hy)
    show (x * prodI xs).natAbs ≤ 30 ^ (xs.length + 1)
    rw [Int.natAbs_mul, Nat.pow_succ, Nat.mul_comm (30 ^ xs.length)]
    exact Nat.mul_le_mul (by omega) h2
theorem prod_fv {xs : List Int} (h : fvB xs = true) (i : Nat) : prodI (xs.take i) ≠ 0 ∧ -810000 ≤ prodI (xs.take i) ∧ prodI (xs.take i) ≤ 810000 := by
  obtain ⟨h1, h2, h3⟩ := fvB_iff.1 h
  have hm : ∀ x ∈ xs.take i, x ≠ 0 ∧ -30 ≤ x ∧ x ≤ 30 := fun x hx => h1 x (List.mem_of_mem_take hx)
  have ha := prodI_abs (xs := xs.take i) (fun x hx => (hm x hx).2)
  have hp := Nat.pow_le_pow_right (show 1 ≤ 30 by decide) (show (xs.take i).length ≤ 4 by rw [List.length_take]; omega)
  exact ⟨prodI_ne fun x hx => (hm x hx).1, by omega, by omega⟩
theorem prod_full {xs : List Int} (h : fvB xs = true) : prodI xs ≠ 0 ∧ -810000 ≤ prodI xs ∧ prodI xs ≤ 810000 := by
  have := prod_fv h xs.length
  rwa [List.take_length] at this

/-- values at a vector -/
def valI (xs vs : List Int) : Nat → Int
  | 0 => 0
  | i + 1 => valI xs vs i + xs.getD i 0 * vs.getD i 0 * vs.getD i 0
def vecB (xs vs : List Int) (most : Int) : Bool := vs.all (fun v => inR v (-most) most) && (fvB xs && (vs.length == xs.length))
theorem term_bd {x v : Int} (h1 : -30 ≤ x) (h2 : x ≤ 30) (h3 : -1000 ≤ v) (h4 : v ≤ 1000) : -30000 ≤ x * v ∧ x * v ≤ 30000 ∧ -30000000 ≤ x * v * v ∧ x * v * v ≤ 30000000 := by
  have e1 : (x * v).natAbs ≤ 30 * 1000 := by rw [Int.natAbs_mul]; exact Nat.mul_le_mul (by omega) (by omega)
  have e2 : (x * v * v).natAbs ≤ 30 * 1000 * 1000 := by rw [Int.natAbs_mul]; exact Nat.mul_le_mul e1 (by omega)
  omega
theorem valI_bd {xs vs : List Int} (h : fvB xs = true) (hv : ∀ v ∈ vs, -1000 ≤ v ∧ v ≤ 1000) (hl : vs.length = xs.length) : ∀ i, i ≤ xs.length → -30000000 * (i : Int) ≤ valI xs vs i ∧ valI xs vs i ≤ 30000000 * (i : Int)
  | 0, _ => by simp [valI]
  | i + 1, hi => by
    have ih := valI_bd h hv hl i (by omega)
    have ht := fv_at h (show i < xs.length by omega)
    have hvv := hv (vs.getD i 0) (by rw [getD_at _ _ (by omega)]; exact List.getElem_mem _)
    have hb := term_bd ht.2.1 ht.2.2 hvv.1 hvv.2
    unfold valI
    push_cast
    omega

def lessN (xs : List Int) : Nat := (xs.filter (fun x => decide (x < 0))).length
theorem less_le (xs : List Int) : lessN xs ≤ xs.length := List.length_filter_le _ _
theorem less_take {xs : List Int} {i : Nat} (hi : i < xs.length) : lessN (xs.take (i + 1)) = lessN (xs.take i) + (if xs.getD i 0 < 0 then 1 else 0) := by
  unfold lessN
  rw [filter_step hi, List.length_append]
  by_cases h : xs.getD i 0 < 0
  · rw [if_pos (decide_eq_true h), if_pos h]; rfl
  · rw [if_neg (by rw [decide_eq_false h]; decide), if_neg h]; rfl

/-- the product of the symbols of a term with the first k -/
def hasR (xs : List Int) (q : Int) (i : Nat) : Nat → Int
  | 0 => 1
  | k + 1 => hasR xs q i k * symV (xs.getD k 0) (xs.getD i 0) q
/-- the invariant of the first i terms -/
def hasP (xs : List Int) (q : Int) : Nat → Int
  | 0 => 1
  | i + 1 => hasP xs q i * hasR xs q i i
def hasF (xs : List Int) (q : Int) : Int := hasP xs q xs.length
theorem pm_mul {a b : Int} (ha : a = 1 ∨ a = -1) (hb : b = 1 ∨ b = -1) : a * b = 1 ∨ a * b = -1 := by
  rcases ha with rfl | rfl <;> rcases hb with rfl | rfl <;> decide
theorem hasR_pm {xs : List Int} {q : Int} (hq : plI q = true) (h : ∀ x ∈ xs, x ≠ 0) {i : Nat} (hi : i < xs.length) : ∀ k, k ≤ xs.length → hasR xs q i k = 1 ∨ hasR xs q i k = -1
  | 0, _ => .inl rfl
  | k + 1, hk => pm_mul (hasR_pm hq h hi k (by omega)) (symV_val (by rw [getD_at _ _ (by omega)]; exact h _ (List.getElem_mem _)) (by rw [getD_at _ _ hi]; exact h _ (List.getElem_mem _)) hq)
theorem hasP_pm {xs : List Int} {q : Int} (hq : plI q = true) (h : ∀ x ∈ xs, x ≠ 0) : ∀ i, i ≤ xs.length → hasP xs q i = 1 ∨ hasP xs q i = -1
  | 0, _ => .inl rfl
  | i + 1, hi => pm_mul (hasP_pm hq h i (by omega)) (hasR_pm hq h (by omega) i (by omega))
theorem hasF_pm {xs : List Int} {q : Int} (hq : plI q = true) (h : ∀ x ∈ xs, x ≠ 0) : hasF xs q = 1 ∨ hasF xs q = -1 := hasP_pm hq h _ (Nat.le_refl _)

/-- what chapter 4's functions answer -/
def fvalV (xs vs : List Int) : Value := if vecB xs vs 1000 then .tuple #[.int .i64 (valI xs vs xs.length), .bool true] else .tuple #[.int .i64 0, .bool false]
def discV (xs : List Int) : Int := if fvB xs then coreG (prodI xs) else 0
def signsV (xs : List Int) : Value := if fvB xs then .tuple #[.int .i64 ((xs.length : Int) - 2 * (lessN xs : Int)), .bool true] else .tuple #[.int .i64 0, .bool false]
def finvV (xs : List Int) (q : Int) : Int := if fvB xs && plI q then hasF xs q else 0
def fplL (xs : List Int) : List Int := if fvB xs then placesG (prodI xs) else []
/-- does a form vanish at a place? -/
def vanB (xs : List Int) (q : Int) : Bool :=
  if q = 0 then decide (0 < lessN xs) && decide (lessN xs < xs.length)
  else match xs.length with
    | 1 => false
    | 2 => sqAt (-(prodI xs)) q
    | 3 => hasF xs q == symV (-1) (-(prodI xs)) q
    | _ => !sqAt (prodI xs) q || (hasF xs q == symV (-1) (-1) q)
theorem van_one {xs : List Int} {q : Int} (h : q ≠ 0) (hl : xs.length = 1) : vanB xs q = false := by
  unfold vanB; rw [if_neg h, hl]; rfl
theorem van_two {xs : List Int} {q : Int} (h : q ≠ 0) (hl : xs.length = 2) : vanB xs q = sqAt (-(prodI xs)) q := by
  unfold vanB; rw [if_neg h, hl]; rfl
theorem van_three {xs : List Int} {q : Int} (h : q ≠ 0) (hl : xs.length = 3) : vanB xs q = (hasF xs q == symV (-1) (-(prodI xs)) q) := by
  unfold vanB; rw [if_neg h, hl]; rfl
theorem van_four {xs : List Int} {q : Int} (h : q ≠ 0) (hl : xs.length = 4) : vanB xs q = (!sqAt (prodI xs) q || (hasF xs q == symV (-1) (-1) q)) := by
  unfold vanB; rw [if_neg h, hl]; rfl
def fvanV (xs : List Int) (q : Int) : Bool := fvB xs && (plI q && vanB xs q)
def badL (xs : List Int) : List Int := (fplL xs).filter (fun q => !vanB xs q)
def alikeB (a b : List Int) (q : Int) : Bool := if q = 0 then lessN a == lessN b else sqAt (prodI a * prodI b) q && (hasF a q == hasF b q)
def bothB (a b : List Int) : Bool := fvB a && (fvB b && (a.length == b.length))
def falikeV (a b : List Int) (q : Int) : Bool := bothB a b && (plI q && alikeB a b q)
def fsameV (a b : List Int) : Bool := bothB a b && (decide (coreG (prodI a) = coreG (prodI b)) && (placesG (prodI a * prodI b)).all (alikeB a b))
def joinOk (a b : List Int) : Bool := fvB a && (fvB b && fvB (a ++ b))
def joinL (a b : List Int) : List Int := if joinOk a b then a ++ b else []
def timesL (xs : List Int) (n : Int) : List Int := xs.map (fun x => coreG (n * x))
def timesOk (xs : List Int) (n : Int) : Bool := fvB xs && (factB n && fvB (timesL xs n))
def ftimesL (xs : List Int) (n : Int) : List Int := if timesOk xs n then timesL xs n else []
def fcoresL (xs : List Int) : List Int := if fvB xs then timesL xs 1 else []

end Go.Proofs.Ytjabklpnohfjpab

/-! Stein -/
set_option linter.unusedVariables false
namespace Go.Proofs.Ytjabklpnohfjpab
open Go.RowKit

theorem cls_tt {t q : Int} (ht : t ≠ 0) (hq : plI q = true) : cls (t * t) q = (0, 1) := by
  rw [cls_mul ht ht hq]
  exact (comb_one hq (cls_mem ht hq) (cls_mem ht hq)).2 rfl
theorem cls_sqI {n t q : Int} (hn : n ≠ 0) (ht : t ≠ 0) (hq : plI q = true) : cls (n * (t * t)) q = cls n q := by
  have h1 := cls_mul hn (show (1 : Int) ≠ 0 by decide) hq
  rw [Int.mul_one] at h1
  have h2 := cls_tt (show (1 : Int) ≠ 0 by decide) hq
  rw [Int.mul_one] at h2
  rw [h2] at h1
  rw [cls_mul hn (Int.mul_ne_zero ht ht) hq, cls_tt ht hq, ← h1]
theorem primeI_dvd_mul {P : Nat} (hP : primeN P = true) {a b : Int} (h : (P : Int) ∣ a * b) : (P : Int) ∣ a ∨ (P : Int) ∣ b := by
  rw [Int.ofNat_dvd_left, Int.natAbs_mul] at h
  rw [Int.ofNat_dvd_left, Int.ofNat_dvd_left]
  exact prime_mul hP h
/-- what a prime does not divide has its residue for its class -/
theorem cls_ndvd {P : Nat} (hP : primeN P = true) (h3 : 3 ≤ P) {n : Int} (hn : ¬ (P : Int) ∣ n) : cls n (P : Int) = (0, resN (n % (P : Int)).toNat P) := by
  have h0 : n ≠ 0 := by rintro rfl; exact hn (Int.dvd_zero _)
  rw [Int.ofNat_dvd_left] at hn
  obtain ⟨a, b⟩ := unit_self hP hn h0
  rw [cls_odd h3, a, b]
theorem cls_cong {P : Nat} (hP : primeN P = true) (h3 : 3 ≤ P) {n m : Int} (hn : ¬ (P : Int) ∣ n) (h : (P : Int) ∣ n - m) : cls n (P : Int) = cls m (P : Int) := by
  have hm : ¬ (P : Int) ∣ m := fun hd => hn (by have := Int.dvd_add h hd; rwa [Int.sub_add_cancel] at this)
  rw [cls_ndvd hP h3 hn, cls_ndvd hP h3 hm, Int.emod_eq_emod_iff_emod_sub_eq_zero.2 (Int.emod_eq_zero_of_dvd h)]
theorem sym_units {P : Nat} (hP : primeN P = true) (h3 : 3 ≤ P) {a b : Int} (ha : ¬ (P : Int) ∣ a) (hb : ¬ (P : Int) ∣ b) : symV a b (P : Int) = 1 := by
  unfold symV symC
  rw [cls_ndvd hP h3 ha, cls_ndvd hP h3 hb, if_neg (by omega), if_neg (by omega)]
  simp [halfI]

theorem stein_odd {P : Nat} (hq : plI (P : Int) = true) (hP : primeN P = true) (h3 : 3 ≤ P) : ∀ (N : Nat) (u v z : Int), u.natAbs ≤ N → u ≠ 0 → v ≠ 0 → u + v = z * z → symV u v (P : Int) = 1
  | 0, u, v, z, hN, hu, _, _ => absurd hN (by omega)
  | N + 1, u, v, z, hN, hu, hv, he => by
    have hP0 : (P : Int) ≠ 0 := by omega
    by_cases hd : (P : Int) * P ∣ u ∧ (P : Int) * P ∣ v
    · obtain ⟨⟨u1, rfl⟩, ⟨v1, rfl⟩⟩ := hd
      have hz : (P : Int) ∣ z := by
        have h1 : (P : Int) ∣ z * z := by
          rw [← he, ← Int.mul_add, Int.mul_assoc]; exact Int.dvd_mul_right _ _
        rcases primeI_dvd_mul hP h1 with h | h <;> exact h
      obtain ⟨z1, rfl⟩ := hz
      have hu1 : u1 ≠ 0 := by rintro rfl; exact hu (Int.mul_zero _)
      have hv1 : v1 ≠ 0 := by rintro rfl; exact hv (Int.mul_zero _)
      have he1 : u1 + v1 = z1 * z1 := by
        refine Int.eq_of_mul_eq_mul_left (Int.mul_ne_zero hP0 hP0) ?_
        rw [Int.mul_add, he, Int.mul_assoc, Int.mul_assoc, ← Int.mul_assoc z1, Int.mul_comm z1 (P : Int), Int.mul_assoc]
      have hlt : u1.natAbs ≤ N := by
        rw [Int.natAbs_mul, Int.natAbs_mul, Int.natAbs_natCast] at hN
        have h1 : 1 ≤ u1.natAbs := by omega
        have h2 := Nat.mul_le_mul (show 2 ≤ P * P from Nat.le_trans (show 2 ≤ 3 * 3 by decide) (Nat.mul_le_mul h3 h3)) (Nat.le_refl u1.natAbs)
        omega
      rw [Int.mul_comm _ u1, Int.mul_comm _ v1]
      rw [symV_congr (cls_sqI hu1 hP0 hq) (cls_sqI hv1 hP0 hq)]
      exact stein_odd hq hP h3 N u1 v1 z1 hlt hu1 hv1 he1
    · by_cases hpu : (P : Int) ∣ u
      · by_cases hpv : (P : Int) ∣ v
        · have hz : (P : Int) ∣ z := by
            have h1 : (P : Int) ∣ z * z := by rw [← he]; exact Int.dvd_add hpu hpv
            rcases primeI_dvd_mul hP h1 with h | h <;> exact h
          obtain ⟨z1, rfl⟩ := hz
          obtain ⟨u1, rfl⟩ := hpu
          obtain ⟨v1, rfl⟩ := hpv
          have hu1 : u1 ≠ 0 := by rintro rfl; exact hu (Int.mul_zero _)
          have hv1 : v1 ≠ 0 := by rintro rfl; exact hv (Int.mul_zero _)
          have he1 : u1 + v1 = (P : Int) * (z1 * z1) := by
            refine Int.eq_of_mul_eq_mul_left hP0 ?_
            rw [Int.mul_add, he, Int.mul_assoc, Int.mul_left_comm z1]
          have hnv : ¬ (P : Int) ∣ v1 := fun h => hd ⟨Int.mul_dvd_mul_left _ (by
            have h1 : (P : Int) ∣ u1 + v1 := by rw [he1]; exact Int.dvd_mul_right _ _
            have := Int.dvd_sub h1 h
            rwa [Int.add_sub_cancel] at this), Int.mul_dvd_mul_left _ h⟩
          have hc : cls v1 (P : Int) = cls (-u1) (P : Int) := cls_cong hP h3 hnv (by
            rw [Int.sub_neg, Int.add_comm, he1]; exact Int.dvd_mul_right _ _)
          have hc2 : cls ((P : Int) * v1) (P : Int) = cls (-((P : Int) * u1)) (P : Int) := by
            rw [← Int.mul_neg, cls_mul hP0 hv1 hq, cls_mul hP0 (by omega) hq, hc]
          rw [symV_congr (c := (P : Int) * u1) (d := -((P : Int) * u1)) rfl hc2]
          exact symV_minus hu hq
        · have hc : cls v (P : Int) = cls (z * z) (P : Int) := cls_cong hP h3 hpv (by
            rw [← he, show v - (u + v) = -u by omega]; exact Int.dvd_neg.2 hpu)
          have hz : z ≠ 0 := by
            rintro rfl
            exact hpv (by rw [show v = -u by omega]; exact Int.dvd_neg.2 hpu)
          exact symV_sq hu hq (by unfold sqAt; rw [hc, cls_tt hz hq]; rfl)
      · by_cases hpv : (P : Int) ∣ v
        · have hc : cls u (P : Int) = cls (z * z) (P : Int) := cls_cong hP h3 hpu (by
            rw [← he, show u - (u + v) = -v by omega]; exact Int.dvd_neg.2 hpv)
          have hz : z ≠ 0 := by
            rintro rfl
            exact hpu (by rw [show u = -v by omega]; exact Int.dvd_neg.2 hpv)
          rw [symV_comm hu hv hq]
          exact symV_sq hv hq (by unfold sqAt; rw [hc, cls_tt hz hq]; rfl)
        · exact sym_units hP h3 hpu hpv

theorem plTwo : plI 2 = true := by decide
theorem cls2_odd {n : Int} (h : n % 2 = 1) : cls n 2 = (0, n % 8) := by
  have h0 : n ≠ 0 := by omega
  obtain ⟨a, b⟩ := unit_self prime2 (n := n) (by omega) h0
  rw [show ((2 : Nat) : Int) = 2 from rfl] at b
  rw [cls_two, a, b]
theorem cls2_two {n : Int} (h : n % 2 = 1) : cls (2 * n) 2 = (1, n % 8) := by
  rw [cls_mul (by decide) (by omega) plTwo, cls2_odd h, show cls 2 2 = (1, 1) by decide]
  unfold comb
  rw [if_pos rfl]
  simp
theorem cls2_four {n : Int} (h : n ≠ 0) : cls (4 * n) 2 = cls n 2 := by
  rw [show 4 * n = n * (2 * 2) by omega]
  exact cls_sqI h (by decide) plTwo
theorem sym2_fin1 : ∀ u ∈ ([1, 3, 5, 7] : List Int), ∀ v ∈ ([1, 3, 5, 7] : List Int), (u + v) % 4 = 0 → symC 2 (0, u) (0, v) = 1 := by decide +kernel
theorem sym2_fin2 : ∀ u ∈ ([1, 3, 5, 7] : List Int), ∀ v ∈ ([1, 3, 5, 7] : List Int), (u + 2 * v) % 8 = 1 → symC 2 (0, u) (1, v) = 1 := by decide +kernel
theorem sym2_fin3 : ∀ v ∈ ([1, 3, 5, 7] : List Int), symC 2 (0, 5) (0, v) = 1 := by decide +kernel
theorem sym2_fin4 : ∀ u ∈ ([1, 3, 5, 7] : List Int), ∀ v ∈ ([1, 3, 5, 7] : List Int), (u + v) % 8 = 0 ∨ (u + v) % 8 = 2 → symC 2 (1, u) (1, v) = 1 := by decide +kernel
theorem mod8_odd {n : Int} (h : n % 2 = 1) : n % 8 ∈ ([1, 3, 5, 7] : List Int) := by
  have : n % 8 = 1 ∨ n % 8 = 3 ∨ n % 8 = 5 ∨ n % 8 = 7 := by omega
  rcases this with h | h | h | h <;> rw [h] <;> decide
theorem sq_even {z : Int} (h : z % 2 = 0) : z * z % 4 = 0 := by
  obtain ⟨t, rfl⟩ : ∃ t, z = 2 * t := ⟨z / 2, by omega⟩
  rw [show 2 * t * (2 * t) = 4 * (t * t) by rw [Int.mul_assoc, Int.mul_left_comm t, ← Int.mul_assoc]; rfl]
  exact Int.mul_emod_right _ _
theorem sq_odd {z : Int} (h : z % 2 = 1) : z * z % 8 = 1 := by
  have h8 : z % 8 = 1 ∨ z % 8 = 3 ∨ z % 8 = 5 ∨ z % 8 = 7 := by omega
  rw [Int.mul_emod]
  rcases h8 with h | h | h | h <;> rw [h] <;> rfl
/-- an odd number and an even one -/
theorem stein2_oe {u v z : Int} (hu : u % 2 = 1) (hv : v % 2 = 0) (v0 : v ≠ 0) (he : u + v = z * z) : symV u v 2 = 1 := by
  have hz : z % 2 = 1 := by
    by_cases h : z % 2 = 0
    · have := sq_even h; omega
    · omega
  have hz8 := sq_odd hz
  rw [← he] at hz8
  obtain ⟨w, rfl⟩ : ∃ w, v = 2 * w := ⟨v / 2, by omega⟩
  by_cases hw : w % 2 = 1
  · unfold symV
    rw [cls2_odd hu, cls2_two hw]
    exact sym2_fin2 _ (mod8_odd hu) _ (mod8_odd hw) (by omega)
  · obtain ⟨t, rfl⟩ : ∃ t, w = 2 * t := ⟨w / 2, by omega⟩
    have ht0 : t ≠ 0 := by omega
    by_cases ht : t % 2 = 1
    · unfold symV
      rw [show 2 * (2 * t) = 4 * t by omega, cls2_four ht0, cls2_odd hu, cls2_odd ht, show u % 8 = 5 by omega]
      exact sym2_fin3 _ (mod8_odd ht)
    · have h1 : u % 8 = 1 := by omega
      rw [symV_comm (by omega) v0 plTwo]
      exact symV_sq v0 plTwo (by unfold sqAt; rw [cls2_odd hu, h1]; rfl)
theorem stein_two : ∀ (N : Nat) (u v z : Int), u.natAbs ≤ N → u ≠ 0 → v ≠ 0 → u + v = z * z → symV u v 2 = 1
  | 0, u, v, z, hN, hu, _, _ => absurd hN (by omega)
  | N + 1, u, v, z, hN, hu, hv, he => by
    by_cases hu2 : u % 2 = 1
    · by_cases hv2 : v % 2 = 1
      · have hz : z % 2 = 0 := by
          by_cases h : z % 2 = 1
          · have := sq_odd h; omega
          · omega
        have h4 := sq_even hz
        rw [← he] at h4
        unfold symV
        rw [cls2_odd hu2, cls2_odd hv2]
        exact sym2_fin1 _ (mod8_odd hu2) _ (mod8_odd hv2) (by omega)
      · exact stein2_oe hu2 (by omega) hv he
    · by_cases hv2 : v % 2 = 1
      · rw [symV_comm hu hv plTwo]
        exact stein2_oe (z := z) hv2 (by omega) hu (by omega)
      · have hz : z % 2 = 0 := by
          by_cases h : z % 2 = 1
          · have := sq_odd h; omega
          · omega
        obtain ⟨z1, rfl⟩ : ∃ t, z = 2 * t := ⟨z / 2, by omega⟩
        obtain ⟨u1, rfl⟩ : ∃ t, u = 2 * t := ⟨u / 2, by omega⟩
        obtain ⟨v1, rfl⟩ : ∃ t, v = 2 * t := ⟨v / 2, by omega⟩
        have he1 : u1 + v1 = 2 * (z1 * z1) := by
          have : 2 * z1 * (2 * z1) = 4 * (z1 * z1) := by rw [Int.mul_assoc, Int.mul_left_comm z1, ← Int.mul_assoc]; rfl
          omega
        by_cases hu3 : u1 % 2 = 1
        · have hv3 : v1 % 2 = 1 := by omega
          have hs : (u1 + v1) % 8 = 0 ∨ (u1 + v1) % 8 = 2 := by
            rw [he1]
            by_cases h : z1 % 2 = 0
            · have := sq_even h; omega
            · have := sq_odd (show z1 % 2 = 1 by omega); omega
          unfold symV
          rw [cls2_two hu3, cls2_two hv3]
          exact sym2_fin4 _ (mod8_odd hu3) _ (mod8_odd hv3) (by omega)
        · obtain ⟨u2, rfl⟩ : ∃ t, u1 = 2 * t := ⟨u1 / 2, by omega⟩
          obtain ⟨v2, rfl⟩ : ∃ t, v1 = 2 * t := ⟨v1 / 2, by omega⟩
          have hu4 : u2 ≠ 0 := by omega
          have hv4 : v2 ≠ 0 := by omega
          rw [show 2 * (2 * u2) = 4 * u2 by omega, show 2 * (2 * v2) = 4 * v2 by omega, symV_congr (cls2_four hu4) (cls2_four hv4)]
          exact stein_two N u2 v2 z1 (by omega) hu4 hv4 (by omega)

/-- where two numbers add up to a square, their symbol is 1 at each place -/
theorem stein_sq {u v z q : Int} (hu : u ≠ 0) (hv : v ≠ 0) (he : u + v = z * z) (hq : plI q = true) : symV u v q = 1 := by
  rcases plI_cases hq with rfl | rfl | ⟨P, rfl, hP, h3, h5⟩
  · have hz : 0 ≤ z * z := by
      rcases Int.le_total 0 z with h | h
      · exact Int.mul_nonneg h h
      · exact Int.mul_nonneg_of_nonpos_of_nonpos h h
    unfold symV symC
    rw [cls_zero, cls_zero, if_pos rfl]
    by_cases h : 0 < u
    · rw [if_pos h]; simp
    · rw [if_neg h, if_pos (by omega : 0 < v)]; simp
  · exact stein_two _ u v z (Nat.le_refl _) hu hv he
  · exact stein_odd hq hP h3 _ u v z (Nat.le_refl _) hu hv he
/-- what is solved has the symbol 1 -/
theorem solved_one {a b x y z q : Int} (ha : a ≠ 0) (hb : b ≠ 0) (hn : ¬ (x = 0 ∧ y = 0 ∧ z = 0)) (he : z * z = a * x * x + b * y * y) (hq : plI q = true) : symV a b q = 1 := by
  rw [Int.mul_assoc, Int.mul_assoc] at he
  by_cases hx : x = 0
  · subst hx
    rw [Int.mul_zero, Int.mul_zero, Int.zero_add] at he
    have hz : z ≠ 0 := by
      rintro rfl
      rw [Int.mul_zero] at he
      have hy : y ≠ 0 := fun h => hn ⟨rfl, h, rfl⟩
      exact Int.mul_ne_zero hb (Int.mul_ne_zero hy hy) he.symm
    have hy : y ≠ 0 := by
      rintro rfl
      rw [Int.mul_zero, Int.mul_zero] at he
      exact Int.mul_ne_zero hz hz he
    refine symV_sq ha hq ?_
    unfold sqAt
    rw [← cls_sqI hb hy hq, ← he, cls_tt hz hq]
    rfl
  · by_cases hy : y = 0
    · subst hy
      rw [Int.mul_zero, Int.mul_zero, Int.add_zero] at he
      have hz : z ≠ 0 := by
        rintro rfl
        rw [Int.mul_zero] at he
        exact Int.mul_ne_zero ha (Int.mul_ne_zero hx hx) he.symm
      rw [symV_comm ha hb hq]
      refine symV_sq hb hq ?_
      unfold sqAt
      rw [← cls_sqI ha hx hq, ← he, cls_tt hz hq]
      rfl
    · have h1 := stein_sq (Int.mul_ne_zero ha (Int.mul_ne_zero hx hx)) (Int.mul_ne_zero hb (Int.mul_ne_zero hy hy)) he.symm hq
      rwa [symV_congr (cls_sqI ha hx hq) (cls_sqI hb hy hq)] at h1

end Go.Proofs.Ytjabklpnohfjpab

/-! FmTh -/
set_option linter.unusedVariables false
namespace Go.Proofs.Ytjabklpnohfjpab
open Go.RowKit

def NZ (xs : List Int) : Prop := ∀ x ∈ xs, x ≠ 0
theorem NZ.tail {x : Int} {xs : List Int} (h : NZ (x :: xs)) : NZ xs := fun y hy => h y (List.mem_cons_of_mem _ hy)
theorem NZ.head {x : Int} {xs : List Int} (h : NZ (x :: xs)) : x ≠ 0 := h x (List.mem_cons_self ..)
theorem NZ.prod {xs : List Int} (h : NZ xs) : prodI xs ≠ 0 := prodI_ne h
theorem NZ.app {xs ys : List Int} (h : NZ xs) (k : NZ ys) : NZ (xs ++ ys) := fun x hx => by
  rcases List.mem_append.1 hx with h1 | h1
  · exact h x h1
  · exact k x h1
theorem NZ.left {xs ys : List Int} (h : NZ (xs ++ ys)) : NZ xs := fun x hx => h x (List.mem_append_left _ hx)
theorem NZ.right {xs ys : List Int} (h : NZ (xs ++ ys)) : NZ ys := fun x hx => h x (List.mem_append_right _ hx)
theorem fv_nz {xs : List Int} (h : fvB xs = true) : NZ xs := fun x hx => ((fvB_iff.1 h).1 x hx).1

theorem symV_one {a q : Int} (ha : a ≠ 0) (hq : plI q = true) : symV a 1 q = 1 := by
  refine symV_sq ha hq ?_
  unfold sqAt
  have := cls_tt (show (1 : Int) ≠ 0 by decide) hq
  rw [Int.mul_one] at this
  rw [this]; rfl
theorem symV_mul_left {a b c q : Int} (ha : a ≠ 0) (hb : b ≠ 0) (hc : c ≠ 0) (hq : plI q = true) : symV (a * b) c q = symV a c q * symV b c q := by
  rw [symV_comm (Int.mul_ne_zero ha hb) hc hq, symV_mul hc ha hb hq, symV_comm hc ha hq, symV_comm hc hb hq]

/-- the invariant, term by term -/
def hasC (q : Int) : List Int → Int
  | [] => 1
  | x :: xs => symV x (prodI xs) q * hasC q xs
theorem hasC_pm {q : Int} (hq : plI q = true) : ∀ {xs : List Int}, NZ xs → hasC q xs = 1 ∨ hasC q xs = -1
  | [], _ => .inl rfl
  | x :: xs, h => pm_mul (symV_val h.head h.tail.prod hq) (hasC_pm hq h.tail)
theorem hasC_app {q : Int} (hq : plI q = true) : ∀ {xs ys : List Int}, NZ xs → NZ ys → hasC q (xs ++ ys) = hasC q xs * hasC q ys * symV (prodI xs) (prodI ys) q
  | [], ys, _, hy => by
    show hasC q ys = 1 * hasC q ys * symV 1 (prodI ys) q
    rw [symV_comm (by decide) hy.prod hq, symV_one hy.prod hq, Int.one_mul, Int.mul_one]
  | x :: xs, ys, hx, hy => by
    show symV x (prodI (xs ++ ys)) q * hasC q (xs ++ ys) = symV x (prodI xs) q * hasC q xs * hasC q ys * symV (x * prodI xs) (prodI ys) q
    rw [prodI_app, symV_mul hx.head hx.tail.prod hy.prod hq, hasC_app hq hx.tail hy, symV_mul_left hx.head hx.tail.prod hy.prod hq]
    simp only [Int.mul_assoc, Int.mul_comm, Int.mul_left_comm]
theorem hasC_one (q : Int) (hq : plI q = true) {x : Int} (hx : x ≠ 0) : hasC q [x] = 1 := by
  show symV x 1 q * 1 = 1
  rw [symV_one hx hq]; rfl
theorem hasR_prod {xs : List Int} {q : Int} (hq : plI q = true) (h : NZ xs) {i : Nat} (hi : i < xs.length) : ∀ k, k ≤ xs.length → hasR xs q i k = symV (prodI (xs.take k)) (xs.getD i 0) q
  | 0, _ => by
    have hx : xs.getD i 0 ≠ 0 := by rw [getD_at _ _ hi]; exact h _ (List.getElem_mem _)
    show 1 = symV 1 (xs.getD i 0) q
    rw [symV_comm (by decide) hx hq, symV_one hx hq]
  | k + 1, hk => by
    have hx : xs.getD i 0 ≠ 0 := by rw [getD_at _ _ hi]; exact h _ (List.getElem_mem _)
    have hy : xs.getD k 0 ≠ 0 := by rw [getD_at _ _ (by omega)]; exact h _ (List.getElem_mem _)
    have hp : prodI (xs.take k) ≠ 0 := prodI_ne fun x hx => h x (List.mem_of_mem_take hx)
    show hasR xs q i k * symV (xs.getD k 0) (xs.getD i 0) q = _
    rw [hasR_prod hq h hi k (by omega), prodI_take (by omega), symV_mul_left hp hy hx hq]
theorem hasP_eq {xs : List Int} {q : Int} (hq : plI q = true) (h : NZ xs) : ∀ i, i ≤ xs.length → hasP xs q i = hasC q (xs.take i)
  | 0, _ => by rw [List.take_zero]; rfl
  | i + 1, hi => by
    have hx : xs.getD i 0 ≠ 0 := by rw [getD_at _ _ (by omega)]; exact h _ (List.getElem_mem _)
    have ht : NZ (xs.take i) := fun x hx => h x (List.mem_of_mem_take hx)
    show hasP xs q i * hasR xs q i i = _
    rw [hasP_eq hq h i (by omega), hasR_prod hq h (by omega) i (by omega), take_snoc _ _ (show i < xs.length by omega), hasC_app hq ht (fun y hy => by
      rw [List.mem_singleton] at hy; rw [hy]; exact h _ (List.getElem_mem _)), hasC_one q hq (h _ (List.getElem_mem _)), getD_at _ _ (show i < xs.length by omega)]
    show _ = hasC q (xs.take i) * 1 * symV (prodI (xs.take i)) (xs[i] * 1) q
    rw [Int.mul_one, Int.mul_one]
theorem hasF_eq {xs : List Int} {q : Int} (hq : plI q = true) (h : NZ xs) : hasF xs q = hasC q xs := by
  unfold hasF
  rw [hasP_eq hq h _ (Nat.le_refl _), List.take_length]

theorem prodI_perm {xs ys : List Int} (h : xs.Perm ys) : prodI xs = prodI ys := by
  induction h with
  | nil => rfl
  | cons x _ ih => show x * _ = x * _; rw [ih]
  | swap x y l => show y * (x * prodI l) = x * (y * prodI l); exact Int.mul_left_comm ..
  | trans _ _ ih1 ih2 => rw [ih1, ih2]
theorem NZ.perm {xs ys : List Int} (h : xs.Perm ys) (hx : NZ xs) : NZ ys := fun y hy => hx y (h.mem_iff.2 hy)
theorem hasC_perm {q : Int} (hq : plI q = true) {xs ys : List Int} (h : xs.Perm ys) : NZ xs → hasC q xs = hasC q ys := by
  induction h with
  | nil => intro _; rfl
  | cons x hp ih =>
    intro hx
    show symV x _ q * hasC q _ = symV x _ q * hasC q _
    rw [ih hx.tail, prodI_perm hp]
  | swap x y l =>
    intro hx
    have hy0 := hx.head
    have hx0 := hx.tail.head
    have hl := hx.tail.tail.prod
    show symV y (x * prodI l) q * (symV x (prodI l) q * hasC q l) = symV x (y * prodI l) q * (symV y (prodI l) q * hasC q l)
    rw [symV_mul hy0 hx0 hl hq, symV_mul hx0 hy0 hl hq, symV_comm hy0 hx0 hq]
    simp only [Int.mul_assoc, Int.mul_comm, Int.mul_left_comm]
  | trans h1 _ ih1 ih2 => intro hx; rw [ih1 hx, ih2 (NZ.perm h1 hx)]
theorem less_perm {xs ys : List Int} (h : xs.Perm ys) : lessN xs = lessN ys := (h.filter _).length_eq
theorem less_app (xs ys : List Int) : lessN (xs ++ ys) = lessN xs + lessN ys := by unfold lessN; rw [List.filter_append, List.length_append]

/-- terms of the same classes -/
theorem prod_cls {q : Int} (hq : plI q = true) {f : Int → Int} (hf : ∀ x, x ≠ 0 → f x ≠ 0 ∧ cls (f x) q = cls x q) : ∀ {xs : List Int}, NZ xs → NZ (xs.map f) ∧ cls (prodI (xs.map f)) q = cls (prodI xs) q
  | [], _ => ⟨fun x hx => by simp at hx, rfl⟩
  | x :: xs, h => by
    obtain ⟨h1, h2⟩ := prod_cls hq hf h.tail
    obtain ⟨f1, f2⟩ := hf x h.head
    refine ⟨fun y hy => ?_, ?_⟩
    · rw [List.map_cons, List.mem_cons] at hy
      rcases hy with rfl | hy
      · exact f1
      · exact h1 y hy
    · show cls (f x * prodI (xs.map f)) q = cls (x * prodI xs) q
      rw [cls_mul f1 h1.prod hq, cls_mul h.head h.tail.prod hq, f2, h2]
theorem hasC_cls {q : Int} (hq : plI q = true) {f : Int → Int} (hf : ∀ x, x ≠ 0 → f x ≠ 0 ∧ cls (f x) q = cls x q) : ∀ {xs : List Int}, NZ xs → hasC q (xs.map f) = hasC q xs
  | [], _ => rfl
  | x :: xs, h => by
    show symV (f x) (prodI (xs.map f)) q * hasC q (xs.map f) = symV x (prodI xs) q * hasC q xs
    rw [hasC_cls hq hf h.tail, symV_congr (hf x h.head).2 (prod_cls hq hf h.tail).2]
theorem core_cls {n q : Int} (hn : n ≠ 0) (hq : plI q = true) : coreG n ≠ 0 ∧ cls (coreG n) q = cls n q := by
  have h := core_is hn
  have hc := h.ne hn
  refine ⟨hc, ?_⟩
  conv => rhs; rw [← h.eq]
  exact (cls_sqI hc (by have := h.pos; omega) hq).symm
theorem core_sign {n : Int} (hn : n ≠ 0) : (coreG n < 0 ↔ n < 0) := by
  have h := core_is hn
  have hr : (0 : Int) < (rootG n : Int) * rootG n := Int.mul_pos (by have := h.pos; omega) (by have := h.pos; omega)
  constructor
  · intro hc
    rw [← h.eq]
    exact Int.mul_neg_of_neg_of_pos hc hr
  · intro hc
    rcases Int.lt_or_le (coreG n) 0 with h1 | h1
    · exact h1
    · exfalso
      have h2 := Int.mul_nonneg h1 (Int.le_of_lt hr)
      rw [h.eq] at h2
      omega

/-- scaled by n: the invariant -/
theorem hasC_scale {q n : Int} (hq : plI q = true) (hn : n ≠ 0) : ∀ {xs : List Int}, NZ xs → NZ (xs.map (n * ·)) ∧
    (xs.length % 2 = 0 → cls (prodI (xs.map (n * ·))) q = cls (prodI xs) q) ∧ (xs.length % 2 = 1 → cls (prodI (xs.map (n * ·))) q = cls (n * prodI xs) q)
  | [], _ => ⟨fun x hx => by simp at hx, fun _ => rfl, fun h => by simp at h⟩
  | x :: xs, h => by
    obtain ⟨h1, h2, h3⟩ := hasC_scale hq hn h.tail
    have hx := h.head
    have hp := h.tail.prod
    refine ⟨fun y hy => ?_, fun hl => ?_, fun hl => ?_⟩
    · rw [List.map_cons, List.mem_cons] at hy
      rcases hy with rfl | hy
      · exact Int.mul_ne_zero hn hx
      · exact h1 y hy
    · show cls (n * x * prodI (xs.map (n * ·))) q = cls (x * prodI xs) q
      rw [List.length_cons] at hl
      rw [cls_mul (Int.mul_ne_zero hn hx) h1.prod hq, h3 (by omega), ← cls_mul (Int.mul_ne_zero hn hx) (Int.mul_ne_zero hn hp) hq,
        show n * x * (n * prodI xs) = x * prodI xs * (n * n) by simp only [Int.mul_assoc, Int.mul_comm, Int.mul_left_comm]]
      exact cls_sqI (Int.mul_ne_zero hx hp) hn hq
    · show cls (n * x * prodI (xs.map (n * ·))) q = cls (n * (x * prodI xs)) q
      rw [List.length_cons] at hl
      rw [cls_mul (Int.mul_ne_zero hn hx) h1.prod hq, h2 (by omega), ← cls_mul (Int.mul_ne_zero hn hx) hp hq, Int.mul_assoc]

/-- equal forms: the same at all places -/
theorem sq_cls {a b q : Int} (ha : a ≠ 0) (hb : b ≠ 0) (hq : plI q = true) : sqAt (a * b) q = true ↔ cls a q = cls b q := by
  rw [sq_mul ha hb hq, decide_eq_true_eq]

end Go.Proofs.Ytjabklpnohfjpab

/-! Fm1 -/
set_option linter.unusedVariables false
namespace Go.Proofs.Ytjabklpnohfjpab
open Go.RowKit

set_option maxRecDepth 100000 in
set_option maxHeartbeats 1000000 in
theorem formValidS_any (v : Value) (xs : List Int) (w : World) (h : Rd w v xs) : Calls Try.prog 87 #[v] w fun e w' => e = .returned (.bool (fvB xs)) ∧ w = w' := by
  obtain ⟨a, cap, rfl, hform⟩ := h.form
  have HFM := hid hform
  have hmx : xs.length ≤ maxLen := by
    rcases Nat.eq_zero_or_pos xs.length with e | e
    · rw [e]; exact Nat.zero_le _
    · obtain ⟨_, _, _, hm, _⟩ := hform e; exact hm
  unfold maxLen at hmx
  clear hform h
  go_enter Try.func87, Try.ntmps87
  go_wp2_with fail
  go_loop [3] (fun si => ∃ K : Nat, si = .int .i64 K ∧ K ≤ xs.length ∧ Hid (∀ i, i < K → termB (xs.getD i 0) = true)) (fun si => xs.length - (intOf si).toNat)
  case atStart => exact ⟨0, rfl, by omega, hid (fun i hi => by omega)⟩
  case round =>
    obtain ⟨K, rfl, hK, HE⟩ := hrel
    by_cases hlt : K < xs.length
    · obtain ⟨b, o, rfl, hml, hc⟩ := HFM.out (by omega)
      have hcell := hc K hlt
      obtain ⟨x, hx⟩ : ∃ x, x = xs.getD K 0 := ⟨_, rfl⟩
      rw [← hx] at hcell
      have HX := hid hx
      have HLT := hid hlt
      have hKi : (K : Int) < (xs.length : Int) := by omega
      have HNO : Hid (termB x = false → fvB xs = false) := hid (fun e => by
        cases hf : fvB xs with
        | false => rfl
        | true =>
          have := termB_iff.2 (fv_at hf hlt)
          rw [← hx, e] at this
          cases this)
      clear hx hc hml hlt
      by_cases x0 : x = 0
      · have T : (x == 0) = true := by rw [beq_iff_eq]; exact x0
        have HR := hid (HNO.out (by rw [x0]; rfl))
        clear x0
        go_wp2_with fail
        go_ret
        exact ⟨retB HR.out.symm, rfl⟩
      · have T : (x == 0) = false := by rw [beq_eq_false_iff_ne]; exact x0
        cases hr : inR x (-30) 30 with
        | false =>
          have HR := hid (HNO.out (by unfold termB; rw [hr, Bool.and_false]))
          have HIN := hid hr
          clear x0 hr
          go_wp2_with (go_at_call 82; refine (l6In_any _ _ _ _).mono ?_; rw [HIN.out]; rintro e w' ⟨rfl, rfl⟩)
          go_ret
          exact ⟨retB HR.out.symm, rfl⟩
        | true =>
          have HT : Hid (termB x = true) := hid (by unfold termB; rw [hr, decide_eq_false x0]; rfl)
          have HIN := hid hr
          clear x0 hr
          go_wp2_with (go_at_call 82; refine (l6In_any _ _ _ _).mono ?_; rw [HIN.out]; rintro e w' ⟨rfl, rfl⟩)
          go_round
          case measure => simp only [intOf]; have := HLT.out; omega
          case rel => exact ⟨K + 1, by go_num, by have := HLT.out; omega, hid (fun i hi => by
            by_cases e : i = K
            · rw [e, ← HX.out]; exact HT.out
            · exact HE.out i (by omega))⟩
    · obtain rfl : K = xs.length := by omega
      have HR : Hid (fvB xs = inR (xs.length : Nat) 1 4) := hid (by
        unfold fvB
        rw [show xs.all termB = true from List.all_eq_true.2 fun x hx => by
          obtain ⟨i, hi, rfl⟩ := List.getElem_of_mem hx
          have := HE.out i hi
          rwa [getD_at _ _ hi] at this, Bool.true_and])
      clear hlt
      go_wp2_with (go_at_call 82; refine (l6In_any _ _ _ _).mono ?_; rintro e w' ⟨rfl, rfl⟩)
      go_ret
      exact ⟨retB HR.out.symm, rfl⟩

set_option maxRecDepth 100000 in
set_option maxHeartbeats 1000000 in
theorem l4Product_any (v : Value) (xs : List Int) (w : World) (h : Rd w v xs) (hf : fvB xs = true) : Calls Try.prog 64 #[v] w fun e w' => e = .returned (.int .i64 (prodI xs)) ∧ w = w' := by
  obtain ⟨a, cap, rfl, hform⟩ := h.form
  have HFM := hid hform
  have HF := hid hf
  have hl4 := (fvB_iff.1 hf).2.2
  clear hform h hf
  go_enter Try.func64, Try.ntmps64
  go_wp2_with fail
  go_loop [3, 4] (fun so si => ∃ K : Nat, si = .int .i64 K ∧ K ≤ xs.length ∧ so = .int .i64 (prodI (xs.take K))) (fun _ si => xs.length - (intOf si).toNat)
  case atStart => exact ⟨0, rfl, by omega, by simp [prodI]⟩
  case round =>
    obtain ⟨K, rfl, hK, rfl⟩ := hrel
    by_cases hlt : K < xs.length
    · obtain ⟨b, o, rfl, hml, hc⟩ := HFM.out (by omega)
      have hcell := hc K hlt
      have ht := fv_at HF.out hlt
      have hpr := prod_fv HF.out K
      have hst := prodI_take hlt
      have hpr2 := prod_fv HF.out (K + 1)
      rw [hst] at hpr2
      obtain ⟨x, hx⟩ : ∃ x, x = xs.getD K 0 := ⟨_, rfl⟩
      obtain ⟨p, hp⟩ : ∃ p, p = prodI (xs.take K) := ⟨_, rfl⟩
      rw [← hx] at hcell hst hpr2
      rw [← hp] at hst hpr2 hpr ⊢
      have hKi : (K : Int) < (xs.length : Int) := by omega
      have HLT := hid hlt
      have HST := hid hst
      have p1 := hpr.2.1
      have p2 := hpr.2.2
      have q1 := hpr2.2.1
      have q2 := hpr2.2.2
      clear hx hp hc hml hlt hpr hpr2 hst ht
      go_wp2_with fail
      go_round
      case measure => simp only [intOf]; have := HLT.out; omega
      case rel => exact ⟨K + 1, by go_num, by have := HLT.out; omega, vI HST.out.symm⟩
    · obtain rfl : K = xs.length := by omega
      have HR : Hid (prodI (xs.take xs.length) = prodI xs) := hid (by rw [List.take_length])
      clear hlt
      go_wp2_with fail
      go_ret
      exact ⟨by first | rfl | exact retI HR.out, rfl⟩




end Go.Proofs.Ytjabklpnohfjpab
