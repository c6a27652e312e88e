/-
  Some texts in one file: SuA SuB SuB2.
-/
import Derived.Test.YtdclmjmefkgbbabQBun0
import Derived.Test.YtdclmjmefkgbbabQBun3
import Derived.Maps.AppendAt
import Derived.Shelf.Abstract
/-! SuA -/
set_option linter.unusedVariables false
namespace Go.Proofs.Ytdclmjmefkgbbab
open Go.RowKit

/-- the root of a square -/
def rtO (n : Int) : Option Nat := if n < 0 then none else (List.range (n.toNat + 1)).find? (fun z : Nat => decide ((z : Int) * z = n))
theorem sq_injL {x y : Nat} (h : (x : Int) * x = (y : Int) * y) : x = y := by
  have h2 : x * x = y * y := by exact_mod_cast h
  rcases Nat.lt_trichotomy x y with h1 | h1 | h1
  · have := Nat.mul_lt_mul_of_lt_of_le h1 (Nat.le_of_lt h1) (by omega); omega
  · exact h1
  · have := Nat.mul_lt_mul_of_lt_of_le h1 (Nat.le_of_lt h1) (by omega); omega
theorem rtO_of {n : Int} {z : Nat} (h : (z : Int) * z = n) : rtO n = some z := by
  have hn : ¬ n < 0 := by have := Int.mul_nonneg (Int.natCast_nonneg z) (Int.natCast_nonneg z); omega
  unfold rtO
  rw [if_neg hn]
  have hz : z < n.toNat + 1 := by
    have h1 : z ≤ z * z := by
      rcases Nat.eq_zero_or_pos z with e | e
      · rw [e]; exact Nat.zero_le _
      · exact Nat.le_mul_of_pos_left _ e
    have h2 : ((z * z : Nat) : Int) = n := by push_cast; exact h
    omega
  cases hf : (List.range (n.toNat + 1)).find? (fun z : Nat => decide ((z : Int) * z = n)) with
  | none =>
    have := List.find?_eq_none.1 hf z (List.mem_range.2 hz)
    rw [decide_eq_true h] at this
    exact absurd rfl this
  | some y =>
    have := List.find?_some hf
    rw [decide_eq_true_eq] at this
    rw [sq_injL (this.trans h.symm)]
theorem rtO_some {n : Int} {z : Nat} (h : rtO n = some z) : (z : Int) * z = n := by
  unfold rtO at h
  by_cases hn : n < 0
  · rw [if_pos hn] at h; cases h
  · rw [if_neg hn] at h
    have := List.find?_some h
    rwa [decide_eq_true_eq] at this
theorem rtO_none {n : Int} (h : ∀ z : Nat, (z : Int) * z ≠ n) : rtO n = none := by
  cases hr : rtO n with
  | none => rfl
  | some z => exact absurd (rtO_some hr) (h z)

/-- the first hit of a function from x on, within k numbers -/
def scanO (f : Int → Option (List Int)) : Nat → Int → Option (List Int)
  | 0, _ => none
  | k + 1, x => match f x with
    | some l => some l
    | none => scanO f k (x + 1)
theorem scan_some {f : Int → Option (List Int)} {k : Nat} {x : Int} {l : List Int} (h : f x = some l) : scanO f (k + 1) x = some l := by
  show (match f x with | some l => some l | none => scanO f k (x + 1)) = some l
  rw [h]
theorem scan_skip {f : Int → Option (List Int)} {k : Nat} {x : Int} (h : f x = none) : scanO f (k + 1) x = scanO f k (x + 1) := by
  show (match f x with | some l => some l | none => scanO f k (x + 1)) = _
  rw [h]
theorem scan_none {f : Int → Option (List Int)} : ∀ (k : Nat) (x : Int), (∀ y, x ≤ y → f y = none) → scanO f k x = none
  | 0, _, _ => rfl
  | k + 1, x, h => by
    rw [scan_skip (h x (Int.le_refl _))]
    exact scan_none k (x + 1) fun y hy => h y (by omega)
theorem scan_mem {f : Int → Option (List Int)} {l : List Int} : ∀ (k : Nat) (x : Int), scanO f k x = some l → ∃ y, x ≤ y ∧ f y = some l
  | 0, _, h => by cases h
  | k + 1, x, h => by
    cases e : f x with
    | some m =>
      rw [scan_some e] at h
      exact ⟨x, Int.le_refl _, by rw [e, h]⟩
    | none =>
      rw [scan_skip e] at h
      obtain ⟨y, hy, hf⟩ := scan_mem k (x + 1) h
      exact ⟨y, by omega, hf⟩
/-- the least list of c ascending numbers from a on, whose squares have the sum n -/
def lvl : Nat → Int → Int → Option (List Int)
  | 0, n, _ => if n = 0 then some [] else none
  | c + 1, n, a => scanO (fun x => if ((c : Int) + 1) * x * x ≤ n then (lvl c (n - x * x) x).map (x :: ·) else none) 64 a
def lvlF (c : Nat) (n x : Int) : Option (List Int) := if ((c : Int) + 1) * x * x ≤ n then (lvl c (n - x * x) x).map (x :: ·) else none
theorem lvl_zero (n a : Int) : lvl 0 n a = if n = 0 then some [] else none := by unfold lvl; rfl
theorem lvl_succ (c : Nat) (n a : Int) : lvl (c + 1) n a = scanO (lvlF c n) 64 a := by
  conv => lhs; unfold lvl
  rfl
theorem sq_grow {c x y : Int} (hc : 0 ≤ c) (hx : 0 ≤ x) (h : x ≤ y) : c * x * x ≤ c * y * y := by
  have h1 : x * x ≤ y * y := Int.mul_le_mul h h hx (by omega)
  rw [Int.mul_assoc, Int.mul_assoc]
  exact Int.mul_le_mul_of_nonneg_left h1 hc
theorem lvlF_stop {c : Nat} {n x : Int} (hx : 0 ≤ x) (h : ¬ ((c : Int) + 1) * x * x ≤ n) (y : Int) (hy : x ≤ y) : lvlF c n y = none := by
  unfold lvlF
  have := sq_grow (c := (c : Int) + 1) (by omega) hx hy
  rw [if_neg (by omega)]
theorem lvlF_yes {c : Nat} {n x : Int} (h : ((c : Int) + 1) * x * x ≤ n) : lvlF c n x = (lvl c (n - x * x) x).map (x :: ·) := by unfold lvlF; rw [if_pos h]
/-- a number whose square, taken once or oftener, is at most 2000 is small -/
theorem sq_small8 {c x : Int} (hc : 1 ≤ c) (hx : 0 ≤ x) (h : c * x * x ≤ 2000) : x ≤ 44 := by
  rcases Int.lt_or_le 44 x with h1 | h1
  · have h2 := sq_grow (c := c) (x := 45) (y := x) (by omega) (by omega) (by omega)
    omega
  · exact h1
theorem sq_lt {a b : Int} (h0 : 0 ≤ a) (h : a < b) : a * a < b * b := by
  have h1 : a * a ≤ a * b := Int.mul_le_mul_of_nonneg_left (Int.le_of_lt h) h0
  have h2 : a * b < b * b := Int.mul_lt_mul_of_pos_right h (by omega)
  omega
theorem sq_le1 {x y : Int} (hx : 0 ≤ x) (h : x ≤ y) : x * x ≤ y * y := Int.mul_le_mul h h hx (by omega)
theorem one_go {m x : Int} (hx : 0 ≤ x) (hm : m ≤ 2000) : ∀ (k : Nat) (y : Int), x ≤ y → (k : Int) + y = x + 64 → (∀ z : Nat, (z : Int) < y → (z : Int) * z ≠ m) → scanO (lvlF 0 m) k y = (rtO m).map (fun z : Nat => [(z : Int)])
  | 0, y, hy, hk, hz => by
    have h1 := sq_le1 (x := 45) (y := y) (by omega) (by omega)
    rw [rtO_none fun z he => by
      rcases Int.lt_or_le (z : Int) y with h2 | h2
      · exact hz z h2 he
      · have h3 := sq_le1 (x := y) (y := z) (by omega) h2
        omega]
    rfl
  | k + 1, y, hy, hk, hz => by
    by_cases hc : y * y ≤ m
    · have hF : lvlF 0 m y = if m - y * y = 0 then some [y] else none := by
        rw [lvlF_yes (by simpa using hc), lvl_zero]
        split <;> rfl
      by_cases he : m - y * y = 0
      · rw [if_pos he] at hF
        rw [scan_some hF]
        obtain ⟨z, rfl⟩ := Int.eq_ofNat_of_zero_le (show 0 ≤ y by omega)
        rw [rtO_of (show (z : Int) * z = m by omega)]
        rfl
      · rw [if_neg he] at hF
        rw [scan_skip hF]
        refine one_go hx hm k (y + 1) (by omega) (by omega) fun z hz2 hz3 => ?_
        rcases Int.lt_or_le (z : Int) y with h2 | h2
        · exact hz z h2 hz3
        · have : (z : Int) = y := by omega
          rw [this] at hz3
          omega
    · have hF := lvlF_stop (c := 0) (n := m) (x := y) (by omega) (by simpa using hc)
      rw [scan_none _ _ hF]
      rw [rtO_none fun z he => by
        rcases Int.lt_or_le (z : Int) y with h2 | h2
        · exact hz z h2 he
        · have h3 := sq_le1 (x := y) (y := z) (by omega) h2
          omega]
      rfl
/-- one square: the root -/
theorem lvl_one {m x : Int} (hx : 0 ≤ x) (h : x * x ≤ m) (hm : m ≤ 2000) : lvl 1 m x = (rtO m).map (fun z : Nat => [(z : Int)]) := by
  rw [lvl_succ]
  refine one_go hx hm 64 x (Int.le_refl _) (by omega) fun z hz he => ?_
  have h3 := sq_lt (a := (z : Int)) (by omega) hz
  omega
theorem root_neg {n : Int} (h : n < 0) : rtO n = none := by unfold rtO; rw [if_pos h]

/-- the sum of a function over the divisors up to k -/
def divS (g : Nat → Int) (n : Nat) : Nat → Int
  | 0 => 0
  | k + 1 => divS g n k + if n % (k + 1) = 0 then g (k + 1) else 0
def g2 (d : Nat) : Int := if d % 4 = 1 then 1 else if d % 4 = 3 then -1 else 0
def g4 (d : Nat) : Int := if d % 4 = 0 then 0 else d
theorem g2_bd (d : Nat) : -1 ≤ g2 d ∧ g2 d ≤ 1 := by unfold g2; split <;> (try split) <;> omega
theorem g4_bd (d : Nat) (h : d ≤ 2000) : 0 ≤ g4 d ∧ g4 d ≤ 2000 := by unfold g4; split <;> omega
theorem divS_bd {g : Nat → Int} {n : Nat} {m : Int} (hm : 0 ≤ m) : ∀ k, (∀ d, d ≤ k → -m ≤ g d ∧ g d ≤ m) → -m * (k : Int) ≤ divS g n k ∧ divS g n k ≤ m * (k : Int)
  | 0, _ => by simp [divS]
  | k + 1, h => by
    have ih := divS_bd (n := n) hm k fun d hd => h d (by omega)
    have h1 := h (k + 1) (Nat.le_refl _)
    unfold divS
    have e1 : m * ((k + 1 : Nat) : Int) = m * (k : Int) + m := by push_cast; rw [Int.mul_add, Int.mul_one]
    have e2 : -m * ((k + 1 : Nat) : Int) = -m * (k : Int) - m := by push_cast; rw [Int.mul_add, Int.mul_one]; omega
    rw [e1, e2]
    split <;> omega

/-- the sum of a function over what is left of n without the square of 0 to k and their opposites -/
def eachK (g : Int → Int) (n : Int) : Nat → Int
  | 0 => g n
  | k + 1 => eachK g n k + if ((k : Int) + 1) * ((k : Int) + 1) ≤ n then g (n - ((k : Int) + 1) * ((k : Int) + 1)) + g (n - ((k : Int) + 1) * ((k : Int) + 1)) else 0
theorem eachK_succ (g : Int → Int) (n : Int) (k : Nat) : eachK g n (k + 1) = eachK g n k + if ((k : Int) + 1) * ((k : Int) + 1) ≤ n then g (n - ((k : Int) + 1) * ((k : Int) + 1)) + g (n - ((k : Int) + 1) * ((k : Int) + 1)) else 0 := rfl
def eachS (g : Int → Int) (n : Int) : Int := eachK g n 45
theorem eachK_stop {g : Int → Int} {n : Int} {k : Nat} (h : ¬ ((k : Int) + 1) * ((k : Int) + 1) ≤ n) : ∀ j, eachK g n (k + j) = eachK g n k
  | 0 => rfl
  | j + 1 => by
    have ih := eachK_stop (g := g) h j
    rw [← Nat.add_assoc, eachK_succ]
    have h1 := sq_grow (c := 1) (x := (k : Int) + 1) (y := ((k + j : Nat) : Int) + 1) (by omega) (by omega) (by omega)
    simp only [Int.one_mul] at h1
    rw [if_neg (by omega), ih, Int.add_zero]
theorem eachK_end {g : Int → Int} {n : Int} {k : Nat} (hk : k ≤ 45) (h : ¬ ((k : Int) + 1) * ((k : Int) + 1) ≤ n) : eachK g n k = eachS g n := by
  obtain ⟨j, hj⟩ : ∃ j, 45 = k + j := ⟨45 - k, by omega⟩
  unfold eachS
  rw [hj, eachK_stop h j]
theorem eachK_bd {g : Int → Int} {n m : Int} (hm : 0 ≤ m) (h : ∀ x, 0 ≤ x → x ≤ n → 0 ≤ g x ∧ g x ≤ m) (hn : 0 ≤ n) : ∀ k : Nat, 0 ≤ eachK g n k ∧ eachK g n k ≤ m + 2 * m * (k : Int)
  | 0 => by have := h n hn (Int.le_refl _); simp [eachK]; omega
  | k + 1 => by
    have ih := eachK_bd hm h hn k
    unfold eachK
    have e1 : 2 * m * ((k + 1 : Nat) : Int) = 2 * m * (k : Int) + 2 * m := by push_cast; rw [Int.mul_add, Int.mul_one]
    rw [e1]
    have h0 : 0 ≤ ((k : Int) + 1) * ((k : Int) + 1) := Int.mul_nonneg (by omega) (by omega)
    split
    · have h1 := h (n - ((k : Int) + 1) * ((k : Int) + 1)) (by omega) (by omega)
      omega
    · omega
def dl (x : Int) : Int := if x = 0 then 1 else 0
def sq2 (n : Int) : Int := eachS dl n
def twoW (n : Int) : Int := eachS sq2 n
theorem dl_bd (x : Int) : 0 ≤ dl x ∧ dl x ≤ 1 := by unfold dl; split <;> omega
theorem sq2_bd {n : Int} (hn : 0 ≤ n) : 0 ≤ sq2 n ∧ sq2 n ≤ 91 := by
  have := eachK_bd (g := dl) (n := n) (m := 1) (by omega) (fun x _ _ => dl_bd x) hn 45
  unfold sq2 eachS
  omega
theorem twoW_bd {n : Int} (hn : 0 ≤ n) : 0 ≤ twoW n ∧ twoW n ≤ 8281 := by
  have := eachK_bd (g := sq2) (n := n) (m := 91) (by omega) (fun x h _ => sq2_bd h) hn 45
  unfold twoW eachS
  omega
/-- signs of a square: 1 of 0, 2 of others -/
theorem sq2_is {n : Int} (hn : 0 ≤ n) (h2 : n ≤ 2000) : sq2 n = match rtO n with | some z => if z = 0 then 1 else 2 | none => 0 := by
  have key : ∀ k : Nat, eachK dl n k = if n = 0 then 1 else match rtO n with | some z => if z ≤ k then 2 else 0 | none => 0 := by
    intro k
    induction k with
    | zero =>
      unfold eachK dl
      by_cases h0 : n = 0
      · rw [if_pos h0, if_pos h0]
      · rw [if_neg h0, if_neg h0]
        cases e : rtO n with
        | none => rfl
        | some z =>
          have := rtO_some e
          show _ = if z ≤ 0 then (2 : Int) else 0
          rw [if_neg (fun hz => h0 (by obtain rfl : z = 0 := by omega
                                       simpa using this.symm))]
    | succ k ih =>
      unfold eachK
      rw [ih]
      have hk1 : 0 < ((k : Int) + 1) * ((k : Int) + 1) := Int.mul_pos (by omega) (by omega)
      by_cases h0 : n = 0
      · rw [if_pos h0, if_pos h0, if_neg (by omega)]; rfl
      · rw [if_neg h0, if_neg h0]
        cases e : rtO n with
        | none =>
          show (0 : Int) + _ = 0
          split
          · have : n - ((k : Int) + 1) * ((k : Int) + 1) ≠ 0 := fun he => by
              have := rtO_of (n := n) (z := k + 1) (by push_cast; omega)
              rw [e] at this; cases this
            unfold dl
            rw [if_neg this]; rfl
          · rfl
        | some z =>
          have hz := rtO_some e
          show (if z ≤ k then (2 : Int) else 0) + _ = if z ≤ k + 1 then (2 : Int) else 0
          rcases Nat.lt_trichotomy z (k + 1) with h1 | h1 | h1
          · rw [if_pos (show z ≤ k by omega), if_pos (show z ≤ k + 1 by omega)]
            have h3 : (z : Int) * z < ((k : Int) + 1) * ((k : Int) + 1) := sq_lt (by omega) (by omega)
            rw [if_neg (by omega)]; rfl
          · subst h1
            rw [if_neg (by omega), if_pos (Nat.le_refl _)]
            push_cast at hz
            rw [if_pos (by omega)]
            unfold dl
            rw [if_pos (by omega)]; rfl
          · rw [if_neg (show ¬ z ≤ k by omega), if_neg (show ¬ z ≤ k + 1 by omega)]
            have h3 : ((k : Int) + 1) * ((k : Int) + 1) < (z : Int) * z := sq_lt (by omega) (by omega)
            unfold dl
            split
            · rw [if_neg (by omega)]; rfl
            · rfl
  unfold sq2 eachS
  rw [key]
  by_cases h0 : n = 0
  · rw [if_pos h0]
    have := rtO_of (n := n) (z := 0) (by rw [h0]; rfl)
    rw [this]; rfl
  · rw [if_neg h0]
    cases e : rtO n with
    | none => rfl
    | some z =>
      have hz := rtO_some e
      have hz0 : z ≠ 0 := fun h => h0 (by rw [h] at hz; simpa using hz.symm)
      have h44 := sq_small8 (c := 1) (x := (z : Int)) (by omega) (by omega) (by simp only [Int.one_mul]; omega)
      show (if z ≤ 45 then (2 : Int) else 0) = if z = 0 then 1 else 2
      rw [if_pos (by omega), if_neg hz0]
/-- the model's way of counting -/
def twM (n : Int) : Nat → Int
  | 0 => 0
  | k + 1 => twM n k + if (k : Int) * k ≤ n then (match rtO (n - (k : Int) * k) with | some y => (if y = 0 then 1 else 2) * (if k = 0 then 1 else 2) | none => 0) else 0
theorem twM_is {n : Int} (hn : 0 ≤ n) (h2 : n ≤ 2000) : ∀ k : Nat, twM n (k + 1) = eachK sq2 n k
  | 0 => by
    unfold twM eachK
    show (0 : Int) + _ = _
    rw [if_pos (by simpa using hn), Int.zero_add, sq2_is hn h2]
    simp only [Int.natCast_zero, Int.mul_zero, Int.sub_zero, if_true, Int.mul_one]
  | k + 1 => by
    have ih := twM_is hn h2 k
    rw [eachK_succ]
    show twM n (k + 1) + _ = _
    rw [ih]
    have e : ((k + 1 : Nat) : Int) = (k : Int) + 1 := by push_cast; rfl
    rw [e]
    congr 1
    by_cases hc : ((k : Int) + 1) * ((k : Int) + 1) ≤ n
    · rw [if_pos hc, if_pos hc, sq2_is (by omega) (by have : 0 ≤ ((k : Int) + 1) * ((k : Int) + 1) := Int.mul_nonneg (by omega) (by omega)
                                                      omega)]
      cases rtO (n - ((k : Int) + 1) * ((k : Int) + 1)) with
      | none => rfl
      | some y =>
        show (if y = 0 then (1 : Int) else 2) * (if k + 1 = 0 then 1 else 2) = (if y = 0 then (1 : Int) else 2) + (if y = 0 then (1 : Int) else 2)
        rw [if_neg (show ¬ k + 1 = 0 by omega)]
        omega
    · rw [if_neg hc, if_neg hc]
/-- ways of four squares, by ways of two -/
def fourK (n : Int) : Nat → Int
  | 0 => 0
  | k + 1 => fourK n k + twoW k * twoW (n - k)
theorem fourK_bd {n : Int} (hn : 0 ≤ n) : ∀ k : Nat, (k : Int) ≤ n + 1 → 0 ≤ fourK n k ∧ fourK n k ≤ 68574961 * (k : Int)
  | 0, _ => by simp [fourK]
  | k + 1, hk => by
    have ih := fourK_bd hn k (by push_cast at hk; omega)
    have h1 := twoW_bd (n := (k : Int)) (by omega)
    have h2 := twoW_bd (n := n - (k : Int)) (by push_cast at hk; omega)
    have h3 : 0 ≤ twoW k * twoW (n - k) := Int.mul_nonneg h1.1 h2.1
    have h4 : twoW k * twoW (n - k) ≤ 8281 * 8281 := Int.mul_le_mul h1.2 h2.2 h2.1 (by omega)
    unfold fourK
    push_cast
    omega
/-- divided by 4 as often as it can be -/
def strip : Nat → Nat → Nat
  | 0, n => n
  | f + 1, n => if 0 < n ∧ n % 4 = 0 then strip f (n / 4) else n
theorem strip_fuel : ∀ f g n, n ≤ f → n ≤ g → strip f n = strip g n
  | 0, g, n, h1, h2 => by
    obtain rfl : n = 0 := by omega
    cases g with
    | zero => rfl
    | succ g => unfold strip; rw [if_neg (by omega)]
  | f + 1, 0, n, h1, h2 => by
    obtain rfl : n = 0 := by omega
    unfold strip; rw [if_neg (by omega)]
  | f + 1, g + 1, n, h1, h2 => by
    unfold strip
    split
    · exact strip_fuel f g (n / 4) (by omega) (by omega)
    · rfl
def stripN (n : Nat) : Nat := strip n n
theorem strip_step {n : Nat} (h0 : 0 < n) (h : n % 4 = 0) : stripN n = stripN (n / 4) := by
  obtain ⟨m, rfl⟩ : ∃ m, n = m + 1 := ⟨n - 1, by omega⟩
  unfold stripN
  conv => lhs; unfold strip
  rw [if_pos ⟨h0, h⟩]
  exact strip_fuel _ _ _ (by omega) (Nat.le_refl _)
theorem strip_stop {n : Nat} (h : ¬ (0 < n ∧ n % 4 = 0)) : stripN n = n := by
  unfold stripN
  cases n with
  | zero => rfl
  | succ m => unfold strip; rw [if_neg h]

/-! what the functions answer -/
def sumB (n : Int) : Bool := inR n 0 2000
def sum1 (n : Int) : Bool := inR n 1 2000
def twoIsB (n : Int) : Bool := sumB n && (ppow n.toNat).all (fun x => !(decide (x.1 % 4 = 3) && decide (x.2 % 2 = 1)))
def twoFindV (n : Int) : Value := if sumB n then (match lvl 2 n 0 with | some l => .tuple #[.int .i64 (l.getD 0 0), .int .i64 (l.getD 1 0), .bool true] | none => .tuple #[.int .i64 0, .int .i64 0, .bool false]) else .tuple #[.int .i64 0, .int .i64 0, .bool false]
def twoManyV (n : Int) : Int := if sum1 n then 4 * divS g2 n.toNat n.toNat else -1
def twoEachV (n : Int) : Int := if sumB n then twoW n else -1
def threeIsB (n : Int) : Bool := sumB n && !decide (stripN n.toNat % 8 = 7)
def manyO (c : Nat) (n : Int) : Option (List Int) := if sumB n then lvl c n 0 else none
def fourManyV (n : Int) : Int := if sum1 n then 8 * divS g4 n.toNat n.toNat else -1
def fourEachV (n : Int) : Int := if inR n 0 300 then fourK n (n.toNat + 1) else -1

/-- what is found -/
theorem lvl_spec : ∀ (c : Nat) (n a : Int) (l : List Int), lvl c n a = some l → l.length = c ∧ (l.map (fun x => x * x)).sum = n ∧ (∀ x ∈ l, a ≤ x) ∧ l.Pairwise (· ≤ ·)
  | 0, n, a, l, h => by
    rw [lvl_zero] at h
    split at h
    · next h0 =>
      cases h
      exact ⟨rfl, by simp [h0], by simp, List.Pairwise.nil⟩
    · cases h
  | c + 1, n, a, l, h => by
    rw [lvl_succ] at h
    obtain ⟨y, hy, hf⟩ := scan_mem _ _ h
    unfold lvlF at hf
    split at hf
    · cases e : lvl c (n - y * y) y with
      | none => rw [e] at hf; cases hf
      | some t =>
        rw [e] at hf
        simp only [Option.map_some, Option.some.injEq] at hf
        subst hf
        obtain ⟨h1, h2, h3, h4⟩ := lvl_spec c _ _ _ e
        refine ⟨by rw [List.length_cons, h1], by rw [List.map_cons, List.sum_cons, h2]; omega, ?_, List.pairwise_cons.2 ⟨h3, h4⟩⟩
        intro x hx
        rcases List.mem_cons.1 hx with rfl | hx
        · exact hy
        · have := h3 x hx; omega
    · cases hf

theorem twoFindF (n : Int) : ∃ (x y : Int) (b : Bool), twoFindV n = .tuple #[.int .i64 x, .int .i64 y, .bool b] := by
  unfold twoFindV
  split
  · split
    · exact ⟨_, _, _, rfl⟩
    · exact ⟨_, _, _, rfl⟩
  · exact ⟨_, _, _, rfl⟩
theorem many_len (c : Nat) (n : Int) (hc : c ≤ 4 := by decide) : ((manyO c n).getD []).length ≤ 1000000 := by
  unfold manyO
  split
  · cases e : lvl c n 0 with
    | none => simp
    | some l => have := (lvl_spec c n 0 l e).1; simp; omega
  · simp

end Go.Proofs.Ytdclmjmefkgbbab

/-! SuB -/
set_option linter.unusedVariables false
namespace Go.Proofs.Ytdclmjmefkgbbab
open Go.RowKit

theorem sumB_cases (n : Int) : (0 ≤ n ∧ n ≤ 2000 ∧ sumB n = true) ∨ (n < 0 ∧ sumB n = false) ∨ (0 ≤ n ∧ 2000 < n ∧ sumB n = false) := inR_cases n 0 2000
theorem sum1_cases (n : Int) : (1 ≤ n ∧ n ≤ 2000 ∧ sum1 n = true) ∨ (n < 1 ∧ sum1 n = false) ∨ (1 ≤ n ∧ 2000 < n ∧ sum1 n = false) := inR_cases n 1 2000
def rtV (n : Int) : Int := (rtO n).elim (-1) (fun z : Nat => (z : Int))
theorem rtV_some {n : Int} {z : Nat} (h : rtO n = some z) : rtV n = (z : Int) := by unfold rtV; rw [h]; rfl
theorem rtV_none {n : Int} (h : rtO n = none) : rtV n = -1 := by unfold rtV; rw [h]; rfl
theorem mul2_eq (x : Int) : 2 * x * x = 2 * (x * x) := Int.mul_assoc 2 x x
theorem mul3_eq (x : Int) : 3 * x * x = 3 * (x * x) := Int.mul_assoc 3 x x
theorem mul4_eq (x : Int) : 4 * x * x = 4 * (x * x) := Int.mul_assoc 4 x x
theorem lvlF_some {c : Nat} {n x : Int} {l : List Int} (h : ((c : Int) + 1) * x * x ≤ n) (hl : lvl c (n - x * x) x = some l) : lvlF c n x = some (x :: l) := by rw [lvlF_yes h, hl]; rfl
theorem lvlF_none {c : Nat} {n x : Int} (h : ((c : Int) + 1) * x * x ≤ n) (hl : lvl c (n - x * x) x = none) : lvlF c n x = none := by rw [lvlF_yes h, hl]; rfl
theorem one_some {m x : Int} {z : Nat} (hx : 0 ≤ x) (h : x * x ≤ m) (hm : m ≤ 2000) (hz : rtO m = some z) : lvl 1 m x = some [(z : Int)] := by rw [lvl_one hx h hm, hz]; rfl
theorem one_none {m x : Int} (hx : 0 ≤ x) (h : x * x ≤ m) (hm : m ≤ 2000) (hz : rtO m = none) : lvl 1 m x = none := by rw [lvl_one hx h hm, hz]; rfl
def TwoFPost (n : Int) (e : Ending) : Prop := e = .returned (twoFindV n)
theorem twoF_some {n x y : Int} (h : sumB n = true) (hl : lvl 2 n 0 = some [x, y]) : Ending.returned (.tuple #[.int .i64 x, .int .i64 y, .bool true]) = .returned (twoFindV n) := by
  unfold twoFindV; rw [if_pos h, hl]; rfl
theorem twoF_none {n : Int} (hl : lvl 2 n 0 = none) : Ending.returned (.tuple #[.int .i64 0, .int .i64 0, .bool false]) = .returned (twoFindV n) := by
  unfold twoFindV
  split
  · rw [hl]
  · rfl
theorem twoF_out {n : Int} (h : sumB n = false) : Ending.returned (.tuple #[.int .i64 0, .int .i64 0, .bool false]) = .returned (twoFindV n) := by
  unfold twoFindV; rw [h]; rfl
theorem world_row9 (w : World) (cs : Array Value) (l : List Int) (hc : cs.toList = l.map (Value.int .i64)) (hm : l.length ≤ 1000) : Owns (w.alloc (.cells cs 3)) w.heap.size (.slice (some ⟨w.heap.size, 0, none⟩) l.length l.length) l := by
  have hs : cs.size = l.length := by rw [← Array.length_toList, hc, List.length_map]
  unfold Owns
  rw [← hc]
  exact ⟨by rw [Array.length_toList, hs, Nat.mul_one], .inr ⟨w.heap.size, l.length, cs, rfl, Nat.le_refl _, heap_alloc_new w _, Nat.le_refl _, by unfold maxLen; omega, by rw [hs, Nat.mul_one], by rw [Nat.mul_one, ← hs, ← Array.length_toList, List.take_length]⟩⟩
def ManyPost (c : Nat) (n : Int) (w : World) (e : Ending) (w' : World) : Prop := ∃ v, e = .returned (.tuple #[v, .bool (manyO c n).isSome]) ∧ Owns w' w.heap.size v ((manyO c n).getD []) ∧ Below w.heap.size w w'
theorem manyS8 {c : Nat} {n : Int} {l : List Int} {w : World} {cs : Array Value} (h : sumB n = true) (hl : lvl c n 0 = some l) (hc : cs.toList = l.map (Value.int .i64)) (hm : l.length ≤ 1000) :
    ManyPost c n w (.returned (.tuple #[.slice (some ⟨w.heap.size, 0, none⟩) l.length l.length, .bool true])) (w.alloc (.cells cs 3)) := by
  have e : manyO c n = some l := by unfold manyO; rw [if_pos h, hl]
  unfold ManyPost
  rw [e]
  refine ⟨_, rfl, ?_, (Below.refl _ _).alloc (Nat.le_refl _) _⟩
  exact world_row9 w cs l hc hm
theorem manyN8 {c : Nat} {n : Int} {w : World} (h : manyO c n = none) :
    ManyPost c n w (.returned (.tuple #[.slice (some ⟨w.heap.size, 0, none⟩) 0 0, .bool false])) (w.alloc (.cells #[] 3)) := by
  unfold ManyPost
  rw [h]
  exact ⟨_, rfl, World.ownsRow_made (size := 1) w #[] 0 (Nat.le_refl _) (by unfold maxLen; omega) rfl, (Below.refl _ _).alloc (Nat.le_refl _) _⟩
theorem manyO_no {c : Nat} {n : Int} (h : sumB n = false) : manyO c n = none := by unfold manyO; rw [h]; rfl
theorem manyO_none {c : Nat} {n : Int} (h : lvl c n 0 = none) : manyO c n = none := by unfold manyO; split; exact h; rfl

theorem l8Sum_any (n low : Int) (w : World) : Calls Try.prog 62 #[.int .i64 n, .int .i64 low] w fun e w' => e = .returned (.bool (inR n low 2000)) ∧ w = w' := by
  go_enter Try.func62, Try.ntmps62
  go_wp2_with (go_at_call 80; refine (l6In_any _ _ _ _).mono ?_; rintro e w' ⟨rfl, rfl⟩)
  go_ret
  exact ⟨rfl, rfl⟩

set_option maxRecDepth 100000 in
set_option maxHeartbeats 1000000 in
theorem l5RootL_any (n : Int) (n0 : 0 ≤ n) (n1 : n ≤ 2000) (w : World) : Calls Try.prog 74 #[.int .i64 n] w fun e w' => e = .returned (.int .i64 (rtV n)) ∧ w = w' := by
  go_enter Try.func74, Try.ntmps74
  go_wp2
  go_loop [3, 4] (fun sl sh => ∃ L H : Nat, sl = .int .i64 L ∧ sh = .int .i64 H ∧ L ≤ H ∧ H ≤ 1048576 ∧ Hid (∀ r : Nat, r < L → (r : Int) * r < n) ∧ Hid (n ≤ (H : Int) * H)) (fun sl sh => (intOf sh - intOf sl).toNat)
  case atStart => exact ⟨0, 1048576, rfl, rfl, by omega, by omega, hid (fun r hr => by omega), hid (by omega)⟩
  case round =>
    obtain ⟨L, H, rfl, rfl, hLH, hH, HL, HH⟩ := hrel
    by_cases hlt : L < H
    · have hi : (L : Int) < (H : Int) := by omega
      obtain ⟨M, hM⟩ : ∃ M, M = (L + H) / 2 := ⟨_, rfl⟩
      have eM : ((L : Int) + (H : Int)) / 2 = (M : Int) := by omega
      have eM2 : ((L : Int) + (H : Int)).tdiv 2 = (M : Int) := by rw [Int.tdiv_eq_ediv_of_nonneg (by omega)]; exact eM
      have hM1 : L ≤ M := by omega
      have hM2 : M < H := by omega
      have hMM := mul_bd (show M ≤ 1048576 by omega) (show M ≤ 1048576 by omega)
      clear hM
      by_cases hm : (M : Int) * M < n
      · have HM := hid hm
        go_wp2
        go_round
        case measure => simp only [intOf]; omega
        case rel => exact ⟨M + 1, H, by go_num, rfl, by omega, hH, hid (fun r hr => by
          have := sq_mono (show r ≤ M by omega)
          have := HM.out
          omega), HH⟩
      · have HM := hid hm
        go_wp2
        go_round
        case measure => simp only [intOf]; omega
        case rel => exact ⟨L, M, rfl, rfl, hM1, by omega, HL, hid (by have := HM.out; omega)⟩
    · obtain rfl : L = H := by omega
      have hMM := mul_bd (show L ≤ 1048576 by omega) (show L ≤ 1048576 by omega)
      by_cases he : (L : Int) * L = n
      · have T : ((L : Int) * L == n) = true := by rw [beq_iff_eq]; exact he
        have HR := hid (rtV_some (rtO_of he))
        clear he
        go_wp2
        go_ret
        exact ⟨retI HR.out.symm, rfl⟩
      · have T : ((L : Int) * L == n) = false := by rw [beq_eq_false_iff_ne]; exact he
        have HR : Hid (rtV n = -1) := hid (rtV_none (rtO_none fun z hz => by
          rcases Nat.lt_trichotomy z L with h | h | h
          · have := HL.out z h; omega
          · subst h; exact he hz
          · have h2 := sq_mono (Nat.le_of_lt h)
            have := HH.out
            omega))
        clear he
        go_wp2
        go_ret
        exact ⟨retI HR.out.symm, rfl⟩

set_option maxRecDepth 100000 in
set_option maxHeartbeats 2000000 in
theorem twoFindS_any (n : Int) (w : World) : Calls Try.prog 24 #[.int .i64 n] w fun e w' => e = .returned (twoFindV n) ∧ Below w.heap.size w w' := by
  rcases sumB_cases n with ⟨n0, n2, H⟩ | ⟨n0, H⟩ | ⟨n0, n2, H⟩
  · have HS0 := hid (fun w : World => l8Sum_any n 0 w)
    rw [show inR n 0 2000 = true from H] at HS0
    have HH := hid H
    clear H
    go_enter Try.func24, Try.ntmps24
    go_wp2
    go_loop [5] (fun sx => ∃ K f : Nat, sx = .int .i64 K ∧ K + f = 64 ∧ K ≤ 45 ∧ Hid (lvl 2 n 0 = scanO (lvlF 1 n) f K)) (fun sx => 50 - (intOf sx).toNat)
    case atStart => exact ⟨0, 64, rfl, rfl, by omega, hid (lvl_succ 1 n 0)⟩
    case round =>
      obtain ⟨K, f, rfl, hf, hK, HS⟩ := hrel
      obtain ⟨g, rfl⟩ : ∃ g, f = g + 1 := ⟨f - 1, by omega⟩
      have hKK := mul_bd (show K ≤ 45 by omega) (show K ≤ 45 by omega)
      have hm := mul2_eq (K : Int)
      by_cases hc : 2 * (K : Int) * K ≤ n
      · have hc1 : (((1 : Nat) : Int) + 1) * (K : Int) * K ≤ n := hc
        have h44 := sq_small8 (c := 2) (x := (K : Int)) (by omega) (by omega) (by omega)
        have b1 : 0 ≤ 2 * (K : Int) * K := by omega
        have b2 : n - (K : Int) * K ≤ 2000 := by omega
        have b3 : 0 ≤ n - (K : Int) * K := by omega
        have HR := hid (fun w : World => l5RootL_any (n - (K : Int) * K) b3 b2 w)
        cases e : rtO (n - (K : Int) * K) with
        | some z =>
          rw [rtV_some e] at HR
          have HF := hid (twoF_some HH.out (HS.out.trans (scan_some (lvlF_some hc1 (one_some (by omega) (by omega) b2 e)))))
          clear e hc1 hm
          go_wp2_with (first | (go_at_call 74; refine (HR.out _).mono ?_; rintro e w' ⟨rfl, rfl⟩) | (go_at_call 62; refine (HS0.out _).mono ?_; rintro e w' ⟨rfl, rfl⟩))
          go_ret3
          exact ⟨HF.out, Below.refl _ _⟩
        | none =>
          rw [rtV_none e] at HR
          have HF := hid (HS.out.trans (scan_skip (lvlF_none hc1 (one_none (by omega) (by omega) b2 e))))
          clear e hc1 hm
          go_wp2_with (first | (go_at_call 74; refine (HR.out _).mono ?_; rintro e w' ⟨rfl, rfl⟩) | (go_at_call 62; refine (HS0.out _).mono ?_; rintro e w' ⟨rfl, rfl⟩))
          go_round
          case measure => simp only [intOf]; omega
          case rel => exact ⟨K + 1, g, by go_num, by omega, by omega, hid (by rw [HF.out]; rfl)⟩
      · have b1 : 0 ≤ 2 * (K : Int) * K ∧ 2 * (K : Int) * K ≤ 4050 := by omega
        have HF := hid (twoF_none (HS.out.trans (scan_none _ _ (lvlF_stop (c := 1) (by omega) hc))))
        clear hm
        go_wp2
        go_ret3
        exact ⟨HF.out, Below.refl _ _⟩
  · have HF := hid (twoF_out H)
    go_enter Try.func24, Try.ntmps24
    go_wp2
    go_loop [5] (fun sx => sx = .int .i64 0) (fun _ => 0)
    case atStart => rfl
    case round =>
      subst hrel
      go_wp2
      go_ret3
      exact ⟨HF.out, Below.refl _ _⟩
  · have HF := hid (twoF_out H)
    have HS0 := hid (fun w : World => l8Sum_any n 0 w)
    rw [show inR n 0 2000 = false from H] at HS0
    go_enter Try.func24, Try.ntmps24
    go_wp2
    go_loop [5] (fun sx => sx = .int .i64 0) (fun _ => 0)
    case atStart => rfl
    case round =>
      subst hrel
      go_wp2_with (go_at_call 62; refine (HS0.out _).mono ?_; rintro e w' ⟨rfl, rfl⟩)
      go_ret3
      exact ⟨HF.out, Below.refl _ _⟩

set_option maxRecDepth 100000 in
set_option maxHeartbeats 4000000 in
theorem threeFindS_any (n : Int) (w : World) : Calls Try.prog 34 #[.int .i64 n] w fun e w' => ManyPost 3 n w e w' := by
  rcases sumB_cases n with ⟨n0, n2, H⟩ | ⟨n0, H⟩ | ⟨n0, n2, H⟩
  · have HS8 := hid (fun w : World => l8Sum_any n 0 w)
    rw [show inR n 0 2000 = true from H] at HS8
    have HH := hid H
    clear H
    go_enter Try.func34, Try.ntmps34
    go_wp2
    go_loop [4] (fun sx => ∃ X f : Nat, sx = .int .i64 X ∧ X + f = 0 + 64 ∧ X ≤ 45 ∧ Hid (lvl 3 (n) 0 = scanO (lvlF 2 (n)) f X)) (fun sx => 50 - (intOf sx).toNat)
    case atStart => exact ⟨0, 64, rfl, by omega, by omega, hid (lvl_succ 2 (n) 0)⟩
    case round =>
      obtain ⟨X, f0, rfl, hf0, hXb, HS0⟩ := hrel
      obtain ⟨g0, rfl⟩ : ∃ g, f0 = g + 1 := ⟨f0 - 1, by omega⟩
      have hq0 := mul_bd (show X ≤ 45 by omega) (show X ≤ 45 by omega)
      have hm0 := mul3_eq (X : Int)
      by_cases hc0 : 3 * (X : Int) * X ≤ n
      · have hd0 : (((2 : Nat) : Int) + 1) * (X : Int) * X ≤ n := hc0
        have h440 := sq_small8 (c := 3) (x := (X : Int)) (by omega) (by omega) (by omega)
        have b10 : 0 ≤ 3 * (X : Int) * X := by omega
        have b20 : n - (X : Int) * X ≤ 2000 := by omega
        have b30 : 0 ≤ n - (X : Int) * X := by omega
        have b40 : (X : Int) * X ≤ n - (X : Int) * X := by omega
        have HD0 := hid hd0
        clear hd0 hm0
        go_wp2_with (first | (go_at_call 62; refine (HS8.out _).mono ?_; rintro e w' ⟨rfl, rfl⟩))
        go_loop [5] (fun sx => ∃ Y f : Nat, sx = .int .i64 Y ∧ Y + f = X + 64 ∧ Y ≤ 45 ∧ X ≤ Y ∧ Hid (lvl 2 (n - (X : Int) * X) (X : Int) = scanO (lvlF 1 (n - (X : Int) * X)) f Y)) (fun sx => 50 - (intOf sx).toNat)
        case atStart => exact ⟨X, 64, rfl, by omega, by omega, Nat.le_refl _, hid (lvl_succ 1 (n - (X : Int) * X) (X : Int))⟩
        case round =>
          obtain ⟨Y, f1, rfl, hf1, hYb, hYl, HS1⟩ := hrel
          obtain ⟨g1, rfl⟩ : ∃ g, f1 = g + 1 := ⟨f1 - 1, by omega⟩
          have hq1 := mul_bd (show Y ≤ 45 by omega) (show Y ≤ 45 by omega)
          have hm1 := mul2_eq (Y : Int)
          by_cases hc1 : 2 * (Y : Int) * Y ≤ n - (X : Int) * X
          · have hd1 : (((1 : Nat) : Int) + 1) * (Y : Int) * Y ≤ n - (X : Int) * X := hc1
            have h441 := sq_small8 (c := 2) (x := (Y : Int)) (by omega) (by omega) (by omega)
            have b11 : 0 ≤ 2 * (Y : Int) * Y := by omega
            have b21 : n - (X : Int) * X - (Y : Int) * Y ≤ 2000 := by omega
            have b31 : 0 ≤ n - (X : Int) * X - (Y : Int) * Y := by omega
            have b41 : (Y : Int) * Y ≤ n - (X : Int) * X - (Y : Int) * Y := by omega
            have HD1 := hid hd1
            clear hd1 hm1
            have HR := hid (fun w : World => l5RootL_any (n - (X : Int) * X - (Y : Int) * Y) b31 b21 w)
            cases e : rtO (n - (X : Int) * X - (Y : Int) * Y) with
            | some z =>
              rw [rtV_some e] at HR
              have HF := hid (manyS8 (w := w) (cs := #[.int .i64 X, .int .i64 Y, .int .i64 z]) HH.out (HS0.out.trans (scan_some (lvlF_some HD0.out (HS1.out.trans (scan_some (lvlF_some HD1.out (one_some (by omega) b41 b21 e))))))) rfl (by simp))
              clear e
              go_wp2_with (first | (go_at_call 74; refine (HR.out _).mono ?_; rintro e w' ⟨rfl, rfl⟩) | (go_at_call 62; refine (HS8.out _).mono ?_; rintro e w' ⟨rfl, rfl⟩))
              go_ret2
              exact HF.out
            | none =>
              rw [rtV_none e] at HR
              have HF := hid (HS1.out.trans (scan_skip (lvlF_none HD1.out (one_none (by omega) b41 b21 e))))
              clear e
              go_wp2_with (first | (go_at_call 74; refine (HR.out _).mono ?_; rintro e w' ⟨rfl, rfl⟩) | (go_at_call 62; refine (HS8.out _).mono ?_; rintro e w' ⟨rfl, rfl⟩))
              go_round
              case measure => simp only [intOf]; omega
              case rel => exact ⟨Y + 1, g1, by go_num, by omega, by omega, by omega, hid (by rw [HF.out]; rfl)⟩
          · have b11 : 0 ≤ 2 * (Y : Int) * Y ∧ 2 * (Y : Int) * Y ≤ 8100 := by omega
            have HN1 := hid (HS1.out.trans (scan_none _ _ (lvlF_stop (c := 1) (by omega) hc1)))
            clear hm1
            have HF := hid (HS0.out.trans (scan_skip (lvlF_none HD0.out HN1.out)))
            go_wp2
            go_round
            case measure => simp only [intOf]; omega
            case rel => exact ⟨X + 1, g0, by go_num, by omega, by omega, hid (by rw [HF.out]; rfl)⟩
      · have b10 : 0 ≤ 3 * (X : Int) * X ∧ 3 * (X : Int) * X ≤ 8100 := by omega
        have HN0 := hid (HS0.out.trans (scan_none _ _ (lvlF_stop (c := 2) (by omega) hc0)))
        clear hm0
        have HF := hid (manyN8 (w := w) (manyO_none HN0.out))
        go_wp2
        go_ret2
        exact HF.out
  · have HF := hid (manyN8 (w := w) (manyO_no (c := 3) H))
    go_enter Try.func34, Try.ntmps34
    go_wp2
    go_loop [4] (fun sx => sx = .int .i64 0) (fun _ => 0)
    case atStart => rfl
    case round =>
      subst hrel
      go_wp2
      go_ret2
      exact HF.out
  · have HF := hid (manyN8 (w := w) (manyO_no (c := 3) H))
    have HS8 := hid (fun w : World => l8Sum_any n 0 w)
    rw [show inR n 0 2000 = false from H] at HS8
    go_enter Try.func34, Try.ntmps34
    go_wp2
    go_loop [4] (fun sx => sx = .int .i64 0) (fun _ => 0)
    case atStart => rfl
    case round =>
      subst hrel
      go_wp2_with (go_at_call 62; refine (HS8.out _).mono ?_; rintro e w' ⟨rfl, rfl⟩)
      go_ret2
      exact HF.out

set_option maxRecDepth 100000 in
set_option maxHeartbeats 4000000 in
theorem fourFindS_any (n : Int) (w : World) : Calls Try.prog 44 #[.int .i64 n] w fun e w' => ManyPost 4 n w e w' := by
  rcases sumB_cases n with ⟨n0, n2, H⟩ | ⟨n0, H⟩ | ⟨n0, n2, H⟩
  · have HS8 := hid (fun w : World => l8Sum_any n 0 w)
    rw [show inR n 0 2000 = true from H] at HS8
    have HH := hid H
    clear H
    go_enter Try.func44, Try.ntmps44
    go_wp2
    go_loop [4] (fun sx => ∃ X f : Nat, sx = .int .i64 X ∧ X + f = 0 + 64 ∧ X ≤ 45 ∧ Hid (lvl 4 (n) 0 = scanO (lvlF 3 (n)) f X)) (fun sx => 50 - (intOf sx).toNat)
    case atStart => exact ⟨0, 64, rfl, by omega, by omega, hid (lvl_succ 3 (n) 0)⟩
    case round =>
      obtain ⟨X, f0, rfl, hf0, hXb, HS0⟩ := hrel
      obtain ⟨g0, rfl⟩ : ∃ g, f0 = g + 1 := ⟨f0 - 1, by omega⟩
      have hq0 := mul_bd (show X ≤ 45 by omega) (show X ≤ 45 by omega)
      have hm0 := mul4_eq (X : Int)
      by_cases hc0 : 4 * (X : Int) * X ≤ n
      · have hd0 : (((3 : Nat) : Int) + 1) * (X : Int) * X ≤ n := hc0
        have h440 := sq_small8 (c := 4) (x := (X : Int)) (by omega) (by omega) (by omega)
        have b10 : 0 ≤ 4 * (X : Int) * X := by omega
        have b20 : n - (X : Int) * X ≤ 2000 := by omega
        have b30 : 0 ≤ n - (X : Int) * X := by omega
        have b40 : (X : Int) * X ≤ n - (X : Int) * X := by omega
        have HD0 := hid hd0
        clear hd0 hm0
        go_wp2_with (first | (go_at_call 62; refine (HS8.out _).mono ?_; rintro e w' ⟨rfl, rfl⟩))
        go_loop [5] (fun sx => ∃ Y f : Nat, sx = .int .i64 Y ∧ Y + f = X + 64 ∧ Y ≤ 45 ∧ X ≤ Y ∧ Hid (lvl 3 (n - (X : Int) * X) (X : Int) = scanO (lvlF 2 (n - (X : Int) * X)) f Y)) (fun sx => 50 - (intOf sx).toNat)
        case atStart => exact ⟨X, 64, rfl, by omega, by omega, Nat.le_refl _, hid (lvl_succ 2 (n - (X : Int) * X) (X : Int))⟩
        case round =>
          obtain ⟨Y, f1, rfl, hf1, hYb, hYl, HS1⟩ := hrel
          obtain ⟨g1, rfl⟩ : ∃ g, f1 = g + 1 := ⟨f1 - 1, by omega⟩
          have hq1 := mul_bd (show Y ≤ 45 by omega) (show Y ≤ 45 by omega)
          have hm1 := mul3_eq (Y : Int)
          by_cases hc1 : 3 * (Y : Int) * Y ≤ n - (X : Int) * X
          · have hd1 : (((2 : Nat) : Int) + 1) * (Y : Int) * Y ≤ n - (X : Int) * X := hc1
            have h441 := sq_small8 (c := 3) (x := (Y : Int)) (by omega) (by omega) (by omega)
            have b11 : 0 ≤ 3 * (Y : Int) * Y := by omega
            have b21 : n - (X : Int) * X - (Y : Int) * Y ≤ 2000 := by omega
            have b31 : 0 ≤ n - (X : Int) * X - (Y : Int) * Y := by omega
            have b41 : (Y : Int) * Y ≤ n - (X : Int) * X - (Y : Int) * Y := by omega
            have HD1 := hid hd1
            clear hd1 hm1
            go_wp2_with (first | (go_at_call 62; refine (HS8.out _).mono ?_; rintro e w' ⟨rfl, rfl⟩))
            go_loop [6] (fun sx => ∃ Z f : Nat, sx = .int .i64 Z ∧ Z + f = Y + 64 ∧ Z ≤ 45 ∧ Y ≤ Z ∧ Hid (lvl 2 (n - (X : Int) * X - (Y : Int) * Y) (Y : Int) = scanO (lvlF 1 (n - (X : Int) * X - (Y : Int) * Y)) f Z)) (fun sx => 50 - (intOf sx).toNat)
            case atStart => exact ⟨Y, 64, rfl, by omega, by omega, Nat.le_refl _, hid (lvl_succ 1 (n - (X : Int) * X - (Y : Int) * Y) (Y : Int))⟩
            case round =>
              obtain ⟨Z, f2, rfl, hf2, hZb, hZl, HS2⟩ := hrel
              obtain ⟨g2, rfl⟩ : ∃ g, f2 = g + 1 := ⟨f2 - 1, by omega⟩
              have hq2 := mul_bd (show Z ≤ 45 by omega) (show Z ≤ 45 by omega)
              have hm2 := mul2_eq (Z : Int)
              by_cases hc2 : 2 * (Z : Int) * Z ≤ n - (X : Int) * X - (Y : Int) * Y
              · have hd2 : (((1 : Nat) : Int) + 1) * (Z : Int) * Z ≤ n - (X : Int) * X - (Y : Int) * Y := hc2
                have h442 := sq_small8 (c := 2) (x := (Z : Int)) (by omega) (by omega) (by omega)
                have b12 : 0 ≤ 2 * (Z : Int) * Z := by omega
                have b22 : n - (X : Int) * X - (Y : Int) * Y - (Z : Int) * Z ≤ 2000 := by omega
                have b32 : 0 ≤ n - (X : Int) * X - (Y : Int) * Y - (Z : Int) * Z := by omega
                have b42 : (Z : Int) * Z ≤ n - (X : Int) * X - (Y : Int) * Y - (Z : Int) * Z := by omega
                have HD2 := hid hd2
                clear hd2 hm2
                have HR := hid (fun w : World => l5RootL_any (n - (X : Int) * X - (Y : Int) * Y - (Z : Int) * Z) b32 b22 w)
                cases e : rtO (n - (X : Int) * X - (Y : Int) * Y - (Z : Int) * Z) with
                | some z =>
                  rw [rtV_some e] at HR
                  have HF := hid (manyS8 (w := w) (cs := #[.int .i64 X, .int .i64 Y, .int .i64 Z, .int .i64 z]) HH.out (HS0.out.trans (scan_some (lvlF_some HD0.out (HS1.out.trans (scan_some (lvlF_some HD1.out (HS2.out.trans (scan_some (lvlF_some HD2.out (one_some (by omega) b42 b22 e)))))))))) rfl (by simp))
                  clear e
                  go_wp2_with (first | (go_at_call 74; refine (HR.out _).mono ?_; rintro e w' ⟨rfl, rfl⟩) | (go_at_call 62; refine (HS8.out _).mono ?_; rintro e w' ⟨rfl, rfl⟩))
                  go_ret2
                  exact HF.out
                | none =>
                  rw [rtV_none e] at HR
                  have HF := hid (HS2.out.trans (scan_skip (lvlF_none HD2.out (one_none (by omega) b42 b22 e))))
                  clear e
                  go_wp2_with (first | (go_at_call 74; refine (HR.out _).mono ?_; rintro e w' ⟨rfl, rfl⟩) | (go_at_call 62; refine (HS8.out _).mono ?_; rintro e w' ⟨rfl, rfl⟩))
                  go_round
                  case measure => simp only [intOf]; omega
                  case rel => exact ⟨Z + 1, g2, by go_num, by omega, by omega, by omega, hid (by rw [HF.out]; rfl)⟩
              · have b12 : 0 ≤ 2 * (Z : Int) * Z ∧ 2 * (Z : Int) * Z ≤ 8100 := by omega
                have HN2 := hid (HS2.out.trans (scan_none _ _ (lvlF_stop (c := 1) (by omega) hc2)))
                clear hm2
                have HF := hid (HS1.out.trans (scan_skip (lvlF_none HD1.out HN2.out)))
                go_wp2
                go_round
                case measure => simp only [intOf]; omega
                case rel => exact ⟨Y + 1, g1, by go_num, by omega, by omega, by omega, hid (by rw [HF.out]; rfl)⟩
          · have b11 : 0 ≤ 3 * (Y : Int) * Y ∧ 3 * (Y : Int) * Y ≤ 8100 := by omega
            have HN1 := hid (HS1.out.trans (scan_none _ _ (lvlF_stop (c := 2) (by omega) hc1)))
            clear hm1
            have HF := hid (HS0.out.trans (scan_skip (lvlF_none HD0.out HN1.out)))
            go_wp2
            go_round
            case measure => simp only [intOf]; omega
            case rel => exact ⟨X + 1, g0, by go_num, by omega, by omega, hid (by rw [HF.out]; rfl)⟩
      · have b10 : 0 ≤ 4 * (X : Int) * X ∧ 4 * (X : Int) * X ≤ 8100 := by omega
        have HN0 := hid (HS0.out.trans (scan_none _ _ (lvlF_stop (c := 3) (by omega) hc0)))
        clear hm0
        have HF := hid (manyN8 (w := w) (manyO_none HN0.out))
        go_wp2
        go_ret2
        exact HF.out
  · have HF := hid (manyN8 (w := w) (manyO_no (c := 4) H))
    go_enter Try.func44, Try.ntmps44
    go_wp2
    go_loop [4] (fun sx => sx = .int .i64 0) (fun _ => 0)
    case atStart => rfl
    case round =>
      subst hrel
      go_wp2
      go_ret2
      exact HF.out
  · have HF := hid (manyN8 (w := w) (manyO_no (c := 4) H))
    have HS8 := hid (fun w : World => l8Sum_any n 0 w)
    rw [show inR n 0 2000 = false from H] at HS8
    go_enter Try.func44, Try.ntmps44
    go_wp2
    go_loop [4] (fun sx => sx = .int .i64 0) (fun _ => 0)
    case atStart => rfl
    case round =>
      subst hrel
      go_wp2_with (go_at_call 62; refine (HS8.out _).mono ?_; rintro e w' ⟨rfl, rfl⟩)
      go_ret2
      exact HF.out

end Go.Proofs.Ytdclmjmefkgbbab

/-! SuB2 -/
set_option linter.unusedVariables false
namespace Go.Proofs.Ytdclmjmefkgbbab
open Go.RowKit

theorem mod_cast8 (N D : Nat) : ((N : Int) % (D : Int)) = ((N % D : Nat) : Int) := (Int.natCast_emod N D).symm
theorem div_yes {N D : Nat} (h : N % D = 0) : ((N : Int) % (D : Int) == 0) = true := by rw [mod_cast8, h]; rfl
theorem div_no {N D : Nat} (h : ¬ N % D = 0) : ((N : Int) % (D : Int) == 0) = false := by rw [mod_cast8, beq_eq_false_iff_ne]; omega
theorem divS_at {g : Nat → Int} {n D : Nat} (h : 1 ≤ D) : divS g n D = divS g n (D - 1) + if n % D = 0 then g D else 0 := by
  obtain ⟨k, rfl⟩ : ∃ k, D = k + 1 := ⟨D - 1, by omega⟩
  rfl
theorem divS_yes {g : Nat → Int} {n D : Nat} (h : 1 ≤ D) (hd : n % D = 0) : divS g n D = divS g n (D - 1) + g D := by rw [divS_at h, if_pos hd]
theorem divS_no {g : Nat → Int} {n D : Nat} (h : 1 ≤ D) (hd : ¬ n % D = 0) : divS g n D = divS g n (D - 1) := by rw [divS_at h, if_neg hd, Int.add_zero]
theorem g2_one {D : Nat} (h : D % 4 = 1) : g2 D = 1 := by unfold g2; rw [if_pos h]
theorem g2_three {D : Nat} (h : D % 4 = 3) : g2 D = -1 := by unfold g2; rw [if_neg (by omega), if_pos h]
theorem g2_else {D : Nat} (h : ¬ D % 4 = 1) (h3 : ¬ D % 4 = 3) : g2 D = 0 := by unfold g2; rw [if_neg h, if_neg h3]
theorem g4_zero {D : Nat} (h : D % 4 = 0) : g4 D = 0 := by unfold g4; rw [if_pos h]
theorem g4_else {D : Nat} (h : ¬ D % 4 = 0) : g4 D = D := by unfold g4; rw [if_neg h]
theorem mod4_is {D k : Nat} (h : D % 4 = k) : ((D : Int) % 4 == (k : Int)) = true := by rw [beq_iff_eq]; omega
theorem mod4_not {D k : Nat} (h : ¬ D % 4 = k) : ((D : Int) % 4 == (k : Int)) = false := by rw [beq_eq_false_iff_ne]; omega
theorem twoMany_yes {N : Nat} (h : sum1 (N : Int) = true) : twoManyV (N : Int) = 4 * divS g2 N N := by unfold twoManyV; rw [if_pos h, Int.toNat_natCast]
theorem twoMany_no {n : Int} (h : sum1 n = false) : twoManyV n = -1 := by unfold twoManyV; rw [h]; rfl
theorem fourMany_yes {N : Nat} (h : sum1 (N : Int) = true) : fourManyV (N : Int) = 8 * divS g4 N N := by unfold fourManyV; rw [if_pos h, Int.toNat_natCast]
theorem fourMany_no {n : Int} (h : sum1 n = false) : fourManyV n = -1 := by unfold fourManyV; rw [h]; rfl
theorem twoEach_yes {n : Int} (h : sumB n = true) : twoEachV n = twoW n := by unfold twoEachV; rw [if_pos h]
theorem twoEach_no {n : Int} (h : sumB n = false) : twoEachV n = -1 := by unfold twoEachV; rw [h]; rfl
theorem div2_bd {N D : Nat} (h2 : N ≤ 2000) (hD : D ≤ 2001) : -8004 ≤ 4 * divS g2 N (D - 1) ∧ 4 * divS g2 N (D - 1) ≤ 8004 := by
  have := divS_bd (g := g2) (n := N) (m := 1) (by omega) (D - 1) (fun d _ => g2_bd d)
  omega
theorem div4_bd {N D : Nat} (h2 : N ≤ 2000) (hD : D ≤ 2001) : -4000000 ≤ divS g4 N (D - 1) ∧ divS g4 N (D - 1) ≤ 4000000 := by
  have := divS_bd (g := g4) (n := N) (m := 2000) (by omega) (D - 1) (fun d hd => by have := g4_bd d (by omega); omega)
  omega

set_option maxRecDepth 100000 in
set_option maxHeartbeats 2000000 in
theorem twoManyS_any (n : Int) (w : World) : Calls Try.prog 26 #[.int .i64 n] w fun e w' => e = .returned (.int .i64 (twoManyV n)) ∧ Below w.heap.size w w' := by
  have HS1 := hid (fun w : World => l8Sum_any n 1 w)
  cases H : sum1 n with
  | false =>
    rw [show inR n 1 2000 = false from H] at HS1
    have HF := hid (twoMany_no H)
    clear H
    go_enter Try.func26, Try.ntmps26
    go_wp2_with (go_at_call 62; refine (HS1.out _).mono ?_; rintro e w' ⟨rfl, rfl⟩)
    go_ret
    exact ⟨retI HF.out.symm, Below.refl _ _⟩
  | true =>
    rw [show inR n 1 2000 = true from H] at HS1
    have hn : 1 ≤ n ∧ n ≤ 2000 := by
      rcases sum1_cases n with ⟨a, b, _⟩ | ⟨_, c⟩ | ⟨_, _, c⟩
      · exact ⟨a, b⟩
      · rw [H] at c; cases c
      · rw [H] at c; cases c
    obtain ⟨N, rfl⟩ := Int.eq_ofNat_of_zero_le (show 0 ≤ n by omega)
    have HF := hid (twoMany_yes H)
    have hN1 : 1 ≤ N := by omega
    have hN2 : N ≤ 2000 := by omega
    clear H hn
    go_enter Try.func26, Try.ntmps26
    go_wp2_with (go_at_call 62; refine (HS1.out _).mono ?_; rintro e w' ⟨rfl, rfl⟩)
    go_loop [3, 4] (fun sc sd => ∃ (c : Int) (D : Nat), sc = .int .i64 c ∧ sd = .int .i64 D ∧ 1 ≤ D ∧ D ≤ N + 1 ∧ Hid (c = 4 * divS g2 N (D - 1))) (fun _ sd => 2001 - (intOf sd).toNat)
    case atStart => exact ⟨0, 1, rfl, rfl, by omega, by omega, hid rfl⟩
    case round =>
      obtain ⟨c, D, rfl, rfl, hD1, hDN, HC⟩ := hrel
      have hb := div2_bd (N := N) (D := D) hN2 (by omega)
      rw [← HC.out] at hb
      by_cases hle : D ≤ N
      · have hlei : (D : Int) ≤ (N : Int) := by omega
        by_cases hd : N % D = 0
        · have T := div_yes hd
          have HV := hid (divS_yes (g := g2) hD1 hd)
          by_cases h1 : D % 4 = 1
          · have T1 := mod4_is h1
            have T3 := mod4_not (D := D) (k := 3) (by omega)
            have HG := hid (g2_one h1)
            clear hd h1
            go_wp2
            go_round
            case measure => simp only [intOf]; omega
            case rel => exact ⟨c + 4, D + 1, rfl, by go_num, by omega, by omega, hid (by show _ = 4 * divS g2 N D; rw [HV.out, HG.out, HC.out]; omega)⟩
          · by_cases h3 : D % 4 = 3
            · have T1 := mod4_not (D := D) (k := 1) h1
              have T3 := mod4_is h3
              have HG := hid (g2_three h3)
              clear hd h1 h3
              go_wp2
              go_round
              case measure => simp only [intOf]; omega
              case rel => exact ⟨c - 4, D + 1, rfl, by go_num, by omega, by omega, hid (by show _ = 4 * divS g2 N D; rw [HV.out, HG.out, HC.out]; omega)⟩
            · have T1 := mod4_not (D := D) (k := 1) h1
              have T3 := mod4_not (D := D) (k := 3) h3
              have HG := hid (g2_else h1 h3)
              clear hd h1 h3
              go_wp2
              go_round
              case measure => simp only [intOf]; omega
              case rel => exact ⟨c, D + 1, rfl, by go_num, by omega, by omega, hid (by show _ = 4 * divS g2 N D; rw [HV.out, HG.out, HC.out]; omega)⟩
        · have T := div_no hd
          have HV := hid (divS_no (g := g2) hD1 hd)
          clear hd
          go_wp2
          go_round
          case measure => simp only [intOf]; omega
          case rel => exact ⟨c, D + 1, rfl, by go_num, by omega, by omega, hid (by show _ = 4 * divS g2 N D; rw [HV.out, HC.out])⟩
      · obtain rfl : D = N + 1 := by omega
        go_wp2
        go_ret
        exact ⟨retI (by rw [HF.out, HC.out]; rfl), Below.refl _ _⟩

set_option maxRecDepth 100000 in
set_option maxHeartbeats 2000000 in
theorem fourManyS_any (n : Int) (w : World) : Calls Try.prog 38 #[.int .i64 n] w fun e w' => e = .returned (.int .i64 (fourManyV n)) ∧ Below w.heap.size w w' := by
  have HS1 := hid (fun w : World => l8Sum_any n 1 w)
  cases H : sum1 n with
  | false =>
    rw [show inR n 1 2000 = false from H] at HS1
    have HF := hid (fourMany_no H)
    clear H
    go_enter Try.func38, Try.ntmps38
    go_wp2_with (go_at_call 62; refine (HS1.out _).mono ?_; rintro e w' ⟨rfl, rfl⟩)
    go_ret
    exact ⟨retI HF.out.symm, Below.refl _ _⟩
  | true =>
    rw [show inR n 1 2000 = true from H] at HS1
    have hn : 1 ≤ n ∧ n ≤ 2000 := by
      rcases sum1_cases n with ⟨a, b, _⟩ | ⟨_, c⟩ | ⟨_, _, c⟩
      · exact ⟨a, b⟩
      · rw [H] at c; cases c
      · rw [H] at c; cases c
    obtain ⟨N, rfl⟩ := Int.eq_ofNat_of_zero_le (show 0 ≤ n by omega)
    have HF := hid (fourMany_yes H)
    have hN1 : 1 ≤ N := by omega
    have hN2 : N ≤ 2000 := by omega
    clear H hn
    go_enter Try.func38, Try.ntmps38
    go_wp2_with (go_at_call 62; refine (HS1.out _).mono ?_; rintro e w' ⟨rfl, rfl⟩)
    go_loop [3, 4] (fun sc sd => ∃ (c : Int) (D : Nat), sc = .int .i64 c ∧ sd = .int .i64 D ∧ 1 ≤ D ∧ D ≤ N + 1 ∧ Hid (c = divS g4 N (D - 1))) (fun _ sd => 2001 - (intOf sd).toNat)
    case atStart => exact ⟨0, 1, rfl, rfl, by omega, by omega, hid rfl⟩
    case round =>
      obtain ⟨c, D, rfl, rfl, hD1, hDN, HC⟩ := hrel
      have hb := div4_bd (N := N) (D := D) hN2 (by omega)
      rw [← HC.out] at hb
      by_cases hle : D ≤ N
      · have hlei : (D : Int) ≤ (N : Int) := by omega
        by_cases hd : N % D = 0
        · have T := div_yes hd
          have HV := hid (divS_yes (g := g4) hD1 hd)
          by_cases h1 : D % 4 = 0
          · have T1 : ((D : Int) % 4 != 0) = false := by simp; omega
            have HG := hid (g4_zero h1)
            clear hd h1
            go_wp2
            go_round
            case measure => simp only [intOf]; omega
            case rel => exact ⟨c, D + 1, rfl, by go_num, by omega, by omega, hid (by show _ = divS g4 N D; rw [HV.out, HG.out, HC.out]; omega)⟩
          · have T1 : ((D : Int) % 4 != 0) = true := by simp; omega
            have HG := hid (g4_else h1)
            clear hd h1
            go_wp2
            go_round
            case measure => simp only [intOf]; omega
            case rel => exact ⟨c + D, D + 1, rfl, by go_num, by omega, by omega, hid (by show _ = divS g4 N D; rw [HV.out, HG.out, HC.out])⟩
        · have T := div_no hd
          have HV := hid (divS_no (g := g4) hD1 hd)
          clear hd
          go_wp2
          go_round
          case measure => simp only [intOf]; omega
          case rel => exact ⟨c, D + 1, rfl, by go_num, by omega, by omega, hid (by show _ = divS g4 N D; rw [HV.out, HC.out])⟩
      · obtain rfl : D = N + 1 := by omega
        go_wp2
        go_ret
        exact ⟨retI (by rw [HF.out, HC.out]; rfl), Below.refl _ _⟩

theorem wt_bd (z k : Nat) : 0 ≤ (if z = 0 then (1 : Int) else 2) * (if k = 0 then 1 else 2) ∧ (if z = 0 then (1 : Int) else 2) * (if k = 0 then 1 else 2) ≤ 4 := by
  by_cases hz : z = 0 <;> by_cases hk : k = 0 <;> simp [hz, hk]
theorem twM_bd {n : Int} : ∀ k : Nat, 0 ≤ twM n k ∧ twM n k ≤ 4 * (k : Int)
  | 0 => by simp [twM]
  | k + 1 => by
    have ih := twM_bd (n := n) k
    unfold twM
    split
    · cases rtO (n - (k : Int) * k) with
      | some z => have := wt_bd z k; show 0 ≤ twM n k + (if z = 0 then (1 : Int) else 2) * (if k = 0 then 1 else 2) ∧ twM n k + (if z = 0 then (1 : Int) else 2) * (if k = 0 then 1 else 2) ≤ _; omega
      | none => show 0 ≤ twM n k + 0 ∧ twM n k + 0 ≤ _; omega
    · omega
theorem twM_some {n : Int} {K z : Nat} (h : (K : Int) * K ≤ n) (hz : rtO (n - (K : Int) * K) = some z) : twM n (K + 1) = twM n K + (if z = 0 then 1 else 2) * (if K = 0 then 1 else 2) := by
  conv => lhs; unfold twM
  rw [if_pos h, hz]
theorem twM_none {n : Int} {K : Nat} (h : (K : Int) * K ≤ n) (hz : rtO (n - (K : Int) * K) = none) : twM n (K + 1) = twM n K := by
  conv => lhs; unfold twM
  rw [if_pos h, hz, Int.add_zero]
theorem twM_end {n : Int} {K : Nat} (h0 : 0 ≤ n) (h2 : n ≤ 2000) (hK : K ≤ 45) (h : ¬ (K : Int) * K ≤ n) : twM n K = twoW n := by
  obtain ⟨k, rfl⟩ : ∃ k, K = k + 1 := ⟨K - 1, by
    rcases Nat.eq_zero_or_pos K with e | e
    · rw [e] at h; exact absurd (by simpa using h0) h
    · omega⟩
  rw [twM_is h0 h2 k]
  unfold twoW
  exact eachK_end (by omega) (by simpa using h)

set_option maxRecDepth 100000 in
set_option maxHeartbeats 2000000 in
theorem l8Two_any (n : Int) (h0 : 0 ≤ n) (h2 : n ≤ 2000) (w : World) : Calls Try.prog 81 #[.int .i64 n] w fun e w' => e = .returned (.int .i64 (twoW n)) ∧ w = w' := by
  go_enter Try.func81, Try.ntmps81
  go_wp2
  go_loop [3, 4] (fun sc sx => ∃ (c : Int) (K : Nat), sc = .int .i64 c ∧ sx = .int .i64 K ∧ K ≤ 45 ∧ Hid (c = twM n K)) (fun _ sx => 50 - (intOf sx).toNat)
  case atStart => exact ⟨0, 0, rfl, rfl, by omega, hid rfl⟩
  case round =>
    obtain ⟨c, K, rfl, rfl, hK, HC⟩ := hrel
    have hb := twM_bd (n := n) K
    rw [← HC.out] at hb
    have hKK := mul_bd (show K ≤ 45 by omega) (show K ≤ 45 by omega)
    by_cases hc : (K : Int) * K ≤ n
    · have h44 := sq_small8 (c := 1) (x := (K : Int)) (by omega) (by omega) (by simp only [Int.one_mul]; omega)
      have HR := hid (fun w : World => l5RootL_any (n - (K : Int) * K) (by omega) (by omega) w)
      cases e : rtO (n - (K : Int) * K) with
      | some z =>
        have HT := hid (twM_some hc e)
        by_cases hz : z = 0
        · have e0 : rtV (n - (K : Int) * K) = 0 := by rw [rtV_some e, hz]; rfl
          rw [e0] at HR
          by_cases hk : K = 0
          · have hk0 : ¬ 0 < (K : Int) := by omega
            have hE : Hid (c + 1 = twM n (K + 1)) := hid (by rw [HT.out, HC.out, if_pos hz, if_pos hk]; rfl)
            clear e e0 hk hz HT
            go_wp2_with (go_at_call 74; refine (HR.out _).mono ?_; rintro e w' ⟨rfl, rfl⟩)
            go_round
            case measure => simp only [intOf]; omega
            case rel => exact ⟨c + 1, K + 1, rfl, by go_num, by omega, hE⟩
          · have hk1 : 0 < (K : Int) := by omega
            have hE : Hid (c + 2 = twM n (K + 1)) := hid (by rw [HT.out, HC.out, if_pos hz, if_neg hk]; rfl)
            clear e e0 hk hz HT
            go_wp2_with (go_at_call 74; refine (HR.out _).mono ?_; rintro e w' ⟨rfl, rfl⟩)
            go_round
            case measure => simp only [intOf]; omega
            case rel => exact ⟨c + 2, K + 1, rfl, by go_num, by omega, hE⟩
        · have hz1 : 0 < (z : Int) := by omega
          rw [rtV_some e] at HR
          by_cases hk : K = 0
          · have hk0 : ¬ 0 < (K : Int) := by omega
            have hE : Hid (c + 2 = twM n (K + 1)) := hid (by rw [HT.out, HC.out, if_neg hz, if_pos hk]; rfl)
            clear e hk hz HT
            go_wp2_with (go_at_call 74; refine (HR.out _).mono ?_; rintro e w' ⟨rfl, rfl⟩)
            go_round
            case measure => simp only [intOf]; omega
            case rel => exact ⟨c + 2, K + 1, rfl, by go_num, by omega, hE⟩
          · have hk1 : 0 < (K : Int) := by omega
            have hE : Hid (c + 4 = twM n (K + 1)) := hid (by rw [HT.out, HC.out, if_neg hz, if_neg hk]; rfl)
            clear e hk hz HT
            go_wp2_with (go_at_call 74; refine (HR.out _).mono ?_; rintro e w' ⟨rfl, rfl⟩)
            go_round
            case measure => simp only [intOf]; omega
            case rel => exact ⟨c + 4, K + 1, rfl, by go_num, by omega, hE⟩
      | none =>
        rw [rtV_none e] at HR
        have HT := hid (twM_none hc e)
        clear e
        go_wp2_with (go_at_call 74; refine (HR.out _).mono ?_; rintro e w' ⟨rfl, rfl⟩)
        go_round
        case measure => simp only [intOf]; omega
        case rel => exact ⟨c, K + 1, rfl, by go_num, by omega, hid (by rw [HC.out]; exact HT.out.symm)⟩
    · have HE := hid (HC.out.trans (twM_end h0 h2 hK hc))
      go_wp2
      go_ret
      exact ⟨retI HE.out, rfl⟩


theorem fourE_yes {N : Nat} (h : inR (N : Int) 0 300 = true) : fourEachV (N : Int) = fourK N (N + 1) := by unfold fourEachV; rw [if_pos h, Int.toNat_natCast]
theorem fourE_no {n : Int} (h : inR n 0 300 = false) : fourEachV n = -1 := by unfold fourEachV; rw [h]; rfl
set_option maxRecDepth 100000 in
set_option maxHeartbeats 2000000 in
theorem fourEachS_any (n : Int) (w : World) : Calls Try.prog 41 #[.int .i64 n] w fun e w' => e = .returned (.int .i64 (fourEachV n)) ∧ Below w.heap.size w w' := by
  have HS1 := hid (fun w : World => l6In_any n 0 300 w)
  cases H : inR n 0 300 with
  | false =>
    rw [H] at HS1
    have HF := hid (fourE_no H)
    clear H
    go_enter Try.func41, Try.ntmps41
    go_wp2_with (go_at_call 80; refine (HS1.out _).mono ?_; rintro e w' ⟨rfl, rfl⟩)
    go_ret
    exact ⟨retI HF.out.symm, Below.refl _ _⟩
  | true =>
    rw [H] at HS1
    have hn : 0 ≤ n ∧ n ≤ 300 := by
      rcases inR_cases n 0 300 with ⟨a, b, _⟩ | ⟨_, c⟩ | ⟨_, _, c⟩
      · exact ⟨a, b⟩
      · rw [H] at c; cases c
      · rw [H] at c; cases c
    obtain ⟨N, rfl⟩ := Int.eq_ofNat_of_zero_le hn.1
    have HF := hid (fourE_yes H)
    have hN2 : N ≤ 300 := by omega
    clear H hn
    go_enter Try.func41, Try.ntmps41
    go_wp2_with (go_at_call 80; refine (HS1.out _).mono ?_; rintro e w' ⟨rfl, rfl⟩)
    go_loop [3, 4] (fun sc sk => ∃ (c : Int) (K : Nat), sc = .int .i64 c ∧ sk = .int .i64 K ∧ K ≤ N + 1 ∧ Hid (c = fourK N K)) (fun _ sk => 400 - (intOf sk).toNat)
    case atStart => exact ⟨0, 0, rfl, rfl, by omega, hid rfl⟩
    case round =>
      obtain ⟨c, K, rfl, rfl, hK, HC⟩ := hrel
      have hb := fourK_bd (n := (N : Int)) (by omega) K (by omega)
      rw [← HC.out] at hb
      by_cases hle : K ≤ N
      · have hlei : (K : Int) ≤ (N : Int) := by omega
        have t1 := twoW_bd (n := (K : Int)) (by omega)
        have t2 := twoW_bd (n := (N : Int) - (K : Int)) (by omega)
        have HA := hid (fun w : World => l8Two_any (K : Int) (by omega) (by omega) w)
        have HB := hid (fun w : World => l8Two_any ((N : Int) - (K : Int)) (by omega) (by omega) w)
        have HK : Hid (fourK N (K + 1) = fourK N K + twoW (K : Int) * twoW ((N : Int) - (K : Int))) := hid rfl
        generalize twoW (K : Int) = a at *
        generalize twoW ((N : Int) - (K : Int)) = b at *
        have t3 : 0 ≤ a * b := Int.mul_nonneg t1.1 t2.1
        have t4 : a * b ≤ 8281 * 8281 := Int.mul_le_mul t1.2 t2.2 t2.1 (by omega)
        go_wp2_with fail
        refine (HA.out _).mono ?_
        rintro e w' ⟨rfl, rfl⟩
        go_wp2_with fail
        refine (HB.out _).mono ?_
        rintro e w' ⟨rfl, rfl⟩
        go_wp2
        go_round
        case measure => simp only [intOf]; omega
        case rel => exact ⟨c + a * b, K + 1, rfl, by go_num, by omega, hid (by rw [HK.out, HC.out])⟩
      · obtain rfl : K = N + 1 := by omega
        go_wp2
        go_ret
        exact ⟨retI (by rw [HF.out]; exact HC.out), Below.refl _ _⟩

theorem threeIs_yes {N : Nat} (h : sumB (N : Int) = true) : threeIsB (N : Int) = !decide (stripN N % 8 = 7) := by unfold threeIsB; rw [h, Int.toNat_natCast]; rfl
theorem threeIs_no {n : Int} (h : sumB n = false) : threeIsB n = false := by unfold threeIsB; rw [h]; rfl
theorem three_end {N M : Nat} (h : stripN M = stripN N) (hs : ¬ (0 < M ∧ M % 4 = 0)) : ((M : Int) % 8 != 7) = !decide (stripN N % 8 = 7) := by
  rw [← h, strip_stop hs]
  by_cases e : M % 8 = 7
  · rw [decide_eq_true e]; simp; omega
  · rw [decide_eq_false e]; simp; omega
set_option maxRecDepth 100000 in
set_option maxHeartbeats 2000000 in
theorem threeIsS_any (n : Int) (w : World) : Calls Try.prog 30 #[.int .i64 n] w fun e w' => e = .returned (.bool (threeIsB n)) ∧ Below w.heap.size w w' := by
  have HS0 := hid (fun w : World => l8Sum_any n 0 w)
  rcases sumB_cases n with ⟨n0, n2, H⟩ | ⟨n0, H⟩ | ⟨n0, n2, H⟩
  · rw [show inR n 0 2000 = true from H] at HS0
    obtain ⟨N, rfl⟩ := Int.eq_ofNat_of_zero_le n0
    have HF := hid (threeIs_yes H)
    have hN2 : N ≤ 2000 := by omega
    clear H
    go_enter Try.func30, Try.ntmps30
    go_wp2_with (go_at_call 62; refine (HS0.out _).mono ?_; rintro e w' ⟨rfl, rfl⟩)
    go_loop [0] (fun sn => ∃ M : Nat, sn = .int .i64 M ∧ M ≤ 2000 ∧ Hid (stripN M = stripN N)) (fun sn => (intOf sn).toNat)
    case atStart => exact ⟨N, rfl, hN2, hid rfl⟩
    case round =>
      obtain ⟨M, rfl, hM, HS⟩ := hrel
      by_cases hc : 0 < M ∧ M % 4 = 0
      · have T := mod4_is hc.2
        have hp : 0 < (M : Int) := by omega
        have HD := hid ((strip_step hc.1 hc.2).symm.trans HS.out)
        have hq : M / 4 < M := by omega
        clear hc
        go_wp2
        go_round
        case measure => simp only [intOf]; omega
        case rel => exact ⟨M / 4, by go_num, by omega, HD⟩
      · have HE := hid (three_end HS.out hc)
        rcases Nat.eq_zero_or_pos M with e | e
        · subst e
          go_wp2
          go_ret
          exact ⟨retB (by rw [HF.out]; exact HE.out), Below.refl _ _⟩
        · have T := mod4_not (D := M) (k := 0) (by omega)
          have hp : 0 < (M : Int) := by omega
          clear hc
          go_wp2
          go_ret
          exact ⟨retB (by rw [HF.out]; exact HE.out), Below.refl _ _⟩
  all_goals
    rw [show inR n 0 2000 = false from H] at HS0
    have HF := hid (threeIs_no H)
    clear H
    go_enter Try.func30, Try.ntmps30
    go_wp2_with (go_at_call 62; refine (HS0.out _).mono ?_; rintro e w' ⟨rfl, rfl⟩)
    go_ret
    exact ⟨retB HF.out.symm, Below.refl _ _⟩

end Go.Proofs.Ytdclmjmefkgbbab
