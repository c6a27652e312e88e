/-
  Plain: sums of squares: what the searches find, sums over divisors and over squares.
-/
import Derived.Test.YtdclmjmefkgbbaaQBun0
set_option linter.unusedVariables false
namespace Go.Proofs.Ytdclmjmefkgbbaa
open Go.RowKit

/-- the root of a square -/
def rtO (n : Int) : Option Nat := if n < 0 then none else (List.range (n.toNat + 1)).find? (fun z : Nat => decide ((z : Int) * z = n))
theorem sq_injL {x y : Nat} (h : (x : Int) * x = (y : Int) * y) : x = y := by
  have h2 : x * x = y * y := by exact_mod_cast h
  rcases Nat.lt_trichotomy x y with h1 | h1 | h1
  · have := Nat.mul_lt_mul_of_lt_of_le h1 (Nat.le_of_lt h1) (by omega); omega
  · exact h1
  · have := Nat.mul_lt_mul_of_lt_of_le h1 (Nat.le_of_lt h1) (by omega); omega
theorem rtO_of {n : Int} {z : Nat} (h : (z : Int) * z = n) : rtO n = some z := by
  have hn : ¬ n < 0 := by have := Int.mul_nonneg (Int.natCast_nonneg z) (Int.natCast_nonneg z); omega
  unfold rtO
  rw [if_neg hn]
  have hz : z < n.toNat + 1 := by
    have h1 : z ≤ z * z := by
      rcases Nat.eq_zero_or_pos z with e | e
      · rw [e]; exact Nat.zero_le _
      · exact Nat.le_mul_of_pos_left _ e
    have h2 : ((z * z : Nat) : Int) = n := by push_cast; exact h
    omega
  cases hf : (List.range (n.toNat + 1)).find? (fun z : Nat => decide ((z : Int) * z = n)) with
  | none =>
    have := List.find?_eq_none.1 hf z (List.mem_range.2 hz)
    rw [decide_eq_true h] at this
    exact absurd rfl this
  | some y =>
    have := List.find?_some hf
    rw [decide_eq_true_eq] at this
    rw [sq_injL (this.trans h.symm)]
theorem rtO_some {n : Int} {z : Nat} (h : rtO n = some z) : (z : Int) * z = n := by
  unfold rtO at h
  by_cases hn : n < 0
  · rw [if_pos hn] at h; cases h
  · rw [if_neg hn] at h
    have := List.find?_some h
    rwa [decide_eq_true_eq] at this
theorem rtO_none {n : Int} (h : ∀ z : Nat, (z : Int) * z ≠ n) : rtO n = none := by
  cases hr : rtO n with
  | none => rfl
  | some z => exact absurd (rtO_some hr) (h z)

/-- the first hit of a function from x on, within k numbers -/
def scanO (f : Int → Option (List Int)) : Nat → Int → Option (List Int)
  | 0, _ => none
  | k + 1, x => match f x with
    | some l => some l
    | none => scanO f k (x + 1)
theorem scan_some {f : Int → Option (List Int)} {k : Nat} {x : Int} {l : List Int} (h : f x = some l) : scanO f (k + 1) x = some l := by
  show (match f x with | some l => some l | none => scanO f k (x + 1)) = some l
  rw [h]
theorem scan_skip {f : Int → Option (List Int)} {k : Nat} {x : Int} (h : f x = none) : scanO f (k + 1) x = scanO f k (x + 1) := by
  show (match f x with | some l => some l | none => scanO f k (x + 1)) = _
  rw [h]
theorem scan_none {f : Int → Option (List Int)} : ∀ (k : Nat) (x : Int), (∀ y, x ≤ y → f y = none) → scanO f k x = none
  | 0, _, _ => rfl
  | k + 1, x, h => by
    rw [scan_skip (h x (Int.le_refl _))]
    exact scan_none k (x + 1) fun y hy => h y (by omega)
theorem scan_mem {f : Int → Option (List Int)} {l : List Int} : ∀ (k : Nat) (x : Int), scanO f k x = some l → ∃ y, x ≤ y ∧ f y = some l
  | 0, _, h => by cases h
  | k + 1, x, h => by
    cases e : f x with
    | some m =>
      rw [scan_some e] at h
      exact ⟨x, Int.le_refl _, by rw [e, h]⟩
    | none =>
      rw [scan_skip e] at h
      obtain ⟨y, hy, hf⟩ := scan_mem k (x + 1) h
      exact ⟨y, by omega, hf⟩
/-- the least list of c ascending numbers from a on, whose squares have the sum n -/
def lvl : Nat → Int → Int → Option (List Int)
  | 0, n, _ => if n = 0 then some [] else none
  | c + 1, n, a => scanO (fun x => if ((c : Int) + 1) * x * x ≤ n then (lvl c (n - x * x) x).map (x :: ·) else none) 64 a
def lvlF (c : Nat) (n x : Int) : Option (List Int) := if ((c : Int) + 1) * x * x ≤ n then (lvl c (n - x * x) x).map (x :: ·) else none
theorem lvl_zero (n a : Int) : lvl 0 n a = if n = 0 then some [] else none := by unfold lvl; rfl
theorem lvl_succ (c : Nat) (n a : Int) : lvl (c + 1) n a = scanO (lvlF c n) 64 a := by
  conv => lhs; unfold lvl
  rfl
theorem sq_grow {c x y : Int} (hc : 0 ≤ c) (hx : 0 ≤ x) (h : x ≤ y) : c * x * x ≤ c * y * y := by
  have h1 : x * x ≤ y * y := Int.mul_le_mul h h hx (by omega)
  rw [Int.mul_assoc, Int.mul_assoc]
  exact Int.mul_le_mul_of_nonneg_left h1 hc
theorem lvlF_stop {c : Nat} {n x : Int} (hx : 0 ≤ x) (h : ¬ ((c : Int) + 1) * x * x ≤ n) (y : Int) (hy : x ≤ y) : lvlF c n y = none := by
  unfold lvlF
  have := sq_grow (c := (c : Int) + 1) (by omega) hx hy
  rw [if_neg (by omega)]
theorem lvlF_yes {c : Nat} {n x : Int} (h : ((c : Int) + 1) * x * x ≤ n) : lvlF c n x = (lvl c (n - x * x) x).map (x :: ·) := by unfold lvlF; rw [if_pos h]
/-- a number whose square, taken once or oftener, is at most 2000 is small -/
theorem sq_small {c x : Int} (hc : 1 ≤ c) (hx : 0 ≤ x) (h : c * x * x ≤ 2000) : x ≤ 44 := by
  rcases Int.lt_or_le 44 x with h1 | h1
  · have h2 := sq_grow (c := c) (x := 45) (y := x) (by omega) (by omega) (by omega)
    omega
  · exact h1
theorem sq_one {c x : Int} (hc : 1 ≤ c) (hx : 0 ≤ x) : 0 ≤ x * x ∧ x * x ≤ c * x * x := by
  have h0 : 0 ≤ x * x := Int.mul_nonneg hx hx
  refine ⟨h0, ?_⟩
  rw [Int.mul_assoc]
  have := Int.mul_le_mul_of_nonneg_right hc h0
  omega
theorem sq_lt {a b : Int} (h0 : 0 ≤ a) (h : a < b) : a * a < b * b := by
  have h1 : a * a ≤ a * b := Int.mul_le_mul_of_nonneg_left (Int.le_of_lt h) h0
  have h2 : a * b < b * b := Int.mul_lt_mul_of_pos_right h (by omega)
  omega
theorem sq_le1 {x y : Int} (hx : 0 ≤ x) (h : x ≤ y) : x * x ≤ y * y := Int.mul_le_mul h h hx (by omega)
theorem one_go {m x : Int} (hx : 0 ≤ x) (hm : m ≤ 2000) : ∀ (k : Nat) (y : Int), x ≤ y → (k : Int) + y = x + 64 → (∀ z : Nat, (z : Int) < y → (z : Int) * z ≠ m) → scanO (lvlF 0 m) k y = (rtO m).map (fun z : Nat => [(z : Int)])
  | 0, y, hy, hk, hz => by
    have h1 := sq_le1 (x := 45) (y := y) (by omega) (by omega)
    rw [rtO_none fun z he => by
      rcases Int.lt_or_le (z : Int) y with h2 | h2
      · exact hz z h2 he
      · have h3 := sq_le1 (x := y) (y := z) (by omega) h2
        omega]
    rfl
  | k + 1, y, hy, hk, hz => by
    by_cases hc : y * y ≤ m
    · have hF : lvlF 0 m y = if m - y * y = 0 then some [y] else none := by
        rw [lvlF_yes (by simpa using hc), lvl_zero]
        split <;> rfl
      by_cases he : m - y * y = 0
      · rw [if_pos he] at hF
        rw [scan_some hF]
        obtain ⟨z, rfl⟩ := Int.eq_ofNat_of_zero_le (show 0 ≤ y by omega)
        rw [rtO_of (show (z : Int) * z = m by omega)]
        rfl
      · rw [if_neg he] at hF
        rw [scan_skip hF]
        refine one_go hx hm k (y + 1) (by omega) (by omega) fun z hz2 hz3 => ?_
        rcases Int.lt_or_le (z : Int) y with h2 | h2
        · exact hz z h2 hz3
        · have : (z : Int) = y := by omega
          rw [this] at hz3
          omega
    · have hF := lvlF_stop (c := 0) (n := m) (x := y) (by omega) (by simpa using hc)
      rw [scan_none _ _ hF]
      rw [rtO_none fun z he => by
        rcases Int.lt_or_le (z : Int) y with h2 | h2
        · exact hz z h2 he
        · have h3 := sq_le1 (x := y) (y := z) (by omega) h2
          omega]
      rfl
/-- one square: the root -/
theorem lvl_one {m x : Int} (hx : 0 ≤ x) (h : x * x ≤ m) (hm : m ≤ 2000) : lvl 1 m x = (rtO m).map (fun z : Nat => [(z : Int)]) := by
  rw [lvl_succ]
  refine one_go hx hm 64 x (Int.le_refl _) (by omega) fun z hz he => ?_
  have h3 := sq_lt (a := (z : Int)) (by omega) hz
  omega
theorem root_neg {n : Int} (h : n < 0) : rtO n = none := by unfold rtO; rw [if_pos h]

/-- the sum of a function over the divisors up to k -/
def divS (g : Nat → Int) (n : Nat) : Nat → Int
  | 0 => 0
  | k + 1 => divS g n k + if n % (k + 1) = 0 then g (k + 1) else 0
def g2 (d : Nat) : Int := if d % 4 = 1 then 1 else if d % 4 = 3 then -1 else 0
def g4 (d : Nat) : Int := if d % 4 = 0 then 0 else d
theorem g2_bd (d : Nat) : -1 ≤ g2 d ∧ g2 d ≤ 1 := by unfold g2; split <;> (try split) <;> omega
theorem g4_bd (d : Nat) (h : d ≤ 2000) : 0 ≤ g4 d ∧ g4 d ≤ 2000 := by unfold g4; split <;> omega
theorem divS_bd {g : Nat → Int} {n : Nat} {m : Int} (hm : 0 ≤ m) : ∀ k, (∀ d, d ≤ k → -m ≤ g d ∧ g d ≤ m) → -m * (k : Int) ≤ divS g n k ∧ divS g n k ≤ m * (k : Int)
  | 0, _ => by simp [divS]
  | k + 1, h => by
    have ih := divS_bd (n := n) hm k fun d hd => h d (by omega)
    have h1 := h (k + 1) (Nat.le_refl _)
    unfold divS
    have e1 : m * ((k + 1 : Nat) : Int) = m * (k : Int) + m := by push_cast; rw [Int.mul_add, Int.mul_one]
    have e2 : -m * ((k + 1 : Nat) : Int) = -m * (k : Int) - m := by push_cast; rw [Int.mul_add, Int.mul_one]; omega
    rw [e1, e2]
    split <;> omega

/-- the sum of a function over what is left of n without the square of 0 to k and their opposites -/
def eachK (g : Int → Int) (n : Int) : Nat → Int
  | 0 => g n
  | k + 1 => eachK g n k + if ((k : Int) + 1) * ((k : Int) + 1) ≤ n then g (n - ((k : Int) + 1) * ((k : Int) + 1)) + g (n - ((k : Int) + 1) * ((k : Int) + 1)) else 0
theorem eachK_succ (g : Int → Int) (n : Int) (k : Nat) : eachK g n (k + 1) = eachK g n k + if ((k : Int) + 1) * ((k : Int) + 1) ≤ n then g (n - ((k : Int) + 1) * ((k : Int) + 1)) + g (n - ((k : Int) + 1) * ((k : Int) + 1)) else 0 := rfl
def eachS (g : Int → Int) (n : Int) : Int := eachK g n 45
theorem eachK_stop {g : Int → Int} {n : Int} {k : Nat} (h : ¬ ((k : Int) + 1) * ((k : Int) + 1) ≤ n) : ∀ j, eachK g n (k + j) = eachK g n k
  | 0 => rfl
  | j + 1 => by
    have ih := eachK_stop (g := g) h j
    rw [← Nat.add_assoc, eachK_succ]
    have h1 := sq_grow (c := 1) (x := (k : Int) + 1) (y := ((k + j : Nat) : Int) + 1) (by omega) (by omega) (by omega)
    simp only [Int.one_mul] at h1
    rw [if_neg (by omega), ih, Int.add_zero]
theorem eachK_end {g : Int → Int} {n : Int} {k : Nat} (hk : k ≤ 45) (h : ¬ ((k : Int) + 1) * ((k : Int) + 1) ≤ n) : eachK g n k = eachS g n := by
  obtain ⟨j, hj⟩ : ∃ j, 45 = k + j := ⟨45 - k, by omega⟩
  unfold eachS
  rw [hj, eachK_stop h j]
theorem eachK_bd {g : Int → Int} {n m : Int} (hm : 0 ≤ m) (h : ∀ x, 0 ≤ x → x ≤ n → 0 ≤ g x ∧ g x ≤ m) (hn : 0 ≤ n) : ∀ k : Nat, 0 ≤ eachK g n k ∧ eachK g n k ≤ m + 2 * m * (k : Int)
  | 0 => by have := h n hn (Int.le_refl _); simp [eachK]; omega
  | k + 1 => by
    have ih := eachK_bd hm h hn k
    unfold eachK
    have e1 : 2 * m * ((k + 1 : Nat) : Int) = 2 * m * (k : Int) + 2 * m := by push_cast; rw [Int.mul_add, Int.mul_one]
    rw [e1]
    have h0 : 0 ≤ ((k : Int) + 1) * ((k : Int) + 1) := Int.mul_nonneg (by omega) (by omega)
    split
    · have h1 := h (n - ((k : Int) + 1) * ((k : Int) + 1)) (by omega) (by omega)
      omega
    · omega
def dl (x : Int) : Int := if x = 0 then 1 else 0
def sq2 (n : Int) : Int := eachS dl n
def twoW (n : Int) : Int := eachS sq2 n
theorem dl_bd (x : Int) : 0 ≤ dl x ∧ dl x ≤ 1 := by unfold dl; split <;> omega
theorem sq2_bd {n : Int} (hn : 0 ≤ n) : 0 ≤ sq2 n ∧ sq2 n ≤ 91 := by
  have := eachK_bd (g := dl) (n := n) (m := 1) (by omega) (fun x _ _ => dl_bd x) hn 45
  unfold sq2 eachS
  omega
theorem twoW_bd {n : Int} (hn : 0 ≤ n) : 0 ≤ twoW n ∧ twoW n ≤ 8281 := by
  have := eachK_bd (g := sq2) (n := n) (m := 91) (by omega) (fun x h _ => sq2_bd h) hn 45
  unfold twoW eachS
  omega
/-- signs of a square: 1 of 0, 2 of others -/
theorem sq2_is {n : Int} (hn : 0 ≤ n) (h2 : n ≤ 2000) : sq2 n = match rtO n with | some z => if z = 0 then 1 else 2 | none => 0 := by
  have key : ∀ k : Nat, eachK dl n k = if n = 0 then 1 else match rtO n with | some z => if z ≤ k then 2 else 0 | none => 0 := by
    intro k
    induction k with
    | zero =>
      unfold eachK dl
      by_cases h0 : n = 0
      · rw [if_pos h0, if_pos h0]
      · rw [if_neg h0, if_neg h0]
        cases e : rtO n with
        | none => rfl
        | some z =>
          have := rtO_some e
          show _ = if z ≤ 0 then (2 : Int) else 0
          rw [if_neg (fun hz => h0 (by obtain rfl : z = 0 := by omega
                                       simpa using this.symm))]
    | succ k ih =>
      unfold eachK
      rw [ih]
      have hk1 : 0 < ((k : Int) + 1) * ((k : Int) + 1) := Int.mul_pos (by omega) (by omega)
      by_cases h0 : n = 0
      · rw [if_pos h0, if_pos h0, if_neg (by omega)]; rfl
      · rw [if_neg h0, if_neg h0]
        cases e : rtO n with
        | none =>
          show (0 : Int) + _ = 0
          split
          · have : n - ((k : Int) + 1) * ((k : Int) + 1) ≠ 0 := fun he => by
              have := rtO_of (n := n) (z := k + 1) (by push_cast; omega)
              rw [e] at this; cases this
            unfold dl
            rw [if_neg this]; rfl
          · rfl
        | some z =>
          have hz := rtO_some e
          show (if z ≤ k then (2 : Int) else 0) + _ = if z ≤ k + 1 then (2 : Int) else 0
          rcases Nat.lt_trichotomy z (k + 1) with h1 | h1 | h1
          · rw [if_pos (show z ≤ k by omega), if_pos (show z ≤ k + 1 by omega)]
            have h3 : (z : Int) * z < ((k : Int) + 1) * ((k : Int) + 1) := sq_lt (by omega) (by omega)
            rw [if_neg (by omega)]; rfl
          · subst h1
            rw [if_neg (by omega), if_pos (Nat.le_refl _)]
            push_cast at hz
            rw [if_pos (by omega)]
            unfold dl
            rw [if_pos (by omega)]; rfl
          · rw [if_neg (show ¬ z ≤ k by omega), if_neg (show ¬ z ≤ k + 1 by omega)]
            have h3 : ((k : Int) + 1) * ((k : Int) + 1) < (z : Int) * z := sq_lt (by omega) (by omega)
            unfold dl
            split
            · rw [if_neg (by omega)]; rfl
            · rfl
  unfold sq2 eachS
  rw [key]
  by_cases h0 : n = 0
  · rw [if_pos h0]
    have := rtO_of (n := n) (z := 0) (by rw [h0]; rfl)
    rw [this]; rfl
  · rw [if_neg h0]
    cases e : rtO n with
    | none => rfl
    | some z =>
      have hz := rtO_some e
      have hz0 : z ≠ 0 := fun h => h0 (by rw [h] at hz; simpa using hz.symm)
      have h44 := sq_small (c := 1) (x := (z : Int)) (by omega) (by omega) (by simp only [Int.one_mul]; omega)
      show (if z ≤ 45 then (2 : Int) else 0) = if z = 0 then 1 else 2
      rw [if_pos (by omega), if_neg hz0]
/-- the model's way of counting -/
def twM (n : Int) : Nat → Int
  | 0 => 0
  | k + 1 => twM n k + if (k : Int) * k ≤ n then (match rtO (n - (k : Int) * k) with | some y => (if y = 0 then 1 else 2) * (if k = 0 then 1 else 2) | none => 0) else 0
theorem twM_is {n : Int} (hn : 0 ≤ n) (h2 : n ≤ 2000) : ∀ k : Nat, twM n (k + 1) = eachK sq2 n k
  | 0 => by
    unfold twM eachK
    show (0 : Int) + _ = _
    rw [if_pos (by simpa using hn), Int.zero_add, sq2_is hn h2]
    simp only [Int.natCast_zero, Int.mul_zero, Int.sub_zero, if_true, Int.mul_one]
  | k + 1 => by
    have ih := twM_is hn h2 k
    rw [eachK_succ]
    show twM n (k + 1) + _ = _
    rw [ih]
    have e : ((k + 1 : Nat) : Int) = (k : Int) + 1 := by push_cast; rfl
    rw [e]
    congr 1
    by_cases hc : ((k : Int) + 1) * ((k : Int) + 1) ≤ n
    · rw [if_pos hc, if_pos hc, sq2_is (by omega) (by have : 0 ≤ ((k : Int) + 1) * ((k : Int) + 1) := Int.mul_nonneg (by omega) (by omega)
                                                      omega)]
      cases rtO (n - ((k : Int) + 1) * ((k : Int) + 1)) with
      | none => rfl
      | some y =>
        show (if y = 0 then (1 : Int) else 2) * (if k + 1 = 0 then 1 else 2) = (if y = 0 then (1 : Int) else 2) + (if y = 0 then (1 : Int) else 2)
        rw [if_neg (show ¬ k + 1 = 0 by omega)]
        omega
    · rw [if_neg hc, if_neg hc]
/-- ways of four squares, by ways of two -/
def fourK (n : Int) : Nat → Int
  | 0 => 0
  | k + 1 => fourK n k + twoW k * twoW (n - k)
theorem fourK_bd {n : Int} (hn : 0 ≤ n) : ∀ k : Nat, (k : Int) ≤ n + 1 → 0 ≤ fourK n k ∧ fourK n k ≤ 68574961 * (k : Int)
  | 0, _ => by simp [fourK]
  | k + 1, hk => by
    have ih := fourK_bd hn k (by push_cast at hk; omega)
    have h1 := twoW_bd (n := (k : Int)) (by omega)
    have h2 := twoW_bd (n := n - (k : Int)) (by push_cast at hk; omega)
    have h3 : 0 ≤ twoW k * twoW (n - k) := Int.mul_nonneg h1.1 h2.1
    have h4 : twoW k * twoW (n - k) ≤ 8281 * 8281 := Int.mul_le_mul h1.2 h2.2 h2.1 (by omega)
    unfold fourK
    push_cast
    omega
/-- divided by 4 as often as it can be -/
def strip : Nat → Nat → Nat
  | 0, n => n
  | f + 1, n => if 0 < n ∧ n % 4 = 0 then strip f (n / 4) else n
theorem strip_fuel : ∀ f g n, n ≤ f → n ≤ g → strip f n = strip g n
  | 0, g, n, h1, h2 => by
    obtain rfl : n = 0 := by omega
    cases g with
    | zero => rfl
    | succ g => unfold strip; rw [if_neg (by omega)]
  | f + 1, 0, n, h1, h2 => by
    obtain rfl : n = 0 := by omega
    unfold strip; rw [if_neg (by omega)]
  | f + 1, g + 1, n, h1, h2 => by
    unfold strip
    split
    · exact strip_fuel f g (n / 4) (by omega) (by omega)
    · rfl
def stripN (n : Nat) : Nat := strip n n
theorem strip_step {n : Nat} (h0 : 0 < n) (h : n % 4 = 0) : stripN n = stripN (n / 4) := by
  obtain ⟨m, rfl⟩ : ∃ m, n = m + 1 := ⟨n - 1, by omega⟩
  unfold stripN
  conv => lhs; unfold strip
  rw [if_pos ⟨h0, h⟩]
  exact strip_fuel _ _ _ (by omega) (Nat.le_refl _)
theorem strip_stop {n : Nat} (h : ¬ (0 < n ∧ n % 4 = 0)) : stripN n = n := by
  unfold stripN
  cases n with
  | zero => rfl
  | succ m => unfold strip; rw [if_neg h]

/-! what the functions answer -/
def sumB (n : Int) : Bool := inR n 0 2000
def sum1 (n : Int) : Bool := inR n 1 2000
def twoIsB (n : Int) : Bool := sumB n && (ppow n.toNat).all (fun x => !(decide (x.1 % 4 = 3) && decide (x.2 % 2 = 1)))
def twoFindV (n : Int) : Value := if sumB n then (match lvl 2 n 0 with | some l => .tuple #[.int .i64 (l.getD 0 0), .int .i64 (l.getD 1 0), .bool true] | none => .tuple #[.int .i64 0, .int .i64 0, .bool false]) else .tuple #[.int .i64 0, .int .i64 0, .bool false]
def twoManyV (n : Int) : Int := if sum1 n then 4 * divS g2 n.toNat n.toNat else -1
def twoEachV (n : Int) : Int := if sumB n then twoW n else -1
def threeIsB (n : Int) : Bool := sumB n && !decide (stripN n.toNat % 8 = 7)
def manyO (c : Nat) (n : Int) : Option (List Int) := if sumB n then lvl c n 0 else none
def fourManyV (n : Int) : Int := if sum1 n then 8 * divS g4 n.toNat n.toNat else -1
def fourEachV (n : Int) : Int := if inR n 0 300 then fourK n (n.toNat + 1) else -1

/-- what is found -/
theorem lvl_spec : ∀ (c : Nat) (n a : Int) (l : List Int), lvl c n a = some l → l.length = c ∧ (l.map (fun x => x * x)).sum = n ∧ (∀ x ∈ l, a ≤ x) ∧ l.Pairwise (· ≤ ·)
  | 0, n, a, l, h => by
    rw [lvl_zero] at h
    split at h
    · next h0 =>
      cases h
      exact ⟨rfl, by simp [h0], by simp, List.Pairwise.nil⟩
    · cases h
  | c + 1, n, a, l, h => by
    rw [lvl_succ] at h
    obtain ⟨y, hy, hf⟩ := scan_mem _ _ h
    unfold lvlF at hf
    split at hf
    · cases e : lvl c (n - y * y) y with
      | none => rw [e] at hf; cases hf
      | some t =>
        rw [e] at hf
        simp only [Option.map_some, Option.some.injEq] at hf
        subst hf
        obtain ⟨h1, h2, h3, h4⟩ := lvl_spec c _ _ _ e
        refine ⟨by rw [List.length_cons, h1], by rw [List.map_cons, List.sum_cons, h2]; omega, ?_, List.pairwise_cons.2 ⟨h3, h4⟩⟩
        intro x hx
        rcases List.mem_cons.1 hx with rfl | hx
        · exact hy
        · have := h3 x hx; omega
    · cases hf

theorem twoFindF (n : Int) : ∃ (x y : Int) (b : Bool), twoFindV n = .tuple #[.int .i64 x, .int .i64 y, .bool b] := by
  unfold twoFindV
  split
  · split
    · exact ⟨_, _, _, rfl⟩
    · exact ⟨_, _, _, rfl⟩
  · exact ⟨_, _, _, rfl⟩
theorem many_len (c : Nat) (n : Int) (hc : c ≤ 4 := by decide) : ((manyO c n).getD []).length ≤ 1000000 := by
  unfold manyO
  split
  · cases e : lvl c n 0 with
    | none => simp
    | some l => have := (lvl_spec c n 0 l e).1; simp; omega
  · simp

end Go.Proofs.Ytdclmjmefkgbbaa
