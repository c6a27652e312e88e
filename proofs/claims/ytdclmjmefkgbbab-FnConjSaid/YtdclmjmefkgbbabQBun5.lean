/-
  Some texts in one file: Jac Core.
-/
import Derived.Test.YtdclmjmefkgbbabQRes2
import Derived.Test.YtdclmjmefkgbbabQBun3
import Derived.BigRegionIn
import Derived.Test.YtdclmjmefkgbbabQBun2
import Derived.BigQuiet
/-! Jac -/
set_option linter.unusedVariables false
namespace Go.Proofs.Ytdclmjmefkgbbab
open Go.RowKit Go.Shelf
attribute [local go_sem] Oper.semAt_some

/-- what the list of prime powers is -/
def ppOk (N : Nat) : Bool := decide (N = 0) || (ppow N).all (fun x => primeN x.1 && (decide (1 ≤ x.2) && ((x.2 == val N x.1) && decide (N % x.1 = 0))))
theorem ppOk_all : (List.range 5001).all ppOk = true := by decide +kernel
theorem pp_mem {N : Nat} (h1 : 1 ≤ N) (h2 : N ≤ 5000) {x : Nat × Nat} (hx : x ∈ ppow N) : primeN x.1 = true ∧ 1 ≤ x.2 ∧ x.2 = val N x.1 ∧ N % x.1 = 0 := by
  have := List.all_eq_true.1 ppOk_all N (List.mem_range.2 (by omega))
  unfold ppOk at this
  rw [decide_eq_false (by omega)] at this
  simp only [Bool.false_or] at this
  have := List.all_eq_true.1 this x hx
  simp only [Bool.and_eq_true, beq_iff_eq, decide_eq_true_eq] at this
  exact ⟨this.1, this.2.1, this.2.2.1, this.2.2.2⟩

def jm (a r : Int) : Nat → Int
  | 0 => a
  | k + 1 => jm a r k * r
def jmW (a r : Int) : Nat → Int
  | 0 => a
  | k + 1 => wrap64 (jmW a r k * r)
def jacF (n : Int) (l : List (Nat × Nat)) : Int := l.foldl (fun a x => jm a (resN (n % (x.1 : Int)).toNat x.1) x.2) 1
def jacW (n : Int) (l : List (Nat × Nat)) : Int := l.foldl (fun a x => jmW a (resV n (x.1 : Int)) x.2) 1

theorem small_mul {a r : Int} (h1 : -1 ≤ a) (h2 : a ≤ 1) (h3 : -1 ≤ r) (h4 : r ≤ 1) : -1 ≤ a * r ∧ a * r ≤ 1 := by
  have ha : a = -1 ∨ a = 0 ∨ a = 1 := by omega
  rcases ha with rfl | rfl | rfl <;> omega
theorem jm_small {r : Int} (h3 : -1 ≤ r) (h4 : r ≤ 1) : ∀ (k : Nat) {a : Int}, -1 ≤ a → a ≤ 1 → -1 ≤ jm a r k ∧ jm a r k ≤ 1
  | 0, _, h1, h2 => ⟨h1, h2⟩
  | k + 1, a, h1, h2 => by
    have := jm_small h3 h4 k h1 h2
    exact small_mul this.1 this.2 h3 h4
theorem wrap_small {a : Int} (h1 : -1 ≤ a) (h2 : a ≤ 1) : wrap64 a = a := IntWalk.wrap64_in a (by omega)
theorem jmW_eq {r : Int} (h3 : -1 ≤ r) (h4 : r ≤ 1) : ∀ (k : Nat) {a : Int}, -1 ≤ a → a ≤ 1 → jmW a r k = jm a r k
  | 0, _, _, _ => rfl
  | k + 1, a, h1, h2 => by
    have h5 := jm_small h3 h4 k h1 h2
    have h6 := small_mul h5.1 h5.2 h3 h4
    unfold jmW jm
    rw [jmW_eq h3 h4 k h1 h2, wrap_small h6.1 h6.2]
theorem resN_small {p : Nat} (h : primeN p = true) (h3 : 3 ≤ p) (r : Nat) : -1 ≤ resN r p ∧ resN r p ≤ 1 := by
  rw [← res_same h h3]
  unfold resM
  split
  · omega
  · split <;> omega
theorem jacF_step (n : Int) (l : List (Nat × Nat)) (x : Nat × Nat) : jacF n (l ++ [x]) = jm (jacF n l) (resN (n % (x.1 : Int)).toNat x.1) x.2 := by simp [jacF]
theorem jacW_step (n : Int) (l : List (Nat × Nat)) (x : Nat × Nat) : jacW n (l ++ [x]) = jmW (jacW n l) (resV n (x.1 : Int)) x.2 := by simp [jacW]
theorem oddP_nat {p : Nat} (h : primeN p = true) (h3 : 3 ≤ p) : oddP (p : Int) = true := by
  have e : primeI (p : Int) = true := h
  unfold oddP
  rw [e]
  simp
  omega
theorem jac_same (n : Int) (hn : okN n = true) : ∀ l : List (Nat × Nat), (∀ x ∈ l, primeN x.1 = true ∧ 3 ≤ x.1) → ∀ a : Int, -1 ≤ a → a ≤ 1 →
    l.foldl (fun a x => jmW a (resV n (x.1 : Int)) x.2) a = l.foldl (fun a x => jm a (resN (n % (x.1 : Int)).toNat x.1) x.2) a ∧ -1 ≤ l.foldl (fun a x => jm a (resN (n % (x.1 : Int)).toNat x.1) x.2) a ∧ l.foldl (fun a x => jm a (resN (n % (x.1 : Int)).toNat x.1) x.2) a ≤ 1
  | [], _, a, h1, h2 => ⟨rfl, h1, h2⟩
  | x :: l, hl, a, h1, h2 => by
    obtain ⟨hp, h3⟩ := hl x (by simp)
    have hr := resN_small hp h3 (n % (x.1 : Int)).toNat
    have hj := jm_small hr.1 hr.2 x.2 h1 h2
    have e : resV n (x.1 : Int) = resN (n % (x.1 : Int)).toNat x.1 := by rw [resV_yes hn (oddP_nat hp h3)]; rfl
    simp only [List.foldl_cons]
    rw [e, jmW_eq hr.1 hr.2 x.2 h1 h2]
    exact jac_same n hn l (fun y hy => hl y (by simp [hy])) _ hj.1 hj.2
theorem odd_pp {m : Nat} (h1 : 1 ≤ m) (h2 : m ≤ 5000) (ho : m % 2 = 1) : ∀ x ∈ ppow m, primeN x.1 = true ∧ 3 ≤ x.1 := by
  intro x hx
  obtain ⟨hp, _, _, hd⟩ := pp_mem h1 h2 hx
  refine ⟨hp, ?_⟩
  have := (primeN_bd hp).1
  by_cases e : x.1 = 2
  · rw [e] at hd; omega
  · omega
theorem jac_eq {n : Int} {m : Nat} (hn : okN n = true) (h1 : 1 ≤ m) (h2 : m ≤ 5000) (ho : m % 2 = 1) : jacW n (ppow m) = jacF n (ppow m) :=
  (jac_same n hn _ (odd_pp h1 h2 ho) 1 (by omega) (by omega)).1
theorem jacF_small {n : Int} {m : Nat} (hn : okN n = true) (h1 : 1 ≤ m) (h2 : m ≤ 5000) (ho : m % 2 = 1) {l : List (Nat × Nat)} (hl : l <+: ppow m) : -1 ≤ jacF n l ∧ jacF n l ≤ 1 := by
  obtain ⟨t, ht⟩ := hl
  refine (jac_same n hn l (fun x hx => odd_pp h1 h2 ho x ?_) 1 (by omega) (by omega)).2
  rw [← ht]; simp [hx]

/-- what JacobiOf answers -/
def jacOk (n m : Int) : Bool := okN n && (inR m 1 5000 && decide (m % 2 = 1))
def jacV (n m : Int) : Int := if jacOk n m then jacF n (ppow m.toNat) else -2
theorem jacV_yes {n m : Int} (h : jacOk n m = true) : jacV n m = jacF n (ppow m.toNat) := by unfold jacV; rw [if_pos h]
theorem jacV_no {n m : Int} (h : jacOk n m = false) : jacV n m = -2 := by unfold jacV; rw [if_neg (by rw [h]; decide)]
theorem jac_cases (n m : Int) : (-5000 ≤ n ∧ n ≤ 5000 ∧ 1 ≤ m ∧ m ≤ 5000 ∧ okN n = true ∧ inR m 1 5000 = true ∧ m % 2 = 1 ∧ jacOk n m = true) ∨ (okN n = false ∧ jacOk n m = false) ∨ (okN n = true ∧ inR m 1 5000 = false ∧ jacOk n m = false) ∨ (1 ≤ m ∧ okN n = true ∧ inR m 1 5000 = true ∧ m % 2 = 0 ∧ jacOk n m = false) := by
  rcases okN_cases n with ⟨a1, a2, A⟩ | ⟨a1, A⟩ | ⟨a1, a2, A⟩
  · rcases inR_cases m 1 5000 with ⟨c1, c2, C⟩ | ⟨c1, C⟩ | ⟨c1, c2, C⟩
    · by_cases h : m % 2 = 1
      · exact .inl ⟨a1, a2, c1, c2, A, C, h, by simp [jacOk, A, C, h]⟩
      · exact .inr (.inr (.inr ⟨c1, A, C, by omega, by simp [jacOk, h]⟩))
    · exact .inr (.inr (.inl ⟨A, C, by simp [jacOk, C]⟩))
    · exact .inr (.inr (.inl ⟨A, C, by simp [jacOk, C]⟩))
  · exact .inr (.inl ⟨A, by simp [jacOk, A]⟩)
  · exact .inr (.inl ⟨A, by simp [jacOk, A]⟩)

theorem take_step {l : List (Nat × Nat)} {i : Nat} (h : i < l.length) : l.take (i + 1) = l.take i ++ [l[i]] := by
  rw [List.take_succ_eq_append_getElem h]

end Go.Proofs.Ytdclmjmefkgbbab

/-! Core -/
set_option linter.unusedVariables false
namespace Go.Proofs.Ytdclmjmefkgbbab
open Go.RowKit Go.Shelf
attribute [local go_sem] Oper.semAt_some

/-- the model's way: each p in turn, as often as its square divides -/
def coreGo : Nat → Nat → Nat → Nat → Nat × Nat
  | 0, _, n, r => (n, r)
  | f + 1, p, n, r => if p * p ≤ n then coreGo f (p + 1) (n / (p * p) ^ val n (p * p)) (r * p ^ val n (p * p)) else (n, r)
/-- the root part -/
def rootN (N : Nat) : Nat := (coreGo 70 2 N 1).2
/-- what a loop of k rounds makes of a root, wraps and all -/
def mulW (r : Int) (p : Nat) : Nat → Int
  | 0 => r
  | k + 1 => wrap64 (mulW r p k * p)
def rootW (l : List (Nat × Nat)) : Int := l.foldl (fun r x => mulW r x.1 (x.2 / 2)) 1
def rootOk (N : Nat) : Bool := decide (N = 0) || (rootW (ppow N) == (rootN N : Int) && decide (rootN N ≤ 70) && decide (1 ≤ rootN N))
theorem rootOk_all : (List.range 5001).all rootOk = true := by decide +kernel
theorem rootW_eq {N : Nat} (h1 : 1 ≤ N) (h2 : N ≤ 5000) : rootW (ppow N) = (rootN N : Int) ∧ rootN N ≤ 70 ∧ 1 ≤ rootN N := by
  have := List.all_eq_true.1 rootOk_all N (List.mem_range.2 (by omega))
  unfold rootOk at this
  rw [decide_eq_false (by omega)] at this
  simp only [Bool.false_or, Bool.and_eq_true, beq_iff_eq, decide_eq_true_eq] at this
  exact ⟨this.1.1, this.1.2, this.2⟩

/-- what CoreOf answers -/
def coreI (n : Int) : Int := n.tdiv ((rootN n.natAbs : Int) * (rootN n.natAbs : Int))
def coreV (n : Int) : Value := if factB n then .tuple #[.int .i64 (coreI n), .int .i64 (rootN n.natAbs : Nat), .bool true] else .tuple #[.int .i64 0, .int .i64 0, .bool false]
theorem coreV_yes {n : Int} (h : factB n = true) : coreV n = .tuple #[.int .i64 (coreI n), .int .i64 (rootN n.natAbs : Nat), .bool true] := by unfold coreV; rw [if_pos h]
theorem coreV_no {n : Int} (h : factB n = false) : coreV n = .tuple #[.int .i64 0, .int .i64 0, .bool false] := by unfold coreV; rw [if_neg (by rw [h]; decide)]
theorem coreV_form (n : Int) : ∃ (x y : Int) (b : Bool), coreV n = .tuple #[.int .i64 x, .int .i64 y, .bool b] := by
  unfold coreV
  split
  · exact ⟨_, _, _, rfl⟩
  · exact ⟨_, _, _, rfl⟩

theorem sq_toNat (p : Nat) : ((p : Int) * p).toNat = p * p := by exact_mod_cast Int.toNat_natCast (p * p)

theorem ret3 {a b c d : Int} {x y : Bool} (h : a = b) (h' : c = d) (h2 : x = y) : Ending.returned (.tuple #[.int .i64 a, .int .i64 c, .bool x]) = .returned (.tuple #[.int .i64 b, .int .i64 d, .bool y]) := by rw [h, h', h2]

end Go.Proofs.Ytdclmjmefkgbbab
