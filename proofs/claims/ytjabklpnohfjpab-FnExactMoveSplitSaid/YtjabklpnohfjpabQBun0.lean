/-
  Some texts in one file: Num MvA MvB Math Loops.
-/
import Derived.Test.YtjabklpnohfjpabProg
import Derived.WalkKit
import Derived.WalkSpells
import Derived.WalkLawsBesides
/-! Num -/
set_option linter.unusedVariables false
namespace Go.Proofs.Ytjabklpnohfjpab
open Go.RowKit

theorem hid {p : Prop} (h : p) : Hid p := h
theorem retB {a b : Bool} (h : a = b) : Ending.returned (.bool a) = .returned (.bool b) := by rw [h]
theorem vI {a b : Int} (h : a = b) : Value.int .i64 a = .int .i64 b := by rw [h]
theorem retI {a b : Int} (h : a = b) : Ending.returned (.int .i64 a) = .returned (.int .i64 b) := by rw [h]

/-- Is it a number of the document? -/
def okN (n : Int) : Bool := decide (-5000 ≤ n) && decide (n ≤ 5000)
theorem okN_iff {n : Int} : okN n = true ↔ -5000 ≤ n ∧ n ≤ 5000 := by simp [okN]
theorem okN_no {n : Int} : okN n = false ↔ n < -5000 ∨ 5000 < n := by
  rw [← Bool.not_eq_true, okN_iff]; omega
theorem okN_cases (n : Int) : (-5000 ≤ n ∧ n ≤ 5000 ∧ okN n = true) ∨ (n < -5000 ∧ okN n = false) ∨ (-5000 ≤ n ∧ 5000 < n ∧ okN n = false) := by
  by_cases h1 : -5000 ≤ n
  · by_cases h2 : n ≤ 5000
    · exact .inl ⟨h1, h2, okN_iff.2 ⟨h1, h2⟩⟩
    · exact .inr (.inr ⟨h1, by omega, okN_no.2 (by omega)⟩)
  · exact .inr (.inl ⟨by omega, okN_no.2 (by omega)⟩)

def inR (n a b : Int) : Bool := decide (a ≤ n) && decide (n ≤ b)
theorem inR_cases (n a b : Int) : (a ≤ n ∧ n ≤ b ∧ inR n a b = true) ∨ (n < a ∧ inR n a b = false) ∨ (a ≤ n ∧ b < n ∧ inR n a b = false) := by
  unfold inR
  by_cases h1 : a ≤ n
  · by_cases h2 : n ≤ b
    · exact .inl ⟨h1, h2, by simp [h1, h2]⟩
    · exact .inr (.inr ⟨h1, by omega, by simp [h2]⟩)
  · exact .inr (.inl ⟨by omega, by simp [h1]⟩)

theorem l6In_any (n a b : Int) (w : World) : Calls Try.prog 82 #[.int .i64 n, .int .i64 a, .int .i64 b] w fun e w' => e = .returned (.bool (inR n a b)) ∧ w = w' := by
  rcases inR_cases n a b with ⟨h1, h2, H⟩ | ⟨h1, H⟩ | ⟨h1, h2, H⟩
  all_goals
    go_enter Try.func82, Try.ntmps82
    go_wp2
    go_ret
    exact ⟨retB (by first | rfl | exact H.symm | (rw [H]; simp; omega)), rfl⟩

def factB (n : Int) : Bool := okN n && decide (n ≠ 0)
theorem factB_yes {n : Int} (h1 : -5000 ≤ n) (h2 : n ≤ 5000) (h : n ≠ 0) : factB n = true := by simp [factB, okN, h1, h2, h]
theorem factB_no {n : Int} (h : n < -5000 ∨ 5000 < n ∨ n = 0) : factB n = false := by
  unfold factB okN
  rcases h with h | h | h
  · simp [show ¬ -5000 ≤ n by omega]
  · simp [show ¬ n ≤ 5000 by omega]
  · simp [h]

theorem size_any (n : Int) (h1 : -4611686018427387904 ≤ n) (h2 : n ≤ 4611686018427387904) (w : World) : Calls Try.prog 99 #[.int .i64 n] w fun e w' => e = .returned (.int .i64 n.natAbs) ∧ w = w' := by
  by_cases h : n < 0
  · have hn : (n.natAbs : Int) = -n := by omega
    have HN := hid hn; clear hn
    go_enter Try.func99, Try.ntmps99
    go_wp2
    go_ret
    exact ⟨retI HN.out.symm, rfl⟩
  · have hn : (n.natAbs : Int) = n := by omega
    have HN := hid hn; clear hn
    go_enter Try.func99, Try.ntmps99
    go_wp2
    go_ret
    exact ⟨retI HN.out.symm, rfl⟩

theorem tmod_lt_abs (n m : Int) (hm : 1 ≤ m) : -m < n.tmod m ∧ n.tmod m < m := by
  have ht := Int.tmod_eq_emod (a := n) (b := m)
  have hb := Int.emod_lt_of_pos n (show 0 < m by omega)
  have hb2 := Int.emod_nonneg n (show m ≠ 0 by omega)
  rw [ht]
  by_cases hd : m ∣ n
  · rw [if_pos (.inr hd), Int.emod_eq_zero_of_dvd hd]; omega
  · have : n % m ≠ 0 := fun e => hd (Int.dvd_of_emod_eq_zero e)
    split <;> omega

theorem tmod_add_emod (n m : Int) (hm : 1 ≤ m) : (n.tmod m + m).tmod m = n % m := by
  have hb := tmod_lt_abs n m hm
  rw [Int.tmod_eq_emod_of_nonneg (by omega), Int.tmod_eq_emod]
  split
  · simp
  · rw [show n % m - ↑m.natAbs + m = n % m by omega]; simp

end Go.Proofs.Ytjabklpnohfjpab

/-! MvA -/
set_option linter.unusedVariables false
namespace Go.Proofs.Ytjabklpnohfjpab
open Go.RowKit

def sumF (f : Nat → Int) : Nat → Int
  | 0 => 0
  | n + 1 => sumF f n + f n
theorem sumF_congr {f g : Nat → Int} {n : Nat} (h : ∀ i, i < n → f i = g i) : sumF f n = sumF g n := by
  induction n with
  | zero => rfl
  | succ n ih =>
    show sumF f n + f n = sumF g n + g n
    rw [ih fun i hi => h i (by omega), h n (by omega)]
theorem sumF_add (f g : Nat → Int) (n : Nat) : sumF (fun i => f i + g i) n = sumF f n + sumF g n := by
  induction n with
  | zero => rfl
  | succ n ih =>
    show sumF (fun i => f i + g i) n + (f n + g n) = (sumF f n + f n) + (sumF g n + g n)
    rw [ih]; omega
theorem sumF_mul (c : Int) (f : Nat → Int) (n : Nat) : sumF (fun i => c * f i) n = c * sumF f n := by
  induction n with
  | zero => show (0 : Int) = c * 0; rw [Int.mul_zero]
  | succ n ih =>
    show sumF (fun i => c * f i) n + c * f n = c * (sumF f n + f n)
    rw [ih, Int.mul_add]
theorem sumF_mulr (c : Int) (f : Nat → Int) (n : Nat) : sumF (fun i => f i * c) n = sumF f n * c := by
  rw [Int.mul_comm _ c, ← sumF_mul]
  exact sumF_congr fun i _ => Int.mul_comm ..
theorem sumF_zero (n : Nat) : sumF (fun _ => 0) n = 0 := by
  induction n with
  | zero => rfl
  | succ n ih => show sumF (fun _ => 0) n + 0 = 0; rw [ih]; rfl
theorem sumF_comm (g : Nat → Nat → Int) (n m : Nat) : sumF (fun i => sumF (fun k => g i k) m) n = sumF (fun k => sumF (fun i => g i k) n) m := by
  induction n with
  | zero => exact (sumF_zero m).symm
  | succ n ih =>
    show sumF (fun i => sumF (fun k => g i k) m) n + sumF (fun k => g n k) m = sumF (fun k => sumF (fun i => g i k) n + g n k) m
    rw [ih, sumF_add]
theorem sumF_one {c : Int} {k n : Nat} (h : k < n) : sumF (fun i => if i = k then c else 0) n = c := by
  induction n with
  | zero => omega
  | succ n ih =>
    show sumF (fun i => if i = k then c else 0) n + (if n = k then c else 0) = c
    by_cases e : n = k
    · subst e
      rw [if_pos rfl, sumF_congr (g := fun _ => 0) fun i hi => if_neg (by omega), sumF_zero]
      omega
    · rw [if_neg e, ih (by omega)]; omega

/-- unit vectors, tables at vectors, products of tables -/
def unF (k : Nat) : Nat → Int := fun i => if i = k then 1 else 0
def apF (M : Nat → Nat → Int) (n : Nat) (v : Nat → Int) : Nat → Int := fun i => sumF (fun k => M i k * v k) n
def mulF (A B : Nat → Nat → Int) (n : Nat) : Nat → Nat → Int := fun i k => sumF (fun r => A i r * B r k) n
def prF (f : Nat → Int) (n : Nat) (x y : Nat → Int) : Int := sumF (fun r => f r * x r * y r) n
theorem pick_one {g : Nat → Int} {k n : Nat} (h : k < n) : sumF (fun i => g i * unF k i) n = g k := by
  rw [← sumF_one (c := g k) h]
  refine sumF_congr fun i _ => ?_
  unfold unF
  by_cases e : i = k
  · rw [if_pos e, if_pos e, e, Int.mul_one]
  · rw [if_neg e, if_neg e, Int.mul_zero]
theorem ap_unit (M : Nat → Nat → Int) {n k : Nat} (h : k < n) (i : Nat) : apF M n (unF k) i = M i k := pick_one h
theorem ap_congr {M M' : Nat → Nat → Int} {n : Nat} {v v' : Nat → Int} {i : Nat} (hM : ∀ k, k < n → M i k = M' i k) (hv : ∀ k, k < n → v k = v' k) : apF M n v i = apF M' n v' i :=
  sumF_congr fun k hk => by rw [hM k hk, hv k hk]
theorem ap_mul (A B : Nat → Nat → Int) (n : Nat) (v : Nat → Int) (i : Nat) : apF (mulF A B n) n v i = apF A n (apF B n v) i := by
  show sumF (fun k => sumF (fun r => A i r * B r k) n * v k) n = sumF (fun r => A i r * sumF (fun k => B r k * v k) n) n
  rw [sumF_congr (g := fun k => sumF (fun r => A i r * B r k * v k) n) fun k _ => (sumF_mulr _ _ _).symm, sumF_comm]
  refine sumF_congr fun r _ => ?_
  rw [← sumF_mul]
  exact sumF_congr fun k _ => Int.mul_assoc ..
theorem mul_assocF (A B C : Nat → Nat → Int) (n : Nat) (i k : Nat) : mulF (mulF A B n) C n i k = mulF A (mulF B C n) n i k := ap_mul A B n (fun r => C r k) i
theorem ap_scale (M : Nat → Nat → Int) (c : Int) (n : Nat) (v : Nat → Int) (i : Nat) : apF M n (fun k => c * v k) i = c * apF M n v i := by
  show sumF (fun k => M i k * (c * v k)) n = c * sumF (fun k => M i k * v k) n
  rw [← sumF_mul]
  exact sumF_congr fun k _ => by rw [Int.mul_left_comm]
theorem ap_scale2 (M : Nat → Nat → Int) (c : Int) (n : Nat) (v : Nat → Int) (i : Nat) : apF (fun i k => c * M i k) n v i = c * apF M n v i := by
  show sumF (fun k => c * M i k * v k) n = c * sumF (fun k => M i k * v k) n
  rw [← sumF_mul]
  exact sumF_congr fun k _ => Int.mul_assoc ..
theorem ap_add (M : Nat → Nat → Int) (n : Nat) (u v : Nat → Int) (i : Nat) : apF M n (fun k => u k + v k) i = apF M n u i + apF M n v i := by
  show sumF (fun k => M i k * (u k + v k)) n = sumF (fun k => M i k * u k) n + sumF (fun k => M i k * v k) n
  rw [← sumF_add]
  exact sumF_congr fun k _ => Int.mul_add ..
theorem pr_congr {f : Nat → Int} {n : Nat} {x y x' y' : Nat → Int} (hx : ∀ i, i < n → x i = x' i) (hy : ∀ i, i < n → y i = y' i) : prF f n x y = prF f n x' y' :=
  sumF_congr fun i hi => by rw [hx i hi, hy i hi]
theorem pr_comm (f : Nat → Int) (n : Nat) (x y : Nat → Int) : prF f n x y = prF f n y x := sumF_congr fun i _ => by rw [Int.mul_right_comm]
theorem pr_add (f : Nat → Int) (n : Nat) (x y z : Nat → Int) : prF f n (fun i => x i + y i) z = prF f n x z + prF f n y z := by
  unfold prF
  rw [← sumF_add]
  exact sumF_congr fun i _ => by rw [Int.mul_add, Int.add_mul]
theorem pr_scale (f : Nat → Int) (n : Nat) (c : Int) (x z : Nat → Int) : prF f n (fun i => c * x i) z = c * prF f n x z := by
  unfold prF
  rw [← sumF_mul]
  exact sumF_congr fun i _ => by grind
theorem pr_unit (f : Nat → Int) {n k : Nat} (h : k < n) (x : Nat → Int) : prF f n x (unF k) = f k * x k := pick_one (g := fun i => f i * x i) h

/-- the table, with its denominator, keeps pairs -/
def Orth (f : Nat → Int) (n : Nat) (M : Nat → Nat → Int) (d : Int) : Prop := ∀ i k, i < n → k < n → sumF (fun r => f r * M r i * M r k) n = if i = k then f i * d * d else 0
theorem orth_pair {f : Nat → Int} {n : Nat} {M : Nat → Nat → Int} {d : Int} (h : Orth f n M d) (x y : Nat → Int) : prF f n (apF M n x) (apF M n y) = d * d * prF f n x y := by
  have e1 : prF f n (apF M n x) (apF M n y) = sumF (fun i => sumF (fun k => x i * y k * sumF (fun r => f r * M r i * M r k) n) n) n := by
    have s1 : ∀ r, f r * apF M n x r * apF M n y r = sumF (fun i => sumF (fun k => x i * y k * (f r * M r i * M r k)) n) n := fun r => by
      show f r * sumF (fun i => M r i * x i) n * sumF (fun k => M r k * y k) n = _
      rw [← sumF_mul (f r) (fun i => M r i * x i), ← sumF_mulr]
      refine sumF_congr fun i _ => ?_
      rw [← sumF_mul]
      exact sumF_congr fun k _ => by grind
    unfold prF
    rw [sumF_congr fun r _ => s1 r, sumF_comm]
    refine sumF_congr fun i _ => ?_
    rw [sumF_comm]
    exact sumF_congr fun k _ => sumF_mul ..
  rw [e1]
  unfold prF
  rw [← sumF_mul]
  refine sumF_congr fun i hi => ?_
  rw [sumF_congr (g := fun k => if k = i then d * d * (f i * x i * y i) else 0) fun k hk => ?_]
  · exact sumF_one hi
  · rw [h i k hi hk]
    by_cases e : i = k
    · subst e
      rw [if_pos rfl, if_pos rfl]; grind
    · rw [if_neg e, if_neg (fun h => e h.symm), Int.mul_zero]
theorem orth_of {f : Nat → Int} {n : Nat} {M : Nat → Nat → Int} {d : Int} (h : ∀ x y, prF f n (apF M n x) (apF M n y) = d * d * prF f n x y) : Orth f n M d := by
  intro i k hi hk
  have e := h (unF i) (unF k)
  rw [pr_unit f hk, pr_congr (x' := fun r => M r i) (y' := fun r => M r k) (fun r _ => ap_unit M hi r) (fun r _ => ap_unit M hk r)] at e
  unfold prF at e
  rw [e]
  unfold unF
  by_cases e2 : i = k
  · subst e2; rw [if_pos rfl, if_pos rfl]; grind
  · rw [if_neg (fun h => e2 h.symm), if_neg e2]; grind
theorem orth_mul {f : Nat → Int} {n : Nat} {A B : Nat → Nat → Int} {a b : Int} (hA : Orth f n A a) (hB : Orth f n B b) : Orth f n (mulF A B n) (a * b) :=
  orth_of fun x y => by
    rw [pr_congr (fun i _ => ap_mul A B n x i) (fun i _ => ap_mul A B n y i), orth_pair hA, orth_pair hB]
    grind
theorem orth_scale {f : Nat → Int} {n : Nat} {M R : Nat → Nat → Int} {d D g : Int} (hg : g ≠ 0) (hM : ∀ i k, i < n → k < n → M i k = g * R i k) (hd : d = g * D) (h : Orth f n M d) : Orth f n R D := by
  intro i k hi hk
  have e := h i k hi hk
  rw [sumF_congr (g := fun r => g * g * (f r * R r i * R r k)) fun r hr => by rw [hM r i hr hi, hM r k hr hk]; grind, sumF_mul] at e
  have hgg : g * g ≠ 0 := Int.mul_ne_zero hg hg
  refine Int.eq_of_mul_eq_mul_left hgg ?_
  rw [e, hd]
  split
  · grind
  · rw [Int.mul_zero]

end Go.Proofs.Ytjabklpnohfjpab

/-! MvB -/
set_option linter.unusedVariables false
namespace Go.Proofs.Ytjabklpnohfjpab
open Go.RowKit

def detF (n : Nat) (M : Nat → Nat → Int) : Int :=
  if n = 1 then M 0 0 else if n = 2 then M 0 0 * M 1 1 - M 0 1 * M 1 0 else
    M 0 0 * (M 1 1 * M 2 2 - M 1 2 * M 2 1) + M 0 1 * (M 1 2 * M 2 0 - M 1 0 * M 2 2) + M 0 2 * (M 1 0 * M 2 1 - M 1 1 * M 2 0)
theorem det1 (M : Nat → Nat → Int) : detF 1 M = M 0 0 := rfl
theorem det2 (M : Nat → Nat → Int) : detF 2 M = M 0 0 * M 1 1 - M 0 1 * M 1 0 := rfl
theorem det3 (M : Nat → Nat → Int) : detF 3 M = M 0 0 * (M 1 1 * M 2 2 - M 1 2 * M 2 1) + M 0 1 * (M 1 2 * M 2 0 - M 1 0 * M 2 2) + M 0 2 * (M 1 0 * M 2 1 - M 1 1 * M 2 0) := rfl
theorem sumF1 (f : Nat → Int) : sumF f 1 = f 0 := by show 0 + f 0 = f 0; omega
theorem sumF2 (f : Nat → Int) : sumF f 2 = f 0 + f 1 := by show 0 + f 0 + f 1 = _; omega
theorem sumF3 (f : Nat → Int) : sumF f 3 = f 0 + f 1 + f 2 := by show 0 + f 0 + f 1 + f 2 = _; omega
theorem det_mul3 (a b c d e f g h i a' b' c' d' e' f' g' h' i' : Int) :
    (a * a' + b * d' + c * g') * ((d * b' + e * e' + f * h') * (g * c' + h * f' + i * i') - (d * c' + e * f' + f * i') * (g * b' + h * e' + i * h')) + (a * b' + b * e' + c * h') * ((d * c' + e * f' + f * i') * (g * a' + h * d' + i * g') - (d * a' + e * d' + f * g') * (g * c' + h * f' + i * i')) + (a * c' + b * f' + c * i') * ((d * a' + e * d' + f * g') * (g * b' + h * e' + i * h') - (d * b' + e * e' + f * h') * (g * a' + h * d' + i * g')) =
    (a * (e * i - f * h) + b * (f * g - d * i) + c * (d * h - e * g)) * (a' * (e' * i' - f' * h') + b' * (f' * g' - d' * i') + c' * (d' * h' - e' * g')) := by grind
theorem det_mul {n : Nat} (hn : n = 1 ∨ n = 2 ∨ n = 3) (A B : Nat → Nat → Int) : detF n (mulF A B n) = detF n A * detF n B := by
  rcases hn with rfl | rfl | rfl
  · rw [det1, det1, det1]; unfold mulF; rw [sumF1]
  · rw [det2, det2, det2]; unfold mulF; simp only [sumF2]; grind
  · rw [det3, det3, det3]; unfold mulF; simp only [sumF3]; exact det_mul3 ..
theorem det_scale {n : Nat} (hn : n = 1 ∨ n = 2 ∨ n = 3) (g : Int) (M : Nat → Nat → Int) : detF n (fun i k => g * M i k) = g ^ n * detF n M := by
  rcases hn with rfl | rfl | rfl
  · rw [det1, det1]; grind
  · rw [det2, det2]; grind
  · rw [det3, det3]; grind
theorem det_congr {n : Nat} (hn : n = 1 ∨ n = 2 ∨ n = 3) {A B : Nat → Nat → Int} (h : ∀ i k, i < n → k < n → A i k = B i k) : detF n A = detF n B := by
  rcases hn with rfl | rfl | rfl
  · rw [det1, det1, h 0 0 (by omega) (by omega)]
  · rw [det2, det2, h 0 0 (by omega) (by omega), h 0 1 (by omega) (by omega), h 1 0 (by omega) (by omega), h 1 1 (by omega) (by omega)]
  · rw [det3, det3, h 0 0 (by omega) (by omega), h 0 1 (by omega) (by omega), h 0 2 (by omega) (by omega), h 1 0 (by omega) (by omega), h 1 1 (by omega) (by omega), h 1 2 (by omega) (by omega), h 2 0 (by omega) (by omega), h 2 1 (by omega) (by omega), h 2 2 (by omega) (by omega)]
/-- a multiple of what stays -/
def idF (c : Int) : Nat → Nat → Int := fun i k => if i = k then c else 0
theorem ap_id (c : Int) {n i : Nat} (v : Nat → Int) (h : i < n) : apF (idF c) n v i = c * v i := by
  unfold apF idF
  rw [sumF_congr (g := fun k => if k = i then c * v i else 0) fun k _ => ?_]
  · exact sumF_one h
  · by_cases e : i = k
    · subst e; rw [if_pos rfl, if_pos rfl]
    · rw [if_neg e, if_neg (fun h => e h.symm), Int.zero_mul]
theorem mul_id {A : Nat → Nat → Int} {n i k : Nat} (c : Int) (hk : k < n) : mulF A (idF c) n i k = A i k * c := by
  unfold mulF idF
  rw [sumF_congr (g := fun r => if r = k then A i k * c else 0) fun r _ => ?_]
  · exact sumF_one hk
  · by_cases e : r = k
    · subst e; rw [if_pos rfl, if_pos rfl]
    · rw [if_neg e, if_neg e, Int.mul_zero]
theorem det_id {n : Nat} (hn : n = 1 ∨ n = 2 ∨ n = 3) (c : Int) : detF n (idF c) = c ^ n := by
  rcases hn with rfl | rfl | rfl
  · rw [det1]; show c = c ^ 1; grind
  · rw [det2]; show c * c - 0 * 0 = c ^ 2; grind
  · rw [det3]; show c * (c * c - 0 * 0) + 0 * (0 * 0 - 0 * c) + 0 * (0 * 0 - c * 0) = c ^ 3; grind
/-- the adjugate -/
def adjF (n : Nat) (M : Nat → Nat → Int) : Nat → Nat → Int :=
  if n = 1 then fun _ _ => 1 else if n = 2 then fun i k => if i = 0 then (if k = 0 then M 1 1 else -M 0 1) else (if k = 0 then -M 1 0 else M 0 0) else
    fun i k => M ((k + 1) % 3) ((i + 1) % 3) * M ((k + 2) % 3) ((i + 2) % 3) - M ((k + 1) % 3) ((i + 2) % 3) * M ((k + 2) % 3) ((i + 1) % 3)
theorem lt3_cases {i n : Nat} (hi : i < n) (hn : n = 1 ∨ n = 2 ∨ n = 3) : i = 0 ∨ i = 1 ∨ i = 2 := by omega
theorem mul_adj {n : Nat} (hn : n = 1 ∨ n = 2 ∨ n = 3) (M : Nat → Nat → Int) {i k : Nat} (hi : i < n) (hk : k < n) : mulF M (adjF n M) n i k = idF (detF n M) i k := by
  rcases hn with rfl | rfl | rfl
  · obtain rfl : i = 0 := by omega
    obtain rfl : k = 0 := by omega
    unfold mulF; rw [sumF1]; show M 0 0 * 1 = M 0 0; omega
  · rcases (show i = 0 ∨ i = 1 by omega) with rfl | rfl <;> rcases (show k = 0 ∨ k = 1 by omega) with rfl | rfl <;> (unfold mulF; rw [sumF2]; simp [adjF, idF, detF]; try grind)
  · rcases (show i = 0 ∨ i = 1 ∨ i = 2 by omega) with rfl | rfl | rfl <;> rcases (show k = 0 ∨ k = 1 ∨ k = 2 by omega) with rfl | rfl | rfl <;> (unfold mulF; rw [sumF3]; simp [adjF, idF, detF]; try grind)
/-- what leads back from one side leads back from the other one -/
theorem other_side {n : Nat} (hn : n = 1 ∨ n = 2 ∨ n = 3) {B M : Nat → Nat → Int} {c : Int} (hc : c ≠ 0) (h : ∀ i k, i < n → k < n → mulF B M n i k = idF c i k) : (∀ i k, i < n → k < n → mulF M B n i k = idF c i k) ∧ detF n B * detF n M = c ^ n ∧ detF n M ≠ 0 := by
  have hd : detF n B * detF n M = c ^ n := by rw [← det_mul hn, det_congr hn h, det_id hn]
  have hcn : c ^ n ≠ 0 := by
    rcases hn with rfl | rfl | rfl
    · rw [Int.pow_succ, Int.pow_zero, Int.one_mul]; exact hc
    · rw [Int.pow_succ, Int.pow_succ, Int.pow_zero, Int.one_mul]; exact Int.mul_ne_zero hc hc
    · rw [Int.pow_succ, Int.pow_succ, Int.pow_succ, Int.pow_zero, Int.one_mul]; exact Int.mul_ne_zero (Int.mul_ne_zero hc hc) hc
  have hm : detF n M ≠ 0 := fun e => hcn (by rw [← hd, e, Int.mul_zero])
  refine ⟨fun i k hi hk => ?_, hd, hm⟩
  -- ((MB) M) adj = (c M) adj
  have e1 : mulF (mulF (mulF M B n) M n) (adjF n M) n i k = mulF (mulF M B n) (idF (detF n M)) n i k := by
    rw [mul_assocF]
    exact sumF_congr fun r hr => by rw [mul_adj hn M hr hk]
  have e2 : mulF (mulF (mulF M B n) M n) (adjF n M) n i k = c * idF (detF n M) i k := by
    rw [← mul_adj hn M hi hk]
    unfold mulF
    rw [← sumF_mul]
    refine sumF_congr fun r hr => ?_
    have s1 : mulF (mulF M B n) M n i r = c * M i r := by
      rw [mul_assocF]
      unfold mulF
      rw [sumF_congr (g := fun s => M i s * idF c s r) fun s hs => by rw [← h s r hs hr]; rfl]
      have := mul_id (A := M) (i := i) c hr
      unfold mulF at this
      rw [this, Int.mul_comm]
    have s2 : sumF (fun s => sumF (fun t => M i t * B t s) n * M s r) n = c * M i r := s1
    rw [s2, Int.mul_assoc]
  rw [mul_id _ hk] at e1
  rw [e1] at e2
  refine Int.eq_of_mul_eq_mul_right hm ?_
  rw [e2]
  unfold idF
  split
  · rfl
  · rw [Int.mul_zero, Int.zero_mul]
/-- the table that leads back: all is a multiple of each term -/
def backF (f : Nat → Int) (all : Int) (M : Nat → Nat → Int) : Nat → Nat → Int := fun i k => M k i * f k * (all.tdiv (f i))
theorem back_mul {f : Nat → Int} {n : Nat} {M : Nat → Nat → Int} {d all : Int} (hf : ∀ i, i < n → f i * all.tdiv (f i) = all) (h : Orth f n M d) {i k : Nat} (hi : i < n) (hk : k < n) : mulF (backF f all M) M n i k = idF (d * d * all) i k := by
  unfold mulF backF
  rw [sumF_congr (g := fun r => all.tdiv (f i) * (f r * M r i * M r k)) fun r _ => by grind, sumF_mul, h i k hi hk]
  unfold idF
  split
  · have := hf i hi
    grind
  · rw [Int.mul_zero]
theorem back_orth {f : Nat → Int} {n : Nat} {M : Nat → Nat → Int} {d all : Int} (hn : n = 1 ∨ n = 2 ∨ n = 3) (hd : d ≠ 0) (ha : all ≠ 0) (hf : ∀ i, i < n → f i * all.tdiv (f i) = all) (h : Orth f n M d) : Orth f n (backF f all M) (d * all) := by
  have hc : d * d * all ≠ 0 := Int.mul_ne_zero (Int.mul_ne_zero hd hd) ha
  have hs := (other_side hn hc fun i k hi hk => back_mul hf h hi hk).1
  refine orth_of fun x y => ?_
  have e1 := orth_pair h (apF (backF f all M) n x) (apF (backF f all M) n y)
  have e2 : ∀ v i, i < n → apF M n (apF (backF f all M) n v) i = d * d * all * v i := fun v i hi => by
    rw [← ap_mul, ← ap_id _ v hi]
    exact ap_congr (fun k hk => hs i k hi hk) fun _ _ => rfl
  rw [pr_congr (e2 x) (e2 y), pr_scale, pr_comm, pr_scale, pr_comm] at e1
  have hdd : d * d ≠ 0 := Int.mul_ne_zero hd hd
  refine Int.eq_of_mul_eq_mul_left hdd ?_
  rw [← e1]
  grind

end Go.Proofs.Ytjabklpnohfjpab

/-! Math -/
set_option linter.unusedVariables false
namespace Go.Proofs.Ytjabklpnohfjpab

/-- how often p divides n (the first number is fuel) -/
def valF : Nat → Nat → Nat → Nat
  | 0, _, _ => 0
  | f + 1, n, p => if n % p = 0 then valF f (n / p) p + 1 else 0
def val (n p : Nat) : Nat := valF n n p

theorem valF_fuel (p : Nat) (hp : 2 ≤ p) : ∀ f g n, 0 < n → n ≤ f → n ≤ g → valF f n p = valF g n p
  | 0, _, n, h, hf, _ => by omega
  | _ + 1, 0, n, h, _, hg => by omega
  | f + 1, g + 1, n, h, hf, hg => by
    unfold valF
    by_cases hd : n % p = 0
    · rw [if_pos hd, if_pos hd]
      have h1 : n / p < n := Nat.div_lt_self h (by omega)
      have h2 : 0 < n / p := Nat.div_pos (Nat.le_of_dvd h (Nat.dvd_of_mod_eq_zero hd)) (by omega)
      rw [valF_fuel p hp f g (n / p) h2 (by omega) (by omega)]
    · rw [if_neg hd, if_neg hd]

theorem val_step {n p : Nat} (hp : 2 ≤ p) (hn : 0 < n) (h : n % p = 0) : val n p = val (n / p) p + 1 := by
  have h1 : n / p < n := Nat.div_lt_self hn (by omega)
  have h2 : 0 < n / p := Nat.div_pos (Nat.le_of_dvd hn (Nat.dvd_of_mod_eq_zero h)) (by omega)
  obtain ⟨m, rfl⟩ : ∃ m, n = m + 1 := ⟨n - 1, by omega⟩
  show valF (m + 1) (m + 1) p = _
  unfold valF
  rw [if_pos h, valF_fuel p hp m ((m + 1) / p) ((m + 1) / p) h2 (by omega) (Nat.le_refl _)]
  rfl

theorem val_stop {n p : Nat} (h : n % p ≠ 0) : val n p = 0 := by
  unfold val
  cases n with
  | zero => rfl
  | succ m => unfold valF; rw [if_neg h]

theorem val_dvd (p : Nat) (hp : 2 ≤ p) : ∀ (k n : Nat), n ≤ k → 0 < n → p ^ val n p ∣ n
  | 0, n, h, hn => by omega
  | k + 1, n, h, hn => by
    by_cases hd : n % p = 0
    · have h1 : n / p < n := Nat.div_lt_self hn (by omega)
      have h2 : 0 < n / p := Nat.div_pos (Nat.le_of_dvd hn (Nat.dvd_of_mod_eq_zero hd)) (by omega)
      have ih := val_dvd p hp k (n / p) (by omega) h2
      rw [val_step hp hn hd, Nat.pow_succ]
      have := Nat.mul_dvd_mul_right ih p
      rwa [Nat.div_mul_cancel (Nat.dvd_of_mod_eq_zero hd)] at this
    · rw [val_stop hd]; simp

theorem val_le (p : Nat) (hp : 2 ≤ p) : ∀ (k n : Nat), n ≤ k → val n p ≤ n
  | 0, n, h => by obtain rfl : n = 0 := by omega
                  exact Nat.le_refl _
  | k + 1, n, h => by
    by_cases h0 : n = 0
    · subst h0; exact Nat.le_refl _
    · by_cases hd : n % p = 0
      · have h1 : n / p < n := Nat.div_lt_self (by omega) (by omega)
        have ih := val_le p hp k (n / p) (by omega)
        rw [val_step hp (by omega) hd]
        omega
      · rw [val_stop hd]; omega

/-- the rest of a power -/
def pw (b e m : Nat) : Nat := b ^ e % m

theorem pw_start (B E M : Nat) : 1 % M * B ^ E % M = pw B E M := by
  unfold pw; rw [Nat.mul_mod, Nat.mod_mod, ← Nat.mul_mod, Nat.one_mul]

theorem pw_step_odd (r b e m : Nat) : (r * b % m) * (b * b % m) ^ (e / 2) % m = r * b ^ (e / 2 * 2 + 1) % m := by
  rw [Nat.mul_mod, Nat.mod_mod, ← Nat.mul_mod, Nat.mul_mod (r * b), ← Nat.pow_mod, ← Nat.mul_mod]
  congr 1
  rw [← Nat.pow_two, ← Nat.pow_mul, Nat.pow_succ, Nat.mul_comm 2, Nat.mul_assoc, Nat.mul_comm b]

theorem pw_step_even (r b e m : Nat) : r * (b * b % m) ^ (e / 2) % m = r * b ^ (e / 2 * 2) % m := by
  rw [Nat.mul_mod, ← Nat.pow_mod, ← Nat.mul_mod]
  congr 1
  rw [← Nat.pow_two, ← Nat.pow_mul, Nat.mul_comm 2]

/-- the prime powers by trial: the first number is fuel -/
def ppGo : Nat → Nat → Nat → List (Nat × Nat)
  | 0, _, _ => []
  | f + 1, p, left =>
    if p * p ≤ left then
      if left % p = 0 then (p, val left p) :: ppGo f (p + 1) (left / p ^ val left p) else ppGo f (p + 1) left
    else if 1 < left then [(left, 1)] else []
def ppow (n : Nat) : List (Nat × Nat) := ppGo 70 2 n

/-- the primes by trial -/
def plGo : Nat → Nat → Nat → List Nat
  | 0, _, _ => []
  | f + 1, p, left =>
    if p * p ≤ left then
      if left % p = 0 then p :: plGo f (p + 1) (left / p ^ val left p) else plGo f (p + 1) left
    else if 1 < left then [left] else []
def plist (n : Nat) : List Nat := plGo 70 2 n

theorem plGo_eq : ∀ f p left, plGo f p left = (ppGo f p left).map (·.1)
  | 0, _, _ => rfl
  | f + 1, p, left => by
    unfold plGo ppGo
    split
    · split
      · simp [plGo_eq f]
      · exact plGo_eq f _ _
    · split <;> rfl
theorem plist_eq (n : Nat) : plist n = (ppow n).map (·.1) := plGo_eq _ _ _

/-- no p from the second number on, of which the square is at most n, divides n -/
def primeGo : Nat → Nat → Nat → Bool
  | 0, _, _ => true
  | f + 1, p, n => if p * p ≤ n then (if n % p = 0 then false else primeGo f (p + 1) n) else true
def primeN (n : Nat) : Bool := decide (2 ≤ n) && (decide (n ≤ 5000) && primeGo 70 2 n)
def primeI (n : Int) : Bool := primeN n.toNat

theorem sq_le {p n : Nat} (h : p * p ≤ n) (hn : n ≤ 5000) : p ≤ 70 := by
  by_cases hp : p ≤ 70
  · exact hp
  · have := Nat.mul_le_mul (show 71 ≤ p by omega) (show 71 ≤ p by omega)
    omega

theorem ppGo_head_prime : ∀ f p n, 2 ≤ p → 2 ≤ n → 72 ≤ p + f → p ≤ 71 → n ≤ 5000 → ((ppGo f p n).head?.map (·.1) == some n) = primeGo f p n
  | 0, p, n, hp, hn, hf, hp7, hm => by
    exfalso
    omega
  | f + 1, p, n, hp, hn, hf, hp7, hm => by
    unfold ppGo primeGo
    by_cases h1 : p * p ≤ n
    · rw [if_pos h1, if_pos h1]
      by_cases h2 : n % p = 0
      · rw [if_pos h2, if_pos h2]
        have : p ≠ n := by
          intro e
          subst e
          have := Nat.mul_le_mul hp (Nat.le_refl p)
          omega
        simp [this]
      · rw [if_neg h2, if_neg h2]
        exact ppGo_head_prime f (p + 1) n (by omega) hn (by omega) (by have := sq_le h1 hm; omega) hm
    · rw [if_neg h1, if_neg h1, if_pos (by omega)]
      simp

theorem ppow_prime {n : Nat} (h2 : 2 ≤ n) (hn : n ≤ 5000) : ((ppow n).head?.map (·.1) == some n) = primeN n := by
  rw [ppow, ppGo_head_prime 70 2 n (by omega) h2 (by omega) (by omega) hn]
  simp [primeN, h2, hn]

/-- the least inverse by trial -/
def invF (r m : Nat) : Option Nat := (List.range m).find? (fun x => r * x % m == 1)
/-- the least root by trial -/
def rootF (r m : Nat) : Option Nat := (List.range m).find? (fun x => x * x % m == r)

theorem find_at {p : Nat → Bool} {n x : Nat} (h1 : x < n) (h2 : p x = true) (h3 : ∀ j, j < x → p j = false) : (List.range n).find? p = some x := by
  rw [List.find?_range_eq_some]
  refine ⟨h2, List.mem_range.2 h1, fun j hj => ?_⟩
  simp [h3 j hj]
theorem find_none {p : Nat → Bool} {n : Nat} (h3 : ∀ j, j < n → p j = false) : (List.range n).find? p = none := by
  rw [List.find?_eq_none]
  intro x hx
  simp [h3 x (List.mem_range.1 hx)]

theorem rootF_half {r m x : Nat} (hx : x < m) (h : x * x % m = r) : (m - x) * (m - x) % m = r := by
  obtain ⟨y, rfl⟩ : ∃ y, m = x + y := ⟨m - x, by omega⟩
  have e : (x + y) - x = y := by omega
  rw [e, ← h]
  have h1 : y * y + (x + y) * x = x * x + (x + y) * y := by
    simp only [Nat.add_mul, Nat.mul_comm y x]
    omega
  have := congrArg (· % (x + y)) h1
  simpa [Nat.add_mul_mod_self_left] using this

/-- none in the first half: none at all -/
theorem rootF_none {r m : Nat} (h : ∀ j, j ≤ m / 2 → j * j % m ≠ r) : rootF r m = none := by
  refine find_none fun j hj => ?_
  rw [beq_eq_false_iff_ne]
  intro e
  by_cases hh : j ≤ m / 2
  · exact h j hh e
  · exact h (m - j) (by omega) (rootF_half hj e)

theorem invF_of {r m x : Nat} (hx : x < m) (h : r * x % m = 1) : invF r m = some x := by
  refine find_at hx (by simp [h]) fun j hj => ?_
  rw [beq_eq_false_iff_ne]
  intro e
  -- x and j are both inverses: x = x (r j) = j
  have h1 : x * (r * j) % m = x % m := by rw [Nat.mul_mod, e, Nat.mul_one, Nat.mod_mod]
  have h2 : x * (r * j) % m = j % m := by
    rw [show x * (r * j) = j * (r * x) by rw [← Nat.mul_assoc, Nat.mul_comm x r, Nat.mul_comm]]
    rw [Nat.mul_mod, h, Nat.mul_one, Nat.mod_mod]
  rw [h1, Nat.mod_eq_of_lt hx, Nat.mod_eq_of_lt (by omega)] at h2
  omega

theorem invF_none {r m : Nat} (h : Nat.gcd r m ≠ 1) : invF r m = none := by
  refine find_none fun j _ => ?_
  rw [beq_eq_false_iff_ne]
  intro e
  apply h
  have hd : Nat.gcd r m ∣ r * j % m := (Nat.dvd_mod_iff (Nat.gcd_dvd_right r m)).2 (Nat.dvd_trans (Nat.gcd_dvd_left r m) (Nat.dvd_mul_right r j))
  rw [e] at hd
  exact Nat.dvd_one.1 hd

/-- what the model's Euler says: -1, or the power itself -/
def resN (r p : Nat) : Int := if pw r ((p - 1) / 2) p = p - 1 then -1 else (pw r ((p - 1) / 2) p : Nat)
/-- what the program's Euler says -/
def resM (r p : Nat) : Int := if pw r ((p - 1) / 2) p = 0 then 0 else if pw r ((p - 1) / 2) p = 1 then 1 else -1

end Go.Proofs.Ytjabklpnohfjpab

/-! Loops -/
set_option linter.unusedVariables false
namespace Go.Proofs.Ytjabklpnohfjpab
open Go.RowKit

theorem tdiv_natAbs (a b : Int) : (a.tdiv b).natAbs = a.natAbs / b.natAbs := Int.natAbs_tdiv a b
theorem tmod_eqz {L p : Int} (hp : 2 ≤ p) : (L.tmod p == 0) = decide (L.natAbs % p.toNat = 0) := by
  rw [Bool.eq_iff_iff, beq_iff_eq, decide_eq_true_iff, ← Nat.dvd_iff_mod_eq_zero, ← Int.dvd_iff_tmod_eq_zero, ← Int.natAbs_dvd_natAbs, show p.natAbs = p.toNat by omega]

theorem ret2 {a b c d : Int} (h : a = b) (h' : c = d) : Ending.returned (.tuple #[.int .i64 a, .int .i64 c]) = .returned (.tuple #[.int .i64 b, .int .i64 d]) := by rw [h, h']

theorem mul_bd {a b m : Nat} (ha : a ≤ m) (hb : b ≤ m) : 0 ≤ (a : Int) * b ∧ (a : Int) * b ≤ (m : Int) * m := by
  have := Nat.mul_le_mul ha hb
  constructor
  · exact_mod_cast Nat.zero_le _
  · exact_mod_cast this

theorem ediv_bd {a b : Nat} (h : a ≤ 5000) : 0 ≤ (a : Int) / b ∧ (a : Int) / b ≤ 5000 := by
  have h1 := Nat.div_le_self a b
  have e : (a : Int) / b = ((a / b : Nat) : Int) := by push_cast; rfl
  rw [e]
  exact ⟨Int.natCast_nonneg _, Int.ofNat_le.2 (Nat.le_trans h1 h)⟩

theorem l1Size_any (n : Int) (h1 : -4611686018427387904 ≤ n) (h2 : n ≤ 4611686018427387904) (w : World) : Calls Try.prog 63 #[.int .i64 n] w fun e w' => e = .returned (.int .i64 n.natAbs) ∧ w = w' := by
  by_cases h : n < 0
  · have hn : (n.natAbs : Int) = -n := by omega
    have HN := hid hn; clear hn
    go_enter Try.func63, Try.ntmps63
    go_wp2
    go_ret
    exact ⟨retI (by rw [HN.out]), rfl⟩
  · have hn : (n.natAbs : Int) = n := by omega
    have HN := hid hn; clear hn
    go_enter Try.func63, Try.ntmps63
    go_wp2
    go_ret
    exact ⟨retI (by rw [HN.out]), rfl⟩

/-- Is it the square of an integer? -/
def sqB (n : Int) : Bool := (List.range 72).any (fun x => ((x : Int) * x == n))
theorem sq_mono {a b : Nat} (h : a ≤ b) : (a : Int) * a ≤ (b : Int) * b := by exact_mod_cast Nat.mul_le_mul h h
theorem sqB_at {n : Int} {k : Nat} (hn : n ≤ 5000) (h1 : n ≤ (k : Int) * k) (h2 : ∀ j : Nat, j < k → (j : Int) * j < n) : ((k : Int) * k == n) = sqB n := by
  rw [Bool.eq_iff_iff, beq_iff_eq]
  unfold sqB
  rw [List.any_eq_true]
  constructor
  · intro h
    refine ⟨k, ?_, by simpa using h⟩
    rw [List.mem_range]
    by_cases hk : k < 72
    · exact hk
    · have := sq_mono (show 72 ≤ k by omega)
      omega
  · rintro ⟨j, _, hj⟩
    rw [beq_iff_eq] at hj
    by_cases hjk : j < k
    · have := h2 j hjk
      omega
    · have := sq_mono (show k ≤ j by omega)
      omega




/-- what PowerMod answers -/
def pmB (n e m : Int) : Bool := okN n && (inR e 0 5000 && inR m 1 5000)
def pmV (n e m : Int) : Value := if pmB n e m then .tuple #[.int .i64 (pw (n % m).toNat e.toNat m.toNat : Nat), .bool true] else .tuple #[.int .i64 0, .bool false]
theorem pmV_yes {n e m : Int} (h : pmB n e m = true) : pmV n e m = .tuple #[.int .i64 (pw (n % m).toNat e.toNat m.toNat : Nat), .bool true] := by unfold pmV; rw [if_pos h]
theorem pmV_no {n e m : Int} (h : pmB n e m = false) : pmV n e m = .tuple #[.int .i64 0, .bool false] := by unfold pmV; rw [if_neg (by rw [h]; decide)]

end Go.Proofs.Ytjabklpnohfjpab
