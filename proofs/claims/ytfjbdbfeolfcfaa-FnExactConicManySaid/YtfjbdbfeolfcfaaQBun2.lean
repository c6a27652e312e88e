/-
  Some texts in one file: Arith Arith2 Arith3 Prime Res Fermat.
-/
import Derived.Test.YtfjbdbfeolfcfaaQBun0
import Derived.BigQuiet
import Derived.Test.YtfjbdbfeolfcfaaQIter
/-! Arith -/
set_option linter.unusedVariables false
namespace Go.Proofs.Ytfjbdbfeolfcfaa
open Go.RowKit



def optV : Option Nat → Value
  | some x => .tuple #[.int .i64 x, .bool true]
  | none => .tuple #[.int .i64 0, .bool false]
/-- what RootMod answers -/
def rootV (n m : Int) : Value := optV (if okN n && inR m 1 5000 then rootF (n % m).toNat m.toNat else none)
theorem rootV_yes {n m : Int} (h : (okN n && inR m 1 5000) = true) : rootV n m = optV (rootF (n % m).toNat m.toNat) := by unfold rootV; rw [if_pos h]
theorem rootV_no {n m : Int} (h : (okN n && inR m 1 5000) = false) : rootV n m = .tuple #[.int .i64 0, .bool false] := by unfold rootV; rw [if_neg (by rw [h]; decide)]; rfl
/-- what InverseMod answers -/
def invV (n m : Int) : Value := optV (if okN n && inR m 2 5000 then invF (n % m).toNat m.toNat else none)
theorem invV_yes {n m : Int} (h : (okN n && inR m 2 5000) = true) : invV n m = optV (invF (n % m).toNat m.toNat) := by unfold invV; rw [if_pos h]
theorem invV_no {n m : Int} (h : (okN n && inR m 2 5000) = false) : invV n m = .tuple #[.int .i64 0, .bool false] := by unfold invV; rw [if_neg (by rw [h]; decide)]; rfl
theorem optV_form (o : Option Nat) : ∃ (x : Int) (b : Bool), optV o = .tuple #[.int .i64 x, .bool b] := by
  cases o with
  | none => exact ⟨0, false, rfl⟩
  | some x => exact ⟨x, true, rfl⟩
theorem rootV_form (n m : Int) : ∃ (x : Int) (b : Bool), rootV n m = .tuple #[.int .i64 x, .bool b] := optV_form _
theorem invV_form (n m : Int) : ∃ (x : Int) (b : Bool), invV n m = .tuple #[.int .i64 x, .bool b] := optV_form _
theorem retV {a b : Value} (h : a = b) : Ending.returned a = .returned b := by rw [h]



end Go.Proofs.Ytfjbdbfeolfcfaa

/-! Arith2 -/
set_option linter.unusedVariables false
namespace Go.Proofs.Ytfjbdbfeolfcfaa
open Go.RowKit

def gcdV (a b : Int) : Int := if okN a && okN b then (Nat.gcd a.natAbs b.natAbs : Nat) else -1
theorem gcdV_yes {a b : Int} (h : (okN a && okN b) = true) : gcdV a b = (Nat.gcd a.natAbs b.natAbs : Nat) := by unfold gcdV; rw [if_pos h]
theorem gcdV_no {a b : Int} (h : (okN a && okN b) = false) : gcdV a b = -1 := by unfold gcdV; rw [if_neg (by rw [h]; decide)]

set_option maxHeartbeats 400000 in
theorem l1Gcd_any (a b : Int) (a1 : -100000000000 ≤ a) (a2 : a ≤ 100000000000) (b1 : -100000000000 ≤ b) (b2 : b ≤ 100000000000) (w : World) :
    Calls Try.prog 71 #[.int .i64 a, .int .i64 b] w fun e w' => e = .returned (.int .i64 (Nat.gcd a.natAbs b.natAbs : Nat)) ∧ w = w' := by
  go_enter Try.func71, Try.ntmps71
  go_wp2_with fail
  refine (l1Size_any a (by omega) (by omega) _).mono ?_
  rintro e w' ⟨rfl, rfl⟩
  go_wp2_with fail
  refine (l1Size_any b (by omega) (by omega) _).mono ?_
  rintro e w' ⟨rfl, rfl⟩
  go_wp2_with fail
  go_loop [0, 1] (fun x y => ∃ (X Y : Nat), x = .int .i64 X ∧ y = .int .i64 Y ∧ X ≤ 100000000000 ∧ Y ≤ 100000000000 ∧ Hid (Nat.gcd X Y = Nat.gcd a.natAbs b.natAbs)) (fun _ y => (intOf y).toNat)
  case atStart => exact ⟨_, _, rfl, rfl, by omega, by omega, hid rfl⟩
  case round =>
    obtain ⟨X, Y, rfl, rfl, hX, hY, HV⟩ := hrel
    by_cases h0 : Y = 0
    · subst h0
      go_wp2
      go_ret
      exact ⟨retI (by rw [← HV.out, Nat.gcd_zero_right]), rfl⟩
    · have T : ((Y : Int) != 0) = true := by rw [bne_iff_ne]; omega
      have hlt := Nat.mod_lt X (show Y > 0 by omega)
      go_wp2
      go_round
      case rel => exact ⟨Y, X % Y, rfl, vI (by push_cast; rfl), hY, by omega, hid (by rw [← HV.out, Nat.gcd_comm X Y, Nat.gcd_rec Y X, Nat.gcd_comm])⟩
      case measure => simp only [intOf]; omega

theorem primeI_no {n : Int} (h : n < 2 ∨ 5000 < n) : primeI n = false := by
  unfold primeI primeN
  rcases h with h | h
  · simp [show ¬ 2 ≤ n.toNat by omega]
  · simp [show ¬ n.toNat ≤ 5000 by omega]
theorem primeI_yes {n : Int} (h1 : 2 ≤ n) (h2 : n ≤ 5000) : primeI n = primeGo 70 2 n.toNat := by
  unfold primeI primeN
  simp [show 2 ≤ n.toNat by omega, show n.toNat ≤ 5000 by omega]




end Go.Proofs.Ytfjbdbfeolfcfaa

/-! Arith3 -/
set_option linter.unusedVariables false
namespace Go.Proofs.Ytfjbdbfeolfcfaa
open Go.RowKit

set_option maxHeartbeats 400000 in
theorem common_any (a b : Int) (a1 : -100000000000 ≤ a) (a2 : a ≤ 100000000000) (b1 : -100000000000 ≤ b) (b2 : b ≤ 100000000000) (w : World) : Calls Try.prog 52 #[.int .i64 a, .int .i64 b] w fun e w' => e = .returned (.int .i64 (Nat.gcd a.natAbs b.natAbs : Nat)) ∧ ∃ k, w' = w.drewN k := by
  go_enter Try.func52, Try.ntmps52
  go_wp2_with fail
  refine (size_any a (by omega) (by omega) _).mono ?_
  rintro e w' ⟨rfl, rfl⟩
  go_wp2_with fail
  refine (size_any b (by omega) (by omega) _).mono ?_
  rintro e w' ⟨rfl, rfl⟩
  go_wp2_with fail
  go_loopw [5, 6] (fun x y wr => ∃ (X Y k : Nat), x = .int .i64 X ∧ y = .int .i64 Y ∧ X ≤ 100000000000 ∧ Y ≤ 100000000000 ∧ Hid (Nat.gcd X Y = Nat.gcd a.natAbs b.natAbs) ∧ wr = w.drewN k) (fun _ y _ => (intOf y).toNat)
  case atStart => exact ⟨_, _, 0, rfl, rfl, by omega, by omega, hid rfl, rfl⟩
  case round =>
    obtain ⟨X, Y, k, rfl, rfl, hX, hY, HV, rfl⟩ := hrel
    by_cases h0 : Y = 0
    · subst h0
      go_wp2
      go_ret
      exact ⟨retI (by rw [← HV.out, Nat.gcd_zero_right]), k, rfl⟩
    · have T : ((Y : Int) != 0) = true := by rw [bne_iff_ne]; omega
      have hlt := Nat.mod_lt X (show Y > 0 by omega)
      go_wp2
      go_quiet (fail)
      go_wp2
      go_roundw
      case rel => exact ⟨Y, X % Y, _, rfl, vI (by push_cast; rfl), hY, by omega, hid (by rw [← HV.out, Nat.gcd_comm X Y, Nat.gcd_rec Y X, Nat.gcd_comm]), World.drewN_drewN ..⟩
      case measure => simp only [intOf]; omega

set_option maxHeartbeats 400000 in
theorem gcd_any (a b : Int) (w : World) : Calls Try.prog 23 #[.int .i64 a, .int .i64 b] w fun e w' => e = .returned (.int .i64 (gcdV a b)) ∧ ∃ k, w' = w.drewN k := by
  rcases okN_cases a with ⟨a1, a2, A⟩ | ⟨a1, A⟩ | ⟨a1, a2, A⟩
  · rcases okN_cases b with ⟨c1, c2, C⟩ | ⟨c1, C⟩ | ⟨c1, c2, C⟩
    · have P := hid (gcdV_yes (a := a) (b := b) (by simp [A, C]))
      go_enter Try.func23, Try.ntmps23
      go_wp2_with (first | (go_at_call 51; refine (valid_any _ _).mono ?_; rintro e w' ⟨rfl, rfl⟩) | (go_at_call 52; refine (common_any a b (by omega) (by omega) (by omega) (by omega) _).mono ?_; rintro e w' ⟨rfl, k, rfl⟩))
      go_ret
      exact ⟨retI P.out.symm, k, rfl⟩
    all_goals
      have P := hid (gcdV_no (a := a) (b := b) (by simp [C]))
      go_enter Try.func23, Try.ntmps23
      go_wp2_with (first | (go_at_call 51; refine (valid_any _ _).mono ?_; rintro e w' ⟨rfl, rfl⟩))
      go_ret
      exact ⟨retI P.out.symm, 0, rfl⟩
  all_goals
    have P := hid (gcdV_no (a := a) (b := b) (by simp [A]))
    go_enter Try.func23, Try.ntmps23
    go_wp2_with (first | (go_at_call 51; refine (valid_any _ _).mono ?_; rintro e w' ⟨rfl, rfl⟩))
    go_ret
    exact ⟨retI P.out.symm, 0, rfl⟩


end Go.Proofs.Ytfjbdbfeolfcfaa

/-! Prime -/
set_option linter.unusedVariables false
namespace Go.Proofs.Ytfjbdbfeolfcfaa
open Go.RowKit Go.Shelf
attribute [local go_sem] Oper.semAt_some

/-- the least prime that divides, 0 for 1 -/
def leastN (N : Nat) : Nat := ((ppow N).head?.map (·.1)).getD 0
theorem least_prime {N : Nat} (h2 : 2 ≤ N) (hN : N ≤ 5000) : (((leastN N : Nat) : Int) == (N : Int)) = primeN N := by
  rw [← ppow_prime h2 hN]
  unfold leastN
  cases (ppow N).head? with
  | none => simp; omega
  | some x =>
    simp only [Option.map_some, Option.getD_some]
    rw [Bool.eq_iff_iff, beq_iff_eq, beq_iff_eq, Option.some.injEq]
    omega
theorem head_pre {N : Nat} {x : Nat × Nat} (h : [x] <+: ppow N) : x.1 = leastN N := by
  obtain ⟨t, ht⟩ := h
  unfold leastN
  rw [← ht]
  rfl
theorem head_none {N : Nat} (h : [] = ppow N) : leastN N = 0 := by
  unfold leastN
  rw [← h]
  rfl
theorem primeI_cast (N : Nat) : primeI (N : Int) = primeN N := rfl
theorem boxed_putObjP {W : World} {B D : Nat} {t : TypeId} {v : Value} {o : Obj} (h : Boxed W B t v) (hD : D ≠ B) : Boxed (W.putObj D o) B t v := by
  unfold Boxed at *
  rw [← h]
  simp [World.putObj, hD]

end Go.Proofs.Ytfjbdbfeolfcfaa

/-! Res -/
set_option linter.unusedVariables false
namespace Go.Proofs.Ytfjbdbfeolfcfaa
open Go.RowKit

theorem primeI_bd {n : Int} (h : primeI n = true) : 2 ≤ n ∧ n ≤ 5000 := by
  unfold primeI primeN at h
  simp at h
  omega


def oddP (p : Int) : Bool := primeI p && decide (p ≠ 2)
theorem oddP_cases (p : Int) : (3 ≤ p ∧ p ≤ 5000 ∧ p ≠ 2 ∧ primeI p = true ∧ oddP p = true) ∨ (p = 2 ∧ oddP p = false) ∨ (p ≠ 2 ∧ primeI p = false ∧ oddP p = false) := by
  unfold oddP
  by_cases h2 : p = 2
  · exact .inr (.inl ⟨h2, by simp [h2]⟩)
  · cases h : primeI p with
    | true => have := primeI_bd h; exact .inl ⟨by omega, by omega, h2, rfl, by simp [h2]⟩
    | false => exact .inr (.inr ⟨h2, rfl, rfl⟩)


/-- what ValuationOf answers -/
def valV (n p : Int) : Int := if factB n && primeI p then (val n.natAbs p.toNat : Nat) else -1
theorem valV_yes {n p : Int} (h1 : factB n = true) (h2 : primeI p = true) : valV n p = (val n.natAbs p.toNat : Nat) := by unfold valV; rw [if_pos (by rw [h1, h2]; rfl)]
theorem valV_no {n p : Int} (h : factB n = false ∨ primeI p = false) : valV n p = -1 := by unfold valV; rw [if_neg (by rcases h with h | h <;> simp [h])]
theorem factB_cases (n : Int) : (-5000 ≤ n ∧ n ≤ 5000 ∧ n ≠ 0 ∧ okN n = true ∧ factB n = true) ∨ (n = 0 ∧ factB n = false) ∨ (n ≠ 0 ∧ okN n = false ∧ factB n = false) := by
  rcases okN_cases n with ⟨h1, h2, H⟩ | ⟨h1, H⟩ | ⟨h1, h2, H⟩
  · by_cases h0 : n = 0
    · exact .inr (.inl ⟨h0, factB_no (by omega)⟩)
    · exact .inl ⟨h1, h2, h0, H, factB_yes h1 h2 h0⟩
  · exact .inr (.inr ⟨by omega, H, factB_no (by omega)⟩)
  · exact .inr (.inr ⟨by omega, H, factB_no (by omega)⟩)




/-- what ResidueIs answers -/
def resV (n p : Int) : Int := if okN n && oddP p then resN (n % p).toNat p.toNat else -2
theorem resV_yes {n p : Int} (h1 : okN n = true) (h2 : oddP p = true) : resV n p = resN (n % p).toNat p.toNat := by unfold resV; rw [if_pos (by rw [h1, h2]; rfl)]
theorem resV_no {n p : Int} (h : okN n = false ∨ oddP p = false) : resV n p = -2 := by unfold resV; rw [if_neg (by rcases h with h | h <;> simp [h])]


end Go.Proofs.Ytfjbdbfeolfcfaa

/-! Fermat -/
set_option linter.unusedVariables false
namespace Go.Proofs.Ytfjbdbfeolfcfaa

theorem primeGo_no : ∀ f p n d, primeGo f p n = true → p ≤ d → d < p + f → d * d ≤ n → n % d ≠ 0
  | 0, p, n, d, _, h1, h2, _ => by omega
  | f + 1, p, n, d, h, h1, h2, h3 => by
    unfold primeGo at h
    by_cases hp : p * p ≤ n
    · rw [if_pos hp] at h
      by_cases hd : n % p = 0
      · rw [if_pos hd] at h; cases h
      · rw [if_neg hd] at h
        by_cases e : d = p
        · rw [e]; exact hd
        · exact primeGo_no f (p + 1) n d h (by omega) (by omega) h3
    · exfalso
      have := Nat.mul_le_mul h1 h1
      omega

theorem primeN_bd {p : Nat} (h : primeN p = true) : 2 ≤ p ∧ p ≤ 5000 ∧ primeGo 70 2 p = true := by
  unfold primeN at h
  simp at h
  exact ⟨h.1, h.2.1, h.2.2⟩

theorem primeN_no {p d : Nat} (h : primeN p = true) (h2 : 2 ≤ d) (h3 : d * d ≤ p) : p % d ≠ 0 := by
  obtain ⟨_, hb, hg⟩ := primeN_bd h
  have := sq_le h3 hb
  exact primeGo_no 70 2 p d hg h2 (by omega) h3

theorem primeN_dvd {p d : Nat} (h : primeN p = true) (hd : d ∣ p) : d = 1 ∨ d = p := by
  obtain ⟨h2, _, _⟩ := primeN_bd h
  obtain ⟨c, hc⟩ := hd
  by_cases d1 : d = 1
  · exact .inl d1
  · by_cases c1 : c = 1
    · subst c1; right; omega
    · exfalso
      have d0 : d ≠ 0 := by rintro rfl; omega
      have c0 : c ≠ 0 := by rintro rfl; omega
      by_cases hle : d ≤ c
      · refine primeN_no h (show 2 ≤ d by omega) ?_ (by rw [hc]; exact Nat.mul_mod_right d c)
        rw [hc]; exact Nat.mul_le_mul (Nat.le_refl _) hle
      · refine primeN_no h (show 2 ≤ c by omega) ?_ (by rw [hc]; exact Nat.mul_mod_left d c)
        rw [hc]; exact Nat.mul_le_mul (by omega) (Nat.le_refl _)

theorem prime_coprime {p a : Nat} (h : primeN p = true) (ha : ¬ p ∣ a) : Nat.Coprime p a := by
  rcases primeN_dvd h (Nat.gcd_dvd_left p a) with hg | hg
  · exact hg
  · exfalso; apply ha; rw [← hg]; exact Nat.gcd_dvd_right p a

theorem prime_mul {p a b : Nat} (h : primeN p = true) (hd : p ∣ a * b) : p ∣ a ∨ p ∣ b := by
  by_cases ha : p ∣ a
  · exact .inl ha
  · exact .inr ((prime_coprime h ha).dvd_of_dvd_mul_left hd)

/-- the binomials -/
def bin : Nat → Nat → Nat
  | _, 0 => 1
  | 0, _ + 1 => 0
  | n + 1, k + 1 => bin n k + bin n (k + 1)
theorem bin_zero (n : Nat) : bin n 0 = 1 := by cases n <;> rfl
theorem bin_succ (n k : Nat) : bin (n + 1) (k + 1) = bin n k + bin n (k + 1) := rfl
theorem bin_big : ∀ n k, n < k → bin n k = 0
  | 0, k + 1, _ => rfl
  | n + 1, k + 1, h => by rw [bin_succ, bin_big n k (by omega), bin_big n (k + 1) (by omega)]
theorem bin_self : ∀ n, bin n n = 1
  | 0 => rfl
  | n + 1 => by rw [bin_succ, bin_self n, bin_big n (n + 1) (by omega)]
theorem bin_mul : ∀ n k, (k + 1) * bin (n + 1) (k + 1) = (n + 1) * bin n k
  | 0, 0 => rfl
  | 0, k + 1 => by rw [bin_big 1 (k + 2) (by omega), bin_big 0 (k + 1) (by omega)]; rfl
  | n + 1, 0 => by
    have ih := bin_mul n 0
    rw [bin_succ (n + 1) 0]
    simp only [bin_zero] at *
    omega
  | n + 1, k + 1 => by
    have i1 := bin_mul n k
    have i2 := bin_mul n (k + 1)
    have e1 := bin_succ n k
    have e3 := bin_succ (n + 1) (k + 1)
    rw [e3]
    rw [Nat.mul_add, i2]
    have : (k + 1 + 1) * bin (n + 1) (k + 1) = (n + 1) * bin n k + bin (n + 1) (k + 1) := by rw [Nat.succ_mul, i1]
    rw [this]
    rw [Nat.succ_mul (n + 1) (bin (n + 1) (k + 1)), e1, Nat.mul_add]
    omega

def bsum (n a : Nat) : Nat → Nat
  | 0 => 0
  | m + 1 => bsum n a m + bin n m * a ^ m
theorem bsum_step (n a : Nat) : ∀ m, bsum (n + 1) a (m + 1) = bsum n a (m + 1) + a * bsum n a m
  | 0 => by simp [bsum, bin_zero]
  | m + 1 => by
    rw [bsum, bsum_step n a m, bin_succ, Nat.add_mul]
    conv => rhs; rw [bsum]
    rw [show bsum n a (m + 1) = bsum n a m + bin n m * a ^ m from rfl, Nat.mul_add, Nat.pow_succ]
    have e : bin n m * (a ^ m * a) = a * (bin n m * a ^ m) := by rw [← Nat.mul_assoc, Nat.mul_comm]
    rw [e]
    omega
theorem bsum_pow (a : Nat) : ∀ n, bsum n a (n + 1) = (a + 1) ^ n
  | 0 => by simp [bsum, bin_zero]
  | n + 1 => by
    rw [bsum_step, show bsum n a (n + 2) = bsum n a (n + 1) + bin n (n + 1) * a ^ (n + 1) from rfl, bin_big n (n + 1) (by omega), bsum_pow a n, Nat.zero_mul, show (a + 1) ^ (n + 1) = (a + 1) ^ n * (a + 1) from rfl, Nat.mul_add]
    have := Nat.mul_comm a ((a + 1) ^ n)
    omega
theorem bin_dvd {p k : Nat} (h : primeN p = true) (h1 : 1 ≤ k) (h2 : k < p) : p ∣ bin p k := by
  obtain ⟨q, rfl⟩ : ∃ q, p = q + 1 := ⟨p - 1, by omega⟩
  obtain ⟨j, rfl⟩ : ∃ j, k = j + 1 := ⟨k - 1, by omega⟩
  have e := bin_mul q j
  have hd : (q + 1) ∣ (j + 1) * bin (q + 1) (j + 1) := by rw [e]; exact Nat.dvd_mul_right _ _
  rcases prime_mul h hd with hx | hx
  · have := Nat.le_of_dvd (by omega) hx; omega
  · exact hx
theorem bsum_mod {p : Nat} (a : Nat) (h : primeN p = true) : ∀ m, 1 ≤ m → m ≤ p → bsum p a m % p = 1
  | 0, h1, _ => by omega
  | 1, _, _ => by
    have := (primeN_bd h).1
    simp [bsum, bin_zero]
    exact Nat.mod_eq_of_lt (by omega)
  | m + 2, _, h2 => by
    have ih := bsum_mod a h (m + 1) (by omega) (by omega)
    rw [show bsum p a (m + 2) = bsum p a (m + 1) + bin p (m + 1) * a ^ (m + 1) from rfl]
    have hd : p ∣ bin p (m + 1) * a ^ (m + 1) := Nat.dvd_trans (bin_dvd h (by omega) (by omega)) (Nat.dvd_mul_right _ _)
    rw [Nat.add_mod, Nat.mod_eq_zero_of_dvd hd, ih, Nat.add_zero]
    have := (primeN_bd h).1
    exact Nat.mod_eq_of_lt (by omega)
theorem fermat_step {p : Nat} (a : Nat) (h : primeN p = true) : (a + 1) ^ p % p = (a ^ p + 1) % p := by
  have := (primeN_bd h).1
  rw [← bsum_pow a p, show bsum p a (p + 1) = bsum p a p + bin p p * a ^ p from rfl, bin_self, Nat.one_mul, Nat.add_mod, bsum_mod a h p (by omega) (Nat.le_refl _), Nat.add_comm, Nat.add_mod (a ^ p) 1]
  rw [Nat.mod_eq_of_lt (show 1 < p by omega)]
theorem fermat {p : Nat} (h : primeN p = true) : ∀ a, a ^ p % p = a % p
  | 0 => by
    have := (primeN_bd h).1
    rw [Nat.zero_pow (by omega)]
  | a + 1 => by rw [fermat_step a h, Nat.add_mod, fermat h a, ← Nat.add_mod]

theorem euler_three {p : Nat} (h : primeN p = true) (h3 : 3 ≤ p) (r : Nat) : pw r ((p - 1) / 2) p = 0 ∨ pw r ((p - 1) / 2) p = 1 ∨ pw r ((p - 1) / 2) p = p - 1 := by
  have hodd : p % 2 = 1 := by
    have := primeN_no h (show 2 ≤ 2 by omega)
    by_cases h4 : 2 * 2 ≤ p
    · have := this h4; omega
    · omega
  obtain ⟨x, hx⟩ : ∃ x, x = pw r ((p - 1) / 2) p := ⟨_, rfl⟩
  rw [← hx]
  have hxp : x < p := by rw [hx]; exact Nat.mod_lt _ (by omega)
  have hf := fermat h r
  -- r * (x * x) = r, up to p
  have h1 : r * (x * x) % p = r % p := by
    rw [← hf, hx]
    unfold pw
    rw [Nat.mul_mod, ← Nat.mul_mod (r ^ ((p - 1) / 2)), ← Nat.mul_mod, ← Nat.pow_add, Nat.mul_comm, ← Nat.pow_succ]
    congr 2
    omega
  by_cases hr : p ∣ r
  · left
    rw [hx]
    unfold pw
    refine Nat.mod_eq_zero_of_dvd (Nat.dvd_trans hr ?_)
    obtain ⟨k, hk⟩ : ∃ k, (p - 1) / 2 = k + 1 := ⟨(p - 1) / 2 - 1, by omega⟩
    rw [hk, Nat.pow_succ]
    exact Nat.dvd_mul_left _ _
  · right
    by_cases hx0 : x = 0
    · exfalso
      apply hr
      rw [hx0] at h1
      simp at h1
      exact Nat.dvd_of_mod_eq_zero h1.symm
    · -- p divides r * (x * x - 1) = r * ((x - 1) * (x + 1))
      have h2 : p ∣ r * (x * x) - r := Nat.dvd_of_mod_eq_zero (Nat.sub_mod_eq_zero_of_mod_eq h1)
      have h4 : r * (x * x) - r = r * ((x - 1) * (x + 1)) := by
        obtain ⟨y, rfl⟩ : ∃ y, x = y + 1 := ⟨x - 1, by omega⟩
        have e : (y + 1) * (y + 1) = (y + 1 - 1) * (y + 1 + 1) + 1 := by
          rw [Nat.add_sub_cancel]
          simp only [Nat.mul_add, Nat.add_mul]
          omega
        rw [e, Nat.mul_add, Nat.mul_one, Nat.add_sub_cancel]
      rw [h4] at h2
      rcases prime_mul h h2 with h5 | h5
      · exact absurd h5 hr
      · rcases prime_mul h h5 with h6 | h6
        · left
          by_cases h7 : x - 1 = 0
          · omega
          · have := Nat.le_of_dvd (by omega) h6; omega
        · right
          have := Nat.le_of_dvd (by omega) h6; omega

theorem res_same {p : Nat} (h : primeN p = true) (h3 : 3 ≤ p) (r : Nat) : resM r p = resN r p := by
  unfold resM resN
  rcases euler_three h h3 r with e | e | e
  · rw [e, if_pos rfl, if_neg (by omega)]; rfl
  · rw [e, if_neg (by omega), if_pos rfl, if_neg (by omega)]; rfl
  · rw [e, if_neg (by omega), if_neg (by omega), if_pos rfl]

end Go.Proofs.Ytfjbdbfeolfcfaa
