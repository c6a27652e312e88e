/-
  Some texts in one file: Core Fermat.
-/
import Derived.Test.YtciajpimpjpnfacBun2
import Derived.BigQuiet
import Derived.Test.YtciajpimpjpnfacBun0
/-! Core -/
set_option linter.unusedVariables false
namespace Go.Proofs.Ytciajpimpjpnfac
open Go.RowKit Go.Shelf
attribute [local go_sem] Oper.semAt_some

/-- the model's way: each p in turn, as often as its square divides -/
def coreGo : Nat → Nat → Nat → Nat → Nat × Nat
  | 0, _, n, r => (n, r)
  | f + 1, p, n, r => if p * p ≤ n then coreGo f (p + 1) (n / (p * p) ^ val n (p * p)) (r * p ^ val n (p * p)) else (n, r)
/-- the root part -/
def rootN (N : Nat) : Nat := (coreGo 70 2 N 1).2
/-- what a loop of k rounds makes of a root, wraps and all -/
def mulW (r : Int) (p : Nat) : Nat → Int
  | 0 => r
  | k + 1 => wrap64 (mulW r p k * p)
def rootW (l : List (Nat × Nat)) : Int := l.foldl (fun r x => mulW r x.1 (x.2 / 2)) 1
def rootOk (N : Nat) : Bool := decide (N = 0) || (rootW (ppow N) == (rootN N : Int) && decide (rootN N ≤ 70) && decide (1 ≤ rootN N))
theorem rootOk_all : (List.range 5001).all rootOk = true := by decide +kernel
theorem rootW_eq {N : Nat} (h1 : 1 ≤ N) (h2 : N ≤ 5000) : rootW (ppow N) = (rootN N : Int) ∧ rootN N ≤ 70 ∧ 1 ≤ rootN N := by
  have := List.all_eq_true.1 rootOk_all N (List.mem_range.2 (by omega))
  unfold rootOk at this
  rw [decide_eq_false (by omega)] at this
  simp only [Bool.false_or, Bool.and_eq_true, beq_iff_eq, decide_eq_true_eq] at this
  exact ⟨this.1.1, this.1.2, this.2⟩

/-- what CoreOf answers -/
def coreI (n : Int) : Int := n.tdiv ((rootN n.natAbs : Int) * (rootN n.natAbs : Int))
def coreV (n : Int) : Value := if factB n then .tuple #[.int .i64 (coreI n), .int .i64 (rootN n.natAbs : Nat), .bool true] else .tuple #[.int .i64 0, .int .i64 0, .bool false]
theorem coreV_yes {n : Int} (h : factB n = true) : coreV n = .tuple #[.int .i64 (coreI n), .int .i64 (rootN n.natAbs : Nat), .bool true] := by unfold coreV; rw [if_pos h]
theorem coreV_no {n : Int} (h : factB n = false) : coreV n = .tuple #[.int .i64 0, .int .i64 0, .bool false] := by unfold coreV; rw [if_neg (by rw [h]; decide)]
theorem coreV_form (n : Int) : ∃ (x y : Int) (b : Bool), coreV n = .tuple #[.int .i64 x, .int .i64 y, .bool b] := by
  unfold coreV
  split
  · exact ⟨_, _, _, rfl⟩
  · exact ⟨_, _, _, rfl⟩

theorem sq_toNat (p : Nat) : ((p : Int) * p).toNat = p * p := by exact_mod_cast Int.toNat_natCast (p * p)

set_option maxRecDepth 100000 in
set_option maxHeartbeats 1000000 in
theorem l1Core_any (n : Int) (h0 : n ≠ 0) (a1 : -5000 ≤ n) (a2 : n ≤ 5000) (w : World) :
    Calls Try.prog 49 #[.int .i64 n] w fun e w' => e = .returned (.tuple #[.int .i64 (coreI n), .int .i64 (rootN n.natAbs : Nat)]) ∧ w = w' := by
  have HN := hid h0
  have hr := rootW_eq (N := n.natAbs) (by omega) (by omega)
  have HR := hid hr
  clear h0 hr
  go_enter Try.func49, Try.ntmps49
  go_wp2
  go_loop [0, 4, 5] (fun sn sr sp => ∃ (L : Int) (R p f : Nat), sn = .int .i64 L ∧ sr = .int .i64 R ∧ sp = .int .i64 p ∧ -5000 ≤ L ∧ L ≤ 5000 ∧ R ≤ 5000 ∧ 2 ≤ p ∧ p ≤ 71 ∧ p + f = 72 ∧ Hid (L ≠ 0 ∧ 1 ≤ R ∧ (R : Int) * R * L = n ∧ coreGo f p L.natAbs R = coreGo 70 2 n.natAbs 1)) (fun _ _ sp => (71 - intOf sp).toNat)
  case atStart => exact ⟨n, 1, 2, 70, rfl, rfl, rfl, a1, a2, by omega, by omega, by omega, rfl, hid ⟨HN.out, by omega, by simp, rfl⟩⟩
  case round =>
    obtain ⟨L, R, p, f, rfl, rfl, rfl, hL1, hL2, hR, hp2, hp7, hf, HV⟩ := hrel
    have hKK := mul_bd (show p ≤ 71 by omega) (show p ≤ 71 by omega)
    obtain ⟨g, rfl⟩ : ∃ g, f = g + 1 := ⟨f - 1, by omega⟩
    obtain ⟨A, hA⟩ : ∃ A, A = L.natAbs := ⟨_, rfl⟩
    have HA := hid hA
    by_cases hle : (p : Int) * p ≤ (A : Int)
    · have hle' : p * p ≤ A := by exact_mod_cast hle
      have hp70 := sq_le hle' (by omega)
      have HL := hid hle'
      have hq2 : 4 ≤ p * p := Nat.mul_le_mul hp2 hp2
      have hq3 : p * p ≤ 4900 := Nat.mul_le_mul hp70 hp70
      have hz2 : (2 : Int) ≤ (p : Int) * p := by have : ((4 : Nat) : Int) ≤ ((p * p : Nat) : Int) := Int.ofNat_le.2 hq2
                                                 push_cast at this; omega
      have hz3 : (p : Int) * p ≤ 5000 := by have : ((p * p : Nat) : Int) ≤ ((4900 : Nat) : Int) := Int.ofNat_le.2 hq3
                                            push_cast at this; omega
      clear hA hle' hq2 hq3
      go_wp2_with (go_at_call 71; refine (l1Size_any _ (by omega) (by omega) _).mono ?_; rw [← HA.out]; rintro e w' ⟨rfl, rfl⟩)
      go_loop [0, 4] (fun sn sr => ∃ (M : Int) (j S : Nat), sn = .int .i64 M ∧ sr = .int .i64 S ∧ -5000 ≤ M ∧ M ≤ 5000 ∧ S ≤ 5000 ∧ Hid (M ≠ 0 ∧ S = R * p ^ j ∧ 1 ≤ S ∧ (S : Int) * S * M = n ∧ val M.natAbs (p * p) + j = val A (p * p) ∧ M.natAbs * (p * p) ^ j = A)) (fun sn _ => (intOf sn).natAbs)
      case atStart => exact ⟨L, 0, R, rfl, rfl, hL1, hL2, hR, hid ⟨HV.out.1, by simp, HV.out.2.1, HV.out.2.2.1, by rw [HA.out]; rfl, by rw [HA.out]; simp⟩⟩
      case round =>
        obtain ⟨M, j, S, rfl, rfl, hM1, hM2, hS, HM⟩ := hrel
        have T := tmod_eqz (L := M) hz2
        rw [sq_toNat] at T
        have hSp := mul_bd (show S ≤ 5000 by omega) (show p ≤ 5000 by omega)
        by_cases hd : M.natAbs % (p * p) = 0
        · rw [decide_eq_true hd] at T
          have hM0 := HM.out.1
          have hdv : (p : Int) * p ∣ M := by
            rw [← Int.natAbs_dvd_natAbs, show ((p : Int) * p).natAbs = p * p by rw [Int.natAbs_mul]; simp]; exact Nat.dvd_of_mod_eq_zero hd
          have hpp : 2 ≤ p * p := Nat.le_trans hp2 (Nat.le_mul_of_pos_left p (by omega))
          have HSV := hid (val_step (n := M.natAbs) (p := p * p) hpp (by omega) hd)
          have hq : (M.tdiv ((p : Int) * p)).natAbs = M.natAbs / (p * p) := by rw [tdiv_natAbs, Int.natAbs_mul]; simp
          have hlt : M.natAbs / (p * p) < M.natAbs := Nat.div_lt_self (by omega) (by omega)
          have hpos : 0 < M.natAbs / (p * p) := Nat.div_pos (Nat.le_of_dvd (by omega) (Nat.dvd_of_mod_eq_zero hd)) (by omega)
          have hq1 : (M.tdiv ((p : Int) * p)).natAbs < M.natAbs := by omega
          have hq2 : M.tdiv ((p : Int) * p) ≠ 0 := by omega
          have hq3 : -5000 ≤ M.tdiv ((p : Int) * p) := by omega
          have hq4 : M.tdiv ((p : Int) * p) ≤ 5000 := by omega
          have HC := hid (Int.tdiv_mul_cancel hdv)
          have HQ := hid hq
          have HD := hid (Nat.div_mul_cancel (Nat.dvd_of_mod_eq_zero hd))
          have Hq2 := hid hq2
          have hnew : Hid ((((S * p : Nat) : Int) * ((S * p : Nat) : Int)) * M.tdiv ((p : Int) * p) = n) := by
            show _ = _
            rw [← HM.out.2.2.2.1]
            conv => rhs; rw [← HC.out]
            push_cast
            have : (S : Int) * p * (S * p) = S * S * (p * p) := by
              rw [Int.mul_assoc, Int.mul_assoc, Int.mul_left_comm (p : Int) (S : Int) p]
            rw [this, Int.mul_assoc ((S : Int) * S), Int.mul_comm ((p : Int) * p)]
          have hSp5 : S * p ≤ 5000 := by
            -- its square divides n
            have h1 : ((S * p : Nat) : Int).natAbs ∣ n.natAbs := by
              rw [Int.natAbs_dvd_natAbs]
              exact ⟨((S * p : Nat) : Int) * M.tdiv ((p : Int) * p), by rw [← Int.mul_assoc]; exact hnew.out.symm⟩
            have h2 := Nat.le_of_dvd (by have := HN.out; omega) h1
            simp only [Int.natAbs_natCast] at h2
            omega
          have h1Sp : 1 ≤ S * p := Nat.mul_pos HM.out.2.2.1 (by omega)
          have hSe : Hid (S * p = R * p ^ (j + 1)) := by show _ = _; rw [HM.out.2.1, Nat.pow_succ, Nat.mul_assoc]
          clear hd hM0 hdv hq hlt hpos hq2 hpp
          go_wp2
          go_round
          case rel => exact ⟨M.tdiv ((p : Int) * p), j + 1, S * p, rfl, vI (by push_cast; rfl), hq3, hq4, hSp5, hid ⟨Hq2.out, hSe.out, h1Sp, hnew.out, by rw [HQ.out]; have := HSV.out; have := HM.out.2.2.2.2.1; omega, by rw [HQ.out, Nat.pow_succ, Nat.mul_comm ((p * p) ^ j), ← Nat.mul_assoc, HD.out]; exact HM.out.2.2.2.2.2⟩⟩
          case measure => simp only [intOf]; exact hq1
        · rw [decide_eq_false hd] at T
          have HSV := hid (val_stop hd)
          have hj : Hid (j = val A (p * p)) := by show _ = _; have := HM.out.2.2.2.2.1; rw [HSV.out] at this; omega
          have hMA : Hid (M.natAbs = A / (p * p) ^ val A (p * p)) := by
            show _ = _
            rw [← hj.out]
            conv => rhs; lhs; rw [← HM.out.2.2.2.2.2]
            rw [Nat.mul_div_cancel _ (Nat.pow_pos (Nat.mul_pos (by omega) (by omega)))]
          have hgo : Hid (coreGo g (p + 1) M.natAbs S = coreGo 70 2 n.natAbs 1) := by
            show _ = _
            rw [← HV.out.2.2.2, ← HA.out, hMA.out, HM.out.2.1, hj.out]
            conv => rhs; unfold coreGo
            rw [if_pos HL.out]
          clear hd
          go_wp2
          go_round
          case rel => exact ⟨M, S, p + 1, g, rfl, rfl, by go_num, hM1, hM2, hS, by omega, by omega, by omega, hid ⟨HM.out.1, HM.out.2.2.1, HM.out.2.2.2.1, hgo.out⟩⟩
          case measure => simp only [intOf]; omega
    · have hle' : ¬ p * p ≤ A := fun h => hle (by exact_mod_cast h)
      have HE : Hid (R = rootN n.natAbs) := by
        show _ = _
        unfold rootN
        rw [← HV.out.2.2.2, ← hA]
        unfold coreGo
        rw [if_neg hle']
      clear hA hle'
      go_wp2_with (go_at_call 71; refine (l1Size_any _ (by omega) (by omega) _).mono ?_; rw [← HA.out]; rintro e w' ⟨rfl, rfl⟩)
      go_ret2
      refine ⟨ret2 ?_ (by rw [HE.out]), rfl⟩
      unfold coreI
      rw [← HE.out]
      conv => rhs; lhs; rw [← HV.out.2.2.1]
      rw [Int.mul_comm _ L, Int.mul_tdiv_cancel]
      have : (1 : Int) ≤ R := by have := HV.out.2.1; omega
      have h2 : (0 : Int) < (R : Int) * R := Int.mul_pos (by omega) (by omega)
      omega

theorem ret3 {a b c d : Int} {x y : Bool} (h : a = b) (h' : c = d) (h2 : x = y) : Ending.returned (.tuple #[.int .i64 a, .int .i64 c, .bool x]) = .returned (.tuple #[.int .i64 b, .int .i64 d, .bool y]) := by rw [h, h', h2]

theorem coreOfS_any (n : Int) (w : World) : Calls Try.prog 24 #[.int .i64 n] w fun e w' => e = .returned (coreV n) ∧ w = w' := by
  rcases factB_cases n with ⟨h1, h2, h0, O, hF⟩ | ⟨rfl, hF⟩ | ⟨h0, O, hF⟩
  · have T : (n == 0) = false := by rw [beq_eq_false_iff_ne]; exact h0
    have H0 := hid h0
    have P := hid (coreV_yes hF)
    clear hF h0
    go_enter Try.func24, Try.ntmps24
    go_wp2_with (first | (go_at_call 42; refine (l1Number_any _ _).mono ?_; rintro e w' ⟨rfl, rfl⟩) | (go_at_call 49; refine (l1Core_any _ H0.out (by omega) (by omega) _).mono ?_; rintro e w' ⟨rfl, rfl⟩))
    go_ret3
    exact ⟨retV P.out.symm, rfl⟩
  · have O : okN 0 = true := rfl
    have P := hid (coreV_no hF)
    clear hF
    go_enter Try.func24, Try.ntmps24
    go_wp2_with (first | (go_at_call 42; refine (l1Number_any _ _).mono ?_; rintro e w' ⟨rfl, rfl⟩))
    go_ret3
    exact ⟨retV P.out.symm, rfl⟩
  · have P := hid (coreV_no hF)
    clear hF
    go_enter Try.func24, Try.ntmps24
    go_wp2_with (first | (go_at_call 42; refine (l1Number_any _ _).mono ?_; rintro e w' ⟨rfl, rfl⟩))
    go_ret3
    exact ⟨retV P.out.symm, rfl⟩

end Go.Proofs.Ytciajpimpjpnfac

/-! Fermat -/
set_option linter.unusedVariables false
namespace Go.Proofs.Ytciajpimpjpnfac

theorem primeGo_no : ∀ f p n d, primeGo f p n = true → p ≤ d → d < p + f → d * d ≤ n → n % d ≠ 0
  | 0, p, n, d, _, h1, h2, _ => by omega
  | f + 1, p, n, d, h, h1, h2, h3 => by
    unfold primeGo at h
    by_cases hp : p * p ≤ n
    · rw [if_pos hp] at h
      by_cases hd : n % p = 0
      · rw [if_pos hd] at h; cases h
      · rw [if_neg hd] at h
        by_cases e : d = p
        · rw [e]; exact hd
        · exact primeGo_no f (p + 1) n d h (by omega) (by omega) h3
    · exfalso
      have := Nat.mul_le_mul h1 h1
      omega

theorem primeN_bd {p : Nat} (h : primeN p = true) : 2 ≤ p ∧ p ≤ 5000 ∧ primeGo 70 2 p = true := by
  unfold primeN at h
  simp at h
  exact ⟨h.1, h.2.1, h.2.2⟩

theorem primeN_no {p d : Nat} (h : primeN p = true) (h2 : 2 ≤ d) (h3 : d * d ≤ p) : p % d ≠ 0 := by
  obtain ⟨_, hb, hg⟩ := primeN_bd h
  have := sq_le h3 hb
  exact primeGo_no 70 2 p d hg h2 (by omega) h3

theorem primeN_dvd {p d : Nat} (h : primeN p = true) (hd : d ∣ p) : d = 1 ∨ d = p := by
  obtain ⟨h2, _, _⟩ := primeN_bd h
  obtain ⟨c, hc⟩ := hd
  by_cases d1 : d = 1
  · exact .inl d1
  · by_cases c1 : c = 1
    · subst c1; right; omega
    · exfalso
      have d0 : d ≠ 0 := by rintro rfl; omega
      have c0 : c ≠ 0 := by rintro rfl; omega
      by_cases hle : d ≤ c
      · refine primeN_no h (show 2 ≤ d by omega) ?_ (by rw [hc]; exact Nat.mul_mod_right d c)
        rw [hc]; exact Nat.mul_le_mul (Nat.le_refl _) hle
      · refine primeN_no h (show 2 ≤ c by omega) ?_ (by rw [hc]; exact Nat.mul_mod_left d c)
        rw [hc]; exact Nat.mul_le_mul (by omega) (Nat.le_refl _)

theorem prime_coprime {p a : Nat} (h : primeN p = true) (ha : ¬ p ∣ a) : Nat.Coprime p a := by
  rcases primeN_dvd h (Nat.gcd_dvd_left p a) with hg | hg
  · exact hg
  · exfalso; apply ha; rw [← hg]; exact Nat.gcd_dvd_right p a

theorem prime_mul {p a b : Nat} (h : primeN p = true) (hd : p ∣ a * b) : p ∣ a ∨ p ∣ b := by
  by_cases ha : p ∣ a
  · exact .inl ha
  · exact .inr ((prime_coprime h ha).dvd_of_dvd_mul_left hd)

/-- the binomials -/
def bin : Nat → Nat → Nat
  | _, 0 => 1
  | 0, _ + 1 => 0
  | n + 1, k + 1 => bin n k + bin n (k + 1)
theorem bin_zero (n : Nat) : bin n 0 = 1 := by cases n <;> rfl
theorem bin_succ (n k : Nat) : bin (n + 1) (k + 1) = bin n k + bin n (k + 1) := rfl
theorem bin_big : ∀ n k, n < k → bin n k = 0
  | 0, k + 1, _ => rfl
  | n + 1, k + 1, h => by rw [bin_succ, bin_big n k (by omega), bin_big n (k + 1) (by omega)]
theorem bin_self : ∀ n, bin n n = 1
  | 0 => rfl
  | n + 1 => by rw [bin_succ, bin_self n, bin_big n (n + 1) (by omega)]
theorem bin_mul : ∀ n k, (k + 1) * bin (n + 1) (k + 1) = (n + 1) * bin n k
  | 0, 0 => rfl
  | 0, k + 1 => by rw [bin_big 1 (k + 2) (by omega), bin_big 0 (k + 1) (by omega)]; rfl
  | n + 1, 0 => by
    have ih := bin_mul n 0
    rw [bin_succ (n + 1) 0]
    simp only [bin_zero] at *
    omega
  | n + 1, k + 1 => by
    have i1 := bin_mul n k
    have i2 := bin_mul n (k + 1)
    have e1 := bin_succ n k
    have e3 := bin_succ (n + 1) (k + 1)
    rw [e3]
    rw [Nat.mul_add, i2]
    have : (k + 1 + 1) * bin (n + 1) (k + 1) = (n + 1) * bin n k + bin (n + 1) (k + 1) := by rw [Nat.succ_mul, i1]
    rw [this]
    rw [Nat.succ_mul (n + 1) (bin (n + 1) (k + 1)), e1, Nat.mul_add]
    omega

def bsum (n a : Nat) : Nat → Nat
  | 0 => 0
  | m + 1 => bsum n a m + bin n m * a ^ m
theorem bsum_step (n a : Nat) : ∀ m, bsum (n + 1) a (m + 1) = bsum n a (m + 1) + a * bsum n a m
  | 0 => by simp [bsum, bin_zero]
  | m + 1 => by
    rw [bsum, bsum_step n a m, bin_succ, Nat.add_mul]
    conv => rhs; rw [bsum]
    rw [show bsum n a (m + 1) = bsum n a m + bin n m * a ^ m from rfl, Nat.mul_add, Nat.pow_succ]
    have e : bin n m * (a ^ m * a) = a * (bin n m * a ^ m) := by rw [← Nat.mul_assoc, Nat.mul_comm]
    rw [e]
    omega
theorem bsum_pow (a : Nat) : ∀ n, bsum n a (n + 1) = (a + 1) ^ n
  | 0 => by simp [bsum, bin_zero]
  | n + 1 => by
    rw [bsum_step, show bsum n a (n + 2) = bsum n a (n + 1) + bin n (n + 1) * a ^ (n + 1) from rfl, bin_big n (n + 1) (by omega), bsum_pow a n, Nat.zero_mul, show (a + 1) ^ (n + 1) = (a + 1) ^ n * (a + 1) from rfl, Nat.mul_add]
    have := Nat.mul_comm a ((a + 1) ^ n)
    omega
theorem bin_dvd {p k : Nat} (h : primeN p = true) (h1 : 1 ≤ k) (h2 : k < p) : p ∣ bin p k := by
  obtain ⟨q, rfl⟩ : ∃ q, p = q + 1 := ⟨p - 1, by omega⟩
  obtain ⟨j, rfl⟩ : ∃ j, k = j + 1 := ⟨k - 1, by omega⟩
  have e := bin_mul q j
  have hd : (q + 1) ∣ (j + 1) * bin (q + 1) (j + 1) := by rw [e]; exact Nat.dvd_mul_right _ _
  rcases prime_mul h hd with hx | hx
  · have := Nat.le_of_dvd (by omega) hx; omega
  · exact hx
theorem bsum_mod {p : Nat} (a : Nat) (h : primeN p = true) : ∀ m, 1 ≤ m → m ≤ p → bsum p a m % p = 1
  | 0, h1, _ => by omega
  | 1, _, _ => by
    have := (primeN_bd h).1
    simp [bsum, bin_zero]
    exact Nat.mod_eq_of_lt (by omega)
  | m + 2, _, h2 => by
    have ih := bsum_mod a h (m + 1) (by omega) (by omega)
    rw [show bsum p a (m + 2) = bsum p a (m + 1) + bin p (m + 1) * a ^ (m + 1) from rfl]
    have hd : p ∣ bin p (m + 1) * a ^ (m + 1) := Nat.dvd_trans (bin_dvd h (by omega) (by omega)) (Nat.dvd_mul_right _ _)
    rw [Nat.add_mod, Nat.mod_eq_zero_of_dvd hd, ih, Nat.add_zero]
    have := (primeN_bd h).1
    exact Nat.mod_eq_of_lt (by omega)
theorem fermat_step {p : Nat} (a : Nat) (h : primeN p = true) : (a + 1) ^ p % p = (a ^ p + 1) % p := by
  have := (primeN_bd h).1
  rw [← bsum_pow a p, show bsum p a (p + 1) = bsum p a p + bin p p * a ^ p from rfl, bin_self, Nat.one_mul, Nat.add_mod, bsum_mod a h p (by omega) (Nat.le_refl _), Nat.add_comm, Nat.add_mod (a ^ p) 1]
  rw [Nat.mod_eq_of_lt (show 1 < p by omega)]
theorem fermat {p : Nat} (h : primeN p = true) : ∀ a, a ^ p % p = a % p
  | 0 => by
    have := (primeN_bd h).1
    rw [Nat.zero_pow (by omega)]
  | a + 1 => by rw [fermat_step a h, Nat.add_mod, fermat h a, ← Nat.add_mod]

theorem euler_three {p : Nat} (h : primeN p = true) (h3 : 3 ≤ p) (r : Nat) : pw r ((p - 1) / 2) p = 0 ∨ pw r ((p - 1) / 2) p = 1 ∨ pw r ((p - 1) / 2) p = p - 1 := by
  have hodd : p % 2 = 1 := by
    have := primeN_no h (show 2 ≤ 2 by omega)
    by_cases h4 : 2 * 2 ≤ p
    · have := this h4; omega
    · omega
  obtain ⟨x, hx⟩ : ∃ x, x = pw r ((p - 1) / 2) p := ⟨_, rfl⟩
  rw [← hx]
  have hxp : x < p := by rw [hx]; exact Nat.mod_lt _ (by omega)
  have hf := fermat h r
  -- r * (x * x) = r, up to p
  have h1 : r * (x * x) % p = r % p := by
    rw [← hf, hx]
    unfold pw
    rw [Nat.mul_mod, ← Nat.mul_mod (r ^ ((p - 1) / 2)), ← Nat.mul_mod, ← Nat.pow_add, Nat.mul_comm, ← Nat.pow_succ]
    congr 2
    omega
  by_cases hr : p ∣ r
  · left
    rw [hx]
    unfold pw
    refine Nat.mod_eq_zero_of_dvd (Nat.dvd_trans hr ?_)
    obtain ⟨k, hk⟩ : ∃ k, (p - 1) / 2 = k + 1 := ⟨(p - 1) / 2 - 1, by omega⟩
    rw [hk, Nat.pow_succ]
    exact Nat.dvd_mul_left _ _
  · right
    by_cases hx0 : x = 0
    · exfalso
      apply hr
      rw [hx0] at h1
      simp at h1
      exact Nat.dvd_of_mod_eq_zero h1.symm
    · -- p divides r * (x * x - 1) = r * ((x - 1) * (x + 1))
      have h2 : p ∣ r * (x * x) - r := Nat.dvd_of_mod_eq_zero (Nat.sub_mod_eq_zero_of_mod_eq h1)
      have h4 : r * (x * x) - r = r * ((x - 1) * (x + 1)) := by
        obtain ⟨y, rfl⟩ : ∃ y, x = y + 1 := ⟨x - 1, by omega⟩
        have e : (y + 1) * (y + 1) = (y + 1 - 1) * (y + 1 + 1) + 1 := by
          rw [Nat.add_sub_cancel]
          simp only [Nat.mul_add, Nat.add_mul]
          omega
        rw [e, Nat.mul_add, Nat.mul_one, Nat.add_sub_cancel]
      rw [h4] at h2
      rcases prime_mul h h2 with h5 | h5
      · exact absurd h5 hr
      · rcases prime_mul h h5 with h6 | h6
        · left
          by_cases h7 : x - 1 = 0
          · omega
          · have := Nat.le_of_dvd (by omega) h6; omega
        · right
          have := Nat.le_of_dvd (by omega) h6; omega

theorem res_same {p : Nat} (h : primeN p = true) (h3 : 3 ≤ p) (r : Nat) : resM r p = resN r p := by
  unfold resM resN
  rcases euler_three h h3 r with e | e | e
  · rw [e, if_pos rfl, if_neg (by omega)]; rfl
  · rw [e, if_neg (by omega), if_pos rfl, if_neg (by omega)]; rfl
  · rw [e, if_neg (by omega), if_neg (by omega), if_pos rfl]

end Go.Proofs.Ytciajpimpjpnfac
