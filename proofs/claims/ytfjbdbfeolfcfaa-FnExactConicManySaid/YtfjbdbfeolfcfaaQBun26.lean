/-
  Some texts in one file: CoreI Core2 Imp4C.
-/
import Derived.Test.YtfjbdbfeolfcfaaQBun4
import Derived.Test.YtfjbdbfeolfcfaaQBun7
import Derived.Test.YtfjbdbfeolfcfaaQIterG
import Derived.BigRegionIn
import Derived.Test.YtfjbdbfeolfcfaaQImp4B
/-! CoreI -/
set_option linter.unusedVariables false
namespace Go.Proofs.Ytfjbdbfeolfcfaa
open Go.RowKit

theorem coreInv_go {n : Int} : ∀ (k L R p : Nat), L ≤ k → 2 ≤ p → CoreInv n (L : Int) R p → 0 < L → CoreInv n ((L / (p * p) ^ val L (p * p) : Nat) : Int) (R * p ^ val L (p * p)) (p + 1) ∧ 0 < L / (p * p) ^ val L (p * p) ∧ L / (p * p) ^ val L (p * p) ≤ L
  | 0, L, R, p, hk, _, _, h0 => by omega
  | k + 1, L, R, p, hk, hp, h, h0 => by
    have hq : 2 * 2 ≤ p * p := Nat.mul_le_mul hp hp
    by_cases hd : L % (p * p) = 0
    · have hv := val_step (n := L) (p := p * p) (by omega) h0 hd
      have hdv := Nat.dvd_of_mod_eq_zero hd
      have hlt : L / (p * p) < L := Nat.div_lt_self h0 (by omega)
      have hpos : 0 < L / (p * p) := Nat.div_pos (Nat.le_of_dvd h0 hdv) (by omega)
      have hi := h.div hp (by rw [← Int.natCast_mul]; exact Int.natCast_dvd_natCast.2 hdv)
      rw [← Int.natCast_mul, ← Int.ofNat_tdiv] at hi
      obtain ⟨g1, g2, g3⟩ := coreInv_go k (L / (p * p)) (R * p) p (by omega) hp hi hpos
      have e1 : L / (p * p) ^ val L (p * p) = L / (p * p) / (p * p) ^ val (L / (p * p)) (p * p) := by rw [hv, Nat.pow_succ', Nat.div_div_eq_div_mul]
      have e2 : R * p ^ val L (p * p) = R * p * p ^ val (L / (p * p)) (p * p) := by rw [hv, Nat.pow_succ', Nat.mul_assoc]
      rw [e1, e2]
      exact ⟨g1, g2, by omega⟩
    · rw [val_stop hd, Nat.pow_zero, Nat.pow_zero, Nat.div_one, Nat.mul_one]
      refine ⟨h.next (fun hdd => hd ?_), h0, Nat.le_refl _⟩
      rw [← Int.natCast_mul] at hdd
      exact Nat.mod_eq_zero_of_dvd (Int.natCast_dvd_natCast.1 hdd)
theorem coreGo_is {n : Int} : ∀ (f p L R : Nat), CoreInv n (L : Int) R p → 0 < L → L ≤ 5000 → 2 ≤ p → 72 ≤ p + f → IsCore ((coreGo f p L R).1 : Int) (coreGo f p L R).2 n
  | 0, p, L, R, h, h0, h5, hp, hf => by
    refine h.core ?_
    have := Nat.mul_le_mul (show 72 ≤ p by omega) (show 72 ≤ p by omega)
    rw [Int.natAbs_natCast]
    omega
  | f + 1, p, L, R, h, h0, h5, hp, hf => by
    unfold coreGo
    by_cases hle : p * p ≤ L
    · rw [if_pos hle]
      obtain ⟨g1, g2, g3⟩ := coreInv_go L L R p (Nat.le_refl _) hp h h0
      exact coreGo_is f (p + 1) _ _ g1 g2 (by omega) (by omega) (by omega)
    · rw [if_neg hle]
      exact h.core (by rw [Int.natAbs_natCast]; exact hle)
theorem rootN_is {N : Nat} (h1 : 1 ≤ N) (h2 : N ≤ 5000) : ∃ c : Nat, IsCore (c : Int) (rootN N) (N : Int) :=
  ⟨(coreGo 70 2 N 1).1, coreGo_is 70 2 N 1 ⟨by omega, Nat.le_refl _, by simp, fun d hd hlt => by omega⟩ (by omega) h2 (Nat.le_refl _) (by decide)⟩
theorem coreI_G {n : Int} (h : factB n = true) : coreI n = coreG n ∧ (rootN n.natAbs : Nat) = rootG n := by
  rcases factB_cases n with ⟨b1, b2, h0, _, _⟩ | ⟨_, hf⟩ | ⟨_, _, hf⟩
  · obtain ⟨c, hc⟩ := rootN_is (N := n.natAbs) (by omega) (by omega)
    have hr := hc.pos
    obtain ⟨r, hre⟩ : ∃ r, r = rootN n.natAbs := ⟨_, rfl⟩
    rw [← hre] at hc hr
    have he : n.natAbs = c * (r * r) := by have := hc.eq; exact_mod_cast this.symm
    have hrr : 0 < r * r := Nat.mul_pos hr hr
    have hdv : ((r * r : Nat) : Int) ∣ n := Int.ofNat_dvd_left.2 ⟨c, by rw [he, Nat.mul_comm]⟩
    have hI : coreI n = n.tdiv ((r * r : Nat) : Int) := by unfold coreI; rw [← hre, Int.natCast_mul]
    have habs : (coreI n).natAbs = c := by rw [hI, tdiv_natAbs, Int.natAbs_natCast, he, Nat.mul_div_cancel _ hrr]
    have := core_eq h0 (c := coreI n) (r := r) ⟨by rw [hI, ← Int.natCast_mul]; exact Int.tdiv_mul_cancel hdv, hr, by rw [habs]; have := hc.free; rwa [Int.natAbs_natCast] at this⟩
    exact ⟨this.1.symm, by rw [← hre]; exact this.2.symm⟩
  · rw [h] at hf; cases hf
  · rw [h] at hf; cases hf
theorem coreV_G {n : Int} (h : factB n = true) : coreV n = .tuple #[.int .i64 (coreG n), .int .i64 (rootG n : Nat), .bool true] := by
  rw [coreV_yes h, (coreI_G h).1, (coreI_G h).2]

end Go.Proofs.Ytfjbdbfeolfcfaa

/-! Core2 -/
set_option linter.unusedVariables false
namespace Go.Proofs.Ytfjbdbfeolfcfaa
open Go.RowKit Go.Shelf
attribute [local go_sem] Oper.semAt_some

/-- the root part by prime powers, from a number on -/
def rootFrom : Nat → List (Nat × Nat) → Nat
  | r, [] => r
  | r, x :: l => rootFrom (r * x.1 ^ (x.2 / 2)) l
theorem rootFrom_le : ∀ (l : List (Nat × Nat)) (r : Nat), (∀ x ∈ l, 1 ≤ x.1) → r ≤ rootFrom r l
  | [], r, _ => Nat.le_refl _
  | x :: l, r, h => by
    have h1 := Nat.le_mul_of_pos_right r (Nat.pow_pos (n := x.2 / 2) (show 0 < x.1 from h x (List.mem_cons_self ..)))
    exact Nat.le_trans h1 (rootFrom_le l _ fun y hy => h y (List.mem_cons_of_mem _ hy))
theorem mulW_eq {r p : Nat} (hp : 1 ≤ p) : ∀ k, r * p ^ k ≤ 1000000000 → mulW (r : Int) p k = ((r * p ^ k : Nat) : Int)
  | 0, _ => by show (r : Int) = _; rw [Nat.pow_zero, Nat.mul_one]
  | k + 1, h => by
    have e : r * p ^ (k + 1) = r * p ^ k * p := by rw [Nat.pow_succ, Nat.mul_assoc]
    have h1 : r * p ^ k ≤ r * p ^ (k + 1) := by rw [e]; exact Nat.le_mul_of_pos_right _ hp
    show wrap64 (mulW (r : Int) p k * (p : Int)) = _
    rw [mulW_eq hp k (by omega), ← Int.natCast_mul, ← e]
    obtain ⟨m, hm⟩ : ∃ m, m = r * p ^ (k + 1) := ⟨_, rfl⟩
    rw [← hm] at h ⊢
    unfold wrap64
    omega
theorem rootW_from : ∀ (l : List (Nat × Nat)) (r : Nat), (∀ x ∈ l, 1 ≤ x.1) → rootFrom r l ≤ 1000000000 → l.foldl (fun r x => mulW r x.1 (x.2 / 2)) (r : Int) = ((rootFrom r l : Nat) : Int)
  | [], r, _, _ => rfl
  | x :: l, r, h, hb => by
    have hl : ∀ y ∈ l, 1 ≤ y.1 := fun y hy => h y (List.mem_cons_of_mem _ hy)
    have h2 := rootFrom_le l (r * x.1 ^ (x.2 / 2)) hl
    rw [List.foldl_cons, mulW_eq (h x (List.mem_cons_self ..)) _ (Nat.le_trans h2 hb)]
    exact rootW_from l _ hl hb
theorem ppGo_pos : ∀ (f p L : Nat), 1 ≤ p → ∀ x ∈ ppGo f p L, 1 ≤ x.1
  | 0, _, _, _, x, hx => by cases hx
  | f + 1, p, L, hp, x, hx => by
    unfold ppGo at hx
    split at hx
    · split at hx
      · rcases List.mem_cons.1 hx with rfl | hx
        · exact hp
        · exact ppGo_pos f (p + 1) _ (by omega) x hx
      · exact ppGo_pos f (p + 1) _ (by omega) x hx
    · split at hx
      · rcases List.mem_cons.1 hx with rfl | hx
        · show 1 ≤ L; omega
        · cases hx
      · cases hx

/-- a number that only 1 and itself divide -/
def OnlySelf (p : Nat) : Prop := ∀ d, d ∣ p → d = 1 ∨ d = p
theorem sqFree_mul {C p : Nat} (hp2 : 2 ≤ p) (hp : OnlySelf p) (hC : SqFree C) (hc : Nat.Coprime C p) : SqFree (C * p) := by
  intro d hd hdd
  rcases hp _ (Nat.gcd_dvd_right d p) with h1 | h1
  · exact hC d hd (Nat.Coprime.dvd_of_dvd_mul_right ((show Nat.Coprime d p from h1).mul_left h1) hdd)
  · have hpd : p ∣ d := by
      have h2 := Nat.gcd_dvd_left d p
      rwa [h1] at h2
    have h2 : p * p ∣ C * p := Nat.dvd_trans (Nat.mul_dvd_mul hpd hpd) hdd
    have h3 : p ∣ C := Nat.dvd_of_mul_dvd_mul_right (by omega) h2
    have h4 : p ∣ Nat.gcd C p := Nat.dvd_gcd h3 (Nat.dvd_refl _)
    rw [show Nat.gcd C p = 1 from hc] at h4
    have := Nat.le_of_dvd (by omega) h4
    omega
theorem val_left (p : Nat) (hp : 2 ≤ p) : ∀ (k n : Nat), n ≤ k → 0 < n → ¬ p ∣ n / p ^ val n p
  | 0, n, h, h0 => by omega
  | k + 1, n, h, h0 => by
    by_cases hd : n % p = 0
    · have h1 := Nat.div_pos (Nat.le_of_dvd h0 (Nat.dvd_of_mod_eq_zero hd)) (show 0 < p by omega)
      have h2 : n / p < n := Nat.div_lt_self h0 (by omega)
      rw [val_step hp h0 hd, Nat.pow_succ', ← Nat.div_div_eq_div_mul]
      exact val_left p hp k (n / p) (by omega) h1
    · rw [val_stop hd, Nat.pow_zero, Nat.div_one]
      exact fun h => hd (Nat.mod_eq_zero_of_dvd h)
/-- what the prime powers leave behind -/
structure PpInv (N L R C p : Nat) : Prop where
  eq : C * L * (R * R) = N
  free : SqFree C
  cop : Nat.Coprime C L
  less : ∀ d, 2 ≤ d → d < p → ¬ d ∣ L
  posL : 0 < L
  posR : 0 < R
theorem PpInv.only {N L R C p : Nat} (h : PpInv N L R C p) (hd : p ∣ L) : OnlySelf p := fun d hdp => by
  by_cases h0 : p = 0
  · subst h0
    have := Nat.eq_zero_of_zero_dvd hd
    have := h.posL
    omega
  · have h1 := Nat.le_of_dvd (by omega) hdp
    by_cases h2 : 2 ≤ d
    · by_cases h3 : d < p
      · exact absurd (Nat.dvd_trans hdp hd) (h.less d h2 h3)
      · right; omega
    · left
      rcases Nat.eq_zero_or_pos d with e | e
      · subst e
        have := Nat.eq_zero_of_zero_dvd hdp
        omega
      · omega
theorem PpInv.last {N L R C p : Nat} (h : PpInv N L R C p) (hp2 : 2 ≤ p) (hp : ¬ p * p ≤ L) : IsCore ((C * L : Nat) : Int) R (N : Int) := by
  refine ⟨by have := h.eq; exact_mod_cast this, h.posR, ?_⟩
  rw [Int.natAbs_natCast]
  by_cases hL : 2 ≤ L
  · refine sqFree_mul hL (fun d hd => ?_) h.free h.cop
    obtain ⟨e, he⟩ := hd
    have hd0 : d ≠ 0 := by rintro rfl; rw [Nat.zero_mul] at he; omega
    have he0 : e ≠ 0 := by rintro rfl; rw [Nat.mul_zero] at he; omega
    by_cases hd1 : d = 1
    · exact .inl hd1
    · by_cases he1 : e = 1
      · right; rw [he, he1, Nat.mul_one]
      · exfalso
        have h1 : ¬ d < p := fun hlt => h.less d (by omega) hlt ⟨e, he⟩
        have h2 : ¬ e < p := fun hlt => h.less e (by omega) hlt ⟨d, by rw [he, Nat.mul_comm]⟩
        have h3 := Nat.mul_le_mul (show p ≤ d by omega) (show p ≤ e by omega)
        omega
  · have : L = 1 := by have := h.posL; omega
    rw [this, Nat.mul_one]
    exact h.free
theorem PpInv.skip {N L R C p : Nat} (h : PpInv N L R C p) (hd : ¬ L % p = 0) : PpInv N L R C (p + 1) :=
  ⟨h.eq, h.free, h.cop, fun d h2 hlt hdd => by
    by_cases e : d = p
    · subst e; exact hd (Nat.mod_eq_zero_of_dvd hdd)
    · exact h.less d h2 (by omega) hdd, h.posL, h.posR⟩
theorem PpInv.step {N L R C p : Nat} (h : PpInv N L R C p) (hp2 : 2 ≤ p) (hd : L % p = 0) : PpInv N (L / p ^ val L p) (R * p ^ (val L p / 2)) (C * p ^ (val L p % 2)) (p + 1) := by
  have hdv := val_dvd p hp2 L L (Nat.le_refl _) h.posL
  have hnd := val_left p hp2 L L (Nat.le_refl _) h.posL
  have hpL := Nat.dvd_of_mod_eq_zero hd
  have hon := h.only hpL
  obtain ⟨K, hK⟩ : ∃ K, K = val L p := ⟨_, rfl⟩
  rw [← hK] at hdv hnd ⊢
  obtain ⟨M, hM⟩ : ∃ M, M = L / p ^ K := ⟨_, rfl⟩
  have hLM : L = p ^ K * M := by rw [hM]; exact (Nat.mul_div_cancel' hdv).symm
  rw [← hM] at hnd ⊢
  have hML : M ∣ L := ⟨p ^ K, by rw [hLM, Nat.mul_comm]⟩
  have hcp : Nat.Coprime C p := Nat.Coprime.coprime_dvd_right hpL h.cop
  have hcM : Nat.Coprime C M := Nat.Coprime.coprime_dvd_right hML h.cop
  have hpM : Nat.Coprime p M := by
    rcases hon _ (Nat.gcd_dvd_left p M) with e | e
    · exact e
    · exact absurd (by have := Nat.gcd_dvd_right p M; rwa [e] at this) hnd
  refine ⟨?_, ?_, ?_, ?_, ?_, Nat.mul_pos h.posR (Nat.pow_pos (by omega))⟩
  · rw [← h.eq, hLM]
    have e : p ^ K = p ^ (K % 2) * (p ^ (K / 2) * p ^ (K / 2)) := by
      rw [← Nat.pow_add, ← Nat.pow_add]
      congr 1
      omega
    rw [e]
    simp only [Nat.mul_assoc, Nat.mul_comm, Nat.mul_left_comm]
  · rcases Nat.mod_two_eq_zero_or_one K with e | e
    · rw [e, Nat.pow_zero, Nat.mul_one]; exact h.free
    · rw [e, Nat.pow_one]; exact sqFree_mul hp2 hon h.free hcp
  · exact hcM.mul_left (hpM.pow_left _)
  · intro d h2 hlt hdd
    by_cases e : d = p
    · subst e; exact hnd hdd
    · exact h.less d h2 (by omega) (Nat.dvd_trans hdd hML)
  · rcases Nat.eq_zero_or_pos M with e | e
    · rw [e, Nat.mul_zero] at hLM
      have := h.posL
      omega
    · exact e
theorem ppGo_root {N : Nat} : ∀ (f p L R C n : Nat), PpInv N L R C p → 2 ≤ p → L ≤ n → n + 3 ≤ p + f → ∃ c : Nat, IsCore (c : Int) (rootFrom R (ppGo f p L)) (N : Int)
  | 0, p, L, R, C, n, h, hp, hL, hf => ⟨_, h.last hp (by
      have := Nat.le_mul_of_pos_left p (show 0 < p by omega)
      omega)⟩
  | f + 1, p, L, R, C, n, h, hp, hL, hf => by
    unfold ppGo
    by_cases hle : p * p ≤ L
    · rw [if_pos hle]
      by_cases hd : L % p = 0
      · rw [if_pos hd]
        exact ppGo_root f (p + 1) _ _ _ n (h.step hp hd) (by omega) (Nat.le_trans (Nat.div_le_self _ _) hL) (by omega)
      · rw [if_neg hd]
        exact ppGo_root f (p + 1) _ _ _ n (h.skip hd) (by omega) hL (by omega)
    · rw [if_neg hle]
      split
      · refine ⟨C * L, ?_⟩
        show IsCore _ (R * L ^ (1 / 2)) _
        rw [show 1 / 2 = 0 from rfl, Nat.pow_zero, Nat.mul_one]
        exact h.last hp hle
      · exact ⟨_, h.last hp hle⟩
theorem rootG_abs (n : Int) : rootG ((n.natAbs : Nat) : Int) = rootG n := by unfold rootG; rw [Int.natAbs_natCast]
theorem rootWG_eq {N : Nat} (h1 : 1 ≤ N) (h2 : N ≤ 25000000) : rootW (ppowG N) = ((rootG (N : Int) : Nat) : Int) ∧ rootG (N : Int) ≤ 5000 ∧ 1 ≤ rootG (N : Int) := by
  obtain ⟨c, hc⟩ := ppGo_root (N := N) (N + 1) 2 N 1 1 N ⟨by simp, fun d hd hdd => by
      have h3 := Nat.le_of_dvd (by omega) hdd
      have := Nat.mul_le_mul hd hd
      omega, Nat.gcd_one_left N, fun d hd hlt => by omega, h1, by omega⟩ (Nat.le_refl _) (Nat.le_refl _) (by omega)
  have hr := (core_eq (show (N : Int) ≠ 0 by omega) hc).2
  obtain ⟨r, hre⟩ : ∃ r, r = rootFrom 1 (ppGo (N + 1) 2 N) := ⟨_, rfl⟩
  rw [← hre] at hc hr
  have he : N = c * (r * r) := by have := hc.eq; exact_mod_cast this.symm
  have hc0 : 0 < c := by
    rcases Nat.eq_zero_or_pos c with e | e
    · rw [e, Nat.zero_mul] at he; omega
    · exact e
  have hrr : r * r ≤ N := by rw [he]; exact Nat.le_mul_of_pos_left _ hc0
  have h5 := sq_le5 hrr h2
  have hp := hc.pos
  rw [hr]
  refine ⟨?_, h5, hp⟩
  unfold rootW ppowG
  have := rootW_from (ppGo (N + 1) 2 N) 1 (ppGo_pos _ _ _ (by omega)) (by rw [← hre]; omega)
  rw [← hre] at this
  exact this

def rootPG (l : List PPG) : Int := rootW (l.map (·.1))
theorem rootPG_snoc (l : List PPG) (x : PPG) : rootPG (l ++ [x]) = mulW (rootPG l) x.1.1 (x.1.2 / 2) := by simp [rootPG, rootW]
theorem tdiv_bd {n m : Int} (h1 : -25000000 ≤ n) (h2 : n ≤ 25000000) : -25000000 ≤ n.tdiv m ∧ n.tdiv m ≤ 25000000 := by
  have h := Nat.div_le_self n.natAbs m.natAbs
  rw [← tdiv_natAbs] at h
  omega


end Go.Proofs.Ytfjbdbfeolfcfaa

/-! Imp4C -/
set_option linter.unusedVariables false
namespace Go.Proofs.Ytfjbdbfeolfcfaa
open Go.RowKit




end Go.Proofs.Ytfjbdbfeolfcfaa
