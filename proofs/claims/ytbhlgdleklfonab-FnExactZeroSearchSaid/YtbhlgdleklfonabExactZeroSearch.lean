/-
  Proves: for every list the program's ZeroSearch answers as the model's, in memory of its own.
  Conditions: none beyond the given statement's own.
-/
import Derived.Test.YtbhlgdleklfonabBun5
import Derived.Test.YtbhlgdleklfonabBun9
import Derived.Test.YtbhlgdleklfonabIterG
import Derived.BigRegionIn
import Derived.Test.YtbhlgdleklfonabImp4B
import Derived.Test.YtbhlgdleklfonabBun27
import Derived.Test.YtbhlgdleklfonabZm1
import Derived.Test.YtbhlgdleklfonabZm4
import Derived.Test.YtbhlgdleklfonabRows
import Derived.Test.YtbhlgdleklfonabBun14
import Derived.Test.YtbhlgdleklfonabBun61
import Derived.Test.YtbhlgdleklfonabBun52
import Derived.Test.YtbhlgdleklfonabRowWord
import Derived.Test.YtbhlgdleklfonabZlen
import Derived.ProofKit
import Derived.OpenShut
import Derived.ShutString
import Derived.ChangeOld
set_option linter.unusedVariables false
namespace Go.Proofs.Ytbhlgdleklfonab
open Go.RowKit

theorem coreInv_go {n : Int} : ∀ (k L R p : Nat), L ≤ k → 2 ≤ p → CoreInv n (L : Int) R p → 0 < L → CoreInv n ((L / (p * p) ^ val L (p * p) : Nat) : Int) (R * p ^ val L (p * p)) (p + 1) ∧ 0 < L / (p * p) ^ val L (p * p) ∧ L / (p * p) ^ val L (p * p) ≤ L
  | 0, L, R, p, hk, _, _, h0 => by omega
  | k + 1, L, R, p, hk, hp, h, h0 => by
    have hq : 2 * 2 ≤ p * p := Nat.mul_le_mul hp hp
    by_cases hd : L % (p * p) = 0
    · have hv := val_step (n := L) (p := p * p) (by omega) h0 hd
      have hdv := Nat.dvd_of_mod_eq_zero hd
      have hlt : L / (p * p) < L := Nat.div_lt_self h0 (by omega)
      have hpos : 0 < L / (p * p) := Nat.div_pos (Nat.le_of_dvd h0 hdv) (by omega)
      have hi := h.div hp (by rw [← Int.natCast_mul]; exact Int.natCast_dvd_natCast.2 hdv)
      rw [← Int.natCast_mul, ← Int.ofNat_tdiv] at hi
      obtain ⟨g1, g2, g3⟩ := coreInv_go k (L / (p * p)) (R * p) p (by omega) hp hi hpos
      have e1 : L / (p * p) ^ val L (p * p) = L / (p * p) / (p * p) ^ val (L / (p * p)) (p * p) := by rw [hv, Nat.pow_succ', Nat.div_div_eq_div_mul]
      have e2 : R * p ^ val L (p * p) = R * p * p ^ val (L / (p * p)) (p * p) := by rw [hv, Nat.pow_succ', Nat.mul_assoc]
      rw [e1, e2]
      exact ⟨g1, g2, by omega⟩
    · rw [val_stop hd, Nat.pow_zero, Nat.pow_zero, Nat.div_one, Nat.mul_one]
      refine ⟨h.next (fun hdd => hd ?_), h0, Nat.le_refl _⟩
      rw [← Int.natCast_mul] at hdd
      exact Nat.mod_eq_zero_of_dvd (Int.natCast_dvd_natCast.1 hdd)
theorem coreGo_is {n : Int} : ∀ (f p L R : Nat), CoreInv n (L : Int) R p → 0 < L → L ≤ 5000 → 2 ≤ p → 72 ≤ p + f → IsCore ((coreGo f p L R).1 : Int) (coreGo f p L R).2 n
  | 0, p, L, R, h, h0, h5, hp, hf => by
    refine h.core ?_
    have := Nat.mul_le_mul (show 72 ≤ p by omega) (show 72 ≤ p by omega)
    rw [Int.natAbs_natCast]
    omega
  | f + 1, p, L, R, h, h0, h5, hp, hf => by
    unfold coreGo
    by_cases hle : p * p ≤ L
    · rw [if_pos hle]
      obtain ⟨g1, g2, g3⟩ := coreInv_go L L R p (Nat.le_refl _) hp h h0
      exact coreGo_is f (p + 1) _ _ g1 g2 (by omega) (by omega) (by omega)
    · rw [if_neg hle]
      exact h.core (by rw [Int.natAbs_natCast]; exact hle)
theorem rootN_is {N : Nat} (h1 : 1 ≤ N) (h2 : N ≤ 5000) : ∃ c : Nat, IsCore (c : Int) (rootN N) (N : Int) :=
  ⟨(coreGo 70 2 N 1).1, coreGo_is 70 2 N 1 ⟨by omega, Nat.le_refl _, by simp, fun d hd hlt => by omega⟩ (by omega) h2 (Nat.le_refl _) (by decide)⟩
theorem coreI_G {n : Int} (h : factB n = true) : coreI n = coreG n ∧ (rootN n.natAbs : Nat) = rootG n := by
  rcases factB_cases n with ⟨b1, b2, h0, _, _⟩ | ⟨_, hf⟩ | ⟨_, _, hf⟩
  · obtain ⟨c, hc⟩ := rootN_is (N := n.natAbs) (by omega) (by omega)
    have hr := hc.pos
    obtain ⟨r, hre⟩ : ∃ r, r = rootN n.natAbs := ⟨_, rfl⟩
    rw [← hre] at hc hr
    have he : n.natAbs = c * (r * r) := by have := hc.eq; exact_mod_cast this.symm
    have hrr : 0 < r * r := Nat.mul_pos hr hr
    have hdv : ((r * r : Nat) : Int) ∣ n := Int.ofNat_dvd_left.2 ⟨c, by rw [he, Nat.mul_comm]⟩
    have hI : coreI n = n.tdiv ((r * r : Nat) : Int) := by unfold coreI; rw [← hre, Int.natCast_mul]
    have habs : (coreI n).natAbs = c := by rw [hI, tdiv_natAbs, Int.natAbs_natCast, he, Nat.mul_div_cancel _ hrr]
    have := core_eq h0 (c := coreI n) (r := r) ⟨by rw [hI, ← Int.natCast_mul]; exact Int.tdiv_mul_cancel hdv, hr, by rw [habs]; have := hc.free; rwa [Int.natAbs_natCast] at this⟩
    exact ⟨this.1.symm, by rw [← hre]; exact this.2.symm⟩
  · rw [h] at hf; cases hf
  · rw [h] at hf; cases hf
theorem coreV_G {n : Int} (h : factB n = true) : coreV n = .tuple #[.int .i64 (coreG n), .int .i64 (rootG n : Nat), .bool true] := by
  rw [coreV_yes h, (coreI_G h).1, (coreI_G h).2]

end Go.Proofs.Ytbhlgdleklfonab

set_option linter.unusedVariables false
namespace Go.Proofs.Ytbhlgdleklfonab
open Go.RowKit Go.Shelf
attribute [local go_sem] Oper.semAt_some

/-- the root part by prime powers, from a number on -/
def rootFrom : Nat → List (Nat × Nat) → Nat
  | r, [] => r
  | r, x :: l => rootFrom (r * x.1 ^ (x.2 / 2)) l
theorem rootFrom_le : ∀ (l : List (Nat × Nat)) (r : Nat), (∀ x ∈ l, 1 ≤ x.1) → r ≤ rootFrom r l
  | [], r, _ => Nat.le_refl _
  | x :: l, r, h => by
    have h1 := Nat.le_mul_of_pos_right r (Nat.pow_pos (n := x.2 / 2) (show 0 < x.1 from h x (List.mem_cons_self ..)))
    exact Nat.le_trans h1 (rootFrom_le l _ fun y hy => h y (List.mem_cons_of_mem _ hy))
theorem mulW_eq {r p : Nat} (hp : 1 ≤ p) : ∀ k, r * p ^ k ≤ 1000000000 → mulW (r : Int) p k = ((r * p ^ k : Nat) : Int)
  | 0, _ => by show (r : Int) = _; rw [Nat.pow_zero, Nat.mul_one]
  | k + 1, h => by
    have e : r * p ^ (k + 1) = r * p ^ k * p := by rw [Nat.pow_succ, Nat.mul_assoc]
    have h1 : r * p ^ k ≤ r * p ^ (k + 1) := by rw [e]; exact Nat.le_mul_of_pos_right _ hp
    show wrap64 (mulW (r : Int) p k * (p : Int)) = _
    rw [mulW_eq hp k (by omega), ← Int.natCast_mul, ← e]
    obtain ⟨m, hm⟩ : ∃ m, m = r * p ^ (k + 1) := ⟨_, rfl⟩
    rw [← hm] at h ⊢
    unfold wrap64
    omega
theorem rootW_from : ∀ (l : List (Nat × Nat)) (r : Nat), (∀ x ∈ l, 1 ≤ x.1) → rootFrom r l ≤ 1000000000 → l.foldl (fun r x => mulW r x.1 (x.2 / 2)) (r : Int) = ((rootFrom r l : Nat) : Int)
  | [], r, _, _ => rfl
  | x :: l, r, h, hb => by
    have hl : ∀ y ∈ l, 1 ≤ y.1 := fun y hy => h y (List.mem_cons_of_mem _ hy)
    have h2 := rootFrom_le l (r * x.1 ^ (x.2 / 2)) hl
    rw [List.foldl_cons, mulW_eq (h x (List.mem_cons_self ..)) _ (Nat.le_trans h2 hb)]
    exact rootW_from l _ hl hb
theorem ppGo_pos : ∀ (f p L : Nat), 1 ≤ p → ∀ x ∈ ppGo f p L, 1 ≤ x.1
  | 0, _, _, _, x, hx => by cases hx
  | f + 1, p, L, hp, x, hx => by
    unfold ppGo at hx
    split at hx
    · split at hx
      · rcases List.mem_cons.1 hx with rfl | hx
        · exact hp
        · exact ppGo_pos f (p + 1) _ (by omega) x hx
      · exact ppGo_pos f (p + 1) _ (by omega) x hx
    · split at hx
      · rcases List.mem_cons.1 hx with rfl | hx
        · show 1 ≤ L; omega
        · cases hx
      · cases hx

/-- a number that only 1 and itself divide -/
def OnlySelf (p : Nat) : Prop := ∀ d, d ∣ p → d = 1 ∨ d = p
theorem sqFree_mul {C p : Nat} (hp2 : 2 ≤ p) (hp : OnlySelf p) (hC : SqFree C) (hc : Nat.Coprime C p) : SqFree (C * p) := by
  intro d hd hdd
  rcases hp _ (Nat.gcd_dvd_right d p) with h1 | h1
  · exact hC d hd (Nat.Coprime.dvd_of_dvd_mul_right ((show Nat.Coprime d p from h1).mul_left h1) hdd)
  · have hpd : p ∣ d := by
      have h2 := Nat.gcd_dvd_left d p
      rwa [h1] at h2
    have h2 : p * p ∣ C * p := Nat.dvd_trans (Nat.mul_dvd_mul hpd hpd) hdd
    have h3 : p ∣ C := Nat.dvd_of_mul_dvd_mul_right (by omega) h2
    have h4 : p ∣ Nat.gcd C p := Nat.dvd_gcd h3 (Nat.dvd_refl _)
    rw [show Nat.gcd C p = 1 from hc] at h4
    have := Nat.le_of_dvd (by omega) h4
    omega
theorem val_left (p : Nat) (hp : 2 ≤ p) : ∀ (k n : Nat), n ≤ k → 0 < n → ¬ p ∣ n / p ^ val n p
  | 0, n, h, h0 => by omega
  | k + 1, n, h, h0 => by
    by_cases hd : n % p = 0
    · have h1 := Nat.div_pos (Nat.le_of_dvd h0 (Nat.dvd_of_mod_eq_zero hd)) (show 0 < p by omega)
      have h2 : n / p < n := Nat.div_lt_self h0 (by omega)
      rw [val_step hp h0 hd, Nat.pow_succ', ← Nat.div_div_eq_div_mul]
      exact val_left p hp k (n / p) (by omega) h1
    · rw [val_stop hd, Nat.pow_zero, Nat.div_one]
      exact fun h => hd (Nat.mod_eq_zero_of_dvd h)
/-- what the prime powers leave behind -/
structure PpInv (N L R C p : Nat) : Prop where
  eq : C * L * (R * R) = N
  free : SqFree C
  cop : Nat.Coprime C L
  less : ∀ d, 2 ≤ d → d < p → ¬ d ∣ L
  posL : 0 < L
  posR : 0 < R
theorem PpInv.only {N L R C p : Nat} (h : PpInv N L R C p) (hd : p ∣ L) : OnlySelf p := fun d hdp => by
  by_cases h0 : p = 0
  · subst h0
    have := Nat.eq_zero_of_zero_dvd hd
    have := h.posL
    omega
  · have h1 := Nat.le_of_dvd (by omega) hdp
    by_cases h2 : 2 ≤ d
    · by_cases h3 : d < p
      · exact absurd (Nat.dvd_trans hdp hd) (h.less d h2 h3)
      · right; omega
    · left
      rcases Nat.eq_zero_or_pos d with e | e
      · subst e
        have := Nat.eq_zero_of_zero_dvd hdp
        omega
      · omega
theorem PpInv.last {N L R C p : Nat} (h : PpInv N L R C p) (hp2 : 2 ≤ p) (hp : ¬ p * p ≤ L) : IsCore ((C * L : Nat) : Int) R (N : Int) := by
  refine ⟨by have := h.eq; exact_mod_cast this, h.posR, ?_⟩
  rw [Int.natAbs_natCast]
  by_cases hL : 2 ≤ L
  · refine sqFree_mul hL (fun d hd => ?_) h.free h.cop
    obtain ⟨e, he⟩ := hd
    have hd0 : d ≠ 0 := by rintro rfl; rw [Nat.zero_mul] at he; omega
    have he0 : e ≠ 0 := by rintro rfl; rw [Nat.mul_zero] at he; omega
    by_cases hd1 : d = 1
    · exact .inl hd1
    · by_cases he1 : e = 1
      · right; rw [he, he1, Nat.mul_one]
      · exfalso
        have h1 : ¬ d < p := fun hlt => h.less d (by omega) hlt ⟨e, he⟩
        have h2 : ¬ e < p := fun hlt => h.less e (by omega) hlt ⟨d, by rw [he, Nat.mul_comm]⟩
        have h3 := Nat.mul_le_mul (show p ≤ d by omega) (show p ≤ e by omega)
        omega
  · have : L = 1 := by have := h.posL; omega
    rw [this, Nat.mul_one]
    exact h.free
theorem PpInv.skip {N L R C p : Nat} (h : PpInv N L R C p) (hd : ¬ L % p = 0) : PpInv N L R C (p + 1) :=
  ⟨h.eq, h.free, h.cop, fun d h2 hlt hdd => by
    by_cases e : d = p
    · subst e; exact hd (Nat.mod_eq_zero_of_dvd hdd)
    · exact h.less d h2 (by omega) hdd, h.posL, h.posR⟩
theorem PpInv.step {N L R C p : Nat} (h : PpInv N L R C p) (hp2 : 2 ≤ p) (hd : L % p = 0) : PpInv N (L / p ^ val L p) (R * p ^ (val L p / 2)) (C * p ^ (val L p % 2)) (p + 1) := by
  have hdv := val_dvd p hp2 L L (Nat.le_refl _) h.posL
  have hnd := val_left p hp2 L L (Nat.le_refl _) h.posL
  have hpL := Nat.dvd_of_mod_eq_zero hd
  have hon := h.only hpL
  obtain ⟨K, hK⟩ : ∃ K, K = val L p := ⟨_, rfl⟩
  rw [← hK] at hdv hnd ⊢
  obtain ⟨M, hM⟩ : ∃ M, M = L / p ^ K := ⟨_, rfl⟩
  have hLM : L = p ^ K * M := by rw [hM]; exact (Nat.mul_div_cancel' hdv).symm
  rw [← hM] at hnd ⊢
  have hML : M ∣ L := ⟨p ^ K, by rw [hLM, Nat.mul_comm]⟩
  have hcp : Nat.Coprime C p := Nat.Coprime.coprime_dvd_right hpL h.cop
  have hcM : Nat.Coprime C M := Nat.Coprime.coprime_dvd_right hML h.cop
  have hpM : Nat.Coprime p M := by
    rcases hon _ (Nat.gcd_dvd_left p M) with e | e
    · exact e
    · exact absurd (by have := Nat.gcd_dvd_right p M; rwa [e] at this) hnd
  refine ⟨?_, ?_, ?_, ?_, ?_, Nat.mul_pos h.posR (Nat.pow_pos (by omega))⟩
  · rw [← h.eq, hLM]
    have e : p ^ K = p ^ (K % 2) * (p ^ (K / 2) * p ^ (K / 2)) := by
      rw [← Nat.pow_add, ← Nat.pow_add]
      congr 1
      omega
    rw [e]
    simp only [Nat.mul_assoc, Nat.mul_comm, Nat.mul_left_comm]
  · rcases Nat.mod_two_eq_zero_or_one K with e | e
    · rw [e, Nat.pow_zero, Nat.mul_one]; exact h.free
    · rw [e, Nat.pow_one]; exact sqFree_mul hp2 hon h.free hcp
  · exact hcM.mul_left (hpM.pow_left _)
  · intro d h2 hlt hdd
    by_cases e : d = p
    · subst e; exact hnd hdd
    · exact h.less d h2 (by omega) (Nat.dvd_trans hdd hML)
  · rcases Nat.eq_zero_or_pos M with e | e
    · rw [e, Nat.mul_zero] at hLM
      have := h.posL
      omega
    · exact e
theorem ppGo_root {N : Nat} : ∀ (f p L R C n : Nat), PpInv N L R C p → 2 ≤ p → L ≤ n → n + 3 ≤ p + f → ∃ c : Nat, IsCore (c : Int) (rootFrom R (ppGo f p L)) (N : Int)
  | 0, p, L, R, C, n, h, hp, hL, hf => ⟨_, h.last hp (by
      have := Nat.le_mul_of_pos_left p (show 0 < p by omega)
      omega)⟩
  | f + 1, p, L, R, C, n, h, hp, hL, hf => by
    unfold ppGo
    by_cases hle : p * p ≤ L
    · rw [if_pos hle]
      by_cases hd : L % p = 0
      · rw [if_pos hd]
        exact ppGo_root f (p + 1) _ _ _ n (h.step hp hd) (by omega) (Nat.le_trans (Nat.div_le_self _ _) hL) (by omega)
      · rw [if_neg hd]
        exact ppGo_root f (p + 1) _ _ _ n (h.skip hd) (by omega) hL (by omega)
    · rw [if_neg hle]
      split
      · refine ⟨C * L, ?_⟩
        show IsCore _ (R * L ^ (1 / 2)) _
        rw [show 1 / 2 = 0 from rfl, Nat.pow_zero, Nat.mul_one]
        exact h.last hp hle
      · exact ⟨_, h.last hp hle⟩
theorem rootG_abs (n : Int) : rootG ((n.natAbs : Nat) : Int) = rootG n := by unfold rootG; rw [Int.natAbs_natCast]
theorem rootWG_eq {N : Nat} (h1 : 1 ≤ N) (h2 : N ≤ 25000000) : rootW (ppowG N) = ((rootG (N : Int) : Nat) : Int) ∧ rootG (N : Int) ≤ 5000 ∧ 1 ≤ rootG (N : Int) := by
  obtain ⟨c, hc⟩ := ppGo_root (N := N) (N + 1) 2 N 1 1 N ⟨by simp, fun d hd hdd => by
      have h3 := Nat.le_of_dvd (by omega) hdd
      have := Nat.mul_le_mul hd hd
      omega, Nat.gcd_one_left N, fun d hd hlt => by omega, h1, by omega⟩ (Nat.le_refl _) (Nat.le_refl _) (by omega)
  have hr := (core_eq (show (N : Int) ≠ 0 by omega) hc).2
  obtain ⟨r, hre⟩ : ∃ r, r = rootFrom 1 (ppGo (N + 1) 2 N) := ⟨_, rfl⟩
  rw [← hre] at hc hr
  have he : N = c * (r * r) := by have := hc.eq; exact_mod_cast this.symm
  have hc0 : 0 < c := by
    rcases Nat.eq_zero_or_pos c with e | e
    · rw [e, Nat.zero_mul] at he; omega
    · exact e
  have hrr : r * r ≤ N := by rw [he]; exact Nat.le_mul_of_pos_left _ hc0
  have h5 := sq_le5 hrr h2
  have hp := hc.pos
  rw [hr]
  refine ⟨?_, h5, hp⟩
  unfold rootW ppowG
  have := rootW_from (ppGo (N + 1) 2 N) 1 (ppGo_pos _ _ _ (by omega)) (by rw [← hre]; omega)
  rw [← hre] at this
  exact this

def rootPG (l : List PPG) : Int := rootW (l.map (·.1))
theorem rootPG_snoc (l : List PPG) (x : PPG) : rootPG (l ++ [x]) = mulW (rootPG l) x.1.1 (x.1.2 / 2) := by simp [rootPG, rootW]
theorem tdiv_bd {n m : Int} (h1 : -25000000 ≤ n) (h2 : n ≤ 25000000) : -25000000 ≤ n.tdiv m ∧ n.tdiv m ≤ 25000000 := by
  have h := Nat.div_le_self n.natAbs m.natAbs
  rw [← tdiv_natAbs] at h
  omega

set_option maxRecDepth 100000 in
set_option maxHeartbeats 2000000 in
theorem numCore_any (n : Int) (h0 : n ≠ 0) (a1 : -25000000 ≤ n) (a2 : n ≤ 25000000) (w : World) :
    Calls Try.prog 74 #[.int .i64 n] w fun e w' => e = .returned (.tuple #[.int .i64 (coreG n), .int .i64 (rootG n : Nat)]) ∧ Below w.heap.size w w' := by
  have HR := hid (rootWG_eq (N := n.natAbs) (by omega) (by omega))
  have HA := hid (rootG_abs n)
  have hB0 : Below w.heap.size w ((w.alloc (.cells #[.int .i64 1] 3)).alloc (.cells #[.int .i64 n] 48)) := ((Below.refl _ _).alloc (Nat.le_refl _) _).alloc (by simp) _
  have bO := (Boxed.new w 3 (.int .i64 1)).alloc (.cells #[.int .i64 n] 48)
  have bN := Boxed.new (w.alloc (.cells #[.int .i64 1] 3)) 48 (.int .i64 n)
  simp only [World.size_alloc] at bN
  have H0 := hid h0
  clear h0
  refine (callsIn_wide (n := 5)).1 ?_
  refine callsIn_of_wp_marks Try.func74 rfl trivial ?_ rfl
  simp only [Try.ntmps74, List.size_toArray, List.length_cons, List.length_nil, Nat.reduceAdd, Nat.reduceSub, Array.replicate_succ, Array.replicate_zero, List.push_toArray, List.append_toArray, List.nil_append, List.cons_append]
  gi_wp2_with (refine ⟨trivial, ?_⟩; gi_at_call 85; refine (callsIn_wide.2 (pp_make _ _)).mono ?_; rintro e w' ⟨rfl, rfl⟩)
  refine wpIn_rangeFunc_ownF rfl (by omega) (gf := 87) (lb := #[.pointer (some ⟨w.heap.size + 1, 0, none⟩)]) rfl trivial (enters_of Try.func87 (by kernel_rfl) rfl)
    (ppG_stops _ (w.heap.size + 1) n H0.out (by omega) (by omega) _ (by simp) bN.cell) walksK_t walksK_b (Below.refl _ _) (fun _ => rfl)
    (fun pre W => Boxed W w.heap.size 3 (.int .i64 (rootPG pre)) ∧ Below w.heap.size w W)
    (fun _ _ _ => False)
    (OwnFrom.and (Own.from (boxed_own w.heap.size 3 (fun pre => .int .i64 (rootPG pre))) _) (ownFrom_below (Nat.le_refl _) (by simp; omega)))
    (fun _ _ _ _ _ hs _ _ => hs)
    ⟨bO, hB0⟩ ?a1 ?assign ?body ?done ?stop
  case assign =>
    intro l x W K hK
    gi_wp2
    exact hK
  case body =>
    rintro l pre x W ⟨hv, hB⟩ hlt
    obtain ⟨⟨p, k⟩, hp, hk⟩ := x
    dsimp only at hp hk
    obtain ⟨r, hr⟩ : ∃ r, r = rootPG pre := ⟨_, rfl⟩
    rw [← hr] at hv
    have HRP := hid hr
    have HV := hid hv
    have hk1 : 0 ≤ (k : Int) := by omega
    have hk2 : (k : Int) ≤ 25000000 := by omega
    obtain ⟨wo, hwo⟩ : ∃ wo : World, wo = W := ⟨_, rfl⟩
    have HW := hid hwo
    clear hr hv hwo
    gi_wp2
    gi_loopw [13] (fun si wr => ∃ j : Nat, si = .int .i64 j ∧ j ≤ k / 2 ∧ Boxed wr w.heap.size 3 (.int .i64 (mulW r p j)) ∧ Hid (KeepsOthers W wr ∧ Below w.heap.size W wr)) (fun si _ => k / 2 - (intOf si).toNat)
    case atStart => exact ⟨0, rfl, by omega, HV.out, hid ⟨KeepsOthers.refl _, Below.refl _ _⟩⟩
    case round =>
      obtain ⟨j, rfl, hj, hbx, HK⟩ := hrel
      have hc := hbx.cell
      have hf := hbx.frozen
      have HB := hid hbx
      clear hbx
      by_cases hlt2 : j < k / 2
      · gi_wp2
        go_roundw
        case rel => exact ⟨j + 1, by go_num, by omega, HB.out.set _, hid ⟨HK.out.1.trans (KeepsOthers.setCell _ _ _), HK.out.2.setCell (p := ⟨w.heap.size, 0, none⟩) (Nat.le_refl _) _⟩⟩
        case measure => simp only [intOf]; omega
      · obtain rfl : j = k / 2 := by omega
        gi_wp2
        refine ⟨HK.out.1, HK.out.1.walks, ?_, hB.trans HK.out.2⟩
        rw [rootPG_snoc, ← HRP.out]
        exact HB.out
  case done =>
    rintro D ys W hD hS ⟨hv, hB⟩ hK
    have hR : rootPG ys = ((rootG n : Nat) : Int) := by unfold rootPG; rw [hS, HR.out.1, HA.out]
    rw [hR] at hv
    obtain ⟨R, hRR⟩ : ∃ R, R = rootG n := ⟨_, rfl⟩
    have hR1 : 1 ≤ R := by rw [hRR, ← HA.out]; exact HR.out.2.2
    have hR2 : R ≤ 5000 := by rw [hRR, ← HA.out]; exact HR.out.2.1
    rw [← hRR] at hv
    have HRR := hid hRR
    have hc := hv.cell
    have hmm := mul_bd hR2 hR2
    have hm1 : 1 ≤ (R : Int) * R := by
      have := Nat.mul_le_mul hR1 hR1
      exact_mod_cast this
    have hne : (R : Int) * R ≠ 0 := by omega
    have hT : (((R : Int) * R) == 0) = false := by rw [beq_eq_false_iff_ne]; exact hne
    clear hR hRR hne
    have htd := tdiv_bd (n := n) (m := (R : Int) * R) a1 a2
    have ht1 := htd.1
    have ht2 := htd.2
    clear htd
    have HX : Hid (coreG n = n.tdiv ((R : Int) * R)) := by
      show _ = _
      unfold coreG
      rw [HRR.out]
    gi_wp2
    gi_region
    all_goals gi_wp2
    have hK' : W.drew.heap[D]? = some (.deferred (some [])) := hK
    refine ⟨by simp, .inl ⟨_, _, rfl, run_takeDeferred hK', ?_⟩⟩
    refine ⟨.tuple #[.int .i64 (n.tdiv ((R : Int) * R)), .int .i64 R], by simp [results, Try.f74, go_sem], by rw [HX.out, ← HRR.out], ?_⟩
    exact hB.drew.trans (belowK_b (w := w) (Nat.le_refl _) W.drew D _ _ (by simp at hD; omega) hK' rfl rfl)
  case stop =>
    rintro D c pre W _ _ h _
    exact h.elim


end Go.Proofs.Ytbhlgdleklfonab

set_option linter.unusedVariables false
namespace Go.Proofs.Ytbhlgdleklfonab
open Go.RowKit




end Go.Proofs.Ytbhlgdleklfonab

set_option linter.unusedVariables false
namespace Go.Proofs.Ytbhlgdleklfonab
open Go.RowKit







end Go.Proofs.Ytbhlgdleklfonab

set_option linter.unusedVariables false
namespace Go.Proofs.Ytbhlgdleklfonab
open Go.RowKit

theorem below_dr {n : Nat} (w : World) (k : Nat) : Below n w (w.drewN k) := ⟨rfl, rfl, rfl, Nat.le_refl _, fun _ _ => rfl⟩
/-- the first that is not 0 -/
def firstL (vs : List Int) : Int := vs.foldl (fun f v => if f = 0 then v else f) 0
theorem first_snoc (vs : List Int) (v : Int) : firstL (vs ++ [v]) = if firstL vs = 0 then v else firstL vs := by unfold firstL; rw [List.foldl_append]; rfl
theorem first_go : ∀ (vs : List Int) (f : Int), f ≠ 0 → vs.foldl (fun f v => if f = 0 then v else f) f = f
  | [], _, _ => rfl
  | v :: vs, f, h => by rw [List.foldl_cons, if_neg h]; exact first_go vs f h
theorem first_sign : ∀ vs : List Int, signL vs = if firstL vs < 0 then -1 else 1
  | [] => rfl
  | v :: vs => by
    unfold signL
    by_cases h : v = 0
    · rw [if_pos h, first_sign vs]
      have : firstL (v :: vs) = firstL vs := by unfold firstL; rw [List.foldl_cons, if_pos rfl, h]
      rw [this]
    · have : firstL (v :: vs) = v := by unfold firstL; rw [List.foldl_cons, if_pos rfl, first_go vs v h]
      rw [if_neg h, this]
theorem first_abs {m : Nat} : ∀ (vs : List Int) (f : Int), f.natAbs ≤ m → (∀ v ∈ vs, v.natAbs ≤ m) → (vs.foldl (fun f v => if f = 0 then v else f) f).natAbs ≤ m
  | [], _, h, _ => h
  | v :: vs, f, h, hv => by
    rw [List.foldl_cons]
    refine first_abs vs _ ?_ fun x hx => hv x (List.mem_cons_of_mem _ hx)
    split
    · exact hv v (List.mem_cons_self ..)
    · exact h
theorem tdiv_sign {s x : Int} {g : Int} (hs : s = 1 ∨ s = -1) : (s * x).tdiv g = x.tdiv (s * g) := by
  rcases hs with rfl | rfl
  · rw [Int.one_mul, Int.one_mul]
  · rw [show (-1 : Int) * x = -x by omega, show (-1 : Int) * g = -g by omega, Int.neg_tdiv, Int.tdiv_neg]

set_option maxRecDepth 100000 in
set_option maxHeartbeats 1000000 in
theorem heightOf_any (v : Value) (vs : List Int) (w : World) (hv : Rd w v vs) (hl : vs.length ≤ 4) (h6 : Vec6 vs) : Calls Try.prog 39 #[v] w fun e w' => e = .returned (.int .i64 (hgtL vs : Nat)) ∧ w = w' := by
  obtain ⟨a', cap', rfl, hform⟩ := hv.form
  have HFM := hid hform
  have H6 := hid h6
  clear hv hform h6
  go_enter Try.func39, Try.ntmps39
  go_wp2_with fail
  go_loop [3, 8] (fun sm si => ∃ K m : Nat, si = .int .i64 K ∧ K ≤ vs.length ∧ sm = .int .i64 m ∧ m ≤ 1000000 ∧ Hid (m = hgtL (vs.take K))) (fun _ si => vs.length - (intOf si).toNat)
  case atStart => exact ⟨0, 0, rfl, by omega, rfl, by omega, hid rfl⟩
  case round =>
    obtain ⟨K, m, rfl, hK, rfl, hm, HM⟩ := hrel
    by_cases hlt : K < vs.length
    · obtain ⟨b, o, rfl, hml, hc⟩ := HFM.out (by omega)
      have hcell := hc K hlt
      have hx6 := H6.out (vs.getD K 0) (by rw [getD_at _ _ hlt]; exact List.getElem_mem _)
      have HN : Hid (hgtL (vs.take (K + 1)) = max m (vs.getD K 0).natAbs) := hid (by rw [takeD_snoc hlt, hgt_snoc, ← HM.out])
      obtain ⟨x, hx⟩ : ∃ x, x = vs.getD K 0 := ⟨_, rfl⟩
      rw [← hx] at hcell hx6 HN
      have x1 := hx6.1
      have x2 := hx6.2
      have hKi : (K : Int) < (vs.length : Int) := by omega
      have HLT := hid hlt
      clear hx hc hml hlt hx6
      go_wp2_with (go_at_call 51; refine (size_any _ (by omega) (by omega) _).mono ?_; rintro e w' ⟨rfl, rfl⟩)
      go_round
      case measure => simp only [intOf]; have := HLT.out; omega
      case rel => exact ⟨K + 1, max m x.natAbs, by go_num, by have := HLT.out; omega, vI (by omega), by omega, hid HN.out.symm⟩
    · obtain rfl : K = vs.length := by omega
      have HE : Hid ((m : Int) = (hgtL vs : Nat)) := hid (by rw [HM.out, List.take_length])
      clear hlt
      go_wp2_with fail
      go_ret
      exact ⟨retI HE.out, rfl⟩

theorem hgt_some {vs : List Int} : (0 < hgtL vs) ↔ someB vs = true := by
  rw [someB_iff]
  obtain ⟨_, h2, h3⟩ := hgt_fold vs 0
  constructor
  · intro h
    rcases h3 with e | ⟨v, hv, e⟩
    · have : hgtL vs = 0 := e
      omega
    · have : v.natAbs = hgtL vs := e
      exact ⟨v, hv, by omega⟩
  · rintro ⟨v, hv, h0⟩
    have : v.natAbs ≤ hgtL vs := h2 v hv
    omega
theorem in_cases {xs vs : List Int} {m : Int} (h : fvB xs = true) : vecB xs vs m = (inAll vs m && decide ((vs.length : Int) = (xs.length : Int))) := by
  rw [vecB_in, h, Bool.true_and]
  congr 1
  rw [Bool.eq_iff_iff, beq_iff_eq, decide_eq_true_eq]
  omega
set_option maxRecDepth 100000 in
set_option maxHeartbeats 1000000 in
theorem zeroIs_any (vf vv : Value) (xs vs : List Int) (w : World) (hx : Rd w vf xs) (hv : Rd w vv vs) : Calls Try.prog 14 #[vf, vv] w fun e w' => e = .returned (.bool (zeroB xs vs)) ∧ Below w.heap.size w w' := by
  have HX := hid hx
  have HV := hid hv
  obtain ⟨a, cap, rfl, _⟩ := hx.form
  obtain ⟨a', cap', rfl, _⟩ := hv.form
  clear hx hv
  cases hf : fvB xs with
  | false =>
    have HF := hid hf
    have HR : Hid (zeroB xs vs = false) := hid (by unfold zeroB; rw [vecB_in, hf, Bool.false_and, Bool.and_false]; rfl)
    clear hf
    go_enter Try.func14, Try.ntmps14
    go_wp2_with fail
    refine (formValidP_any _ xs _ HX.out).mono ?_
    rw [HF.out]
    rintro e w' ⟨rfl, rfl⟩
    go_wp2_with fail
    go_ret
    exact ⟨retB HR.out.symm, Below.refl _ _⟩
  | true =>
    have hic := in_cases (vs := vs) (m := 1000000) hf
    have HF := hid hf
    have hl4 := (fvB_iff.1 hf).2.2
    cases hb : vecB xs vs 1000000 with
    | false =>
      have HR : Hid (zeroB xs vs = false) := hid (by unfold zeroB; rw [hb]; rfl)
      rw [hb] at hic
      have HB := hid hic.symm
      clear hf hb hic
      go_enter Try.func14, Try.ntmps14
      go_wp2_with fail
      refine (formValidP_any _ xs _ HX.out).mono ?_
      rw [HF.out]
      rintro e w' ⟨rfl, rfl⟩
      go_wp2_with (go_at_call 38; refine (vectorWithin_any _ vs _ _ (by omega) (by omega) _ HV.out).mono ?_; rw [HB.out]; rintro e w' ⟨rfl, rfl⟩)
      go_ret
      exact ⟨retB HR.out.symm, Below.refl _ _⟩
    | true =>
      have H6 := hid (vec6_vecB hb (by omega))
      have hi := vecB_iff.1 hb
      have HL := hid hi.2.2
      have hv4 : vs.length ≤ 4 := by rw [hi.2.2]; exact hl4
      rw [hb] at hic
      have HB := hid hic.symm
      have hgb : hgtL vs ≤ 1000000 := (hgt_fold vs 0).2.2.elim (fun e => by have : hgtL vs = 0 := e; omega) (fun ⟨v, hv, e⟩ => by have h1 : v.natAbs = hgtL vs := e; have := H6.out v hv; omega)
      cases hs : someB vs with
      | false =>
        have HR : Hid (zeroB xs vs = false) := hid (by unfold zeroB; rw [hb, hs]; rfl)
        have hg0 : ¬ (0 < hgtL vs) := fun h => by rw [hgt_some, hs] at h; cases h
        have hg : hgtL vs = 0 := by omega
        have HG := hid hg
        clear hf hb hic hi hs hg hg0
        go_enter Try.func14, Try.ntmps14
        go_wp2_with fail
        refine (formValidP_any _ xs _ HX.out).mono ?_
        rw [HF.out]
        rintro e w' ⟨rfl, rfl⟩
        go_wp2_with (first | (go_at_call 38; refine (vectorWithin_any _ vs _ _ (by omega) (by omega) _ HV.out).mono ?_; rw [HB.out]; rintro e w' ⟨rfl, rfl⟩) | (go_at_call 39; refine (heightOf_any _ vs _ HV.out hv4 H6.out).mono ?_; rw [HG.out]; rintro e w' ⟨rfl, rfl⟩))
        go_ret
        exact ⟨retB HR.out.symm, Below.refl _ _⟩
      | true =>
        have HR : Hid (zeroB xs vs = decide (pairI xs vs vs xs.length = 0)) := hid (by unfold zeroB; rw [hb, hs, pair_self]; rfl)
        have hg0 : 0 < hgtL vs := hgt_some.2 hs
        obtain ⟨g, hg⟩ : ∃ g, g = hgtL vs := ⟨_, rfl⟩
        rw [← hg] at hg0 hgb
        have HG := hid hg.symm
        have hg1 : (0 : Int) < (g : Int) := by omega
        clear hf hb hic hi hs hg hg0
        go_enter Try.func14, Try.ntmps14
        go_wp2_with fail
        refine (formValidP_any _ xs _ HX.out).mono ?_
        rw [HF.out]
        rintro e w' ⟨rfl, rfl⟩
        go_wp2_with (first | (go_at_call 38; refine (vectorWithin_any _ vs _ _ (by omega) (by omega) _ HV.out).mono ?_; rw [HB.out]; rintro e w' ⟨rfl, rfl⟩) | (go_at_call 39; refine (heightOf_any _ vs _ HV.out hv4 H6.out).mono ?_; rw [HG.out]; rintro e w' ⟨rfl, rfl⟩) | (go_at_call 40; refine (pairAt_any _ _ _ xs vs vs _ HX.out HV.out HV.out HF.out H6.out H6.out HL.out HL.out).mono ?_; rintro e w' ⟨rfl, k, rfl⟩))
        go_ret
        exact ⟨retB (by rw [HR.out]; rfl), below_dr _ _⟩

set_option maxRecDepth 100000 in
set_option maxHeartbeats 1000000 in
theorem zeroHeight_any (vf vv : Value) (xs vs : List Int) (w : World) (hx : Rd w vf xs) (hv : Rd w vv vs) : Calls Try.prog 31 #[vf, vv] w fun e w' => e = .returned (.int .i64 (zhgtV xs vs)) ∧ Below w.heap.size w w' := by
  have HX := hid hx
  have HV := hid hv
  obtain ⟨a, cap, rfl, _⟩ := hx.form
  obtain ⟨a', cap', rfl, _⟩ := hv.form
  clear hx hv
  cases hb : zeroB xs vs with
  | false =>
    have HB := hid hb
    have HR : Hid (zhgtV xs vs = -1) := hid (by unfold zhgtV; rw [hb]; rfl)
    clear hb
    go_enter Try.func31, Try.ntmps31
    go_wp2_with (go_at_call 14; refine (zeroIs_any _ _ xs vs _ HX.out HV.out).mono ?_; rw [HB.out]; rintro e w2 ⟨rfl, hb2⟩)
    go_ret
    exact ⟨retI HR.out.symm, hb2⟩
  | true =>
    have HB := hid hb
    have hz := zeroB_iff.1 hb
    have hl4 := (fvB_iff.1 hz.2.1).2.2
    have hv4 : vs.length ≤ 4 := by rw [hz.2.2.1]; exact hl4
    have H6 : Hid (Vec6 vs) := hid hz.1
    have HR : Hid (zhgtV xs vs = (hgtL vs : Nat)) := hid (by unfold zhgtV; rw [hb]; rfl)
    clear hb hz
    go_enter Try.func31, Try.ntmps31
    go_wp2_with fail
    refine (zeroIs_any _ _ xs vs _ HX.out HV.out).mono ?_
    rw [HB.out]
    rintro e w2 ⟨rfl, hb2⟩
    have HV2 := hid (HV.out.keep hb2)
    go_wp2_with (go_at_call 39; refine (heightOf_any _ vs _ HV2.out hv4 H6.out).mono ?_; rintro e w' ⟨rfl, rfl⟩)
    go_ret
    exact ⟨retI HR.out.symm, hb2⟩

set_option maxRecDepth 100000 in
set_option maxHeartbeats 2000000 in
theorem zeroPair_any (vf vv vw : Value) (xs vs ws : List Int) (w : World) (hx : Rd w vf xs) (hv : Rd w vv vs) (hw : Rd w vw ws) : Calls Try.prog 33 #[vf, vv, vw] w fun e w' => e = .returned (zpairV xs vs ws) ∧ Below w.heap.size w w' := by
  have HX := hid hx
  have HV := hid hv
  have HW := hid hw
  obtain ⟨a, cap, rfl, _⟩ := hx.form
  obtain ⟨a', cap', rfl, _⟩ := hv.form
  obtain ⟨a3, cap3, rfl, _⟩ := hw.form
  clear hx hv hw
  have hno : zpairOk xs vs ws = false → zpairV xs vs ws = .tuple #[.int .i64 0, .bool false] := fun h => by unfold zpairV; rw [h]; rfl
  cases hf : fvB xs with
  | false =>
    have HF := hid hf
    have HR := hid (hno (by unfold zpairOk; rw [vecB_in, hf, Bool.false_and, Bool.and_false]; rfl))
    clear hf hno
    go_enter Try.func33, Try.ntmps33
    go_wp2_with fail
    refine (formValidP_any _ xs _ HX.out).mono ?_
    rw [HF.out]
    rintro e w' ⟨rfl, rfl⟩
    go_wp2_with fail
    go_ret2
    exact ⟨retV HR.out.symm, Below.refl _ _⟩
  | true =>
    have HF := hid hf
    have hic := in_cases (vs := vs) (m := 1000) hf
    have hjc := in_cases (vs := ws) (m := 1000) hf
    cases hb : vecB xs vs 1000 with
    | false =>
      have HR := hid (hno (by unfold zpairOk; rw [hb]; rfl))
      rw [hb] at hic
      have HB := hid hic.symm
      clear hb hno hic hjc hf
      go_enter Try.func33, Try.ntmps33
      go_wp2_with fail
      refine (formValidP_any _ xs _ HX.out).mono ?_
      rw [HF.out]
      rintro e w' ⟨rfl, rfl⟩
      go_wp2_with (go_at_call 38; refine (vectorWithin_any _ vs _ _ (by omega) (by omega) _ HV.out).mono ?_; rw [HB.out]; rintro e w' ⟨rfl, rfl⟩)
      go_ret2
      exact ⟨retV HR.out.symm, Below.refl _ _⟩
    | true =>
      rw [hb] at hic
      have HB := hid hic.symm
      cases hc : vecB xs ws 1000 with
      | false =>
        have HR := hid (hno (by unfold zpairOk; rw [hb, hc]; rfl))
        rw [hc] at hjc
        have HC := hid hjc.symm
        clear hb hc hno hic hjc hf
        go_enter Try.func33, Try.ntmps33
        go_wp2_with fail
        refine (formValidP_any _ xs _ HX.out).mono ?_
        rw [HF.out]
        rintro e w' ⟨rfl, rfl⟩
        go_wp2_with fail
        refine (vectorWithin_any _ vs _ _ (by omega) (by omega) _ HV.out).mono ?_
        rw [HB.out]
        rintro e w' ⟨rfl, rfl⟩
        go_wp2_with fail
        refine (vectorWithin_any _ ws _ _ (by omega) (by omega) _ HW.out).mono ?_
        rw [HC.out]
        rintro e w' ⟨rfl, rfl⟩
        go_wp2_with fail
        go_ret2
        exact ⟨retV HR.out.symm, Below.refl _ _⟩
      | true =>
        rw [hc] at hjc
        have HC := hid hjc.symm
        have H6 := hid (vec6_vecB hb (by omega))
        have H7 := hid (vec6_vecB hc (by omega))
        have hi := vecB_iff.1 hb
        have hj := vecB_iff.1 hc
        have HL := hid hi.2.2
        have HL2 := hid hj.2.2
        have HR : Hid (zpairV xs vs ws = .tuple #[.int .i64 (pairI xs vs ws xs.length), .bool true]) := hid (by unfold zpairV zpairOk; rw [hb, hc]; rfl)
        clear hb hc hno hi hj hic hjc hf
        go_enter Try.func33, Try.ntmps33
        go_wp2_with fail
        refine (formValidP_any _ xs _ HX.out).mono ?_
        rw [HF.out]
        rintro e w' ⟨rfl, rfl⟩
        go_wp2_with fail
        refine (vectorWithin_any _ vs _ _ (by omega) (by omega) _ HV.out).mono ?_
        rw [HB.out]
        rintro e w' ⟨rfl, rfl⟩
        go_wp2_with fail
        refine (vectorWithin_any _ ws _ _ (by omega) (by omega) _ HW.out).mono ?_
        rw [HC.out]
        rintro e w' ⟨rfl, rfl⟩
        go_wp2_with fail
        refine (pairAt_any _ _ _ xs vs ws _ HX.out HV.out HW.out HF.out H6.out H7.out HL.out HL2.out).mono ?_
        rintro e w' ⟨rfl, k, rfl⟩
        go_wp2_with fail
        go_ret2
        exact ⟨retV HR.out.symm, below_dr _ _⟩

set_option maxRecDepth 100000 in
set_option maxHeartbeats 4000000 in
theorem plainOf_any (v : Value) (xs : List Int) (w : World) (h : Rd w v xs) (hl : xs.length ≤ 4) (h6 : Vec6 xs) (hs : ∃ x ∈ xs, x ≠ 0) : Calls Try.prog 42 #[v] w fun e w' => ∃ u, e = .returned u ∧ Owns w' w.heap.size u (plainL xs) ∧ Below w.heap.size w w' := by
  obtain ⟨i0, hi, hz0, hz1, hz2⟩ := info_parts infoInt
  have HH := hid h
  obtain ⟨ad, cap, rfl, hform⟩ := h.form
  have HFM := hid hform
  have H6 := hid h6
  have HSM := hid hs
  have htk : ∀ K, K ≤ xs.length → gcdL (xs.take K) ≤ 1000000 := fun K _ => gcdL_leM fun x hx => by
    have := h6 x (List.mem_of_mem_take hx)
    omega
  have hft : ∀ K, K ≤ xs.length → (firstL (xs.take K)).natAbs ≤ 1000000 := fun K _ => first_abs _ _ (by simp) fun x hx => by
    have := h6 x (List.mem_of_mem_take hx)
    omega
  have HTK := hid htk
  have HFT := hid hft
  clear h h6 hs htk hform hft
  go_enter Try.func42, Try.ntmps42
  go_wp2_with fail
  go_loopw [3, 4, 12] (fun sg ss si wr => ∃ (K g k : Nat) (s : Int), si = .int .i64 K ∧ K ≤ xs.length ∧ sg = .int .i64 g ∧ g ≤ 1000000 ∧ ss = .int .i64 s ∧ -1000000 ≤ s ∧ s ≤ 1000000 ∧ Hid (g = gcdL (xs.take K)) ∧ Hid (s = firstL (xs.take K)) ∧ wr = w.drewN k) (fun _ _ si _ => xs.length - (intOf si).toNat)
  case atStart => exact ⟨0, 0, 0, 0, rfl, by omega, rfl, by omega, rfl, by omega, by omega, hid rfl, hid rfl, rfl⟩
  case round =>
    obtain ⟨K, g, k, s, rfl, hK, rfl, hg, rfl, s1, s2, HG, HS, rfl⟩ := hrel
    by_cases hlt : K < xs.length
    · obtain ⟨b, o, rfl, hml, hc⟩ := HFM.out (by omega)
      have hcell := hc K hlt
      have hx6 := H6.out (xs.getD K 0) (by rw [getD_at _ _ hlt]; exact List.getElem_mem _)
      have hg2 := HTK.out (K + 1) hlt
      obtain ⟨x, hx⟩ : ∃ x, x = xs.getD K 0 := ⟨_, rfl⟩
      have hG : gcdL (xs.take (K + 1)) = Nat.gcd g x.natAbs := by rw [takeD_snoc hlt, gcdL_snoc, ← HG.out, ← hx]
      have hS : firstL (xs.take (K + 1)) = if s = 0 then x else s := by rw [takeD_snoc hlt, first_snoc, ← HS.out, ← hx]
      rw [← hx] at hcell hx6
      have x1 := hx6.1
      have x2 := hx6.2
      rw [hG] at hg2
      have HGN := hid hG
      have HLT := hid hlt
      have hKi : (K : Int) < (xs.length : Int) := by omega
      have eg : ((g : Int).natAbs) = g := Int.natAbs_natCast g
      clear hx hc hml hlt hx6 hG
      by_cases s0 : s = 0
      · have T : (s == 0) = true := by rw [beq_iff_eq]; exact s0
        rw [if_pos s0] at hS
        have HS2 := hid hS
        clear hS s0
        go_wp2_with (go_at_call 72; refine (common_any _ _ (by omega) (by omega) (by omega) (by omega) _).mono ?_; rw [eg]; rintro e w' ⟨rfl, k2, rfl⟩)
        go_roundw
        case measure => simp only [intOf]; have := HLT.out; omega
        case rel => exact ⟨K + 1, _, _, x, by go_num, by have := HLT.out; omega, rfl, hg2, rfl, x1, x2, hid HGN.out.symm, hid HS2.out.symm, by first | rfl | exact World.drewN_drewN ..⟩
      · have T : (s == 0) = false := by rw [beq_eq_false_iff_ne]; exact s0
        rw [if_neg s0] at hS
        have HS2 := hid hS
        clear hS s0
        go_wp2_with (go_at_call 72; refine (common_any _ _ (by omega) (by omega) (by omega) (by omega) _).mono ?_; rw [eg]; rintro e w' ⟨rfl, k2, rfl⟩)
        go_roundw
        case measure => simp only [intOf]; have := HLT.out; omega
        case rel => exact ⟨K + 1, _, _, s, by go_num, by have := HLT.out; omega, rfl, hg2, rfl, s1, s2, hid HGN.out.symm, hid HS2.out.symm, by first | rfl | exact World.drewN_drewN ..⟩
    · obtain rfl : K = xs.length := by omega
      have hsg := signL_pm xs
      have hgp := gcdL_pos HSM.out
      have eG : g = gcdL xs := by rw [HG.out, List.take_length]
      have eS : signL xs = if s < 0 then -1 else 1 := by rw [first_sign, HS.out, List.take_length]
      rw [← eG] at hgp
      obtain ⟨d, hd⟩ : ∃ d, d = signL xs * (g : Int) := ⟨_, rfl⟩
      have HPL : Hid (plainL xs = xs.map (fun x => x.tdiv d)) := hid (by
        unfold plainL
        rw [hd, ← eG]
        exact List.map_congr_left fun x _ => tdiv_sign hsg)
      have hBD : Below w.heap.size w (w.drewN k) := below_dr _ _
      have HB0 := hid (hBD.alloc (Nat.le_refl _) (.cells #[] 3))
      have HO0 : Hid (Owns ((w.drewN k).alloc (.cells #[] 3)) w.heap.size (.slice (some ⟨w.heap.size, 0, none⟩) 0 0) []) := hid (World.ownsRow_made (size := 1) (w.drewN k) #[] 0 (Nat.le_refl _) (by unfold maxLen; omega) rfl)
      have hdd : d = if s < 0 then -(g : Int) else (g : Int) := by
        rw [hd, eS]
        by_cases h : s < 0
        · rw [if_pos h, if_pos h]; omega
        · rw [if_neg h, if_neg h]; omega
      have d1 : -1000000 ≤ d := by rw [hdd]; split <;> omega
      have d2 : d ≤ 1000000 := by rw [hdd]; split <;> omega
      have d0 : d ≠ 0 := by rw [hdd]; split <;> omega
      have Td : (d == 0) = false := beq_eq_false_iff_ne.2 d0
      have Tg : ((g : Int) == 0) = false := beq_eq_false_iff_ne.2 (by omega)
      have hbody : ∀ (x : Int), -1000000 ≤ x → x ≤ 1000000 → -1000000 ≤ x.tdiv d ∧ x.tdiv d ≤ 1000000 := fun x h1 h2 => by
        have : (x.tdiv d).natAbs ≤ 1000000 := by
          rw [Int.natAbs_tdiv]
          exact Nat.le_trans (Nat.div_le_self _ _) (by omega)
        omega
      have HBD := hid hbody
      clear hlt hsg eG eS HG HS hd hbody
      by_cases hs0 : s < 0
      · rw [if_pos hs0] at hdd
        subst hdd
        have HPN : Hid (plainL xs = xs.map (fun x => -(x.tdiv (g : Int)))) := hid (by rw [HPL.out]; exact List.map_congr_left fun x _ => Int.tdiv_neg ..)
        go_wp2_with fail
        go_loopw [7, 30] (fun so si wr => ∃ K : Nat, si = .int .i64 K ∧ K ≤ xs.length ∧ Hid (Owns wr w.heap.size so ((xs.take K).map (fun x => -(x.tdiv (g : Int))))) ∧ Hid (Below w.heap.size w wr)) (fun _ si _ => xs.length - (intOf si).toNat)
        case atStart => exact ⟨0, rfl, by omega, hid (by simpa using HO0.out), HB0⟩
        case round =>
          obtain ⟨K, rfl, hK, HO, HB⟩ := hrel
          rename World => wr
          by_cases hlt : K < xs.length
          · obtain ⟨a2, cap2, e2, hform⟩ := (HH.out.keep HB.out).form
            cases e2
            obtain ⟨bb, o, rfl, hml, hc⟩ := hform (by omega)
            have hcell := hc K hlt
            have hx6 := H6.out (xs.getD K 0) (by rw [getD_at _ _ hlt]; exact List.getElem_mem _)
            have HSN : Hid ((xs.take (K + 1)).map (fun x => -(x.tdiv (g : Int))) = (xs.take K).map (fun x => -(x.tdiv (g : Int))) ++ [-((xs.getD K 0).tdiv (g : Int))]) := hid (map_snoc hlt)
            obtain ⟨x, hx⟩ : ∃ x, x = xs.getD K 0 := ⟨_, rfl⟩
            rw [← hx] at hcell hx6 HSN
            have hbd := HBD.out x hx6.1 hx6.2
            rw [Int.tdiv_neg] at hbd
            have q1 := hbd.1
            have q2 := hbd.2
            have x1 := hx6.1
            have x2 := hx6.2
            obtain ⟨pre, hpre⟩ : ∃ pre, pre = (xs.take K).map (fun x => -(x.tdiv (g : Int))) := ⟨_, rfl⟩
            have hprel : pre.length ≤ 4 := by rw [hpre, List.length_map, List.length_take]; omega
            rw [← hpre] at HO HSN
            have hi0 : (K : Int) < (xs.length : Int) := by omega
            have HLT := hid hlt
            have hbs : w.heap.size ≤ wr.heap.size := HB.out.size
            unfold maxLen at hml
            clear hform hc hx hlt hpre hbd hx6
            go_wp2_with (at_builtin; refine wpList_append_own_at _ rfl _ _ 22 rfl w.heap.size 3 i0 (.int .i64 0) 1 8 Try.underlying22 hi hz0 hz1 hz2 rfl (by decide) _ _ _ rfl ((show World.ownsRow _ _ _ _ _ _ _ from HO.out).alloc _) ⟨wr.heap.size, 0, none⟩ 1 1 [.int .i64 (-(x.tdiv (g : Int)))] rfl rfl (cell_one_new _ _ _) (by simp [Value.oneCell']) (by unfold maxLen; omega) (by omega) (by simp; omega) ?_; intro v' w3 hown' hgrow _ hat)
            have hsg := hgrow.size
            simp only [World.size_alloc] at hsg
            go_roundw
            case measure => simp only [intOf]; have := HLT.out; omega
            case rel =>
              refine ⟨K + 1, by go_num, by have := HLT.out; omega, hid ?_, hid (HB.out.alloc hbs _ |>.grown hgrow (by simp; omega) (fun k e => (HO.out.ge k e)))⟩
              rw [HSN.out]
              unfold Owns
              simpa using hown'
          · obtain rfl : K = xs.length := by omega
            have HE : Hid (plainL xs = (xs.take xs.length).map (fun x => -(x.tdiv (g : Int)))) := hid (by rw [List.take_length]; exact HPN.out)
            clear hlt
            go_wp2_with fail
            go_ret
            exact ⟨_, rfl, by rw [HE.out]; exact HO.out, HB.out⟩
      · rw [if_neg hs0] at hdd
        subst hdd
        go_wp2_with fail
        go_loopw [7, 30] (fun so si wr => ∃ K : Nat, si = .int .i64 K ∧ K ≤ xs.length ∧ Hid (Owns wr w.heap.size so ((xs.take K).map (fun x => x.tdiv (g : Int)))) ∧ Hid (Below w.heap.size w wr)) (fun _ si _ => xs.length - (intOf si).toNat)
        case atStart => exact ⟨0, rfl, by omega, hid (by simpa using HO0.out), HB0⟩
        case round =>
          obtain ⟨K, rfl, hK, HO, HB⟩ := hrel
          rename World => wr
          by_cases hlt : K < xs.length
          · obtain ⟨a2, cap2, e2, hform⟩ := (HH.out.keep HB.out).form
            cases e2
            obtain ⟨bb, o, rfl, hml, hc⟩ := hform (by omega)
            have hcell := hc K hlt
            have hx6 := H6.out (xs.getD K 0) (by rw [getD_at _ _ hlt]; exact List.getElem_mem _)
            have HSN : Hid ((xs.take (K + 1)).map (fun x => x.tdiv (g : Int)) = (xs.take K).map (fun x => x.tdiv (g : Int)) ++ [(xs.getD K 0).tdiv (g : Int)]) := hid (map_snoc hlt)
            obtain ⟨x, hx⟩ : ∃ x, x = xs.getD K 0 := ⟨_, rfl⟩
            rw [← hx] at hcell hx6 HSN
            have hbd := HBD.out x hx6.1 hx6.2
            have q1 := hbd.1
            have q2 := hbd.2
            have x1 := hx6.1
            have x2 := hx6.2
            obtain ⟨pre, hpre⟩ : ∃ pre, pre = (xs.take K).map (fun x => x.tdiv (g : Int)) := ⟨_, rfl⟩
            have hprel : pre.length ≤ 4 := by rw [hpre, List.length_map, List.length_take]; omega
            rw [← hpre] at HO HSN
            have hi0 : (K : Int) < (xs.length : Int) := by omega
            have HLT := hid hlt
            have hbs : w.heap.size ≤ wr.heap.size := HB.out.size
            unfold maxLen at hml
            clear hform hc hx hlt hpre hbd hx6
            go_wp2_with (at_builtin; refine wpList_append_own_at _ rfl _ _ 22 rfl w.heap.size 3 i0 (.int .i64 0) 1 8 Try.underlying22 hi hz0 hz1 hz2 rfl (by decide) _ _ _ rfl ((show World.ownsRow _ _ _ _ _ _ _ from HO.out).alloc _) ⟨wr.heap.size, 0, none⟩ 1 1 [.int .i64 (x.tdiv (g : Int))] rfl rfl (cell_one_new _ _ _) (by simp [Value.oneCell']) (by unfold maxLen; omega) (by omega) (by simp; omega) ?_; intro v' w3 hown' hgrow _ hat)
            have hsg := hgrow.size
            simp only [World.size_alloc] at hsg
            go_roundw
            case measure => simp only [intOf]; have := HLT.out; omega
            case rel =>
              refine ⟨K + 1, by go_num, by have := HLT.out; omega, hid ?_, hid (HB.out.alloc hbs _ |>.grown hgrow (by simp; omega) (fun k e => (HO.out.ge k e)))⟩
              rw [HSN.out]
              unfold Owns
              simpa using hown'
          · obtain rfl : K = xs.length := by omega
            have HE : Hid (plainL xs = (xs.take xs.length).map (fun x => x.tdiv (g : Int))) := hid (by rw [List.take_length]; exact HPL.out)
            clear hlt
            go_wp2_with fail
            go_ret
            exact ⟨_, rfl, by rw [HE.out]; exact HO.out, HB.out⟩

set_option maxRecDepth 100000 in
set_option maxHeartbeats 1000000 in
theorem zeroPlain_any (vf vv : Value) (xs vs : List Int) (w : World) (hx : Rd w vf xs) (hv : Rd w vv vs) : Calls Try.prog 17 #[vf, vv] w fun e w' => ∃ u, e = .returned (.tuple #[u, .bool (zeroB xs vs)]) ∧ Owns w' w.heap.size u (zplainL xs vs) ∧ Below w.heap.size w w' := by
  have HX := hid hx
  have HV := hid hv
  obtain ⟨a, cap, rfl, _⟩ := hx.form
  obtain ⟨a', cap', rfl, _⟩ := hv.form
  clear hx hv
  cases hb : zeroB xs vs with
  | false =>
    have HB := hid hb
    have HR : Hid (zplainL xs vs = []) := hid (by unfold zplainL; rw [hb]; rfl)
    clear hb
    go_enter Try.func17, Try.ntmps17
    go_wp2_with (go_at_call 14; refine (zeroIs_any _ _ xs vs _ HX.out HV.out).mono ?_; rw [HB.out]; rintro e w2 ⟨rfl, hb2⟩)
    go_ret2
    refine ⟨_, rfl, ?_, hb2.alloc hb2.size _⟩
    rw [HR.out]
    exact World.ownsRow_made (size := 1) _ #[] 0 hb2.size (by unfold maxLen; omega) rfl
  | true =>
    have HB := hid hb
    have hz := zeroB_iff.1 hb
    have hl4 := (fvB_iff.1 hz.2.1).2.2
    have hv4 : vs.length ≤ 4 := by rw [hz.2.2.1]; exact hl4
    have H6 : Hid (Vec6 vs) := hid hz.1
    have HS := hid hz.2.2.2.1
    have HR : Hid (zplainL xs vs = plainL vs) := hid (by unfold zplainL; rw [hb]; rfl)
    clear hb hz
    go_enter Try.func17, Try.ntmps17
    go_wp2_with fail
    refine (zeroIs_any _ _ xs vs _ HX.out HV.out).mono ?_
    rw [HB.out]
    rintro e w2 ⟨rfl, hb2⟩
    have HV2 := hid (HV.out.keep hb2)
    go_wp2_with fail
    refine (plainOf_any _ vs _ HV2.out hv4 H6.out HS.out).mono ?_
    rintro e w3 ⟨u, rfl, ho, hb3⟩
    go_wp2_with fail
    go_ret2
    exact ⟨u, rfl, by rw [HR.out]; exact ho.low hb2.size, hb2.trans (hb3.mono hb2.size)⟩

end Go.Proofs.Ytbhlgdleklfonab

set_option linter.unusedVariables false
namespace Go.Proofs.Ytbhlgdleklfonab
open Go.RowKit

theorem nrm_gcd {a b c : Int} (h : nrmB [a, b, c] = true) : Nat.gcd a.natAbs b.natAbs = 1 ∧ Nat.gcd b.natAbs c.natAbs = 1 ∧ Nat.gcd c.natAbs a.natAbs = 1 := by
  obtain ⟨⟨a0, b0, c0⟩, _, _, _, h2⟩ := nrmB_iff.1 h
  have p1 : 0 < Int.gcd a b := Nat.gcd_pos_of_pos_left _ (by omega)
  have p2 : 0 < Int.gcd b c := Nat.gcd_pos_of_pos_left _ (by omega)
  have p3 : 0 < Int.gcd c a := Nat.gcd_pos_of_pos_left _ (by omega)
  have e1 : Int.gcd a b = Nat.gcd a.natAbs b.natAbs := rfl
  have e2 : Int.gcd b c = Nat.gcd b.natAbs c.natAbs := rfl
  have e3 : Int.gcd c a = Nat.gcd c.natAbs a.natAbs := rfl
  rcases two_cases a b c with ⟨_, q1, q2, q3⟩ | ⟨hp, _⟩
  · omega
  · have := hp.1
    omega
theorem nrm_end {a b c : Int} (ra : -30000 ≤ a ∧ a ≤ 30000) (rb : -30000 ≤ b ∧ b ≤ 30000) (rc : -30000 ≤ c ∧ c ≤ 30000) (a0 : a ≠ 0) (b0 : b ≠ 0) (c0 : c ≠ 0) (g1 : Nat.gcd a.natAbs b.natAbs = 1) (g2 : Nat.gcd b.natAbs c.natAbs = 1) (g3 : Nat.gcd c.natAbs a.natAbs = 1) (r1 : rootG a = 1) (r2 : rootG b = 1) (r3 : rootG c = 1) : nrmB [a, b, c] = decide ((a * b * c).natAbs ≤ 30000) := by
  have e1 : Int.gcd a b = 1 := g1
  have e2 : Int.gcd b c = 1 := g2
  have e3 : Int.gcd c a = 1 := g3
  have ht : twoD a b c = 1 := by unfold twoD; rw [e1, e2, e3, if_neg (by decide), if_neg (by decide), if_neg (by decide)]
  rw [Bool.eq_iff_iff, nrmB_iff, decide_eq_true_eq]
  exact ⟨fun h => h.2.2.2.1, fun h => ⟨⟨a0, b0, c0⟩, ⟨ra, rb, rc⟩, ⟨r1, r2, r3⟩, h, ht⟩⟩
theorem nrm_range {xs : List Int} (h : (inAll xs 30000 && decide ((xs.length : Int) = 3)) = false) : nrmB xs = false := by
  cases hn : nrmB xs with
  | false => rfl
  | true =>
    obtain ⟨a, b, c, rfl, _⟩ := nrmB_lim hn
    obtain ⟨_, ⟨ha, hb, hc⟩, _⟩ := nrmB_iff.1 hn
    have : inAll [a, b, c] 30000 = true := List.all_eq_true.2 fun x hx => by
      simp only [List.mem_cons, List.not_mem_nil, or_false] at hx
      unfold inR
      rw [Bool.and_eq_true, decide_eq_true_eq, decide_eq_true_eq]
      rcases hx with rfl | rfl | rfl <;> omega
    rw [this] at h
    simp at h
theorem root_30k {x : Int} (h0 : x ≠ 0) (h1 : -30000 ≤ x) (h2 : x ≤ 30000) : 1 ≤ rootG x ∧ rootG x ≤ 30000 := by
  obtain ⟨c0, e, _, _, r1⟩ := core_small h0
  have h3 := Nat.le_mul_of_pos_left (rootG x * rootG x) (show 0 < (coreG x).natAbs by omega)
  have h4 := Nat.le_mul_of_pos_left (rootG x) r1
  omega
theorem mul_30k {x y : Int} {X Y : Nat} (hx : x.natAbs ≤ X) (hy : y.natAbs ≤ Y) : (x * y).natAbs ≤ X * Y := by rw [Int.natAbs_mul]; exact Nat.mul_le_mul hx hy

/-- what the rounds of normalValid have seen -/
def Seen (a b c : Int) (K : Nat) : Prop := (1 ≤ K → a ≠ 0 ∧ Nat.gcd a.natAbs b.natAbs = 1 ∧ rootG a = 1) ∧ (2 ≤ K → b ≠ 0 ∧ Nat.gcd b.natAbs c.natAbs = 1 ∧ rootG b = 1) ∧ (3 ≤ K → c ≠ 0 ∧ Nat.gcd c.natAbs a.natAbs = 1 ∧ rootG c = 1)
set_option maxRecDepth 100000 in
set_option maxHeartbeats 8000000 in
theorem normalValid_any (v : Value) (xs : List Int) (w : World) (h : Rd w v xs) : Calls Try.prog 50 #[v] w fun e w' => e = .returned (.bool (nrmB xs)) ∧ Below w.heap.size w w' := by
  have HH := hid h
  obtain ⟨wr0, wr1, wr2, wr3, wr4⟩ := wrap5
  cases hv : (inAll xs 30000 && decide ((xs.length : Int) = 3)) with
  | false =>
    have HV := hid hv
    have HR := hid (nrm_range hv)
    obtain ⟨ad, cap, rfl, _⟩ := h.form
    clear hv h
    go_enter Try.func50, Try.ntmps50
    go_wp2_with (go_at_call 38; refine (vectorWithin_any _ xs _ _ (by omega) (by omega) _ HH.out).mono ?_; rw [HV.out]; rintro e w' ⟨rfl, rfl⟩)
    go_ret
    exact ⟨retB HR.out.symm, Below.refl _ _⟩
  | true =>
    have HV := hid hv
    rw [Bool.and_eq_true, decide_eq_true_eq] at hv
    obtain ⟨a, b, c, rfl⟩ := list_three (show xs.length = 3 by omega)
    have hr : ∀ x ∈ [a, b, c], -30000 ≤ x ∧ x ≤ 30000 := fun x hx => by
      have := List.all_eq_true.1 hv.1 x hx
      unfold inR at this
      rwa [Bool.and_eq_true, decide_eq_true_eq, decide_eq_true_eq] at this
    have ha := hr a (by simp)
    have hb := hr b (by simp)
    have hc := hr c (by simp)
    have a1 := ha.1
    have a2 := ha.2
    have b1 := hb.1
    have b2 := hb.2
    have c1 := hc.1
    have c2 := hc.2
    have NO1 : Hid (nrmB [a, b, c] = true → (a ≠ 0 ∧ b ≠ 0 ∧ c ≠ 0) ∧ (rootG a = 1 ∧ rootG b = 1 ∧ rootG c = 1)) := hid (fun h => ⟨(nrmB_iff.1 h).1, (nrmB_iff.1 h).2.2.1⟩)
    have NO2 : Hid (nrmB [a, b, c] = true → Nat.gcd a.natAbs b.natAbs = 1 ∧ Nat.gcd b.natAbs c.natAbs = 1 ∧ Nat.gcd c.natAbs a.natAbs = 1) := hid nrm_gcd
    have END : Hid (Seen a b c 3 → nrmB [a, b, c] = decide ((a * b * c).natAbs ≤ 30000)) := hid (fun h => by
      obtain ⟨s1, s2, s3⟩ := h
      have s1 := s1 (by omega)
      have s2 := s2 (by omega)
      have s3 := s3 (by omega)
      exact nrm_end ha hb hc s1.1 s2.1 s3.1 s1.2.1 s2.2.1 s3.2.1 s1.2.2 s2.2.2 s3.2.2)
    obtain ⟨NB, hNB⟩ : ∃ NB, NB = nrmB [a, b, c] := ⟨_, rfl⟩
    rw [← hNB] at NO1 NO2 END ⊢
    have FALSE : Hid (∀ p : Prop, (NB = true → p) → ¬ p → NB = false) := hid (fun p h1 h2 => by
      cases h : NB with
      | false => rfl
      | true => exact absurd (h1 h) h2)
    obtain ⟨g, o, cap, rfl, k0, k1, k2⟩ := rd_three h
    have HK : Hid (∀ W : World, Below w.heap.size w W → W.cell? ⟨g, o, none⟩ = some (.int .i64 a) ∧ W.cell? ⟨g, o + 1, none⟩ = some (.int .i64 b) ∧ W.cell? ⟨g, o + 2, none⟩ = some (.int .i64 c)) := hid (fun W hW => by
      obtain ⟨g2, o2, cap2, e, j⟩ := rd_three (HH.out.keep hW)
      cases e
      exact j)
    have AB := mul_30k (x := a) (y := b) (X := 30000) (Y := 30000) (by omega) (by omega)
    have ABC := mul_30k (x := a * b) (y := c) (X := 900000000) (Y := 30000) (by omega) (by omega)
    have ab1 : -900000000 ≤ a * b := by omega
    have ab2 : a * b ≤ 900000000 := by omega
    have abc1 : -27000000000000 ≤ a * b * c := by omega
    have abc2 : a * b * c ≤ 27000000000000 := by omega
    clear hv h hr ha hb hc hNB k0 k1 k2 AB ABC
    go_enter Try.func50, Try.ntmps50
    go_wp2_with (go_at_call 38; refine (vectorWithin_any _ [a, b, c] _ _ (by omega) (by omega) _ HH.out).mono ?_; rw [HV.out]; rintro e w' ⟨rfl, rfl⟩)
    go_loopw [3, 13] (fun sp si wr => ∃ (K : Nat) (p : Int), si = .int .i64 K ∧ sp = .int .i64 p ∧ ((K = 0 ∧ p = 1) ∨ (K = 1 ∧ p = a) ∨ (K = 2 ∧ p = a * b) ∨ (K = 3 ∧ p = a * b * c)) ∧ Hid (Seen a b c K) ∧ Hid (Below w.heap.size w wr)) (fun _ si _ => 3 - (intOf si).toNat)
    case atStart => exact ⟨0, 1, rfl, rfl, .inl ⟨rfl, rfl⟩, hid ⟨fun h => by omega, fun h => by omega, fun h => by omega⟩, hid (Below.refl _ _)⟩
    case round =>
      obtain ⟨K, p, rfl, rfl, hK, HS, HB⟩ := hrel
      rename World => wx
      obtain ⟨j0, j1, j2⟩ := HK.out wx HB.out
      have hsx := HB.out.size
      rcases hK with ⟨rfl, rfl⟩ | ⟨rfl, rfl⟩ | ⟨rfl, rfl⟩ | ⟨rfl, rfl⟩
      · by_cases x0 : a = 0
        · have T0 : (a == 0) = true := by rw [beq_iff_eq]; exact x0
          have HR : Hid (NB = false) := hid (FALSE.out _ (fun h => (NO1.out h).1.1) (fun h => h x0))
          clear x0
          go_wp2_with fail
          go_ret
          exact ⟨retB HR.out.symm, HB.out⟩
        · have T0 : (a == 0) = false := by rw [beq_eq_false_iff_ne]; exact x0
          have HX0 := hid x0
          obtain ⟨G, hG⟩ : ∃ G, G = Nat.gcd a.natAbs b.natAbs := ⟨_, rfl⟩
          have HGE : Hid (Nat.gcd a.natAbs b.natAbs = G) := hid hG.symm
          have rx := root_30k x0 a1 a2
          obtain ⟨R, hR⟩ : ∃ R, R = rootG a := ⟨_, rfl⟩
          rw [← hR] at rx
          have rx1 := rx.1
          have rx2 := rx.2
          have HRE : Hid (rootG a = R) := hid hR.symm
          clear hG hR rx x0
          by_cases g1 : G = 1
          · have TG : ((G : Int) != 1) = false := by rw [bne_eq_false_iff_eq]; omega
            have HG1 : Hid (Nat.gcd a.natAbs b.natAbs = 1) := hid (by rw [HGE.out]; exact g1)
            clear g1
            by_cases r1 : R = 1
            · have TR : ((R : Int) != 1) = false := by rw [bne_eq_false_iff_eq]; omega
              have HR1 : Hid (rootG a = 1) := hid (by rw [HRE.out]; exact r1)
              clear r1
              go_wp2_with (first | (go_at_call 72; refine (common_any _ _ (by omega) (by omega) (by omega) (by omega) _).mono ?_; rw [HGE.out]; rintro e w' ⟨rfl, kq, rfl⟩) | (go_at_call 74; refine (numCore_any _ HX0.out (by omega) (by omega) _).mono ?_; rw [HRE.out]; rintro e w3 ⟨rfl, hb3⟩))
              have HB3 := hid ((below_drewN HB.out kq).trans (hb3.mono (below_drewN HB.out kq).size))
              clear hb3
              go_roundw
              case measure => simp only [intOf]; omega
              case rel => exact ⟨1, _, by first | rfl | go_num, rfl, .inr (.inl ⟨rfl, by first | rfl | (simp)⟩), hid ⟨fun h => ⟨HX0.out, HG1.out, HR1.out⟩, fun h => by omega, fun h => by omega⟩, HB3⟩
            · have TR : ((R : Int) != 1) = true := by rw [bne_iff_ne]; omega
              have HR : Hid (NB = false) := hid (FALSE.out _ (fun h => (NO1.out h).2.1) (fun h => r1 (by rw [← HRE.out]; exact h)))
              clear r1
              go_wp2_with (first | (go_at_call 72; refine (common_any _ _ (by omega) (by omega) (by omega) (by omega) _).mono ?_; rw [HGE.out]; rintro e w' ⟨rfl, kq, rfl⟩) | (go_at_call 74; refine (numCore_any _ HX0.out (by omega) (by omega) _).mono ?_; rw [HRE.out]; rintro e w3 ⟨rfl, hb3⟩))
              go_ret
              exact ⟨retB HR.out.symm, (below_drewN HB.out kq).trans (hb3.mono (below_drewN HB.out kq).size)⟩
          · have TG : ((G : Int) != 1) = true := by rw [bne_iff_ne]; omega
            have HR : Hid (NB = false) := hid (FALSE.out _ (fun h => (NO2.out h).1) (fun h => g1 (by rw [← HGE.out]; exact h)))
            clear g1
            go_wp2_with (go_at_call 72; refine (common_any _ _ (by omega) (by omega) (by omega) (by omega) _).mono ?_; rw [HGE.out]; rintro e w' ⟨rfl, kq, rfl⟩)
            go_ret
            exact ⟨retB HR.out.symm, below_drewN HB.out kq⟩
      · by_cases x0 : b = 0
        · have T0 : (b == 0) = true := by rw [beq_iff_eq]; exact x0
          have HR : Hid (NB = false) := hid (FALSE.out _ (fun h => (NO1.out h).1.2.1) (fun h => h x0))
          clear x0
          go_wp2_with fail
          go_ret
          exact ⟨retB HR.out.symm, HB.out⟩
        · have T0 : (b == 0) = false := by rw [beq_eq_false_iff_ne]; exact x0
          have HX0 := hid x0
          obtain ⟨G, hG⟩ : ∃ G, G = Nat.gcd b.natAbs c.natAbs := ⟨_, rfl⟩
          have HGE : Hid (Nat.gcd b.natAbs c.natAbs = G) := hid hG.symm
          have rx := root_30k x0 b1 b2
          obtain ⟨R, hR⟩ : ∃ R, R = rootG b := ⟨_, rfl⟩
          rw [← hR] at rx
          have rx1 := rx.1
          have rx2 := rx.2
          have HRE : Hid (rootG b = R) := hid hR.symm
          clear hG hR rx x0
          by_cases g1 : G = 1
          · have TG : ((G : Int) != 1) = false := by rw [bne_eq_false_iff_eq]; omega
            have HG1 : Hid (Nat.gcd b.natAbs c.natAbs = 1) := hid (by rw [HGE.out]; exact g1)
            clear g1
            by_cases r1 : R = 1
            · have TR : ((R : Int) != 1) = false := by rw [bne_eq_false_iff_eq]; omega
              have HR1 : Hid (rootG b = 1) := hid (by rw [HRE.out]; exact r1)
              clear r1
              go_wp2_with (first | (go_at_call 72; refine (common_any _ _ (by omega) (by omega) (by omega) (by omega) _).mono ?_; rw [HGE.out]; rintro e w' ⟨rfl, kq, rfl⟩) | (go_at_call 74; refine (numCore_any _ HX0.out (by omega) (by omega) _).mono ?_; rw [HRE.out]; rintro e w3 ⟨rfl, hb3⟩))
              have HB3 := hid ((below_drewN HB.out kq).trans (hb3.mono (below_drewN HB.out kq).size))
              clear hb3
              go_roundw
              case measure => simp only [intOf]; omega
              case rel => exact ⟨2, _, by first | rfl | go_num, rfl, .inr (.inr (.inl ⟨rfl, by first | rfl | (simp)⟩)), hid ⟨fun h => HS.out.1 (by omega), fun h => ⟨HX0.out, HG1.out, HR1.out⟩, fun h => by omega⟩, HB3⟩
            · have TR : ((R : Int) != 1) = true := by rw [bne_iff_ne]; omega
              have HR : Hid (NB = false) := hid (FALSE.out _ (fun h => (NO1.out h).2.2.1) (fun h => r1 (by rw [← HRE.out]; exact h)))
              clear r1
              go_wp2_with (first | (go_at_call 72; refine (common_any _ _ (by omega) (by omega) (by omega) (by omega) _).mono ?_; rw [HGE.out]; rintro e w' ⟨rfl, kq, rfl⟩) | (go_at_call 74; refine (numCore_any _ HX0.out (by omega) (by omega) _).mono ?_; rw [HRE.out]; rintro e w3 ⟨rfl, hb3⟩))
              go_ret
              exact ⟨retB HR.out.symm, (below_drewN HB.out kq).trans (hb3.mono (below_drewN HB.out kq).size)⟩
          · have TG : ((G : Int) != 1) = true := by rw [bne_iff_ne]; omega
            have HR : Hid (NB = false) := hid (FALSE.out _ (fun h => (NO2.out h).2.1) (fun h => g1 (by rw [← HGE.out]; exact h)))
            clear g1
            go_wp2_with (go_at_call 72; refine (common_any _ _ (by omega) (by omega) (by omega) (by omega) _).mono ?_; rw [HGE.out]; rintro e w' ⟨rfl, kq, rfl⟩)
            go_ret
            exact ⟨retB HR.out.symm, below_drewN HB.out kq⟩
      · by_cases x0 : c = 0
        · have T0 : (c == 0) = true := by rw [beq_iff_eq]; exact x0
          have HR : Hid (NB = false) := hid (FALSE.out _ (fun h => (NO1.out h).1.2.2) (fun h => h x0))
          clear x0
          go_wp2_with fail
          go_ret
          exact ⟨retB HR.out.symm, HB.out⟩
        · have T0 : (c == 0) = false := by rw [beq_eq_false_iff_ne]; exact x0
          have HX0 := hid x0
          obtain ⟨G, hG⟩ : ∃ G, G = Nat.gcd c.natAbs a.natAbs := ⟨_, rfl⟩
          have HGE : Hid (Nat.gcd c.natAbs a.natAbs = G) := hid hG.symm
          have rx := root_30k x0 c1 c2
          obtain ⟨R, hR⟩ : ∃ R, R = rootG c := ⟨_, rfl⟩
          rw [← hR] at rx
          have rx1 := rx.1
          have rx2 := rx.2
          have HRE : Hid (rootG c = R) := hid hR.symm
          clear hG hR rx x0
          by_cases g1 : G = 1
          · have TG : ((G : Int) != 1) = false := by rw [bne_eq_false_iff_eq]; omega
            have HG1 : Hid (Nat.gcd c.natAbs a.natAbs = 1) := hid (by rw [HGE.out]; exact g1)
            clear g1
            by_cases r1 : R = 1
            · have TR : ((R : Int) != 1) = false := by rw [bne_eq_false_iff_eq]; omega
              have HR1 : Hid (rootG c = 1) := hid (by rw [HRE.out]; exact r1)
              clear r1
              go_wp2_with (first | (go_at_call 72; refine (common_any _ _ (by omega) (by omega) (by omega) (by omega) _).mono ?_; rw [HGE.out]; rintro e w' ⟨rfl, kq, rfl⟩) | (go_at_call 74; refine (numCore_any _ HX0.out (by omega) (by omega) _).mono ?_; rw [HRE.out]; rintro e w3 ⟨rfl, hb3⟩))
              have HB3 := hid ((below_drewN HB.out kq).trans (hb3.mono (below_drewN HB.out kq).size))
              clear hb3
              go_roundw
              case measure => simp only [intOf]; omega
              case rel => exact ⟨3, _, by first | rfl | go_num, rfl, .inr (.inr (.inr (⟨rfl, by first | rfl | (simp)⟩))), hid ⟨fun h => HS.out.1 (by omega), fun h => HS.out.2.1 (by omega), fun h => ⟨HX0.out, HG1.out, HR1.out⟩⟩, HB3⟩
            · have TR : ((R : Int) != 1) = true := by rw [bne_iff_ne]; omega
              have HR : Hid (NB = false) := hid (FALSE.out _ (fun h => (NO1.out h).2.2.2) (fun h => r1 (by rw [← HRE.out]; exact h)))
              clear r1
              go_wp2_with (first | (go_at_call 72; refine (common_any _ _ (by omega) (by omega) (by omega) (by omega) _).mono ?_; rw [HGE.out]; rintro e w' ⟨rfl, kq, rfl⟩) | (go_at_call 74; refine (numCore_any _ HX0.out (by omega) (by omega) _).mono ?_; rw [HRE.out]; rintro e w3 ⟨rfl, hb3⟩))
              go_ret
              exact ⟨retB HR.out.symm, (below_drewN HB.out kq).trans (hb3.mono (below_drewN HB.out kq).size)⟩
          · have TG : ((G : Int) != 1) = true := by rw [bne_iff_ne]; omega
            have HR : Hid (NB = false) := hid (FALSE.out _ (fun h => (NO2.out h).2.2) (fun h => g1 (by rw [← HGE.out]; exact h)))
            clear g1
            go_wp2_with (go_at_call 72; refine (common_any _ _ (by omega) (by omega) (by omega) (by omega) _).mono ?_; rw [HGE.out]; rintro e w' ⟨rfl, kq, rfl⟩)
            go_ret
            exact ⟨retB HR.out.symm, below_drewN HB.out kq⟩
      · have HE := hid (END.out HS.out)
        obtain ⟨S, hS⟩ : ∃ S, S = (a * b * c).natAbs := ⟨_, rfl⟩
        rw [← hS] at HE
        have HSE : Hid ((a * b * c).natAbs = S) := hid hS.symm
        clear hS
        by_cases hle : S ≤ 30000
        · have hi : (S : Int) ≤ 30000 := by omega
          rw [decide_eq_true hle] at HE
          clear hle
          go_wp2_with (go_at_call 51; refine (size_any _ (by omega) (by omega) _).mono ?_; rw [HSE.out]; rintro e w' ⟨rfl, rfl⟩)
          go_ret
          exact ⟨retB HE.out.symm, HB.out⟩
        · have hi : ¬ (S : Int) ≤ 30000 := by omega
          have HDI := hid (decide_eq_false hi)
          rw [decide_eq_false hle] at HE
          clear hle
          go_wp2_with (go_at_call 51; refine (size_any _ (by omega) (by omega) _).mono ?_; rw [HSE.out]; rintro e w' ⟨rfl, rfl⟩)
          go_ret
          exact ⟨retB (by rw [HE.out]; exact HDI.out), HB.out⟩

theorem root_is {q : Int} {X : Nat} (h1 : (X : Int) * X ≤ q) (h2 : ∀ r : Nat, (r : Int) * r ≤ q → r ≤ X) : rootO q = if (X : Int) * X = q then some X else none := by
  by_cases e : (X : Int) * X = q
  · rw [if_pos e]; exact rootO_of e
  · rw [if_neg e]
    refine rootO_none fun z hz => ?_
    have h3 := h2 z (by omega)
    rcases Nat.lt_or_ge z X with h | h
    · have h4 := sq_mono (show z + 1 ≤ X by omega)
      have h5 : ((z + 1 : Nat) : Int) * ((z + 1 : Nat) : Int) = (z : Int) * z + 2 * z + 1 := by push_cast; rw [Int.add_mul, Int.mul_add]; omega
      omega
    · have : z = X := by omega
      subst this
      exact e hz

theorem root_post {q : Int} {e : Ending} (h : RootPost q e) : ∃ (rv : Int) (rok : Bool), e = .returned (.tuple #[.int .i64 rv, .bool rok]) ∧ (rok = true → ∃ z : Nat, rv = z ∧ rootO q = some z) ∧ (rok = false → rootO q = none) := by
  rcases h with ⟨h0, rfl⟩ | ⟨X, h0, rfl, h1, h2⟩
  · refine ⟨0, false, rfl, fun h => (by cases h), fun _ => ?_⟩
    unfold rootO
    rw [if_pos h0]
  · refine ⟨X, _, rfl, fun h => ⟨X, rfl, ?_⟩, fun h => ?_⟩
    · rw [beq_iff_eq] at h
      exact rootO_of h
    · rw [beq_eq_false_iff_ne] at h
      rw [root_is h1 h2, if_neg h]

set_option maxRecDepth 100000 in
set_option maxHeartbeats 4000000 in
theorem zeroSearch_any (v : Value) (xs : List Int) (w : World) (h : Rd w v xs) : Calls Try.prog 23 #[v] w (SearchPost (zsearchO xs) w) := by
  have HH := hid h
  cases hn : nrmB xs with
  | false =>
    have HN := hid hn
    have HR : Hid (zsearchO xs = none) := hid (by unfold zsearchO; rw [hn]; rfl)
    obtain ⟨ad, cap, rfl, _⟩ := h.form
    clear hn h
    go_enter Try.func23, Try.ntmps23
    go_wp2_with (go_at_call 50; refine (normalValid_any _ xs _ HH.out).mono ?_; rw [HN.out]; rintro e w2 ⟨rfl, hb2⟩)
    go_ret2
    refine ⟨_, by rw [HR.out]; rfl, ?_, hb2.alloc hb2.size _⟩
    rw [HR.out]
    exact World.ownsRow_made (size := 1) _ #[] 0 hb2.size (by unfold maxLen; omega) rfl
  | true =>
    have HN := hid hn
    have HR0 : Hid (zsearchO xs = searchO (T3.of xs)) := hid (by unfold zsearchO; rw [hn]; rfl)
    obtain ⟨a, b, c, rfl, hlim⟩ := nrmB_lim hn
    have hn4 := (nrmB_iff.1 hn).2.2.2.1
    rw [Int.natAbs_mul, Int.natAbs_mul] at hn4
    have HR : Hid (zsearchO [a, b, c] = searchO ⟨a, b, c⟩) := hid HR0.out
    obtain ⟨g, o, cap, rfl, k0, k1, k2⟩ := rd_three h
    have HK : Hid (∀ W : World, Below w.heap.size w W → W.cell? ⟨g, o, none⟩ = some (.int .i64 a) ∧ W.cell? ⟨g, o + 1, none⟩ = some (.int .i64 b) ∧ W.cell? ⟨g, o + 2, none⟩ = some (.int .i64 c)) := hid (fun W hW => by
      obtain ⟨g2, o2, cap2, e, j⟩ := rd_three (HH.out.keep hW)
      cases e
      exact j)
    have hlz : (T3.mk a b c).Lim := hlim
    obtain ⟨⟨a0, b0, c0⟩, ha, hb, hc, hbc, hac⟩ := hlz
    dsimp only at a0 b0 c0 ha hb hc hbc hac
    have C0 : (c == 0) = false := by rw [beq_eq_false_iff_ne]; exact c0
    have hAN : a.natAbs * (b * c).natAbs ≤ 30000 := by rw [Int.natAbs_mul, ← Nat.mul_assoc]; exact hn4
    have hBM : b.natAbs * (a * c).natAbs ≤ 30000 := by rw [Int.natAbs_mul, ← Nat.mul_assoc, Nat.mul_comm b.natAbs]; exact hn4
    obtain ⟨N, hN⟩ : ∃ N, N = (b * c).natAbs := ⟨_, rfl⟩
    obtain ⟨M, hM⟩ : ∃ M, M = (a * c).natAbs := ⟨_, rfl⟩
    rw [← hN] at hbc hAN
    rw [← hM] at hac hBM
    have HNE := hid hN
    have HME := hid hM
    have eN : Hid (searchO ⟨a, b, c⟩ = firstO (rowO ⟨a, b, c⟩) N) := hid (by unfold searchO; rw [hN])
    have eM : Hid (∀ x, rowO ⟨a, b, c⟩ x = firstO (hitO ⟨a, b, c⟩ x) M) := hid (fun x => by unfold rowO; rw [hM])
    have n1 : -30000 ≤ b * c := by omega
    have n2 : b * c ≤ 30000 := by omega
    have m1 : -30000 ≤ a * c := by omega
    have m2 : a * c ≤ 30000 := by omega
    clear h hn hlim a0 b0 hN hM hn4 k0 k1 k2
    go_enter Try.func23, Try.ntmps23
    go_wp2_with fail
    refine (normalValid_any _ [a, b, c] _ HH.out).mono ?_
    rw [HN.out]
    rintro e w2 ⟨rfl, hb2⟩
    obtain ⟨j0, j1, j2⟩ := HK.out w2 hb2
    go_wp2_with fail
    go_quiet (fail)
    have HBQ := hid (below_drewN hb2 nq)
    clear hb2 j0 j1 j2
    generalize w2.drewN nq = wq at HBQ ⊢
    have hsq := HBQ.out.size
    go_wp2_with fail
    go_loop [7] (fun sx => ∃ X : Nat, sx = .int .i64 X ∧ X ≤ 1000 ∧ Hid (∀ i, i < X → rowO ⟨a, b, c⟩ i = none)) (fun sx => 1001 - (intOf sx).toNat)
    case atStart => exact ⟨0, rfl, by omega, hid (fun i hi => by omega)⟩
    case round =>
      obtain ⟨X, rfl, hX, HX⟩ := hrel
      have hXX := Nat.mul_le_mul hX hX
      have eXX : (X : Int) * X = ((X * X : Nat) : Int) := by push_cast; rfl
      have x1 : 0 ≤ (X : Int) * X := by rw [eXX]; omega
      have x2 : (X : Int) * X ≤ 1000000 := by rw [eXX]; omega
      by_cases hle : X * X ≤ N
      · have hle' : (X : Int) * X ≤ (N : Int) := by rw [eXX]; omega
        have hXL : X ≤ 999 := by
          refine Classical.byContradiction fun h => ?_
          have := Nat.mul_le_mul (show 1000 ≤ X by omega) (show 1000 ≤ X by omega)
          omega
        have hsx := sqz_mul (Nat.le_refl a.natAbs) hle (by omega)
        have HLE := hid hle
        have ax := hsx.1
        have axx : (a * (X : Int) * (X : Int)).natAbs ≤ 30000 := Nat.le_trans hsx.2 hAN
        have ax1 : -30000000 ≤ a * (X : Int) := by omega
        have ax2 : a * (X : Int) ≤ 30000000 := by omega
        have axx1 : -30000 ≤ a * (X : Int) * (X : Int) := by omega
        have axx2 : a * (X : Int) * (X : Int) ≤ 30000 := by omega
        clear hsx ax axx hle eXX hXX
        go_wp2_with (go_at_call 51; refine (size_any _ (by omega) (by omega) _).mono ?_; rw [← HNE.out]; rintro e w' ⟨rfl, rfl⟩)
        go_loop [8] (fun sy => ∃ Y : Nat, sy = .int .i64 Y ∧ Y ≤ 1000 ∧ Hid (∀ i, i < Y → hitO ⟨a, b, c⟩ X i = none)) (fun sy => 1001 - (intOf sy).toNat)
        case atStart => exact ⟨0, rfl, by omega, hid (fun i hi => by omega)⟩
        case round =>
          obtain ⟨Y, rfl, hY, HY⟩ := hrel
          have hYY := Nat.mul_le_mul hY hY
          have eYY : (Y : Int) * Y = ((Y * Y : Nat) : Int) := by push_cast; rfl
          have y1 : 0 ≤ (Y : Int) * Y := by rw [eYY]; omega
          have y2 : (Y : Int) * Y ≤ 1000000 := by rw [eYY]; omega
          by_cases hle2 : Y * Y ≤ M
          · have hle2' : (Y : Int) * Y ≤ (M : Int) := by rw [eYY]; omega
            have hYL : Y ≤ 999 := by
              refine Classical.byContradiction fun h => ?_
              have := Nat.mul_le_mul (show 1000 ≤ Y by omega) (show 1000 ≤ Y by omega)
              omega
            have hsy := sqz_mul (Nat.le_refl b.natAbs) hle2 (by omega)
            have HLE2 := hid hle2
            have by' := hsy.1
            have byy : (b * (Y : Int) * (Y : Int)).natAbs ≤ 30000 := Nat.le_trans hsy.2 hBM
            have by1 : -30000000 ≤ b * (Y : Int) := by omega
            have by2 : b * (Y : Int) ≤ 30000000 := by omega
            have byy1 : -30000 ≤ b * (Y : Int) * (Y : Int) := by omega
            have byy2 : b * (Y : Int) * (Y : Int) ≤ 30000 := by omega
            have NEXT : Hid (hitO ⟨a, b, c⟩ X Y = none → ∀ i, i < Y + 1 → hitO ⟨a, b, c⟩ X i = none) := hid (fun h i hi => by
              by_cases e : i = Y
              · rw [e]; exact h
              · exact HY.out i (by omega))
            have HT : topI ⟨a, b, c⟩ X Y = -(a * (X : Int) * (X : Int) + b * (Y : Int) * (Y : Int)) := by unfold topI; dsimp only; omega
            have HTH := hid HT
            clear hsy by' byy hle2 eYY hYY HT
            by_cases hd : (a * (X : Int) * (X : Int) + b * (Y : Int) * (Y : Int)).tmod c = 0
            · have T1 : ((a * (X : Int) * (X : Int) + b * (Y : Int) * (Y : Int)).tmod c != 0) = false := by rw [bne_eq_false_iff_eq]; exact hd
              have hd2 : topI ⟨a, b, c⟩ X Y % (T3.mk a b c).c = 0 := by rw [HTH.out]; exact Int.emod_eq_zero_of_dvd (Int.dvd_neg.2 (Int.dvd_of_tmod_eq_zero hd))
              by_cases hz : X = 0 ∧ Y = 0
              · have HN2 := hid (NEXT.out (hit_zero hz))
                obtain ⟨hX0, hY0⟩ := hz
                have X0 : ((X : Int) == 0) = true := by rw [beq_iff_eq]; omega
                have Y0 : ((Y : Int) == 0) = true := by rw [beq_iff_eq]; omega
                clear hd2 hX0 hY0 hd
                go_wp2_with (go_at_call 51; refine (size_any _ (by omega) (by omega) _).mono ?_; rw [← HME.out]; rintro e w' ⟨rfl, rfl⟩)
                go_round
                case measure => simp only [intOf]; omega
                case rel => exact ⟨Y + 1, by go_num, by omega, HN2⟩
              · have hr := hit_root (t := ⟨a, b, c⟩) hz hd2
                rw [HTH.out, show (T3.mk a b c).c = c from rfl] at hr
                have hqb : ((-(a * (X : Int) * (X : Int) + b * (Y : Int) * (Y : Int))).tdiv c).natAbs ≤ 60000 := by
                  rw [Int.natAbs_tdiv]
                  exact Nat.le_trans (Nat.div_le_self _ _) (by omega)
                obtain ⟨q, hq⟩ : ∃ q, q = (-(a * (X : Int) * (X : Int) + b * (Y : Int) * (Y : Int))).tdiv c := ⟨_, rfl⟩
                rw [← hq] at hr hqb
                have hq1 : ((-(a * (X : Int) * (X : Int) + b * (Y : Int) * (Y : Int))).tdiv c) = q := hq.symm
                have hq2 : -((a * (X : Int) * (X : Int) + b * (Y : Int) * (Y : Int)).tdiv c) = q := by rw [hq, Int.neg_tdiv]
                have HRT := hid hr
                have hz2 : ((X : Int) == 0) = true ∧ ((Y : Int) == 0) = false ∨ ((X : Int) == 0) = false := by
                  by_cases hX0 : X = 0
                  · exact .inl ⟨by rw [beq_iff_eq]; omega, by rw [beq_eq_false_iff_ne]; exact fun h => hz ⟨hX0, by omega⟩⟩
                  · exact .inr (by rw [beq_eq_false_iff_ne]; omega)
                clear hd2 hr hz hd hq
                rcases hz2 with ⟨X0, Y0⟩ | X0
                all_goals
                  go_wp2_with (go_at_call 51; refine (size_any _ (by omega) (by omega) _).mono ?_; rw [← HME.out]; rintro e w' ⟨rfl, rfl⟩)
                  refine (squareRoot_any q (by omega) _).mono ?_
                  rintro e w' ⟨hroot, rfl⟩
                  obtain ⟨rv, rok, rfl, hrv⟩ := root_post hroot
                  clear hroot
                  cases rok with
                  | true =>
                    obtain ⟨z, rfl, hzr⟩ := hrv.1 rfl
                    have HS : Hid (zsearchO [a, b, c] = some [(X : Int), (Y : Int), (z : Int)]) := hid (by
                      rw [HR.out, eN.out]
                      refine first_some HX.out HLE.out ?_
                      rw [eM.out]
                      refine first_some HY.out HLE2.out ?_
                      rw [HRT.out, hzr]; rfl)
                    clear hzr hrv
                    go_wp2_with fail
                    go_ret2
                    refine ⟨_, by rw [HS.out]; rfl, ?_, HBQ.out.alloc hsq _⟩
                    rw [HS.out]
                    exact owns_lit [(X : Int), (Y : Int), (z : Int)] _ rfl hsq (by unfold maxLen; simp)
                  | false =>
                    have HN2 := hid (NEXT.out (by rw [HRT.out, hrv.2 rfl]; rfl))
                    clear hrv
                    go_wp2_with fail
                    go_round
                    case measure => simp only [intOf]; omega
                    case rel => exact ⟨Y + 1, by go_num, by omega, HN2⟩
            · have T1 : ((a * (X : Int) * (X : Int) + b * (Y : Int) * (Y : Int)).tmod c != 0) = true := by rw [bne_iff_ne]; exact hd
              have HN2 := hid (NEXT.out (hit_rest (by rw [HTH.out]; exact fun h => hd (Int.tmod_eq_zero_of_dvd (Int.dvd_neg.1 (Int.dvd_of_emod_eq_zero h))))))
              clear hd
              go_wp2_with (go_at_call 51; refine (size_any _ (by omega) (by omega) _).mono ?_; rw [← HME.out]; rintro e w' ⟨rfl, rfl⟩)
              go_round
              case measure => simp only [intOf]; omega
              case rel => exact ⟨Y + 1, by go_num, by omega, HN2⟩
          · have hle2' : ¬ (Y : Int) * Y ≤ (M : Int) := by rw [eYY]; omega
            have HRW : Hid (rowO ⟨a, b, c⟩ X = none) := hid (by rw [eM.out]; exact first_none HY.out hle2)
            clear hle2 eYY hYY
            go_wp2_with (go_at_call 51; refine (size_any _ (by omega) (by omega) _).mono ?_; rw [← HME.out]; rintro e w' ⟨rfl, rfl⟩)
            go_round
            case measure => simp only [intOf]; omega
            case rel => exact ⟨X + 1, by go_num, by omega, hid (fun i hi => by
              by_cases e : i = X
              · rw [e]; exact HRW.out
              · exact HX.out i (by omega))⟩
      · have hle' : ¬ (X : Int) * X ≤ (N : Int) := by rw [eXX]; omega
        have HS : Hid (zsearchO [a, b, c] = none) := hid (by rw [HR.out, eN.out]; exact first_none HX.out hle)
        clear hle eXX hXX
        go_wp2_with (go_at_call 51; refine (size_any _ (by omega) (by omega) _).mono ?_; rw [← HNE.out]; rintro e w' ⟨rfl, rfl⟩)
        go_ret2
        refine ⟨_, by rw [HS.out]; rfl, ?_, HBQ.out.alloc hsq _⟩
        rw [HS.out]
        exact World.ownsRow_made (size := 1) _ #[] 0 hsq (by unfold maxLen; omega) rfl


end Go.Proofs.Ytbhlgdleklfonab
namespace Go.Proofs.Ytbhlgdleklfonab.fnExactZeroSearch
open Go.ChangeShapes Go.WideShapes Go.ChangeAt Go.RowKit
open Go.ChangeMaps (open_string shut_string)
set_option linter.unusedVariables false
set_option maxRecDepth 100000 in
set_option maxHeartbeats 2000000 in
theorem walk  (a0 : Option Addr) (len0 cap0 : Nat) (z0 : List Int) (w : World) (w0 : IsRow .i64 w a0 len0 cap0 z0) :
    Calls Try.prog 6 #[.slice a0 len0 cap0] w fun e w' => e = .returned (.bool true) ∧ Below w.heap.size w w' := by
  obtain ⟨xs0, hxl0, hrd0⟩ := rd_row w0
  have RA0 := hid hrd0
  have HXL0 := hid hxl0
  clear hrd0 hxl0 w0
  by_cases hl0a : (1048576 : Int) < (len0 : Int)
  · go_enter Try.func6, Try.ntmps6
    go_wp2
    go_ret
    exact ⟨rfl, Below.refl _ _⟩
  have hl0 : xs0.length ≤ 1048576 := by have := HXL0.out; omega
  have HD0 : decide (xs0 = xs0) = true := by simp
  have B0 := hid (Below.refl w.heap.size w)
  obtain ⟨L, hL⟩ : ∃ L, L = (zsearchO xs0).getD [] := ⟨_, rfl⟩
  obtain ⟨c, hc⟩ : ∃ c : Bool, c = (zsearchO xs0).isSome := ⟨_, rfl⟩
  have hlen : L.length ≤ 1000 := by rw [hL]; exact zsearch_len xs0
  have S : Hid (∀ (v : Value) (w : World), Rd w v xs0 → Calls Try.prog 22 #[v] w fun e w' => ∃ u, e = .returned (.tuple #[u, .bool c]) ∧ Owns w' w.heap.size u (L) ∧ Below w.heap.size w w') := hid (fun v w  h0 => by rw [hL, hc]; exact zeroSearchS_any v xs0  w h0)
  have I : Hid (∀ (v : Value) (w : World), Rd w v xs0 → Calls Try.prog 23 #[v] w fun e w' => ∃ u, e = .returned (.tuple #[u, .bool c]) ∧ Owns w' w.heap.size u (L) ∧ Below w.heap.size w w') := hid (fun v w  h0 => by rw [hL, hc]; exact zeroSearch_any v xs0  w h0)
  have HDL : decide (L = L) = true := by simp
  have T1 : ((1 + (L.length : Int)) != 1 + L.length) = false := by simp
  have T2 : ¬ ((1 + (L.length : Int)) < 0) := by omega
  clear hL hc
  go_enter Try.func6, Try.ntmps6
  obtain ⟨W0, hW0⟩ : ∃ W0, W0 = w := ⟨_, rfl⟩
  have B0 : Hid (Below w.heap.size w W0) := hid (by rw [hW0]; exact Below.refl _ _)
  rw [← hW0]
  have HW0 := hid hW0
  clear hW0
  go_wp2_with fail
  refine (toIntS_any _ xs0 _ (RA0.out.keep2 B0.out) hl0).mono ?_
  rintro e W1 ⟨u0, rfl, o1, b1, f1⟩
  have Fu0 : Hid (Firm u0) := hid (.inr f1)
  clear f1
  have E1 := hid b1
  have s1 : W0.heap.size ≤ W1.heap.size := E1.out.size
  clear b1
  have B1 := hid (B0.out.trans (E1.out.mono B0.out.size))
  have Ou0_1 := hid o1
  have LTu0 := hid o1.lt
  clear o1
  go_wp2_with fail
  refine (S.out _ _ Ou0_1.out.rd).mono ?_
  rintro e W2 ⟨v0, rfl, o2, b2⟩
  have E2 := hid b2
  have s2 : W1.heap.size ≤ W2.heap.size := E2.out.size
  clear b2
  have B2 := hid (B1.out.trans (E2.out.mono B1.out.size))
  have Ou0_2 := hid (Ou0_1.out.keep Ou0_1.out.lt E2.out)
  have Ov0_2 := hid o2
  have LTv0 := hid o2.lt
  clear o2
  go_wp2_with fail
  refine (toIntS_any _ xs0 _ (RA0.out.keep2 B2.out) hl0).mono ?_
  rintro e W3 ⟨y0, rfl, o3, b3, f3⟩
  have Fy0 : Hid (Firm y0) := hid (.inr f3)
  clear f3
  have E3 := hid b3
  have s3 : W2.heap.size ≤ W3.heap.size := E3.out.size
  clear b3
  have B3 := hid (B2.out.trans (E3.out.mono B2.out.size))
  have Ov0_3 := hid (Ov0_2.out.keep Ov0_2.out.lt E3.out)
  have Oy0_3 := hid o3
  have LTy0 := hid o3.lt
  clear o3
  go_wp2_with fail
  refine (I.out _ _ Oy0_3.out.rd).mono ?_
  rintro e W4 ⟨v1, rfl, o4, b4⟩
  have E4 := hid b4
  have s4 : W3.heap.size ≤ W4.heap.size := E4.out.size
  clear b4
  have B4 := hid (B3.out.trans (E4.out.mono B3.out.size))
  have Ov0_4 := hid (Ov0_3.out.keep Ov0_3.out.lt E4.out)
  have Oy0_4 := hid (Oy0_3.out.keep Oy0_3.out.lt E4.out)
  have Ov1_4 := hid o4
  have LTv1 := hid o4.lt
  clear o4
  go_wp2_with fail
  refine (eqIntS_any _ _ L L _ Ov1_4.out.rd Ov0_4.out.rd).mono ?_
  rintro e W5 ⟨rfl, k5, hk5⟩
  have b5 : Below W4.heap.size W4 W5 := by rw [hk5]; exact below_drewN (Below.refl _ _) k5
  clear hk5
  have E5 := hid b5
  have s5 : W4.heap.size ≤ W5.heap.size := E5.out.size
  clear b5
  have B5 := hid (B4.out.trans (E5.out.mono B4.out.size))
  have Ov0_5 := hid (Ov0_4.out.keep Ov0_4.out.lt E5.out)
  have Oy0_5 := hid (Oy0_4.out.keep Oy0_4.out.lt E5.out)
  have Ov1_5 := hid (Ov1_4.out.keep Ov1_4.out.lt E5.out)
  go_wp2_with fail
  refine (toIntS_any _ xs0 _ (RA0.out.keep2 B5.out) hl0).mono ?_
  rintro e W6 ⟨t0, rfl, o6, b6, f6⟩
  have Ft0 : Hid (Firm t0) := hid (.inr f6)
  clear f6
  have E6 := hid b6
  have s6 : W5.heap.size ≤ W6.heap.size := E6.out.size
  clear b6
  have B6 := hid (B5.out.trans (E6.out.mono B5.out.size))
  have Ov0_6 := hid (Ov0_5.out.keep Ov0_5.out.lt E6.out)
  have Oy0_6 := hid (Oy0_5.out.keep Oy0_5.out.lt E6.out)
  have Ov1_6 := hid (Ov1_5.out.keep Ov1_5.out.lt E6.out)
  have Ot0_6 := hid o6
  have LTt0 := hid o6.lt
  clear o6
  go_wp2_with fail
  refine (eqIntS_any _ _ xs0 xs0 _ Oy0_6.out.rd Ot0_6.out.rd).mono ?_
  rintro e W7 ⟨rfl, k7, hk7⟩
  have b7 : Below W6.heap.size W6 W7 := by rw [hk7]; exact below_drewN (Below.refl _ _) k7
  clear hk7
  have E7 := hid b7
  have s7 : W6.heap.size ≤ W7.heap.size := E7.out.size
  clear b7
  have B7 := hid (B6.out.trans (E7.out.mono B6.out.size))
  have Ov0_7 := hid (Ov0_6.out.keep Ov0_6.out.lt E7.out)
  have Oy0_7 := hid (Oy0_6.out.keep Oy0_6.out.lt E7.out)
  have Ov1_7 := hid (Ov1_6.out.keep Ov1_6.out.lt E7.out)
  have Ot0_7 := hid (Ot0_6.out.keep Ot0_6.out.lt E7.out)
  go_wp2_with fail
  refine (markIntS2_any _ xs0 W2.heap.size 1 (by omega) (by omega) (by omega) _ Oy0_7.out).mono ?_
  rintro e W8 ⟨rfl, o8, b8, g8⟩
  have s8 : W7.heap.size ≤ W8.heap.size := b8.size
  have B8 := hid (B7.out.trans (b8.mono B2.out.size))
  have Ov0_8 := hid (Ov0_7.out.kept g8 (younger_apart (fun g h => Nat.lt_of_lt_of_le (LTv0.out g h) (by omega)) Oy0_7.out))
  have Ov1_8 := hid (Ov1_7.out.kept g8 (elder_apart (fun g h => Nat.lt_of_lt_of_le (LTy0.out g h) (by omega)) Ov1_7.out))
  have Oy0_8 := hid o8
  clear o8 b8 g8
  have TK : ¬ (1 + (xs0.length : Int) < 0) := by omega
  go_wp2_with fail
  refine (eqIntS_any _ _ L L _ Ov1_8.out.rd Ov0_8.out.rd).mono ?_
  rintro e W9 ⟨rfl, k9, hk9⟩
  have b9 : Below W8.heap.size W8 W9 := by rw [hk9]; exact below_drewN (Below.refl _ _) k9
  clear hk9
  have E9 := hid b9
  have s9 : W8.heap.size ≤ W9.heap.size := E9.out.size
  clear b9
  have B9 := hid (B8.out.trans (E9.out.mono B8.out.size))
  have Ov0_9 := hid (Ov0_8.out.keep Ov0_8.out.lt E9.out)
  have Ov1_9 := hid (Ov1_8.out.keep Ov1_8.out.lt E9.out)
  go_wp2_with fail
  refine (markIntS2_any _ L W3.heap.size 1 (by omega) (by omega) (by omega) _ Ov1_9.out).mono ?_
  rintro e W10 ⟨rfl, o10, b10, g10⟩
  have s10 : W9.heap.size ≤ W10.heap.size := b10.size
  have B10 := hid (B9.out.trans (b10.mono B3.out.size))
  have Ov0_10 := hid (Ov0_9.out.kept g10 (younger_apart (fun g h => Nat.lt_of_lt_of_le (LTv0.out g h) (by omega)) Ov1_9.out))
  have Ov1_10 := hid o10
  clear o10 b10 g10
  go_wp2_with fail
  refine (heldIntS_any _ L.length 1 (by omega) (by omega) (by omega) _ Ov1_10.out.rd).mono ?_
  rintro e w' ⟨rfl, rfl⟩
  go_wp2_with fail
  refine (toIntS_any _ xs0 _ (RA0.out.keep2 B10.out) hl0).mono ?_
  rintro e W11 ⟨z0, rfl, o11, b11, f11⟩
  have Fz0 : Hid (Firm z0) := hid (.inr f11)
  clear f11
  have E11 := hid b11
  have s11 : W10.heap.size ≤ W11.heap.size := E11.out.size
  clear b11
  have B11 := hid (B10.out.trans (E11.out.mono B10.out.size))
  have Ov0_11 := hid (Ov0_10.out.keep Ov0_10.out.lt E11.out)
  have Ov1_11 := hid (Ov1_10.out.keep Ov1_10.out.lt E11.out)
  have Oz0_11 := hid o11
  have LTz0 := hid o11.lt
  clear o11
  go_wp2_with fail
  refine (I.out _ _ Oz0_11.out.rd).mono ?_
  rintro e W12 ⟨v2, rfl, o12, b12⟩
  have E12 := hid b12
  have s12 : W11.heap.size ≤ W12.heap.size := E12.out.size
  clear b12
  have B12 := hid (B11.out.trans (E12.out.mono B11.out.size))
  have Ov0_12 := hid (Ov0_11.out.keep Ov0_11.out.lt E12.out)
  have Ov1_12 := hid (Ov1_11.out.keep Ov1_11.out.lt E12.out)
  have Oz0_12 := hid (Oz0_11.out.keep Oz0_11.out.lt E12.out)
  have Ov2_12 := hid o12
  have LTv2 := hid o12.lt
  clear o12
  go_wp2_with fail
  refine (eqIntS_any _ _ L L _ Ov2_12.out.rd Ov0_12.out.rd).mono ?_
  rintro e W13 ⟨rfl, k13, hk13⟩
  have b13 : Below W12.heap.size W12 W13 := by rw [hk13]; exact below_drewN (Below.refl _ _) k13
  clear hk13
  have E13 := hid b13
  have s13 : W12.heap.size ≤ W13.heap.size := E13.out.size
  clear b13
  have B13 := hid (B12.out.trans (E13.out.mono B12.out.size))
  have Ov0_13 := hid (Ov0_12.out.keep Ov0_12.out.lt E13.out)
  have Ov1_13 := hid (Ov1_12.out.keep Ov1_12.out.lt E13.out)
  have Ov2_13 := hid (Ov2_12.out.keep Ov2_12.out.lt E13.out)
  go_wp2_with fail
  refine (heldIntS_any _ L.length 1 (by omega) (by omega) (by omega) _ Ov1_13.out.rd).mono ?_
  rintro e w' ⟨rfl, rfl⟩
  go_wp2
  go_ret
  exact ⟨rfl, by have h := B13.out; rw [← HW0.out] at h; exact h⟩
theorem own : ownKnob Try.prog.godebug = none := by kernel_rfl
theorem laidOut : laidOutB Try.prog = true := by kernel_rfl
set_option maxRecDepth 100000 in
theorem lifted (os : Os) (started : os.Started) (H : Type) (enc : TypeId × Value → H) :
    ReturnsInHanded {} Try.checked os 6 .any (Rows.fnExactZeroSearchSpec.pre6 enc Try.prog Try.f6 Rows.fnExactZeroSearchRow.domain false) (Rows.fnExactZeroSearchSpec.post enc Try.prog Try.f6 false true false false) := by
  refine returnsInHanded_of_change (C := Try.checked) own started (by kernel_rfl) Try.func6
    (ChangeSpec.witness6 (enc := enc) (C := Try.checked) false ⟨#[], #[.slice none 0 0], []⟩ 8 (by kernel_rfl) (by kernel_rfl) (by kernel_rfl) (by kernel_rfl)) ?_
  intro W base args ds gs before hval0 hW hcnd _
  have hval : ∀ (j : Nat) t v, Try.f6.params[j]? = some t → args[j]? = some v → Value.okWide Try.prog W .any base t v := hval0
  have hW' := hW
  obtain ⟨p, q, hA0, hV, rfl, hfz, hnd⟩ := hW
  have hA : DataW.TrodAll enc Try.prog W 0 (fun _ => true) true Try.f6.params.toList args.toList ds p := hA0
  rw [Try.params6] at hA hval
  obtain ⟨v0, vs0, d0, ds0, p0, q0, hargs, rfl, rfl, h0, r0⟩ := trodAll_cons hA
  obtain ⟨rfl, rfl, rfl⟩ := trodAll_nil r0
  obtain rfl : args = #[v0] := by cases args; simp_all
  obtain ⟨rfl, rfl⟩ := trodVars_none hV
  obtain ⟨a0, len0, cap0, rfl⟩ := okWide_slice Try.underlying22 (hval 0 22 v0 rfl rfl)
  have k0 := h0
  have lt0 : ∀ x ∈ p0, x.block < W.heap.size := by obtain ⟨m, hm⟩ := k0; exact DataW.trod_lt m _ _ _ hm
  obtain ⟨z0, w0⟩ : ∃ zs, IsRow .i64 W a0 len0 cap0 zs := by
    obtain ⟨fuel, hf⟩ := h0
    rcases open_ints Try.underlying22 Try.underlying3 (by kernel_rfl) hf with ⟨hcs, _⟩ | ⟨x, l, c, zs, hcs, _, hl, hm, hz, _, hcell, hwz⟩
    · simp [Value.cells] at hcs
      obtain ⟨rfl, rfl, rfl⟩ := hcs
      exact ⟨[], .inl ⟨rfl, rfl, rfl, rfl⟩⟩
    · simp [Value.cells] at hcs
      obtain ⟨rfl, rfl, rfl⟩ := hcs
      exact ⟨zs, .inr ⟨_, rfl, hl, hm, by simpa using hz, hcell, hwz⟩⟩
  clear hA0 hval0
  refine (walk a0 len0 cap0 z0 W w0).mono fun e W' ⟨he, bel⟩ => ?_
  subst he
  exact ⟨_, rfl, _, _, _, [], _, [], hW', trodAll_mk1 (shut_bool Try.underlying4 _), (trodAll_cons_mk (Below.trod laidOut (by kernel_rfl) (of_decide_eq_true (by kernel_rfl)) k0 bel lt0) trodAll_mk0), rfl, bel.frame _, fun h => by cases h⟩
theorem over : Rows.fnExactZeroSearchRow.holds Try.pinned (OpenSpec.ofChange Rows.fnExactZeroSearchSpec) :=
  OpenClaim.holds_of_wide 6 Try.f6 rfl rfl rfl rfl rfl rfl rfl ⟨rfl, rfl, rfl, rfl, rfl⟩ rfl rfl rfl rfl rfl (by kernel_rfl) Try.func6 (by kernel_rfl)
    (of_decide_eq_true (by kernel_rfl)) (by unfold Func.isWrapper; first | (rw [if_pos (by decide +kernel)]; kernel_rfl) | (rw [if_neg (by decide +kernel)]; exact ⟨rfl, rfl⟩))
    (fun os started H enc _ => lifted os started H enc)
theorem proved : Rows.FnExactZeroSearchSaid := over
end Go.Proofs.Ytbhlgdleklfonab.fnExactZeroSearch
