/-
  Some texts in one file: Sym5 Lift Loc3.
-/
import Derived.Test.YtciajpimpjpnfacSym4
import Derived.Test.YtciajpimpjpnfacBun7
/-! Sym5 -/
set_option linter.unusedVariables false
namespace Go.Proofs.Ytciajpimpjpnfac
open Go.RowKit



end Go.Proofs.Ytciajpimpjpnfac

/-! Lift -/
set_option linter.unusedVariables false
namespace Go.Proofs.Ytciajpimpjpnfac
open Go.RowKit

def liftF (n : Int) (M : Nat) (x : Int) : Bool := (x * x - n) % (M : Int) == 0
def liftBlk (n : Int) (P m : Nat) (R : List Int) (d : Nat) : List Int := (R.map (fun r => r + (d : Int) * (m : Int))).filter (liftF n (m * P))
def liftPre (n : Int) (P m : Nat) (R : List Int) (d : Nat) : List Int := (List.range d).flatMap (liftBlk n P m R)
def liftL (n : Int) (P : Nat) : Nat → List Int
  | 0 => [0]
  | i + 1 => liftPre n P (P ^ i) (liftL n P i) P

theorem liftPre_succ (n : Int) (P m : Nat) (R : List Int) (d : Nat) : liftPre n P m R (d + 1) = liftPre n P m R d ++ liftBlk n P m R d := by
  unfold liftPre
  rw [List.range_succ, List.flatMap_append]
  simp
theorem liftPre_zero (n : Int) (P m : Nat) (R : List Int) : liftPre n P m R 0 = [] := rfl
theorem liftBlk_len (n : Int) (P m : Nat) (R : List Int) (d : Nat) : (liftBlk n P m R d).length ≤ R.length := by
  unfold liftBlk
  exact Nat.le_trans (List.length_filter_le _ _) (by rw [List.length_map]; exact Nat.le_refl _)
theorem liftPre_len (n : Int) (P m : Nat) (R : List Int) : ∀ d, (liftPre n P m R d).length ≤ d * R.length
  | 0 => by rw [liftPre_zero]; simp
  | d + 1 => by
    rw [liftPre_succ, List.length_append, Nat.succ_mul]
    have := liftPre_len n P m R d
    have := liftBlk_len n P m R d
    omega
theorem lift_len (n : Int) (P : Nat) : ∀ i, (liftL n P i).length ≤ P ^ i
  | 0 => by simp [liftL]
  | i + 1 => by
    have h1 := liftPre_len n P (P ^ i) (liftL n P i) P
    have h2 := Nat.mul_le_mul_left P (lift_len n P i)
    show (liftPre n P (P ^ i) (liftL n P i) P).length ≤ P ^ (i + 1)
    rw [Nat.pow_succ, Nat.mul_comm (P ^ i)]
    exact Nat.le_trans h1 h2
theorem mem_blk {n : Int} {P m : Nat} {R : List Int} {d : Nat} {x : Int} : x ∈ liftBlk n P m R d ↔ ∃ r ∈ R, x = r + (d : Int) * (m : Int) ∧ (x * x - n) % ((m * P : Nat) : Int) = 0 := by
  unfold liftBlk liftF
  rw [List.mem_filter, List.mem_map]
  constructor
  · rintro ⟨⟨r, hr, rfl⟩, h⟩
    exact ⟨r, hr, rfl, by simpa using h⟩
  · rintro ⟨r, hr, rfl, h⟩
    exact ⟨⟨r, hr, rfl⟩, by simpa using h⟩
theorem mem_pre {n : Int} {P m : Nat} {R : List Int} {d : Nat} {x : Int} : x ∈ liftPre n P m R d ↔ ∃ c, c < d ∧ x ∈ liftBlk n P m R c := by
  unfold liftPre
  rw [List.mem_flatMap]
  simp only [List.mem_range]

theorem mem_lift {n : Int} {P : Nat} (hP : 1 ≤ P) : ∀ i x, x ∈ liftL n P i ↔ 0 ≤ x ∧ x < ((P ^ i : Nat) : Int) ∧ (x * x - n) % ((P ^ i : Nat) : Int) = 0
  | 0, x => by
    simp only [liftL, List.mem_singleton, Nat.pow_zero]
    constructor
    · rintro rfl
      exact ⟨by omega, by simp, by simp⟩
    · rintro ⟨h1, h2, _⟩
      have : ((1 : Nat) : Int) = 1 := rfl
      omega
  | i + 1, x => by
    have hm : 1 ≤ P ^ i := Nat.pow_pos (by omega)
    show x ∈ liftPre n P (P ^ i) (liftL n P i) P ↔ _
    rw [mem_pre]
    obtain ⟨m, hme⟩ : ∃ m, m = P ^ i := ⟨_, rfl⟩
    have e1 : P ^ (i + 1) = m * P := by rw [Nat.pow_succ, hme]
    rw [← hme] at hm
    rw [e1, ← hme]
    have ih := mem_lift (n := n) hP i
    rw [← hme] at ih
    constructor
    · rintro ⟨c, hc, hx⟩
      obtain ⟨r, hr, rfl, h⟩ := mem_blk.1 hx
      obtain ⟨r1, r2, _⟩ := (ih r).1 hr
      have hcm : (0 : Int) ≤ (c : Int) * (m : Int) := Int.mul_nonneg (by omega) (by omega)
      have hup : (c : Int) * (m : Int) + (m : Int) ≤ ((m * P : Nat) : Int) := by
        have := Nat.mul_le_mul_right m (show c + 1 ≤ P by omega)
        rw [Nat.succ_mul, Nat.mul_comm P m] at this
        have e2 : (c : Int) * (m : Int) = ((c * m : Nat) : Int) := by push_cast; rfl
        rw [e2]
        omega
      exact ⟨by omega, by omega, h⟩
    · rintro ⟨h1, h2, h3⟩
      obtain ⟨X, rfl⟩ := Int.eq_ofNat_of_zero_le h1
      have hX : X < m * P := by omega
      refine ⟨X / m, (Nat.div_lt_iff_lt_mul (by omega)).2 (by rw [Nat.mul_comm]; exact hX), mem_blk.2 ⟨((X % m : Nat) : Int), (ih _).2 ⟨by omega, by have := Nat.mod_lt X (show 0 < m by omega); omega, ?_⟩, ?_, h3⟩⟩
      · have hd : (m : Int) ∣ (X : Int) * X - n := by
          refine Int.dvd_trans ?_ (Int.dvd_of_emod_eq_zero h3)
          exact ⟨(P : Int), by push_cast; rfl⟩
        have e3 : ((X % m : Nat) : Int) * ((X % m : Nat) : Int) - n = ((X : Int) * X - n) - (m : Int) * ((X / m : Nat) : Int) * ((X : Int) + ((X % m : Nat) : Int)) := by
          have e4 : (X : Int) = (m : Int) * ((X / m : Nat) : Int) + ((X % m : Nat) : Int) := by
            have := Nat.div_add_mod X m
            exact_mod_cast this.symm
          obtain ⟨a, ha⟩ : ∃ a, a = (m : Int) * ((X / m : Nat) : Int) := ⟨_, rfl⟩
          obtain ⟨b, hb⟩ : ∃ b, b = ((X % m : Nat) : Int) := ⟨_, rfl⟩
          rw [← ha, ← hb] at e4
          rw [← ha, ← hb, e4]
          simp only [Int.mul_add, Int.add_mul, Int.mul_comm b a]
          omega
        rw [e3]
        exact Int.emod_eq_zero_of_dvd (Int.dvd_sub hd (Int.dvd_mul_of_dvd_left (Int.dvd_mul_right _ _)))
      · have := Nat.div_add_mod X m
        rw [Nat.mul_comm] at this
        have : (((X / m * m + X % m : Nat)) : Int) = (X : Int) := by rw [this]
        push_cast at this ⊢
        omega

theorem root_rest {n : Int} {M : Nat} (hM : 1 ≤ M) {x : Nat} : ((x : Int) * x - n) % (M : Int) = 0 ↔ x * x % M = (n % (M : Int)).toNat := by
  have h1 := Int.emod_nonneg n (show (M : Int) ≠ 0 by omega)
  have h2 : ((n % (M : Int)).toNat : Int) = n % (M : Int) := Int.toNat_of_nonneg h1
  have e : ((x * x % M : Nat) : Int) = (x : Int) * x % (M : Int) := by push_cast; rfl
  rw [← Int.emod_eq_emod_iff_emod_sub_eq_zero, ← e, ← h2]
  exact Int.ofNat_inj

/-- the least of the lifted roots is the least root by trial -/
theorem lift_root {n : Int} {P k : Nat} (hP : 1 ≤ P) {x : Int} (hx : x ∈ liftL n P k) (hmin : ∀ y ∈ liftL n P k, x ≤ y) : rootF (n % ((P ^ k : Nat) : Int)).toNat (P ^ k) = some x.toNat ∧ 0 ≤ x ∧ x < ((P ^ k : Nat) : Int) := by
  have hm : 1 ≤ P ^ k := Nat.pow_pos (by omega)
  obtain ⟨h1, h2, h3⟩ := (mem_lift hP k x).1 hx
  obtain ⟨X, rfl⟩ := Int.eq_ofNat_of_zero_le h1
  refine ⟨?_, h1, h2⟩
  rw [Int.toNat_natCast]
  refine find_at (by omega) (by rw [beq_iff_eq]; exact (root_rest hm).1 h3) fun j hj => ?_
  rw [beq_eq_false_iff_ne]
  intro e
  have := hmin (j : Int) ((mem_lift hP k _).2 ⟨by omega, by omega, (root_rest hm).2 e⟩)
  omega
theorem lift_none {n : Int} {P k : Nat} (hP : 1 ≤ P) (h : liftL n P k = []) : rootF (n % ((P ^ k : Nat) : Int)).toNat (P ^ k) = none := by
  have hm : 1 ≤ P ^ k := Nat.pow_pos (by omega)
  refine find_none fun j hj => ?_
  rw [beq_eq_false_iff_ne]
  intro e
  have := (mem_lift (n := n) hP k (j : Int)).2 ⟨by omega, by omega, (root_rest hm).2 e⟩
  rw [h] at this
  cases this

end Go.Proofs.Ytciajpimpjpnfac

/-! Loc3 -/
set_option linter.unusedVariables false
namespace Go.Proofs.Ytciajpimpjpnfac
open Go.RowKit

/-- what is read keeps its cells, and what is built lies elsewhere -/
def Aside2 (a : Option Addr) (so : Value) (w0 wr : World) : Prop := ∀ b o, a = some ⟨b, o, none⟩ → so.ownBlock ≠ some b ∧ wr.heap[b]? = w0.heap[b]?


end Go.Proofs.Ytciajpimpjpnfac
