/-
  Some texts in one file: RdCut Draws10 FmLen Lift Loc3.
-/
import Derived.Test.YtdclmjmefkgbbabQBun3
import Derived.Test.YtdclmjmefkgbbabQBun28
import Derived.Test.YtdclmjmefkgbbabQOwn2
import Derived.Test.YtdclmjmefkgbbabQBun14
import Derived.Test.YtdclmjmefkgbbabQBun8
/-! RdCut -/
set_option linter.unusedVariables false
namespace Go.Proofs.Ytdclmjmefkgbbab
open Go.RowKit

theorem Rd.drop {W : World} {g o n cap k : Nat} {xs : List Int} (h : Rd W (.slice (some ⟨g, o, none⟩) n cap) xs) (hk : k ≤ n) (hn : xs.length = n) : Rd W (.slice (some ⟨g, o + k, none⟩) (n - k) (cap - k)) (xs.drop k) := by
  subst hn
  by_cases h0 : xs.length = k
  · exact .inl ⟨_, _, by rw [h0, Nat.sub_self], List.drop_eq_nil_of_le (by omega)⟩
  · rcases h with ⟨a, c, hv, hx⟩ | ⟨b, o', c, hv, hl, hm, hc⟩
    · subst hx; have e : ([] : List Int).length = 0 := rfl; omega
    · simp only [Value.slice.injEq, Option.some.injEq, Addr.mk.injEq, and_true, true_and] at hv
      obtain ⟨⟨rfl, rfl⟩, rfl⟩ := hv
      refine .inr ⟨g, o + k, cap - k, by rw [List.length_drop], by rw [List.length_drop]; omega, by rw [List.length_drop]; omega, fun i hi => ?_⟩
      rw [List.length_drop] at hi
      have := hc (k + i) (by omega)
      rw [show o + k + i = o + (k + i) by omega, this]
      simp [List.getD]
theorem Rd.cut {W : World} {g o n cap k : Nat} {xs : List Int} (h : Rd W (.slice (some ⟨g, o, none⟩) n cap) xs) (hk : k ≤ n) (hn : xs.length = n) (hc : n ≤ cap) : Rd W (.slice (if cap = k then some ⟨g, o, none⟩ else some ⟨g, o + k, none⟩) (n - k) (cap - k)) (xs.drop k) := by
  by_cases e : cap = k
  · exact .inl ⟨_, _, by rw [show n - k = 0 by omega], List.drop_eq_nil_of_le (by omega)⟩
  · rw [if_neg e]
    exact h.drop hk hn
theorem Rd.take {W : World} {g o n cap k c : Nat} {xs : List Int} (h : Rd W (.slice (some ⟨g, o, none⟩) n cap) xs) (hk : k ≤ n) (hn : xs.length = n) (hcc : cap ≤ c := by exact Nat.le_refl _) : Rd W (.slice (some ⟨g, o, none⟩) k c) (xs.take k) := by
  subst hn
  by_cases h0 : k = 0
  · exact .inl ⟨_, _, by rw [h0], by rw [h0]; rfl⟩
  · rcases h with ⟨a, c, hv, hx⟩ | ⟨b, o', c', hv, hl, hm, hc⟩
    · subst hx; simp at hk; omega
    · simp only [Value.slice.injEq, Option.some.injEq, Addr.mk.injEq, and_true, true_and] at hv
      obtain ⟨⟨rfl, rfl⟩, rfl⟩ := hv
      have e : (xs.take k).length = k := by rw [List.length_take]; omega
      refine .inr ⟨g, o, c, by rw [e], by omega, by omega, fun i hi => ?_⟩
      rw [e] at hi
      rw [hc i (by omega)]
      simp [List.getD, hi]

end Go.Proofs.Ytdclmjmefkgbbab

/-! Draws10 -/
set_option linter.unusedVariables false
namespace Go.Proofs.Ytdclmjmefkgbbab
open Go.RowKit

/-- a slice cut at its head -/
theorem firm_cut (c : Prop) [Decidable c] (x y : Addr) (n k : Nat) : Firm (.slice (if c then some x else some y) n k) := by
  by_cases h : c
  · rw [if_pos h]; exact .inr ⟨_, _, _, rfl⟩
  · rw [if_neg h]; exact .inr ⟨_, _, _, rfl⟩
theorem Owns.kept0 {W W' : World} {B : Nat} {v : Value} {xs : List Int} {g : Nat} (h : Owns W B v xs) (hg : W.grownBy W' (some g)) (hne : ∀ k, v.ownBlock = some k → k < g) : Owns W' B v xs :=
  World.ownsRow.kept h hg (by
    cases e : v.ownBlock with
    | none => exact .inl rfl
    | some k => exact .inr (fun e2 => by have := hne k e; cases e2; omega))
def VecGood (m : Nat) (ys : List Int) : Prop := ys.length ≤ m ∧ ∀ y ∈ ys, -1001 ≤ y ∧ y ≤ 1001
theorem VecOk.good {m : Nat} {ys : List Int} (h : VecOk m 9 ys) : VecGood m ys := ⟨by rw [h.1]; exact Nat.le_refl _, fun y hy => by have := h.2 y hy; omega⟩
theorem VecGood.drop {m k : Nat} {ys : List Int} (h : VecGood m ys) : VecGood m (ys.drop k) := ⟨by rw [List.length_drop]; have := h.1; omega, fun y hy => h.2 y (List.mem_of_mem_drop hy)⟩
theorem VecGood.set0 {m : Nat} {ys : List Int} {x : Int} (h : VecGood m ys) (h1 : -1001 ≤ x) (h2 : x ≤ 1001) : VecGood m (ys.set 0 x) :=
  ⟨by rw [List.length_set]; exact h.1, fun y hy => by
    rcases List.mem_or_eq_of_mem_set hy with h3 | h3
    · exact h.2 y h3
    · subst h3; exact ⟨h1, h2⟩⟩


end Go.Proofs.Ytdclmjmefkgbbab

/-! FmLen -/
set_option linter.unusedVariables false
namespace Go.Proofs.Ytdclmjmefkgbbab
open Go.RowKit

theorem fpl_len (xs : List Int) : (fplL xs).length ≤ 1000 := by
  unfold fplL
  cases hf : fvB xs with
  | false => simp
  | true =>
    have hp := prod_full hf
    obtain ⟨h1, h2, _⟩ := plistG_spec (show 0 < (prodI xs).natAbs by have := hp.1; omega)
    have h3 := asc_len _ 0 30 h2 (fun x hx => ⟨Nat.zero_le _, (small_prime (fvB_iff.1 hf).1 (h1 x hx).1 (h1 x hx).2).1⟩)
    rw [if_pos rfl]
    unfold placesG
    have h4 := List.length_filter_le (fun x : Int => decide (2 < x)) (natsI (plistG (prodI xs).natAbs))
    rw [natsI_len] at h4
    rw [List.length_append]
    simp only [List.length_cons, List.length_nil]
    omega
theorem bad_len (xs : List Int) : (badL xs).length ≤ 1000 := Nat.le_trans (List.length_filter_le _ _) (fpl_len xs)
theorem fcores_len (xs : List Int) : (fcoresL xs).length ≤ 1000 := by
  unfold fcoresL
  cases hf : fvB xs with
  | false => simp
  | true =>
    have := (fvB_iff.1 hf).2.2
    rw [if_pos rfl]
    unfold timesL
    rw [List.length_map]
    omega
theorem ftimes_len (xs : List Int) (n : Int) : (ftimesL xs n).length ≤ 1000 := by
  unfold ftimesL
  cases ht : timesOk xs n with
  | false => simp
  | true =>
    unfold timesOk at ht
    rw [Bool.and_eq_true] at ht
    have := (fvB_iff.1 ht.1).2.2
    rw [if_pos rfl]
    unfold timesL
    rw [List.length_map]
    omega
theorem join_len (xs ys : List Int) : (joinL xs ys).length ≤ 1000 := by
  unfold joinL
  cases ht : joinOk xs ys with
  | false => simp
  | true =>
    unfold joinOk at ht
    rw [Bool.and_eq_true, Bool.and_eq_true] at ht
    have := (fvB_iff.1 ht.2.2).2.2
    rw [if_pos rfl]
    omega

end Go.Proofs.Ytdclmjmefkgbbab

/-! Lift -/
set_option linter.unusedVariables false
namespace Go.Proofs.Ytdclmjmefkgbbab
open Go.RowKit

def liftF (n : Int) (M : Nat) (x : Int) : Bool := (x * x - n) % (M : Int) == 0
def liftBlk (n : Int) (P m : Nat) (R : List Int) (d : Nat) : List Int := (R.map (fun r => r + (d : Int) * (m : Int))).filter (liftF n (m * P))
def liftPre (n : Int) (P m : Nat) (R : List Int) (d : Nat) : List Int := (List.range d).flatMap (liftBlk n P m R)
def liftL (n : Int) (P : Nat) : Nat → List Int
  | 0 => [0]
  | i + 1 => liftPre n P (P ^ i) (liftL n P i) P

theorem liftPre_succ (n : Int) (P m : Nat) (R : List Int) (d : Nat) : liftPre n P m R (d + 1) = liftPre n P m R d ++ liftBlk n P m R d := by
  unfold liftPre
  rw [List.range_succ, List.flatMap_append]
  simp
theorem liftPre_zero (n : Int) (P m : Nat) (R : List Int) : liftPre n P m R 0 = [] := rfl
theorem liftBlk_len (n : Int) (P m : Nat) (R : List Int) (d : Nat) : (liftBlk n P m R d).length ≤ R.length := by
  unfold liftBlk
  exact Nat.le_trans (List.length_filter_le _ _) (by rw [List.length_map]; exact Nat.le_refl _)
theorem liftPre_len (n : Int) (P m : Nat) (R : List Int) : ∀ d, (liftPre n P m R d).length ≤ d * R.length
  | 0 => by rw [liftPre_zero]; simp
  | d + 1 => by
    rw [liftPre_succ, List.length_append, Nat.succ_mul]
    have := liftPre_len n P m R d
    have := liftBlk_len n P m R d
    omega
theorem lift_len (n : Int) (P : Nat) : ∀ i, (liftL n P i).length ≤ P ^ i
  | 0 => by simp [liftL]
  | i + 1 => by
    have h1 := liftPre_len n P (P ^ i) (liftL n P i) P
    have h2 := Nat.mul_le_mul_left P (lift_len n P i)
    show (liftPre n P (P ^ i) (liftL n P i) P).length ≤ P ^ (i + 1)
    rw [Nat.pow_succ, Nat.mul_comm (P ^ i)]
    exact Nat.le_trans h1 h2
theorem mem_blk {n : Int} {P m : Nat} {R : List Int} {d : Nat} {x : Int} : x ∈ liftBlk n P m R d ↔ ∃ r ∈ R, x = r + (d : Int) * (m : Int) ∧ (x * x - n) % ((m * P : Nat) : Int) = 0 := by
  unfold liftBlk liftF
  rw [List.mem_filter, List.mem_map]
  constructor
  · rintro ⟨⟨r, hr, rfl⟩, h⟩
    exact ⟨r, hr, rfl, by simpa using h⟩
  · rintro ⟨r, hr, rfl, h⟩
    exact ⟨⟨r, hr, rfl⟩, by simpa using h⟩
theorem mem_pre {n : Int} {P m : Nat} {R : List Int} {d : Nat} {x : Int} : x ∈ liftPre n P m R d ↔ ∃ c, c < d ∧ x ∈ liftBlk n P m R c := by
  unfold liftPre
  rw [List.mem_flatMap]
  simp only [List.mem_range]

theorem mem_lift {n : Int} {P : Nat} (hP : 1 ≤ P) : ∀ i x, x ∈ liftL n P i ↔ 0 ≤ x ∧ x < ((P ^ i : Nat) : Int) ∧ (x * x - n) % ((P ^ i : Nat) : Int) = 0
  | 0, x => by
    simp only [liftL, List.mem_singleton, Nat.pow_zero]
    constructor
    · rintro rfl
      exact ⟨by omega, by simp, by simp⟩
    · rintro ⟨h1, h2, _⟩
      have : ((1 : Nat) : Int) = 1 := rfl
      omega
  | i + 1, x => by
    have hm : 1 ≤ P ^ i := Nat.pow_pos (by omega)
    show x ∈ liftPre n P (P ^ i) (liftL n P i) P ↔ _
    rw [mem_pre]
    obtain ⟨m, hme⟩ : ∃ m, m = P ^ i := ⟨_, rfl⟩
    have e1 : P ^ (i + 1) = m * P := by rw [Nat.pow_succ, hme]
    rw [← hme] at hm
    rw [e1, ← hme]
    have ih := mem_lift (n := n) hP i
    rw [← hme] at ih
    constructor
    · rintro ⟨c, hc, hx⟩
      obtain ⟨r, hr, rfl, h⟩ := mem_blk.1 hx
      obtain ⟨r1, r2, _⟩ := (ih r).1 hr
      have hcm : (0 : Int) ≤ (c : Int) * (m : Int) := Int.mul_nonneg (by omega) (by omega)
      have hup : (c : Int) * (m : Int) + (m : Int) ≤ ((m * P : Nat) : Int) := by
        have := Nat.mul_le_mul_right m (show c + 1 ≤ P by omega)
        rw [Nat.succ_mul, Nat.mul_comm P m] at this
        have e2 : (c : Int) * (m : Int) = ((c * m : Nat) : Int) := by push_cast; rfl
        rw [e2]
        omega
      exact ⟨by omega, by omega, h⟩
    · rintro ⟨h1, h2, h3⟩
      obtain ⟨X, rfl⟩ := Int.eq_ofNat_of_zero_le h1
      have hX : X < m * P := by omega
      refine ⟨X / m, (Nat.div_lt_iff_lt_mul (by omega)).2 (by rw [Nat.mul_comm]; exact hX), mem_blk.2 ⟨((X % m : Nat) : Int), (ih _).2 ⟨by omega, by have := Nat.mod_lt X (show 0 < m by omega); omega, ?_⟩, ?_, h3⟩⟩
      · have hd : (m : Int) ∣ (X : Int) * X - n := by
          refine Int.dvd_trans ?_ (Int.dvd_of_emod_eq_zero h3)
          exact ⟨(P : Int), by push_cast; rfl⟩
        have e3 : ((X % m : Nat) : Int) * ((X % m : Nat) : Int) - n = ((X : Int) * X - n) - (m : Int) * ((X / m : Nat) : Int) * ((X : Int) + ((X % m : Nat) : Int)) := by
          have e4 : (X : Int) = (m : Int) * ((X / m : Nat) : Int) + ((X % m : Nat) : Int) := by
            have := Nat.div_add_mod X m
            exact_mod_cast this.symm
          obtain ⟨a, ha⟩ : ∃ a, a = (m : Int) * ((X / m : Nat) : Int) := ⟨_, rfl⟩
          obtain ⟨b, hb⟩ : ∃ b, b = ((X % m : Nat) : Int) := ⟨_, rfl⟩
          rw [← ha, ← hb] at e4
          rw [← ha, ← hb, e4]
          simp only [Int.mul_add, Int.add_mul, Int.mul_comm b a]
          omega
        rw [e3]
        exact Int.emod_eq_zero_of_dvd (Int.dvd_sub hd (Int.dvd_mul_of_dvd_left (Int.dvd_mul_right _ _)))
      · have := Nat.div_add_mod X m
        rw [Nat.mul_comm] at this
        have : (((X / m * m + X % m : Nat)) : Int) = (X : Int) := by rw [this]
        push_cast at this ⊢
        omega

theorem root_rest {n : Int} {M : Nat} (hM : 1 ≤ M) {x : Nat} : ((x : Int) * x - n) % (M : Int) = 0 ↔ x * x % M = (n % (M : Int)).toNat := by
  have h1 := Int.emod_nonneg n (show (M : Int) ≠ 0 by omega)
  have h2 : ((n % (M : Int)).toNat : Int) = n % (M : Int) := Int.toNat_of_nonneg h1
  have e : ((x * x % M : Nat) : Int) = (x : Int) * x % (M : Int) := by push_cast; rfl
  rw [← Int.emod_eq_emod_iff_emod_sub_eq_zero, ← e, ← h2]
  exact Int.ofNat_inj

/-- the least of the lifted roots is the least root by trial -/
theorem lift_root {n : Int} {P k : Nat} (hP : 1 ≤ P) {x : Int} (hx : x ∈ liftL n P k) (hmin : ∀ y ∈ liftL n P k, x ≤ y) : rootF (n % ((P ^ k : Nat) : Int)).toNat (P ^ k) = some x.toNat ∧ 0 ≤ x ∧ x < ((P ^ k : Nat) : Int) := by
  have hm : 1 ≤ P ^ k := Nat.pow_pos (by omega)
  obtain ⟨h1, h2, h3⟩ := (mem_lift hP k x).1 hx
  obtain ⟨X, rfl⟩ := Int.eq_ofNat_of_zero_le h1
  refine ⟨?_, h1, h2⟩
  rw [Int.toNat_natCast]
  refine find_at (by omega) (by rw [beq_iff_eq]; exact (root_rest hm).1 h3) fun j hj => ?_
  rw [beq_eq_false_iff_ne]
  intro e
  have := hmin (j : Int) ((mem_lift hP k _).2 ⟨by omega, by omega, (root_rest hm).2 e⟩)
  omega
theorem lift_none {n : Int} {P k : Nat} (hP : 1 ≤ P) (h : liftL n P k = []) : rootF (n % ((P ^ k : Nat) : Int)).toNat (P ^ k) = none := by
  have hm : 1 ≤ P ^ k := Nat.pow_pos (by omega)
  refine find_none fun j hj => ?_
  rw [beq_eq_false_iff_ne]
  intro e
  have := (mem_lift (n := n) hP k (j : Int)).2 ⟨by omega, by omega, (root_rest hm).2 e⟩
  rw [h] at this
  cases this

end Go.Proofs.Ytdclmjmefkgbbab

/-! Loc3 -/
set_option linter.unusedVariables false
namespace Go.Proofs.Ytdclmjmefkgbbab
open Go.RowKit

/-- what is read keeps its cells, and what is built lies elsewhere -/
def Aside2 (a : Option Addr) (so : Value) (w0 wr : World) : Prop := ∀ b o, a = some ⟨b, o, none⟩ → so.ownBlock ≠ some b ∧ wr.heap[b]? = w0.heap[b]?


end Go.Proofs.Ytdclmjmefkgbbab
