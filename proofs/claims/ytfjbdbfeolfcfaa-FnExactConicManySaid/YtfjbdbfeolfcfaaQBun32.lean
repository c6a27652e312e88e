/-
  Some texts in one file: FmLen Lift Loc3 LawCls Draws11.
-/
import Derived.Test.YtfjbdbfeolfcfaaQBun14
import Derived.Test.YtfjbdbfeolfcfaaQBun6
import Derived.Test.YtfjbdbfeolfcfaaQBun31
/-! FmLen -/
set_option linter.unusedVariables false
namespace Go.Proofs.Ytfjbdbfeolfcfaa
open Go.RowKit

theorem fpl_len (xs : List Int) : (fplL xs).length ≤ 1000 := by
  unfold fplL
  cases hf : fvB xs with
  | false => simp
  | true =>
    have hp := prod_full hf
    obtain ⟨h1, h2, _⟩ := plistG_spec (show 0 < (prodI xs).natAbs by have := hp.1; omega)
    have h3 := asc_len _ 0 30 h2 (fun x hx => ⟨Nat.zero_le _, (small_prime (fvB_iff.1 hf).1 (h1 x hx).1 (h1 x hx).2).1⟩)
    rw [if_pos rfl]
    unfold placesG
    have h4 := List.length_filter_le (fun x : Int => decide (2 < x)) (natsI (plistG (prodI xs).natAbs))
    rw [natsI_len] at h4
    rw [List.length_append]
    simp only [List.length_cons, List.length_nil]
    omega
theorem bad_len (xs : List Int) : (badL xs).length ≤ 1000 := Nat.le_trans (List.length_filter_le _ _) (fpl_len xs)
theorem fcores_len (xs : List Int) : (fcoresL xs).length ≤ 1000 := by
  unfold fcoresL
  cases hf : fvB xs with
  | false => simp
  | true =>
    have := (fvB_iff.1 hf).2.2
    rw [if_pos rfl]
    unfold timesL
    rw [List.length_map]
    omega
theorem ftimes_len (xs : List Int) (n : Int) : (ftimesL xs n).length ≤ 1000 := by
  unfold ftimesL
  cases ht : timesOk xs n with
  | false => simp
  | true =>
    unfold timesOk at ht
    rw [Bool.and_eq_true] at ht
    have := (fvB_iff.1 ht.1).2.2
    rw [if_pos rfl]
    unfold timesL
    rw [List.length_map]
    omega
theorem join_len (xs ys : List Int) : (joinL xs ys).length ≤ 1000 := by
  unfold joinL
  cases ht : joinOk xs ys with
  | false => simp
  | true =>
    unfold joinOk at ht
    rw [Bool.and_eq_true, Bool.and_eq_true] at ht
    have := (fvB_iff.1 ht.2.2).2.2
    rw [if_pos rfl]
    omega

end Go.Proofs.Ytfjbdbfeolfcfaa

/-! Lift -/
set_option linter.unusedVariables false
namespace Go.Proofs.Ytfjbdbfeolfcfaa
open Go.RowKit

def liftF (n : Int) (M : Nat) (x : Int) : Bool := (x * x - n) % (M : Int) == 0
def liftBlk (n : Int) (P m : Nat) (R : List Int) (d : Nat) : List Int := (R.map (fun r => r + (d : Int) * (m : Int))).filter (liftF n (m * P))
def liftPre (n : Int) (P m : Nat) (R : List Int) (d : Nat) : List Int := (List.range d).flatMap (liftBlk n P m R)
def liftL (n : Int) (P : Nat) : Nat → List Int
  | 0 => [0]
  | i + 1 => liftPre n P (P ^ i) (liftL n P i) P

theorem liftPre_succ (n : Int) (P m : Nat) (R : List Int) (d : Nat) : liftPre n P m R (d + 1) = liftPre n P m R d ++ liftBlk n P m R d := by
  unfold liftPre
  rw [List.range_succ, List.flatMap_append]
  simp
theorem liftPre_zero (n : Int) (P m : Nat) (R : List Int) : liftPre n P m R 0 = [] := rfl
theorem liftBlk_len (n : Int) (P m : Nat) (R : List Int) (d : Nat) : (liftBlk n P m R d).length ≤ R.length := by
  unfold liftBlk
  exact Nat.le_trans (List.length_filter_le _ _) (by rw [List.length_map]; exact Nat.le_refl _)
theorem liftPre_len (n : Int) (P m : Nat) (R : List Int) : ∀ d, (liftPre n P m R d).length ≤ d * R.length
  | 0 => by rw [liftPre_zero]; simp
  | d + 1 => by
    rw [liftPre_succ, List.length_append, Nat.succ_mul]
    have := liftPre_len n P m R d
    have := liftBlk_len n P m R d
    omega
theorem lift_len (n : Int) (P : Nat) : ∀ i, (liftL n P i).length ≤ P ^ i
  | 0 => by simp [liftL]
  | i + 1 => by
    have h1 := liftPre_len n P (P ^ i) (liftL n P i) P
    have h2 := Nat.mul_le_mul_left P (lift_len n P i)
    show (liftPre n P (P ^ i) (liftL n P i) P).length ≤ P ^ (i + 1)
    rw [Nat.pow_succ, Nat.mul_comm (P ^ i)]
    exact Nat.le_trans h1 h2
theorem mem_blk {n : Int} {P m : Nat} {R : List Int} {d : Nat} {x : Int} : x ∈ liftBlk n P m R d ↔ ∃ r ∈ R, x = r + (d : Int) * (m : Int) ∧ (x * x - n) % ((m * P : Nat) : Int) = 0 := by
  unfold liftBlk liftF
  rw [List.mem_filter, List.mem_map]
  constructor
  · rintro ⟨⟨r, hr, rfl⟩, h⟩
    exact ⟨r, hr, rfl, by simpa using h⟩
  · rintro ⟨r, hr, rfl, h⟩
    exact ⟨⟨r, hr, rfl⟩, by simpa using h⟩
theorem mem_pre {n : Int} {P m : Nat} {R : List Int} {d : Nat} {x : Int} : x ∈ liftPre n P m R d ↔ ∃ c, c < d ∧ x ∈ liftBlk n P m R c := by
  unfold liftPre
  rw [List.mem_flatMap]
  simp only [List.mem_range]

theorem mem_lift {n : Int} {P : Nat} (hP : 1 ≤ P) : ∀ i x, x ∈ liftL n P i ↔ 0 ≤ x ∧ x < ((P ^ i : Nat) : Int) ∧ (x * x - n) % ((P ^ i : Nat) : Int) = 0
  | 0, x => by
    simp only [liftL, List.mem_singleton, Nat.pow_zero]
    constructor
    · rintro rfl
      exact ⟨by omega, by simp, by simp⟩
    · rintro ⟨h1, h2, _⟩
      have : ((1 : Nat) : Int) = 1 := rfl
      omega
  | i + 1, x => by
    have hm : 1 ≤ P ^ i := Nat.pow_pos (by omega)
    show x ∈ liftPre n P (P ^ i) (liftL n P i) P ↔ _
    rw [mem_pre]
    obtain ⟨m, hme⟩ : ∃ m, m = P ^ i := ⟨_, rfl⟩
    have e1 : P ^ (i + 1) = m * P := by rw [Nat.pow_succ, hme]
    rw [← hme] at hm
    rw [e1, ← hme]
    have ih := mem_lift (n := n) hP i
    rw [← hme] at ih
    constructor
    · rintro ⟨c, hc, hx⟩
      obtain ⟨r, hr, rfl, h⟩ := mem_blk.1 hx
      obtain ⟨r1, r2, _⟩ := (ih r).1 hr
      have hcm : (0 : Int) ≤ (c : Int) * (m : Int) := Int.mul_nonneg (by omega) (by omega)
      have hup : (c : Int) * (m : Int) + (m : Int) ≤ ((m * P : Nat) : Int) := by
        have := Nat.mul_le_mul_right m (show c + 1 ≤ P by omega)
        rw [Nat.succ_mul, Nat.mul_comm P m] at this
        have e2 : (c : Int) * (m : Int) = ((c * m : Nat) : Int) := by push_cast; rfl
        rw [e2]
        omega
      exact ⟨by omega, by omega, h⟩
    · rintro ⟨h1, h2, h3⟩
      obtain ⟨X, rfl⟩ := Int.eq_ofNat_of_zero_le h1
      have hX : X < m * P := by omega
      refine ⟨X / m, (Nat.div_lt_iff_lt_mul (by omega)).2 (by rw [Nat.mul_comm]; exact hX), mem_blk.2 ⟨((X % m : Nat) : Int), (ih _).2 ⟨by omega, by have := Nat.mod_lt X (show 0 < m by omega); omega, ?_⟩, ?_, h3⟩⟩
      · have hd : (m : Int) ∣ (X : Int) * X - n := by
          refine Int.dvd_trans ?_ (Int.dvd_of_emod_eq_zero h3)
          exact ⟨(P : Int), by push_cast; rfl⟩
        have e3 : ((X % m : Nat) : Int) * ((X % m : Nat) : Int) - n = ((X : Int) * X - n) - (m : Int) * ((X / m : Nat) : Int) * ((X : Int) + ((X % m : Nat) : Int)) := by
          have e4 : (X : Int) = (m : Int) * ((X / m : Nat) : Int) + ((X % m : Nat) : Int) := by
            have := Nat.div_add_mod X m
            exact_mod_cast this.symm
          obtain ⟨a, ha⟩ : ∃ a, a = (m : Int) * ((X / m : Nat) : Int) := ⟨_, rfl⟩
          obtain ⟨b, hb⟩ : ∃ b, b = ((X % m : Nat) : Int) := ⟨_, rfl⟩
          rw [← ha, ← hb] at e4
          rw [← ha, ← hb, e4]
          simp only [Int.mul_add, Int.add_mul, Int.mul_comm b a]
          omega
        rw [e3]
        exact Int.emod_eq_zero_of_dvd (Int.dvd_sub hd (Int.dvd_mul_of_dvd_left (Int.dvd_mul_right _ _)))
      · have := Nat.div_add_mod X m
        rw [Nat.mul_comm] at this
        have : (((X / m * m + X % m : Nat)) : Int) = (X : Int) := by rw [this]
        push_cast at this ⊢
        omega

theorem root_rest {n : Int} {M : Nat} (hM : 1 ≤ M) {x : Nat} : ((x : Int) * x - n) % (M : Int) = 0 ↔ x * x % M = (n % (M : Int)).toNat := by
  have h1 := Int.emod_nonneg n (show (M : Int) ≠ 0 by omega)
  have h2 : ((n % (M : Int)).toNat : Int) = n % (M : Int) := Int.toNat_of_nonneg h1
  have e : ((x * x % M : Nat) : Int) = (x : Int) * x % (M : Int) := by push_cast; rfl
  rw [← Int.emod_eq_emod_iff_emod_sub_eq_zero, ← e, ← h2]
  exact Int.ofNat_inj

/-- the least of the lifted roots is the least root by trial -/
theorem lift_root {n : Int} {P k : Nat} (hP : 1 ≤ P) {x : Int} (hx : x ∈ liftL n P k) (hmin : ∀ y ∈ liftL n P k, x ≤ y) : rootF (n % ((P ^ k : Nat) : Int)).toNat (P ^ k) = some x.toNat ∧ 0 ≤ x ∧ x < ((P ^ k : Nat) : Int) := by
  have hm : 1 ≤ P ^ k := Nat.pow_pos (by omega)
  obtain ⟨h1, h2, h3⟩ := (mem_lift hP k x).1 hx
  obtain ⟨X, rfl⟩ := Int.eq_ofNat_of_zero_le h1
  refine ⟨?_, h1, h2⟩
  rw [Int.toNat_natCast]
  refine find_at (by omega) (by rw [beq_iff_eq]; exact (root_rest hm).1 h3) fun j hj => ?_
  rw [beq_eq_false_iff_ne]
  intro e
  have := hmin (j : Int) ((mem_lift hP k _).2 ⟨by omega, by omega, (root_rest hm).2 e⟩)
  omega
theorem lift_none {n : Int} {P k : Nat} (hP : 1 ≤ P) (h : liftL n P k = []) : rootF (n % ((P ^ k : Nat) : Int)).toNat (P ^ k) = none := by
  have hm : 1 ≤ P ^ k := Nat.pow_pos (by omega)
  refine find_none fun j hj => ?_
  rw [beq_eq_false_iff_ne]
  intro e
  have := (mem_lift (n := n) hP k (j : Int)).2 ⟨by omega, by omega, (root_rest hm).2 e⟩
  rw [h] at this
  cases this

end Go.Proofs.Ytfjbdbfeolfcfaa

/-! Loc3 -/
set_option linter.unusedVariables false
namespace Go.Proofs.Ytfjbdbfeolfcfaa
open Go.RowKit

/-- what is read keeps its cells, and what is built lies elsewhere -/
def Aside2 (a : Option Addr) (so : Value) (w0 wr : World) : Prop := ∀ b o, a = some ⟨b, o, none⟩ → so.ownBlock ≠ some b ∧ wr.heap[b]? = w0.heap[b]?


end Go.Proofs.Ytfjbdbfeolfcfaa

/-! LawCls -/
set_option linter.unusedVariables false
namespace Go.Proofs.Ytfjbdbfeolfcfaa
open Go.RowKit

theorem comb_self {q : Int} (hq : plI q = true) {c : Nat × Int} (hc : c ∈ clsList q) : comb q c c = (0, 1) := (comb_one hq hc hc).2 rfl
theorem comb_unit {q : Int} (hq : plI q = true) {c : Nat × Int} (hc : c ∈ clsList q) : comb q c (0, 1) = c := by
  rcases plI_cases hq with rfl | rfl | ⟨P, rfl, hP, h3, h5⟩
  · exact (show ∀ c ∈ clsList 0, comb 0 c (0, 1) = c by decide) c hc
  · exact (show ∀ c ∈ clsList 2, comb 2 c (0, 1) = c by decide) c hc
  · have e0 : ¬ ((P : Int) = 0) := by omega
    have e2 : ¬ ((P : Int) = 2) := by omega
    unfold clsList at hc
    rw [if_neg e0, if_neg e2] at hc
    unfold comb
    rw [if_neg e2]
    exact (show ∀ c ∈ [((0 : Nat), (1 : Int)), (0, -1), (1, 1), (1, -1)], (((c.1 + 0) % 2, c.2 * 1) : Nat × Int) = c by decide) c hc
theorem sq_kk {n k q : Int} (hn : n ≠ 0) (hk : k ≠ 0) (hq : plI q = true) (hs : sqAt n q = true) : sqAt (n * k * k) q = true := by
  unfold sqAt at hs ⊢
  rw [beq_iff_eq] at hs ⊢
  rw [Int.mul_assoc, cls_mul hn (Int.mul_ne_zero hk hk) hq, hs, cls_mul hk hk hq, comb_self hq (cls_mem hk hq)]
  unfold comb
  by_cases h2 : q = 2
  · rw [if_pos h2]; rfl
  · rw [if_neg h2]; rfl
theorem name_sq {n q : Int} (hq : plI q = true) (hs : sqAt n q = true) : nameOf n q = 1 := by
  unfold sqAt at hs
  rw [beq_iff_eq] at hs
  unfold nameOf clsIdx
  rw [hs]
  rcases plI_cases hq with rfl | rfl | ⟨P, rfl, hP, h3, h5⟩
  · rfl
  · rfl
  · rw [names_odd h3]
    unfold clsList
    rw [if_neg (by omega), if_neg (by omega)]
    rfl
theorem lrootV_form (n p k : Int) : ∃ (x : Int) (b : Bool), lrootV n p k = .tuple #[.int .i64 x, .bool b] := by
  unfold lrootV
  split
  · unfold rootT
    split
    · exact ⟨_, _, rfl⟩
    · exact ⟨_, _, rfl⟩
  · exact ⟨_, _, rfl⟩
theorem lnameV_form (n q : Int) : ∃ (x : Int) (b : Bool), lnameV n q = .tuple #[.int .i64 x, .bool b] := by
  unfold lnameV; split <;> exact ⟨_, _, rfl⟩
/-- the names at a drawn place are numbers -/
theorem names_drawn {q : Int} (hp : prOk q) (hq : plI q = true) : ∀ m ∈ namesOf q, -5000 ≤ m ∧ m ≤ 5000 := by
  unfold prOk at hp
  rcases hp with rfl | rfl | rfl | rfl | rfl | rfl | rfl | rfl | rfl | rfl | rfl | rfl
  all_goals first | (revert hq; decide +kernel) | decide +kernel
theorem okAt_yes {n q : Int} (h1 : -5000 ≤ n) (h2 : n ≤ 5000) (h0 : n ≠ 0) (hq : plI q = true) : okAt n q = true := by
  unfold okAt; rw [factB_yes h1 h2 h0, hq]; rfl
theorem okAt_split {n q : Int} (h : okAt n q = true) : -5000 ≤ n ∧ n ≤ 5000 ∧ n ≠ 0 ∧ plI q = true := by
  rcases okAt_cases n q with ⟨h1, h2, h0, hq, _⟩ | hno
  · exact ⟨h1, h2, h0, hq⟩
  · rw [h] at hno; cases hno
theorem okAt_name {n q : Int} (hp : prOk q) (h0 : n ≠ 0) (hq : plI q = true) : okAt (nameOf n q) q = true := by
  have := names_drawn hp hq _ (name_mem h0 hq)
  exact okAt_yes this.1 this.2 (name_ne h0 hq) hq
theorem lmulV_yes {a b q : Int} (h : okAt a q = true) (h2 : okAt b q = true) : lmulV a b q = .tuple #[.int .i64 (nameOf (a * b) q), .bool true] := by
  unfold lmulV; rw [h, h2]; rfl
theorem lmulV_no {a b q : Int} (h : (okAt a q && okAt b q) = false) : lmulV a b q = .tuple #[.int .i64 0, .bool false] := by
  unfold lmulV; rw [h]; rfl

/-- a root up to M is one up to each divisor of M -/
theorem root_divides {n : Int} {M D x : Nat} (hD : 1 ≤ D) (hd : D ∣ M) (hM : 1 ≤ M) (h : rootF (n % (M : Int)).toNat M = some x) : ∃ y, rootF (n % (D : Int)).toNat D = some y := by
  unfold rootF at h
  rw [List.find?_range_eq_some] at h
  obtain ⟨h1, h2, _⟩ := h
  rw [beq_iff_eq] at h1
  have h3 := (root_rest (n := n) hM).2 h1
  have hdd : (D : Int) ∣ (x : Int) * x - n := Int.dvd_trans (Int.natCast_dvd_natCast.2 hd) (Int.dvd_of_emod_eq_zero h3)
  have h4 := (root_rest (n := n) (x := x) hD).1 (Int.emod_eq_zero_of_dvd hdd)
  have h5 : (x % D) * (x % D) % D = (n % (D : Int)).toNat := by rw [← Nat.mul_mod]; exact h4
  cases hf : rootF (n % (D : Int)).toNat D with
  | some y => exact ⟨y, rfl⟩
  | none =>
    unfold rootF at hf
    rw [List.find?_eq_none] at hf
    have := hf (x % D) (List.mem_range.2 (Nat.mod_lt _ (by omega)))
    rw [beq_iff_eq] at this
    exact absurd h5 this
theorem rootF_spec {n : Int} {M x : Nat} (hM : 1 ≤ M) (h : rootF (n % (M : Int)).toNat M = some x) : x < M ∧ ((x : Int) * x - n) % (M : Int) = 0 := by
  unfold rootF at h
  rw [List.find?_range_eq_some] at h
  obtain ⟨h1, h2, _⟩ := h
  rw [beq_iff_eq] at h1
  exact ⟨List.mem_range.1 h2, (root_rest (n := n) hM).2 h1⟩

theorem lroot_split {n p k x : Int} {b : Bool} (h : lrootV n p k = .tuple #[.int .i64 x, .bool b]) : b = false ∨ ∃ P K X : Nat, p = (P : Int) ∧ k = (K : Int) ∧ x = (X : Int) ∧ b = true ∧ primeN P = true ∧ 2 ≤ P ∧ P ≤ 5000 ∧ okN n = true ∧ 1 ≤ K ∧ K ≤ 12 ∧ P ^ K ≤ 5000 ∧ rootF (n % ((P ^ K : Nat) : Int)).toNat (P ^ K) = some X := by
  cases hO : lrootOk n p k with
  | false =>
    rw [lrootV_no hO] at h
    simp only [Value.tuple.injEq, Array.mk.injEq, List.cons.injEq, Value.bool.injEq] at h
    exact .inl h.2.1.symm
  | true =>
    have hO2 := hO
    unfold lrootOk at hO2
    rw [Bool.and_eq_true, Bool.and_eq_true, Bool.and_eq_true] at hO2
    obtain ⟨o1, o2, o3, o4⟩ := hO2
    have hpb := primeI_bd o2
    have hk : 1 ≤ k ∧ k ≤ 12 := by rcases inR_cases k 1 12 with ⟨a, b, _⟩ | ⟨_, c⟩ | ⟨_, _, c⟩; (· exact ⟨a, b⟩); (· rw [o3] at c; cases c); (· rw [o3] at c; cases c)
    obtain ⟨P, rfl⟩ := Int.eq_ofNat_of_zero_le (show 0 ≤ p by omega)
    obtain ⟨K, rfl⟩ := Int.eq_ofNat_of_zero_le (show 0 ≤ k by omega)
    have o5 := of_decide_eq_true o4
    rw [Int.toNat_natCast, Int.toNat_natCast] at o5
    unfold lrootV at h
    rw [if_pos hO, Int.toNat_natCast, Int.toNat_natCast] at h
    cases hr : rootF (n % ((P ^ K : Nat) : Int)).toNat (P ^ K) with
    | none =>
      rw [hr] at h
      unfold rootT at h
      simp only [Value.tuple.injEq, Array.mk.injEq, List.cons.injEq, Value.bool.injEq] at h
      exact .inl h.2.1.symm
    | some X =>
      rw [hr] at h
      unfold rootT at h
      simp only [Value.tuple.injEq, Array.mk.injEq, List.cons.injEq, Value.bool.injEq, Value.int.injEq, true_and] at h
      exact .inr ⟨P, K, X, rfl, rfl, h.1.symm, h.2.1.symm, o2, by omega, by omega, o1, by omega, by omega, o5, hr⟩

/-- all numbers that l91Local draws -/
def drawnL : List Int := (List.range 119).map (fun (k : Nat) => (k : Int)) ++ ((List.range 119).map (fun (k : Nat) => -(k : Int)) ++ ([5000, 5001, -5001, 4096, 3969] ++ (List.range 10).flatMap (fun a => (List.range 3).map (fun k => ((a * a * (1 + k * 8) : Nat) : Int)))))
theorem drawn_mem {x : Int} (h : locOk x) : x ∈ drawnL := by
  unfold drawnL
  rw [List.mem_append, List.mem_append, List.mem_append]
  rcases h with h | ⟨a, k, a1, a9, k0, k2, rfl⟩
  · unfold numOk at h
    rcases h with ⟨h1, h2⟩ | h
    · by_cases h0 : 0 ≤ x
      · left; rw [List.mem_map]; exact ⟨x.toNat, List.mem_range.2 (by omega), by omega⟩
      · right; left; rw [List.mem_map]; exact ⟨x.natAbs, List.mem_range.2 (by omega), by omega⟩
    · right; right; left
      rcases h with rfl | rfl | rfl | rfl | rfl <;> decide
  · right; right; right
    rw [List.mem_flatMap]
    refine ⟨a.toNat, List.mem_range.2 (by omega), List.mem_map.2 ⟨k.toNat, List.mem_range.2 (by omega), ?_⟩⟩
    push_cast
    rw [Int.toNat_of_nonneg (by omega), Int.toNat_of_nonneg k0]

end Go.Proofs.Ytfjbdbfeolfcfaa

/-! Draws11 -/
set_option linter.unusedVariables false
namespace Go.Proofs.Ytfjbdbfeolfcfaa
open Go.RowKit

def atOk (xs : List Int) (y : Int) : Prop := TermsOk xs ∧ (prOk y ∨ y ∈ fplL xs)
def AtPost (w : World) (B R : Nat) (v : Value) (n p : Nat) (e : Ending) (w' : World) : Prop :=
  ∃ (u : Value) (xs : List Int) (y : Int), e = .returned (.tuple #[u, .int .i64 y]) ∧ atOk xs y ∧ Hid (Owns w' w.heap.size u xs) ∧ Hid (Only R w w')
theorem AtPost.mk {w : World} {B R : Nat} {v : Value} {n p : Nat} {u : Value} {xs : List Int} {y : Int} {w' : World} (h : atOk xs y) (ho : Owns w' w.heap.size u xs) (hn : Only R w w') : AtPost w B R v n p (.returned (.tuple #[u, .int .i64 y])) w' :=
  ⟨u, xs, y, rfl, h, hid ho, hid hn⟩
theorem Only.of_below {R : Nat} {w w' : World} (h : Below w.heap.size w w') : Only R w w' := ⟨h.os, h.tape, h.output, h.size, fun k hk _ => h.block k hk⟩
theorem Owns.at {W : World} {B g cap n : Nat} {xs : List Int} (h : Owns W B (.slice (some ⟨g, 0, none⟩) n cap) xs) {i : Nat} (hi : i < xs.length) : W.cell? ⟨g, i, none⟩ = some (.int .i64 (xs[i])) := by
  have hn : n = xs.length := by
    rcases h.2 with ⟨h3, _⟩ | ⟨g', cap', cur, h3, _⟩
    · cases h3
    · simp only [Value.slice.injEq] at h3; exact h3.2.1
  subst hn
  rw [World.ownsRow.cellAt h i (by omega), List.getElem?_map, List.getElem?_eq_getElem hi]
  rfl
theorem pickAt (B R : Nat) (v : Value) (n p : Nat) (hp : p ≤ 1000000000000000) (w2 : World) (HA : Hid (Rdr w2 B R v n p)) (C g cap : Nat) (xs : List Int) (HO : Hid (Owns w2 C (.slice (some ⟨g, 0, none⟩) xs.length cap) xs)) (hRC : R < C) (hl : 0 < xs.length) (hl2 : xs.length ≤ 1000) :
    Calls Try.prog 43 #[.pointer (some ⟨R, 0, none⟩), .int .i64 xs.length] w2.drew fun e w' => ∃ (y pv : Int), e = .returned (.int .i64 y) ∧ 0 ≤ y ∧ y < xs.length ∧ w'.cell? ⟨g, y.toNat, none⟩ = some (.int .i64 pv) ∧ pv ∈ xs ∧ Hid (Only R w2 w') := by
  refine (pick_any _ _ _ _ p (xs.length : Int) (by omega) (by omega) (by omega) _ HA.out.drew').mono ?_
  rintro e w3 ⟨y, r, rfl, hy0, hy1, _, hr, HC, HP⟩
  replace hy1 := hy1 (by omega)
  have HQ := HP.out.of_drew'
  have hi : y.toNat < xs.length := by omega
  exact ⟨y, xs[y.toNat], rfl, hy0, hy1, (HO.out.only HQ hRC).at hi, List.getElem_mem hi, hid HQ⟩




end Go.Proofs.Ytfjbdbfeolfcfaa
