/-
  Plain arithmetic behind the laws of chapter 2.
-/
import Derived.Test.YtdclmjmefkgbbabQBun30
import Derived.Test.YtdclmjmefkgbbabQBun21
set_option linter.unusedVariables false
namespace Go.Proofs.Ytdclmjmefkgbbab
open Go.RowKit

theorem comb_self {q : Int} (hq : plI q = true) {c : Nat × Int} (hc : c ∈ clsList q) : comb q c c = (0, 1) := (comb_one hq hc hc).2 rfl
theorem comb_unit {q : Int} (hq : plI q = true) {c : Nat × Int} (hc : c ∈ clsList q) : comb q c (0, 1) = c := by
  rcases plI_cases hq with rfl | rfl | ⟨P, rfl, hP, h3, h5⟩
  · exact (show ∀ c ∈ clsList 0, comb 0 c (0, 1) = c by decide) c hc
  · exact (show ∀ c ∈ clsList 2, comb 2 c (0, 1) = c by decide) c hc
  · have e0 : ¬ ((P : Int) = 0) := by omega
    have e2 : ¬ ((P : Int) = 2) := by omega
    unfold clsList at hc
    rw [if_neg e0, if_neg e2] at hc
    unfold comb
    rw [if_neg e2]
    exact (show ∀ c ∈ [((0 : Nat), (1 : Int)), (0, -1), (1, 1), (1, -1)], (((c.1 + 0) % 2, c.2 * 1) : Nat × Int) = c by decide) c hc
theorem sq_kk {n k q : Int} (hn : n ≠ 0) (hk : k ≠ 0) (hq : plI q = true) (hs : sqAt n q = true) : sqAt (n * k * k) q = true := by
  unfold sqAt at hs ⊢
  rw [beq_iff_eq] at hs ⊢
  rw [Int.mul_assoc, cls_mul hn (Int.mul_ne_zero hk hk) hq, hs, cls_mul hk hk hq, comb_self hq (cls_mem hk hq)]
  unfold comb
  by_cases h2 : q = 2
  · rw [if_pos h2]; rfl
  · rw [if_neg h2]; rfl
theorem name_sq {n q : Int} (hq : plI q = true) (hs : sqAt n q = true) : nameOf n q = 1 := by
  unfold sqAt at hs
  rw [beq_iff_eq] at hs
  unfold nameOf clsIdx
  rw [hs]
  rcases plI_cases hq with rfl | rfl | ⟨P, rfl, hP, h3, h5⟩
  · rfl
  · rfl
  · rw [names_odd h3]
    unfold clsList
    rw [if_neg (by omega), if_neg (by omega)]
    rfl
theorem lrootV_form (n p k : Int) : ∃ (x : Int) (b : Bool), lrootV n p k = .tuple #[.int .i64 x, .bool b] := by
  unfold lrootV
  split
  · unfold rootT
    split
    · exact ⟨_, _, rfl⟩
    · exact ⟨_, _, rfl⟩
  · exact ⟨_, _, rfl⟩
theorem lnameV_form (n q : Int) : ∃ (x : Int) (b : Bool), lnameV n q = .tuple #[.int .i64 x, .bool b] := by
  unfold lnameV; split <;> exact ⟨_, _, rfl⟩
/-- the names at a drawn place are numbers -/
theorem names_drawn {q : Int} (hp : prOk q) (hq : plI q = true) : ∀ m ∈ namesOf q, -5000 ≤ m ∧ m ≤ 5000 := by
  unfold prOk at hp
  rcases hp with rfl | rfl | rfl | rfl | rfl | rfl | rfl | rfl | rfl | rfl | rfl | rfl
  all_goals first | (revert hq; decide +kernel) | decide +kernel
theorem okAt_yes {n q : Int} (h1 : -5000 ≤ n) (h2 : n ≤ 5000) (h0 : n ≠ 0) (hq : plI q = true) : okAt n q = true := by
  unfold okAt; rw [factB_yes h1 h2 h0, hq]; rfl
theorem okAt_split {n q : Int} (h : okAt n q = true) : -5000 ≤ n ∧ n ≤ 5000 ∧ n ≠ 0 ∧ plI q = true := by
  rcases okAt_cases n q with ⟨h1, h2, h0, hq, _⟩ | hno
  · exact ⟨h1, h2, h0, hq⟩
  · rw [h] at hno; cases hno
theorem okAt_name {n q : Int} (hp : prOk q) (h0 : n ≠ 0) (hq : plI q = true) : okAt (nameOf n q) q = true := by
  have := names_drawn hp hq _ (name_mem h0 hq)
  exact okAt_yes this.1 this.2 (name_ne h0 hq) hq
theorem lmulV_yes {a b q : Int} (h : okAt a q = true) (h2 : okAt b q = true) : lmulV a b q = .tuple #[.int .i64 (nameOf (a * b) q), .bool true] := by
  unfold lmulV; rw [h, h2]; rfl
theorem lmulV_no {a b q : Int} (h : (okAt a q && okAt b q) = false) : lmulV a b q = .tuple #[.int .i64 0, .bool false] := by
  unfold lmulV; rw [h]; rfl

/-- a root up to M is one up to each divisor of M -/
theorem root_divides {n : Int} {M D x : Nat} (hD : 1 ≤ D) (hd : D ∣ M) (hM : 1 ≤ M) (h : rootF (n % (M : Int)).toNat M = some x) : ∃ y, rootF (n % (D : Int)).toNat D = some y := by
  unfold rootF at h
  rw [List.find?_range_eq_some] at h
  obtain ⟨h1, h2, _⟩ := h
  rw [beq_iff_eq] at h1
  have h3 := (root_rest (n := n) hM).2 h1
  have hdd : (D : Int) ∣ (x : Int) * x - n := Int.dvd_trans (Int.natCast_dvd_natCast.2 hd) (Int.dvd_of_emod_eq_zero h3)
  have h4 := (root_rest (n := n) (x := x) hD).1 (Int.emod_eq_zero_of_dvd hdd)
  have h5 : (x % D) * (x % D) % D = (n % (D : Int)).toNat := by rw [← Nat.mul_mod]; exact h4
  cases hf : rootF (n % (D : Int)).toNat D with
  | some y => exact ⟨y, rfl⟩
  | none =>
    unfold rootF at hf
    rw [List.find?_eq_none] at hf
    have := hf (x % D) (List.mem_range.2 (Nat.mod_lt _ (by omega)))
    rw [beq_iff_eq] at this
    exact absurd h5 this
theorem rootF_spec {n : Int} {M x : Nat} (hM : 1 ≤ M) (h : rootF (n % (M : Int)).toNat M = some x) : x < M ∧ ((x : Int) * x - n) % (M : Int) = 0 := by
  unfold rootF at h
  rw [List.find?_range_eq_some] at h
  obtain ⟨h1, h2, _⟩ := h
  rw [beq_iff_eq] at h1
  exact ⟨List.mem_range.1 h2, (root_rest (n := n) hM).2 h1⟩

theorem lroot_split {n p k x : Int} {b : Bool} (h : lrootV n p k = .tuple #[.int .i64 x, .bool b]) : b = false ∨ ∃ P K X : Nat, p = (P : Int) ∧ k = (K : Int) ∧ x = (X : Int) ∧ b = true ∧ primeN P = true ∧ 2 ≤ P ∧ P ≤ 5000 ∧ okN n = true ∧ 1 ≤ K ∧ K ≤ 12 ∧ P ^ K ≤ 5000 ∧ rootF (n % ((P ^ K : Nat) : Int)).toNat (P ^ K) = some X := by
  cases hO : lrootOk n p k with
  | false =>
    rw [lrootV_no hO] at h
    simp only [Value.tuple.injEq, Array.mk.injEq, List.cons.injEq, Value.bool.injEq] at h
    exact .inl h.2.1.symm
  | true =>
    have hO2 := hO
    unfold lrootOk at hO2
    rw [Bool.and_eq_true, Bool.and_eq_true, Bool.and_eq_true] at hO2
    obtain ⟨o1, o2, o3, o4⟩ := hO2
    have hpb := primeI_bd o2
    have hk : 1 ≤ k ∧ k ≤ 12 := by rcases inR_cases k 1 12 with ⟨a, b, _⟩ | ⟨_, c⟩ | ⟨_, _, c⟩; (· exact ⟨a, b⟩); (· rw [o3] at c; cases c); (· rw [o3] at c; cases c)
    obtain ⟨P, rfl⟩ := Int.eq_ofNat_of_zero_le (show 0 ≤ p by omega)
    obtain ⟨K, rfl⟩ := Int.eq_ofNat_of_zero_le (show 0 ≤ k by omega)
    have o5 := of_decide_eq_true o4
    rw [Int.toNat_natCast, Int.toNat_natCast] at o5
    unfold lrootV at h
    rw [if_pos hO, Int.toNat_natCast, Int.toNat_natCast] at h
    cases hr : rootF (n % ((P ^ K : Nat) : Int)).toNat (P ^ K) with
    | none =>
      rw [hr] at h
      unfold rootT at h
      simp only [Value.tuple.injEq, Array.mk.injEq, List.cons.injEq, Value.bool.injEq] at h
      exact .inl h.2.1.symm
    | some X =>
      rw [hr] at h
      unfold rootT at h
      simp only [Value.tuple.injEq, Array.mk.injEq, List.cons.injEq, Value.bool.injEq, Value.int.injEq, true_and] at h
      exact .inr ⟨P, K, X, rfl, rfl, h.1.symm, h.2.1.symm, o2, by omega, by omega, o1, by omega, by omega, o5, hr⟩

/-- all numbers that l91Local draws -/
def drawnL : List Int := (List.range 119).map (fun (k : Nat) => (k : Int)) ++ ((List.range 119).map (fun (k : Nat) => -(k : Int)) ++ ([5000, 5001, -5001, 4096, 3969] ++ (List.range 10).flatMap (fun a => (List.range 3).map (fun k => ((a * a * (1 + k * 8) : Nat) : Int)))))
theorem drawn_mem {x : Int} (h : locOk x) : x ∈ drawnL := by
  unfold drawnL
  rw [List.mem_append, List.mem_append, List.mem_append]
  rcases h with h | ⟨a, k, a1, a9, k0, k2, rfl⟩
  · unfold numOk at h
    rcases h with ⟨h1, h2⟩ | h
    · by_cases h0 : 0 ≤ x
      · left; rw [List.mem_map]; exact ⟨x.toNat, List.mem_range.2 (by omega), by omega⟩
      · right; left; rw [List.mem_map]; exact ⟨x.natAbs, List.mem_range.2 (by omega), by omega⟩
    · right; right; left
      rcases h with rfl | rfl | rfl | rfl | rfl <;> decide
  · right; right; right
    rw [List.mem_flatMap]
    refine ⟨a.toNat, List.mem_range.2 (by omega), List.mem_map.2 ⟨k.toNat, List.mem_range.2 (by omega), ?_⟩⟩
    push_cast
    rw [Int.toNat_of_nonneg (by omega), Int.toNat_of_nonneg k0]

end Go.Proofs.Ytdclmjmefkgbbab
