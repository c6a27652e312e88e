/-
  Plain arithmetic of the program's search for the least root: a stack of roots by powers of a prime.
-/
import Derived.Test.YtamdjgcnjgiflaaLift
set_option linter.unusedVariables false
namespace Go.Proofs.Ytamdjgcnjgiflaa
open Go.RowKit

/-- what stands on the stack, cell by cell -/
def encS (S : List (Nat × Nat)) : List Value := S.flatMap (fun e => [.int .i64 (e.1 : Int), .int .i64 (e.2 : Int)])
theorem encS_len : ∀ S : List (Nat × Nat), (encS S).length = S.length * 2
  | [] => rfl
  | e :: S => by
    have := encS_len S
    unfold encS at this ⊢
    rw [List.flatMap_cons, List.length_append, this, List.length_cons]
    simp only [List.length_cons, List.length_nil]
    omega
theorem encS_snoc (S : List (Nat × Nat)) (e : Nat × Nat) : encS (S ++ [e]) = encS S ++ [.int .i64 (e.1 : Int), .int .i64 (e.2 : Int)] := by
  unfold encS
  rw [List.flatMap_append]
  simp
theorem encS_fst (S : List (Nat × Nat)) (e : Nat × Nat) : (encS (S ++ [e]))[S.length * 2]? = some (.int .i64 (e.1 : Int)) := by
  rw [encS_snoc, List.getElem?_append_right (by rw [encS_len]; omega), encS_len, Nat.sub_self]; rfl
theorem encS_snd (S : List (Nat × Nat)) (e : Nat × Nat) : (encS (S ++ [e]))[S.length * 2 + 1]? = some (.int .i64 (e.2 : Int)) := by
  rw [encS_snoc, List.getElem?_append_right (by rw [encS_len]; omega), encS_len, Nat.add_sub_cancel_left]; rfl

/-- how many rounds an element is worth -/
def wt1 (M m : Nat) : Nat := 2 * (M / m) - 1
def wtS (M : Nat) (S : List (Nat × Nat)) : Nat := (S.map (fun e => wt1 M e.2)).sum
theorem wtS_app (M : Nat) (S T : List (Nat × Nat)) : wtS M (S ++ T) = wtS M S + wtS M T := by
  unfold wtS
  rw [List.map_append, List.sum_append]
theorem wtS_one (M x m : Nat) : wtS M [(x, m)] = wt1 M m := by unfold wtS; simp
theorem wtS_nil (M : Nat) : wtS M [] = 0 := rfl
def RootAt (n : Int) (M x : Nat) : Prop := x < M ∧ ((x : Int) * x - n) % (M : Int) = 0
def OkE (n : Int) (P k : Nat) (e : Nat × Nat) : Prop := ∃ j, j ≤ k ∧ e.2 = P ^ j ∧ RootAt n e.2 e.1
structure StackOk (n : Int) (P k : Nat) (S : List (Nat × Nat)) (f : Bool) (L : Nat) : Prop where
  each : ∀ e ∈ S, OkE n P k e
  least : f = true → RootAt n (P ^ k) L
  none : f = false → L = 0
  cover : ∀ r, RootAt n (P ^ k) r → (f = true ∧ L ≤ r) ∨ ∃ e ∈ S, r % e.2 = e.1
theorem OkE.wt {n : Int} {P k : Nat} {e : Nat × Nat} (hP : 2 ≤ P) (h : OkE n P k e) : 1 ≤ wt1 (P ^ k) e.2 := by
  obtain ⟨j, hj, e2, _⟩ := h
  unfold wt1
  have h1 : 0 < P ^ j := Nat.pow_pos (by omega)
  have := Nat.div_pos (Nat.pow_le_pow_right (by omega) hj : P ^ j ≤ P ^ k) h1
  rw [e2]
  omega
theorem stack_len {n : Int} {P k : Nat} (hP : 2 ≤ P) : ∀ S : List (Nat × Nat), (∀ e ∈ S, OkE n P k e) → S.length ≤ wtS (P ^ k) S
  | [], _ => by simp
  | e :: S, h => by
    have h1 := (h e (List.mem_cons_self ..)).wt hP
    have h2 := stack_len hP S (fun x hx => h x (List.mem_cons_of_mem _ hx))
    unfold wtS at h2 ⊢
    rw [List.map_cons, List.sum_cons, List.length_cons]
    omega
theorem stack_start (n : Int) (P k : Nat) (hP : 2 ≤ P) : StackOk n P k [(0, 1)] false 0 where
  each := fun e he => by
    rw [List.mem_singleton] at he
    subst he
    exact ⟨0, by omega, by simp, by show 0 < 1; omega, by show ((0 : Nat) * (0 : Nat) - n : Int) % ((1 : Nat) : Int) = 0; exact Int.emod_one _⟩
  least := fun h => by cases h
  none := fun _ => rfl
  cover := fun r hr => .inr ⟨(0, 1), by simp, Nat.mod_one _⟩
theorem stack_at {n : Int} {P k : Nat} {S : List (Nat × Nat)} {f : Bool} {L x : Nat} (h : StackOk n P k (S ++ [(x, P ^ k)]) f L) :
    StackOk n P k S true (if f = true ∧ L ≤ x then L else x) := by
  obtain ⟨j, _, e2, hx⟩ := h.each (x, P ^ k) (by simp)
  simp only at hx
  refine ⟨fun e he => h.each e (List.mem_append_left _ he), fun _ => ?_, fun hf => (by cases hf), fun r hr => ?_⟩
  · by_cases c : f = true ∧ L ≤ x
    · rw [if_pos c]; exact h.least c.1
    · rw [if_neg c]; exact hx
  · rcases h.cover r hr with ⟨hf, hl⟩ | ⟨e, he, hm⟩
    · left
      refine ⟨rfl, ?_⟩
      by_cases c : f = true ∧ L ≤ x
      · rw [if_pos c]; exact hl
      · rw [if_neg c]
        have : ¬ L ≤ x := fun h2 => c ⟨hf, h2⟩
        omega
    · rcases List.mem_append.1 he with he | he
      · exact .inr ⟨e, he, hm⟩
      · rw [List.mem_singleton] at he
        subst he
        left
        refine ⟨rfl, ?_⟩
        simp only [Nat.mod_eq_of_lt hr.1] at hm
        by_cases c : f = true ∧ L ≤ x
        · rw [if_pos c]; omega
        · rw [if_neg c]; omega

def rootB (n : Int) (M x : Nat) : Bool := ((x : Int) * x - n) % (M : Int) == 0
/-- what a round lays behind the stack -/
def pushL (n : Int) (P m x : Nat) (d : Nat) : List (Nat × Nat) := ((List.range d).filter (fun i => rootB n (m * P) (x + i * m))).map (fun i => (x + i * m, m * P))
theorem pushL_yes {n : Int} {P m x d : Nat} (h : rootB n (m * P) (x + d * m) = true) : pushL n P m x (d + 1) = pushL n P m x d ++ [(x + d * m, m * P)] := by
  unfold pushL
  rw [List.range_succ, List.filter_append, List.map_append, List.filter_cons, if_pos h]
  rfl
theorem pushL_no {n : Int} {P m x d : Nat} (h : rootB n (m * P) (x + d * m) = false) : pushL n P m x (d + 1) = pushL n P m x d := by
  unfold pushL
  rw [List.range_succ, List.filter_append, List.map_append, List.filter_cons, if_neg (by rw [h]; decide)]
  simp
theorem pushL_len (n : Int) (P m x d : Nat) : (pushL n P m x d).length ≤ d := by
  unfold pushL
  rw [List.length_map]
  exact Nat.le_trans (List.length_filter_le _ _) (by rw [List.length_range]; omega)
theorem mem_push {n : Int} {P m x d : Nat} {e : Nat × Nat} : e ∈ pushL n P m x d ↔ ∃ i, i < d ∧ rootB n (m * P) (x + i * m) = true ∧ e = (x + i * m, m * P) := by
  unfold pushL
  rw [List.mem_map]
  constructor
  · rintro ⟨i, hi, rfl⟩
    obtain ⟨h1, h2⟩ := List.mem_filter.1 hi
    exact ⟨i, List.mem_range.1 h1, h2, rfl⟩
  · rintro ⟨i, h1, h2, rfl⟩
    exact ⟨i, List.mem_filter.2 ⟨List.mem_range.2 h1, h2⟩, rfl⟩
theorem push_wt (n : Int) (P m x : Nat) (M : Nat) : ∀ d, wtS M (pushL n P m x d) ≤ d * wt1 M (m * P)
  | 0 => by unfold pushL; simp [wtS]
  | d + 1 => by
    have ih := push_wt n P m x M d
    rw [Nat.succ_mul]
    cases h : rootB n (m * P) (x + d * m)
    · rw [pushL_no h]; omega
    · rw [pushL_yes h, wtS_app, wtS_one]; omega
theorem step_wt {P k j : Nat} (hP : 2 ≤ P) (hj : j < k) : P * wt1 (P ^ k) (P ^ j * P) + 1 ≤ wt1 (P ^ k) (P ^ j) := by
  unfold wt1
  have e1 : P ^ j * P = P ^ (j + 1) := (Nat.pow_succ ..).symm
  have e2 : P ^ k / P ^ (j + 1) = P ^ (k - (j + 1)) := Nat.pow_div (by omega) (by omega)
  have e3 : P ^ k / P ^ j = P ^ (k - j) := Nat.pow_div (by omega) (by omega)
  rw [e1, e2, e3, show k - j = (k - (j + 1)) + 1 by omega, Nat.pow_succ]
  have h1 : 0 < P ^ (k - (j + 1)) := Nat.pow_pos (by omega)
  obtain ⟨t, ht⟩ : ∃ t, t = P ^ (k - (j + 1)) := ⟨_, rfl⟩
  rw [← ht] at h1 ⊢
  rw [Nat.mul_sub, Nat.mul_one, ← Nat.mul_assoc, Nat.mul_comm P 2, Nat.mul_assoc, Nat.mul_comm P t]
  have : P ≤ t * P := Nat.le_mul_of_pos_left P h1
  omega
theorem root_lower {n : Int} {M m r : Nat} (hm : 0 < m) (hd : m ∣ M) (h : RootAt n M r) : RootAt n m (r % m) := by
  refine ⟨Nat.mod_lt _ hm, ?_⟩
  have h1 : (m : Int) ∣ (r : Int) * r - n := Int.dvd_trans (Int.ofNat_dvd.2 hd) (Int.dvd_of_emod_eq_zero h.2)
  have e3 : ((r % m : Nat) : Int) * ((r % m : Nat) : Int) - n = ((r : Int) * r - n) - (m : Int) * ((r / m : Nat) : Int) * ((r : Int) + ((r % m : Nat) : Int)) := by
    have e4 : (r : Int) = (m : Int) * ((r / m : Nat) : Int) + ((r % m : Nat) : Int) := by
      have := Nat.div_add_mod r m
      exact_mod_cast this.symm
    obtain ⟨a, ha⟩ : ∃ a, a = (m : Int) * ((r / m : Nat) : Int) := ⟨_, rfl⟩
    obtain ⟨b, hb⟩ : ∃ b, b = ((r % m : Nat) : Int) := ⟨_, rfl⟩
    rw [← ha, ← hb] at e4
    rw [← ha, ← hb, e4]
    simp only [Int.mul_add, Int.add_mul, Int.mul_comm b a]
    omega
  rw [e3]
  exact Int.emod_eq_zero_of_dvd (Int.dvd_sub h1 (Int.dvd_mul_of_dvd_left (Int.dvd_mul_right _ _)))
theorem stack_step {n : Int} {P k j : Nat} (hP : 2 ≤ P) (hj : j < k) {S : List (Nat × Nat)} {f : Bool} {L x : Nat} (h : StackOk n P k (S ++ [(x, P ^ j)]) f L) :
    StackOk n P k (S ++ pushL n P (P ^ j) x P) f L := by
  have hm0 : 0 < P ^ j := Nat.pow_pos (by omega)
  obtain ⟨i0, _, _, hx⟩ := h.each (x, P ^ j) (by simp)
  simp only at hx
  have eS : P ^ j * P = P ^ (j + 1) := (Nat.pow_succ ..).symm
  refine ⟨fun e he => ?_, h.least, h.none, fun r hr => ?_⟩
  · rcases List.mem_append.1 he with he | he
    · exact h.each e (List.mem_append_left _ he)
    · obtain ⟨i, hi, hb, rfl⟩ := mem_push.1 he
      refine ⟨j + 1, by omega, eS, ?_, ?_⟩
      · have h1 := Nat.mul_le_mul_right (P ^ j) (show i + 1 ≤ P by omega)
        rw [Nat.succ_mul, Nat.mul_comm P] at h1
        have := hx.1
        show x + i * P ^ j < P ^ j * P
        omega
      · unfold rootB at hb
        rw [beq_iff_eq] at hb
        exact hb
  · rcases h.cover r hr with h1 | ⟨e, he, hm⟩
    · exact .inl h1
    · rcases List.mem_append.1 he with he | he
      · exact .inr ⟨e, List.mem_append_left _ he, hm⟩
      · rw [List.mem_singleton] at he
        subst he
        right
        simp only at hm
        obtain ⟨m, hme⟩ : ∃ m, m = P ^ j := ⟨_, rfl⟩
        rw [← hme] at hm hm0 eS ⊢
        have hlo := root_lower (m := m * P) (Nat.mul_pos hm0 (by omega)) (by rw [eS]; exact Nat.pow_dvd_pow _ (by omega)) hr
        have hmm : r % (m * P) % m = r % m := Nat.mod_mul_right_mod r m P
        have hdm := Nat.div_add_mod (r % (m * P)) m
        rw [hmm, hm, Nat.mul_comm m] at hdm
        have hlt : r % (m * P) / m < P := (Nat.div_lt_iff_lt_mul hm0).2 (by rw [Nat.mul_comm P]; exact hlo.1)
        refine ⟨(x + r % (m * P) / m * m, m * P), List.mem_append_right _ (mem_push.2 ⟨_, hlt, ?_, rfl⟩), ?_⟩
        · unfold rootB
          rw [beq_iff_eq, show x + r % (m * P) / m * m = r % (m * P) by omega]
          exact hlo.2
        · show r % (m * P) = x + r % (m * P) / m * m
          omega
theorem stack_end {n : Int} {P k : Nat} (hP : 2 ≤ P) {f : Bool} {L : Nat} (h : StackOk n P k [] f L) :
    rootT (rootF (n % ((P ^ k : Nat) : Int)).toNat (P ^ k)) = .tuple #[.int .i64 (L : Int), .bool f] := by
  have hm : 1 ≤ P ^ k := Nat.pow_pos (by omega)
  cases f with
  | true =>
    have hl := h.least rfl
    have e : rootF (n % ((P ^ k : Nat) : Int)).toNat (P ^ k) = some L := by
      refine find_at hl.1 (by rw [beq_iff_eq]; exact (root_rest hm).1 hl.2) fun i hi => ?_
      rw [beq_eq_false_iff_ne]
      intro e
      rcases h.cover i ⟨by have := hl.1; omega, (root_rest hm).2 e⟩ with ⟨_, h2⟩ | ⟨_, h2, _⟩
      · omega
      · cases h2
    rw [e]
    rfl
  | false =>
    have e : rootF (n % ((P ^ k : Nat) : Int)).toNat (P ^ k) = none := by
      refine find_none fun i hi => ?_
      rw [beq_eq_false_iff_ne]
      intro e
      rcases h.cover i ⟨hi, (root_rest hm).2 e⟩ with ⟨h1, _⟩ | ⟨_, h2, _⟩
      · cases h1
      · cases h2
    rw [e, h.none rfl]
    rfl

end Go.Proofs.Ytamdjgcnjgiflaa
