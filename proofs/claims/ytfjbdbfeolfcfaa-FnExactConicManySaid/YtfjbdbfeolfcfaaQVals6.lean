/-
  Plain values of chapter 5: normal terms, the search, what finds a zero.
-/
import Derived.Test.YtfjbdbfeolfcfaaQVals5b
import Derived.Test.YtfjbdbfeolfcfaaQZLeg
set_option linter.unusedVariables false
namespace Go.Proofs.Ytfjbdbfeolfcfaa
open Go.RowKit

theorem core_small {x : Int} (h0 : x ≠ 0) : coreG x ≠ 0 ∧ (coreG x).natAbs * (rootG x * rootG x) = x.natAbs ∧ (coreG x).natAbs ≤ x.natAbs ∧ SqFree (coreG x).natAbs ∧ 1 ≤ rootG x := by
  have h := core_is h0
  have e : (coreG x).natAbs * (rootG x * rootG x) = x.natAbs := by
    conv => rhs; rw [← h.eq]
    rw [Int.natAbs_mul, Int.natAbs_mul, Int.natAbs_natCast]
  refine ⟨h.ne h0, e, ?_, h.free, h.pos⟩
  rw [← e]
  exact Nat.le_mul_of_pos_right _ (Nat.mul_pos h.pos h.pos)
theorem root_free {c : Int} (h0 : c ≠ 0) (h : SqFree c.natAbs) : rootG c = 1 ∧ coreG c = c := by
  have hi : IsCore c 1 c := ⟨by rw [Int.natCast_one, Int.mul_one, Int.mul_one], Nat.le_refl _, h⟩
  have := core_eq h0 hi
  exact ⟨this.2, this.1⟩
theorem free_root {c : Int} (h0 : c ≠ 0) (h : rootG c = 1) : SqFree c.natAbs := by
  have h1 := core_is h0
  have e := h1.eq
  rw [h] at e
  have e2 : coreG c = c := by simpa using e
  have := h1.free
  rwa [e2] at this

/-- three terms and three factors, as the first step leaves them -/
def coreT (a b c : Int) : T3 := ⟨coreG a, coreG b, coreG c⟩
def rootM (a b c : Int) : T3 := ⟨(rootG b : Int) * rootG c, (rootG a : Int) * rootG c, (rootG a : Int) * rootG b⟩
def nT (a b c : Int) : T3 := normT 20 (coreT a b c)
def nM (a b c : Int) : T3 := normM 20 (coreT a b c) (rootM a b c)
def T3.toL (t : T3) : List Int := [t.a, t.b, t.c]
structure Ok3 (a b c : Int) : Prop where
  a0 : a ≠ 0
  b0 : b ≠ 0
  c0 : c ≠ 0
  a1 : -30 ≤ a
  a2 : a ≤ 30
  b1 : -30 ≤ b
  b2 : b ≤ 30
  c1 : -30 ≤ c
  c2 : c ≤ 30
theorem ok3_of {a b c : Int} (h : fvB [a, b, c] = true) : Ok3 a b c := by
  have h1 := (fvB_iff.1 h).1
  have ha := h1 a (by simp)
  have hb := h1 b (by simp)
  have hc := h1 c (by simp)
  exact ⟨ha.1, hb.1, hc.1, ha.2.1, ha.2.2, hb.2.1, hb.2.2, hc.2.1, hc.2.2⟩
theorem ok3_fv {a b c : Int} (h : Ok3 a b c) : fvB [a, b, c] = true := by
  refine fvB_iff.2 ⟨fun x hx => ?_, by simp, by simp⟩
  simp only [List.mem_cons, List.not_mem_nil, or_false] at hx
  rcases hx with rfl | rfl | rfl
  · exact ⟨h.a0, h.a1, h.a2⟩
  · exact ⟨h.b0, h.b1, h.b2⟩
  · exact ⟨h.c0, h.c1, h.c2⟩
theorem Ok3.small {a b c : Int} (h : Ok3 a b c) : (coreT a b c).small := by
  have S : ∀ x : Int, x ≠ 0 → -30 ≤ x → x ≤ 30 → coreG x ≠ 0 ∧ -30 ≤ coreG x ∧ coreG x ≤ 30 ∧ SqFree (coreG x).natAbs := fun x h0 h1 h2 => by
    obtain ⟨k0, _, k2, k3, _⟩ := core_small h0
    exact ⟨k0, by omega, by omega, k3⟩
  intro x hx
  unfold coreT at hx
  simp only [List.mem_cons, List.not_mem_nil, or_false] at hx
  rcases hx with rfl | rfl | rfl
  · exact S _ h.a0 h.a1 h.a2
  · exact S _ h.b0 h.b1 h.b2
  · exact S _ h.c0 h.c1 h.c2
theorem Ok3.free {a b c : Int} (h : Ok3 a b c) : (coreT a b c).free := ⟨(core_small h.a0).2.2.2.1, (core_small h.b0).2.2.2.1, (core_small h.c0).2.2.2.1⟩
theorem prod3_le {a b c n : Nat} (ha : a ≤ n) (hb : b ≤ n) (hc : c ≤ n) : a * b * c ≤ n * n * n := Nat.mul_le_mul (Nat.mul_le_mul ha hb) hc
theorem Ok3.prod {a b c : Int} (h : Ok3 a b c) : (coreT a b c).prod ≤ a.natAbs * b.natAbs * c.natAbs ∧ a.natAbs * b.natAbs * c.natAbs ≤ 27000 := by
  refine ⟨?_, ?_⟩
  · exact Nat.mul_le_mul (Nat.mul_le_mul (core_small h.a0).2.2.1 (core_small h.b0).2.2.1) (core_small h.c0).2.2.1
  · have := h.a1; have := h.a2; have := h.b1; have := h.b2; have := h.c1; have := h.c2
    exact prod3_le (n := 30) (by omega) (by omega) (by omega)
theorem mm_id (x y u v : Nat) : x * y * (x * y) * (u * v) = (u * (x * x)) * (v * (y * y)) := by
  simp only [Nat.mul_comm, Nat.mul_left_comm]
theorem Ok3.minv {a b c : Int} (h : Ok3 a b c) : MInv 900 (coreT a b c) (rootM a b c) := by
  obtain ⟨_, ea, _, _, pa⟩ := core_small h.a0
  obtain ⟨_, eb, _, _, pb⟩ := core_small h.b0
  obtain ⟨_, ec, _, _, pc⟩ := core_small h.c0
  have := h.a1; have := h.a2; have := h.b1; have := h.b2; have := h.c1; have := h.c2
  have one : ∀ m n : Nat, 1 ≤ m → 1 ≤ n → 1 ≤ (m : Int) * n := fun m n hm hn => by
    have := Nat.mul_le_mul hm hn
    have e : (m : Int) * n = ((m * n : Nat) : Int) := by push_cast; rfl
    rw [e]; omega
  have K : ∀ (m n u v x y : Nat), u * (m * m) = x → v * (n * n) = y → x ≤ 30 → y ≤ 30 → ((m : Int) * n).natAbs * ((m : Int) * n).natAbs * (u * v) ≤ 900 := fun m n u v x y hx hy h1 h2 => by
    rw [Int.natAbs_mul, Int.natAbs_natCast, Int.natAbs_natCast, mm_id, hx, hy]
    exact Nat.mul_le_mul h1 h2
  refine ⟨one _ _ pb pc, one _ _ pa pc, one _ _ pa pb, K _ _ _ _ _ _ eb ec (by omega) (by omega), K _ _ _ _ _ _ ea ec (by omega) (by omega), K _ _ _ _ _ _ ea eb (by omega) (by omega)⟩
theorem Ok3.carry {a b c : Int} (h : Ok3 a b c) : Carry ⟨a, b, c⟩ (coreT a b c) (rootM a b c) := fun x y z hz => by
  have ea := (core_is h.a0).eq
  have eb := (core_is h.b0).eq
  have ec := (core_is h.c0).eq
  unfold Zero3 at hz ⊢
  unfold coreT at hz
  unfold rootM
  obtain ⟨A, hA⟩ : ∃ A, A = coreG a := ⟨_, rfl⟩
  obtain ⟨B, hB⟩ : ∃ B, B = coreG b := ⟨_, rfl⟩
  obtain ⟨C, hC⟩ : ∃ C, C = coreG c := ⟨_, rfl⟩
  obtain ⟨r, hr⟩ : ∃ r : Int, r = rootG a := ⟨_, rfl⟩
  obtain ⟨s, hs⟩ : ∃ s : Int, s = rootG b := ⟨_, rfl⟩
  obtain ⟨t, ht⟩ : ∃ t : Int, t = rootG c := ⟨_, rfl⟩
  dsimp only at hz ⊢
  rw [← hA] at ea hz
  rw [← hB] at eb hz
  rw [← hC] at ec hz
  rw [← hr] at ea ⊢
  rw [← hs] at eb ⊢
  rw [← ht] at ec ⊢
  rw [← ea, ← eb, ← ec]
  have e : A * (r * r) * (s * t * x) * (s * t * x) + B * (s * s) * (r * t * y) * (r * t * y) + C * (t * t) * (r * s * z) * (r * s * z) = (r * r * (s * s) * (t * t)) * (A * x * x + B * y * y + C * z * z) := by
    simp only [Int.mul_add, Int.mul_comm, Int.mul_left_comm]
  rw [e, hz, Int.mul_zero]

/-- what normal terms are -/
structure Nrm (a b c : Int) : Prop where
  nz : (nT a b c).nz
  two : twoD (nT a b c).a (nT a b c).b (nT a b c).c = 1
  free : (nT a b c).free
  prod : (nT a b c).prod ≤ a.natAbs * b.natAbs * c.natAbs
  lim : (nT a b c).prod ≤ 27000
  minv : MInv 900 (nT a b c) (nM a b c)
  carry : Carry ⟨a, b, c⟩ (nT a b c) (nM a b c)
theorem Ok3.nrm {a b c : Int} (h : Ok3 a b c) : Nrm a b c := by
  have hp := norm_prod 20 (coreT a b c)
  have h1 := h.prod
  exact ⟨(norm_ok 20 h.small.nz).1, (leg h.small).1, norm_free 20 h.free, Nat.le_trans hp h1.1, Nat.le_trans hp (Nat.le_trans h1.1 h1.2), norm_minv 20 h.minv, norm_carry 20 h.carry⟩

/-- a root, if there is one -/
def rootO (n : Int) : Option Nat := if n < 0 then none else (List.range (n.toNat + 1)).find? (fun z : Nat => decide ((z : Int) * z = n))
theorem sq_inj {x y : Nat} (h : (x : Int) * x = (y : Int) * y) : x = y := by
  have h2 : x * x = y * y := by exact_mod_cast h
  rcases Nat.lt_trichotomy x y with h1 | h1 | h1
  · have := Nat.mul_lt_mul_of_lt_of_le h1 (Nat.le_of_lt h1) (by omega); omega
  · exact h1
  · have := Nat.mul_lt_mul_of_lt_of_le h1 (Nat.le_of_lt h1) (by omega); omega
theorem rootO_of {n : Int} {z : Nat} (h : (z : Int) * z = n) : rootO n = some z := by
  have hn : ¬ n < 0 := by have := Int.mul_nonneg (Int.natCast_nonneg z) (Int.natCast_nonneg z); omega
  unfold rootO
  rw [if_neg hn]
  have hz : z < n.toNat + 1 := by
    have h1 : z ≤ z * z := by
      rcases Nat.eq_zero_or_pos z with e | e
      · rw [e]; exact Nat.zero_le _
      · exact Nat.le_mul_of_pos_left _ e
    have h2 : ((z * z : Nat) : Int) = n := by push_cast; exact h
    omega
  cases hf : (List.range (n.toNat + 1)).find? (fun z : Nat => decide ((z : Int) * z = n)) with
  | none =>
    have := List.find?_eq_none.1 hf z (List.mem_range.2 hz)
    rw [decide_eq_true h] at this
    exact absurd rfl this
  | some y =>
    have := List.find?_some hf
    rw [decide_eq_true_eq] at this
    rw [sq_inj (this.trans h.symm)]
theorem rootO_some {n : Int} {z : Nat} (h : rootO n = some z) : (z : Int) * z = n := by
  unfold rootO at h
  by_cases hn : n < 0
  · rw [if_pos hn] at h; cases h
  · rw [if_neg hn] at h
    have := List.find?_some h
    rwa [decide_eq_true_eq] at this
theorem rootO_none {n : Int} (h : ∀ z : Nat, (z : Int) * z ≠ n) : rootO n = none := by
  cases hr : rootO n with
  | none => rfl
  | some z => exact absurd (rootO_some hr) (h z)

/-- the search -/
def topI (t : T3) (x y : Nat) : Int := 0 - t.a * x * x - t.b * y * y
def hitO (t : T3) (x y : Nat) : Option (List Int) := if x = 0 ∧ y = 0 then none else if topI t x y % t.c = 0 then (rootO ((topI t x y).tdiv t.c)).map (fun z => [(x : Int), (y : Int), (z : Int)]) else none
def firstO {α : Type} (f : Nat → Option α) (N : Nat) : Option α := (List.range (N + 1)).findSome? (fun i => if i * i ≤ N then f i else none)
theorem first_none {α : Type} {f : Nat → Option α} {N k : Nat} (h : ∀ i, i < k → f i = none) (hk : ¬ k * k ≤ N) : firstO f N = none := by
  unfold firstO
  rw [List.findSome?_eq_none_iff]
  intro i _
  by_cases hi : i * i ≤ N
  · rw [if_pos hi]
    refine h i ?_
    rcases Nat.lt_or_ge i k with h1 | h1
    · exact h1
    · have := Nat.mul_le_mul h1 h1; omega
  · rw [if_neg hi]
theorem first_some {α : Type} {f : Nat → Option α} {N k : Nat} {a : α} (h : ∀ i, i < k → f i = none) (hk : k * k ≤ N) (ha : f k = some a) : firstO f N = some a := by
  have hkN : k ≤ N := by
    rcases Nat.eq_zero_or_pos k with e | e
    · omega
    · have := Nat.le_mul_of_pos_left k e; omega
  unfold firstO
  rw [show N + 1 = k + (1 + (N - k)) by omega, List.range_add, List.findSome?_append, List.findSome?_eq_none_iff.2 (fun i hi => by rw [h i (List.mem_range.1 hi), ite_self]), Option.none_or, List.range_add, List.map_append, List.findSome?_append]
  simp [hk, ha]
theorem first_mem {α : Type} {f : Nat → Option α} {N : Nat} {a : α} (h : firstO f N = some a) : ∃ k, k * k ≤ N ∧ f k = some a := by
  unfold firstO at h
  obtain ⟨k, _, hk⟩ := List.exists_of_findSome?_eq_some h
  by_cases h1 : k * k ≤ N
  · rw [if_pos h1] at hk; exact ⟨k, h1, hk⟩
  · rw [if_neg h1] at hk; cases hk
theorem first_there {α : Type} {f : Nat → Option α} {N k : Nat} {a : α} (hk : k * k ≤ N) (ha : f k = some a) : ∃ b, firstO f N = some b := by
  cases hf : firstO f N with
  | some b => exact ⟨b, rfl⟩
  | none =>
    unfold firstO at hf
    have hkN : k ≤ N := by
      rcases Nat.eq_zero_or_pos k with e | e
      · omega
      · have := Nat.le_mul_of_pos_left k e; omega
    have := List.findSome?_eq_none_iff.1 hf k (List.mem_range.2 (by omega))
    rw [if_pos hk, ha] at this
    cases this
def rowO (t : T3) (x : Nat) : Option (List Int) := firstO (hitO t x) (t.a * t.c).natAbs
def searchO (t : T3) : Option (List Int) := firstO (rowO t) (t.b * t.c).natAbs
/-- what it finds -/
structure Found (t : T3) (x y z : Nat) : Prop where
  zero : t.a * x * x + t.b * y * y + t.c * z * z = 0
  xle : x * x ≤ (t.b * t.c).natAbs
  yle : y * y ≤ (t.a * t.c).natAbs
  some : ¬ (x = 0 ∧ y = 0)
theorem hit_found {t : T3} {x y : Nat} {l : List Int} (h : hitO t x y = some l) : ∃ z : Nat, l = [(x : Int), (y : Int), (z : Int)] ∧ t.a * x * x + t.b * y * y + t.c * z * z = 0 ∧ ¬ (x = 0 ∧ y = 0) := by
  unfold hitO at h
  by_cases h0 : x = 0 ∧ y = 0
  · rw [if_pos h0] at h; cases h
  · rw [if_neg h0] at h
    by_cases hd : topI t x y % t.c = 0
    · rw [if_pos hd] at h
      cases hr : rootO ((topI t x y).tdiv t.c) with
      | none => rw [hr] at h; cases h
      | some z =>
        rw [hr] at h
        cases h
        refine ⟨z, rfl, ?_, h0⟩
        have h1 := rootO_some hr
        have h2 := Int.mul_tdiv_cancel' (Int.dvd_of_emod_eq_zero hd)
        rw [← h1] at h2
        unfold topI at h2
        rw [← Int.mul_assoc] at h2
        omega
    · rw [if_neg hd] at h; cases h
theorem search_found {t : T3} {l : List Int} (h : searchO t = some l) : ∃ x y z : Nat, l = [(x : Int), (y : Int), (z : Int)] ∧ Found t x y z := by
  obtain ⟨x, hx, h1⟩ := first_mem h
  obtain ⟨y, hy, h2⟩ := first_mem h1
  obtain ⟨z, hl, h3, h4⟩ := hit_found h2
  exact ⟨x, y, z, hl, h3, hx, hy, h4⟩
theorem found_search {t : T3} {x y z : Nat} (hc : t.c ≠ 0) (h : Found t x y z) : ∃ l, searchO t = some l := by
  have e : topI t x y = t.c * ((z : Int) * z) := by unfold topI; have := h.zero; rw [← Int.mul_assoc]; omega
  have hh : hitO t x y = some [(x : Int), (y : Int), (z : Int)] := by
    unfold hitO
    rw [if_neg h.some, if_pos (by rw [e]; exact Int.mul_emod_right _ _), e, Int.mul_tdiv_cancel_left _ hc, rootO_of rfl]
    rfl
  obtain ⟨l1, h1⟩ := first_there (f := hitO t x) h.yle hh
  exact first_there (f := rowO t) h.xle h1
theorem wit_search {t : T3} (hc : t.c ≠ 0) (h : Wit t) : ∃ l, searchO t = some l := by
  obtain ⟨x, y, z, h1, h2, h3, h4⟩ := h
  exact found_search hc ⟨h1, by exact_mod_cast h2, by exact_mod_cast h3, h4⟩

/-- are three terms normal and small? -/
def nrmB (xs : List Int) : Bool := decide (xs.length = 3) && (xs.all (fun x => !(x == 0) && (inR x (-30000) 30000 && decide (rootG x = 1))) && (decide ((prodI xs).natAbs ≤ 30000) && decide (twoD (xs.getD 0 0) (xs.getD 1 0) (xs.getD 2 0) = 1)))
def T3.of (xs : List Int) : T3 := ⟨xs.getD 0 0, xs.getD 1 0, xs.getD 2 0⟩
def zsearchO (xs : List Int) : Option (List Int) := if nrmB xs then searchO (T3.of xs) else none
theorem nrmB_iff {a b c : Int} : nrmB [a, b, c] = true ↔ (a ≠ 0 ∧ b ≠ 0 ∧ c ≠ 0) ∧ ((-30000 ≤ a ∧ a ≤ 30000) ∧ (-30000 ≤ b ∧ b ≤ 30000) ∧ (-30000 ≤ c ∧ c ≤ 30000)) ∧ (rootG a = 1 ∧ rootG b = 1 ∧ rootG c = 1) ∧ (a * b * c).natAbs ≤ 30000 ∧ twoD a b c = 1 := by
  have e : prodI [a, b, c] = a * b * c := by show a * (b * (c * 1)) = _; rw [Int.mul_one, Int.mul_assoc]
  unfold nrmB inR
  rw [e]
  simp only [List.length_cons, List.length_nil, List.all_cons, List.all_nil, Bool.and_true, List.getD_cons_zero, List.getD_cons_succ, Bool.and_eq_true, Bool.not_eq_true', beq_eq_false_iff_ne, decide_eq_true_eq]
  constructor
  · rintro ⟨_, ⟨⟨a0, ⟨a1, a2⟩, a3⟩, ⟨b0, ⟨b1, b2⟩, b3⟩, c0, ⟨c1, c2⟩, c3⟩, h1, h2⟩
    exact ⟨⟨a0, b0, c0⟩, ⟨⟨a1, a2⟩, ⟨b1, b2⟩, c1, c2⟩, ⟨a3, b3, c3⟩, h1, h2⟩
  · rintro ⟨⟨a0, b0, c0⟩, ⟨⟨a1, a2⟩, ⟨b1, b2⟩, c1, c2⟩, ⟨a3, b3, c3⟩, h1, h2⟩
    exact ⟨trivial, ⟨⟨a0, ⟨a1, a2⟩, a3⟩, ⟨b0, ⟨b1, b2⟩, b3⟩, c0, ⟨c1, c2⟩, c3⟩, h1, h2⟩
theorem nrm_len {xs : List Int} (h : xs.length ≠ 3) : nrmB xs = false := by unfold nrmB; rw [decide_eq_false h]; rfl
theorem T3.bd {t : T3} (h : t.nz) {N : Nat} (hp : t.prod ≤ N) : t.a.natAbs ≤ N ∧ t.b.natAbs ≤ N ∧ t.c.natAbs ≤ N ∧ (t.b * t.c).natAbs ≤ N ∧ (t.a * t.c).natAbs ≤ N ∧ (t.a * t.b).natAbs ≤ N := by
  obtain ⟨ha, hb, hc⟩ := h
  unfold T3.prod at hp
  have a1 : 1 ≤ t.a.natAbs := by omega
  have b1 : 1 ≤ t.b.natAbs := by omega
  have c1 : 1 ≤ t.c.natAbs := by omega
  rw [Int.natAbs_mul, Int.natAbs_mul, Int.natAbs_mul]
  have e1 : t.a.natAbs * t.b.natAbs * t.c.natAbs = t.a.natAbs * (t.b.natAbs * t.c.natAbs) := Nat.mul_assoc ..
  have e2 : t.a.natAbs * t.b.natAbs * t.c.natAbs = t.b.natAbs * (t.a.natAbs * t.c.natAbs) := by rw [Nat.mul_assoc, Nat.mul_left_comm]
  have m1 := Nat.le_mul_of_pos_left (t.b.natAbs * t.c.natAbs) a1
  have m2 := Nat.le_mul_of_pos_left (t.a.natAbs * t.c.natAbs) b1
  have m3 := Nat.le_mul_of_pos_right (t.a.natAbs * t.b.natAbs) c1
  have m4 := Nat.le_mul_of_pos_right t.b.natAbs c1
  have m5 := Nat.le_mul_of_pos_right t.a.natAbs c1
  have m6 := Nat.le_mul_of_pos_left t.c.natAbs b1
  omega
theorem Nrm.is {a b c : Int} (h : Nrm a b c) : nrmB (nT a b c).toL = true := by
  obtain ⟨ha, hb, hc⟩ := h.nz
  have hbd := T3.bd h.nz h.lim
  unfold T3.toL
  rw [nrmB_iff]
  refine ⟨⟨ha, hb, hc⟩, by omega, ⟨(root_free ha h.free.1).1, (root_free hb h.free.2.1).1, (root_free hc h.free.2.2).1⟩, ?_, h.two⟩
  rw [Int.natAbs_mul, Int.natAbs_mul]
  have := h.lim
  unfold T3.prod at this
  omega

end Go.Proofs.Ytfjbdbfeolfcfaa
