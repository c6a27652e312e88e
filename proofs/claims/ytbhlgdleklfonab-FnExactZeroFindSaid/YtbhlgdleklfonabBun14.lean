/-
  Some texts in one file: Vals5 Vals5b.
-/
import Derived.Test.YtbhlgdleklfonabBun13
/-! Vals5 -/
set_option linter.unusedVariables false
namespace Go.Proofs.Ytbhlgdleklfonab
open Go.RowKit

def someB (vs : List Int) : Bool := vs.any (fun v => !(v == 0))
theorem someB_iff {vs : List Int} : someB vs = true ↔ ∃ v ∈ vs, v ≠ 0 := by
  unfold someB
  rw [List.any_eq_true]
  simp
/-- is it a zero? -/
def zeroB (xs vs : List Int) : Bool := vecB xs vs 1000000 && (someB vs && decide (valI xs vs xs.length = 0))
theorem vecB_iff {xs vs : List Int} {m : Int} : vecB xs vs m = true ↔ (∀ v ∈ vs, -m ≤ v ∧ v ≤ m) ∧ fvB xs = true ∧ vs.length = xs.length := by
  unfold vecB
  rw [Bool.and_eq_true, Bool.and_eq_true, List.all_eq_true, beq_iff_eq]
  constructor
  · rintro ⟨h1, h2, h3⟩
    refine ⟨fun v hv => ?_, h2, h3⟩
    have := h1 v hv
    unfold inR at this
    rwa [Bool.and_eq_true, decide_eq_true_eq, decide_eq_true_eq] at this
  · rintro ⟨h1, h2, h3⟩
    refine ⟨fun v hv => ?_, h2, h3⟩
    unfold inR
    rw [Bool.and_eq_true, decide_eq_true_eq, decide_eq_true_eq]
    exact h1 v hv
theorem zeroB_iff {xs vs : List Int} : zeroB xs vs = true ↔ (∀ v ∈ vs, -1000000 ≤ v ∧ v ≤ 1000000) ∧ fvB xs = true ∧ vs.length = xs.length ∧ (∃ v ∈ vs, v ≠ 0) ∧ valI xs vs xs.length = 0 := by
  unfold zeroB
  rw [Bool.and_eq_true, Bool.and_eq_true, vecB_iff, someB_iff, decide_eq_true_eq]
  constructor
  · rintro ⟨⟨h1, h2, h3⟩, h4, h5⟩; exact ⟨h1, h2, h3, h4, h5⟩
  · rintro ⟨h1, h2, h3, h4, h5⟩; exact ⟨⟨h1, h2, h3⟩, h4, h5⟩
theorem valI_bd6 {xs vs : List Int} (h : fvB xs = true) (hv : Vec6 vs) (hl : vs.length = xs.length) (i : Nat) (hi : i ≤ xs.length) : -30000000000000 * (i : Int) ≤ valI xs vs i ∧ valI xs vs i ≤ 30000000000000 * (i : Int) := by
  rw [← pair_self]
  exact pair_bd h hv hv hl hl i hi

/-- the greatest number that divides all -/
def gcdL (vs : List Int) : Nat := vs.foldl (fun g v => Nat.gcd g v.natAbs) 0
theorem gcdL_snoc (vs : List Int) (v : Int) : gcdL (vs ++ [v]) = Nat.gcd (gcdL vs) v.natAbs := by
  unfold gcdL; rw [List.foldl_append]; rfl
theorem gcdL_fold (k : Nat) : ∀ (vs : List Int) (g : Nat), (vs.map (fun v => (k : Int) * v)).foldl (fun g v => Nat.gcd g v.natAbs) (k * g) = k * vs.foldl (fun g v => Nat.gcd g v.natAbs) g
  | [], _ => rfl
  | v :: vs, g => by
    rw [List.map_cons, List.foldl_cons, List.foldl_cons, Int.natAbs_mul, Int.natAbs_natCast, Nat.gcd_mul_left, gcdL_fold k vs]
theorem gcdL_abs : ∀ (vs : List Int) (f : Int → Int) (g : Nat), (∀ v, (f v).natAbs = v.natAbs) → (vs.map f).foldl (fun g v => Nat.gcd g v.natAbs) g = vs.foldl (fun g v => Nat.gcd g v.natAbs) g
  | [], _, _, _ => rfl
  | v :: vs, f, g, h => by rw [List.map_cons, List.foldl_cons, List.foldl_cons, h, gcdL_abs vs f _ h]
theorem gcdL_scale (k : Int) (vs : List Int) : gcdL (vs.map (fun v => k * v)) = k.natAbs * gcdL vs := by
  have h1 := gcdL_fold k.natAbs vs 0
  rw [Nat.mul_zero] at h1
  show _ = k.natAbs * vs.foldl (fun g v => Nat.gcd g v.natAbs) 0
  rw [← h1]
  have h2 := gcdL_abs (vs.map (fun v => (k.natAbs : Int) * v)) (fun v => if 0 ≤ k then v else -v) 0 (fun v => by split; rfl; exact Int.natAbs_neg v)
  rw [← h2, List.map_map]
  unfold gcdL
  congr 1
  refine List.map_congr_left fun v _ => ?_
  show k * v = if 0 ≤ k then (k.natAbs : Int) * v else -((k.natAbs : Int) * v)
  by_cases hk : 0 ≤ k
  · rw [if_pos hk, Int.natAbs_of_nonneg hk]
  · rw [if_neg hk, Int.ofNat_natAbs_of_nonpos (by omega), Int.neg_mul, Int.neg_neg]
theorem gcdL_dvdG : ∀ (vs : List Int) (g : Nat), vs.foldl (fun g v => Nat.gcd g v.natAbs) g ∣ g ∧ ∀ v ∈ vs, vs.foldl (fun g v => Nat.gcd g v.natAbs) g ∣ v.natAbs
  | [], g => ⟨Nat.dvd_refl _, fun v hv => by cases hv⟩
  | w :: vs, g => by
    obtain ⟨h1, h2⟩ := gcdL_dvdG vs (Nat.gcd g w.natAbs)
    rw [List.foldl_cons]
    refine ⟨Nat.dvd_trans h1 (Nat.gcd_dvd_left ..), fun v hv => ?_⟩
    rcases List.mem_cons.1 hv with rfl | hv
    · exact Nat.dvd_trans h1 (Nat.gcd_dvd_right ..)
    · exact h2 v hv
theorem gcdL_dvd {vs : List Int} {v : Int} (h : v ∈ vs) : (gcdL vs : Int) ∣ v := Int.ofNat_dvd_left.2 ((gcdL_dvdG vs 0).2 v h)
theorem gcdL_pos {vs : List Int} (h : ∃ v ∈ vs, v ≠ 0) : 1 ≤ gcdL vs := by
  obtain ⟨v, hv, h0⟩ := h
  have := (gcdL_dvdG vs 0).2 v hv
  exact Nat.pos_of_dvd_of_pos this (by omega)
theorem gcdL_le {vs : List Int} {m : Nat} (h : ∀ v ∈ vs, v.natAbs ≤ m) (hs : ∃ v ∈ vs, v ≠ 0) : gcdL vs ≤ m := by
  obtain ⟨v, hv, h0⟩ := hs
  exact Nat.le_trans (Nat.le_of_dvd (by omega) ((gcdL_dvdG vs 0).2 v hv)) (h v hv)

/-- the sign of the first one that is not 0 -/
def signL : List Int → Int
  | [] => 1
  | v :: vs => if v = 0 then signL vs else if v < 0 then -1 else 1
theorem signL_pm : ∀ vs : List Int, signL vs = 1 ∨ signL vs = -1
  | [] => .inl rfl
  | v :: vs => by
    unfold signL
    by_cases h0 : v = 0
    · rw [if_pos h0]; exact signL_pm vs
    · rw [if_neg h0]
      by_cases hn : v < 0
      · rw [if_pos hn]; exact .inr rfl
      · rw [if_neg hn]; exact .inl rfl
theorem signL_scale {k : Int} (hk : k ≠ 0) : ∀ {vs : List Int}, (∃ v ∈ vs, v ≠ 0) → signL (vs.map (fun v => k * v)) = (if k < 0 then -1 else 1) * signL vs
  | [], h => by obtain ⟨v, hv, _⟩ := h; cases hv
  | v :: vs, h => by
    rw [List.map_cons]
    unfold signL
    by_cases h0 : v = 0
    · subst h0
      rw [Int.mul_zero, if_pos rfl, if_pos rfl]
      refine signL_scale hk ?_
      obtain ⟨w, hw, hw0⟩ := h
      rcases List.mem_cons.1 hw with rfl | hw
      · exact absurd rfl hw0
      · exact ⟨w, hw, hw0⟩
    · rw [if_neg (Int.mul_ne_zero hk h0), if_neg h0]
      rcases Int.lt_or_gt_of_ne hk with h1 | h1 <;> rcases Int.lt_or_gt_of_ne h0 with h2 | h2
      · rw [if_pos h1, if_pos h2, if_neg (by have := Int.mul_pos_of_neg_of_neg h1 h2; omega)]; rfl
      · rw [if_pos h1, if_neg (show ¬ v < 0 by omega), if_pos (Int.mul_neg_of_neg_of_pos h1 h2)]; rfl
      · rw [if_neg (show ¬ k < 0 by omega), if_pos h2, if_pos (Int.mul_neg_of_pos_of_neg h1 h2)]; rfl
      · rw [if_neg (show ¬ k < 0 by omega), if_neg (show ¬ v < 0 by omega), if_neg (by have := Int.mul_pos h1 h2; omega)]; rfl
/-- the plain one -/
def plainL (vs : List Int) : List Int := vs.map (fun v => (signL vs * v).tdiv (gcdL vs : Int))
theorem plainL_len (vs : List Int) : (plainL vs).length = vs.length := by unfold plainL; rw [List.length_map]
theorem plain_eq {vs : List Int} {v : Int} (h : v ∈ vs) : (signL vs * v).tdiv (gcdL vs : Int) * (signL vs * (gcdL vs : Int)) = v := by
  have hd : (gcdL vs : Int) ∣ signL vs * v := Int.dvd_mul_of_dvd_right (gcdL_dvd h)
  have e := Int.tdiv_mul_cancel hd
  rw [Int.mul_left_comm, e, ← Int.mul_assoc]
  rcases signL_pm vs with h | h <;> rw [h] <;> omega
theorem plain_back (vs : List Int) : (plainL vs).map (fun v => signL vs * (gcdL vs : Int) * v) = vs := by
  unfold plainL
  rw [List.map_map]
  conv => rhs; rw [← List.map_id vs]
  refine List.map_congr_left fun v hv => ?_
  show signL vs * (gcdL vs : Int) * (signL vs * v).tdiv (gcdL vs : Int) = v
  rw [Int.mul_comm]
  exact plain_eq hv
theorem plain_scale {k : Int} (hk : k ≠ 0) {vs : List Int} (h : ∃ v ∈ vs, v ≠ 0) : plainL (vs.map (fun v => k * v)) = plainL vs := by
  unfold plainL
  rw [List.map_map, signL_scale hk h, gcdL_scale]
  refine List.map_congr_left fun v hv => ?_
  show ((if k < 0 then -1 else 1) * signL vs * (k * v)).tdiv ((k.natAbs * gcdL vs : Nat) : Int) = (signL vs * v).tdiv (gcdL vs : Int)
  have e : (if k < 0 then -1 else 1) * signL vs * (k * v) = (k.natAbs : Int) * (signL vs * v) := by
    by_cases hn : k < 0
    · rw [if_pos hn, Int.ofNat_natAbs_of_nonpos (by omega)]
      simp only [Int.neg_mul, Int.one_mul, Int.mul_neg, Int.mul_left_comm]
    · rw [if_neg hn, Int.natAbs_of_nonneg (by omega)]
      simp only [Int.one_mul, Int.mul_left_comm]
  rw [e]
  push_cast
  exact Int.mul_tdiv_mul_of_pos _ _ (by omega)
theorem some_scale {k : Int} (hk : k ≠ 0) {vs : List Int} : (∃ v ∈ vs.map (fun v => k * v), v ≠ 0) ↔ ∃ v ∈ vs, v ≠ 0 := by
  constructor
  · rintro ⟨w, hw, h0⟩
    obtain ⟨v, hv, rfl⟩ := List.mem_map.1 hw
    exact ⟨v, hv, fun e => h0 (by rw [e]; exact Int.mul_zero _)⟩
  · rintro ⟨v, hv, h0⟩
    exact ⟨k * v, List.mem_map.2 ⟨v, hv, rfl⟩, Int.mul_ne_zero hk h0⟩
theorem sg_ne {vs : List Int} (h : ∃ v ∈ vs, v ≠ 0) : signL vs * (gcdL vs : Int) ≠ 0 := by
  have := gcdL_pos h
  refine Int.mul_ne_zero ?_ (by omega)
  rcases signL_pm vs with h | h <;> rw [h] <;> decide
theorem plain_some {vs : List Int} (h : ∃ v ∈ vs, v ≠ 0) : ∃ v ∈ plainL vs, v ≠ 0 := by
  have := plain_back vs
  have h2 : ∃ v ∈ (plainL vs).map (fun v => signL vs * (gcdL vs : Int) * v), v ≠ 0 := by rw [this]; exact h
  exact (some_scale (sg_ne h)).1 h2
theorem plain_plain {vs : List Int} (h : ∃ v ∈ vs, v ≠ 0) : plainL (plainL vs) = plainL vs := by
  have h1 := plain_scale (sg_ne h) (plain_some h)
  rw [plain_back] at h1
  exact h1.symm
theorem minus_map (vs : List Int) : vs.map (fun v => -v) = vs.map (fun v => -1 * v) := List.map_congr_left fun v _ => by omega
theorem plain_minus {vs : List Int} (h : ∃ v ∈ vs, v ≠ 0) : plainL (vs.map (fun v => -v)) = plainL vs := by
  rw [minus_map]; exact plain_scale (by decide) h
theorem plain_gcd {vs : List Int} (h : ∃ v ∈ vs, v ≠ 0) : gcdL (plainL vs) = 1 := by
  have h1 := gcdL_scale (signL vs * (gcdL vs : Int)) (plainL vs)
  rw [plain_back, Int.natAbs_mul, Int.natAbs_natCast] at h1
  have h2 : (signL vs).natAbs = 1 := by rcases signL_pm vs with h | h <;> rw [h] <;> rfl
  rw [h2, Nat.one_mul] at h1
  have h3 := gcdL_pos h
  exact Nat.eq_of_mul_eq_mul_left h3 (by rw [← h1, Nat.mul_one])

theorem getD_map0 (f : Int → Int) (h0 : f 0 = 0) (vs : List Int) (i : Nat) : (vs.map f).getD i 0 = f (vs.getD i 0) := by
  by_cases h : i < vs.length
  · rw [getD_at _ _ (by rw [List.length_map]; exact h), getD_at _ _ h, List.getElem_map]
  · have e1 : vs.getD i 0 = 0 := by simp [List.getD, List.getElem?_eq_none (Nat.le_of_not_lt h)]
    have e2 : (vs.map f).getD i 0 = 0 := by simp [List.getD, List.getElem?_eq_none (Nat.le_of_not_lt h)]
    rw [e1, e2, h0]
theorem val_scale (xs : List Int) (k : Int) (vs : List Int) : ∀ i, valI xs (vs.map (fun v => k * v)) i = k * k * valI xs vs i
  | 0 => by unfold valI; rw [Int.mul_zero]
  | i + 1 => by
    unfold valI
    rw [val_scale xs k vs i, getD_map0 (fun v => k * v) (Int.mul_zero k), Int.mul_add]
    congr 1
    simp only [Int.mul_assoc, Int.mul_left_comm]

/-- the greatest size -/
def hgtL (vs : List Int) : Nat := vs.foldl (fun m v => max m v.natAbs) 0
theorem hgt_snoc (vs : List Int) (v : Int) : hgtL (vs ++ [v]) = max (hgtL vs) v.natAbs := by unfold hgtL; rw [List.foldl_append]; rfl
theorem hgt_fold : ∀ (vs : List Int) (m : Nat), m ≤ vs.foldl (fun m v => max m v.natAbs) m ∧ (∀ v ∈ vs, v.natAbs ≤ vs.foldl (fun m v => max m v.natAbs) m) ∧ (vs.foldl (fun m v => max m v.natAbs) m = m ∨ ∃ v ∈ vs, v.natAbs = vs.foldl (fun m v => max m v.natAbs) m)
  | [], m => ⟨Nat.le_refl _, fun v hv => by (cases hv), .inl rfl⟩
  | w :: vs, m => by
    obtain ⟨h1, h2, h3⟩ := hgt_fold vs (max m w.natAbs)
    rw [List.foldl_cons]
    refine ⟨by omega, fun v hv => ?_, ?_⟩
    · clear h3
      rcases List.mem_cons.1 hv with rfl | hv
      · omega
      · exact h2 v hv
    · rcases h3 with h3 | ⟨v, hv, e⟩
      · by_cases hm : w.natAbs ≤ m
        · left; rw [h3]; omega
        · right; exact ⟨w, List.mem_cons_self .., by rw [h3]; omega⟩
      · exact .inr ⟨v, List.mem_cons_of_mem _ hv, e⟩
theorem hgt_ge {vs : List Int} {v : Int} (h : v ∈ vs) : v.natAbs ≤ hgtL vs := (hgt_fold vs 0).2.1 v h
theorem hgt_at {vs : List Int} (h : ∃ v ∈ vs, v ≠ 0) : ∃ v ∈ vs, v.natAbs = hgtL vs := by
  rcases (hgt_fold vs 0).2.2 with e | e
  · obtain ⟨v, hv, h0⟩ := h
    have := hgt_ge hv
    have e' : hgtL vs = 0 := e
    omega
  · exact e
theorem hgt_le {vs : List Int} {m : Nat} (h : ∀ v ∈ vs, v.natAbs ≤ m) : hgtL vs ≤ m := by
  rcases (hgt_fold vs 0).2.2 with e | ⟨v, hv, e⟩
  · have e' : hgtL vs = 0 := e
    omega
  · have e' : v.natAbs = hgtL vs := e
    have := h v hv
    omega
theorem hgt_pos {vs : List Int} (h : ∃ v ∈ vs, v ≠ 0) : 1 ≤ hgtL vs := by
  obtain ⟨v, hv, h0⟩ := h
  have := hgt_ge hv
  omega
theorem hgt_scale {k : Int} {vs : List Int} (h : ∃ v ∈ vs, v ≠ 0) (hk : k ≠ 0) : hgtL (vs.map (fun v => k * v)) = k.natAbs * hgtL vs := by
  apply Nat.le_antisymm
  · refine hgt_le fun w hw => ?_
    obtain ⟨v, hv, rfl⟩ := List.mem_map.1 hw
    rw [Int.natAbs_mul]
    exact Nat.mul_le_mul_left _ (hgt_ge hv)
  · obtain ⟨v, hv, e⟩ := hgt_at h
    rw [← e, ← Int.natAbs_mul]
    exact hgt_ge (List.mem_map.2 ⟨v, hv, rfl⟩)
theorem hgt_plain {vs : List Int} (h : ∃ v ∈ vs, v ≠ 0) : hgtL vs = gcdL vs * hgtL (plainL vs) := by
  have h1 := hgt_scale (plain_some h) (sg_ne h)
  rw [plain_back, Int.natAbs_mul, Int.natAbs_natCast] at h1
  have h2 : (signL vs).natAbs = 1 := by rcases signL_pm vs with h | h <;> rw [h] <;> rfl
  rw [h2, Nat.one_mul] at h1
  exact h1
/-- the plain one of a zero is a zero, no higher -/
theorem plain_zero {xs vs : List Int} (h : zeroB xs vs = true) : zeroB xs (plainL vs) = true := by
  obtain ⟨h1, h2, h3, h4, h5⟩ := zeroB_iff.1 h
  refine zeroB_iff.2 ⟨fun v hv => ?_, h2, by rw [plainL_len]; exact h3, plain_some h4, ?_⟩
  · have e := hgt_plain h4
    have g := gcdL_pos h4
    have l := hgt_ge hv
    have l2 := Nat.le_mul_of_pos_left (hgtL (plainL vs)) g
    have l3 : hgtL vs ≤ 1000000 := hgt_le fun w hw => by have := h1 w hw; omega
    omega
  · have e := val_scale xs (signL vs * (gcdL vs : Int)) (plainL vs) xs.length
    rw [plain_back, h5] at e
    have n := sg_ne h4
    rcases Int.mul_eq_zero.1 e.symm with e | e
    · exact absurd e (Int.mul_ne_zero n n)
    · exact e
theorem minus_zero {xs vs : List Int} (h : zeroB xs vs = true) : zeroB xs (vs.map (fun v => -v)) = true := by
  obtain ⟨h1, h2, h3, h4, h5⟩ := zeroB_iff.1 h
  refine zeroB_iff.2 ⟨fun v hv => ?_, h2, by rw [List.length_map]; exact h3, ?_, ?_⟩
  · obtain ⟨w, hw, rfl⟩ := List.mem_map.1 hv
    have := h1 w hw
    omega
  · rw [minus_map]; exact (some_scale (by decide)).2 h4
  · rw [minus_map, val_scale, h5]; rfl

def sumL (vs ws : List Int) : List Int := (List.range vs.length).map (fun i => vs.getD i 0 + ws.getD i 0)
theorem sumL_at {vs ws : List Int} {i : Nat} (h : i < vs.length) : (sumL vs ws).getD i 0 = vs.getD i 0 + ws.getD i 0 := by
  unfold sumL
  rw [getD_at _ _ (by simp; exact h)]
  simp
theorem pair_sum (xs vs ws : List Int) : ∀ i, i ≤ vs.length → valI xs (sumL vs ws) i = valI xs vs i + valI xs ws i + 2 * pairI xs vs ws i
  | 0, _ => by simp [valI, pairI]
  | i + 1, h => by
    unfold valI pairI
    rw [pair_sum xs vs ws i (by omega), sumL_at (by omega)]
    have e : ∀ x v w : Int, x * (v + w) * (v + w) = x * v * v + x * w * w + 2 * (x * v * w) := fun x v w => by
      rw [Int.mul_add, Int.mul_add, Int.add_mul, Int.add_mul, Int.mul_right_comm x w v]
      omega
    rw [e]
    omega

/-- what chapter 5's first functions answer -/
def zplainL (xs vs : List Int) : List Int := if zeroB xs vs then plainL vs else []
def zhgtV (xs vs : List Int) : Int := if zeroB xs vs then (hgtL vs : Nat) else -1
def zpairOk (xs vs ws : List Int) : Bool := vecB xs vs 1000 && vecB xs ws 1000
def zpairV (xs vs ws : List Int) : Value := if zpairOk xs vs ws then .tuple #[.int .i64 (pairI xs vs ws xs.length), .bool true] else .tuple #[.int .i64 0, .bool false]

end Go.Proofs.Ytbhlgdleklfonab

/-! Vals5b -/
set_option linter.unusedVariables false
namespace Go.Proofs.Ytbhlgdleklfonab
open Go.RowKit

def sumZ (f : Int → Int) (lo : Int) : Nat → Int
  | 0 => 0
  | k + 1 => sumZ f lo k + f (lo + k)
theorem sumZ_succ (f : Int → Int) (lo : Int) (k : Nat) : sumZ f lo (k + 1) = sumZ f lo k + f (lo + k) := rfl
theorem sumZ_shift (f : Int → Int) (lo : Int) : ∀ k, sumZ f lo (k + 1) = f lo + sumZ f (lo + 1) k
  | 0 => by unfold sumZ; unfold sumZ; simp
  | k + 1 => by
    show sumZ f lo (k + 1) + f (lo + ((k + 1 : Nat) : Int)) = f lo + (sumZ f (lo + 1) k + f (lo + 1 + (k : Int)))
    rw [sumZ_shift f lo k, show lo + ((k + 1 : Nat) : Int) = lo + 1 + (k : Int) by omega, Int.add_assoc]
theorem sumZ_le {f g : Int → Int} {lo : Int} (h : ∀ x, f x ≤ g x) : ∀ k, sumZ f lo k ≤ sumZ g lo k
  | 0 => Int.le_refl _
  | k + 1 => Int.add_le_add (sumZ_le h k) (h _)
theorem sumZ_nn {f : Int → Int} {lo : Int} (h : ∀ x, 0 ≤ f x) : ∀ k, 0 ≤ sumZ f lo k
  | 0 => Int.le_refl _
  | k + 1 => Int.add_nonneg (sumZ_nn h k) (h _)
theorem sumZ_ge {f : Int → Int} {lo : Int} (h : ∀ x, 0 ≤ f x) {x : Int} : ∀ k : Nat, lo ≤ x → x < lo + k → f x ≤ sumZ f lo k
  | 0, h1, h2 => by omega
  | k + 1, h1, h2 => by
    unfold sumZ
    by_cases e : x = lo + k
    · rw [← e]; have := sumZ_nn (lo := lo) h k; omega
    · have := sumZ_ge (lo := lo) h k h1 (by omega); have := h (lo + k); omega
theorem sumZ_zero {f : Int → Int} {lo : Int} (h : ∀ x, f x = 0) : ∀ k, sumZ f lo k = 0
  | 0 => rfl
  | k + 1 => by unfold sumZ; rw [sumZ_zero h k, h]; rfl
theorem sumZ_bd {f : Int → Int} {lo M : Int} (h : ∀ x, f x ≤ M) : ∀ k : Nat, sumZ f lo k ≤ M * k
  | 0 => by simp [sumZ]
  | k + 1 => by
    unfold sumZ
    have h1 := sumZ_bd (lo := lo) h k
    have h2 := h (lo + k)
    push_cast
    rw [Int.mul_add, Int.mul_one]
    omega

/-- is it a plain zero? -/
def goodB (xs vs : List Int) : Bool := someB vs && (decide (valI xs vs vs.length = 0) && decide (plainL vs = vs))
/-- the plain zeros that go on from some integers by k more -/
def manyR (xs : List Int) (n : Int) : Nat → List Int → Int
  | 0, vs => if goodB xs vs then 1 else 0
  | k + 1, vs => sumZ (fun x => manyR xs n k (vs ++ [x])) (-n) (2 * n + 1).toNat
theorem many_nn (xs : List Int) (n : Int) : ∀ (k : Nat) (vs : List Int), 0 ≤ manyR xs n k vs
  | 0, vs => by unfold manyR; split <;> decide
  | k + 1, vs => sumZ_nn (fun x => many_nn xs n k (vs ++ [x])) _
theorem many_bd (xs : List Int) {n : Int} (h0 : 0 ≤ n) (h6 : n ≤ 6) : ∀ (k : Nat) (vs : List Int), manyR xs n k vs ≤ ((13 ^ k : Nat) : Int)
  | 0, vs => by unfold manyR; split <;> decide
  | k + 1, vs => by
    have h1 := sumZ_bd (lo := -n) (fun x => many_bd xs h0 h6 k (vs ++ [x])) (2 * n + 1).toNat
    have h2 : ((13 ^ k : Nat) : Int) * ((2 * n + 1).toNat : Int) ≤ ((13 ^ k : Nat) : Int) * 13 := Int.mul_le_mul_of_nonneg_left (by omega) (Int.natCast_nonneg _)
    have e : ((13 ^ (k + 1) : Nat) : Int) = ((13 ^ k : Nat) : Int) * 13 := by rw [Nat.pow_succ]; push_cast; rfl
    show sumZ _ _ _ ≤ _
    rw [e]
    exact Int.le_trans h1 h2
theorem many_grow (xs : List Int) {n : Int} (h0 : 0 ≤ n) : ∀ (k : Nat) (vs : List Int), manyR xs n k vs ≤ manyR xs (n + 1) k vs
  | 0, _ => Int.le_refl _
  | k + 1, vs => by
    show sumZ _ _ _ ≤ sumZ _ _ _
    have e : (2 * (n + 1) + 1).toNat = ((2 * n + 1).toNat + 1) + 1 := by omega
    rw [e, sumZ_shift, sumZ_succ]
    have h1 := sumZ_le (lo := -n) (fun x => many_grow xs h0 k (vs ++ [x])) (2 * n + 1).toNat
    have h2 := many_nn xs (n + 1) k (vs ++ [-(n + 1)])
    have h3 := many_nn xs (n + 1) k (vs ++ [-(n + 1) + 1 + ((2 * n + 1).toNat : Int)])
    rw [show -(n + 1) + 1 = -n by omega] at h3 ⊢
    omega
theorem many_none {xs : List Int} (n : Int) : ∀ (k : Nat) (vs : List Int), (∀ us : List Int, us.length = k → goodB xs (vs ++ us) = false) → manyR xs n k vs = 0
  | 0, vs, h => by
    have := h [] rfl
    rw [List.append_nil] at this
    unfold manyR
    rw [this]; rfl
  | k + 1, vs, h => by
    show sumZ _ _ _ = 0
    refine sumZ_zero (fun x => many_none n k (vs ++ [x]) fun us hu => ?_) _
    rw [List.append_assoc]
    exact h ([x] ++ us) (by simp [hu])
theorem many_some {xs : List Int} {n : Int} (h0 : 0 ≤ n) : ∀ (us vs : List Int), (∀ u ∈ us, -n ≤ u ∧ u ≤ n) → goodB xs (vs ++ us) = true → 1 ≤ manyR xs n us.length vs
  | [], vs, _, h => by
    rw [List.append_nil] at h
    show 1 ≤ if goodB xs vs then 1 else 0
    rw [h]; decide
  | u :: us, vs, hu, h => by
    have h1 := many_some h0 us (vs ++ [u]) (fun w hw => hu w (List.mem_cons_of_mem _ hw)) (by rw [List.append_assoc]; exact h)
    have hb := hu u (List.mem_cons_self ..)
    have h2 := sumZ_ge (lo := -n) (fun x => many_nn xs n us.length (vs ++ [x])) (x := u) (2 * n + 1).toNat (by omega) (by omega)
    exact Int.le_trans h1 h2
def zmanyOk (xs : List Int) (n : Int) : Bool := fvB xs && inR n 1 6
def zmanyV (xs : List Int) (n : Int) : Int := if zmanyOk xs n then manyR xs n xs.length [] else -1

/-- up to a power m of a prime P: does not P divide one at least, and m the value? -/
def unitB (P : Nat) (vs : List Int) : Bool := vs.any (fun v => !(v % (P : Int) == 0))
def modHit (xs : List Int) (P m : Nat) (vs : List Int) : Bool := unitB P vs && (valI xs vs vs.length % (m : Int) == 0)
def modR (xs : List Int) (P m : Nat) : Nat → List Int → Bool
  | 0, vs => modHit xs P m vs
  | k + 1, vs => (List.range m).any (fun x => modR xs P m k (vs ++ [(x : Int)]))
theorem modR_iff {xs : List Int} {P m : Nat} : ∀ {k : Nat} {vs : List Int}, modR xs P m k vs = true ↔ ∃ us : List Int, us.length = k ∧ (∀ u ∈ us, 0 ≤ u ∧ u < (m : Int)) ∧ modHit xs P m (vs ++ us) = true
  | 0, vs => by
    constructor
    · intro h; exact ⟨[], rfl, fun u hu => absurd hu List.not_mem_nil, by rw [List.append_nil]; exact h⟩
    · rintro ⟨us, h1, _, h3⟩
      rw [List.length_eq_zero_iff.1 h1, List.append_nil] at h3
      exact h3
  | k + 1, vs => by
    unfold modR
    rw [List.any_eq_true]
    constructor
    · rintro ⟨x, hx, h⟩
      obtain ⟨us, h1, h2, h3⟩ := modR_iff.1 h
      refine ⟨(x : Int) :: us, by rw [List.length_cons, h1], fun u hu => ?_, by rw [List.append_assoc] at h3; exact h3⟩
      rcases List.mem_cons.1 hu with rfl | hu
      · have := List.mem_range.1 hx; omega
      · exact h2 u hu
    · rintro ⟨us, h1, h2, h3⟩
      cases us with
      | nil => cases h1
      | cons u us =>
        have hb := h2 u (List.mem_cons_self ..)
        refine ⟨u.toNat, List.mem_range.2 (by omega), modR_iff.2 ⟨us, by simpa using h1, fun w hw => h2 w (List.mem_cons_of_mem _ hw), ?_⟩⟩
        rw [Int.toNat_of_nonneg hb.1, List.append_assoc]
        exact h3
theorem val_mod (xs vs : List Int) (m : Int) : ∀ i, valI xs (vs.map (· % m)) i % m = valI xs vs i % m
  | 0 => rfl
  | i + 1 => by
    unfold valI
    rw [getD_map0 (· % m) (Int.zero_emod m), Int.add_emod, val_mod xs vs m i, Int.add_emod (valI xs vs i)]
    congr 2
    rw [Int.mul_emod, Int.mul_emod (xs.getD i 0), Int.emod_emod, ← Int.mul_emod (xs.getD i 0), ← Int.mul_emod]
theorem unit_mod {P : Nat} {m : Int} (h : (P : Int) ∣ m) (vs : List Int) : unitB P (vs.map (· % m)) = unitB P vs := by
  unfold unitB
  rw [List.any_map]
  congr 1
  funext v
  show (!(v % m % (P : Int) == 0)) = _
  rw [Int.emod_emod_of_dvd _ h]
/-- what solves up to m, with any integers, is found -/
theorem modR_of {xs vs : List Int} {P m : Nat} (hm : 1 ≤ m) (hd : P ∣ m) (hl : vs.length = xs.length) (hu : unitB P vs = true) (hv : valI xs vs xs.length % (m : Int) = 0) : modR xs P m xs.length [] = true := by
  refine modR_iff.2 ⟨vs.map (· % (m : Int)), by rw [List.length_map]; exact hl, fun u hu => ?_, ?_⟩
  · obtain ⟨v, _, rfl⟩ := List.mem_map.1 hu
    exact ⟨Int.emod_nonneg _ (by omega), Int.emod_lt_of_pos _ (by omega)⟩
  · unfold modHit
    rw [List.nil_append, unit_mod (Int.natCast_dvd_natCast.2 hd), hu, List.length_map, hl, val_mod, hv]
    rfl
theorem modR_to {xs : List Int} {P m : Nat} (h : modR xs P m xs.length [] = true) : ∃ vs : List Int, vs.length = xs.length ∧ unitB P vs = true ∧ valI xs vs xs.length % (m : Int) = 0 := by
  obtain ⟨us, h1, _, h3⟩ := modR_iff.1 h
  unfold modHit at h3
  rw [List.nil_append, Bool.and_eq_true, beq_iff_eq, h1] at h3
  exact ⟨us, h1, h3.1, h3.2⟩
/-- a lower power, too -/
theorem modR_less {xs : List Int} {P m n : Nat} (hn : 1 ≤ n) (hd : P ∣ n) (hm : n ∣ m) (h : modR xs P m xs.length [] = true) : modR xs P n xs.length [] = true := by
  obtain ⟨vs, h1, h2, h3⟩ := modR_to h
  exact modR_of hn hd h1 h2 (Int.emod_eq_zero_of_dvd (Int.dvd_trans (Int.natCast_dvd_natCast.2 hm) (Int.dvd_of_emod_eq_zero h3)))
theorem gcdL_greatest {P : Nat} : ∀ {vs : List Int} {g : Nat}, P ∣ g → (∀ v ∈ vs, P ∣ v.natAbs) → P ∣ vs.foldl (fun g v => Nat.gcd g v.natAbs) g
  | [], _, hg, _ => hg
  | v :: vs, g, hg, h => by
    rw [List.foldl_cons]
    exact gcdL_greatest (Nat.dvd_gcd hg (h v (List.mem_cons_self ..))) fun w hw => h w (List.mem_cons_of_mem _ hw)
/-- a zero is one up to each power: its plain part -/
theorem zero_mod {xs vs : List Int} {P m : Nat} (hP : 2 ≤ P) (hm : 1 ≤ m) (hd : P ∣ m) (h : zeroB xs vs = true) : modR xs P m xs.length [] = true := by
  obtain ⟨_, _, _, h4, _⟩ := zeroB_iff.1 h
  obtain ⟨_, _, k3, _, k5⟩ := zeroB_iff.1 (plain_zero h)
  refine modR_of hm hd k3 ?_ (by rw [k5]; exact Int.zero_emod _)
  cases hu : unitB P (plainL vs) with
  | true => rfl
  | false =>
    exfalso
    have hall : ∀ v ∈ plainL vs, P ∣ v.natAbs := fun v hv => by
      unfold unitB at hu
      have := List.any_eq_false.1 hu v hv
      simp only [Bool.not_eq_true', Bool.not_eq_false, beq_iff_eq] at this
      exact Int.ofNat_dvd_left.1 (Int.dvd_of_emod_eq_zero this)
    have h1 : P ∣ gcdL (plainL vs) := gcdL_greatest (Nat.dvd_zero P) hall
    rw [plain_gcd h4] at h1
    have := Nat.le_of_dvd (by decide) h1
    omega
def zmodOk (xs : List Int) (p k : Int) : Bool := fvB xs && (decide (xs.length ≤ 3) && (primeI p && (decide (p ≤ 31) && inR k 1 5)))
def zmodV (xs : List Int) (p k : Int) : Bool := zmodOk xs p k && (decide (p.toNat ^ k.toNat ≤ 32) && modR xs p.toNat (p.toNat ^ k.toNat) xs.length [])

/-- zeros, by the number of terms -/
theorem list_one : ∀ {l : List Int}, l.length = 1 → ∃ a, l = [a]
  | [a], _ => ⟨a, rfl⟩
theorem list_two : ∀ {l : List Int}, l.length = 2 → ∃ a b, l = [a, b]
  | [a, b], _ => ⟨a, b, rfl⟩
theorem list_three : ∀ {l : List Int}, l.length = 3 → ∃ a b c, l = [a, b, c]
  | [a, b, c], _ => ⟨a, b, c, rfl⟩
theorem list_four : ∀ {l : List Int}, l.length = 4 → ∃ a b c d, l = [a, b, c, d]
  | [a, b, c, d], _ => ⟨a, b, c, d, rfl⟩
theorem val1 (a x : Int) : valI [a] [x] 1 = a * x * x := by show 0 + a * x * x = _; rw [Int.zero_add]
theorem val2 (a b x y : Int) : valI [a, b] [x, y] 2 = a * x * x + b * y * y := by show 0 + a * x * x + b * y * y = _; rw [Int.zero_add]
theorem val3 (a b c x y z : Int) : valI [a, b, c] [x, y, z] 3 = a * x * x + b * y * y + c * z * z := by show 0 + a * x * x + b * y * y + c * z * z = _; rw [Int.zero_add]
theorem val4 (a b c d x y z w : Int) : valI [a, b, c, d] [x, y, z, w] 4 = a * x * x + b * y * y + c * z * z + d * w * w := by show 0 + a * x * x + b * y * y + c * z * z + d * w * w = _; rw [Int.zero_add]
/-- A ZERO IS A ZERO AT ALL PLACES -/
theorem zero_van {xs vs : List Int} {q : Int} (hz : NZ xs) (h1 : 1 ≤ xs.length) (h4 : xs.length ≤ 4) (hl : vs.length = xs.length) (hs : ∃ v ∈ vs, v ≠ 0) (hv : valI xs vs xs.length = 0) (hq : plI q = true) : vanB xs q = true ∧ 2 ≤ xs.length := by
  have hc : xs.length = 1 ∨ xs.length = 2 ∨ xs.length = 3 ∨ xs.length = 4 := by omega
  rcases hc with e | e | e | e
  · exfalso
    obtain ⟨a, rfl⟩ := list_one e
    obtain ⟨x, rfl⟩ := list_one (hl.trans e)
    have hx : x ≠ 0 := by obtain ⟨v, hv, h0⟩ := hs; rw [List.mem_singleton] at hv; rwa [← hv]
    have hv' : valI [a] [x] 1 = 0 := hv
    rw [val1, Int.mul_assoc] at hv'
    exact Int.mul_ne_zero hz.head (Int.mul_ne_zero hx hx) hv'
  · obtain ⟨a, b, rfl⟩ := list_two e
    obtain ⟨x, y, rfl⟩ := list_two (hl.trans e)
    refine ⟨van2 (x := x) (y := y) hz.head hz.tail.head (fun h => ?_) ((val2 ..).symm.trans hv) hq, by omega⟩
    obtain ⟨v, hv, h0⟩ := hs
    simp only [List.mem_cons, List.not_mem_nil, or_false] at hv
    rcases hv with rfl | rfl <;> omega
  · obtain ⟨a, b, c, rfl⟩ := list_three e
    obtain ⟨x, y, z, rfl⟩ := list_three (hl.trans e)
    refine ⟨van3 (x := x) (y := y) (z := z) hz.head hz.tail.head hz.tail.tail.head (fun h => ?_) ((val3 ..).symm.trans hv) hq, by omega⟩
    obtain ⟨v, hv, h0⟩ := hs
    simp only [List.mem_cons, List.not_mem_nil, or_false] at hv
    rcases hv with rfl | rfl | rfl <;> omega
  · obtain ⟨a, b, c, d, rfl⟩ := list_four e
    obtain ⟨x, y, z, w, rfl⟩ := list_four (hl.trans e)
    refine ⟨van4 (x := x) (y := y) (z := z) (w := w) hz.head hz.tail.head hz.tail.tail.head hz.tail.tail.tail.head (fun h => ?_) ((val4 ..).symm.trans hv) hq, by omega⟩
    obtain ⟨v, hv, h0⟩ := hs
    simp only [List.mem_cons, List.not_mem_nil, or_false] at hv
    rcases hv with rfl | rfl | rfl | rfl <;> omega
theorem zero_bad {xs vs : List Int} (h : zeroB xs vs = true) : badL xs = [] := by
  obtain ⟨_, h2, h3, h4, h5⟩ := zeroB_iff.1 h
  have hb := fvB_iff.1 h2
  unfold badL
  rw [List.filter_eq_nil_iff]
  intro q hq
  have hpl : plI q = true := by unfold fplL at hq; rw [h2, if_pos rfl] at hq; exact places_fv h2 q hq
  rw [(zero_van (fv_nz h2) hb.2.1 hb.2.2 h3 h4 h5 hpl).1]
  decide

end Go.Proofs.Ytbhlgdleklfonab
