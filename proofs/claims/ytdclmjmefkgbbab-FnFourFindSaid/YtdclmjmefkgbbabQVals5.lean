/-
  Plain values of chapter 5: zeros, plain ones, heights, pairs, counts.
-/
import Derived.Test.YtdclmjmefkgbbabQBun45
import Derived.Test.YtdclmjmefkgbbabQBun11
set_option linter.unusedVariables false
namespace Go.Proofs.Ytdclmjmefkgbbab
open Go.RowKit

def someB (vs : List Int) : Bool := vs.any (fun v => !(v == 0))
theorem someB_iff {vs : List Int} : someB vs = true ↔ ∃ v ∈ vs, v ≠ 0 := by
  unfold someB
  rw [List.any_eq_true]
  simp
/-- is it a zero? -/
def zeroB (xs vs : List Int) : Bool := vecB xs vs 1000000 && (someB vs && decide (valI xs vs xs.length = 0))
theorem vecB_iff {xs vs : List Int} {m : Int} : vecB xs vs m = true ↔ (∀ v ∈ vs, -m ≤ v ∧ v ≤ m) ∧ fvB xs = true ∧ vs.length = xs.length := by
  unfold vecB
  rw [Bool.and_eq_true, Bool.and_eq_true, List.all_eq_true, beq_iff_eq]
  constructor
  · rintro ⟨h1, h2, h3⟩
    refine ⟨fun v hv => ?_, h2, h3⟩
    have := h1 v hv
    unfold inR at this
    rwa [Bool.and_eq_true, decide_eq_true_eq, decide_eq_true_eq] at this
  · rintro ⟨h1, h2, h3⟩
    refine ⟨fun v hv => ?_, h2, h3⟩
    unfold inR
    rw [Bool.and_eq_true, decide_eq_true_eq, decide_eq_true_eq]
    exact h1 v hv
theorem zeroB_iff {xs vs : List Int} : zeroB xs vs = true ↔ (∀ v ∈ vs, -1000000 ≤ v ∧ v ≤ 1000000) ∧ fvB xs = true ∧ vs.length = xs.length ∧ (∃ v ∈ vs, v ≠ 0) ∧ valI xs vs xs.length = 0 := by
  unfold zeroB
  rw [Bool.and_eq_true, Bool.and_eq_true, vecB_iff, someB_iff, decide_eq_true_eq]
  constructor
  · rintro ⟨⟨h1, h2, h3⟩, h4, h5⟩; exact ⟨h1, h2, h3, h4, h5⟩
  · rintro ⟨h1, h2, h3, h4, h5⟩; exact ⟨⟨h1, h2, h3⟩, h4, h5⟩
theorem valI_bd6 {xs vs : List Int} (h : fvB xs = true) (hv : Vec6 vs) (hl : vs.length = xs.length) (i : Nat) (hi : i ≤ xs.length) : -30000000000000 * (i : Int) ≤ valI xs vs i ∧ valI xs vs i ≤ 30000000000000 * (i : Int) := by
  rw [← pair_self]
  exact pair_bd h hv hv hl hl i hi

/-- the greatest number that divides all -/
def gcdL (vs : List Int) : Nat := vs.foldl (fun g v => Nat.gcd g v.natAbs) 0
theorem gcdL_snoc (vs : List Int) (v : Int) : gcdL (vs ++ [v]) = Nat.gcd (gcdL vs) v.natAbs := by
  unfold gcdL; rw [List.foldl_append]; rfl
theorem gcdL_fold (k : Nat) : ∀ (vs : List Int) (g : Nat), (vs.map (fun v => (k : Int) * v)).foldl (fun g v => Nat.gcd g v.natAbs) (k * g) = k * vs.foldl (fun g v => Nat.gcd g v.natAbs) g
  | [], _ => rfl
  | v :: vs, g => by
    rw [List.map_cons, List.foldl_cons, List.foldl_cons, Int.natAbs_mul, Int.natAbs_natCast, Nat.gcd_mul_left, gcdL_fold k vs]
theorem gcdL_abs : ∀ (vs : List Int) (f : Int → Int) (g : Nat), (∀ v, (f v).natAbs = v.natAbs) → (vs.map f).foldl (fun g v => Nat.gcd g v.natAbs) g = vs.foldl (fun g v => Nat.gcd g v.natAbs) g
  | [], _, _, _ => rfl
  | v :: vs, f, g, h => by rw [List.map_cons, List.foldl_cons, List.foldl_cons, h, gcdL_abs vs f _ h]
theorem gcdL_scale (k : Int) (vs : List Int) : gcdL (vs.map (fun v => k * v)) = k.natAbs * gcdL vs := by
  have h1 := gcdL_fold k.natAbs vs 0
  rw [Nat.mul_zero] at h1
  show _ = k.natAbs * vs.foldl (fun g v => Nat.gcd g v.natAbs) 0
  rw [← h1]
  have h2 := gcdL_abs (vs.map (fun v => (k.natAbs : Int) * v)) (fun v => if 0 ≤ k then v else -v) 0 (fun v => by split; rfl; exact Int.natAbs_neg v)
  rw [← h2, List.map_map]
  unfold gcdL
  congr 1
  refine List.map_congr_left fun v _ => ?_
  show k * v = if 0 ≤ k then (k.natAbs : Int) * v else -((k.natAbs : Int) * v)
  by_cases hk : 0 ≤ k
  · rw [if_pos hk, Int.natAbs_of_nonneg hk]
  · rw [if_neg hk, Int.ofNat_natAbs_of_nonpos (by omega), Int.neg_mul, Int.neg_neg]
theorem gcdL_dvdG : ∀ (vs : List Int) (g : Nat), vs.foldl (fun g v => Nat.gcd g v.natAbs) g ∣ g ∧ ∀ v ∈ vs, vs.foldl (fun g v => Nat.gcd g v.natAbs) g ∣ v.natAbs
  | [], g => ⟨Nat.dvd_refl _, fun v hv => by cases hv⟩
  | w :: vs, g => by
    obtain ⟨h1, h2⟩ := gcdL_dvdG vs (Nat.gcd g w.natAbs)
    rw [List.foldl_cons]
    refine ⟨Nat.dvd_trans h1 (Nat.gcd_dvd_left ..), fun v hv => ?_⟩
    rcases List.mem_cons.1 hv with rfl | hv
    · exact Nat.dvd_trans h1 (Nat.gcd_dvd_right ..)
    · exact h2 v hv
theorem gcdL_dvd {vs : List Int} {v : Int} (h : v ∈ vs) : (gcdL vs : Int) ∣ v := Int.ofNat_dvd_left.2 ((gcdL_dvdG vs 0).2 v h)
theorem gcdL_pos {vs : List Int} (h : ∃ v ∈ vs, v ≠ 0) : 1 ≤ gcdL vs := by
  obtain ⟨v, hv, h0⟩ := h
  have := (gcdL_dvdG vs 0).2 v hv
  exact Nat.pos_of_dvd_of_pos this (by omega)
theorem gcdL_le {vs : List Int} {m : Nat} (h : ∀ v ∈ vs, v.natAbs ≤ m) (hs : ∃ v ∈ vs, v ≠ 0) : gcdL vs ≤ m := by
  obtain ⟨v, hv, h0⟩ := hs
  exact Nat.le_trans (Nat.le_of_dvd (by omega) ((gcdL_dvdG vs 0).2 v hv)) (h v hv)

/-- the sign of the first one that is not 0 -/
def signL : List Int → Int
  | [] => 1
  | v :: vs => if v = 0 then signL vs else if v < 0 then -1 else 1
theorem signL_pm : ∀ vs : List Int, signL vs = 1 ∨ signL vs = -1
  | [] => .inl rfl
  | v :: vs => by
    unfold signL
    by_cases h0 : v = 0
    · rw [if_pos h0]; exact signL_pm vs
    · rw [if_neg h0]
      by_cases hn : v < 0
      · rw [if_pos hn]; exact .inr rfl
      · rw [if_neg hn]; exact .inl rfl
theorem signL_scale {k : Int} (hk : k ≠ 0) : ∀ {vs : List Int}, (∃ v ∈ vs, v ≠ 0) → signL (vs.map (fun v => k * v)) = (if k < 0 then -1 else 1) * signL vs
  | [], h => by obtain ⟨v, hv, _⟩ := h; cases hv
  | v :: vs, h => by
    rw [List.map_cons]
    unfold signL
    by_cases h0 : v = 0
    · subst h0
      rw [Int.mul_zero, if_pos rfl, if_pos rfl]
      refine signL_scale hk ?_
      obtain ⟨w, hw, hw0⟩ := h
      rcases List.mem_cons.1 hw with rfl | hw
      · exact absurd rfl hw0
      · exact ⟨w, hw, hw0⟩
    · rw [if_neg (Int.mul_ne_zero hk h0), if_neg h0]
      rcases Int.lt_or_gt_of_ne hk with h1 | h1 <;> rcases Int.lt_or_gt_of_ne h0 with h2 | h2
      · rw [if_pos h1, if_pos h2, if_neg (by have := Int.mul_pos_of_neg_of_neg h1 h2; omega)]; rfl
      · rw [if_pos h1, if_neg (show ¬ v < 0 by omega), if_pos (Int.mul_neg_of_neg_of_pos h1 h2)]; rfl
      · rw [if_neg (show ¬ k < 0 by omega), if_pos h2, if_pos (Int.mul_neg_of_pos_of_neg h1 h2)]; rfl
      · rw [if_neg (show ¬ k < 0 by omega), if_neg (show ¬ v < 0 by omega), if_neg (by have := Int.mul_pos h1 h2; omega)]; rfl
/-- the plain one -/
def plainL (vs : List Int) : List Int := vs.map (fun v => (signL vs * v).tdiv (gcdL vs : Int))
theorem plainL_len (vs : List Int) : (plainL vs).length = vs.length := by unfold plainL; rw [List.length_map]
theorem plain_eq {vs : List Int} {v : Int} (h : v ∈ vs) : (signL vs * v).tdiv (gcdL vs : Int) * (signL vs * (gcdL vs : Int)) = v := by
  have hd : (gcdL vs : Int) ∣ signL vs * v := Int.dvd_mul_of_dvd_right (gcdL_dvd h)
  have e := Int.tdiv_mul_cancel hd
  rw [Int.mul_left_comm, e, ← Int.mul_assoc]
  rcases signL_pm vs with h | h <;> rw [h] <;> omega
theorem plain_back (vs : List Int) : (plainL vs).map (fun v => signL vs * (gcdL vs : Int) * v) = vs := by
  unfold plainL
  rw [List.map_map]
  conv => rhs; rw [← List.map_id vs]
  refine List.map_congr_left fun v hv => ?_
  show signL vs * (gcdL vs : Int) * (signL vs * v).tdiv (gcdL vs : Int) = v
  rw [Int.mul_comm]
  exact plain_eq hv
theorem plain_scale {k : Int} (hk : k ≠ 0) {vs : List Int} (h : ∃ v ∈ vs, v ≠ 0) : plainL (vs.map (fun v => k * v)) = plainL vs := by
  unfold plainL
  rw [List.map_map, signL_scale hk h, gcdL_scale]
  refine List.map_congr_left fun v hv => ?_
  show ((if k < 0 then -1 else 1) * signL vs * (k * v)).tdiv ((k.natAbs * gcdL vs : Nat) : Int) = (signL vs * v).tdiv (gcdL vs : Int)
  have e : (if k < 0 then -1 else 1) * signL vs * (k * v) = (k.natAbs : Int) * (signL vs * v) := by
    by_cases hn : k < 0
    · rw [if_pos hn, Int.ofNat_natAbs_of_nonpos (by omega)]
      simp only [Int.neg_mul, Int.one_mul, Int.mul_neg, Int.mul_left_comm]
    · rw [if_neg hn, Int.natAbs_of_nonneg (by omega)]
      simp only [Int.one_mul, Int.mul_left_comm]
  rw [e]
  push_cast
  exact Int.mul_tdiv_mul_of_pos _ _ (by omega)
theorem some_scale {k : Int} (hk : k ≠ 0) {vs : List Int} : (∃ v ∈ vs.map (fun v => k * v), v ≠ 0) ↔ ∃ v ∈ vs, v ≠ 0 := by
  constructor
  · rintro ⟨w, hw, h0⟩
    obtain ⟨v, hv, rfl⟩ := List.mem_map.1 hw
    exact ⟨v, hv, fun e => h0 (by rw [e]; exact Int.mul_zero _)⟩
  · rintro ⟨v, hv, h0⟩
    exact ⟨k * v, List.mem_map.2 ⟨v, hv, rfl⟩, Int.mul_ne_zero hk h0⟩
theorem sg_ne {vs : List Int} (h : ∃ v ∈ vs, v ≠ 0) : signL vs * (gcdL vs : Int) ≠ 0 := by
  have := gcdL_pos h
  refine Int.mul_ne_zero ?_ (by omega)
  rcases signL_pm vs with h | h <;> rw [h] <;> decide
theorem plain_some {vs : List Int} (h : ∃ v ∈ vs, v ≠ 0) : ∃ v ∈ plainL vs, v ≠ 0 := by
  have := plain_back vs
  have h2 : ∃ v ∈ (plainL vs).map (fun v => signL vs * (gcdL vs : Int) * v), v ≠ 0 := by rw [this]; exact h
  exact (some_scale (sg_ne h)).1 h2
theorem plain_plain {vs : List Int} (h : ∃ v ∈ vs, v ≠ 0) : plainL (plainL vs) = plainL vs := by
  have h1 := plain_scale (sg_ne h) (plain_some h)
  rw [plain_back] at h1
  exact h1.symm
theorem minus_map (vs : List Int) : vs.map (fun v => -v) = vs.map (fun v => -1 * v) := List.map_congr_left fun v _ => by omega
theorem plain_minus {vs : List Int} (h : ∃ v ∈ vs, v ≠ 0) : plainL (vs.map (fun v => -v)) = plainL vs := by
  rw [minus_map]; exact plain_scale (by decide) h
theorem plain_gcd {vs : List Int} (h : ∃ v ∈ vs, v ≠ 0) : gcdL (plainL vs) = 1 := by
  have h1 := gcdL_scale (signL vs * (gcdL vs : Int)) (plainL vs)
  rw [plain_back, Int.natAbs_mul, Int.natAbs_natCast] at h1
  have h2 : (signL vs).natAbs = 1 := by rcases signL_pm vs with h | h <;> rw [h] <;> rfl
  rw [h2, Nat.one_mul] at h1
  have h3 := gcdL_pos h
  exact Nat.eq_of_mul_eq_mul_left h3 (by rw [← h1, Nat.mul_one])

theorem getD_map0 (f : Int → Int) (h0 : f 0 = 0) (vs : List Int) (i : Nat) : (vs.map f).getD i 0 = f (vs.getD i 0) := by
  by_cases h : i < vs.length
  · rw [getD_at _ _ (by rw [List.length_map]; exact h), getD_at _ _ h, List.getElem_map]
  · have e1 : vs.getD i 0 = 0 := by simp [List.getD, List.getElem?_eq_none (Nat.le_of_not_lt h)]
    have e2 : (vs.map f).getD i 0 = 0 := by simp [List.getD, List.getElem?_eq_none (Nat.le_of_not_lt h)]
    rw [e1, e2, h0]
theorem val_scale (xs : List Int) (k : Int) (vs : List Int) : ∀ i, valI xs (vs.map (fun v => k * v)) i = k * k * valI xs vs i
  | 0 => by unfold valI; rw [Int.mul_zero]
  | i + 1 => by
    unfold valI
    rw [val_scale xs k vs i, getD_map0 (fun v => k * v) (Int.mul_zero k), Int.mul_add]
    congr 1
    simp only [Int.mul_assoc, Int.mul_left_comm]

/-- the greatest size -/
def hgtL (vs : List Int) : Nat := vs.foldl (fun m v => max m v.natAbs) 0
theorem hgt_snoc (vs : List Int) (v : Int) : hgtL (vs ++ [v]) = max (hgtL vs) v.natAbs := by unfold hgtL; rw [List.foldl_append]; rfl
theorem hgt_fold : ∀ (vs : List Int) (m : Nat), m ≤ vs.foldl (fun m v => max m v.natAbs) m ∧ (∀ v ∈ vs, v.natAbs ≤ vs.foldl (fun m v => max m v.natAbs) m) ∧ (vs.foldl (fun m v => max m v.natAbs) m = m ∨ ∃ v ∈ vs, v.natAbs = vs.foldl (fun m v => max m v.natAbs) m)
  | [], m => ⟨Nat.le_refl _, fun v hv => by (cases hv), .inl rfl⟩
  | w :: vs, m => by
    obtain ⟨h1, h2, h3⟩ := hgt_fold vs (max m w.natAbs)
    rw [List.foldl_cons]
    refine ⟨by omega, fun v hv => ?_, ?_⟩
    · clear h3
      rcases List.mem_cons.1 hv with rfl | hv
      · omega
      · exact h2 v hv
    · rcases h3 with h3 | ⟨v, hv, e⟩
      · by_cases hm : w.natAbs ≤ m
        · left; rw [h3]; omega
        · right; exact ⟨w, List.mem_cons_self .., by rw [h3]; omega⟩
      · exact .inr ⟨v, List.mem_cons_of_mem _ hv, e⟩
theorem hgt_ge {vs : List Int} {v : Int} (h : v ∈ vs) : v.natAbs ≤ hgtL vs := (hgt_fold vs 0).2.1 v h
theorem hgt_at {vs : List Int} (h : ∃ v ∈ vs, v ≠ 0) : ∃ v ∈ vs, v.natAbs = hgtL vs := by
  rcases (hgt_fold vs 0).2.2 with e | e
  · obtain ⟨v, hv, h0⟩ := h
    have := hgt_ge hv
    have e' : hgtL vs = 0 := e
    omega
  · exact e
theorem hgt_le {vs : List Int} {m : Nat} (h : ∀ v ∈ vs, v.natAbs ≤ m) : hgtL vs ≤ m := by
  rcases (hgt_fold vs 0).2.2 with e | ⟨v, hv, e⟩
  · have e' : hgtL vs = 0 := e
    omega
  · have e' : v.natAbs = hgtL vs := e
    have := h v hv
    omega
theorem hgt_pos {vs : List Int} (h : ∃ v ∈ vs, v ≠ 0) : 1 ≤ hgtL vs := by
  obtain ⟨v, hv, h0⟩ := h
  have := hgt_ge hv
  omega
theorem hgt_scale {k : Int} {vs : List Int} (h : ∃ v ∈ vs, v ≠ 0) (hk : k ≠ 0) : hgtL (vs.map (fun v => k * v)) = k.natAbs * hgtL vs := by
  apply Nat.le_antisymm
  · refine hgt_le fun w hw => ?_
    obtain ⟨v, hv, rfl⟩ := List.mem_map.1 hw
    rw [Int.natAbs_mul]
    exact Nat.mul_le_mul_left _ (hgt_ge hv)
  · obtain ⟨v, hv, e⟩ := hgt_at h
    rw [← e, ← Int.natAbs_mul]
    exact hgt_ge (List.mem_map.2 ⟨v, hv, rfl⟩)
theorem hgt_plain {vs : List Int} (h : ∃ v ∈ vs, v ≠ 0) : hgtL vs = gcdL vs * hgtL (plainL vs) := by
  have h1 := hgt_scale (plain_some h) (sg_ne h)
  rw [plain_back, Int.natAbs_mul, Int.natAbs_natCast] at h1
  have h2 : (signL vs).natAbs = 1 := by rcases signL_pm vs with h | h <;> rw [h] <;> rfl
  rw [h2, Nat.one_mul] at h1
  exact h1
/-- the plain one of a zero is a zero, no higher -/
theorem plain_zero {xs vs : List Int} (h : zeroB xs vs = true) : zeroB xs (plainL vs) = true := by
  obtain ⟨h1, h2, h3, h4, h5⟩ := zeroB_iff.1 h
  refine zeroB_iff.2 ⟨fun v hv => ?_, h2, by rw [plainL_len]; exact h3, plain_some h4, ?_⟩
  · have e := hgt_plain h4
    have g := gcdL_pos h4
    have l := hgt_ge hv
    have l2 := Nat.le_mul_of_pos_left (hgtL (plainL vs)) g
    have l3 : hgtL vs ≤ 1000000 := hgt_le fun w hw => by have := h1 w hw; omega
    omega
  · have e := val_scale xs (signL vs * (gcdL vs : Int)) (plainL vs) xs.length
    rw [plain_back, h5] at e
    have n := sg_ne h4
    rcases Int.mul_eq_zero.1 e.symm with e | e
    · exact absurd e (Int.mul_ne_zero n n)
    · exact e
theorem minus_zero {xs vs : List Int} (h : zeroB xs vs = true) : zeroB xs (vs.map (fun v => -v)) = true := by
  obtain ⟨h1, h2, h3, h4, h5⟩ := zeroB_iff.1 h
  refine zeroB_iff.2 ⟨fun v hv => ?_, h2, by rw [List.length_map]; exact h3, ?_, ?_⟩
  · obtain ⟨w, hw, rfl⟩ := List.mem_map.1 hv
    have := h1 w hw
    omega
  · rw [minus_map]; exact (some_scale (by decide)).2 h4
  · rw [minus_map, val_scale, h5]; rfl

def sumL (vs ws : List Int) : List Int := (List.range vs.length).map (fun i => vs.getD i 0 + ws.getD i 0)
theorem sumL_at {vs ws : List Int} {i : Nat} (h : i < vs.length) : (sumL vs ws).getD i 0 = vs.getD i 0 + ws.getD i 0 := by
  unfold sumL
  rw [getD_at _ _ (by simp; exact h)]
  simp
theorem pair_sum (xs vs ws : List Int) : ∀ i, i ≤ vs.length → valI xs (sumL vs ws) i = valI xs vs i + valI xs ws i + 2 * pairI xs vs ws i
  | 0, _ => by simp [valI, pairI]
  | i + 1, h => by
    unfold valI pairI
    rw [pair_sum xs vs ws i (by omega), sumL_at (by omega)]
    have e : ∀ x v w : Int, x * (v + w) * (v + w) = x * v * v + x * w * w + 2 * (x * v * w) := fun x v w => by
      rw [Int.mul_add, Int.mul_add, Int.add_mul, Int.add_mul, Int.mul_right_comm x w v]
      omega
    rw [e]
    omega

/-- is it its own plain one? -/
def plainB (vs : List Int) : Bool := decide (plainL vs = vs)
/-- what chapter 5's first functions answer -/
def zplainL (xs vs : List Int) : List Int := if zeroB xs vs then plainL vs else []
def zhgtV (xs vs : List Int) : Int := if zeroB xs vs then (hgtL vs : Nat) else -1
def zpairOk (xs vs ws : List Int) : Bool := vecB xs vs 1000 && vecB xs ws 1000
def zpairV (xs vs ws : List Int) : Value := if zpairOk xs vs ws then .tuple #[.int .i64 (pairI xs vs ws xs.length), .bool true] else .tuple #[.int .i64 0, .bool false]

end Go.Proofs.Ytdclmjmefkgbbab
