/-
  Some texts in one file: Vals5 Zm1.
-/
import Derived.Test.YtenibnblibnocacQBun17
import Derived.Test.YtenibnblibnocacQBun13
/-! Vals5 -/
set_option linter.unusedVariables false
namespace Go.Proofs.Ytenibnblibnocac
open Go.RowKit

def someB (vs : List Int) : Bool := vs.any (fun v => !(v == 0))
theorem someB_iff {vs : List Int} : someB vs = true ↔ ∃ v ∈ vs, v ≠ 0 := by
  unfold someB
  rw [List.any_eq_true]
  simp
/-- is it a zero? -/
def zeroB (xs vs : List Int) : Bool := vecB xs vs 1000000 && (someB vs && decide (valI xs vs xs.length = 0))
theorem vecB_iff {xs vs : List Int} {m : Int} : vecB xs vs m = true ↔ (∀ v ∈ vs, -m ≤ v ∧ v ≤ m) ∧ fvB xs = true ∧ vs.length = xs.length := by
  unfold vecB
  rw [Bool.and_eq_true, Bool.and_eq_true, List.all_eq_true, beq_iff_eq]
  constructor
  · rintro ⟨h1, h2, h3⟩
    refine ⟨fun v hv => ?_, h2, h3⟩
    have := h1 v hv
    unfold inR at this
    rwa [Bool.and_eq_true, decide_eq_true_eq, decide_eq_true_eq] at this
  · rintro ⟨h1, h2, h3⟩
    refine ⟨fun v hv => ?_, h2, h3⟩
    unfold inR
    rw [Bool.and_eq_true, decide_eq_true_eq, decide_eq_true_eq]
    exact h1 v hv
theorem zeroB_iff {xs vs : List Int} : zeroB xs vs = true ↔ (∀ v ∈ vs, -1000000 ≤ v ∧ v ≤ 1000000) ∧ fvB xs = true ∧ vs.length = xs.length ∧ (∃ v ∈ vs, v ≠ 0) ∧ valI xs vs xs.length = 0 := by
  unfold zeroB
  rw [Bool.and_eq_true, Bool.and_eq_true, vecB_iff, someB_iff, decide_eq_true_eq]
  constructor
  · rintro ⟨⟨h1, h2, h3⟩, h4, h5⟩; exact ⟨h1, h2, h3, h4, h5⟩
  · rintro ⟨h1, h2, h3, h4, h5⟩; exact ⟨⟨h1, h2, h3⟩, h4, h5⟩
theorem valI_bd6 {xs vs : List Int} (h : fvB xs = true) (hv : Vec6 vs) (hl : vs.length = xs.length) (i : Nat) (hi : i ≤ xs.length) : -30000000000000 * (i : Int) ≤ valI xs vs i ∧ valI xs vs i ≤ 30000000000000 * (i : Int) := by
  rw [← pair_self]
  exact pair_bd h hv hv hl hl i hi

/-- the greatest number that divides all -/
def gcdL (vs : List Int) : Nat := vs.foldl (fun g v => Nat.gcd g v.natAbs) 0
theorem gcdL_snoc (vs : List Int) (v : Int) : gcdL (vs ++ [v]) = Nat.gcd (gcdL vs) v.natAbs := by
  unfold gcdL; rw [List.foldl_append]; rfl
theorem gcdL_fold (k : Nat) : ∀ (vs : List Int) (g : Nat), (vs.map (fun v => (k : Int) * v)).foldl (fun g v => Nat.gcd g v.natAbs) (k * g) = k * vs.foldl (fun g v => Nat.gcd g v.natAbs) g
  | [], _ => rfl
  | v :: vs, g => by
    rw [List.map_cons, List.foldl_cons, List.foldl_cons, Int.natAbs_mul, Int.natAbs_natCast, Nat.gcd_mul_left, gcdL_fold k vs]
theorem gcdL_abs : ∀ (vs : List Int) (f : Int → Int) (g : Nat), (∀ v, (f v).natAbs = v.natAbs) → (vs.map f).foldl (fun g v => Nat.gcd g v.natAbs) g = vs.foldl (fun g v => Nat.gcd g v.natAbs) g
  | [], _, _, _ => rfl
  | v :: vs, f, g, h => by rw [List.map_cons, List.foldl_cons, List.foldl_cons, h, gcdL_abs vs f _ h]
theorem gcdL_scale (k : Int) (vs : List Int) : gcdL (vs.map (fun v => k * v)) = k.natAbs * gcdL vs := by
  have h1 := gcdL_fold k.natAbs vs 0
  rw [Nat.mul_zero] at h1
  show _ = k.natAbs * vs.foldl (fun g v => Nat.gcd g v.natAbs) 0
  rw [← h1]
  have h2 := gcdL_abs (vs.map (fun v => (k.natAbs : Int) * v)) (fun v => if 0 ≤ k then v else -v) 0 (fun v => by split; rfl; exact Int.natAbs_neg v)
  rw [← h2, List.map_map]
  unfold gcdL
  congr 1
  refine List.map_congr_left fun v _ => ?_
  show k * v = if 0 ≤ k then (k.natAbs : Int) * v else -((k.natAbs : Int) * v)
  by_cases hk : 0 ≤ k
  · rw [if_pos hk, Int.natAbs_of_nonneg hk]
  · rw [if_neg hk, Int.ofNat_natAbs_of_nonpos (by omega), Int.neg_mul, Int.neg_neg]
theorem gcdL_dvdG : ∀ (vs : List Int) (g : Nat), vs.foldl (fun g v => Nat.gcd g v.natAbs) g ∣ g ∧ ∀ v ∈ vs, vs.foldl (fun g v => Nat.gcd g v.natAbs) g ∣ v.natAbs
  | [], g => ⟨Nat.dvd_refl _, fun v hv => by cases hv⟩
  | w :: vs, g => by
    obtain ⟨h1, h2⟩ := gcdL_dvdG vs (Nat.gcd g w.natAbs)
    rw [List.foldl_cons]
    refine ⟨Nat.dvd_trans h1 (Nat.gcd_dvd_left ..), fun v hv => ?_⟩
    rcases List.mem_cons.1 hv with rfl | hv
    · exact Nat.dvd_trans h1 (Nat.gcd_dvd_right ..)
    · exact h2 v hv
theorem gcdL_dvd {vs : List Int} {v : Int} (h : v ∈ vs) : (gcdL vs : Int) ∣ v := Int.ofNat_dvd_left.2 ((gcdL_dvdG vs 0).2 v h)
theorem gcdL_pos {vs : List Int} (h : ∃ v ∈ vs, v ≠ 0) : 1 ≤ gcdL vs := by
  obtain ⟨v, hv, h0⟩ := h
  have := (gcdL_dvdG vs 0).2 v hv
  exact Nat.pos_of_dvd_of_pos this (by omega)
theorem gcdL_le {vs : List Int} {m : Nat} (h : ∀ v ∈ vs, v.natAbs ≤ m) (hs : ∃ v ∈ vs, v ≠ 0) : gcdL vs ≤ m := by
  obtain ⟨v, hv, h0⟩ := hs
  exact Nat.le_trans (Nat.le_of_dvd (by omega) ((gcdL_dvdG vs 0).2 v hv)) (h v hv)

/-- the sign of the first one that is not 0 -/
def signL : List Int → Int
  | [] => 1
  | v :: vs => if v = 0 then signL vs else if v < 0 then -1 else 1
theorem signL_pm : ∀ vs : List Int, signL vs = 1 ∨ signL vs = -1
  | [] => .inl rfl
  | v :: vs => by
    unfold signL
    by_cases h0 : v = 0
    · rw [if_pos h0]; exact signL_pm vs
    · rw [if_neg h0]
      by_cases hn : v < 0
      · rw [if_pos hn]; exact .inr rfl
      · rw [if_neg hn]; exact .inl rfl
theorem signL_scale {k : Int} (hk : k ≠ 0) : ∀ {vs : List Int}, (∃ v ∈ vs, v ≠ 0) → signL (vs.map (fun v => k * v)) = (if k < 0 then -1 else 1) * signL vs
  | [], h => by obtain ⟨v, hv, _⟩ := h; cases hv
  | v :: vs, h => by
    rw [List.map_cons]
    unfold signL
    by_cases h0 : v = 0
    · subst h0
      rw [Int.mul_zero, if_pos rfl, if_pos rfl]
      refine signL_scale hk ?_
      obtain ⟨w, hw, hw0⟩ := h
      rcases List.mem_cons.1 hw with rfl | hw
      · exact absurd rfl hw0
      · exact ⟨w, hw, hw0⟩
    · rw [if_neg (Int.mul_ne_zero hk h0), if_neg h0]
      rcases Int.lt_or_gt_of_ne hk with h1 | h1 <;> rcases Int.lt_or_gt_of_ne h0 with h2 | h2
      · rw [if_pos h1, if_pos h2, if_neg (by have := Int.mul_pos_of_neg_of_neg h1 h2; omega)]; rfl
      · rw [if_pos h1, if_neg (show ¬ v < 0 by omega), if_pos (Int.mul_neg_of_neg_of_pos h1 h2)]; rfl
      · rw [if_neg (show ¬ k < 0 by omega), if_pos h2, if_pos (Int.mul_neg_of_pos_of_neg h1 h2)]; rfl
      · rw [if_neg (show ¬ k < 0 by omega), if_neg (show ¬ v < 0 by omega), if_neg (by have := Int.mul_pos h1 h2; omega)]; rfl
/-- the plain one -/
def plainL (vs : List Int) : List Int := vs.map (fun v => (signL vs * v).tdiv (gcdL vs : Int))
theorem plainL_len (vs : List Int) : (plainL vs).length = vs.length := by unfold plainL; rw [List.length_map]
theorem plain_eq {vs : List Int} {v : Int} (h : v ∈ vs) : (signL vs * v).tdiv (gcdL vs : Int) * (signL vs * (gcdL vs : Int)) = v := by
  have hd : (gcdL vs : Int) ∣ signL vs * v := Int.dvd_mul_of_dvd_right (gcdL_dvd h)
  have e := Int.tdiv_mul_cancel hd
  rw [Int.mul_left_comm, e, ← Int.mul_assoc]
  rcases signL_pm vs with h | h <;> rw [h] <;> omega
theorem plain_back (vs : List Int) : (plainL vs).map (fun v => signL vs * (gcdL vs : Int) * v) = vs := by
  unfold plainL
  rw [List.map_map]
  conv => rhs; rw [← List.map_id vs]
  refine List.map_congr_left fun v hv => ?_
  show signL vs * (gcdL vs : Int) * (signL vs * v).tdiv (gcdL vs : Int) = v
  rw [Int.mul_comm]
  exact plain_eq hv
theorem plain_scale {k : Int} (hk : k ≠ 0) {vs : List Int} (h : ∃ v ∈ vs, v ≠ 0) : plainL (vs.map (fun v => k * v)) = plainL vs := by
  unfold plainL
  rw [List.map_map, signL_scale hk h, gcdL_scale]
  refine List.map_congr_left fun v hv => ?_
  show ((if k < 0 then -1 else 1) * signL vs * (k * v)).tdiv ((k.natAbs * gcdL vs : Nat) : Int) = (signL vs * v).tdiv (gcdL vs : Int)
  have e : (if k < 0 then -1 else 1) * signL vs * (k * v) = (k.natAbs : Int) * (signL vs * v) := by
    by_cases hn : k < 0
    · rw [if_pos hn, Int.ofNat_natAbs_of_nonpos (by omega)]
      simp only [Int.neg_mul, Int.one_mul, Int.mul_neg, Int.mul_left_comm]
    · rw [if_neg hn, Int.natAbs_of_nonneg (by omega)]
      simp only [Int.one_mul, Int.mul_left_comm]
  rw [e]
  push_cast
  exact Int.mul_tdiv_mul_of_pos _ _ (by omega)
theorem some_scale {k : Int} (hk : k ≠ 0) {vs : List Int} : (∃ v ∈ vs.map (fun v => k * v), v ≠ 0) ↔ ∃ v ∈ vs, v ≠ 0 := by
  constructor
  · rintro ⟨w, hw, h0⟩
    obtain ⟨v, hv, rfl⟩ := List.mem_map.1 hw
    exact ⟨v, hv, fun e => h0 (by rw [e]; exact Int.mul_zero _)⟩
  · rintro ⟨v, hv, h0⟩
    exact ⟨k * v, List.mem_map.2 ⟨v, hv, rfl⟩, Int.mul_ne_zero hk h0⟩
theorem sg_ne {vs : List Int} (h : ∃ v ∈ vs, v ≠ 0) : signL vs * (gcdL vs : Int) ≠ 0 := by
  have := gcdL_pos h
  refine Int.mul_ne_zero ?_ (by omega)
  rcases signL_pm vs with h | h <;> rw [h] <;> decide
theorem plain_some {vs : List Int} (h : ∃ v ∈ vs, v ≠ 0) : ∃ v ∈ plainL vs, v ≠ 0 := by
  have := plain_back vs
  have h2 : ∃ v ∈ (plainL vs).map (fun v => signL vs * (gcdL vs : Int) * v), v ≠ 0 := by rw [this]; exact h
  exact (some_scale (sg_ne h)).1 h2
theorem plain_plain {vs : List Int} (h : ∃ v ∈ vs, v ≠ 0) : plainL (plainL vs) = plainL vs := by
  have h1 := plain_scale (sg_ne h) (plain_some h)
  rw [plain_back] at h1
  exact h1.symm
theorem minus_map (vs : List Int) : vs.map (fun v => -v) = vs.map (fun v => -1 * v) := List.map_congr_left fun v _ => by omega
theorem plain_minus {vs : List Int} (h : ∃ v ∈ vs, v ≠ 0) : plainL (vs.map (fun v => -v)) = plainL vs := by
  rw [minus_map]; exact plain_scale (by decide) h
theorem plain_gcd {vs : List Int} (h : ∃ v ∈ vs, v ≠ 0) : gcdL (plainL vs) = 1 := by
  have h1 := gcdL_scale (signL vs * (gcdL vs : Int)) (plainL vs)
  rw [plain_back, Int.natAbs_mul, Int.natAbs_natCast] at h1
  have h2 : (signL vs).natAbs = 1 := by rcases signL_pm vs with h | h <;> rw [h] <;> rfl
  rw [h2, Nat.one_mul] at h1
  have h3 := gcdL_pos h
  exact Nat.eq_of_mul_eq_mul_left h3 (by rw [← h1, Nat.mul_one])

theorem getD_map0 (f : Int → Int) (h0 : f 0 = 0) (vs : List Int) (i : Nat) : (vs.map f).getD i 0 = f (vs.getD i 0) := by
  by_cases h : i < vs.length
  · rw [getD_at _ _ (by rw [List.length_map]; exact h), getD_at _ _ h, List.getElem_map]
  · have e1 : vs.getD i 0 = 0 := by simp [List.getD, List.getElem?_eq_none (Nat.le_of_not_lt h)]
    have e2 : (vs.map f).getD i 0 = 0 := by simp [List.getD, List.getElem?_eq_none (Nat.le_of_not_lt h)]
    rw [e1, e2, h0]
theorem val_scale (xs : List Int) (k : Int) (vs : List Int) : ∀ i, valI xs (vs.map (fun v => k * v)) i = k * k * valI xs vs i
  | 0 => by unfold valI; rw [Int.mul_zero]
  | i + 1 => by
    unfold valI
    rw [val_scale xs k vs i, getD_map0 (fun v => k * v) (Int.mul_zero k), Int.mul_add]
    congr 1
    simp only [Int.mul_assoc, Int.mul_left_comm]

/-- the greatest size -/
def hgtL (vs : List Int) : Nat := vs.foldl (fun m v => max m v.natAbs) 0
theorem hgt_snoc (vs : List Int) (v : Int) : hgtL (vs ++ [v]) = max (hgtL vs) v.natAbs := by unfold hgtL; rw [List.foldl_append]; rfl
theorem hgt_fold : ∀ (vs : List Int) (m : Nat), m ≤ vs.foldl (fun m v => max m v.natAbs) m ∧ (∀ v ∈ vs, v.natAbs ≤ vs.foldl (fun m v => max m v.natAbs) m) ∧ (vs.foldl (fun m v => max m v.natAbs) m = m ∨ ∃ v ∈ vs, v.natAbs = vs.foldl (fun m v => max m v.natAbs) m)
  | [], m => ⟨Nat.le_refl _, fun v hv => by (cases hv), .inl rfl⟩
  | w :: vs, m => by
    obtain ⟨h1, h2, h3⟩ := hgt_fold vs (max m w.natAbs)
    rw [List.foldl_cons]
    refine ⟨by omega, fun v hv => ?_, ?_⟩
    · clear h3
      rcases List.mem_cons.1 hv with rfl | hv
      · omega
      · exact h2 v hv
    · rcases h3 with h3 | ⟨v, hv, e⟩
      · by_cases hm : w.natAbs ≤ m
        · left; rw [h3]; omega
        · right; exact ⟨w, List.mem_cons_self .., by rw [h3]; omega⟩
      · exact .inr ⟨v, List.mem_cons_of_mem _ hv, e⟩
theorem hgt_ge {vs : List Int} {v : Int} (h : v ∈ vs) : v.natAbs ≤ hgtL vs := (hgt_fold vs 0).2.1 v h
theorem hgt_at {vs : List Int} (h : ∃ v ∈ vs, v ≠ 0) : ∃ v ∈ vs, v.natAbs = hgtL vs := by
  rcases (hgt_fold vs 0).2.2 with e | e
  · obtain ⟨v, hv, h0⟩ := h
    have := hgt_ge hv
    have e' : hgtL vs = 0 := e
    omega
  · exact e
theorem hgt_le {vs : List Int} {m : Nat} (h : ∀ v ∈ vs, v.natAbs ≤ m) : hgtL vs ≤ m := by
  rcases (hgt_fold vs 0).2.2 with e | ⟨v, hv, e⟩
  · have e' : hgtL vs = 0 := e
    omega
  · have e' : v.natAbs = hgtL vs := e
    have := h v hv
    omega
theorem hgt_pos {vs : List Int} (h : ∃ v ∈ vs, v ≠ 0) : 1 ≤ hgtL vs := by
  obtain ⟨v, hv, h0⟩ := h
  have := hgt_ge hv
  omega
theorem hgt_scale {k : Int} {vs : List Int} (h : ∃ v ∈ vs, v ≠ 0) (hk : k ≠ 0) : hgtL (vs.map (fun v => k * v)) = k.natAbs * hgtL vs := by
  apply Nat.le_antisymm
  · refine hgt_le fun w hw => ?_
    obtain ⟨v, hv, rfl⟩ := List.mem_map.1 hw
    rw [Int.natAbs_mul]
    exact Nat.mul_le_mul_left _ (hgt_ge hv)
  · obtain ⟨v, hv, e⟩ := hgt_at h
    rw [← e, ← Int.natAbs_mul]
    exact hgt_ge (List.mem_map.2 ⟨v, hv, rfl⟩)
theorem hgt_plain {vs : List Int} (h : ∃ v ∈ vs, v ≠ 0) : hgtL vs = gcdL vs * hgtL (plainL vs) := by
  have h1 := hgt_scale (plain_some h) (sg_ne h)
  rw [plain_back, Int.natAbs_mul, Int.natAbs_natCast] at h1
  have h2 : (signL vs).natAbs = 1 := by rcases signL_pm vs with h | h <;> rw [h] <;> rfl
  rw [h2, Nat.one_mul] at h1
  exact h1
/-- the plain one of a zero is a zero, no higher -/
theorem plain_zero {xs vs : List Int} (h : zeroB xs vs = true) : zeroB xs (plainL vs) = true := by
  obtain ⟨h1, h2, h3, h4, h5⟩ := zeroB_iff.1 h
  refine zeroB_iff.2 ⟨fun v hv => ?_, h2, by rw [plainL_len]; exact h3, plain_some h4, ?_⟩
  · have e := hgt_plain h4
    have g := gcdL_pos h4
    have l := hgt_ge hv
    have l2 := Nat.le_mul_of_pos_left (hgtL (plainL vs)) g
    have l3 : hgtL vs ≤ 1000000 := hgt_le fun w hw => by have := h1 w hw; omega
    omega
  · have e := val_scale xs (signL vs * (gcdL vs : Int)) (plainL vs) xs.length
    rw [plain_back, h5] at e
    have n := sg_ne h4
    rcases Int.mul_eq_zero.1 e.symm with e | e
    · exact absurd e (Int.mul_ne_zero n n)
    · exact e
theorem minus_zero {xs vs : List Int} (h : zeroB xs vs = true) : zeroB xs (vs.map (fun v => -v)) = true := by
  obtain ⟨h1, h2, h3, h4, h5⟩ := zeroB_iff.1 h
  refine zeroB_iff.2 ⟨fun v hv => ?_, h2, by rw [List.length_map]; exact h3, ?_, ?_⟩
  · obtain ⟨w, hw, rfl⟩ := List.mem_map.1 hv
    have := h1 w hw
    omega
  · rw [minus_map]; exact (some_scale (by decide)).2 h4
  · rw [minus_map, val_scale, h5]; rfl

def sumL (vs ws : List Int) : List Int := (List.range vs.length).map (fun i => vs.getD i 0 + ws.getD i 0)
theorem sumL_at {vs ws : List Int} {i : Nat} (h : i < vs.length) : (sumL vs ws).getD i 0 = vs.getD i 0 + ws.getD i 0 := by
  unfold sumL
  rw [getD_at _ _ (by simp; exact h)]
  simp
theorem pair_sum (xs vs ws : List Int) : ∀ i, i ≤ vs.length → valI xs (sumL vs ws) i = valI xs vs i + valI xs ws i + 2 * pairI xs vs ws i
  | 0, _ => by simp [valI, pairI]
  | i + 1, h => by
    unfold valI pairI
    rw [pair_sum xs vs ws i (by omega), sumL_at (by omega)]
    have e : ∀ x v w : Int, x * (v + w) * (v + w) = x * v * v + x * w * w + 2 * (x * v * w) := fun x v w => by
      rw [Int.mul_add, Int.mul_add, Int.add_mul, Int.add_mul, Int.mul_right_comm x w v]
      omega
    rw [e]
    omega

/-- is it its own plain one? -/
def plainB (vs : List Int) : Bool := decide (plainL vs = vs)
/-- what chapter 5's first functions answer -/
def zplainL (xs vs : List Int) : List Int := if zeroB xs vs then plainL vs else []
def zhgtV (xs vs : List Int) : Int := if zeroB xs vs then (hgtL vs : Nat) else -1
def zpairOk (xs vs ws : List Int) : Bool := vecB xs vs 1000 && vecB xs ws 1000
def zpairV (xs vs ws : List Int) : Value := if zpairOk xs vs ws then .tuple #[.int .i64 (pairI xs vs ws xs.length), .bool true] else .tuple #[.int .i64 0, .bool false]

end Go.Proofs.Ytenibnblibnocac

/-! Zm1 -/
set_option linter.unusedVariables false
namespace Go.Proofs.Ytenibnblibnocac
open Go.RowKit

theorem gcdL_zero : ∀ (vs : List Int) (g : Nat), (∀ v ∈ vs, v = 0) → vs.foldl (fun g v => Nat.gcd g v.natAbs) g = g
  | [], _, _ => rfl
  | v :: vs, g, h => by
    rw [List.foldl_cons, h v (List.mem_cons_self ..), Int.natAbs_zero, Nat.gcd_zero_right]
    exact gcdL_zero vs g fun x hx => h x (List.mem_cons_of_mem _ hx)
theorem gcdL_leM {vs : List Int} {m : Nat} (h : ∀ v ∈ vs, v.natAbs ≤ m) : gcdL vs ≤ m := by
  by_cases hs : ∃ v ∈ vs, v ≠ 0
  · exact gcdL_le h hs
  · have : gcdL vs = 0 := gcdL_zero vs 0 fun v hv => Classical.byContradiction fun h0 => hs ⟨v, hv, h0⟩
    omega
theorem takeD_snoc {xs : List Int} {K : Nat} (h : K < xs.length) : xs.take (K + 1) = xs.take K ++ [xs.getD K 0] := by
  rw [List.take_add_one, getD_at _ _ h, List.getElem?_eq_getElem h]; rfl
theorem getD_take_mem {xs : List Int} {K i : Nat} (hi : i < K) (hK : K ≤ xs.length) : xs.getD i 0 ∈ xs.take K := by
  rw [getD_at _ _ (by omega)]
  exact List.mem_take_iff_getElem.2 ⟨i, by omega, rfl⟩
def zerosB (vs : List Int) : Bool := vs.all (fun v => v == 0)
theorem zeros_snoc (vs : List Int) (v : Int) : zerosB (vs ++ [v]) = (zerosB vs && (v == 0)) := by unfold zerosB; simp
theorem sign_zeros : ∀ {vs : List Int}, zerosB vs = true → signL vs = 1
  | [], _ => rfl
  | v :: vs, h => by
    unfold zerosB at h
    rw [List.all_cons, Bool.and_eq_true, beq_iff_eq] at h
    unfold signL
    rw [if_pos h.1]
    exact sign_zeros h.2
theorem sign_snoc : ∀ (vs : List Int) (v : Int), signL (vs ++ [v]) = if zerosB vs then (if v < 0 then -1 else 1) else signL vs
  | [], v => by
    show (if v = 0 then 1 else if v < 0 then -1 else 1) = if v < 0 then -1 else 1
    by_cases h : v = 0
    · rw [if_pos h, h]; rfl
    · rw [if_neg h]
  | w :: vs, v => by
    show (if w = 0 then signL (vs ++ [v]) else if w < 0 then -1 else 1) = if ((w == 0) && zerosB vs) then _ else (if w = 0 then signL vs else if w < 0 then -1 else 1)
    by_cases h : w = 0
    · rw [if_pos h, if_pos h, sign_snoc vs v, h]
      rfl
    · rw [if_neg h, if_neg h, beq_eq_false_iff_ne.2 h]
      rfl

set_option maxRecDepth 100000 in
set_option maxHeartbeats 1000000 in
theorem l4Value6_any (vf vv : Value) (xs vs : List Int) (w : World) (hx : Rd w vf xs) (hv : Rd w vv vs) (hf : fvB xs = true) (hb : Vec6 vs) (hl : vs.length = xs.length) :
    Calls Try.prog 73 #[vf, vv] w fun e w' => e = .returned (.int .i64 (valI xs vs xs.length)) ∧ ∃ k, w' = w.drewN k := by
  obtain ⟨a, cap, rfl, hform⟩ := hx.form
  obtain ⟨a', cap', rfl, hform'⟩ := hv.form
  have HFM := hid hform
  have HFV := hid hform'
  have HF := hid hf
  have HVB := hid hb
  have HL := hid hl
  have hl4 := (fvB_iff.1 hf).2.2
  clear hform hform' hx hv hf hb hl
  go_enter Try.func73, Try.ntmps73
  go_wp2_with fail
  go_loopw [5, 6] (fun so si wr => ∃ K k : Nat, si = .int .i64 K ∧ K ≤ xs.length ∧ so = .int .i64 (valI xs vs K) ∧ wr = w.drewN k) (fun _ si _ => xs.length - (intOf si).toNat)
  case atStart => exact ⟨0, 0, rfl, by omega, rfl, rfl⟩
  case round =>
    obtain ⟨K, k, rfl, hK, rfl, rfl⟩ := hrel
    by_cases hlt : K < xs.length
    · obtain ⟨b, o, rfl, hml, hc⟩ := HFM.out (by omega)
      obtain ⟨b', o', rfl, hml', hc'⟩ := HFV.out (by have := HL.out; omega)
      have hcell := hc K hlt
      have hcell' := hc' K (by have := HL.out; omega)
      have ht := fv_at HF.out hlt
      have hv1 := HVB.out (vs.getD K 0) (by rw [getD_at _ _ (by have := HL.out; omega)]; exact List.getElem_mem _)
      have hbd := term_bd7 ht.2.1 ht.2.2 hv1.1 hv1.2 hv1.1 hv1.2
      have hvb := valI_bd6 HF.out HVB.out HL.out K (by omega)
      have hst : valI xs vs (K + 1) = valI xs vs K + xs.getD K 0 * vs.getD K 0 * vs.getD K 0 := rfl
      obtain ⟨x, hx⟩ : ∃ x, x = xs.getD K 0 := ⟨_, rfl⟩
      obtain ⟨y, hy⟩ : ∃ y, y = vs.getD K 0 := ⟨_, rfl⟩
      obtain ⟨s, hs⟩ : ∃ s, s = valI xs vs K := ⟨_, rfl⟩
      rw [← hx] at hcell hst hbd
      rw [← hy] at hcell' hst hbd
      rw [← hs] at hst hvb ⊢
      have hKi : (K : Int) < (xs.length : Int) := by omega
      have hKj : (K : Int) < (vs.length : Int) := by have := HL.out; omega
      have HLT := hid hlt
      have HST := hid hst
      have b1 := hbd.1
      have b2 := hbd.2.1
      have b3 := hbd.2.2.1
      have b4 := hbd.2.2.2
      have s1 := hvb.1
      have s2 := hvb.2
      clear hx hy hs hc hc' hml hml' hlt hbd hvb hst ht hv1
      go_wp2_with fail
      go_quiet (fail)
      go_wp2_with fail
      go_roundw
      case measure => simp only [intOf]; have := HLT.out; omega
      case rel => exact ⟨K + 1, _, by go_num, by have := HLT.out; omega, vI HST.out.symm, by first | rfl | exact World.drewN_drewN ..⟩
    · obtain rfl : K = xs.length := by omega
      clear hlt
      go_wp2_with fail
      go_ret
      exact ⟨rfl, k, rfl⟩


theorem rd_max {w : World} {v : Value} {xs : List Int} (h : Rd w v xs) : xs.length ≤ 9223372036854775807 := by
  rcases Nat.eq_zero_or_pos xs.length with e | e
  · omega
  · obtain ⟨_, _, _, hform⟩ := h.form
    obtain ⟨_, _, _, hm, _⟩ := hform e
    unfold maxLen at hm
    omega

set_option maxRecDepth 100000 in
set_option maxHeartbeats 1000000 in
theorem l5Some_any (v : Value) (xs : List Int) (w : World) (h : Rd w v xs) (hl : xs.length ≤ 4) : Calls Try.prog 72 #[v] w fun e w' => e = .returned (.bool (someB xs)) ∧ w = w' := by
  obtain ⟨a, cap, rfl, hform⟩ := h.form
  have HFM := hid hform
  clear hform h
  go_enter Try.func72, Try.ntmps72
  go_wp2_with fail
  go_loop [3] (fun si => ∃ K : Nat, si = .int .i64 K ∧ K ≤ xs.length ∧ Hid (∀ i, i < K → xs.getD i 0 = 0)) (fun si => xs.length - (intOf si).toNat)
  case atStart => exact ⟨0, rfl, by omega, hid (fun i hi => by omega)⟩
  case round =>
    obtain ⟨K, rfl, hK, HE⟩ := hrel
    by_cases hlt : K < xs.length
    · obtain ⟨b, o, rfl, hml, hc⟩ := HFM.out (by omega)
      have hcell := hc K hlt
      obtain ⟨x, hx⟩ : ∃ x, x = xs.getD K 0 := ⟨_, rfl⟩
      rw [← hx] at hcell
      have HX := hid hx
      have HLT := hid hlt
      have hKi : (K : Int) < (xs.length : Int) := by omega
      by_cases x0 : x = 0
      · have T : (x != 0) = false := by rw [bne_eq_false_iff_eq]; exact x0
        have HX0 := hid x0
        clear x0 hx hc hml hlt
        go_wp2_with fail
        go_round
        case measure => simp only [intOf]; have := HLT.out; omega
        case rel => exact ⟨K + 1, by go_num, by have := HLT.out; omega, hid (fun i hi => by
          by_cases e : i = K
          · rw [e, ← HX.out]; exact HX0.out
          · exact HE.out i (by omega))⟩
      · have T : (x != 0) = true := by rw [bne_iff_ne]; exact x0
        have HR : Hid (someB xs = true) := hid (someB_iff.2 ⟨x, by rw [hx, getD_at _ _ hlt]; exact List.getElem_mem _, x0⟩)
        clear x0 hx hc hml hlt
        go_wp2_with fail
        go_ret
        exact ⟨retB HR.out.symm, rfl⟩
    · obtain rfl : K = xs.length := by omega
      have HR : Hid (someB xs = false) := hid (by
        cases hs : someB xs with
        | false => rfl
        | true =>
          obtain ⟨x, hx, h0⟩ := someB_iff.1 hs
          obtain ⟨i, hi, rfl⟩ := List.getElem_of_mem hx
          have := HE.out i hi
          rw [getD_at _ _ hi] at this
          exact absurd this h0)
      clear hlt
      go_wp2_with fail
      go_ret
      exact ⟨retB HR.out.symm, rfl⟩

theorem vec6_vecB {xs vs : List Int} {m : Int} (h : vecB xs vs m = true) (hm : m ≤ 1000000) : Vec6 vs := fun v hv => by
  have := (vecB_iff.1 h).1 v hv
  omega


theorem map_snoc {f : Int → Int} {xs : List Int} {K : Nat} (h : K < xs.length) : (xs.take (K + 1)).map f = (xs.take K).map f ++ [f (xs.getD K 0)] := by
  rw [takeD_snoc h, List.map_append]; rfl
theorem plain_bd1 {s x : Int} {g : Nat} (hs : s = 1 ∨ s = -1) (hx1 : -1000000 ≤ x) (hx2 : x ≤ 1000000) : -1000000 ≤ (s * x).tdiv (g : Int) ∧ (s * x).tdiv (g : Int) ≤ 1000000 := by
  have h1 : ((s * x).tdiv (g : Int)).natAbs ≤ 1000000 := by
    rw [Int.natAbs_tdiv]
    refine Nat.le_trans (Nat.div_le_self _ _) ?_
    rcases hs with rfl | rfl <;> omega
  omega
theorem plain_bdW {s x : Int} {g : Nat} (hs : s = 1 ∨ s = -1) (hx1 : -100000000000 ≤ x) (hx2 : x ≤ 100000000000) : -100000000000 ≤ (s * x).tdiv (g : Int) ∧ (s * x).tdiv (g : Int) ≤ 100000000000 := by
  have h1 : ((s * x).tdiv (g : Int)).natAbs ≤ 100000000000 := by
    rw [Int.natAbs_tdiv]
    refine Nat.le_trans (Nat.div_le_self _ _) ?_
    rcases hs with rfl | rfl <;> omega
  omega
set_option maxRecDepth 100000 in
set_option maxHeartbeats 4000000 in
theorem l5PlainW_any (v : Value) (xs : List Int) (w : World) (h : Rd w v xs) (hl : xs.length ≤ 4) (h6 : Vec11 xs) (hs : ∃ x ∈ xs, x ≠ 0) : Calls Try.prog 52 #[v] w fun e w' => ∃ u, e = .returned u ∧ Owns w' w.heap.size u (plainL xs) ∧ Below w.heap.size w w' := by
  obtain ⟨i0, hi, hz0, hz1, hz2⟩ := info_parts infoInt
  have HB0 := hid ((Below.refl w.heap.size w).alloc (Nat.le_refl _) (.cells #[] 3))
  have HO0 : Hid (Owns (w.alloc (.cells #[] 3)) w.heap.size (.slice (some ⟨w.heap.size, 0, none⟩) 0 0) []) := hid (World.ownsRow_made (size := 1) w #[] 0 (Nat.le_refl _) (by unfold maxLen; omega) rfl)
  have HH := hid h
  obtain ⟨ad, cap, rfl, hform⟩ := h.form
  have HFM := hid hform
  have H6 := hid h6
  have HSM := hid hs
  have htk : ∀ K, K ≤ xs.length → gcdL (xs.take K) ≤ 100000000000 := fun K _ => gcdL_leM fun x hx => by
    have := h6 x (List.mem_of_mem_take hx)
    omega
  have HTK := hid htk
  clear h h6 hs htk hform
  go_enter Try.func52, Try.ntmps52
  go_wp2_with fail
  go_loop [3, 4, 5, 6] (fun sg ss sf si => ∃ (K g : Nat) (s : Int) (z : Bool), si = .int .i64 K ∧ K ≤ xs.length ∧ sg = .int .i64 g ∧ g ≤ 100000000000 ∧ ss = .int .i64 s ∧ sf = .bool z ∧ Hid (g = gcdL (xs.take K)) ∧ Hid (s = signL (xs.take K)) ∧ Hid (z = zerosB (xs.take K))) (fun _ _ _ si => xs.length - (intOf si).toNat)
  case atStart => exact ⟨0, 0, 1, true, rfl, by omega, rfl, by omega, rfl, rfl, hid rfl, hid rfl, hid rfl⟩
  case round =>
    obtain ⟨K, g, s, z, rfl, hK, rfl, hg, rfl, rfl, HG, HS, HZ⟩ := hrel
    by_cases hlt : K < xs.length
    · obtain ⟨b, o, rfl, hml, hc⟩ := HFM.out (by omega)
      have hcell := hc K hlt
      have hx6 := H6.out (xs.getD K 0) (by rw [getD_at _ _ hlt]; exact List.getElem_mem _)
      have hg2 := HTK.out (K + 1) hlt
      obtain ⟨x, hx⟩ : ∃ x, x = xs.getD K 0 := ⟨_, rfl⟩
      have hG : gcdL (xs.take (K + 1)) = Nat.gcd g x.natAbs := by rw [takeD_snoc hlt, gcdL_snoc, ← HG.out, ← hx]
      have hS : signL (xs.take (K + 1)) = if z then (if x < 0 then -1 else 1) else s := by rw [takeD_snoc hlt, sign_snoc, ← HZ.out, ← HS.out, ← hx]
      have hZ : zerosB (xs.take (K + 1)) = (z && (x == 0)) := by rw [takeD_snoc hlt, zeros_snoc, ← HZ.out, ← hx]
      have hS1 : z = true → s = 1 := fun e => by rw [HS.out]; exact sign_zeros (by rw [← HZ.out]; exact e)
      rw [← hx] at hcell hx6
      have x1 := hx6.1
      have x2 := hx6.2
      rw [hG] at hg2
      have HGN := hid hG
      have HLT := hid hlt
      have hKi : (K : Int) < (xs.length : Int) := by omega
      have eg : ((g : Int).natAbs) = g := Int.natAbs_natCast g
      clear hx hc hml hlt hx6 hG
      have close : ∀ (s' : Int) (z' : Bool), s' = signL (xs.take (K + 1)) → z' = zerosB (xs.take (K + 1)) → ∃ (K2 g2 : Nat) (s2 : Int) (z2 : Bool), Value.int IntKind.i64 ((K : Int) + 1) = .int .i64 K2 ∧ K2 ≤ xs.length ∧ Value.int IntKind.i64 ((Nat.gcd g x.natAbs : Nat) : Int) = .int .i64 g2 ∧ g2 ≤ 100000000000 ∧ Value.int IntKind.i64 s' = .int .i64 s2 ∧ Value.bool z' = .bool z2 ∧ Hid (g2 = gcdL (xs.take K2)) ∧ Hid (s2 = signL (xs.take K2)) ∧ Hid (z2 = zerosB (xs.take K2)) := fun s' z' e1 e2 =>
        ⟨K + 1, _, s', z', by go_num, by have := HLT.out; omega, rfl, hg2, rfl, rfl, hid HGN.out.symm, hid e1, hid e2⟩
      have HCL := hid close
      clear close
      by_cases x0 : x = 0
      · have T : (x != 0) = false := by rw [bne_eq_false_iff_eq]; exact x0
        rw [beq_iff_eq.2 x0, Bool.and_true] at hZ
        have h1 : signL (xs.take (K + 1)) = s := by
          rw [hS, if_neg (show ¬ x < 0 by omega)]
          cases hz : z with
          | true => rw [if_pos rfl]; exact (hS1 hz).symm
          | false => rfl
        have E1 := hid h1
        have E2 := hid hZ
        clear x0 hS hZ hS1 h1
        go_wp2_with (go_at_call 67; refine (l1Gcd_any _ _ (by omega) (by omega) (by omega) (by omega) _).mono ?_; rw [eg]; rintro e w' ⟨rfl, rfl⟩)
        go_round
        case measure => simp only [intOf]; have := HLT.out; omega
        case rel => exact HCL.out s z E1.out.symm E2.out.symm
      · have T : (x != 0) = true := by rw [bne_iff_ne]; exact x0
        rw [beq_eq_false_iff_ne.2 x0, Bool.and_false] at hZ
        have E2 := hid hZ
        cases z with
        | false =>
          have E1 : Hid (signL (xs.take (K + 1)) = s) := hid (by rw [hS]; rfl)
          clear x0 hS hZ hS1
          go_wp2_with (go_at_call 67; refine (l1Gcd_any _ _ (by omega) (by omega) (by omega) (by omega) _).mono ?_; rw [eg]; rintro e w' ⟨rfl, rfl⟩)
          go_round
          case measure => simp only [intOf]; have := HLT.out; omega
          case rel => exact HCL.out s false E1.out.symm E2.out.symm
        | true =>
          rw [if_pos rfl] at hS
          by_cases xn : x < 0
          · rw [if_pos xn] at hS
            have E1 := hid hS
            clear x0 hS hZ hS1
            go_wp2_with (go_at_call 67; refine (l1Gcd_any _ _ (by omega) (by omega) (by omega) (by omega) _).mono ?_; rw [eg]; rintro e w' ⟨rfl, rfl⟩)
            go_round
            case measure => simp only [intOf]; have := HLT.out; omega
            case rel => exact HCL.out (-1) false E1.out.symm E2.out.symm
          · rw [if_neg xn] at hS
            have E1 : Hid (signL (xs.take (K + 1)) = s) := hid (by rw [hS]; exact (hS1 rfl).symm)
            clear x0 hS hZ hS1
            go_wp2_with (go_at_call 67; refine (l1Gcd_any _ _ (by omega) (by omega) (by omega) (by omega) _).mono ?_; rw [eg]; rintro e w' ⟨rfl, rfl⟩)
            go_round
            case measure => simp only [intOf]; have := HLT.out; omega
            case rel => exact HCL.out s false E1.out.symm E2.out.symm
    · obtain rfl : K = xs.length := by omega
      have hsg := signL_pm xs
      have hgp := gcdL_pos HSM.out
      have eG : g = gcdL xs := by rw [HG.out, List.take_length]
      have eS : s = signL xs := by rw [HS.out, List.take_length]
      rw [← eG] at hgp
      rw [← eS] at hsg
      have HPL : Hid (plainL xs = xs.map (fun x => (s * x).tdiv (g : Int))) := hid (by unfold plainL; rw [← eS, ← eG])
      have HSG := hid hsg
      have Tg : ((g : Int) == 0) = false := by rw [beq_eq_false_iff_ne]; omega
      clear hlt hsg eG eS HG HS HZ
      go_wp2_with fail
      go_loopw [7, 8] (fun so si wr => ∃ K : Nat, si = .int .i64 K ∧ K ≤ xs.length ∧ Hid (Owns wr w.heap.size so ((xs.take K).map (fun x => (s * x).tdiv (g : Int)))) ∧ Hid (Below w.heap.size w wr)) (fun _ si _ => xs.length - (intOf si).toNat)
      case atStart => exact ⟨0, rfl, by omega, hid (by simpa using HO0.out), HB0⟩
      case round =>
        obtain ⟨K, rfl, hK, HO, HB⟩ := hrel
        rename World => wr
        by_cases hlt : K < xs.length
        · obtain ⟨a2, cap2, e2, hform⟩ := (HH.out.keep HB.out).form
          cases e2
          obtain ⟨bb, o, rfl, hml, hc⟩ := hform (by omega)
          have hcell := hc K hlt
          have hx6 := H6.out (xs.getD K 0) (by rw [getD_at _ _ hlt]; exact List.getElem_mem _)
          have HSN : Hid ((xs.take (K + 1)).map (fun x => (s * x).tdiv (g : Int)) = (xs.take K).map (fun x => (s * x).tdiv (g : Int)) ++ [(s * xs.getD K 0).tdiv (g : Int)]) := hid (map_snoc hlt)
          obtain ⟨x, hx⟩ : ∃ x, x = xs.getD K 0 := ⟨_, rfl⟩
          rw [← hx] at hcell hx6 HSN
          have hbd := plain_bdW (g := g) HSG.out hx6.1 hx6.2
          have q1 := hbd.1
          have q2 := hbd.2
          have sx1 : -100000000000 ≤ s * x := by rcases HSG.out with e | e <;> rw [e] <;> omega
          have sx2 : s * x ≤ 100000000000 := by rcases HSG.out with e | e <;> rw [e] <;> omega
          obtain ⟨pre, hpre⟩ : ∃ pre, pre = (xs.take K).map (fun x => (s * x).tdiv (g : Int)) := ⟨_, rfl⟩
          have hprel : pre.length ≤ 4 := by rw [hpre, List.length_map, List.length_take]; omega
          rw [← hpre] at HO HSN
          have hi0 : (K : Int) < (xs.length : Int) := by omega
          have HLT := hid hlt
          have hbs : w.heap.size ≤ wr.heap.size := HB.out.size
          unfold maxLen at hml
          clear hform hc hx hlt hpre hbd hx6
          go_wp2_with (at_builtin; refine wpList_append_own_at _ rfl _ _ 23 rfl w.heap.size 3 i0 (.int .i64 0) 1 8 Try.underlying23 hi hz0 hz1 hz2 rfl (by decide) _ _ _ rfl ((show World.ownsRow _ _ _ _ _ _ _ from HO.out).alloc _) ⟨wr.heap.size, 0, none⟩ 1 1 [.int .i64 ((s * x).tdiv (g : Int))] rfl rfl (cell_one_new _ _ _) (by simp [Value.oneCell']) (by unfold maxLen; omega) (by omega) (by simp; omega) ?_; intro v' w3 hown' hgrow _ hat)
          have hsg := hgrow.size
          simp only [World.size_alloc] at hsg
          go_roundw
          case measure => simp only [intOf]; have := HLT.out; omega
          case rel =>
            refine ⟨K + 1, by go_num, by have := HLT.out; omega, hid ?_, hid (HB.out.alloc hbs _ |>.grown hgrow (by simp; omega) (fun k e => (HO.out.ge k e)))⟩
            rw [HSN.out]
            unfold Owns
            simpa using hown'
        · obtain rfl : K = xs.length := by omega
          have HE : Hid (plainL xs = (xs.take xs.length).map (fun x => (s * x).tdiv (g : Int))) := hid (by rw [List.take_length]; exact HPL.out)
          clear hlt
          go_wp2_with fail
          go_ret
          exact ⟨_, rfl, by rw [HE.out]; exact HO.out, HB.out⟩
theorem l5Plain_any (v : Value) (xs : List Int) (w : World) (h : Rd w v xs) (hl : xs.length ≤ 4) (h6 : Vec6 xs) (hs : ∃ x ∈ xs, x ≠ 0) : Calls Try.prog 52 #[v] w fun e w' => ∃ u, e = .returned u ∧ Owns w' w.heap.size u (plainL xs) ∧ Below w.heap.size w w' := l5PlainW_any v xs w h hl (vec11 h6) hs




end Go.Proofs.Ytenibnblibnocac
