/-
  Plain values of chapter 5: counts of plain zeros, zeros up to a power.
-/
import Derived.Test.YtdclmjmefkgbbabQVals5
set_option linter.unusedVariables false
namespace Go.Proofs.Ytdclmjmefkgbbab
open Go.RowKit

def sumZ (f : Int → Int) (lo : Int) : Nat → Int
  | 0 => 0
  | k + 1 => sumZ f lo k + f (lo + k)
theorem sumZ_succ (f : Int → Int) (lo : Int) (k : Nat) : sumZ f lo (k + 1) = sumZ f lo k + f (lo + k) := rfl
theorem sumZ_shift (f : Int → Int) (lo : Int) : ∀ k, sumZ f lo (k + 1) = f lo + sumZ f (lo + 1) k
  | 0 => by unfold sumZ; unfold sumZ; simp
  | k + 1 => by
    show sumZ f lo (k + 1) + f (lo + ((k + 1 : Nat) : Int)) = f lo + (sumZ f (lo + 1) k + f (lo + 1 + (k : Int)))
    rw [sumZ_shift f lo k, show lo + ((k + 1 : Nat) : Int) = lo + 1 + (k : Int) by omega, Int.add_assoc]
theorem sumZ_le {f g : Int → Int} {lo : Int} (h : ∀ x, f x ≤ g x) : ∀ k, sumZ f lo k ≤ sumZ g lo k
  | 0 => Int.le_refl _
  | k + 1 => Int.add_le_add (sumZ_le h k) (h _)
theorem sumZ_nn {f : Int → Int} {lo : Int} (h : ∀ x, 0 ≤ f x) : ∀ k, 0 ≤ sumZ f lo k
  | 0 => Int.le_refl _
  | k + 1 => Int.add_nonneg (sumZ_nn h k) (h _)
theorem sumZ_ge {f : Int → Int} {lo : Int} (h : ∀ x, 0 ≤ f x) {x : Int} : ∀ k : Nat, lo ≤ x → x < lo + k → f x ≤ sumZ f lo k
  | 0, h1, h2 => by omega
  | k + 1, h1, h2 => by
    unfold sumZ
    by_cases e : x = lo + k
    · rw [← e]; have := sumZ_nn (lo := lo) h k; omega
    · have := sumZ_ge (lo := lo) h k h1 (by omega); have := h (lo + k); omega
theorem sumZ_zero {f : Int → Int} {lo : Int} (h : ∀ x, f x = 0) : ∀ k, sumZ f lo k = 0
  | 0 => rfl
  | k + 1 => by unfold sumZ; rw [sumZ_zero h k, h]; rfl
theorem sumZ_bd {f : Int → Int} {lo M : Int} (h : ∀ x, f x ≤ M) : ∀ k : Nat, sumZ f lo k ≤ M * k
  | 0 => by simp [sumZ]
  | k + 1 => by
    unfold sumZ
    have h1 := sumZ_bd (lo := lo) h k
    have h2 := h (lo + k)
    push_cast
    rw [Int.mul_add, Int.mul_one]
    omega

/-- is it a plain zero? -/
def goodB (xs vs : List Int) : Bool := someB vs && (decide (valI xs vs vs.length = 0) && decide (plainL vs = vs))
/-- the plain zeros that go on from some integers by k more -/
def manyR (xs : List Int) (n : Int) : Nat → List Int → Int
  | 0, vs => if goodB xs vs then 1 else 0
  | k + 1, vs => sumZ (fun x => manyR xs n k (vs ++ [x])) (-n) (2 * n + 1).toNat
theorem many_nn (xs : List Int) (n : Int) : ∀ (k : Nat) (vs : List Int), 0 ≤ manyR xs n k vs
  | 0, vs => by unfold manyR; split <;> decide
  | k + 1, vs => sumZ_nn (fun x => many_nn xs n k (vs ++ [x])) _
theorem many_bd (xs : List Int) {n : Int} (h0 : 0 ≤ n) (h6 : n ≤ 6) : ∀ (k : Nat) (vs : List Int), manyR xs n k vs ≤ ((13 ^ k : Nat) : Int)
  | 0, vs => by unfold manyR; split <;> decide
  | k + 1, vs => by
    have h1 := sumZ_bd (lo := -n) (fun x => many_bd xs h0 h6 k (vs ++ [x])) (2 * n + 1).toNat
    have h2 : ((13 ^ k : Nat) : Int) * ((2 * n + 1).toNat : Int) ≤ ((13 ^ k : Nat) : Int) * 13 := Int.mul_le_mul_of_nonneg_left (by omega) (Int.natCast_nonneg _)
    have e : ((13 ^ (k + 1) : Nat) : Int) = ((13 ^ k : Nat) : Int) * 13 := by rw [Nat.pow_succ]; push_cast; rfl
    show sumZ _ _ _ ≤ _
    rw [e]
    exact Int.le_trans h1 h2
theorem many_grow (xs : List Int) {n : Int} (h0 : 0 ≤ n) : ∀ (k : Nat) (vs : List Int), manyR xs n k vs ≤ manyR xs (n + 1) k vs
  | 0, _ => Int.le_refl _
  | k + 1, vs => by
    show sumZ _ _ _ ≤ sumZ _ _ _
    have e : (2 * (n + 1) + 1).toNat = ((2 * n + 1).toNat + 1) + 1 := by omega
    rw [e, sumZ_shift, sumZ_succ]
    have h1 := sumZ_le (lo := -n) (fun x => many_grow xs h0 k (vs ++ [x])) (2 * n + 1).toNat
    have h2 := many_nn xs (n + 1) k (vs ++ [-(n + 1)])
    have h3 := many_nn xs (n + 1) k (vs ++ [-(n + 1) + 1 + ((2 * n + 1).toNat : Int)])
    rw [show -(n + 1) + 1 = -n by omega] at h3 ⊢
    omega
theorem many_none {xs : List Int} (n : Int) : ∀ (k : Nat) (vs : List Int), (∀ us : List Int, us.length = k → goodB xs (vs ++ us) = false) → manyR xs n k vs = 0
  | 0, vs, h => by
    have := h [] rfl
    rw [List.append_nil] at this
    unfold manyR
    rw [this]; rfl
  | k + 1, vs, h => by
    show sumZ _ _ _ = 0
    refine sumZ_zero (fun x => many_none n k (vs ++ [x]) fun us hu => ?_) _
    rw [List.append_assoc]
    exact h ([x] ++ us) (by simp [hu])
theorem many_some {xs : List Int} {n : Int} (h0 : 0 ≤ n) : ∀ (us vs : List Int), (∀ u ∈ us, -n ≤ u ∧ u ≤ n) → goodB xs (vs ++ us) = true → 1 ≤ manyR xs n us.length vs
  | [], vs, _, h => by
    rw [List.append_nil] at h
    show 1 ≤ if goodB xs vs then 1 else 0
    rw [h]; decide
  | u :: us, vs, hu, h => by
    have h1 := many_some h0 us (vs ++ [u]) (fun w hw => hu w (List.mem_cons_of_mem _ hw)) (by rw [List.append_assoc]; exact h)
    have hb := hu u (List.mem_cons_self ..)
    have h2 := sumZ_ge (lo := -n) (fun x => many_nn xs n us.length (vs ++ [x])) (x := u) (2 * n + 1).toNat (by omega) (by omega)
    exact Int.le_trans h1 h2
def zmanyOk (xs : List Int) (n : Int) : Bool := fvB xs && inR n 1 6
def zmanyV (xs : List Int) (n : Int) : Int := if zmanyOk xs n then manyR xs n xs.length [] else -1

/-- up to a power m of a prime P: does not P divide one at least, and m the value? -/
def unitB (P : Nat) (vs : List Int) : Bool := vs.any (fun v => !(v % (P : Int) == 0))
def modHit (xs : List Int) (P m : Nat) (vs : List Int) : Bool := unitB P vs && (valI xs vs vs.length % (m : Int) == 0)
def modR (xs : List Int) (P m : Nat) : Nat → List Int → Bool
  | 0, vs => modHit xs P m vs
  | k + 1, vs => (List.range m).any (fun x => modR xs P m k (vs ++ [(x : Int)]))
theorem modR_iff {xs : List Int} {P m : Nat} : ∀ {k : Nat} {vs : List Int}, modR xs P m k vs = true ↔ ∃ us : List Int, us.length = k ∧ (∀ u ∈ us, 0 ≤ u ∧ u < (m : Int)) ∧ modHit xs P m (vs ++ us) = true
  | 0, vs => by
    constructor
    · intro h; exact ⟨[], rfl, fun u hu => absurd hu List.not_mem_nil, by rw [List.append_nil]; exact h⟩
    · rintro ⟨us, h1, _, h3⟩
      rw [List.length_eq_zero_iff.1 h1, List.append_nil] at h3
      exact h3
  | k + 1, vs => by
    unfold modR
    rw [List.any_eq_true]
    constructor
    · rintro ⟨x, hx, h⟩
      obtain ⟨us, h1, h2, h3⟩ := modR_iff.1 h
      refine ⟨(x : Int) :: us, by rw [List.length_cons, h1], fun u hu => ?_, by rw [List.append_assoc] at h3; exact h3⟩
      rcases List.mem_cons.1 hu with rfl | hu
      · have := List.mem_range.1 hx; omega
      · exact h2 u hu
    · rintro ⟨us, h1, h2, h3⟩
      cases us with
      | nil => cases h1
      | cons u us =>
        have hb := h2 u (List.mem_cons_self ..)
        refine ⟨u.toNat, List.mem_range.2 (by omega), modR_iff.2 ⟨us, by simpa using h1, fun w hw => h2 w (List.mem_cons_of_mem _ hw), ?_⟩⟩
        rw [Int.toNat_of_nonneg hb.1, List.append_assoc]
        exact h3
theorem val_mod (xs vs : List Int) (m : Int) : ∀ i, valI xs (vs.map (· % m)) i % m = valI xs vs i % m
  | 0 => rfl
  | i + 1 => by
    unfold valI
    rw [getD_map0 (· % m) (Int.zero_emod m), Int.add_emod, val_mod xs vs m i, Int.add_emod (valI xs vs i)]
    congr 2
    rw [Int.mul_emod, Int.mul_emod (xs.getD i 0), Int.emod_emod, ← Int.mul_emod (xs.getD i 0), ← Int.mul_emod]
theorem unit_mod {P : Nat} {m : Int} (h : (P : Int) ∣ m) (vs : List Int) : unitB P (vs.map (· % m)) = unitB P vs := by
  unfold unitB
  rw [List.any_map]
  congr 1
  funext v
  show (!(v % m % (P : Int) == 0)) = _
  rw [Int.emod_emod_of_dvd _ h]
/-- what solves up to m, with any integers, is found -/
theorem modR_of {xs vs : List Int} {P m : Nat} (hm : 1 ≤ m) (hd : P ∣ m) (hl : vs.length = xs.length) (hu : unitB P vs = true) (hv : valI xs vs xs.length % (m : Int) = 0) : modR xs P m xs.length [] = true := by
  refine modR_iff.2 ⟨vs.map (· % (m : Int)), by rw [List.length_map]; exact hl, fun u hu => ?_, ?_⟩
  · obtain ⟨v, _, rfl⟩ := List.mem_map.1 hu
    exact ⟨Int.emod_nonneg _ (by omega), Int.emod_lt_of_pos _ (by omega)⟩
  · unfold modHit
    rw [List.nil_append, unit_mod (Int.natCast_dvd_natCast.2 hd), hu, List.length_map, hl, val_mod, hv]
    rfl
theorem modR_to {xs : List Int} {P m : Nat} (h : modR xs P m xs.length [] = true) : ∃ vs : List Int, vs.length = xs.length ∧ unitB P vs = true ∧ valI xs vs xs.length % (m : Int) = 0 := by
  obtain ⟨us, h1, _, h3⟩ := modR_iff.1 h
  unfold modHit at h3
  rw [List.nil_append, Bool.and_eq_true, beq_iff_eq, h1] at h3
  exact ⟨us, h1, h3.1, h3.2⟩
/-- a lower power, too -/
theorem modR_less {xs : List Int} {P m n : Nat} (hn : 1 ≤ n) (hd : P ∣ n) (hm : n ∣ m) (h : modR xs P m xs.length [] = true) : modR xs P n xs.length [] = true := by
  obtain ⟨vs, h1, h2, h3⟩ := modR_to h
  exact modR_of hn hd h1 h2 (Int.emod_eq_zero_of_dvd (Int.dvd_trans (Int.natCast_dvd_natCast.2 hm) (Int.dvd_of_emod_eq_zero h3)))
theorem gcdL_greatest {P : Nat} : ∀ {vs : List Int} {g : Nat}, P ∣ g → (∀ v ∈ vs, P ∣ v.natAbs) → P ∣ vs.foldl (fun g v => Nat.gcd g v.natAbs) g
  | [], _, hg, _ => hg
  | v :: vs, g, hg, h => by
    rw [List.foldl_cons]
    exact gcdL_greatest (Nat.dvd_gcd hg (h v (List.mem_cons_self ..))) fun w hw => h w (List.mem_cons_of_mem _ hw)
/-- a zero is one up to each power: its plain part -/
theorem zero_mod {xs vs : List Int} {P m : Nat} (hP : 2 ≤ P) (hm : 1 ≤ m) (hd : P ∣ m) (h : zeroB xs vs = true) : modR xs P m xs.length [] = true := by
  obtain ⟨_, _, _, h4, _⟩ := zeroB_iff.1 h
  obtain ⟨_, _, k3, _, k5⟩ := zeroB_iff.1 (plain_zero h)
  refine modR_of hm hd k3 ?_ (by rw [k5]; exact Int.zero_emod _)
  cases hu : unitB P (plainL vs) with
  | true => rfl
  | false =>
    exfalso
    have hall : ∀ v ∈ plainL vs, P ∣ v.natAbs := fun v hv => by
      unfold unitB at hu
      have := List.any_eq_false.1 hu v hv
      simp only [Bool.not_eq_true', Bool.not_eq_false, beq_iff_eq] at this
      exact Int.ofNat_dvd_left.1 (Int.dvd_of_emod_eq_zero this)
    have h1 : P ∣ gcdL (plainL vs) := gcdL_greatest (Nat.dvd_zero P) hall
    rw [plain_gcd h4] at h1
    have := Nat.le_of_dvd (by decide) h1
    omega
def zmodOk (xs : List Int) (p k : Int) : Bool := fvB xs && (decide (xs.length ≤ 3) && (primeI p && (decide (p ≤ 31) && inR k 1 5)))
def zmodV (xs : List Int) (p k : Int) : Bool := zmodOk xs p k && (decide (p.toNat ^ k.toNat ≤ 32) && modR xs p.toNat (p.toNat ^ k.toNat) xs.length [])

/-- zeros, by the number of terms -/
theorem list_one : ∀ {l : List Int}, l.length = 1 → ∃ a, l = [a]
  | [a], _ => ⟨a, rfl⟩
theorem list_two : ∀ {l : List Int}, l.length = 2 → ∃ a b, l = [a, b]
  | [a, b], _ => ⟨a, b, rfl⟩
theorem list_three : ∀ {l : List Int}, l.length = 3 → ∃ a b c, l = [a, b, c]
  | [a, b, c], _ => ⟨a, b, c, rfl⟩
theorem list_four : ∀ {l : List Int}, l.length = 4 → ∃ a b c d, l = [a, b, c, d]
  | [a, b, c, d], _ => ⟨a, b, c, d, rfl⟩
theorem val1 (a x : Int) : valI [a] [x] 1 = a * x * x := by show 0 + a * x * x = _; rw [Int.zero_add]
theorem val2 (a b x y : Int) : valI [a, b] [x, y] 2 = a * x * x + b * y * y := by show 0 + a * x * x + b * y * y = _; rw [Int.zero_add]
theorem val3 (a b c x y z : Int) : valI [a, b, c] [x, y, z] 3 = a * x * x + b * y * y + c * z * z := by show 0 + a * x * x + b * y * y + c * z * z = _; rw [Int.zero_add]
theorem val4 (a b c d x y z w : Int) : valI [a, b, c, d] [x, y, z, w] 4 = a * x * x + b * y * y + c * z * z + d * w * w := by show 0 + a * x * x + b * y * y + c * z * z + d * w * w = _; rw [Int.zero_add]
/-- A ZERO IS A ZERO AT ALL PLACES -/
theorem zero_van {xs vs : List Int} {q : Int} (hz : NZ xs) (h1 : 1 ≤ xs.length) (h4 : xs.length ≤ 4) (hl : vs.length = xs.length) (hs : ∃ v ∈ vs, v ≠ 0) (hv : valI xs vs xs.length = 0) (hq : plI q = true) : vanB xs q = true ∧ 2 ≤ xs.length := by
  have hc : xs.length = 1 ∨ xs.length = 2 ∨ xs.length = 3 ∨ xs.length = 4 := by omega
  rcases hc with e | e | e | e
  · exfalso
    obtain ⟨a, rfl⟩ := list_one e
    obtain ⟨x, rfl⟩ := list_one (hl.trans e)
    have hx : x ≠ 0 := by obtain ⟨v, hv, h0⟩ := hs; rw [List.mem_singleton] at hv; rwa [← hv]
    have hv' : valI [a] [x] 1 = 0 := hv
    rw [val1, Int.mul_assoc] at hv'
    exact Int.mul_ne_zero hz.head (Int.mul_ne_zero hx hx) hv'
  · obtain ⟨a, b, rfl⟩ := list_two e
    obtain ⟨x, y, rfl⟩ := list_two (hl.trans e)
    refine ⟨van2 (x := x) (y := y) hz.head hz.tail.head (fun h => ?_) ((val2 ..).symm.trans hv) hq, by omega⟩
    obtain ⟨v, hv, h0⟩ := hs
    simp only [List.mem_cons, List.not_mem_nil, or_false] at hv
    rcases hv with rfl | rfl <;> omega
  · obtain ⟨a, b, c, rfl⟩ := list_three e
    obtain ⟨x, y, z, rfl⟩ := list_three (hl.trans e)
    refine ⟨van3 (x := x) (y := y) (z := z) hz.head hz.tail.head hz.tail.tail.head (fun h => ?_) ((val3 ..).symm.trans hv) hq, by omega⟩
    obtain ⟨v, hv, h0⟩ := hs
    simp only [List.mem_cons, List.not_mem_nil, or_false] at hv
    rcases hv with rfl | rfl | rfl <;> omega
  · obtain ⟨a, b, c, d, rfl⟩ := list_four e
    obtain ⟨x, y, z, w, rfl⟩ := list_four (hl.trans e)
    refine ⟨van4 (x := x) (y := y) (z := z) (w := w) hz.head hz.tail.head hz.tail.tail.head hz.tail.tail.tail.head (fun h => ?_) ((val4 ..).symm.trans hv) hq, by omega⟩
    obtain ⟨v, hv, h0⟩ := hs
    simp only [List.mem_cons, List.not_mem_nil, or_false] at hv
    rcases hv with rfl | rfl | rfl | rfl <;> omega
theorem zero_bad {xs vs : List Int} (h : zeroB xs vs = true) : badL xs = [] := by
  obtain ⟨_, h2, h3, h4, h5⟩ := zeroB_iff.1 h
  have hb := fvB_iff.1 h2
  unfold badL
  rw [List.filter_eq_nil_iff]
  intro q hq
  have hpl : plI q = true := by unfold fplL at hq; rw [h2, if_pos rfl] at hq; exact places_fv h2 q hq
  rw [(zero_van (fv_nz h2) hb.2.1 hb.2.2 h3 h4 h5 hpl).1]
  decide

end Go.Proofs.Ytdclmjmefkgbbab
