/-
  Plain arithmetic of chapter 4: equal forms; cancelling; two terms are worth what they represent.
-/
import Derived.Test.YtdclmjmefkgbbabQBun35
import Derived.Test.YtdclmjmefkgbbabQFm5
set_option linter.unusedVariables false
namespace Go.Proofs.Ytdclmjmefkgbbab
open Go.RowKit

theorem core_sq {a t : Int} (ha : a ≠ 0) (ht : t ≠ 0) : coreG (a * (t * t)) = coreG a := by
  have h := core_is ha
  refine (core_eq (r := rootG a * t.natAbs) (Int.mul_ne_zero ha (Int.mul_ne_zero ht ht)) ⟨?_, Nat.mul_pos h.pos (by omega), h.free⟩).1
  have e : ((t.natAbs : Int)) * (t.natAbs : Int) = t * t := by
    rw [← Int.natCast_mul, Int.natAbs_mul_self]
  conv => rhs; rw [← h.eq]
  push_cast
  rw [show (rootG a : Int) * (t.natAbs : Int) * ((rootG a : Int) * (t.natAbs : Int)) = (rootG a : Int) * (rootG a : Int) * ((t.natAbs : Int) * (t.natAbs : Int)) by simp only [Int.mul_assoc, Int.mul_comm, Int.mul_left_comm], e, ← Int.mul_assoc]
theorem core_of_sq {a b s : Int} (ha : a ≠ 0) (hb : b ≠ 0) (hs : s ≠ 0) (h : a * b = s * s) : coreG a = coreG b := by
  rw [← core_sq ha hb, ← core_sq hb hs, ← h]
  congr 1
  simp only [Int.mul_left_comm]
theorem core_t {a b t : Int} (ha : a ≠ 0) (hb : b ≠ 0) (ht : t ≠ 0) : coreG (a * t) = coreG (b * t) ↔ coreG a = coreG b := by
  constructor
  · intro h
    obtain ⟨s, hs, e⟩ := core_same (Int.mul_ne_zero ha ht) (Int.mul_ne_zero hb ht) h
    rw [← core_sq ha ht]
    refine core_of_sq (Int.mul_ne_zero ha (Int.mul_ne_zero ht ht)) hb hs ?_
    rw [← e]
    simp only [Int.mul_comm, Int.mul_left_comm]
  · intro h
    obtain ⟨s, hs, e⟩ := core_same ha hb h
    refine core_of_sq (Int.mul_ne_zero ha ht) (Int.mul_ne_zero hb ht) (Int.mul_ne_zero hs ht) ?_
    rw [show a * t * (b * t) = a * b * (t * t) by simp only [Int.mul_comm, Int.mul_left_comm], e]
    simp only [Int.mul_comm, Int.mul_left_comm]
theorem sq_of_core {a b q : Int} (ha : a ≠ 0) (hb : b ≠ 0) (hq : plI q = true) (h : coreG a = coreG b) : sqAt (a * b) q = true := by
  obtain ⟨s, hs, e⟩ := core_same ha hb h
  unfold sqAt
  rw [e, cls_tt hs hq]
  rfl

theorem ndvd_prod {P : Nat} (hP : primeN P = true) : ∀ {xs : List Int}, (∀ x ∈ xs, ¬ (P : Int) ∣ x) → ¬ (P : Int) ∣ prodI xs
  | [], _ => fun h => by
    have h2 := (primeN_bd hP).1
    have := Int.le_of_dvd (by decide) h
    rw [show prodI [] = 1 from rfl] at this
    omega
  | x :: xs, h => fun hd => by
    rcases primeI_dvd_mul hP (show (P : Int) ∣ x * prodI xs from hd) with h1 | h1
    · exact h x (List.mem_cons_self ..) h1
    · exact ndvd_prod hP (fun y hy => h y (List.mem_cons_of_mem _ hy)) h1
theorem hasC_units {P : Nat} (hP : primeN P = true) (h3 : 3 ≤ P) : ∀ {xs : List Int}, (∀ x ∈ xs, ¬ (P : Int) ∣ x) → hasC (P : Int) xs = 1
  | [], _ => rfl
  | x :: xs, h => by
    show symV x (prodI xs) (P : Int) * hasC (P : Int) xs = 1
    rw [sym_units hP h3 (h x (List.mem_cons_self ..)) (ndvd_prod hP fun y hy => h y (List.mem_cons_of_mem _ hy)), hasC_units hP h3 fun y hy => h y (List.mem_cons_of_mem _ hy)]
    rfl
theorem dvd_term {P : Int} : ∀ {xs : List Int} {x : Int}, x ∈ xs → P ∣ x → P ∣ prodI xs
  | y :: xs, x, hx, hd => by
    rcases List.mem_cons.1 hx with rfl | hx
    · exact Int.dvd_mul_of_dvd_left hd
    · exact Int.dvd_mul_of_dvd_right (dvd_term hx hd)
theorem alike_def {a b : List Int} {q : Int} (hq : plI q = true) (ha : NZ a) (hb : NZ b) (h0 : q ≠ 0) : alikeB a b q = (sqAt (prodI a * prodI b) q && (hasC q a == hasC q b)) := by
  unfold alikeB
  rw [if_neg h0, hasF_eq hq ha, hasF_eq hq hb]
/-- away from the places of both products, forms of one discriminant are alike -/
theorem alike_away {a b : List Int} {q : Int} (hq : plI q = true) (ha : NZ a) (hb : NZ b) (hc : coreG (prodI a) = coreG (prodI b)) (hn : q ∉ placesG (prodI a * prodI b)) : alikeB a b q = true := by
  have hab := Int.mul_ne_zero ha.prod hb.prod
  rcases plI_cases hq with rfl | rfl | ⟨P, rfl, hP, h3, h5⟩
  · exact absurd (by unfold placesG; simp) hn
  · exact absurd (by unfold placesG; simp) hn
  · have hnd : ¬ (P : Int) ∣ prodI a * prodI b := fun hd => hn (by
      obtain ⟨_, _, s3⟩ := plistG_spec (show 0 < (prodI a * prodI b).natAbs by omega)
      unfold placesG
      simp only [List.cons_append, List.nil_append, List.mem_cons]
      right; right
      refine List.mem_filter.2 ⟨?_, decide_eq_true (by omega)⟩
      unfold natsI
      exact List.mem_map.2 ⟨P, s3 P (primeN_prG hP) (Int.ofNat_dvd_left.1 hd), rfl⟩)
    rw [alike_def hq ha hb (by omega), sq_of_core ha.prod hb.prod hq hc, Bool.true_and,
      hasC_units hP h3 (fun x hx hd => hnd (Int.dvd_mul_of_dvd_left (dvd_term hx hd))), hasC_units hP h3 (fun x hx hd => hnd (Int.dvd_mul_of_dvd_right (dvd_term hx hd)))]
    rfl
/-- EQUAL FORMS: as many terms, one discriminant, alike at all places -/
theorem same_iff {a b : List Int} (hf : fvB a = true) (hg : fvB b = true) : fsameV a b = true ↔ a.length = b.length ∧ coreG (prodI a) = coreG (prodI b) ∧ ∀ q, plI q = true → alikeB a b q = true := by
  unfold fsameV bothB
  rw [hf, hg, Bool.true_and, Bool.true_and, Bool.and_eq_true, Bool.and_eq_true, beq_iff_eq, decide_eq_true_eq, List.all_eq_true]
  constructor
  · rintro ⟨h1, h2, h3⟩
    refine ⟨h1, h2, fun q hq => ?_⟩
    by_cases hm : q ∈ placesG (prodI a * prodI b)
    · exact h3 q hm
    · exact alike_away hq (fv_nz hf) (fv_nz hg) h2 hm
  · rintro ⟨h1, h2, h3⟩
    exact ⟨h1, h2, fun q hm => h3 q ((prod_join hf hg).2.2.2 q hm)⟩
theorem same_valid {a b : List Int} (h : fsameV a b = true) : fvB a = true ∧ fvB b = true := by
  unfold fsameV bothB at h
  rw [Bool.and_eq_true, Bool.and_eq_true, Bool.and_eq_true] at h
  exact ⟨h.1.1, h.1.2.1⟩
theorem alike_symm {a b : List Int} {q : Int} : alikeB a b q = alikeB b a q := by
  unfold alikeB
  by_cases h : q = 0
  · rw [if_pos h, if_pos h, Bool.eq_iff_iff, beq_iff_eq, beq_iff_eq, eq_comm]
  · rw [if_neg h, if_neg h, Int.mul_comm]
    congr 1
    rw [Bool.eq_iff_iff, beq_iff_eq, beq_iff_eq, eq_comm]
theorem same_symm {a b : List Int} (h : fsameV a b = true) : fsameV b a = true := by
  obtain ⟨hf, hg⟩ := same_valid h
  obtain ⟨h1, h2, h3⟩ := (same_iff hf hg).1 h
  exact (same_iff hg hf).2 ⟨h1.symm, h2.symm, fun q hq => by rw [alike_symm]; exact h3 q hq⟩
theorem same_perm {a b : List Int} (hf : fvB a = true) (hp : a.Perm b) : fsameV a b = true := by
  have hg : fvB b = true := by
    obtain ⟨h1, h2, h3⟩ := fvB_iff.1 hf
    exact fvB_iff.2 ⟨fun x hx => h1 x (hp.mem_iff.2 hx), by rw [← hp.length_eq]; exact h2, by rw [← hp.length_eq]; exact h3⟩
  have hz := fv_nz hf
  refine (same_iff hf hg).2 ⟨hp.length_eq, by rw [prodI_perm hp], fun q hq => ?_⟩
  by_cases h0 : q = 0
  · unfold alikeB; rw [if_pos h0, beq_iff_eq]; exact less_perm hp
  · rw [alike_def hq hz (fv_nz hg) h0, hasC_perm hq hp hz, ← prodI_perm hp]
    rw [show sqAt (prodI a * prodI a) q = true by unfold sqAt; rw [cls_tt hz.prod hq]; rfl]
    simp
/-- one term more on both sides changes nothing -/
theorem alike_join {a b : List Int} {q t : Int} (hq : plI q = true) (ha : NZ a) (hb : NZ b) (ht : t ≠ 0) (hc : coreG (prodI a) = coreG (prodI b)) : alikeB (a ++ [t]) (b ++ [t]) q = alikeB a b q := by
  have hz : ∀ {l : List Int}, NZ l → NZ (l ++ [t]) := fun h => h.app fun x hx => by rw [List.mem_singleton] at hx; rw [hx]; exact ht
  have hpt : ∀ l : List Int, prodI (l ++ [t]) = prodI l * t := fun l => by rw [prodI_app]; show prodI l * (t * 1) = _; rw [Int.mul_one]
  by_cases h0 : q = 0
  · unfold alikeB
    rw [if_pos h0, if_pos h0, less_app, less_app, Bool.eq_iff_iff, beq_iff_eq, beq_iff_eq]
    omega
  · have hcl : cls (prodI a) q = cls (prodI b) q := (sq_cls ha.prod hb.prod hq).1 (sq_of_core ha.prod hb.prod hq hc)
    have ht1 : NZ [t] := fun x hx => by rw [List.mem_singleton] at hx; rw [hx]; exact ht
    have hsa : symV (prodI a) t q = symV (prodI b) t q := symV_congr hcl rfl
    rw [alike_def hq (hz ha) (hz hb) h0, alike_def hq ha hb h0, hpt, hpt,
      sq_of_core (Int.mul_ne_zero ha.prod ht) (Int.mul_ne_zero hb.prod ht) hq ((core_t ha.prod hb.prod ht).2 hc), sq_of_core ha.prod hb.prod hq hc,
      hasC_app hq ha ht1, hasC_app hq hb ht1, hasC_one q hq ht, Int.mul_one, Int.mul_one, show prodI [t] = t from Int.mul_one t, hsa]
    congr 1
    rcases hasC_pm hq ha with e1 | e1 <;> rcases hasC_pm hq hb with e2 | e2 <;> rcases symV_val hb.prod ht hq with e3 | e3 <;> rw [e1, e2, e3] <;> rfl
theorem cancel {a b : List Int} {t : Int} (hf : fvB a = true) (hg : fvB b = true) (hj : fvB (a ++ [t]) = true) (hk : fvB (b ++ [t]) = true) : fsameV (a ++ [t]) (b ++ [t]) = fsameV a b := by
  have ha := fv_nz hf
  have hb := fv_nz hg
  have ht : t ≠ 0 := fv_nz hj t (List.mem_append_right _ (List.mem_singleton.2 rfl))
  have hpt : ∀ l : List Int, prodI (l ++ [t]) = prodI l * t := fun l => by rw [prodI_app]; show prodI l * (t * 1) = _; rw [Int.mul_one]
  rw [Bool.eq_iff_iff, same_iff hj hk, same_iff hf hg, hpt, hpt, core_t ha.prod hb.prod ht]
  constructor
  · rintro ⟨h1, h2, h3⟩
    refine ⟨by simpa using h1, h2, fun q hq => ?_⟩
    rw [← alike_join hq ha hb ht h2]
    exact h3 q hq
  · rintro ⟨h1, h2, h3⟩
    refine ⟨by simp [h1], h2, fun q hq => ?_⟩
    rw [alike_join hq ha hb ht h2]
    exact h3 q hq
theorem same_less {a b : List Int} (h : fsameV a b = true) : lessN a = lessN b ∧ a.length = b.length := by
  obtain ⟨hf, hg⟩ := same_valid h
  obtain ⟨h1, _, h3⟩ := (same_iff hf hg).1 h
  have := h3 0 rfl
  unfold alikeB at this
  rw [if_pos rfl, beq_iff_eq] at this
  exact ⟨this, h1⟩

/-- two terms are worth what they represent -/
theorem replace_sym {a b v x y q : Int} (ha : a ≠ 0) (hb : b ≠ 0) (hv : v ≠ 0) (he : v = a * x * x + b * y * y) (hq : plI q = true) : symV v (a * b * v) q = symV a b q := by
  have hab := Int.mul_ne_zero ha hb
  have h1 : symV (a * v) (-(a * b)) q = 1 := by
    refine solved_one (x := 1) (y := y) (z := a * x) (Int.mul_ne_zero ha hv) (by omega) (fun h => by omega) ?_ hq
    rw [Int.mul_one, Int.mul_one, he, Int.mul_add]
    have e : a * (b * y * y) = a * b * y * y := by simp only [Int.mul_assoc]
    rw [e, Int.neg_mul, Int.neg_mul]
    have e2 : a * x * (a * x) = a * (a * x * x) := by simp only [Int.mul_comm, Int.mul_left_comm]
    omega
  have hm : symV v (-v) q = 1 := symV_minus hv hq
  have hn : symV a (-a) q = 1 := symV_minus ha hq
  have e1 : symV v (a * b * v) q = symV v (-(a * b)) q := by
    rw [show a * b * v = (-(a * b)) * (-v) by rw [Int.neg_mul_neg], symV_mul hv (by omega) (by omega) hq, hm, Int.mul_one]
  have e2 : symV a b q = symV a (-(a * b)) q := by
    rw [show -(a * b) = (-a) * b by rw [Int.neg_mul], symV_mul ha (by omega) hb hq, hn, Int.one_mul]
  rw [symV_mul_left ha hv (by omega) hq] at h1
  rw [e1, e2]
  rcases symV_val ha (b := -(a * b)) (by omega) hq with f | f <;> rcases symV_val hv (b := -(a * b)) (by omega) hq with g | g <;> rw [f, g] at h1 ⊢
  · cases h1
  · cases h1

end Go.Proofs.Ytdclmjmefkgbbab
