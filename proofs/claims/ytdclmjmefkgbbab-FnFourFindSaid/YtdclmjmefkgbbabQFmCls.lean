/-
  Plain arithmetic of chapter 4: whether a form vanishes at a place is told by the classes of its terms.
-/
import Derived.Test.YtdclmjmefkgbbabQBun35
set_option linter.unusedVariables false
namespace Go.Proofs.Ytdclmjmefkgbbab
open Go.RowKit

def prodK (k : Nat) : List (Nat × Int) → Nat × Int
  | [] => (0, 1)
  | c :: cs => combK k c (prodK k cs)
def hasK (k : Nat) : List (Nat × Int) → Int
  | [] => 1
  | c :: cs => symK k c (prodK k cs) * hasK k cs
def vanK (k : Nat) (cs : List (Nat × Int)) : Bool :=
  if k = 0 then cs.any (fun c => c == (0, -1)) && cs.any (fun c => c == (0, 1))
  else if cs.length = 1 then false
  else if cs.length = 2 then combK k (minusK k) (prodK k cs) == (0, 1)
  else if cs.length = 3 then hasK k cs == symK k (minusK k) (combK k (minusK k) (prodK k cs))
  else !(prodK k cs == (0, 1)) || (hasK k cs == symK k (minusK k) (minusK k))
theorem cls_one2 {q : Int} (hq : plI q = true) : cls 1 q = (0, 1) := by
  have := cls_tt (show (1 : Int) ≠ 0 by decide) hq
  rwa [Int.mul_one] at this
theorem prodK_eq {q : Int} (hq : plI q = true) : ∀ {xs : List Int}, NZ xs → cls (prodI xs) q = prodK (kOf q) (xs.map (cls · q))
  | [], _ => cls_one2 hq
  | x :: xs, h => by
    show cls (x * prodI xs) q = combK (kOf q) (cls x q) (prodK (kOf q) (xs.map (cls · q)))
    rw [cls_mul h.head h.tail.prod hq, comb_k, prodK_eq hq h.tail]
theorem hasK_eq {q : Int} (hq : plI q = true) : ∀ {xs : List Int}, NZ xs → hasC q xs = hasK (kOf q) (xs.map (cls · q))
  | [], _ => rfl
  | x :: xs, h => by
    show symV x (prodI xs) q * hasC q xs = symK (kOf q) (cls x q) (prodK (kOf q) (xs.map (cls · q))) * hasK (kOf q) (xs.map (cls · q))
    rw [hasK_eq hq h.tail, ← prodK_eq hq h.tail]
    unfold symV
    rw [sym_k]
theorem cls_neg {n q : Int} (hn : n ≠ 0) (hq : plI q = true) : cls (-n) q = combK (kOf q) (minusK (kOf q)) (cls n q) := by
  rw [show -n = -1 * n by omega, cls_mul (by decide) hn hq, cls_minus hq, comb_k]
theorem vanB_k {q : Int} (hq : plI q = true) {xs : List Int} (h : NZ xs) (h1 : 1 ≤ xs.length) (h4 : xs.length ≤ 4) : vanB xs q = vanK (kOf q) (xs.map (cls · q)) := by
  by_cases hq0 : q = 0
  · subst hq0
    have hk : kOf 0 = 0 := rfl
    unfold vanB vanK
    rw [if_pos rfl, hk, if_pos rfl]
    have e1 : (xs.map (cls · 0)).any (fun c => c == (0, -1)) = decide (0 < lessN xs) := by
      rw [Bool.eq_iff_iff, List.any_eq_true, decide_eq_true_eq]
      constructor
      · rintro ⟨c, hc, e⟩
        rw [List.mem_map] at hc
        obtain ⟨x, hx, rfl⟩ := hc
        have hx0 := h x hx
        have hneg : x < 0 := by
          rw [beq_iff_eq, cls_zero] at e
          by_cases hp : 0 < x
          · rw [if_pos hp] at e; cases e
          · omega
        exact List.length_pos_iff_exists_mem.2 ⟨x, List.mem_filter.2 ⟨hx, decide_eq_true hneg⟩⟩
      · intro hl
        obtain ⟨x, hx⟩ := List.length_pos_iff_exists_mem.1 hl
        obtain ⟨hx1, hx2⟩ := List.mem_filter.1 hx
        have hneg := of_decide_eq_true hx2
        exact ⟨cls x 0, List.mem_map.2 ⟨x, hx1, rfl⟩, by rw [cls_zero, if_neg (by omega)]; rfl⟩
    have e2 : (xs.map (cls · 0)).any (fun c => c == (0, 1)) = decide (lessN xs < xs.length) := by
      rw [Bool.eq_iff_iff, List.any_eq_true, decide_eq_true_eq]
      constructor
      · rintro ⟨c, hc, e⟩
        rw [List.mem_map] at hc
        obtain ⟨x, hx, rfl⟩ := hc
        have hpos : ¬ x < 0 := by
          intro hn
          rw [beq_iff_eq, cls_zero, if_neg (by omega)] at e
          cases e
        rcases Nat.lt_or_ge (lessN xs) xs.length with hl | hl
        · exact hl
        · exfalso
          have hle := less_le xs
          have := List.length_filter_eq_length_iff.1 (show (xs.filter (fun x => decide (x < 0))).length = xs.length from Nat.le_antisymm hle hl) x hx
          exact hpos (of_decide_eq_true this)
      · intro hl
        have hex : ∃ x ∈ xs, ¬ x < 0 := by
          apply Classical.byContradiction
          intro hno
          have hall : ∀ x ∈ xs, x < 0 := fun x hx => Classical.byContradiction fun hn => hno ⟨x, hx, hn⟩
          have : lessN xs = xs.length := List.length_filter_eq_length_iff.2 fun x hx => decide_eq_true (hall x hx)
          omega
        obtain ⟨x, hx, hn⟩ := hex
        have hx0 := h x hx
        exact ⟨cls x 0, List.mem_map.2 ⟨x, hx, rfl⟩, by rw [cls_zero, if_pos (by omega)]; rfl⟩
    rw [e1, e2]
  · have hk : kOf q ≠ 0 := fun e => hq0 ((kOf_zero q).1 e)
    have hp := h.prod
    have hF := hasF_eq hq h
    have hm1 : cls (-1) q = minusK (kOf q) := cls_minus hq
    have hlc : xs.length = 1 ∨ xs.length = 2 ∨ xs.length = 3 ∨ xs.length = 4 := by omega
    unfold vanK
    rw [if_neg hk, List.length_map]
    rcases hlc with hl | hl | hl | hl
    · rw [van_one hq0 hl, hl, if_pos rfl]
    · rw [van_two hq0 hl, hl, if_neg (by decide), if_pos rfl]
      unfold sqAt
      rw [cls_neg hp hq, prodK_eq hq h]
    · rw [van_three hq0 hl, hl, if_neg (by decide), if_neg (by decide), if_pos rfl, hF, hasK_eq hq h]
      unfold symV
      rw [sym_k, hm1, cls_neg hp hq, prodK_eq hq h]
    · rw [van_four hq0 hl, hl, if_neg (by decide), if_neg (by decide), if_neg (by decide), hF, hasK_eq hq h]
      unfold symV sqAt
      rw [sym_k, hm1, prodK_eq hq h]

/-- all lists of classes of so many terms -/
def allL (k : Nat) : Nat → List (List (Nat × Int))
  | 0 => [[]]
  | n + 1 => (listK k).flatMap (fun c => (allL k n).map (c :: ·))
theorem mem_allL {k : Nat} : ∀ {cs : List (Nat × Int)}, (∀ c ∈ cs, c ∈ listK k) → cs ∈ allL k cs.length
  | [], _ => List.mem_singleton.2 rfl
  | c :: cs, h => List.mem_flatMap.2 ⟨c, h c (List.mem_cons_self ..), List.mem_map.2 ⟨cs, mem_allL fun d hd => h d (List.mem_cons_of_mem _ hd), rfl⟩⟩
theorem cls_all {q : Int} (hq : plI q = true) {xs : List Int} (h : NZ xs) : ∀ c ∈ xs.map (cls · q), c ∈ listK (kOf q) := fun c hc => by
  rw [List.mem_map] at hc
  obtain ⟨x, hx, rfl⟩ := hc
  rw [← clsList_k]
  exact cls_mem (h x hx) hq
def scaleOk (k n : Nat) : Bool := (listK k).all (fun c => (allL k n).all (fun cs => vanK k (cs.map (combK k c)) == vanK k cs))
def longerOk (k n : Nat) : Bool := (listK k).all (fun c => (allL k n).all (fun cs => !vanK k cs || vanK k (cs ++ [c])))
theorem scale_small : (List.range 4).all (fun k => scaleOk k 1 && (scaleOk k 2 && scaleOk k 3)) = true := by decide +kernel
theorem scale_four : (List.range 4).all (fun k => scaleOk k 4) = true := by decide +kernel
theorem longer_all : (List.range 4).all (fun k => longerOk k 1 && (longerOk k 2 && longerOk k 3)) = true := by decide +kernel
theorem scale_all {k n : Nat} (hk : k < 4) (h1 : 1 ≤ n) (h4 : n ≤ 4) : scaleOk k n = true := by
  have a := List.all_eq_true.1 scale_small k (List.mem_range.2 hk)
  have b := List.all_eq_true.1 scale_four k (List.mem_range.2 hk)
  rw [Bool.and_eq_true, Bool.and_eq_true] at a
  have hn : n = 1 ∨ n = 2 ∨ n = 3 ∨ n = 4 := by omega
  rcases hn with rfl | rfl | rfl | rfl
  · exact a.1
  · exact a.2.1
  · exact a.2.2
  · exact b
/-- a form that is multiplied vanishes where it did -/
theorem van_scale {q n : Int} (hq : plI q = true) (hn : n ≠ 0) {xs : List Int} (h : NZ xs) (h1 : 1 ≤ xs.length) (h4 : xs.length ≤ 4) : vanB (xs.map (n * ·)) q = vanB xs q := by
  have hz : NZ (xs.map (n * ·)) := (hasC_scale hq hn h).1
  rw [vanB_k hq hz (by rw [List.length_map]; exact h1) (by rw [List.length_map]; exact h4), vanB_k hq h h1 h4]
  have e : (xs.map (n * ·)).map (cls · q) = (xs.map (cls · q)).map (combK (kOf q) (cls n q)) := by
    rw [List.map_map, List.map_map]
    refine List.map_congr_left fun x hx => ?_
    show cls (n * x) q = combK (kOf q) (cls n q) (cls x q)
    rw [cls_mul hn (h x hx) hq, comb_k]
  rw [e]
  have hs := scale_all (kOf_lt q) (show 1 ≤ (xs.map (cls · q)).length by rw [List.length_map]; exact h1) (by rw [List.length_map]; exact h4)
  have := List.all_eq_true.1 (List.all_eq_true.1 hs (cls n q) (by rw [← clsList_k]; exact cls_mem hn hq)) _ (mem_allL (cls_all hq h))
  exact beq_iff_eq.1 this
/-- terms of the same classes vanish alike -/
theorem van_cls {q : Int} (hq : plI q = true) {f : Int → Int} (hf : ∀ x, x ≠ 0 → f x ≠ 0 ∧ cls (f x) q = cls x q) {xs : List Int} (h : NZ xs) (h1 : 1 ≤ xs.length) (h4 : xs.length ≤ 4) : vanB (xs.map f) q = vanB xs q := by
  have hz := (prod_cls hq hf h).1
  rw [vanB_k hq hz (by rw [List.length_map]; exact h1) (by rw [List.length_map]; exact h4), vanB_k hq h h1 h4, List.map_map]
  congr 1
  exact List.map_congr_left fun x hx => (hf x (h x hx)).2
/-- a longer form vanishes, too -/
theorem van_longer {q t : Int} (hq : plI q = true) (ht : t ≠ 0) {xs : List Int} (h : NZ xs) (h1 : 1 ≤ xs.length) (h3 : xs.length ≤ 3) (hv : vanB xs q = true) : vanB (xs ++ [t]) q = true := by
  have hz : NZ (xs ++ [t]) := h.app fun x hx => by rw [List.mem_singleton] at hx; rw [hx]; exact ht
  rw [vanB_k hq h h1 (by omega)] at hv
  rw [vanB_k hq hz (by rw [List.length_append]; simp) (by rw [List.length_append]; simp; omega), List.map_append]
  have ha := List.all_eq_true.1 longer_all (kOf q) (List.mem_range.2 (kOf_lt q))
  rw [Bool.and_eq_true, Bool.and_eq_true] at ha
  have hs : longerOk (kOf q) (xs.map (cls · q)).length = true := by
    rw [List.length_map]
    have hn : xs.length = 1 ∨ xs.length = 2 ∨ xs.length = 3 := by omega
    rcases hn with e | e | e <;> rw [e]
    · exact ha.1
    · exact ha.2.1
    · exact ha.2.2
  have := List.all_eq_true.1 (List.all_eq_true.1 hs (cls t q) (by rw [← clsList_k]; exact cls_mem ht hq)) _ (mem_allL (cls_all hq h))
  rw [hv] at this
  simpa using this

end Go.Proofs.Ytdclmjmefkgbbab
