/-
  The vectors of so many integers in a range: all of them, each once; counting and finding among them.
-/
import Derived.Test.YtfjbdbfeolfcfaaQBun49
import Derived.Test.YtfjbdbfeolfcfaaQVals5b
set_option linter.unusedVariables false
namespace Go.Proofs.Ytfjbdbfeolfcfaa
open Go.RowKit

theorem vecAt_cons {lo : Int} {b c d K : Nat} (hb : 1 ≤ b) (hd : d < b) (hK : K < b ^ c) : vecAt lo b (c + 1) (d * b ^ c + K) = (lo + ((d : Nat) : Int)) :: vecAt lo b c K := by
  refine List.ext_getElem (by rw [vecAt_len, List.length_cons, vecAt_len]) fun j h1 h2 => ?_
  rw [vecAt_get h1]
  have h3 := h1
  rw [vecAt_len] at h3
  match j with
  | 0 =>
    rw [List.getElem_cons_zero]
    congr 2
    unfold dig
    rw [show c + 1 - 1 - 0 = c by omega, Nat.mul_comm, Nat.mul_add_div (Nat.pow_pos (by omega)), Nat.div_eq_of_lt hK, Nat.add_zero, Nat.mod_eq_of_lt hd]
  | j + 1 =>
    rw [List.getElem_cons_succ, vecAt_get]
    congr 2
    unfold dig
    have e : b ^ c = b ^ (c - 1 - j) * (b * b ^ j) := by rw [← Nat.pow_succ', ← Nat.pow_add]; congr 1; omega
    rw [show c + 1 - 1 - (j + 1) = c - 1 - j by omega, e, Nat.mul_left_comm, Nat.mul_add_div (Nat.pow_pos (by omega)), Nat.mul_left_comm d, Nat.mul_add_mod]
theorem range_mul (N : Nat) : ∀ b, List.range (b * N) = (List.range b).flatMap (fun d => (List.range N).map (fun k => d * N + k))
  | 0 => by rw [Nat.zero_mul]; rfl
  | b + 1 => by
    rw [Nat.succ_mul, List.range_add, range_mul N b, List.range_succ, List.flatMap_append]
    simp
theorem vecsL_succ {lo : Int} {b c : Nat} (hb : 1 ≤ b) : vecsL lo b (c + 1) = (List.range b).flatMap (fun d => (vecsL lo b c).map (fun v => (lo + ((d : Nat) : Int)) :: v)) := by
  unfold vecsL
  rw [Nat.pow_succ', range_mul, List.map_flatMap]
  have h : ∀ l : List Nat, (∀ d ∈ l, d < b) → l.flatMap (fun d => ((List.range (b ^ c)).map (fun k => d * b ^ c + k)).map (vecAt lo b (c + 1))) = l.flatMap (fun d => ((List.range (b ^ c)).map (vecAt lo b c)).map (fun v => (lo + ((d : Nat) : Int)) :: v)) := by
    intro l
    induction l with
    | nil => intro _; rfl
    | cons d l ih =>
      intro hl
      rw [List.flatMap_cons, List.flatMap_cons, ih fun x hx => hl x (List.mem_cons_of_mem _ hx)]
      congr 1
      rw [List.map_map, List.map_map]
      refine List.map_congr_left fun k hk => ?_
      exact vecAt_cons hb (hl d (List.mem_cons_self ..)) (List.mem_range.1 hk)
  exact h _ fun d hd => List.mem_range.1 hd
theorem vecsL_zero (lo : Int) (b : Nat) : vecsL lo b 0 = [[]] := by unfold vecsL; rw [Nat.pow_zero]; rfl
theorem mem_vecs {lo : Int} {b : Nat} (hb : 1 ≤ b) : ∀ {us : List Int}, (∀ u ∈ us, lo ≤ u ∧ u < lo + b) → us ∈ vecsL lo b us.length
  | [], _ => by rw [List.length_nil, vecsL_zero]; exact List.mem_singleton.2 rfl
  | u :: us, h => by
    have h1 := h u (List.mem_cons_self ..)
    rw [List.length_cons, vecsL_succ hb]
    refine List.mem_flatMap.2 ⟨(u - lo).toNat, List.mem_range.2 (by omega), List.mem_map.2 ⟨us, mem_vecs hb fun x hx => h x (List.mem_cons_of_mem _ hx), ?_⟩⟩
    rw [show lo + (((u - lo).toNat : Nat) : Int) = u by omega]
theorem vecs_mem {lo : Int} {b c : Nat} (hb : 1 ≤ b) {v : List Int} (h : v ∈ vecsL lo b c) : v.length = c ∧ ∀ u ∈ v, lo ≤ u ∧ u < lo + b := by
  obtain ⟨K, _, rfl⟩ := List.mem_map.1 h
  exact ⟨vecAt_len .., vecAt_bd hb⟩
theorem mod_vecs (xs : List Int) (P m c : Nat) (hm : 1 ≤ m) : modR xs P m c [] = (vecsL 0 m c).any (modHit xs P m) := by
  rw [Bool.eq_iff_iff, modR_iff, List.any_eq_true]
  constructor
  · rintro ⟨us, rfl, hu, hh⟩
    exact ⟨us, mem_vecs hm fun u h => by have := hu u h; omega, hh⟩
  · rintro ⟨v, hv, hh⟩
    obtain ⟨h1, h2⟩ := vecs_mem hm hv
    exact ⟨v, h1, fun u h => by have := h2 u h; omega, hh⟩
theorem many_vecs (xs : List Int) (n : Int) (h0 : 0 ≤ n) : ∀ (c : Nat) (vs : List Int), manyR xs n c vs = (((vecsL (-n) (2 * n + 1).toNat c).countP (fun us => goodB xs (vs ++ us)) : Nat) : Int)
  | 0, vs => by
    rw [vecsL_zero]
    unfold manyR
    simp only [List.countP_cons, List.countP_nil, List.append_nil]
    cases goodB xs vs <;> rfl
  | c + 1, vs => by
    have hs : ∀ k, sumZ (fun x => manyR xs n c (vs ++ [x])) (-n) k = ((((List.range k).flatMap (fun d => (vecsL (-n) (2 * n + 1).toNat c).map (fun v => (-n + ((d : Nat) : Int)) :: v))).countP (fun us => goodB xs (vs ++ us)) : Nat) : Int) := by
      intro k
      induction k with
      | zero => rfl
      | succ k ih =>
        rw [sumZ_succ, ih, List.range_succ, List.flatMap_append, List.countP_append, many_vecs xs n h0 c]
        simp only [List.flatMap_cons, List.flatMap_nil, List.append_nil, List.countP_map]
        push_cast
        congr 3
        funext us
        simp [Function.comp]
    rw [vecsL_succ (by omega)]
    exact hs _

end Go.Proofs.Ytfjbdbfeolfcfaa
