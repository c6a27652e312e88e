/-
  Some texts in one file: Vecs2 Imp4A.
-/
import Derived.Test.YtbhlgdleklfonabBun23
import Derived.Test.YtbhlgdleklfonabVals5b
import Derived.Test.YtbhlgdleklfonabBun14
import Derived.Test.YtbhlgdleklfonabImp3B
import Derived.Handy
/-! Vecs2 -/
set_option linter.unusedVariables false
namespace Go.Proofs.Ytbhlgdleklfonab
open Go.RowKit

theorem vecAt_cons {lo : Int} {b c d K : Nat} (hb : 1 ≤ b) (hd : d < b) (hK : K < b ^ c) : vecAt lo b (c + 1) (d * b ^ c + K) = (lo + ((d : Nat) : Int)) :: vecAt lo b c K := by
  refine List.ext_getElem (by rw [vecAt_len, List.length_cons, vecAt_len]) fun j h1 h2 => ?_
  rw [vecAt_get h1]
  have h3 := h1
  rw [vecAt_len] at h3
  match j with
  | 0 =>
    rw [List.getElem_cons_zero]
    congr 2
    unfold dig
    rw [show c + 1 - 1 - 0 = c by omega, Nat.mul_comm, Nat.mul_add_div (Nat.pow_pos (by omega)), Nat.div_eq_of_lt hK, Nat.add_zero, Nat.mod_eq_of_lt hd]
  | j + 1 =>
    rw [List.getElem_cons_succ, vecAt_get]
    congr 2
    unfold dig
    have e : b ^ c = b ^ (c - 1 - j) * (b * b ^ j) := by rw [← Nat.pow_succ', ← Nat.pow_add]; congr 1; omega
    rw [show c + 1 - 1 - (j + 1) = c - 1 - j by omega, e, Nat.mul_left_comm, Nat.mul_add_div (Nat.pow_pos (by omega)), Nat.mul_left_comm d, Nat.mul_add_mod]
theorem range_mul (N : Nat) : ∀ b, List.range (b * N) = (List.range b).flatMap (fun d => (List.range N).map (fun k => d * N + k))
  | 0 => by rw [Nat.zero_mul]; rfl
  | b + 1 => by
    rw [Nat.succ_mul, List.range_add, range_mul N b, List.range_succ, List.flatMap_append]
    simp
theorem vecsL_succ {lo : Int} {b c : Nat} (hb : 1 ≤ b) : vecsL lo b (c + 1) = (List.range b).flatMap (fun d => (vecsL lo b c).map (fun v => (lo + ((d : Nat) : Int)) :: v)) := by
  unfold vecsL
  rw [Nat.pow_succ', range_mul, List.map_flatMap]
  have h : ∀ l : List Nat, (∀ d ∈ l, d < b) → l.flatMap (fun d => ((List.range (b ^ c)).map (fun k => d * b ^ c + k)).map (vecAt lo b (c + 1))) = l.flatMap (fun d => ((List.range (b ^ c)).map (vecAt lo b c)).map (fun v => (lo + ((d : Nat) : Int)) :: v)) := by
    intro l
    induction l with
    | nil => intro _; rfl
    | cons d l ih =>
      intro hl
      rw [List.flatMap_cons, List.flatMap_cons, ih fun x hx => hl x (List.mem_cons_of_mem _ hx)]
      congr 1
      rw [List.map_map, List.map_map]
      refine List.map_congr_left fun k hk => ?_
      exact vecAt_cons hb (hl d (List.mem_cons_self ..)) (List.mem_range.1 hk)
  exact h _ fun d hd => List.mem_range.1 hd
theorem vecsL_zero (lo : Int) (b : Nat) : vecsL lo b 0 = [[]] := by unfold vecsL; rw [Nat.pow_zero]; rfl
theorem mem_vecs {lo : Int} {b : Nat} (hb : 1 ≤ b) : ∀ {us : List Int}, (∀ u ∈ us, lo ≤ u ∧ u < lo + b) → us ∈ vecsL lo b us.length
  | [], _ => by rw [List.length_nil, vecsL_zero]; exact List.mem_singleton.2 rfl
  | u :: us, h => by
    have h1 := h u (List.mem_cons_self ..)
    rw [List.length_cons, vecsL_succ hb]
    refine List.mem_flatMap.2 ⟨(u - lo).toNat, List.mem_range.2 (by omega), List.mem_map.2 ⟨us, mem_vecs hb fun x hx => h x (List.mem_cons_of_mem _ hx), ?_⟩⟩
    rw [show lo + (((u - lo).toNat : Nat) : Int) = u by omega]
theorem vecs_mem {lo : Int} {b c : Nat} (hb : 1 ≤ b) {v : List Int} (h : v ∈ vecsL lo b c) : v.length = c ∧ ∀ u ∈ v, lo ≤ u ∧ u < lo + b := by
  obtain ⟨K, _, rfl⟩ := List.mem_map.1 h
  exact ⟨vecAt_len .., vecAt_bd hb⟩
theorem mod_vecs (xs : List Int) (P m c : Nat) (hm : 1 ≤ m) : modR xs P m c [] = (vecsL 0 m c).any (modHit xs P m) := by
  rw [Bool.eq_iff_iff, modR_iff, List.any_eq_true]
  constructor
  · rintro ⟨us, rfl, hu, hh⟩
    exact ⟨us, mem_vecs hm fun u h => by have := hu u h; omega, hh⟩
  · rintro ⟨v, hv, hh⟩
    obtain ⟨h1, h2⟩ := vecs_mem hm hv
    exact ⟨v, h1, fun u h => by have := h2 u h; omega, hh⟩
theorem many_vecs (xs : List Int) (n : Int) (h0 : 0 ≤ n) : ∀ (c : Nat) (vs : List Int), manyR xs n c vs = (((vecsL (-n) (2 * n + 1).toNat c).countP (fun us => goodB xs (vs ++ us)) : Nat) : Int)
  | 0, vs => by
    rw [vecsL_zero]
    unfold manyR
    simp only [List.countP_cons, List.countP_nil, List.append_nil]
    cases goodB xs vs <;> rfl
  | c + 1, vs => by
    have hs : ∀ k, sumZ (fun x => manyR xs n c (vs ++ [x])) (-n) k = ((((List.range k).flatMap (fun d => (vecsL (-n) (2 * n + 1).toNat c).map (fun v => (-n + ((d : Nat) : Int)) :: v))).countP (fun us => goodB xs (vs ++ us)) : Nat) : Int) := by
      intro k
      induction k with
      | zero => rfl
      | succ k ih =>
        rw [sumZ_succ, ih, List.range_succ, List.flatMap_append, List.countP_append, many_vecs xs n h0 c]
        simp only [List.flatMap_cons, List.flatMap_nil, List.append_nil, List.countP_map]
        push_cast
        congr 3
        funext us
        simp [Function.comp]
    rw [vecsL_succ (by omega)]
    exact hs _

end Go.Proofs.Ytbhlgdleklfonab

/-! Imp4A -/
set_option linter.unusedVariables false
namespace Go.Proofs.Ytbhlgdleklfonab
open Go.RowKit

set_option maxRecDepth 100000 in
set_option maxHeartbeats 1000000 in
theorem formValidP_any (v : Value) (xs : List Int) (w : World) (h : Rd w v xs) : Calls Try.prog 37 #[v] w fun e w' => e = .returned (.bool (fvB xs)) ∧ w = w' := by
  obtain ⟨a, cap, rfl, hform⟩ := h.form
  have HFM := hid hform
  have hmx : xs.length ≤ maxLen := by
    rcases Nat.eq_zero_or_pos xs.length with e | e
    · rw [e]; exact Nat.zero_le _
    · obtain ⟨_, _, _, hm, _⟩ := hform e; exact hm
  unfold maxLen at hmx
  clear hform h
  go_enter Try.func37, Try.ntmps37
  go_wp2_with fail
  go_loop [7] (fun si => ∃ K : Nat, si = .int .i64 K ∧ K ≤ xs.length ∧ Hid (∀ i, i < K → termB (xs.getD i 0) = true)) (fun si => xs.length - (intOf si).toNat)
  case atStart => exact ⟨0, rfl, by omega, hid (fun i hi => by omega)⟩
  case round =>
    obtain ⟨K, rfl, hK, HE⟩ := hrel
    by_cases hlt : K < xs.length
    · obtain ⟨b, o, rfl, hml, hc⟩ := HFM.out (by omega)
      have hcell := hc K hlt
      obtain ⟨x, hx⟩ : ∃ x, x = xs.getD K 0 := ⟨_, rfl⟩
      rw [← hx] at hcell
      have HX := hid hx
      have HLT := hid hlt
      have hKi : (K : Int) < (xs.length : Int) := by omega
      have HNO : Hid (termB x = false → fvB xs = false) := hid (fun e => by
        cases hf : fvB xs with
        | false => rfl
        | true =>
          have := termB_iff.2 (fv_at hf hlt)
          rw [← hx, e] at this
          cases this)
      have HTB : Hid (termB x = true ↔ x ≠ 0 ∧ -30 ≤ x ∧ x ≤ 30) := hid termB_iff
      clear hx hc hml hlt
      by_cases x0 : x = 0
      · have T : (x == 0) = true := by rw [beq_iff_eq]; exact x0
        have HR := hid (HNO.out (by rw [x0]; rfl))
        clear x0
        go_wp2_with fail
        go_ret
        exact ⟨retB HR.out.symm, rfl⟩
      · have T : (x == 0) = false := by rw [beq_eq_false_iff_ne]; exact x0
        by_cases x1 : x < -30
        · have HR := hid (HNO.out (by
            cases ht : termB x with
            | false => rfl
            | true => have := HTB.out.1 ht; omega))
          clear x0
          go_wp2_with fail
          go_ret
          exact ⟨retB HR.out.symm, rfl⟩
        · by_cases x2 : x > 30
          · have HR := hid (HNO.out (by
              cases ht : termB x with
              | false => rfl
              | true => have := HTB.out.1 ht; omega))
            clear x0
            go_wp2_with fail
            go_ret
            exact ⟨retB HR.out.symm, rfl⟩
          · have HT : Hid (termB x = true) := hid (HTB.out.2 ⟨x0, by omega, by omega⟩)
            clear x0
            go_wp2_with fail
            go_round
            case measure => simp only [intOf]; have := HLT.out; omega
            case rel => exact ⟨K + 1, by go_num, by have := HLT.out; omega, hid (fun i hi => by
              by_cases e : i = K
              · rw [e, ← HX.out]; exact HT.out
              · exact HE.out i (by omega))⟩
    · obtain rfl : K = xs.length := by omega
      have HR : Hid (fvB xs = inR (xs.length : Nat) 1 4) := hid (by
        unfold fvB
        rw [show xs.all termB = true from List.all_eq_true.2 fun x hx => by
          obtain ⟨i, hi, rfl⟩ := List.getElem_of_mem hx
          have := HE.out i hi
          rwa [getD_at _ _ hi] at this, Bool.true_and])
      clear hlt
      by_cases l1 : (1 : Int) ≤ (xs.length : Int)
      · by_cases l2 : (xs.length : Int) ≤ 4
        · have HV : Hid (fvB xs = true) := hid (by rw [HR.out]; unfold inR; rw [decide_eq_true l1, decide_eq_true l2]; rfl)
          go_wp2_with fail
          go_ret
          exact ⟨retB HV.out.symm, rfl⟩
        · have HV : Hid (fvB xs = false) := hid (by rw [HR.out]; unfold inR; rw [decide_eq_true l1, decide_eq_false l2]; rfl)
          go_wp2_with fail
          go_ret
          exact ⟨retB HV.out.symm, rfl⟩
      · have HV : Hid (fvB xs = false) := hid (by rw [HR.out]; unfold inR; rw [decide_eq_false l1]; rfl)
        go_wp2_with fail
        go_ret
        exact ⟨retB HV.out.symm, rfl⟩

theorem formValid_any (v : Value) (xs : List Int) (w : World) (h : Rd w v xs) (hl : xs.length ≤ 1048576) : Calls Try.prog 37 #[v] w fun e w' => e = .returned (.bool (fvB xs)) ∧ Below w.heap.size w w' := by
  refine (formValidP_any v xs w h).mono ?_
  rintro e w' ⟨he, rfl⟩
  exact ⟨he, Below.refl _ _⟩

end Go.Proofs.Ytbhlgdleklfonab
