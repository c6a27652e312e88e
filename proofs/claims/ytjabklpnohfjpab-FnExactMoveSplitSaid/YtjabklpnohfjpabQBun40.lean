/-
  Some texts in one file: Frm7 Mk7 Mk8.
-/
import Derived.Test.YtjabklpnohfjpabQBun39
import Derived.Test.YtjabklpnohfjpabQBun23
import Derived.Deep.Matrix
import Derived.Lib.SmallJoins
import Derived.ProofKit
import Derived.OpenShut
/-! Frm7 -/
set_option linter.unusedVariables false
namespace Go.Proofs.Ytjabklpnohfjpab
open Go.RowKit Go.ChangeShapes Go.WideShapes

theorem rows_open {H : Type} {enc : TypeId × Value → H} {w : World} {base fuel : Nat} {held : Bool} {a : Option Addr} {len cap : Nat} {x : DataW H × List MemPlace} (h : DataW.trod enc Try.prog w base (fun _ => true) held fuel 23 [.slice a len cap] = some x) : ∃ R, RdM w (.slice a len cap) R := by
  rcases Go.Deep.open_int_rows Try.underlying23 Try.underlying22 Try.underlying3 (by kernel_rfl) (by kernel_rfl) h with ⟨hcs, _⟩ | ⟨ad, l, c, A, L, C, Z, hcs, _, hl, hm, _, hr⟩
  · simp only [List.cons.injEq, Value.slice.injEq, and_true] at hcs
    obtain ⟨rfl, rfl, rfl⟩ := hcs
    exact ⟨[], rdM_nil _ _ _⟩
  · simp only [List.cons.injEq, Value.slice.injEq, and_true] at hcs
    obtain ⟨rfl, rfl, rfl⟩ := hcs
    refine ⟨(List.range len).map fun r => (Z r).take (L r), some ad, cap, (List.range len).map fun r => .slice (A r) (L r) (C r), by simp, by simp, fun h0 => ?_, fun i hi => ?_⟩
    · simp only [List.length_map, List.length_range] at h0 ⊢
      obtain ⟨b, off, spot⟩ := ad
      have hspot : spot = none := by simpa [Addr.add] using World.cell?_spot (hr 0 (by omega)).1
      subst hspot
      refine ⟨b, off, rfl, by omega, fun i hi => ?_⟩
      have hc := (hr i (by omega)).1
      rw [show ((List.range len).map fun r => Value.slice (A r) (L r) (C r)).getD i undef = .slice (A i) (L i) (C i) by simp [List.getD, hi]]
      by_cases e : i = 0
      · subst e; simpa [Addr.add] using hc
      · simpa [Addr.add, e] using hc
    · simp only [List.length_map, List.length_range] at hi
      rw [show ((List.range len).map fun r => Value.slice (A r) (L r) (C r)).getD i undef = .slice (A i) (L i) (C i) by simp [List.getD, hi], show ((List.range len).map fun r => (Z r).take (L r)).getD i [] = (Z i).take (L i) by simp [List.getD, hi]]
      obtain ⟨_, h1, h2, h3, h4, h5, h6⟩ := hr i (by omega)
      have hlen : ((Z i).take (L i)).length = L i := by rw [List.length_take]; omega
      by_cases h0 : L i = 0
      · exact .inl ⟨A i, C i, by rw [h0], by rw [h0, List.take_zero]⟩
      · obtain ⟨a', ha⟩ : ∃ a', A i = some a' := by
          cases e : A i with
          | none => have := h5 e; omega
          | some a' => exact ⟨a', rfl⟩
        obtain ⟨_, hcell⟩ := h6 a' ha
        rw [ha]
        obtain ⟨b, off, spot⟩ := a'
        have hspot : spot = none := by simpa [Addr.add] using World.cell?_spot (hcell 0 (by omega))
        subst hspot
        refine .inr ⟨b, off, C i, by rw [hlen], by omega, by rw [hlen]; omega, fun j hj => ?_⟩
        rw [hlen] at hj
        have hc := hcell j (by omega)
        have hg : ((Z i).take (L i)).getD j 0 = (Z i).getD j 0 := by
          rw [getD_at _ _ (by rw [hlen]; exact hj), getD_at _ _ (by omega), List.getElem_take]
        rw [hg]
        by_cases e : j = 0
        · subst e; simpa [Addr.add] using hc
        · simpa [Addr.add, e] using hc
theorem move_open {H : Type} {enc : TypeId × Value → H} {w : World} {base b0 : Nat} {r : Reach} {held : Bool} {v : Value} {d : DataW H} {ps : List MemPlace} (hv : Value.okWide Try.prog w r b0 25 v) (h : DataW.Trod enc Try.prog w base (fun _ => true) held 25 v d ps) : ∃ (u : Value) (R : List (List Int)) (n : Int), v = .agg #[u, .int .i64 n] ∧ RdM w u R := by
  obtain ⟨v0, v1, y0, y1, n, rfl, _, _, h0, h1⟩ := Go.Joins.open_agg2 Try.underlying25 (by kernel_rfl) (by kernel_rfl) hv h
  obtain ⟨a, l, c, e⟩ := Go.Joins.slice_form Try.underlying23 h0
  simp only [List.cons.injEq, and_true] at e
  subst e
  obtain ⟨R, hR⟩ := rows_open h0
  obtain ⟨k, e, _, _⟩ := DataW.trod_int Try.underlying3 h1
  simp only [List.cons.injEq, and_true] at e
  subst e
  exact ⟨_, R, k, rfl, hR⟩

end Go.Proofs.Ytjabklpnohfjpab

/-! Mk7 -/
set_option linter.unusedVariables false
namespace Go.Proofs.Ytjabklpnohfjpab
open Go.RowKit

theorem pre_bd {R : List (List Int)} {m : Nat} (h : ∀ r ∈ R, r.length ≤ m) : ∀ i, i ≤ R.length → preL R i ≤ m * i
  | 0, _ => Nat.le_refl _
  | i + 1, hi => by
    have ih := pre_bd h i (by omega)
    have h1 := h (R.getD i []) (by rw [List.getD_eq_getElem?_getD, List.getElem?_eq_getElem (by omega)]; exact List.getElem_mem _)
    show preL R i + (R.getD i []).length ≤ m * (i + 1)
    rw [Nat.mul_succ]
    omega
theorem move_rows {xs : List Int} {o : Option (List (List Int) × Int)} (h : ∀ R d, o = some (R, d) → MoveOk xs R d) : preL (o.elim [] (·.1)) (o.elim [] (·.1)).length ≤ 1000 := by
  cases o with
  | none => exact Nat.zero_le _
  | some p =>
    obtain ⟨R, d⟩ := p
    have hm := h R d rfl
    have hs := hm.sq
    have h3 := hm.l3
    have := pre_bd (R := R) (m := 3) (fun r hr => by rw [hs.2 r hr]; exact h3) R.length (Nat.le_refl _)
    have h1 := hs.1
    show preL R R.length ≤ 1000
    omega
theorem stay_rows (xs : List Int) : ∀ R d, stayV xs = some (R, d) → MoveOk xs R d := fun R d h => by
  unfold stayV at h
  split at h
  · next hf =>
    simp only [Option.some.injEq, Prod.mk.injEq] at h
    obtain ⟨rfl, rfl⟩ := h
    unfold frm3B at hf
    rw [Bool.and_eq_true, decide_eq_true_eq] at hf
    exact stay_ok hf.1 hf.2
  · cases h

theorem dec_two (R : List (List Int)) (d : Int) : (decide (R = R) && decide (d = d)) = true := by simp
theorem dec_one (xs : List Int) : decide (xs = xs) = true := by simp

end Go.Proofs.Ytjabklpnohfjpab

/-! Mk8 -/
set_option linter.unusedVariables false
namespace Go.Proofs.Ytjabklpnohfjpab
open Go.RowKit

theorem dec_rows (R : List (List Int)) : decide (R = R) = true := by simp
theorem carry_rows (xs us vs : List Int) : preL (if carryOk xs us vs = true then carryL xs us vs else []) (if carryOk xs us vs = true then carryL xs us vs else []).length ≤ 1000 := by
  by_cases h : carryOk xs us vs = true
  · rw [if_pos h]
    obtain ⟨hf, _, hv, _, _⟩ := carry_facts h
    unfold frm3B at hf
    rw [Bool.and_eq_true, decide_eq_true_eq] at hf
    have lv := (vecB_iff.1 hv).2.2
    have hr : ∀ r ∈ carryL xs us vs, r.length ≤ 3 := fun r hr => by
      have hd : ∀ c, (diffL us vs c xs.length).length = xs.length := fun c => by unfold diffL; rw [row_len]
      unfold carryL at hr
      split at hr
      · cases hr
      · split at hr
        · simp only [List.mem_cons, List.not_mem_nil, or_false] at hr
          rcases hr with rfl | rfl
          · rw [plainL_len, hd]; exact hf.2
          · rw [plainL_len, lv]; exact hf.2
        · simp only [List.mem_cons, List.not_mem_nil, or_false] at hr
          subst hr
          rw [plainL_len, hd]; exact hf.2
    have h1 := pre_bd hr _ (Nat.le_refl _)
    have h2 := carry_len xs us vs
    omega
  · rw [if_neg h]; exact Nat.zero_le _

end Go.Proofs.Ytjabklpnohfjpab
