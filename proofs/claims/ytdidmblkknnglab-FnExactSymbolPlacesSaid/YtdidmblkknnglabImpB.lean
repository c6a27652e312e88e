/-
  Contracts of the program's chapter 2: places, local squares, names (a map from classes to names).
-/
import Derived.Test.YtdidmblkknnglabImpA
import Derived.Maps.OwnOps
import Derived.Maps.Views
import Derived.DeepKeys4
set_option linter.unusedVariables false
namespace Go.Proofs.Ytdidmblkknnglab
open Go.RowKit

theorem wf_small {u : Int} (h1 : -5000 ≤ u) (h2 : u ≤ 1000000000) : (Lit.int .i64 u).wf = true := by simp [Lit.wf, IntKind.min, IntKind.max, IntKind.signed, IntKind.bits]; omega

theorem cls_small {n q : Int} (hn : n ≠ 0) (hq : plI q = true) : (cls n q).1 < 2 ∧ -1 ≤ (cls n q).2 ∧ (cls n q).2 ≤ 7 := by
  have hm := cls_mem hn hq
  unfold clsList at hm
  split at hm
  · simp only [List.mem_cons, List.not_mem_nil, or_false] at hm
    rcases hm with h | h <;> rw [h] <;> decide
  · split at hm
    · simp only [List.mem_cons, List.not_mem_nil, or_false] at hm
      rcases hm with h | h | h | h | h | h | h | h <;> rw [h] <;> decide
    · simp only [List.mem_cons, List.not_mem_nil, or_false] at hm
      rcases hm with h | h | h | h <;> rw [h] <;> decide

theorem plValid_any (q : Int) (w : World) : Calls Try.prog 40 #[.int .i64 q] w fun e w' => e = .returned (.bool (plI q)) ∧ Below w.heap.size w w' := by
  by_cases h : q = 0
  · subst h
    go_enter Try.func40, Try.ntmps40
    go_wp2
    go_ret
    exact ⟨rfl, Below.refl _ _⟩
  · have T : (q == 0) = false := by rw [beq_eq_false_iff_ne]; exact h
    have HP : Hid (plI q = primeI q) := by show _ = _; unfold plI; rw [decide_eq_false h, Bool.false_or]
    clear h
    go_enter Try.func40, Try.ntmps40
    go_wp2_with (go_at_call 49; refine (prime_any _ _).mono ?_; rintro e w' ⟨rfl, hb⟩)
    go_ret
    exact ⟨retB HP.out.symm, hb⟩

theorem cls_one {q : Int} (hq : plI q = true) : cls 1 q = (0, 1) := by
  rcases plI_cases hq with rfl | rfl | ⟨P, rfl, hP, h3, h5⟩
  · rfl
  · rfl
  · have h := names_cls hq
    rw [names_odd h3] at h
    have e : clsList (P : Int) = [(0, 1), (0, -1), (1, 1), (1, -1)] := by unfold clsList; rw [if_neg (by omega), if_neg (by omega)]
    rw [e] at h
    simp only [List.map_cons, List.cons.injEq] at h
    exact h.1

theorem plNames_any (q : Int) (hq : plI q = true) (w : World) : Calls Try.prog 55 #[.int .i64 q] w fun e w' => ∃ v, e = .returned v ∧ Owns w' w.heap.size v (namesOf q) ∧ Below w.heap.size w w' := by
  rcases plI_cases hq with rfl | rfl | ⟨P, rfl, hP, h3, h5⟩
  · go_enter Try.func55, Try.ntmps55
    go_wp2
    go_ret
    exact ⟨_, rfl, owns_lit [1, -1] _ rfl (Nat.le_refl _) (by unfold maxLen; simp), (Below.refl _ _).alloc (Nat.le_refl _) _⟩
  · go_enter Try.func55, Try.ntmps55
    go_wp2
    go_ret
    exact ⟨_, rfl, owns_lit [1, 3, 5, 7, 2, 6, 10, 14] _ rfl (Nat.le_refl _) (by unfold maxLen; simp), (Below.refl _ _).alloc (Nat.le_refl _) _⟩
  · obtain ⟨s1, s2, s3, s4, _⟩ := noneF_spec hP h3
    have HN := hid (names_odd h3)
    obtain ⟨u, hu⟩ : ∃ u, u = noneF P := ⟨_, rfl⟩
    have T2 : ((P : Int) == 2) = false := by rw [beq_eq_false_iff_ne]; omega
    have T0 : ((P : Int) == 0) = false := by rw [beq_eq_false_iff_ne]; omega
    have hm := Nat.mul_le_mul h5 (show u ≤ 63 by omega)
    have m1 : (0 : Int) ≤ (P : Int) * (u : Int) := by rw [← Int.natCast_mul]; exact Int.natCast_nonneg _
    have m2 : (P : Int) * (u : Int) ≤ 315000 := by rw [← Int.natCast_mul]; omega
    have HU : Hid (nonV (P : Int) = .tuple #[.int .i64 (u : Nat), .bool true]) := hid (by rw [nonV_yes (oddP_nat hP h3), Int.toNat_natCast, hu])
    have HL : Hid (namesOf (P : Int) = [1, (u : Int), (P : Int), (P : Int) * (u : Int)]) := hid (by rw [HN.out, hu])
    clear hu s4 hq hm
    go_enter Try.func55, Try.ntmps55
    go_wp2_with (go_at_call 70; refine (nonResidue_any _ _).mono ?_; rw [HU.out]; rintro e w' ⟨rfl, hb⟩)
    go_ret
    exact ⟨_, rfl, by rw [HL.out]; exact owns_lit [1, (u : Int), (P : Int), (P : Int) * (u : Int)] _ rfl hb.size (by unfold maxLen; simp), hb.alloc hb.size _⟩

end Go.Proofs.Ytdidmblkknnglab
