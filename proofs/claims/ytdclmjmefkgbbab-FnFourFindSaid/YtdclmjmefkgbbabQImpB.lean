/-
  Contracts of the program's chapter 2: places, local squares, names (a map from classes to names).
-/
import Derived.Test.YtdclmjmefkgbbabQBun22
import Derived.Maps.OwnOps
import Derived.Maps.Views
import Derived.DeepKeys4
set_option linter.unusedVariables false
namespace Go.Proofs.Ytdclmjmefkgbbab
open Go.RowKit

theorem clsLaid : laidOutB Try.prog = true := by kernel_rfl
theorem clsWide : (match Try.prog.underlying 86 with | some (.array _ _) | some (.struct _) => true | _ => false) = true := by rw [Try.underlying86]
theorem clsRow : (86 : TypeId) < Try.prog.types.size := of_decide_eq_true (by kernel_rfl)
set_option maxRecDepth 100000 in
theorem clsKeyed : Maps.Keyed Try.prog 86 := Maps.Keyed.of_law (deep_law_laid clsLaid (m := 2) (by omega) clsRow (by kernel_rfl) clsWide)

theorem wf_small {u : Int} (h1 : -5000 ≤ u) (h2 : u ≤ 1000000000) : (Lit.int .i64 u).wf = true := by simp [Lit.wf, IntKind.min, IntKind.max, IntKind.signed, IntKind.bits]; omega

theorem clsSize : ∃ m, Try.prog.types.size = m + 1 := Nat.exists_eq_succ_of_ne_zero (Nat.pos_iff_ne_zero.1 (Nat.lt_of_le_of_lt (Nat.zero_le _) clsRow))
theorem clsKT : Try.prog.keyType 86 = true := by kernel_rfl
theorem clsCells : Try.prog.cellsOf 86 = 2 := by kernel_rfl
theorem clsCB : Try.prog.cellsOf 4 = 1 := by kernel_rfl
theorem clsCI : Try.prog.cellsOf 3 = 1 := by kernel_rfl
def keyC (c : Nat × Int) : Lit := .string (keyBytes [.bool (c.1 == 1), .int .i64 c.2])
theorem clsLits (o : Bool) (u : Int) (hu : (Lit.int .i64 u).wf = true) (m : Nat) : Try.prog.keyLits (m + 1 + 1) 86 [.bool o, .int .i64 u] = some [.bool o, .int .i64 u] := by
  unfold Program.keyLits
  simp only [Try.underlying86]
  rw [if_pos ⟨by rw [clsCells]; rfl, by simp⟩]
  simp only [List.mapM_cons, List.mapM_nil]
  simp [Program.keyLits, Try.underlying4, Try.underlying3, hu, clsCB, clsCI]
theorem key_cls (c : Nat × Int) (hu : (Lit.int .i64 c.2).wf = true) : keyOf Try.prog 86 (clsT c) = some (keyC c) := by
  obtain ⟨m, hm⟩ := clsSize
  unfold keyOf keyC clsT
  simp only [Try.underlying86]
  rw [if_pos (by rw [clsKT]; simp [Value.formed, Try.underlying86, clsCells]), hm]
  simp only [Value.cells]
  rw [clsLits _ _ hu]
  rfl

theorem cls_small {n q : Int} (hn : n ≠ 0) (hq : plI q = true) : (cls n q).1 < 2 ∧ -1 ≤ (cls n q).2 ∧ (cls n q).2 ≤ 7 := by
  have hm := cls_mem hn hq
  unfold clsList at hm
  split at hm
  · simp only [List.mem_cons, List.not_mem_nil, or_false] at hm
    rcases hm with h | h <;> rw [h] <;> decide
  · split at hm
    · simp only [List.mem_cons, List.not_mem_nil, or_false] at hm
      rcases hm with h | h | h | h | h | h | h | h <;> rw [h] <;> decide
    · simp only [List.mem_cons, List.not_mem_nil, or_false] at hm
      rcases hm with h | h | h | h <;> rw [h] <;> decide

theorem clsT_inj {c d : Nat × Int} (hc : c.1 < 2) (hd : d.1 < 2) (h : clsT c = clsT d) : c = d := by
  obtain ⟨a, b⟩ := c
  obtain ⟨a', b'⟩ := d
  unfold clsT at h
  simp only [Value.agg.injEq, Array.mk.injEq, List.cons.injEq, Value.bool.injEq, Value.int.injEq, true_and, and_true] at h
  obtain ⟨h1, h2⟩ := h
  have : a = a' := by
    rw [Bool.eq_iff_iff, beq_iff_eq, beq_iff_eq] at h1
    simp only at hc hd
    omega
  rw [this, h2]
theorem keyC_ne {c d : Nat × Int} (hc : c.1 < 2) (hd : d.1 < 2) (hc2 : (Lit.int .i64 c.2).wf = true) (hd2 : (Lit.int .i64 d.2).wf = true) (h : c ≠ d) : keyC c ≠ keyC d := by
  intro e
  have k1 := key_cls c hc2
  have k2 := key_cls d hd2
  rw [← e] at k2
  exact h (clsT_inj hc hd (clsKeyed.inj k1 k2))

theorem plValid_any (q : Int) (w : World) : Calls Try.prog 78 #[.int .i64 q] w fun e w' => e = .returned (.bool (plI q)) ∧ Below w.heap.size w w' := by
  by_cases h : q = 0
  · subst h
    go_enter Try.func78, Try.ntmps78
    go_wp2
    go_ret
    exact ⟨rfl, Below.refl _ _⟩
  · have T : (q == 0) = false := by rw [beq_eq_false_iff_ne]; exact h
    have HP : Hid (plI q = primeI q) := by show _ = _; unfold plI; rw [decide_eq_false h, Bool.false_or]
    clear h
    go_enter Try.func78, Try.ntmps78
    go_wp2_with (go_at_call 97; refine (prime_any _ _).mono ?_; rintro e w' ⟨rfl, hb⟩)
    go_ret
    exact ⟨retB HP.out.symm, hb⟩

theorem cls_one {q : Int} (hq : plI q = true) : cls 1 q = (0, 1) := by
  rcases plI_cases hq with rfl | rfl | ⟨P, rfl, hP, h3, h5⟩
  · rfl
  · rfl
  · have h := names_cls hq
    rw [names_odd h3] at h
    have e : clsList (P : Int) = [(0, 1), (0, -1), (1, 1), (1, -1)] := by unfold clsList; rw [if_neg (by omega), if_neg (by omega)]
    rw [e] at h
    simp only [List.map_cons, List.cons.injEq] at h
    exact h.1

theorem plSquare_any (n q : Int) (h0 : n ≠ 0) (h1 : -1000000000 ≤ n) (h2 : n ≤ 1000000000) (hq : plI q = true) (w : World) :
    Calls Try.prog 95 #[.int .i64 q, .int .i64 n] w fun e w' => e = .returned (.bool (sqAt n q)) ∧ Below w.heap.size w w' := by
  have H0 := hid h0
  have HQ := hid hq
  have HO := hid (cls_one hq)
  have hs := cls_small h0 hq
  obtain ⟨c, hc⟩ : ∃ c, c = cls n q := ⟨_, rfl⟩
  have HS : Hid (sqAt n q = (((c.1 == 1) == false) && (c.2 == 1))) := hid (by
    unfold sqAt
    rw [← hc] at hs ⊢
    obtain ⟨a, b⟩ := c
    rw [Bool.eq_iff_iff, beq_iff_eq, Prod.mk.injEq, Bool.and_eq_true, beq_iff_eq, beq_eq_false_iff_ne, beq_iff_eq]
    simp only at hs
    constructor
    · rintro ⟨rfl, rfl⟩; exact ⟨by decide, rfl⟩
    · rintro ⟨h, rfl⟩; exact ⟨by omega, rfl⟩)
  have HC := hid hc
  clear h0 hq hs hc
  go_enter Try.func95, Try.ntmps95
  go_wp2_with fail
  go_at_call 99
  refine (class_any _ _ H0.out h1 h2 HQ.out _).mono ?_
  rintro e w1 ⟨rfl, hb1⟩
  go_wp2_with fail
  go_at_call 99
  refine (class_any _ _ (by decide) (by omega) (by omega) HQ.out _).mono ?_
  rintro e w2 ⟨rfl, hb2⟩
  rw [HO.out, ← HC.out]
  unfold clsT
  go_wp2
  all_goals (go_ret; exact ⟨retB (by rw [HS.out]; simp [*]), hb1.trans (hb2.mono hb1.size)⟩)

/-- behind K rounds the map has the names of the first K classes -/
def MapSays (D : DataW Unit) (q : Int) (K : Nat) : Prop := Maps.IsMap D ∧ ∀ i, i < K → D.atKey (keyC ((clsList q).getD i (0, 0))) (.lit (.int .i64 0)) = .lit (.int .i64 ((namesOf q).getD i 0))
theorem mapSays_step {D : DataW Unit} {q : Int} {K : Nat} (hq : plI q = true) (hK : K < (namesOf q).length) (h : MapSays D q K) : MapSays (D.put (keyC ((clsList q).getD K (0, 0))) (.lit (.int .i64 ((namesOf q).getD K 0)))) q (K + 1) := by
  have hl := names_len hq
  have hsm : ∀ i, i < (namesOf q).length → ((clsList q).getD i (0, 0)).1 < 2 ∧ (Lit.int .i64 ((clsList q).getD i (0, 0)).2).wf = true := fun i hi => by
    have e := cls_at hq i hi
    have hne := names_ne hq ((namesOf q).getD i 0) (by rw [getD_at _ _ hi]; exact List.getElem_mem _)
    have hs := cls_small hne hq
    rw [e] at hs
    exact ⟨hs.1, wf_small (by omega) (by omega)⟩
  refine ⟨h.1.put _ _, fun i hi => ?_⟩
  by_cases e : i = K
  · subst e
    exact Maps.atKey_put_same h.1 (clsKeyed.key (key_cls _ (hsm i hK).2)) _ _
  · have hiK : i < (namesOf q).length := by omega
    rw [Maps.atKey_put_other]
    · exact h.2 i (by omega)
    · refine keyC_ne (hsm i hiK).1 (hsm K hK).1 (hsm i hiK).2 (hsm K hK).2 ?_
      intro e2
      have hnd := List.pairwise_iff_getElem.1 (cls_nodup q)
      rw [getD_at _ _ (by omega), getD_at _ _ (by omega)] at e2
      exact hnd i K (by omega) (by omega) (by omega) e2
theorem ownsMap_of_block {P : Program} {k : TypeId} {R : Value → Option (DataW Unit × List MemPlace)} {w w' : World} {b n : Nat} {D : DataW Unit} (h : w.ownsMap P k R b n D) (e : w'.heap[b]? = w.heap[b]?) : w'.ownsMap P k R b n D := by
  obtain ⟨es, clock, hb, r⟩ := h
  exact ⟨es, clock, e.trans hb, r⟩
theorem cell_of_row {w : World} {b : Nat} {cs : Array Value} {t : TypeId} {fr : Nat × Nat} (h : w.heap[b]? = some (.cells cs t fr)) (i : Nat) (v : Value) (hv : cs[i]? = some v) : w.cell? ⟨b, i, none⟩ = some v := by
  simp [World.cell?, h, hv]

end Go.Proofs.Ytdclmjmefkgbbab
