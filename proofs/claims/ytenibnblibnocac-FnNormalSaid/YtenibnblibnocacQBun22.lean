/-
  Some texts in one file: ImpB ImpC ImpD.
-/
import Derived.Test.YtenibnblibnocacQImpA
import Derived.Maps.OwnOps
import Derived.Maps.Views
import Derived.DeepKeys4
/-! ImpB -/
set_option linter.unusedVariables false
namespace Go.Proofs.Ytenibnblibnocac
open Go.RowKit

theorem clsLaid : laidOutB Try.prog = true := by kernel_rfl
theorem clsWide : (match Try.prog.underlying 93 with | some (.array _ _) | some (.struct _) => true | _ => false) = true := by rw [Try.underlying93]
theorem clsRow : (93 : TypeId) < Try.prog.types.size := of_decide_eq_true (by kernel_rfl)
set_option maxRecDepth 100000 in
theorem clsKeyed : Maps.Keyed Try.prog 93 := Maps.Keyed.of_law (deep_law_laid clsLaid (m := 2) (by omega) clsRow (by kernel_rfl) clsWide)

theorem wf_small {u : Int} (h1 : -5000 ≤ u) (h2 : u ≤ 1000000000) : (Lit.int .i64 u).wf = true := by simp [Lit.wf, IntKind.min, IntKind.max, IntKind.signed, IntKind.bits]; omega

theorem clsSize : ∃ m, Try.prog.types.size = m + 1 := Nat.exists_eq_succ_of_ne_zero (Nat.pos_iff_ne_zero.1 (Nat.lt_of_le_of_lt (Nat.zero_le _) clsRow))
theorem clsKT : Try.prog.keyType 93 = true := by kernel_rfl
theorem clsCells : Try.prog.cellsOf 93 = 2 := by kernel_rfl
theorem clsCB : Try.prog.cellsOf 4 = 1 := by kernel_rfl
theorem clsCI : Try.prog.cellsOf 3 = 1 := by kernel_rfl
def keyC (c : Nat × Int) : Lit := .string (keyBytes [.bool (c.1 == 1), .int .i64 c.2])
theorem clsLits (o : Bool) (u : Int) (hu : (Lit.int .i64 u).wf = true) (m : Nat) : Try.prog.keyLits (m + 1 + 1) 93 [.bool o, .int .i64 u] = some [.bool o, .int .i64 u] := by
  unfold Program.keyLits
  simp only [Try.underlying93]
  rw [if_pos ⟨by rw [clsCells]; rfl, by simp⟩]
  simp only [List.mapM_cons, List.mapM_nil]
  simp [Program.keyLits, Try.underlying4, Try.underlying3, hu, clsCB, clsCI]
theorem key_cls (c : Nat × Int) (hu : (Lit.int .i64 c.2).wf = true) : keyOf Try.prog 93 (clsT c) = some (keyC c) := by
  obtain ⟨m, hm⟩ := clsSize
  unfold keyOf keyC clsT
  simp only [Try.underlying93]
  rw [if_pos (by rw [clsKT]; simp [Value.formed, Try.underlying93, clsCells]), hm]
  simp only [Value.cells]
  rw [clsLits _ _ hu]
  rfl

theorem cls_small {n q : Int} (hn : n ≠ 0) (hq : plI q = true) : (cls n q).1 < 2 ∧ -1 ≤ (cls n q).2 ∧ (cls n q).2 ≤ 7 := by
  have hm := cls_mem hn hq
  unfold clsList at hm
  split at hm
  · simp only [List.mem_cons, List.not_mem_nil, or_false] at hm
    rcases hm with h | h <;> rw [h] <;> decide
  · split at hm
    · simp only [List.mem_cons, List.not_mem_nil, or_false] at hm
      rcases hm with h | h | h | h | h | h | h | h <;> rw [h] <;> decide
    · simp only [List.mem_cons, List.not_mem_nil, or_false] at hm
      rcases hm with h | h | h | h <;> rw [h] <;> decide

theorem clsT_inj {c d : Nat × Int} (hc : c.1 < 2) (hd : d.1 < 2) (h : clsT c = clsT d) : c = d := by
  obtain ⟨a, b⟩ := c
  obtain ⟨a', b'⟩ := d
  unfold clsT at h
  simp only [Value.agg.injEq, Array.mk.injEq, List.cons.injEq, Value.bool.injEq, Value.int.injEq, true_and, and_true] at h
  obtain ⟨h1, h2⟩ := h
  have : a = a' := by
    rw [Bool.eq_iff_iff, beq_iff_eq, beq_iff_eq] at h1
    simp only at hc hd
    omega
  rw [this, h2]
theorem keyC_ne {c d : Nat × Int} (hc : c.1 < 2) (hd : d.1 < 2) (hc2 : (Lit.int .i64 c.2).wf = true) (hd2 : (Lit.int .i64 d.2).wf = true) (h : c ≠ d) : keyC c ≠ keyC d := by
  intro e
  have k1 := key_cls c hc2
  have k2 := key_cls d hd2
  rw [← e] at k2
  exact h (clsT_inj hc hd (clsKeyed.inj k1 k2))

theorem cls_one {q : Int} (hq : plI q = true) : cls 1 q = (0, 1) := by
  rcases plI_cases hq with rfl | rfl | ⟨P, rfl, hP, h3, h5⟩
  · rfl
  · rfl
  · have h := names_cls hq
    rw [names_odd h3] at h
    have e : clsList (P : Int) = [(0, 1), (0, -1), (1, 1), (1, -1)] := by unfold clsList; rw [if_neg (by omega), if_neg (by omega)]
    rw [e] at h
    simp only [List.map_cons, List.cons.injEq] at h
    exact h.1

theorem plSquare_any (n q : Int) (h0 : n ≠ 0) (h1 : -1000000000 ≤ n) (h2 : n ≤ 1000000000) (hq : plI q = true) (w : World) :
    Calls Try.prog 64 #[.int .i64 q, .int .i64 n] w fun e w' => e = .returned (.bool (sqAt n q)) ∧ Below w.heap.size w w' := by
  have H0 := hid h0
  have HQ := hid hq
  have HO := hid (cls_one hq)
  have hs := cls_small h0 hq
  obtain ⟨c, hc⟩ : ∃ c, c = cls n q := ⟨_, rfl⟩
  have HS : Hid (sqAt n q = (((c.1 == 1) == false) && (c.2 == 1))) := hid (by
    unfold sqAt
    rw [← hc] at hs ⊢
    obtain ⟨a, b⟩ := c
    rw [Bool.eq_iff_iff, beq_iff_eq, Prod.mk.injEq, Bool.and_eq_true, beq_iff_eq, beq_eq_false_iff_ne, beq_iff_eq]
    simp only at hs
    constructor
    · rintro ⟨rfl, rfl⟩; exact ⟨by decide, rfl⟩
    · rintro ⟨h, rfl⟩; exact ⟨by omega, rfl⟩)
  have HC := hid hc
  clear h0 hq hs hc
  go_enter Try.func64, Try.ntmps64
  go_wp2_with fail
  go_at_call 77
  refine (class_any _ _ H0.out h1 h2 HQ.out _).mono ?_
  rintro e w1 ⟨rfl, hb1⟩
  go_wp2_with fail
  go_at_call 77
  refine (class_any _ _ (by decide) (by omega) (by omega) HQ.out _).mono ?_
  rintro e w2 ⟨rfl, hb2⟩
  rw [HO.out, ← HC.out]
  unfold clsT
  go_wp2
  all_goals (go_ret; exact ⟨retB (by rw [HS.out]; simp [*]), hb1.trans (hb2.mono hb1.size)⟩)

/-- behind K rounds the map has the names of the first K classes -/
def MapSays (D : DataW Unit) (q : Int) (K : Nat) : Prop := Maps.IsMap D ∧ ∀ i, i < K → D.atKey (keyC ((clsList q).getD i (0, 0))) (.lit (.int .i64 0)) = .lit (.int .i64 ((namesOf q).getD i 0))
theorem mapSays_step {D : DataW Unit} {q : Int} {K : Nat} (hq : plI q = true) (hK : K < (namesOf q).length) (h : MapSays D q K) : MapSays (D.put (keyC ((clsList q).getD K (0, 0))) (.lit (.int .i64 ((namesOf q).getD K 0)))) q (K + 1) := by
  have hl := names_len hq
  have hsm : ∀ i, i < (namesOf q).length → ((clsList q).getD i (0, 0)).1 < 2 ∧ (Lit.int .i64 ((clsList q).getD i (0, 0)).2).wf = true := fun i hi => by
    have e := cls_at hq i hi
    have hne := names_ne hq ((namesOf q).getD i 0) (by rw [getD_at _ _ hi]; exact List.getElem_mem _)
    have hs := cls_small hne hq
    rw [e] at hs
    exact ⟨hs.1, wf_small (by omega) (by omega)⟩
  refine ⟨h.1.put _ _, fun i hi => ?_⟩
  by_cases e : i = K
  · subst e
    exact Maps.atKey_put_same h.1 (clsKeyed.key (key_cls _ (hsm i hK).2)) _ _
  · have hiK : i < (namesOf q).length := by omega
    rw [Maps.atKey_put_other]
    · exact h.2 i (by omega)
    · refine keyC_ne (hsm i hiK).1 (hsm K hK).1 (hsm i hiK).2 (hsm K hK).2 ?_
      intro e2
      have hnd := List.pairwise_iff_getElem.1 (cls_nodup q)
      rw [getD_at _ _ (by omega), getD_at _ _ (by omega)] at e2
      exact hnd i K (by omega) (by omega) (by omega) e2
theorem ownsMap_of_block {P : Program} {k : TypeId} {R : Value → Option (DataW Unit × List MemPlace)} {w w' : World} {b n : Nat} {D : DataW Unit} (h : w.ownsMap P k R b n D) (e : w'.heap[b]? = w.heap[b]?) : w'.ownsMap P k R b n D := by
  obtain ⟨es, clock, hb, r⟩ := h
  exact ⟨es, clock, e.trans hb, r⟩
theorem cell_of_row {w : World} {b : Nat} {cs : Array Value} {t : TypeId} {fr : Nat × Nat} (h : w.heap[b]? = some (.cells cs t fr)) (i : Nat) (v : Value) (hv : cs[i]? = some v) : w.cell? ⟨b, i, none⟩ = some v := by
  simp [World.cell?, h, hv]

end Go.Proofs.Ytenibnblibnocac

/-! ImpC -/
set_option linter.unusedVariables false
namespace Go.Proofs.Ytenibnblibnocac
open Go.RowKit

theorem Owns.low {W : World} {B C : Nat} {v : Value} {xs : List Int} (h : Owns W C v xs) (hb : B ≤ C) : Owns W B v xs := by
  obtain ⟨h1, h2⟩ := h
  refine ⟨h1, ?_⟩
  rcases h2 with h2 | ⟨g, cap, cur, hv, hg, r⟩
  · exact .inl h2
  · exact .inr ⟨g, cap, cur, hv, Nat.le_trans hb hg, r⟩
theorem factB_bd {n : Int} (h : factB n = true) : n ≠ 0 ∧ -5000 ≤ n ∧ n ≤ 5000 := by
  rcases factB_cases n with ⟨h1, h2, h0, _, _⟩ | ⟨_, e⟩ | ⟨_, _, e⟩
  · exact ⟨h0, h1, h2⟩
  · rw [h] at e; cases e
  · rw [h] at e; cases e

end Go.Proofs.Ytenibnblibnocac

/-! ImpD -/
set_option linter.unusedVariables false
namespace Go.Proofs.Ytenibnblibnocac
open Go.RowKit Go.Shelf
attribute [local go_sem] Oper.semAt_some

def plcs (l : List Nat) : List Int := [0, 2] ++ (natsI l).filter (fun x => decide (2 < x))
theorem plcs_yes {l : List Nat} {x : Nat} (h : 2 < x) : plcs (l ++ [x]) = plcs l ++ [(x : Int)] := by
  unfold plcs
  rw [natsI_snoc, List.filter_append, List.filter_cons, if_pos (by rw [decide_eq_true_eq]; omega), List.append_assoc]
  rfl
theorem plcs_no {l : List Nat} {x : Nat} (h : ¬ 2 < x) : plcs (l ++ [x]) = plcs l := by
  unfold plcs
  rw [natsI_snoc, List.filter_append, List.filter_cons, if_neg (by rw [decide_eq_true_eq]; omega), List.filter_nil, List.append_nil]
theorem plcs_len (l : List Nat) : (plcs l).length ≤ l.length + 2 := by
  unfold plcs
  have h3 := List.length_filter_le (fun x : Int => decide (2 < x)) (natsI l)
  rw [natsI_len] at h3
  rw [List.length_append]
  simp only [List.length_cons, List.length_nil]
  omega
theorem fsts_len (l : List PP) : (fsts l).length = l.length := by unfold fsts; rw [List.length_map]

set_option maxRecDepth 100000 in
set_option maxHeartbeats 2000000 in
theorem placesOf_any (n : Int) (h0 : n ≠ 0) (a1 : -5000 ≤ n) (a2 : n ≤ 5000) (w : World) :
    Calls Try.prog 42 #[.int .i64 n] w fun e w' => ∃ v, e = .returned v ∧ Owns w' w.heap.size v (placesOf n) ∧ Below w.heap.size w w' := by
  obtain ⟨i0, hi, hz0, hz1, hz2⟩ := info_parts infoInt
  have HPL : Hid (placesOf n = plcs ((ppow n.natAbs).map (·.1))) := hid (by unfold plcs placesOf; rw [plist_eq])
  obtain ⟨v0, hv0⟩ : ∃ v0 : Value, v0 = .slice (some ⟨w.heap.size, 0, none⟩) 2 2 := ⟨_, rfl⟩
  have hr0 : (w.alloc (.cells #[.int .i64 0, .int .i64 2] 3)).ownsRow w.heap.size 3 1 v0 2 [.int .i64 0, .int .i64 2] := by
    rw [hv0]; exact World.ownsRow_lit w #[.int .i64 0, .int .i64 2] 2 (Nat.le_refl _) (by unfold maxLen; omega) rfl
  have hB0 : Below w.heap.size w (((w.alloc (.cells #[.int .i64 0, .int .i64 2] 3)).alloc (.cells #[v0] 23)).alloc (.cells #[.int .i64 n] 52)) := (((Below.refl _ _).alloc (Nat.le_refl _) _).alloc (by simp) _).alloc (by simp; omega) _
  have bO := (Boxed.new (w.alloc (.cells #[.int .i64 0, .int .i64 2] 3)) 23 v0).alloc (.cells #[.int .i64 n] 52)
  have bN := Boxed.new ((w.alloc (.cells #[.int .i64 0, .int .i64 2] 3)).alloc (.cells #[v0] 23)) 52 (.int .i64 n)
  simp only [World.size_alloc] at bN bO
  have hrN := (hr0.alloc (.cells #[v0] 23)).alloc (.cells #[.int .i64 n] 52)
  have H0 := hid h0
  subst hv0
  clear h0 hr0
  refine (callsIn_wide (n := 5)).1 ?_
  refine callsIn_of_wp_marks Try.func42 rfl trivial ?_ rfl
  simp only [Try.ntmps42, List.size_toArray, List.length_cons, List.length_nil, Nat.reduceAdd, Nat.reduceSub, Array.replicate_succ, Array.replicate_zero, List.push_toArray, List.append_toArray, List.nil_append, List.cons_append]
  gi_wp2_with (refine ⟨trivial, ?_⟩; gi_at_call 63; refine (callsIn_wide.2 (pp_make _ _)).mono ?_; rintro e w' ⟨rfl, rfl⟩)
  refine wpIn_rangeFunc_ownG rfl (by omega) (gf := 75) (lb := #[.pointer (some ⟨w.heap.size + 1 + 1, 0, none⟩)]) rfl trivial (enters_of Try.func75 (by kernel_rfl) rfl)
    (pp_stops _ (w.heap.size + 1 + 1) n H0.out (by omega) (by omega) _ (by simp) bN.cell) walksK_t walksK_b (Below.refl _ _) (fun _ => rfl)
    (fun pre W => (∃ v, Boxed W (w.heap.size + 1) 23 v ∧ W.ownsRow w.heap.size 3 1 v (plcs (fsts pre)).length ((plcs (fsts pre)).map (Value.int .i64)) ∧ True) ∧ Below w.heap.size w W)
    (fun _ _ _ => False)
    (OwnFrom.and (Own.from (holdsRow_own w.heap.size (w.heap.size + 1) 23 3 1 (fun pre => (plcs (fsts pre)).length) (fun pre => (plcs (fsts pre)).map (Value.int .i64)) (fun _ _ => True)) _) (ownFrom_below (Nat.le_refl _) (by simp; omega)))
    (fun _ _ _ _ _ hs _ _ => hs)
    ⟨⟨_, bO, hrN, trivial⟩, hB0⟩ ?a1 ?assign ?body ?done ?stop
  case assign =>
    intro l x W K hK
    gi_wp2
    exact hK
  case body =>
    rintro l pre x W ⟨⟨v, hv, hrow, _⟩, hB⟩ hlt
    have hc := hv.cell
    have hpl := ppow_len n.natAbs
    have hll := plcs_len (fsts pre)
    rw [fsts_len] at hll
    by_cases hx : 2 < x.1.1
    · have hxi : (2 : Int) < (x.1.1 : Int) := by omega
      have HX := hid hx
      clear hx
      gi_wp2_with (gi_at_builtin; refine wpListIn_append_own _ rfl _ _ 23 rfl w.heap.size 3 i0 (.int .i64 0) 1 8 Try.underlying23 hi hz0 hz1 hz2 rfl (by decide) _ _ _ rfl (hrow.alloc _) ⟨W.heap.size, 0, none⟩ 1 1 [.int .i64 x.1.1] rfl rfl (cell_one_new _ _ _) (by simp [Value.oneCell']) (by unfold maxLen; omega) (by omega) (by have := hB.size; simp; omega) ?_; intro v' w1 hown' hgrow _; obtain ⟨g', cap', rfl⟩ := ownsRow_succ hown'; obtain ⟨hv1, hv2, hr2, hk2, hb2⟩ := hv.appended (by decide) hrow hB.size (by omega) hown' hgrow; have hc1 := hv1.cell; have hf1 := hv1.frozen)
      exact ⟨hk2.from _, hk2.walks, ⟨_, hv2, by rw [fsts_snoc, plcs_yes HX.out]; simpa using hr2, trivial⟩, hB.trans hb2⟩
    · have hxi : ¬ (2 : Int) < (x.1.1 : Int) := by omega
      have HX := hid hx
      clear hx
      gi_wp2
      exact ⟨KeepsFrom.refl _ _, KeepsWalks.refl _, ⟨v, hv, by rw [fsts_snoc, plcs_no HX.out]; exact hrow⟩, hB⟩
  case done =>
    rintro D ys W hD hS ⟨⟨v, hv, hrow, _⟩, hB⟩ hK
    have hc := hv.cell
    rw [fsts_all hS] at hrow
    have HP2 := HPL
    gi_wp2
    refine ⟨by simp, .inl ⟨_, _, rfl, run_takeDeferred hK, ?_⟩⟩
    refine ⟨_, results_tmp rfl _ _ _, ?_⟩
    exact ⟨v, rfl, by unfold Owns; rw [HPL.out]; exact ownsRow_putObj hrow _ hK rfl, hB.trans (belowK_b (w := w) (Nat.le_refl _) W D _ _ (by simp at hD; omega) hK rfl rfl)⟩
  case stop =>
    rintro D c pre W _ _ h _
    exact h.elim

end Go.Proofs.Ytenibnblibnocac
