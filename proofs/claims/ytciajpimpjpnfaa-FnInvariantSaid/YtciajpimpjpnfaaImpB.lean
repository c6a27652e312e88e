/-
  Contracts of the program's chapter 2: places, local squares, names (a map from classes to names).
-/
import Derived.Test.YtciajpimpjpnfaaBun30
import Derived.Maps.OwnOps
import Derived.Maps.Views
import Derived.DeepKeys4
set_option linter.unusedVariables false
namespace Go.Proofs.Ytciajpimpjpnfaa
open Go.RowKit

theorem clsLaid : laidOutB Try.prog = true := by kernel_rfl
theorem clsWide : (match Try.prog.underlying 76 with | some (.array _ _) | some (.struct _) => true | _ => false) = true := by rw [Try.underlying76]
theorem clsRow : (76 : TypeId) < Try.prog.types.size := of_decide_eq_true (by kernel_rfl)
set_option maxRecDepth 100000 in
theorem clsKeyed : Maps.Keyed Try.prog 76 := Maps.Keyed.of_law (deep_law_laid clsLaid (m := 2) (by omega) clsRow (by kernel_rfl) clsWide)

theorem wf_small {u : Int} (h1 : -5000 ≤ u) (h2 : u ≤ 1000000000) : (Lit.int .i64 u).wf = true := by simp [Lit.wf, IntKind.min, IntKind.max, IntKind.signed, IntKind.bits]; omega

theorem clsSize : ∃ m, Try.prog.types.size = m + 1 := Nat.exists_eq_succ_of_ne_zero (Nat.pos_iff_ne_zero.1 (Nat.lt_of_le_of_lt (Nat.zero_le _) clsRow))
theorem clsKT : Try.prog.keyType 76 = true := by kernel_rfl
theorem clsCells : Try.prog.cellsOf 76 = 2 := by kernel_rfl
theorem clsCB : Try.prog.cellsOf 4 = 1 := by kernel_rfl
theorem clsCI : Try.prog.cellsOf 3 = 1 := by kernel_rfl
def keyC (c : Nat × Int) : Lit := .string (keyBytes [.bool (c.1 == 1), .int .i64 c.2])
theorem clsLits (o : Bool) (u : Int) (hu : (Lit.int .i64 u).wf = true) (m : Nat) : Try.prog.keyLits (m + 1 + 1) 76 [.bool o, .int .i64 u] = some [.bool o, .int .i64 u] := by
  unfold Program.keyLits
  simp only [Try.underlying76]
  rw [if_pos ⟨by rw [clsCells]; rfl, by simp⟩]
  simp only [List.mapM_cons, List.mapM_nil]
  simp [Program.keyLits, Try.underlying4, Try.underlying3, hu, clsCB, clsCI]
theorem key_cls (c : Nat × Int) (hu : (Lit.int .i64 c.2).wf = true) : keyOf Try.prog 76 (clsT c) = some (keyC c) := by
  obtain ⟨m, hm⟩ := clsSize
  unfold keyOf keyC clsT
  simp only [Try.underlying76]
  rw [if_pos (by rw [clsKT]; simp [Value.formed, Try.underlying76, clsCells]), hm]
  simp only [Value.cells]
  rw [clsLits _ _ hu]
  rfl

theorem cls_small {n q : Int} (hn : n ≠ 0) (hq : plI q = true) : (cls n q).1 < 2 ∧ -1 ≤ (cls n q).2 ∧ (cls n q).2 ≤ 7 := by
  have hm := cls_mem hn hq
  unfold clsList at hm
  split at hm
  · simp only [List.mem_cons, List.not_mem_nil, or_false] at hm
    rcases hm with h | h <;> rw [h] <;> decide
  · split at hm
    · simp only [List.mem_cons, List.not_mem_nil, or_false] at hm
      rcases hm with h | h | h | h | h | h | h | h <;> rw [h] <;> decide
    · simp only [List.mem_cons, List.not_mem_nil, or_false] at hm
      rcases hm with h | h | h | h <;> rw [h] <;> decide

theorem clsT_inj {c d : Nat × Int} (hc : c.1 < 2) (hd : d.1 < 2) (h : clsT c = clsT d) : c = d := by
  obtain ⟨a, b⟩ := c
  obtain ⟨a', b'⟩ := d
  unfold clsT at h
  simp only [Value.agg.injEq, Array.mk.injEq, List.cons.injEq, Value.bool.injEq, Value.int.injEq, true_and, and_true] at h
  obtain ⟨h1, h2⟩ := h
  have : a = a' := by
    rw [Bool.eq_iff_iff, beq_iff_eq, beq_iff_eq] at h1
    simp only at hc hd
    omega
  rw [this, h2]
theorem keyC_ne {c d : Nat × Int} (hc : c.1 < 2) (hd : d.1 < 2) (hc2 : (Lit.int .i64 c.2).wf = true) (hd2 : (Lit.int .i64 d.2).wf = true) (h : c ≠ d) : keyC c ≠ keyC d := by
  intro e
  have k1 := key_cls c hc2
  have k2 := key_cls d hd2
  rw [← e] at k2
  exact h (clsT_inj hc hd (clsKeyed.inj k1 k2))

theorem plValid_any (q : Int) (w : World) : Calls Try.prog 61 #[.int .i64 q] w fun e w' => e = .returned (.bool (plI q)) ∧ Below w.heap.size w w' := by
  by_cases h : q = 0
  · subst h
    go_enter Try.func61, Try.ntmps61
    go_wp2
    go_ret
    exact ⟨rfl, Below.refl _ _⟩
  · have T : (q == 0) = false := by rw [beq_eq_false_iff_ne]; exact h
    have HP : Hid (plI q = primeI q) := by show _ = _; unfold plI; rw [decide_eq_false h, Bool.false_or]
    clear h
    go_enter Try.func61, Try.ntmps61
    go_wp2_with (go_at_call 86; refine (prime_any _ _).mono ?_; rintro e w' ⟨rfl, hb⟩)
    go_ret
    exact ⟨retB HP.out.symm, hb⟩

theorem cls_one {q : Int} (hq : plI q = true) : cls 1 q = (0, 1) := by
  rcases plI_cases hq with rfl | rfl | ⟨P, rfl, hP, h3, h5⟩
  · rfl
  · rfl
  · have h := names_cls hq
    rw [names_odd h3] at h
    have e : clsList (P : Int) = [(0, 1), (0, -1), (1, 1), (1, -1)] := by unfold clsList; rw [if_neg (by omega), if_neg (by omega)]
    rw [e] at h
    simp only [List.map_cons, List.cons.injEq] at h
    exact h.1

theorem plSquare_any (n q : Int) (h0 : n ≠ 0) (h1 : -1000000000 ≤ n) (h2 : n ≤ 1000000000) (hq : plI q = true) (w : World) :
    Calls Try.prog 62 #[.int .i64 q, .int .i64 n] w fun e w' => e = .returned (.bool (sqAt n q)) ∧ Below w.heap.size w w' := by
  have H0 := hid h0
  have HQ := hid hq
  have HO := hid (cls_one hq)
  have hs := cls_small h0 hq
  obtain ⟨c, hc⟩ : ∃ c, c = cls n q := ⟨_, rfl⟩
  have HS : Hid (sqAt n q = (((c.1 == 1) == false) && (c.2 == 1))) := hid (by
    unfold sqAt
    rw [← hc] at hs ⊢
    obtain ⟨a, b⟩ := c
    rw [Bool.eq_iff_iff, beq_iff_eq, Prod.mk.injEq, Bool.and_eq_true, beq_iff_eq, beq_eq_false_iff_ne, beq_iff_eq]
    simp only at hs
    constructor
    · rintro ⟨rfl, rfl⟩; exact ⟨by decide, rfl⟩
    · rintro ⟨h, rfl⟩; exact ⟨by omega, rfl⟩)
  have HC := hid hc
  clear h0 hq hs hc
  go_enter Try.func62, Try.ntmps62
  go_wp2_with fail
  go_at_call 78
  refine (class_any _ _ H0.out h1 h2 HQ.out _).mono ?_
  rintro e w1 ⟨rfl, hb1⟩
  go_wp2_with fail
  go_at_call 78
  refine (class_any _ _ (by decide) (by omega) (by omega) HQ.out _).mono ?_
  rintro e w2 ⟨rfl, hb2⟩
  rw [HO.out, ← HC.out]
  unfold clsT
  go_wp2
  all_goals (go_ret; exact ⟨retB (by rw [HS.out]; simp [*]), hb1.trans (hb2.mono hb1.size)⟩)

theorem plNames_any (q : Int) (hq : plI q = true) (w : World) : Calls Try.prog 102 #[.int .i64 q] w fun e w' => ∃ v, e = .returned v ∧ Owns w' w.heap.size v (namesOf q) ∧ Below w.heap.size w w' := by
  rcases plI_cases hq with rfl | rfl | ⟨P, rfl, hP, h3, h5⟩
  · go_enter Try.func102, Try.ntmps102
    go_wp2
    go_ret
    exact ⟨_, rfl, owns_lit [1, -1] _ rfl (Nat.le_refl _) (by unfold maxLen; simp), (Below.refl _ _).alloc (Nat.le_refl _) _⟩
  · go_enter Try.func102, Try.ntmps102
    go_wp2
    go_ret
    exact ⟨_, rfl, owns_lit [1, 3, 5, 7, 2, 6, 10, 14] _ rfl (Nat.le_refl _) (by unfold maxLen; simp), (Below.refl _ _).alloc (Nat.le_refl _) _⟩
  · obtain ⟨s1, s2, s3, s4, _⟩ := noneF_spec hP h3
    have HN := hid (names_odd h3)
    obtain ⟨u, hu⟩ : ∃ u, u = noneF P := ⟨_, rfl⟩
    have T2 : ((P : Int) == 2) = false := by rw [beq_eq_false_iff_ne]; omega
    have T0 : ((P : Int) == 0) = false := by rw [beq_eq_false_iff_ne]; omega
    have hm := Nat.mul_le_mul h5 (show u ≤ 63 by omega)
    have m1 : (0 : Int) ≤ (P : Int) * (u : Int) := by rw [← Int.natCast_mul]; exact Int.natCast_nonneg _
    have m2 : (P : Int) * (u : Int) ≤ 315000 := by rw [← Int.natCast_mul]; omega
    have HU : Hid (nonV (P : Int) = .tuple #[.int .i64 (u : Nat), .bool true]) := hid (by rw [nonV_yes (oddP_nat hP h3), Int.toNat_natCast, hu])
    have HL : Hid (namesOf (P : Int) = [1, (u : Int), (P : Int), (P : Int) * (u : Int)]) := hid (by rw [HN.out, hu])
    clear hu s4 hq hm
    go_enter Try.func102, Try.ntmps102
    go_wp2_with (go_at_call 118; refine (nonResidue_any _ _).mono ?_; rw [HU.out]; rintro e w' ⟨rfl, hb⟩)
    go_ret
    exact ⟨_, rfl, by rw [HL.out]; exact owns_lit [1, (u : Int), (P : Int), (P : Int) * (u : Int)] _ rfl hb.size (by unfold maxLen; simp), hb.alloc hb.size _⟩

/-- behind K rounds the map has the names of the first K classes -/
def MapSays (D : DataW Unit) (q : Int) (K : Nat) : Prop := Maps.IsMap D ∧ ∀ i, i < K → D.atKey (keyC ((clsList q).getD i (0, 0))) (.lit (.int .i64 0)) = .lit (.int .i64 ((namesOf q).getD i 0))
theorem mapSays_step {D : DataW Unit} {q : Int} {K : Nat} (hq : plI q = true) (hK : K < (namesOf q).length) (h : MapSays D q K) : MapSays (D.put (keyC ((clsList q).getD K (0, 0))) (.lit (.int .i64 ((namesOf q).getD K 0)))) q (K + 1) := by
  have hl := names_len hq
  have hsm : ∀ i, i < (namesOf q).length → ((clsList q).getD i (0, 0)).1 < 2 ∧ (Lit.int .i64 ((clsList q).getD i (0, 0)).2).wf = true := fun i hi => by
    have e := cls_at hq i hi
    have hne := names_ne hq ((namesOf q).getD i 0) (by rw [getD_at _ _ hi]; exact List.getElem_mem _)
    have hs := cls_small hne hq
    rw [e] at hs
    exact ⟨hs.1, wf_small (by omega) (by omega)⟩
  refine ⟨h.1.put _ _, fun i hi => ?_⟩
  by_cases e : i = K
  · subst e
    exact Maps.atKey_put_same h.1 (clsKeyed.key (key_cls _ (hsm i hK).2)) _ _
  · have hiK : i < (namesOf q).length := by omega
    rw [Maps.atKey_put_other]
    · exact h.2 i (by omega)
    · refine keyC_ne (hsm i hiK).1 (hsm K hK).1 (hsm i hiK).2 (hsm K hK).2 ?_
      intro e2
      have hnd := List.pairwise_iff_getElem.1 (cls_nodup q)
      rw [getD_at _ _ (by omega), getD_at _ _ (by omega)] at e2
      exact hnd i K (by omega) (by omega) (by omega) e2
theorem ownsMap_of_block {P : Program} {k : TypeId} {R : Value → Option (DataW Unit × List MemPlace)} {w w' : World} {b n : Nat} {D : DataW Unit} (h : w.ownsMap P k R b n D) (e : w'.heap[b]? = w.heap[b]?) : w'.ownsMap P k R b n D := by
  obtain ⟨es, clock, hb, r⟩ := h
  exact ⟨es, clock, e.trans hb, r⟩
theorem cell_of_row {w : World} {b : Nat} {cs : Array Value} {t : TypeId} {fr : Nat × Nat} (h : w.heap[b]? = some (.cells cs t fr)) (i : Nat) (v : Value) (hv : cs[i]? = some v) : w.cell? ⟨b, i, none⟩ = some v := by
  simp [World.cell?, h, hv]

set_option maxRecDepth 100000 in
set_option maxHeartbeats 1000000 in
theorem nameOf_any (n q : Int) (h0 : n ≠ 0) (hq : plI q = true) (w : World) :
    Calls Try.prog 77 #[.int .i64 q, clsT (cls n q)] w fun e w' => e = .returned (.int .i64 (nameOf n q)) ∧ Below w.heap.size w w' := by
  have HQ := hid hq
  have HI := hid (clsIdx_lt h0 hq)
  have HAT := hid (idx_at h0 hq)
  have hs := cls_small h0 hq
  have HW := hid (key_cls (cls n q) (wf_small (by omega) (by omega)))
  obtain ⟨c, hc⟩ : ∃ c, c = cls n q := ⟨_, rfl⟩
  have HNB := hid (names_bd hq)
  have HNZ := hid (names_ne hq)
  have hlen : (namesOf q).length ≤ 8 := by
    rw [names_len hq]; unfold clsList
    split
    · simp
    · split <;> simp
  rw [← hc] at HAT HW ⊢
  have HC := hid hc
  clear hq hs hc h0
  go_enter Try.func77, Try.ntmps77
  unfold clsT
  have hmk : ∀ wx, (Instr.makeMap 98 none).run Try.prog wx = .ok (.map (some wx.heap.size)) (wx.alloc (.map #[] 0)) := fun wx => run_makeMap _ _
  go_wp2_with (go_at_call 102; refine (plNames_any _ HQ.out _).mono ?_; rintro e w1 ⟨v, rfl, ho, hb⟩)
  have hs1 := hb.size
  simp only [World.size_alloc] at hs1
  have e0 := (hb.block w.heap.size (by simp; omega)).trans (heap_alloc2_old _ _ _)
  have HBX := hid e0
  have HOM := hid (ownsMap_of_block ((World.ownsMap_made (w.alloc (.cells #[.bool (c.1 == 1), .int .i64 c.2] 76)) Try.prog 76 (plainElem (H := Unit) Try.prog 3))) (hb.block _ (by simp)))
  simp only [World.size_alloc] at HOM
  have HB1 := hid (((((Below.refl w.heap.size w).alloc (Nat.le_refl _) (.cells #[.bool (c.1 == 1), .int .i64 c.2] 76)).alloc (by simp) (.map #[] 0)).trans (hb.mono (by simp; omega))))
  have HG := hid ho.ge
  have HLT := hid ho.lt
  obtain ⟨a, cap, rfl, hform⟩ := ho.rd.form
  obtain ⟨bn, o, rfl, hml, hcells⟩ := hform (by have := HI.out; omega)
  have hbn := HG.out bn rfl
  have hbn2 := HLT.out bn rfl
  simp only [World.size_alloc] at hbn
  have HCL := hid hcells
  clear hb ho e0 hform hcells HG HLT
  unfold maxLen at hml
  go_wp2_with fail
  simp only [Builtin.len_]
  go_simp
  go_wp2_with fail
  go_loopw [12] (fun si wr => ∃ K : Nat, si = .int .i64 K ∧ K ≤ (namesOf q).length ∧ (∃ D : DataW Unit, Hid (wr.ownsMap Try.prog 76 (plainElem Try.prog 3) (w.heap.size + 1) K D) ∧ Hid (MapSays D q K)) ∧
      Hid (wr.heap[w.heap.size]? = w1.heap[w.heap.size]?) ∧ Hid (wr.heap[bn]? = w1.heap[bn]?) ∧ w1.heap.size ≤ wr.heap.size ∧ Hid (Below w.heap.size w wr)) (fun si _ => (namesOf q).length - (intOf si).toNat)
  case atStart => exact ⟨0, rfl, by omega, ⟨.map [], HOM, hid ⟨Maps.isMap_empty, fun i hi => by omega⟩⟩, hid rfl, hid rfl, Nat.le_refl _, HB1⟩
  case round =>
    obtain ⟨K, rfl, hK, ⟨D, HD, HM⟩, HX, HN, hsz, HB⟩ := hrel
    rename World => wA
    by_cases hlt : K < (namesOf q).length
    · have hcell := (World.cell?_of_block HN.out).trans (HCL.out K hlt)
      have hmem : (namesOf q).getD K 0 ∈ namesOf q := by rw [getD_at _ _ hlt]; exact List.getElem_mem _
      have hbd := HNB.out _ hmem
      have HZ := hid (HNZ.out _ hmem)
      have HCA := hid (cls_at HQ.out K hlt)
      have HST := hid (mapSays_step HQ.out hlt HM.out)
      obtain ⟨m, hm⟩ : ∃ m, m = (namesOf q).getD K 0 := ⟨_, rfl⟩
      rw [← hm] at hcell hbd HZ HCA HST
      have hs := cls_small HZ.out HQ.out
      have HKY := hid (key_cls (cls m q) (wf_small (by omega) (by omega)))
      have HEL := hid (plainElem_int (H := Unit) (P := Try.prog) Try.underlying3 (wf_small (show -5000 ≤ m by omega) (show m ≤ 1000000000 by omega)))
      have b1 := hbd.1
      have b2 := hbd.2
      have hi0 : (K : Int) < ((namesOf q).length : Int) := by omega
      clear hm hmem hbd hs
      go_wp2_with fail
      go_at_call 78
      refine (class_any _ _ HZ.out (by omega) (by omega) HQ.out _).mono ?_
      rintro e w2 ⟨rfl, hb2⟩
      have hs2 := hb2.size
      have HD2 := hid (ownsMap_of_block HD.out (hb2.block _ (by omega)))
      have HX2 := hid ((hb2.block w.heap.size (by omega)).trans HX.out)
      have HN2 := hid ((hb2.block bn (by omega)).trans HN.out)
      have HB2 := hid (HB.out.trans (hb2.mono HB.out.size))
      rw [HCA.out] at HKY ⊢
      clear hb2
      go_wp2_with (at_mapUpdate; refine wpList_mapUpdate_own _ rfl _ _ _ 98 rfl 76 3 clsKeyed Try.underlying98 _ (w.heap.size + 1) K D rfl HD2.out (by unfold maxLen; omega) _ _ (keyC ((clsList q).getD K (0, 0))) rfl rfl HKY.out _ [] HEL.out ?_; intro w3 hown3 hgrow3)
      have hs3 := hgrow3.size
      go_round
      case measure => simp only [intOf]; omega
      case rel => exact ⟨K + 1, by go_num, by omega, ⟨_, hid hown3, HST⟩, hid ((hgrow3.block _ (by omega) (by simp)).trans HX2.out), hid ((hgrow3.block bn (by omega) (by simp; omega)).trans HN2.out), by omega, hid (HB2.out.grown hgrow3 (by omega) (fun k e => by cases e; omega))⟩
    · obtain rfl : K = (namesOf q).length := by omega
      have hx := HX.out.trans HBX.out
      have c0 := cell_of_row hx 0 _ rfl
      have c1 := cell_of_row hx 1 _ rfl
      have HAN := hid (HM.out.2 _ HI.out)
      rw [HAT.out] at HAN
      clear hlt hx
      go_wp2_with (at_lookup; refine wpList_lookup_own_int _ rfl _ _ 98 rfl 76 3 .i64 clsKeyed Try.underlying98 Try.underlying3 (by kernel_rfl) (w.heap.size + 1) _ D rfl HD.out (clsT c) (keyC c) rfl HW.out ?_; intro x hat hwc)
      have hx2 := hat.symm.trans HAN.out
      simp only [DataW.lit.injEq, Lit.int.injEq, true_and] at hx2
      go_ret
      exact ⟨retI (by rw [hx2]; rfl), HB.out⟩

end Go.Proofs.Ytciajpimpjpnfaa
