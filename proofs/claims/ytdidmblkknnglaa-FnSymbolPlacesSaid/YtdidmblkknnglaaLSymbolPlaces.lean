/-
  Proves: for every code: the symbol is -1 at an even number of places, both numbers are no local squares there, and the order does not matter.
  Conditions: none beyond the given statement's own.
-/
import Derived.Test.YtdidmblkknnglaaImpA
import Derived.Maps.OwnOps
import Derived.Maps.Views
import Derived.DeepKeys4
import Derived.Test.YtdidmblkknnglaaPlacesG
import Derived.Test.YtdidmblkknnglaaImp3A
import Derived.Test.YtdidmblkknnglaaVals3
import Derived.Test.YtdidmblkknnglaaRows
import Derived.Test.YtdidmblkknnglaaSmooth
import Derived.Test.YtdidmblkknnglaaLaw3
import Derived.Test.YtdidmblkknnglaaSym4
import Derived.Test.YtdidmblkknnglaaSymLaw
import Derived.Test.YtdidmblkknnglaaDraws3
import Derived.Test.YtdidmblkknnglaaLists
import Derived.Test.YtdidmblkknnglaaSame
import Derived.Test.YtdidmblkknnglaaRowWord
import Derived.Test.YtdidmblkknnglaaLawKit
import Derived.Test.YtdidmblkknnglaaRegion
import Derived.ProofKit
import Derived.OpenShut
import Derived.ShutString
import Derived.ChangeOld
set_option linter.unusedVariables false
namespace Go.Proofs.Ytdidmblkknnglaa
open Go.RowKit

theorem clsLaid : laidOutB Try.prog = true := by kernel_rfl
theorem clsWide : (match Try.prog.underlying 60 with | some (.array _ _) | some (.struct _) => true | _ => false) = true := by rw [Try.underlying60]
theorem clsRow : (60 : TypeId) < Try.prog.types.size := of_decide_eq_true (by kernel_rfl)
theorem clsKeyed : Maps.Keyed Try.prog 60 := Maps.Keyed.of_law (deep_law_laid clsLaid (m := 2) (by omega) clsRow (by kernel_rfl) clsWide)

theorem wf_small {u : Int} (h1 : -5000 ≤ u) (h2 : u ≤ 1000000000) : (Lit.int .i64 u).wf = true := by simp [Lit.wf, IntKind.min, IntKind.max, IntKind.signed, IntKind.bits]; omega

theorem clsSize : ∃ m, Try.prog.types.size = m + 1 := Nat.exists_eq_succ_of_ne_zero (Nat.pos_iff_ne_zero.1 (Nat.lt_of_le_of_lt (Nat.zero_le _) clsRow))
theorem clsKT : Try.prog.keyType 60 = true := by kernel_rfl
theorem clsCells : Try.prog.cellsOf 60 = 2 := by kernel_rfl
theorem clsCB : Try.prog.cellsOf 4 = 1 := by kernel_rfl
theorem clsCI : Try.prog.cellsOf 3 = 1 := by kernel_rfl
def keyC (c : Nat × Int) : Lit := .string (keyBytes [.bool (c.1 == 1), .int .i64 c.2])
theorem clsLits (o : Bool) (u : Int) (hu : (Lit.int .i64 u).wf = true) (m : Nat) : Try.prog.keyLits (m + 1 + 1) 60 [.bool o, .int .i64 u] = some [.bool o, .int .i64 u] := by
  unfold Program.keyLits
  simp only [Try.underlying60]
  rw [if_pos ⟨by rw [clsCells]; rfl, by simp⟩]
  simp only [List.mapM_cons, List.mapM_nil]
  simp [Program.keyLits, Try.underlying4, Try.underlying3, hu, clsCB, clsCI]
theorem key_cls (c : Nat × Int) (hu : (Lit.int .i64 c.2).wf = true) : keyOf Try.prog 60 (clsT c) = some (keyC c) := by
  obtain ⟨m, hm⟩ := clsSize
  unfold keyOf keyC clsT
  simp only [Try.underlying60]
  rw [if_pos (by rw [clsKT]; simp [Value.formed, Try.underlying60, clsCells]), hm]
  simp only [Value.cells]
  rw [clsLits _ _ hu]
  rfl

theorem cls_small {n q : Int} (hn : n ≠ 0) (hq : plI q = true) : (cls n q).1 < 2 ∧ -1 ≤ (cls n q).2 ∧ (cls n q).2 ≤ 7 := by
  have hm := cls_mem hn hq
  unfold clsList at hm
  split at hm
  · simp only [List.mem_cons, List.not_mem_nil, or_false] at hm
    rcases hm with h | h <;> rw [h] <;> decide
  · split at hm
    · simp only [List.mem_cons, List.not_mem_nil, or_false] at hm
      rcases hm with h | h | h | h | h | h | h | h <;> rw [h] <;> decide
    · simp only [List.mem_cons, List.not_mem_nil, or_false] at hm
      rcases hm with h | h | h | h <;> rw [h] <;> decide

theorem clsT_inj {c d : Nat × Int} (hc : c.1 < 2) (hd : d.1 < 2) (h : clsT c = clsT d) : c = d := by
  obtain ⟨a, b⟩ := c
  obtain ⟨a', b'⟩ := d
  unfold clsT at h
  simp only [Value.agg.injEq, Array.mk.injEq, List.cons.injEq, Value.bool.injEq, Value.int.injEq, true_and, and_true] at h
  obtain ⟨h1, h2⟩ := h
  have : a = a' := by
    rw [Bool.eq_iff_iff, beq_iff_eq, beq_iff_eq] at h1
    simp only at hc hd
    omega
  rw [this, h2]
theorem keyC_ne {c d : Nat × Int} (hc : c.1 < 2) (hd : d.1 < 2) (hc2 : (Lit.int .i64 c.2).wf = true) (hd2 : (Lit.int .i64 d.2).wf = true) (h : c ≠ d) : keyC c ≠ keyC d := by
  intro e
  have k1 := key_cls c hc2
  have k2 := key_cls d hd2
  rw [← e] at k2
  exact h (clsT_inj hc hd (clsKeyed.inj k1 k2))

theorem plValid_any (q : Int) (w : World) : Calls Try.prog 56 #[.int .i64 q] w fun e w' => e = .returned (.bool (plI q)) ∧ Below w.heap.size w w' := by
  by_cases h : q = 0
  · subst h
    go_enter Try.func56, Try.ntmps56
    go_wp2
    go_ret
    exact ⟨rfl, Below.refl _ _⟩
  · have T : (q == 0) = false := by rw [beq_eq_false_iff_ne]; exact h
    have HP : Hid (plI q = primeI q) := by show _ = _; unfold plI; rw [decide_eq_false h, Bool.false_or]
    clear h
    go_enter Try.func56, Try.ntmps56
    go_wp2_with (go_at_call 72; refine (prime_any _ _).mono ?_; rintro e w' ⟨rfl, hb⟩)
    go_ret
    exact ⟨retB HP.out.symm, hb⟩

theorem cls_one {q : Int} (hq : plI q = true) : cls 1 q = (0, 1) := by
  rcases plI_cases hq with rfl | rfl | ⟨P, rfl, hP, h3, h5⟩
  · rfl
  · rfl
  · have h := names_cls hq
    rw [names_odd h3] at h
    have e : clsList (P : Int) = [(0, 1), (0, -1), (1, 1), (1, -1)] := by unfold clsList; rw [if_neg (by omega), if_neg (by omega)]
    rw [e] at h
    simp only [List.map_cons, List.cons.injEq] at h
    exact h.1

theorem plSquare_any (n q : Int) (h0 : n ≠ 0) (h1 : -1000000000 ≤ n) (h2 : n ≤ 1000000000) (hq : plI q = true) (w : World) :
    Calls Try.prog 66 #[.int .i64 q, .int .i64 n] w fun e w' => e = .returned (.bool (sqAt n q)) ∧ Below w.heap.size w w' := by
  have H0 := hid h0
  have HQ := hid hq
  have HO := hid (cls_one hq)
  have hs := cls_small h0 hq
  obtain ⟨c, hc⟩ : ∃ c, c = cls n q := ⟨_, rfl⟩
  have HS : Hid (sqAt n q = (((c.1 == 1) == false) && (c.2 == 1))) := hid (by
    unfold sqAt
    rw [← hc] at hs ⊢
    obtain ⟨a, b⟩ := c
    rw [Bool.eq_iff_iff, beq_iff_eq, Prod.mk.injEq, Bool.and_eq_true, beq_iff_eq, beq_eq_false_iff_ne, beq_iff_eq]
    simp only at hs
    constructor
    · rintro ⟨rfl, rfl⟩; exact ⟨by decide, rfl⟩
    · rintro ⟨h, rfl⟩; exact ⟨by omega, rfl⟩)
  have HC := hid hc
  clear h0 hq hs hc
  go_enter Try.func66, Try.ntmps66
  go_wp2_with fail
  go_at_call 62
  refine (class_any _ _ H0.out h1 h2 HQ.out _).mono ?_
  rintro e w1 ⟨rfl, hb1⟩
  go_wp2_with fail
  go_at_call 62
  refine (class_any _ _ (by decide) (by omega) (by omega) HQ.out _).mono ?_
  rintro e w2 ⟨rfl, hb2⟩
  rw [HO.out, ← HC.out]
  unfold clsT
  go_wp2
  all_goals (go_ret; exact ⟨retB (by rw [HS.out]; simp [*]), hb1.trans (hb2.mono hb1.size)⟩)

theorem plNames_any (q : Int) (hq : plI q = true) (w : World) : Calls Try.prog 63 #[.int .i64 q] w fun e w' => ∃ v, e = .returned v ∧ Owns w' w.heap.size v (namesOf q) ∧ Below w.heap.size w w' := by
  rcases plI_cases hq with rfl | rfl | ⟨P, rfl, hP, h3, h5⟩
  · go_enter Try.func63, Try.ntmps63
    go_wp2
    go_ret
    exact ⟨_, rfl, owns_lit [1, -1] _ rfl (Nat.le_refl _) (by unfold maxLen; simp), (Below.refl _ _).alloc (Nat.le_refl _) _⟩
  · go_enter Try.func63, Try.ntmps63
    go_wp2
    go_ret
    exact ⟨_, rfl, owns_lit [1, 3, 5, 7, 2, 6, 10, 14] _ rfl (Nat.le_refl _) (by unfold maxLen; simp), (Below.refl _ _).alloc (Nat.le_refl _) _⟩
  · obtain ⟨s1, s2, s3, s4, _⟩ := noneF_spec hP h3
    have HN := hid (names_odd h3)
    obtain ⟨u, hu⟩ : ∃ u, u = noneF P := ⟨_, rfl⟩
    have T2 : ((P : Int) == 2) = false := by rw [beq_eq_false_iff_ne]; omega
    have T0 : ((P : Int) == 0) = false := by rw [beq_eq_false_iff_ne]; omega
    have hm := Nat.mul_le_mul h5 (show u ≤ 63 by omega)
    have m1 : (0 : Int) ≤ (P : Int) * (u : Int) := by rw [← Int.natCast_mul]; exact Int.natCast_nonneg _
    have m2 : (P : Int) * (u : Int) ≤ 315000 := by rw [← Int.natCast_mul]; omega
    have HU : Hid (nonV (P : Int) = .tuple #[.int .i64 (u : Nat), .bool true]) := hid (by rw [nonV_yes (oddP_nat hP h3), Int.toNat_natCast, hu])
    have HL : Hid (namesOf (P : Int) = [1, (u : Int), (P : Int), (P : Int) * (u : Int)]) := hid (by rw [HN.out, hu])
    clear hu s4 hq hm
    go_enter Try.func63, Try.ntmps63
    go_wp2_with (go_at_call 96; refine (nonResidue_any _ _).mono ?_; rw [HU.out]; rintro e w' ⟨rfl, hb⟩)
    go_ret
    exact ⟨_, rfl, by rw [HL.out]; exact owns_lit [1, (u : Int), (P : Int), (P : Int) * (u : Int)] _ rfl hb.size (by unfold maxLen; simp), hb.alloc hb.size _⟩

/-- behind K rounds the map has the names of the first K classes -/
def MapSays (D : DataW Unit) (q : Int) (K : Nat) : Prop := Maps.IsMap D ∧ ∀ i, i < K → D.atKey (keyC ((clsList q).getD i (0, 0))) (.lit (.int .i64 0)) = .lit (.int .i64 ((namesOf q).getD i 0))
theorem mapSays_step {D : DataW Unit} {q : Int} {K : Nat} (hq : plI q = true) (hK : K < (namesOf q).length) (h : MapSays D q K) : MapSays (D.put (keyC ((clsList q).getD K (0, 0))) (.lit (.int .i64 ((namesOf q).getD K 0)))) q (K + 1) := by
  have hl := names_len hq
  have hsm : ∀ i, i < (namesOf q).length → ((clsList q).getD i (0, 0)).1 < 2 ∧ (Lit.int .i64 ((clsList q).getD i (0, 0)).2).wf = true := fun i hi => by
    have e := cls_at hq i hi
    have hne := names_ne hq ((namesOf q).getD i 0) (by rw [getD_at _ _ hi]; exact List.getElem_mem _)
    have hs := cls_small hne hq
    rw [e] at hs
    exact ⟨hs.1, wf_small (by omega) (by omega)⟩
  refine ⟨h.1.put _ _, fun i hi => ?_⟩
  by_cases e : i = K
  · subst e
    exact Maps.atKey_put_same h.1 (clsKeyed.key (key_cls _ (hsm i hK).2)) _ _
  · have hiK : i < (namesOf q).length := by omega
    rw [Maps.atKey_put_other]
    · exact h.2 i (by omega)
    · refine keyC_ne (hsm i hiK).1 (hsm K hK).1 (hsm i hiK).2 (hsm K hK).2 ?_
      intro e2
      have hnd := List.pairwise_iff_getElem.1 (cls_nodup q)
      rw [getD_at _ _ (by omega), getD_at _ _ (by omega)] at e2
      exact hnd i K (by omega) (by omega) (by omega) e2
theorem ownsMap_of_block {P : Program} {k : TypeId} {R : Value → Option (DataW Unit × List MemPlace)} {w w' : World} {b n : Nat} {D : DataW Unit} (h : w.ownsMap P k R b n D) (e : w'.heap[b]? = w.heap[b]?) : w'.ownsMap P k R b n D := by
  obtain ⟨es, clock, hb, r⟩ := h
  exact ⟨es, clock, e.trans hb, r⟩
theorem cell_of_row {w : World} {b : Nat} {cs : Array Value} {t : TypeId} {fr : Nat × Nat} (h : w.heap[b]? = some (.cells cs t fr)) (i : Nat) (v : Value) (hv : cs[i]? = some v) : w.cell? ⟨b, i, none⟩ = some v := by
  simp [World.cell?, h, hv]

set_option maxRecDepth 100000 in
set_option maxHeartbeats 1000000 in
theorem nameOf_any (n q : Int) (h0 : n ≠ 0) (hq : plI q = true) (w : World) :
    Calls Try.prog 61 #[.int .i64 q, clsT (cls n q)] w fun e w' => e = .returned (.int .i64 (nameOf n q)) ∧ Below w.heap.size w w' := by
  have HQ := hid hq
  have HI := hid (clsIdx_lt h0 hq)
  have HAT := hid (idx_at h0 hq)
  have hs := cls_small h0 hq
  have HW := hid (key_cls (cls n q) (wf_small (by omega) (by omega)))
  obtain ⟨c, hc⟩ : ∃ c, c = cls n q := ⟨_, rfl⟩
  have HNB := hid (names_bd hq)
  have HNZ := hid (names_ne hq)
  have hlen : (namesOf q).length ≤ 8 := by
    rw [names_len hq]; unfold clsList
    split
    · simp
    · split <;> simp
  rw [← hc] at HAT HW ⊢
  have HC := hid hc
  clear hq hs hc h0
  go_enter Try.func61, Try.ntmps61
  unfold clsT
  have hmk : ∀ wx, (Instr.makeMap 77 none).run Try.prog wx = .ok (.map (some wx.heap.size)) (wx.alloc (.map #[] 0)) := fun wx => run_makeMap _ _
  go_wp2_with (go_at_call 63; refine (plNames_any _ HQ.out _).mono ?_; rintro e w1 ⟨v, rfl, ho, hb⟩)
  have hs1 := hb.size
  simp only [World.size_alloc] at hs1
  have e0 := (hb.block w.heap.size (by simp; omega)).trans (heap_alloc2_old _ _ _)
  have HBX := hid e0
  have HOM := hid (ownsMap_of_block ((World.ownsMap_made (w.alloc (.cells #[.bool (c.1 == 1), .int .i64 c.2] 60)) Try.prog 60 (plainElem (H := Unit) Try.prog 3))) (hb.block _ (by simp)))
  simp only [World.size_alloc] at HOM
  have HB1 := hid (((((Below.refl w.heap.size w).alloc (Nat.le_refl _) (.cells #[.bool (c.1 == 1), .int .i64 c.2] 60)).alloc (by simp) (.map #[] 0)).trans (hb.mono (by simp; omega))))
  have HG := hid ho.ge
  have HLT := hid ho.lt
  obtain ⟨a, cap, rfl, hform⟩ := ho.rd.form
  obtain ⟨bn, o, rfl, hml, hcells⟩ := hform (by have := HI.out; omega)
  have hbn := HG.out bn rfl
  have hbn2 := HLT.out bn rfl
  simp only [World.size_alloc] at hbn
  have HCL := hid hcells
  clear hb ho e0 hform hcells HG HLT
  unfold maxLen at hml
  go_wp2_with fail
  simp only [Builtin.len_]
  go_simp
  go_wp2_with fail
  go_loopw [12] (fun si wr => ∃ K : Nat, si = .int .i64 K ∧ K ≤ (namesOf q).length ∧ (∃ D : DataW Unit, Hid (wr.ownsMap Try.prog 60 (plainElem Try.prog 3) (w.heap.size + 1) K D) ∧ Hid (MapSays D q K)) ∧
      Hid (wr.heap[w.heap.size]? = w1.heap[w.heap.size]?) ∧ Hid (wr.heap[bn]? = w1.heap[bn]?) ∧ w1.heap.size ≤ wr.heap.size ∧ Hid (Below w.heap.size w wr)) (fun si _ => (namesOf q).length - (intOf si).toNat)
  case atStart => exact ⟨0, rfl, by omega, ⟨.map [], HOM, hid ⟨Maps.isMap_empty, fun i hi => by omega⟩⟩, hid rfl, hid rfl, Nat.le_refl _, HB1⟩
  case round =>
    obtain ⟨K, rfl, hK, ⟨D, HD, HM⟩, HX, HN, hsz, HB⟩ := hrel
    rename World => wA
    by_cases hlt : K < (namesOf q).length
    · have hcell := (World.cell?_of_block HN.out).trans (HCL.out K hlt)
      have hmem : (namesOf q).getD K 0 ∈ namesOf q := by rw [getD_at _ _ hlt]; exact List.getElem_mem _
      have hbd := HNB.out _ hmem
      have HZ := hid (HNZ.out _ hmem)
      have HCA := hid (cls_at HQ.out K hlt)
      have HST := hid (mapSays_step HQ.out hlt HM.out)
      obtain ⟨m, hm⟩ : ∃ m, m = (namesOf q).getD K 0 := ⟨_, rfl⟩
      rw [← hm] at hcell hbd HZ HCA HST
      have hs := cls_small HZ.out HQ.out
      have HKY := hid (key_cls (cls m q) (wf_small (by omega) (by omega)))
      have HEL := hid (plainElem_int (H := Unit) (P := Try.prog) Try.underlying3 (wf_small (show -5000 ≤ m by omega) (show m ≤ 1000000000 by omega)))
      have b1 := hbd.1
      have b2 := hbd.2
      have hi0 : (K : Int) < ((namesOf q).length : Int) := by omega
      clear hm hmem hbd hs
      go_wp2_with fail
      go_at_call 62
      refine (class_any _ _ HZ.out (by omega) (by omega) HQ.out _).mono ?_
      rintro e w2 ⟨rfl, hb2⟩
      have hs2 := hb2.size
      have HD2 := hid (ownsMap_of_block HD.out (hb2.block _ (by omega)))
      have HX2 := hid ((hb2.block w.heap.size (by omega)).trans HX.out)
      have HN2 := hid ((hb2.block bn (by omega)).trans HN.out)
      have HB2 := hid (HB.out.trans (hb2.mono HB.out.size))
      rw [HCA.out] at HKY ⊢
      clear hb2
      go_wp2_with (at_mapUpdate; refine wpList_mapUpdate_own _ rfl _ _ _ 77 rfl 60 3 clsKeyed Try.underlying77 _ (w.heap.size + 1) K D rfl HD2.out (by unfold maxLen; omega) _ _ (keyC ((clsList q).getD K (0, 0))) rfl rfl HKY.out _ [] HEL.out ?_; intro w3 hown3 hgrow3)
      have hs3 := hgrow3.size
      go_round
      case measure => simp only [intOf]; omega
      case rel => exact ⟨K + 1, by go_num, by omega, ⟨_, hid hown3, HST⟩, hid ((hgrow3.block _ (by omega) (by simp)).trans HX2.out), hid ((hgrow3.block bn (by omega) (by simp; omega)).trans HN2.out), by omega, hid (HB2.out.grown hgrow3 (by omega) (fun k e => by cases e; omega))⟩
    · obtain rfl : K = (namesOf q).length := by omega
      have hx := HX.out.trans HBX.out
      have c0 := cell_of_row hx 0 _ rfl
      have c1 := cell_of_row hx 1 _ rfl
      have HAN := hid (HM.out.2 _ HI.out)
      rw [HAT.out] at HAN
      clear hlt hx
      go_wp2_with (at_lookup; refine wpList_lookup_own_int _ rfl _ _ 77 rfl 60 3 .i64 clsKeyed Try.underlying77 Try.underlying3 (by kernel_rfl) (w.heap.size + 1) _ D rfl HD.out (clsT c) (keyC c) rfl HW.out ?_; intro x hat hwc)
      have hx2 := hat.symm.trans HAN.out
      simp only [DataW.lit.injEq, Lit.int.injEq, true_and] at hx2
      go_ret
      exact ⟨retI (by rw [hx2]; rfl), HB.out⟩

end Go.Proofs.Ytdidmblkknnglaa

set_option linter.unusedVariables false
namespace Go.Proofs.Ytdidmblkknnglaa
open Go.RowKit

theorem Owns.low {W : World} {B C : Nat} {v : Value} {xs : List Int} (h : Owns W C v xs) (hb : B ≤ C) : Owns W B v xs := by
  obtain ⟨h1, h2⟩ := h
  refine ⟨h1, ?_⟩
  rcases h2 with h2 | ⟨g, cap, cur, hv, hg, r⟩
  · exact .inl h2
  · exact .inr ⟨g, cap, cur, hv, Nat.le_trans hb hg, r⟩
theorem factB_bd {n : Int} (h : factB n = true) : n ≠ 0 ∧ -5000 ≤ n ∧ n ≤ 5000 := by
  rcases factB_cases n with ⟨h1, h2, h0, _, _⟩ | ⟨_, e⟩ | ⟨_, _, e⟩
  · exact ⟨h0, h1, h2⟩
  · rw [h] at e; cases e
  · rw [h] at e; cases e

theorem localSquare_any (n q : Int) (w : World) : Calls Try.prog 26 #[.int .i64 n, .int .i64 q] w fun e w' => e = .returned (.bool (lsV n q)) ∧ Below w.heap.size w w' := by
  cases hF : factB n with
  | false =>
    have HV : Hid (lsV n q = false) := hid (by unfold lsV okAt; rw [hF]; rfl)
    have HF := hid hF
    clear hF
    go_enter Try.func26, Try.ntmps26
    go_wp2_with (go_at_call 55; refine (factored_any _ _).mono ?_; rw [HF.out]; rintro e w' ⟨rfl, rfl⟩)
    go_ret
    exact ⟨retB HV.out.symm, Below.refl _ _⟩
  | true =>
    obtain ⟨h0, h1, h2⟩ := factB_bd hF
    cases hq : plI q with
    | false =>
      have HV : Hid (lsV n q = false) := hid (by unfold lsV okAt; rw [hF, hq]; rfl)
      have HF := hid hF
      have HQ := hid hq
      clear hF hq h0
      go_enter Try.func26, Try.ntmps26
      go_wp2_with (first | (go_at_call 55; refine (factored_any _ _).mono ?_; rw [HF.out]; rintro e w' ⟨rfl, rfl⟩) | (go_at_call 56; refine (plValid_any _ _).mono ?_; rw [HQ.out]; rintro e w1 ⟨rfl, hb1⟩))
      go_ret
      exact ⟨retB HV.out.symm, hb1⟩
    | true =>
      have HV : Hid (lsV n q = sqAt n q) := hid (by unfold lsV okAt; rw [hF, hq]; rfl)
      have HF := hid hF
      have HQ := hid hq
      have H0 := hid h0
      clear hF hq h0
      go_enter Try.func26, Try.ntmps26
      go_wp2_with (first | (go_at_call 55; refine (factored_any _ _).mono ?_; rw [HF.out]; rintro e w' ⟨rfl, rfl⟩) | (go_at_call 56; refine (plValid_any _ _).mono ?_; rw [HQ.out]; rintro e w1 ⟨rfl, hb1⟩) | (go_at_call 66; refine (plSquare_any _ _ H0.out (by omega) (by omega) HQ.out _).mono ?_; rintro e w2 ⟨rfl, hb2⟩))
      go_ret
      exact ⟨retB HV.out.symm, hb1.trans (hb2.mono hb1.size)⟩

theorem localNames_any (q : Int) (w : World) : Calls Try.prog 19 #[.int .i64 q] w fun e w' => ∃ v, e = .returned (.tuple #[v, .bool (plI q)]) ∧ Owns w' w.heap.size v (lnamesL q) ∧ Below w.heap.size w w' := by
  cases hq : plI q with
  | false =>
    have HL : Hid (lnamesL q = []) := hid (by unfold lnamesL; rw [hq]; rfl)
    have HQ := hid hq
    clear hq
    go_enter Try.func19, Try.ntmps19
    go_wp2_with (go_at_call 56; refine (plValid_any _ _).mono ?_; rw [HQ.out]; rintro e w1 ⟨rfl, hb1⟩)
    go_ret2
    exact ⟨_, rfl, by rw [HL.out]; exact World.ownsRow_made (size := 1) w1 #[] 0 hb1.size (by unfold maxLen; omega) rfl, hb1.alloc hb1.size _⟩
  | true =>
    have HL : Hid (lnamesL q = namesOf q) := hid (by unfold lnamesL; rw [hq]; rfl)
    have HQ := hid hq
    clear hq
    go_enter Try.func19, Try.ntmps19
    go_wp2_with (first | (go_at_call 56; refine (plValid_any _ _).mono ?_; rw [HQ.out]; rintro e w1 ⟨rfl, hb1⟩) | (go_at_call 63; refine (plNames_any _ HQ.out _).mono ?_; rintro e w2 ⟨v, rfl, ho, hb2⟩))
    go_ret2
    exact ⟨_, rfl, by rw [HL.out]; exact ho.low hb1.size, hb1.trans (hb2.mono hb1.size)⟩

theorem localName_any (n q : Int) (w : World) : Calls Try.prog 18 #[.int .i64 n, .int .i64 q] w fun e w' => e = .returned (lnameV n q) ∧ Below w.heap.size w w' := by
  cases hF : factB n with
  | false =>
    have HV := hid (lnameV_no (show okAt n q = false by unfold okAt; rw [hF]; rfl))
    have HF := hid hF
    clear hF
    go_enter Try.func18, Try.ntmps18
    go_wp2_with (go_at_call 55; refine (factored_any _ _).mono ?_; rw [HF.out]; rintro e w' ⟨rfl, rfl⟩)
    go_ret2
    exact ⟨retV HV.out.symm, Below.refl _ _⟩
  | true =>
    obtain ⟨h0, h1, h2⟩ := factB_bd hF
    cases hq : plI q with
    | false =>
      have HV := hid (lnameV_no (show okAt n q = false by unfold okAt; rw [hF, hq]; rfl))
      have HF := hid hF
      have HQ := hid hq
      clear hF hq h0
      go_enter Try.func18, Try.ntmps18
      go_wp2_with (first | (go_at_call 55; refine (factored_any _ _).mono ?_; rw [HF.out]; rintro e w' ⟨rfl, rfl⟩) | (go_at_call 56; refine (plValid_any _ _).mono ?_; rw [HQ.out]; rintro e w1 ⟨rfl, hb1⟩))
      go_ret2
      exact ⟨retV HV.out.symm, hb1⟩
    | true =>
      have HV := hid (lnameV_yes (show okAt n q = true by unfold okAt; rw [hF, hq]; rfl))
      have HF := hid hF
      have HQ := hid hq
      have H0 := hid h0
      clear hF hq h0
      go_enter Try.func18, Try.ntmps18
      go_wp2_with (first | (go_at_call 55; refine (factored_any _ _).mono ?_; rw [HF.out]; rintro e w' ⟨rfl, rfl⟩) | (go_at_call 56; refine (plValid_any _ _).mono ?_; rw [HQ.out]; rintro e w1 ⟨rfl, hb1⟩) | (go_at_call 62; refine (class_any _ _ H0.out (by omega) (by omega) HQ.out _).mono ?_; rintro e w2 ⟨rfl, hb2⟩) | (go_at_call 61; refine (nameOf_any _ _ H0.out HQ.out _).mono ?_; rintro e w3 ⟨rfl, hb3⟩))
      go_ret2
      exact ⟨retV HV.out.symm, (hb1.trans (hb2.mono hb1.size)).trans (hb3.mono (Nat.le_trans hb1.size hb2.size))⟩

theorem localMul_any (a b q : Int) (w : World) : Calls Try.prog 20 #[.int .i64 a, .int .i64 b, .int .i64 q] w fun e w' => e = .returned (lmulV a b q) ∧ Below w.heap.size w w' := by
  cases hA : factB a with
  | false =>
    have HV : Hid (lmulV a b q = .tuple #[.int .i64 0, .bool false]) := hid (by unfold lmulV okAt; rw [hA]; rfl)
    have HA := hid hA
    clear hA
    go_enter Try.func20, Try.ntmps20
    go_wp2_with (go_at_call 55; refine (factored_any _ _).mono ?_; rw [HA.out]; rintro e w' ⟨rfl, rfl⟩)
    go_ret2
    exact ⟨retV HV.out.symm, Below.refl _ _⟩
  | true =>
    obtain ⟨a0, a1, a2⟩ := factB_bd hA
    cases hB : factB b with
    | false =>
      have HV : Hid (lmulV a b q = .tuple #[.int .i64 0, .bool false]) := hid (by unfold lmulV okAt; rw [hB, Bool.false_and, Bool.and_false]; rfl)
      have HA := hid hA
      have HB := hid hB
      clear hA hB a0
      go_enter Try.func20, Try.ntmps20
      go_wp2_with fail
      go_at_call 55
      refine (factored_any _ _).mono ?_
      rw [HA.out]
      rintro e w' ⟨rfl, rfl⟩
      go_wp2_with (go_at_call 55; refine (factored_any _ _).mono ?_; rw [HB.out]; rintro e w' ⟨rfl, rfl⟩)
      go_ret2
      exact ⟨retV HV.out.symm, Below.refl _ _⟩
    | true =>
      obtain ⟨b0, b1, b2⟩ := factB_bd hB
      cases hq : plI q with
      | false =>
        have HV : Hid (lmulV a b q = .tuple #[.int .i64 0, .bool false]) := hid (by unfold lmulV okAt; rw [hq, Bool.and_false, Bool.false_and]; rfl)
        have HA := hid hA
        have HB := hid hB
        have HQ := hid hq
        clear hA hB hq a0 b0
        go_enter Try.func20, Try.ntmps20
        go_wp2_with fail
        go_at_call 55
        refine (factored_any _ _).mono ?_
        rw [HA.out]
        rintro e w' ⟨rfl, rfl⟩
        go_wp2_with (first | (go_at_call 55; refine (factored_any _ _).mono ?_; rw [HB.out]; rintro e w' ⟨rfl, rfl⟩) | (go_at_call 56; refine (plValid_any _ _).mono ?_; rw [HQ.out]; rintro e w1 ⟨rfl, hb1⟩))
        go_ret2
        exact ⟨retV HV.out.symm, hb1⟩
      | true =>
        have HV : Hid (lmulV a b q = .tuple #[.int .i64 (nameOf (a * b) q), .bool true]) := hid (by unfold lmulV okAt; rw [hA, hB, hq]; rfl)
        have hm := mul_bdI a1 a2 b1 b2
        have hm1 := hm.1
        have hm2 := hm.2
        have HA := hid hA
        have HB := hid hB
        have HQ := hid hq
        have H0 := hid (Int.mul_ne_zero a0 b0)
        clear hA hB hq a0 b0 hm
        go_enter Try.func20, Try.ntmps20
        go_wp2_with fail
        go_at_call 55
        refine (factored_any _ _).mono ?_
        rw [HA.out]
        rintro e w' ⟨rfl, rfl⟩
        go_wp2_with (first | (go_at_call 55; refine (factored_any _ _).mono ?_; rw [HB.out]; rintro e w' ⟨rfl, rfl⟩) | (go_at_call 56; refine (plValid_any _ _).mono ?_; rw [HQ.out]; rintro e w1 ⟨rfl, hb1⟩) | (go_at_call 62; refine (class_any _ _ H0.out (by omega) (by omega) HQ.out _).mono ?_; rintro e w2 ⟨rfl, hb2⟩) | (go_at_call 61; refine (nameOf_any _ _ H0.out HQ.out _).mono ?_; rintro e w3 ⟨rfl, hb3⟩))
        go_ret2
        exact ⟨retV HV.out.symm, (hb1.trans (hb2.mono hb1.size)).trans (hb3.mono (Nat.le_trans hb1.size hb2.size))⟩

end Go.Proofs.Ytdidmblkknnglaa

set_option linter.unusedVariables false
namespace Go.Proofs.Ytdidmblkknnglaa
open Go.RowKit Go.Shelf
attribute [local go_sem] Oper.semAt_some

def plcs (l : List Nat) : List Int := [0, 2] ++ (natsI l).filter (fun x => decide (2 < x))
theorem plcs_yes {l : List Nat} {x : Nat} (h : 2 < x) : plcs (l ++ [x]) = plcs l ++ [(x : Int)] := by
  unfold plcs
  rw [natsI_snoc, List.filter_append, List.filter_cons, if_pos (by rw [decide_eq_true_eq]; omega), List.append_assoc]
  rfl
theorem plcs_no {l : List Nat} {x : Nat} (h : ¬ 2 < x) : plcs (l ++ [x]) = plcs l := by
  unfold plcs
  rw [natsI_snoc, List.filter_append, List.filter_cons, if_neg (by rw [decide_eq_true_eq]; omega), List.filter_nil, List.append_nil]
theorem plcs_len (l : List Nat) : (plcs l).length ≤ l.length + 2 := by
  unfold plcs
  have h3 := List.length_filter_le (fun x : Int => decide (2 < x)) (natsI l)
  rw [natsI_len] at h3
  rw [List.length_append]
  simp only [List.length_cons, List.length_nil]
  omega
theorem fsts_len (l : List PP) : (fsts l).length = l.length := by unfold fsts; rw [List.length_map]

set_option maxRecDepth 100000 in
set_option maxHeartbeats 2000000 in
theorem placesOf_any (n : Int) (h0 : n ≠ 0) (a1 : -5000 ≤ n) (a2 : n ≤ 5000) (w : World) :
    Calls Try.prog 64 #[.int .i64 n] w fun e w' => ∃ v, e = .returned v ∧ Owns w' w.heap.size v (placesOf n) ∧ Below w.heap.size w w' := by
  obtain ⟨i0, hi, hz0, hz1, hz2⟩ := info_parts infoInt
  have HPL : Hid (placesOf n = plcs ((ppow n.natAbs).map (·.1))) := hid (by unfold plcs placesOf; rw [plist_eq])
  obtain ⟨v0, hv0⟩ : ∃ v0 : Value, v0 = .slice (some ⟨w.heap.size, 0, none⟩) 2 2 := ⟨_, rfl⟩
  have hr0 : (w.alloc (.cells #[.int .i64 0, .int .i64 2] 3)).ownsRow w.heap.size 3 1 v0 2 [.int .i64 0, .int .i64 2] := by
    rw [hv0]; exact World.ownsRow_lit w #[.int .i64 0, .int .i64 2] 2 (Nat.le_refl _) (by unfold maxLen; omega) rfl
  have hB0 : Below w.heap.size w (((w.alloc (.cells #[.int .i64 0, .int .i64 2] 3)).alloc (.cells #[v0] 28)).alloc (.cells #[.int .i64 n] 53)) := (((Below.refl _ _).alloc (Nat.le_refl _) _).alloc (by simp) _).alloc (by simp; omega) _
  have bO := (Boxed.new (w.alloc (.cells #[.int .i64 0, .int .i64 2] 3)) 28 v0).alloc (.cells #[.int .i64 n] 53)
  have bN := Boxed.new ((w.alloc (.cells #[.int .i64 0, .int .i64 2] 3)).alloc (.cells #[v0] 28)) 53 (.int .i64 n)
  simp only [World.size_alloc] at bN bO
  have hrN := (hr0.alloc (.cells #[v0] 28)).alloc (.cells #[.int .i64 n] 53)
  have H0 := hid h0
  subst hv0
  clear h0 hr0
  refine (callsIn_wide (n := 5)).1 ?_
  refine callsIn_of_wp_marks Try.func64 rfl trivial ?_ rfl
  simp only [Try.ntmps64, List.size_toArray, List.length_cons, List.length_nil, Nat.reduceAdd, Nat.reduceSub, Array.replicate_succ, Array.replicate_zero, List.push_toArray, List.append_toArray, List.nil_append, List.cons_append]
  gi_wp2_with (refine ⟨trivial, ?_⟩; gi_at_call 78; refine (callsIn_wide.2 (pp_make _ _)).mono ?_; rintro e w' ⟨rfl, rfl⟩)
  refine wpIn_rangeFunc_ownG rfl (by omega) (gf := 99) (lb := #[.pointer (some ⟨w.heap.size + 1 + 1, 0, none⟩)]) rfl trivial (enters_of Try.func99 (by kernel_rfl) rfl)
    (pp_stops _ (w.heap.size + 1 + 1) n H0.out (by omega) (by omega) _ (by simp) bN.cell) walksK_t walksK_b (Below.refl _ _) (fun _ => rfl)
    (fun pre W => (∃ v, Boxed W (w.heap.size + 1) 28 v ∧ W.ownsRow w.heap.size 3 1 v (plcs (fsts pre)).length ((plcs (fsts pre)).map (Value.int .i64)) ∧ True) ∧ Below w.heap.size w W)
    (fun _ _ _ => False)
    (OwnFrom.and (Own.from (holdsRow_own w.heap.size (w.heap.size + 1) 28 3 1 (fun pre => (plcs (fsts pre)).length) (fun pre => (plcs (fsts pre)).map (Value.int .i64)) (fun _ _ => True)) _) (ownFrom_below (Nat.le_refl _) (by simp; omega)))
    (fun _ _ _ _ _ hs _ _ => hs)
    ⟨⟨_, bO, hrN, trivial⟩, hB0⟩ ?a1 ?assign ?body ?done ?stop
  case assign =>
    intro l x W K hK
    gi_wp2
    exact hK
  case body =>
    rintro l pre x W ⟨⟨v, hv, hrow, _⟩, hB⟩ hlt
    have hc := hv.cell
    have hpl := ppow_len n.natAbs
    have hll := plcs_len (fsts pre)
    rw [fsts_len] at hll
    by_cases hx : 2 < x.1.1
    · have hxi : (2 : Int) < (x.1.1 : Int) := by omega
      have HX := hid hx
      clear hx
      gi_wp2_with (gi_at_builtin; refine wpListIn_append_own _ rfl _ _ 28 rfl w.heap.size 3 i0 (.int .i64 0) 1 8 Try.underlying28 hi hz0 hz1 hz2 rfl (by decide) _ _ _ rfl (hrow.alloc _) ⟨W.heap.size, 0, none⟩ 1 1 [.int .i64 x.1.1] rfl rfl (cell_one_new _ _ _) (by simp [Value.oneCell']) (by unfold maxLen; omega) (by omega) (by have := hB.size; simp; omega) ?_; intro v' w1 hown' hgrow _; obtain ⟨g', cap', rfl⟩ := ownsRow_succ hown'; obtain ⟨hv1, hv2, hr2, hk2, hb2⟩ := hv.appended (by decide) hrow hB.size (by omega) hown' hgrow; have hc1 := hv1.cell; have hf1 := hv1.frozen)
      exact ⟨hk2.from _, hk2.walks, ⟨_, hv2, by rw [fsts_snoc, plcs_yes HX.out]; simpa using hr2, trivial⟩, hB.trans hb2⟩
    · have hxi : ¬ (2 : Int) < (x.1.1 : Int) := by omega
      have HX := hid hx
      clear hx
      gi_wp2
      exact ⟨KeepsFrom.refl _ _, KeepsWalks.refl _, ⟨v, hv, by rw [fsts_snoc, plcs_no HX.out]; exact hrow⟩, hB⟩
  case done =>
    rintro D ys W hD hS ⟨⟨v, hv, hrow, _⟩, hB⟩ hK
    have hc := hv.cell
    rw [fsts_all hS] at hrow
    have HP2 := HPL
    gi_wp2
    refine ⟨by simp, .inl ⟨_, _, rfl, run_takeDeferred hK, ?_⟩⟩
    refine ⟨_, results_tmp rfl _ _ _, ?_⟩
    exact ⟨v, rfl, by unfold Owns; rw [HPL.out]; exact ownsRow_putObj hrow _ hK rfl, hB.trans (belowK_b (w := w) (Nat.le_refl _) W D _ _ (by simp at hD; omega) hK rfl rfl)⟩
  case stop =>
    rintro D c pre W _ _ h _
    exact h.elim

end Go.Proofs.Ytdidmblkknnglaa

set_option linter.unusedVariables false
namespace Go.Proofs.Ytdidmblkknnglaa
open Go.RowKit Go.Shelf
attribute [local go_sem] Oper.semAt_some

def ppowG (n : Nat) : List (Nat × Nat) := ppGo (n + 1) 2 n
theorem plistG_eq (n : Nat) : plistG n = (ppowG n).map (·.1) := plGo_eq _ _ _
theorem ppowG_len (n : Nat) : (ppowG n).length ≤ n + 1 := ppGo_len _ _ _
theorem sq_le5 {p n : Nat} (h : p * p ≤ n) (hn : n ≤ 25000000) : p ≤ 5000 := by
  by_cases hp : p ≤ 5000
  · exact hp
  · have := Nat.mul_le_mul (show 5001 ≤ p by omega) (show 5001 ≤ p by omega)
    omega

set_option maxRecDepth 100000 in
set_option maxHeartbeats 2000000 in
theorem ppG_in (n l Bn : Nat) (a : Int) (h0 : a ≠ 0) (ha1 : -25000000 ≤ a) (ha2 : a ≤ 25000000) (J Jx : List (Nat × Nat) → World → Prop)
    (hY : ∀ pre x W, J pre W → x.1 ≤ 25000000 → x.2 ≤ 25000000 → pre.length < (ppowG a.natAbs).length → YieldAt Fence.wide (n - 1) Try.prog l (encPP x) W fun e W' =>
      (e = .returned (.bool true) ∧ J (pre ++ [x]) W' ∧ KeepsWalks W W') ∨ (e = .returned (.bool false) ∧ Jx (pre ++ [x]) W'))
    (W : World) (hBn : W.cell? ⟨Bn, 0, none⟩ = some (.int .i64 a)) (hJ0 : J [] W) :
    CallsIn Fence.wide n Try.prog 99 #[.func (.yield l) #[] #[], .pointer (some ⟨Bn, 0, none⟩)] W fun e W' => (∃ v, e = .returned v) ∧
      ((∃ ys, ys = ppowG a.natAbs ∧ J ys W') ∨ (∃ pre, pre <+: ppowG a.natAbs ∧ Jx pre W')) := by
  obtain ⟨N, hN⟩ : ∃ N, N = a.natAbs := ⟨_, rfl⟩
  rw [← hN] at hY ⊢
  have hN1 : 1 ≤ N := by omega
  have hN2 : N ≤ 25000000 := by omega
  have HN := hid hN
  clear hN
  refine callsIn_of_wp Try.func99 rfl trivial ?_ rfl
  simp only [Try.ntmps99, List.size_toArray, List.length_cons, List.length_nil, Nat.reduceAdd, Nat.reduceSub, Array.replicate_succ, Array.replicate_zero, List.push_toArray, List.append_toArray, List.nil_append, List.cons_append]
  gi_wp2_with (refine ⟨trivial, wide_depth n, ?_⟩; gi_at_call 100; refine (callsIn_wide.2 (size_any _ (by omega) (by omega) _)).mono ?_; rw [← HN.out]; rintro e w' ⟨rfl, rfl⟩)
  gi_loopw [3, 4] (fun sl sp wr => ∃ (pre : List (Nat × Nat)) (L p f : Nat), sl = .int .i64 L ∧ sp = .int .i64 p ∧ 1 ≤ L ∧ L ≤ N ∧ 2 ≤ p ∧ p ≤ 5001 ∧ p ≤ N + 2 ∧ p + f = N + 3 ∧ Hid (ppowG N = pre ++ ppGo f p L) ∧ J pre wr)
    (fun _ sp _ => (5001 - intOf sp).toNat)
  case atStart =>
    exact ⟨[], N, 2, N + 1, rfl, rfl, hN1, Nat.le_refl _, by omega, by omega, by omega, by omega, hid rfl, hJ0⟩
  case round =>
    obtain ⟨pre, L, p, f, rfl, rfl, hL1, hLN, hp2, hp7, hpN, hf, HP, hJs⟩ := hrel
    have hL2 : L ≤ 25000000 := by omega
    have hKK := mul_bd (show p ≤ 5001 by omega) (show p ≤ 5001 by omega)
    obtain ⟨g, rfl⟩ : ∃ g, f = g + 1 := ⟨f - 1, by omega⟩
    by_cases hle : (p : Int) * p ≤ L
    · have hle' : p * p ≤ L := by exact_mod_cast hle
      have hp70 := sq_le5 hle' hL2
      have hpL : p ≤ L := Nat.le_trans (Nat.le_mul_of_pos_left p (by omega)) hle'
      obtain ⟨K, hK⟩ : ∃ K, K = val L p := ⟨_, rfl⟩
      have HK := hid hK
      have HD := hid (val_dvd p hp2 L L (Nat.le_refl _) (by omega))
      have hKb : K ≤ 25000000 := by
        rw [hK]; exact Nat.le_trans (val_le p hp2 L L (Nat.le_refl _)) hL2
      clear hK
      by_cases hd : L % p = 0
      · have hKp : 0 < K := by rw [HK.out, val_step hp2 (by omega) hd]; omega
        have HE : Hid (ppGo (g + 1) p L = (p, K) :: ppGo g (p + 1) (L / p ^ K)) := by show _ = _; rw [HK.out]; conv => lhs; unfold ppGo
                                                                                      rw [if_pos hle', if_pos hd]
        have hq1 : 1 ≤ L / p ^ K := Nat.div_pos (Nat.le_of_dvd (by omega) (by rw [HK.out]; exact HD.out)) (Nat.pow_pos (by omega))
        have hq2 : L / p ^ K ≤ N := Nat.le_trans (Nat.div_le_self _ _) hLN
        have hlen : pre.length < (ppowG N).length := by rw [HP.out, HE.out]; simp
        clear hd hle'
        obtain ⟨fn, tmps, assign, body, hy, hR⟩ := hY pre (p, K) wr hJs (show p ≤ 25000000 by omega) (show K ≤ 25000000 by omega) hlen
        dsimp only [encPP] at hy
        gi_wp2_with (refine ⟨trivial, wide_depth n, ?_⟩; gi_at_call 101; refine (callsIn_wide.2 (valuation2_any _ _ (by omega) (by omega) (by omega) (by omega) (by omega) _)).mono ?_; rw [show val (Int.natAbs (L : Int)) (Int.toNat (p : Int)) = K from HK.out.symm]; rintro e w' ⟨rfl, rfl⟩)
        gi_loop [3, 19] (fun sl si => ∃ j M : Nat, sl = .int .i64 M ∧ si = .int .i64 j ∧ j ≤ K ∧ M ≤ N ∧ Hid (M = L / p ^ j)) (fun _ si => K - (intOf si).toNat)
        case atStart => exact ⟨0, L, rfl, rfl, by omega, hLN, hid (by simp)⟩
        case round =>
          obtain ⟨j, M, rfl, rfl, hj, hM, HM⟩ := hrel
          have hdd := ediv_bdG (b := p) (show M ≤ 1000000000000 by omega)
          have hd0 := hdd.1
          have hd1 := hdd.2
          clear hdd
          by_cases hlt : j < K
          · gi_wp2
            go_round
            case rel => exact ⟨j + 1, M / p, vI (by push_cast; rfl), by go_num, by omega, Nat.le_trans (Nat.div_le_self _ _) hM, hid (by rw [HM.out, Nat.div_div_eq_div_mul, Nat.pow_succ])⟩
            case measure => simp only [intOf]; omega
          · obtain rfl : j = K := by omega
            gi_wp2
            refine ⟨wide_depth n, hR.mono ?_⟩
            rintro e W' (⟨rfl, hJ', _⟩ | ⟨rfl, hJx'⟩)
            · gi_wp2
              go_roundw
              case rel => exact ⟨pre ++ [(p, j)], M, p + 1, g, rfl, by go_num, by rw [HM.out]; exact hq1, hM, by omega, by omega, by omega, by omega, hid (by rw [HP.out, HE.out, HM.out]; simp), hJ'⟩
              case measure => simp only [intOf]; omega
            · gi_wp2
              refine bodyPost_ret (results_none rfl _ _ _) rfl ?_
              exact ⟨⟨_, rfl⟩, .inr ⟨pre ++ [(p, j)], ⟨ppGo g (p + 1) (L / p ^ j), by rw [HP.out, HE.out]; simp⟩, hJx'⟩⟩
      · have hK0 : K = 0 := by rw [HK.out, val_stop hd]
        have HE : Hid (ppGo (g + 1) p L = ppGo g (p + 1) L) := by show _ = _; conv => lhs; unfold ppGo
                                                                  rw [if_pos hle', if_neg hd]
        have HK0 : Hid (val (Int.natAbs (L : Int)) (Int.toNat (p : Int)) = 0) := hid (by rw [← hK0]; exact HK.out.symm)
        clear hd hle' hK0
        gi_wp2_with (refine ⟨trivial, wide_depth n, ?_⟩; gi_at_call 101; refine (callsIn_wide.2 (valuation2_any _ _ (by omega) (by omega) (by omega) (by omega) (by omega) _)).mono ?_; rw [HK0.out]; rintro e w' ⟨rfl, rfl⟩)
        gi_loop [3, 19] (fun sl si => sl = .int .i64 L ∧ si = .int .i64 0) (fun _ si => 0)
        case atStart => exact ⟨rfl, rfl⟩
        case round =>
          obtain ⟨rfl, rfl⟩ := hrel
          gi_wp2
          refine ⟨fun _ h => (by cases h), ?_⟩
          gi_wp2
          go_roundw
          case rel => exact ⟨pre, L, p + 1, g, rfl, by go_num, hL1, hLN, by omega, by omega, by omega, by omega, hid (by rw [HP.out, HE.out]), hJs⟩
          case measure => simp only [intOf]; omega
    · have hle' : ¬ p * p ≤ L := fun h => hle (by exact_mod_cast h)
      by_cases hL : 1 < L
      · have HE : Hid (ppGo (g + 1) p L = [(L, 1)]) := by show _ = _; unfold ppGo; rw [if_neg hle', if_pos hL]
        have hlen : pre.length < (ppowG N).length := by rw [HP.out, HE.out]; simp
        clear hle'
        obtain ⟨fn, tmps, assign, body, hy, hR⟩ := hY pre (L, 1) wr hJs (show L ≤ 25000000 by omega) (show 1 ≤ 25000000 by omega) hlen
        dsimp only [encPP] at hy
        rw [show ((1 : Nat) : Int) = 1 from rfl] at hy
        gi_wp2
        refine ⟨wide_depth n, hR.mono ?_⟩
        rintro e W' (⟨rfl, hJ', _⟩ | ⟨rfl, hJx'⟩)
        · gi_wp2
          go_end0
          have HF : J (ppowG N) W' := by rw [HP.out, HE.out]; exact hJ'
          first | exact ⟨⟨_, rfl⟩, .inl ⟨_, rfl, HF⟩⟩ | exact ⟨⟨_, rfl⟩, .inl HF⟩
        · gi_wp2
          go_end0
          exact ⟨⟨_, rfl⟩, .inr ⟨_, ⟨[], by rw [HP.out, HE.out]; simp⟩, hJx'⟩⟩
      · have HE : Hid (ppGo (g + 1) p L = []) := by show _ = _; unfold ppGo; rw [if_neg hle', if_neg hL]
        clear hle'
        gi_wp2
        go_end0
        have HF : J (ppowG N) wr := by rw [HP.out, HE.out, List.append_nil]; exact hJs
        first | exact ⟨⟨_, rfl⟩, .inl ⟨_, rfl, HF⟩⟩ | exact ⟨⟨_, rfl⟩, .inl HF⟩

/-- what a round is handed: bounded numbers -/
abbrev PPG := { x : Nat × Nat // x.1 ≤ 25000000 ∧ x.2 ≤ 25000000 }
abbrev encG (x : PPG) : Array Value := #[.int .i64 x.1.1, .int .i64 x.1.2]

theorem ppG_stops (n Bn : Nat) (a : Int) (h0 : a ≠ 0) (ha1 : -25000000 ≤ a) (ha2 : a ≤ 25000000) (w : World) (hBn : Bn < w.heap.size) (hc : w.cell? ⟨Bn, 0, none⟩ = some (.int .i64 a)) :
    SeqStopsK Fence.wide n Try.prog 99 #[.pointer (some ⟨Bn, 0, none⟩)] encG KeepsWalks (fun ys => ys.map (·.1) = ppowG a.natAbs) (fun pre => pre.map (·.1) <+: ppowG a.natAbs) (ppowG a.natAbs).length w := fun l J Jx W hW _ _ hY hJ0 => by
  refine (ppG_in n l Bn a h0 ha1 ha2 (fun pre W => ∃ q : List PPG, q.map (·.1) = pre ∧ J q W) (fun pre W => ∃ q : List PPG, q.map (·.1) = pre ∧ Jx q W) ?_ W ((hW.cell (p := ⟨Bn, 0, none⟩) hBn).trans hc) ⟨[], rfl, hJ0⟩).mono ?_
  · rintro pre x W1 ⟨q, rfl, hq⟩ h1 h2 hl
    obtain ⟨fn, tmps, assign, body, hy, hR⟩ := hY q ⟨x, h1, h2⟩ W1 hq (by simpa using hl)
    refine ⟨fn, tmps, assign, body, hy, hR.mono ?_⟩
    rintro e w' (⟨he, hj, hk⟩ | ⟨he, hj⟩)
    · exact .inl ⟨he, ⟨_, by simp, hj⟩, hk⟩
    · exact .inr ⟨he, ⟨_, by simp, hj⟩⟩
  · rintro e W' ⟨hv, ⟨ys, hys, q, hq, hj⟩ | ⟨pre, hpre, q, hq, hj⟩⟩
    · exact ⟨hv, .inl ⟨q, hq.trans hys, hj⟩⟩
    · exact ⟨hv, .inr ⟨q, by rw [← hq] at hpre; exact hpre, hj⟩⟩


def fstsG (l : List PPG) : List Nat := l.map (fun x => x.1.1)
theorem fstsG_snoc (l : List PPG) (x : PPG) : fstsG (l ++ [x]) = fstsG l ++ [x.1.1] := by simp [fstsG]
theorem fstsG_len (l : List PPG) : (fstsG l).length = l.length := by unfold fstsG; rw [List.length_map]
theorem fstsG_all {ys : List PPG} {l : List (Nat × Nat)} (h : ys.map (·.1) = l) : fstsG ys = l.map (·.1) := by rw [← h]; simp [fstsG]

set_option maxRecDepth 100000 in
set_option maxHeartbeats 2000000 in
theorem placesOfG_any (n : Int) (h0 : n ≠ 0) (a1 : -25000000 ≤ n) (a2 : n ≤ 25000000) (w : World) :
    Calls Try.prog 64 #[.int .i64 n] w fun e w' => ∃ v, e = .returned v ∧ Owns w' w.heap.size v (placesG n) ∧ Below w.heap.size w w' := by
  obtain ⟨i0, hi, hz0, hz1, hz2⟩ := info_parts infoInt
  have HPL : Hid (placesG n = plcs ((ppowG n.natAbs).map (·.1))) := hid (by unfold plcs placesG; rw [plistG_eq])
  obtain ⟨v0, hv0⟩ : ∃ v0 : Value, v0 = .slice (some ⟨w.heap.size, 0, none⟩) 2 2 := ⟨_, rfl⟩
  have hr0 : (w.alloc (.cells #[.int .i64 0, .int .i64 2] 3)).ownsRow w.heap.size 3 1 v0 2 [.int .i64 0, .int .i64 2] := by
    rw [hv0]; exact World.ownsRow_lit w #[.int .i64 0, .int .i64 2] 2 (Nat.le_refl _) (by unfold maxLen; omega) rfl
  have hB0 : Below w.heap.size w (((w.alloc (.cells #[.int .i64 0, .int .i64 2] 3)).alloc (.cells #[v0] 28)).alloc (.cells #[.int .i64 n] 53)) := (((Below.refl _ _).alloc (Nat.le_refl _) _).alloc (by simp) _).alloc (by simp; omega) _
  have bO := (Boxed.new (w.alloc (.cells #[.int .i64 0, .int .i64 2] 3)) 28 v0).alloc (.cells #[.int .i64 n] 53)
  have bN := Boxed.new ((w.alloc (.cells #[.int .i64 0, .int .i64 2] 3)).alloc (.cells #[v0] 28)) 53 (.int .i64 n)
  simp only [World.size_alloc] at bN bO
  have hrN := (hr0.alloc (.cells #[v0] 28)).alloc (.cells #[.int .i64 n] 53)
  have H0 := hid h0
  subst hv0
  clear h0 hr0
  refine (callsIn_wide (n := 5)).1 ?_
  refine callsIn_of_wp_marks Try.func64 rfl trivial ?_ rfl
  simp only [Try.ntmps64, List.size_toArray, List.length_cons, List.length_nil, Nat.reduceAdd, Nat.reduceSub, Array.replicate_succ, Array.replicate_zero, List.push_toArray, List.append_toArray, List.nil_append, List.cons_append]
  gi_wp2_with (refine ⟨trivial, ?_⟩; gi_at_call 78; refine (callsIn_wide.2 (pp_make _ _)).mono ?_; rintro e w' ⟨rfl, rfl⟩)
  refine wpIn_rangeFunc_ownG rfl (by omega) (gf := 99) (lb := #[.pointer (some ⟨w.heap.size + 1 + 1, 0, none⟩)]) rfl trivial (enters_of Try.func99 (by kernel_rfl) rfl)
    (ppG_stops _ (w.heap.size + 1 + 1) n H0.out (by omega) (by omega) _ (by simp) bN.cell) walksK_t walksK_b (Below.refl _ _) (fun _ => rfl)
    (fun pre W => (∃ v, Boxed W (w.heap.size + 1) 28 v ∧ W.ownsRow w.heap.size 3 1 v (plcs (fstsG pre)).length ((plcs (fstsG pre)).map (Value.int .i64)) ∧ True) ∧ Below w.heap.size w W)
    (fun _ _ _ => False)
    (OwnFrom.and (Own.from (holdsRow_own w.heap.size (w.heap.size + 1) 28 3 1 (fun pre => (plcs (fstsG pre)).length) (fun pre => (plcs (fstsG pre)).map (Value.int .i64)) (fun _ _ => True)) _) (ownFrom_below (Nat.le_refl _) (by simp; omega)))
    (fun _ _ _ _ _ hs _ _ => hs)
    ⟨⟨_, bO, hrN, trivial⟩, hB0⟩ ?a1 ?assign ?body ?done ?stop
  case assign =>
    intro l x W K hK
    gi_wp2
    exact hK
  case body =>
    rintro l pre x W ⟨⟨v, hv, hrow, _⟩, hB⟩ hlt
    have hc := hv.cell
    have hpl := ppowG_len n.natAbs
    have hll := plcs_len (fstsG pre)
    rw [fstsG_len] at hll
    by_cases hx : 2 < x.1.1
    · have hxi : (2 : Int) < (x.1.1 : Int) := by omega
      have HX := hid hx
      clear hx
      gi_wp2_with (gi_at_builtin; refine wpListIn_append_own _ rfl _ _ 28 rfl w.heap.size 3 i0 (.int .i64 0) 1 8 Try.underlying28 hi hz0 hz1 hz2 rfl (by decide) _ _ _ rfl (hrow.alloc _) ⟨W.heap.size, 0, none⟩ 1 1 [.int .i64 x.1.1] rfl rfl (cell_one_new _ _ _) (by simp [Value.oneCell']) (by unfold maxLen; omega) (by omega) (by have := hB.size; simp; omega) ?_; intro v' w1 hown' hgrow _; obtain ⟨g', cap', rfl⟩ := ownsRow_succ hown'; obtain ⟨hv1, hv2, hr2, hk2, hb2⟩ := hv.appended (by decide) hrow hB.size (by omega) hown' hgrow; have hc1 := hv1.cell; have hf1 := hv1.frozen)
      exact ⟨hk2.from _, hk2.walks, ⟨_, hv2, by rw [fstsG_snoc, plcs_yes HX.out]; simpa using hr2, trivial⟩, hB.trans hb2⟩
    · have hxi : ¬ (2 : Int) < (x.1.1 : Int) := by omega
      have HX := hid hx
      clear hx
      gi_wp2
      exact ⟨KeepsFrom.refl _ _, KeepsWalks.refl _, ⟨v, hv, by rw [fstsG_snoc, plcs_no HX.out]; exact hrow⟩, hB⟩
  case done =>
    rintro D ys W hD hS ⟨⟨v, hv, hrow, _⟩, hB⟩ hK
    have hc := hv.cell
    rw [fstsG_all hS] at hrow
    have HP2 := HPL
    gi_wp2
    refine ⟨by simp, .inl ⟨_, _, rfl, run_takeDeferred hK, ?_⟩⟩
    refine ⟨_, results_tmp rfl _ _ _, ?_⟩
    exact ⟨v, rfl, by unfold Owns; rw [HPL.out]; exact ownsRow_putObj hrow _ hK rfl, hB.trans (belowK_b (w := w) (Nat.le_refl _) W D _ _ (by simp at hD; omega) hK rfl rfl)⟩
  case stop =>
    rintro D c pre W _ _ h _
    exact h.elim

end Go.Proofs.Ytdidmblkknnglaa

set_option linter.unusedVariables false
namespace Go.Proofs.Ytdidmblkknnglaa
open Go.RowKit

theorem okAB_parts {a b : Int} (h : okAB a b = true) : factB a = true ∧ factB b = true := by
  unfold okAB at h
  rw [Bool.and_eq_true] at h
  exact h

set_option maxHeartbeats 1000000 in
theorem symbolOf_any (a b q : Int) (w : World) : Calls Try.prog 16 #[.int .i64 a, .int .i64 b, .int .i64 q] w fun e w' => e = .returned (.int .i64 (symOfV a b q)) ∧ Below w.heap.size w w' := by
  cases hA : factB a with
  | false =>
    have HA := hid hA
    have H : Hid (symOfV a b q = 0) := hid (by unfold symOfV okAB; rw [hA]; rfl)
    clear hA
    go_enter Try.func16, Try.ntmps16
    go_wp2_with (go_at_call 55; refine (factored_any _ _).mono ?_; rw [HA.out]; rintro e w' ⟨rfl, rfl⟩)
    go_ret
    exact ⟨retI H.out.symm, Below.refl _ _⟩
  | true =>
    cases hB : factB b with
    | false =>
      have HA := hid hA
      have HB := hid hB
      have H : Hid (symOfV a b q = 0) := hid (by unfold symOfV okAB; rw [hA, hB]; rfl)
      clear hA hB
      go_enter Try.func16, Try.ntmps16
      go_wp2_with (go_at_call 55; refine (factored_any _ _).mono ?_; (first | rw [HA.out] | rw [HB.out]); rintro e w' ⟨rfl, rfl⟩)
      go_ret
      exact ⟨retI H.out.symm, Below.refl _ _⟩
    | true =>
      cases hQ : plI q with
      | false =>
        have HA := hid hA
        have HB := hid hB
        have HQ := hid hQ
        have H : Hid (symOfV a b q = 0) := hid (by unfold symOfV okAB; rw [hA, hB, hQ]; rfl)
        clear hA hB hQ
        go_enter Try.func16, Try.ntmps16
        go_wp2_with (first | (go_at_call 55; refine (factored_any _ _).mono ?_; (first | rw [HA.out] | rw [HB.out]); rintro e w' ⟨rfl, rfl⟩) | (go_at_call 56; refine (plValid_any _ _).mono ?_; rw [HQ.out]; rintro e w1 ⟨rfl, hb1⟩))
        go_ret
        exact ⟨retI H.out.symm, hb1⟩
      | true =>
        obtain ⟨a0, a1, a2⟩ := factB_bd hA
        obtain ⟨b0, b1, b2⟩ := factB_bd hB
        have A0 := hid a0
        have B0 := hid b0
        have HA := hid hA
        have HB := hid hB
        have HQ := hid hQ
        have H : Hid (symOfV a b q = symV a b q) := hid (by unfold symOfV okAB; rw [hA, hB, hQ]; rfl)
        clear hA hB hQ a0 b0
        go_enter Try.func16, Try.ntmps16
        go_wp2_with (first | (go_at_call 55; refine (factored_any _ _).mono ?_; (first | rw [HA.out] | rw [HB.out]); rintro e w' ⟨rfl, rfl⟩) | (go_at_call 56; refine (plValid_any _ _).mono ?_; rw [HQ.out]; rintro e w1 ⟨rfl, hb1⟩))
        refine (symbolAt_any q HQ.out _).mono ?_
        rintro e w2 ⟨fv, rfl, hs, hb2⟩
        rcases hs with ⟨rfl, rfl⟩ | ⟨rfl, rfl⟩ | ⟨P, C, rfl, hP, h3, rfl, hC1, hC2, hC3⟩
        · go_wp2_with (go_at_call 86; refine (symZero_any _ _ A0.out B0.out _).mono ?_; rw [← H.out]; rintro e w' ⟨rfl, rfl⟩)
          go_ret
          exact ⟨rfl, hb1.trans (hb2.mono hb1.size)⟩
        · go_wp2_with (go_at_call 88; refine (symbolAtTwo_any _ _ A0.out B0.out (by omega) (by omega) (by omega) (by omega) _).mono ?_; rw [← H.out]; rintro e w' ⟨rfl, rfl⟩)
          go_ret
          exact ⟨rfl, hb1.trans (hb2.mono hb1.size)⟩
        · go_wp2_with (go_at_call 89; refine (symP_any _ _ P C hP h3 A0.out B0.out (by omega) (by omega) (by omega) (by omega) _ hC3).mono ?_; rw [← H.out]; rintro e w' ⟨rfl, rfl⟩)
          go_ret
          exact ⟨rfl, hb1.trans (hb2.mono hb1.size)⟩

end Go.Proofs.Ytdidmblkknnglaa

set_option linter.unusedVariables false
namespace Go.Proofs.Ytdidmblkknnglaa
open Go.RowKit Go.Shelf
attribute [local go_sem] Oper.semAt_some

set_option maxRecDepth 100000 in
set_option maxHeartbeats 2000000 in
theorem symbolPlaces_any (a b : Int) (w : World) :
    Calls Try.prog 23 #[.int .i64 a, .int .i64 b] w fun e w' => ∃ v, e = .returned v ∧ Owns w' w.heap.size v (splL a b) ∧ Below w.heap.size w w' := by
  have HB0 := hid ((Below.refl w.heap.size w).alloc (Nat.le_refl _) (.cells #[] 3))
  have HO0 : Hid (Owns (w.alloc (.cells #[] 3)) w.heap.size (.slice (some ⟨w.heap.size, 0, none⟩) 0 0) []) := hid (World.ownsRow_made (size := 1) w #[] 0 (Nat.le_refl _) (by unfold maxLen; omega) rfl)
  cases hA : factB a with
  | false =>
    have HP : Hid (splL a b = []) := hid (by unfold splL okAB; rw [hA]; rfl)
    have HA := hid hA
    clear hA
    go_enter Try.func23, Try.ntmps23
    go_wp2_with (go_at_call 55; refine (factored_any _ _).mono ?_; rw [HA.out]; rintro e w' ⟨rfl, rfl⟩)
    go_ret
    exact ⟨_, rfl, by rw [HP.out]; exact HO0.out, HB0.out⟩
  | true =>
    cases hBB : factB b with
    | false =>
      have HP : Hid (splL a b = []) := hid (by unfold splL okAB; rw [hA, hBB]; rfl)
      have HA := hid hA
      have HBB := hid hBB
      clear hA hBB
      go_enter Try.func23, Try.ntmps23
      go_wp2_with (go_at_call 55; refine (factored_any _ _).mono ?_; (first | rw [HA.out] | rw [HBB.out]); rintro e w' ⟨rfl, rfl⟩)
      go_ret
      exact ⟨_, rfl, by rw [HP.out]; exact HO0.out, HB0.out⟩
    | true =>
      obtain ⟨a0, a1, a2⟩ := factB_bd hA
      obtain ⟨b0, b1, b2⟩ := factB_bd hBB
      obtain ⟨i0, hi, hz0, hz1, hz2⟩ := info_parts infoInt
      have hmb := mul_bdI a1 a2 b1 b2
      have hm1 := hmb.1
      have hm2 := hmb.2
      have A0 := hid a0
      have B0 := hid b0
      have M0 := hid (Int.mul_ne_zero a0 b0)
      have HA := hid hA
      have HBB := hid hBB
      have HP : Hid (splL a b = (placesG (a * b)).filter (fun q => decide (symV a b q = -1))) := hid (by unfold splL okAB; rw [hA, hBB]; rfl)
      have hpl := placesG_len M0.out (by omega) (by omega)
      have HPP := hid (placesG_pl a0 b0 a1 a2 b1 b2)
      clear a0 b0 hA hBB hmb
      go_enter Try.func23, Try.ntmps23
      go_wp2_with (first | (go_at_call 55; refine (factored_any _ _).mono ?_; (first | rw [HA.out] | rw [HBB.out]); rintro e w' ⟨rfl, rfl⟩) | (go_at_call 64; refine (placesOfG_any _ M0.out hm1 hm2 _).mono ?_; rintro e w2 ⟨v, rfl, ho, hb⟩))
      have hs0 := hb.size
      rw [World.size_alloc] at hs0
      have HO1 := hid (HO0.out.keep HO0.out.lt hb)
      have HB1 := hid (HB0.out.trans (hb.mono (by simp)))
      have HG := hid ho.ge
      obtain ⟨ps, hps⟩ : ∃ ps, ps = placesG (a * b) := ⟨_, rfl⟩
      rw [← hps] at ho hpl HP HPP
      obtain ⟨ad, cap, rfl, hform⟩ := ho.rd.form
      have HFM := hid hform
      have HLT := hid ho.lt
      clear ho hform hb hps
      go_wp2_with fail
      simp only [Builtin.len_]
      go_simp
      go_wp2_with fail
      go_loopw [5, 23] (fun so si wr => ∃ K : Nat, si = .int .i64 K ∧ K ≤ ps.length ∧ Hid (Owns wr w.heap.size so ((ps.take K).filter (fun q => decide (symV a b q = -1)))) ∧
          Hid (∀ b o, ad = some ⟨b, o, none⟩ → so.ownBlock ≠ some b ∧ wr.heap[b]? = w2.heap[b]?) ∧ w2.heap.size ≤ wr.heap.size ∧ Hid (Below w.heap.size w wr)) (fun _ si _ => ps.length - (intOf si).toNat)
      case atStart =>
        refine ⟨0, rfl, by omega, hid (by simpa using HO1.out), hid (fun b o e => ⟨?_, rfl⟩), Nat.le_refl _, HB1⟩
        have := HG.out b (by rw [e]; rfl)
        simp only [World.size_alloc] at this
        show some w.heap.size ≠ some b
        intro h
        cases h
        omega
      case round =>
        obtain ⟨K, rfl, hK, HO, HAD, hsz, HB⟩ := hrel
        rename World => wr
        by_cases hlt : K < ps.length
        · obtain ⟨bk, o, rfl, hml, hc⟩ := HFM.out (by omega)
          obtain ⟨x, hx⟩ : ∃ x, x = ps.getD K 0 := ⟨_, rfl⟩
          have hxm : x ∈ ps := by rw [hx, getD_at _ _ hlt]; exact List.getElem_mem _
          have hxp := HPP.out x hxm
          have hx2 := plI_bd hxp
          have hx3 := hx2.1
          have hx4 := hx2.2
          have HXP := hid hxp
          have hcell := (World.cell?_of_block (HAD.out bk o rfl).2).trans (hc K hlt)
          rw [← hx] at hcell
          have hstep := filter_step (f := fun q => decide (symV a b q = -1)) hlt
          rw [← hx] at hstep
          have HS := hid hstep
          have HL := hid (filter_len (f := fun q => decide (symV a b q = -1)) (show K ≤ ps.length by omega))
          have hi0 : (K : Int) < (ps.length : Int) := by omega
          have hlt2 := HLT.out bk rfl
          unfold maxLen at hml
          obtain ⟨y, hy⟩ : ∃ y, y = symV a b x := ⟨_, rfl⟩
          have hyv := symV_val A0.out B0.out hxp
          rw [← hy] at hyv
          have HY := hid hy.symm
          clear hc hx hxm hxp hstep hx2 hy
          go_wp2_with fail
          refine (symbolAt_any x HXP.out _).mono ?_
          rintro e wq ⟨fv, rfl, hfs, hbq⟩
          have hsq0 := hbq.size
          have HOq := hid (HO.out.keep HO.out.lt hbq)
          have HAq : Hid (∀ b' o', (some (⟨bk, o, none⟩ : Addr)) = some ⟨b', o', none⟩ → u5.ownBlock ≠ some b' ∧ wq.heap[b']? = w2.heap[b']?) := hid (fun b' o' e => ⟨(HAD.out b' o' e).1, (hbq.block b' (by cases e; omega)).trans (HAD.out b' o' e).2⟩)
          have HBq := hid (HB.out.trans (hbq.mono HB.out.size))
          clear hbq
          rcases hyv with rfl | rfl
          · have HE : Hid ((ps.take (K + 1)).filter (fun q => decide (symV a b q = -1)) = (ps.take K).filter (fun q => decide (symV a b q = -1))) := hid (by rw [HS.out, HY.out]; simp)
            rcases hfs with ⟨rfl, rfl⟩ | ⟨rfl, rfl⟩ | ⟨P, C, rfl, hP, h3, rfl, hC1, hC2, hC3⟩
            · go_wp2_with (go_at_call 86; refine (symZero_any _ _ A0.out B0.out _).mono ?_; rw [HY.out]; rintro e w' ⟨rfl, rfl⟩)
              go_round
              case measure => simp only [intOf]; omega
              case rel => exact ⟨K + 1, by go_num, by omega, hid (by rw [HE.out]; exact HOq.out), HAq, by omega, HBq⟩
            · go_wp2_with (go_at_call 88; refine (symbolAtTwo_any _ _ A0.out B0.out (by omega) (by omega) (by omega) (by omega) _).mono ?_; rw [HY.out]; rintro e w' ⟨rfl, rfl⟩)
              go_round
              case measure => simp only [intOf]; omega
              case rel => exact ⟨K + 1, by go_num, by omega, hid (by rw [HE.out]; exact HOq.out), HAq, by omega, HBq⟩
            · have HPr := hid hP
              clear hP
              go_wp2_with (go_at_call 89; refine (symP_any _ _ P C HPr.out h3 A0.out B0.out (by omega) (by omega) (by omega) (by omega) _ hC3).mono ?_; rw [HY.out]; rintro e w' ⟨rfl, rfl⟩)
              go_round
              case measure => simp only [intOf]; omega
              case rel => exact ⟨K + 1, by go_num, by omega, hid (by rw [HE.out]; exact HOq.out), HAq, by omega, HBq⟩
          · have HE : Hid ((ps.take (K + 1)).filter (fun q => decide (symV a b q = -1)) = (ps.take K).filter (fun q => decide (symV a b q = -1)) ++ [x]) := hid (by rw [HS.out, HY.out]; simp)
            obtain ⟨pre, hpre⟩ : ∃ pre, pre = (ps.take K).filter (fun q => decide (symV a b q = -1)) := ⟨_, rfl⟩
            have hprel : pre.length ≤ 1000000000002 := by rw [hpre]; have := HL.out; omega
            rw [← hpre] at HOq
            have hbs : w.heap.size ≤ wq.heap.size := HBq.out.size
            rcases hfs with ⟨rfl, rfl⟩ | ⟨rfl, rfl⟩ | ⟨P, C, rfl, hP, h3, rfl, hC1, hC2, hC3⟩
            · skip
              go_wp2_with (first | (go_at_call 86; refine (symZero_any _ _ A0.out B0.out _).mono ?_; rw [HY.out]; rintro e w' ⟨rfl, rfl⟩) | (at_builtin; refine wpList_append_own_at _ rfl _ _ 28 rfl w.heap.size 3 i0 (.int .i64 0) 1 8 Try.underlying28 hi hz0 hz1 hz2 rfl (by decide) _ _ _ rfl ((show World.ownsRow _ _ _ _ _ _ _ from HOq.out).alloc _) ⟨wq.heap.size, 0, none⟩ 1 1 [.int .i64 (0 : Int)] rfl rfl (cell_one_new _ _ _) (by simp [Value.oneCell']) (by unfold maxLen; omega) (by omega) (by simp; omega) ?_; intro v' w3 hown' hgrow _ hat))
              have hsg := hgrow.size
              simp only [World.size_alloc] at hsg
              go_round
              case measure => simp only [intOf]; omega
              case rel =>
                refine ⟨K + 1, by go_num, by omega, hid ?_, hid (fun b' o' e => ?_), by omega, hid (HBq.out.alloc hbs _ |>.grown hgrow (by simp; omega) (fun k e => (HOq.out.ge k e)))⟩
                · rw [HE.out, ← hpre]
                  unfold Owns
                  simpa using hown'
                · cases e
                  obtain ⟨q1, q2⟩ := HAq.out bk o rfl
                  refine ⟨?_, ?_⟩
                  · rcases hat with e | e
                    · rw [e]; exact q1
                    · rw [e]; intro h; cases h; simp at hlt2; omega
                  · rw [hgrow.block bk (by simp; omega) (Ne.symm q1), ← q2, Below.heap_alloc _ _ _ (by omega)]
            · skip
              go_wp2_with (first | (go_at_call 88; refine (symbolAtTwo_any _ _ A0.out B0.out (by omega) (by omega) (by omega) (by omega) _).mono ?_; rw [HY.out]; rintro e w' ⟨rfl, rfl⟩) | (at_builtin; refine wpList_append_own_at _ rfl _ _ 28 rfl w.heap.size 3 i0 (.int .i64 0) 1 8 Try.underlying28 hi hz0 hz1 hz2 rfl (by decide) _ _ _ rfl ((show World.ownsRow _ _ _ _ _ _ _ from HOq.out).alloc _) ⟨wq.heap.size, 0, none⟩ 1 1 [.int .i64 (2 : Int)] rfl rfl (cell_one_new _ _ _) (by simp [Value.oneCell']) (by unfold maxLen; omega) (by omega) (by simp; omega) ?_; intro v' w3 hown' hgrow _ hat))
              have hsg := hgrow.size
              simp only [World.size_alloc] at hsg
              go_round
              case measure => simp only [intOf]; omega
              case rel =>
                refine ⟨K + 1, by go_num, by omega, hid ?_, hid (fun b' o' e => ?_), by omega, hid (HBq.out.alloc hbs _ |>.grown hgrow (by simp; omega) (fun k e => (HOq.out.ge k e)))⟩
                · rw [HE.out, ← hpre]
                  unfold Owns
                  simpa using hown'
                · cases e
                  obtain ⟨q1, q2⟩ := HAq.out bk o rfl
                  refine ⟨?_, ?_⟩
                  · rcases hat with e | e
                    · rw [e]; exact q1
                    · rw [e]; intro h; cases h; simp at hlt2; omega
                  · rw [hgrow.block bk (by simp; omega) (Ne.symm q1), ← q2, Below.heap_alloc _ _ _ (by omega)]
            · have HPr := hid hP
              clear hP
              go_wp2_with (first | (go_at_call 89; refine (symP_any _ _ P C HPr.out h3 A0.out B0.out (by omega) (by omega) (by omega) (by omega) _ hC3).mono ?_; rw [HY.out]; rintro e w' ⟨rfl, rfl⟩) | (at_builtin; refine wpList_append_own_at _ rfl _ _ 28 rfl w.heap.size 3 i0 (.int .i64 0) 1 8 Try.underlying28 hi hz0 hz1 hz2 rfl (by decide) _ _ _ rfl ((show World.ownsRow _ _ _ _ _ _ _ from HOq.out).alloc _) ⟨wq.heap.size, 0, none⟩ 1 1 [.int .i64 (P : Int)] rfl rfl (cell_one_new _ _ _) (by simp [Value.oneCell']) (by unfold maxLen; omega) (by omega) (by simp; omega) ?_; intro v' w3 hown' hgrow _ hat))
              have hsg := hgrow.size
              simp only [World.size_alloc] at hsg
              go_round
              case measure => simp only [intOf]; omega
              case rel =>
                refine ⟨K + 1, by go_num, by omega, hid ?_, hid (fun b' o' e => ?_), by omega, hid (HBq.out.alloc hbs _ |>.grown hgrow (by simp; omega) (fun k e => (HOq.out.ge k e)))⟩
                · rw [HE.out, ← hpre]
                  unfold Owns
                  simpa using hown'
                · cases e
                  obtain ⟨q1, q2⟩ := HAq.out bk o rfl
                  refine ⟨?_, ?_⟩
                  · rcases hat with e | e
                    · rw [e]; exact q1
                    · rw [e]; intro h; cases h; simp at hlt2; omega
                  · rw [hgrow.block bk (by simp; omega) (Ne.symm q1), ← q2, Below.heap_alloc _ _ _ (by omega)]
        · obtain rfl : K = ps.length := by omega
          have HE : Hid (splL a b = (ps.take ps.length).filter (fun q => decide (symV a b q = -1))) := hid (by rw [HP.out, List.take_length])
          clear hlt
          go_wp2_with fail
          go_ret
          exact ⟨_, rfl, by rw [HE.out]; exact HO.out, HB.out⟩

end Go.Proofs.Ytdidmblkknnglaa

set_option linter.unusedVariables false
namespace Go.Proofs.Ytdidmblkknnglaa
open Go.RowKit Go.Shelf
attribute [local go_sem] Oper.semAt_some

def prS (a b : Int) : List Int → Int
  | [] => 1
  | q :: t => symV a b q * prS a b t
theorem prS_snoc (a b : Int) (x : Int) : ∀ l : List Int, prS a b (l ++ [x]) = prS a b l * symV a b x
  | [] => by simp [prS]
  | q :: t => by
    show symV a b q * prS a b (t ++ [x]) = symV a b q * prS a b t * symV a b x
    rw [prS_snoc a b x t, Int.mul_assoc]
theorem prS_half {a b : Int} (ha : a ≠ 0) (hb : b ≠ 0) : ∀ l : List Int, (∀ q ∈ l, plI q = true) → prS a b l = halfI ((l.filter (fun q => decide (symV a b q = -1))).length : Nat)
  | [], _ => rfl
  | q :: t, h => by
    have ih := prS_half ha hb t (fun x hx => h x (List.mem_cons_of_mem _ hx))
    unfold prS
    rw [ih]
    rcases symV_val ha hb (h q List.mem_cons_self) with e | e
    · rw [e, List.filter_cons_of_neg (by rw [e]; decide), Int.one_mul]
    · rw [e, List.filter_cons_of_pos (by rw [e]; decide), List.length_cons]
      unfold halfI
      split <;> split <;> omega
theorem prS_small {a b : Int} (ha : a ≠ 0) (hb : b ≠ 0) (l : List Int) (h : ∀ q ∈ l, plI q = true) : -1 ≤ prS a b l ∧ prS a b l ≤ 1 := by
  rw [prS_half ha hb l h]
  exact halfI_small _

set_option maxRecDepth 100000 in
set_option maxHeartbeats 2000000 in
theorem symbolSign_any (a b : Int) (w : World) : Calls Try.prog 27 #[.int .i64 a, .int .i64 b] w fun e w' => e = .returned (.int .i64 (sgnV a b)) ∧ Below w.heap.size w w' := by
  cases hA : factB a with
  | false =>
    have HP : Hid (sgnV a b = 0) := hid (by unfold sgnV okAB; rw [hA]; rfl)
    have HA := hid hA
    clear hA
    go_enter Try.func27, Try.ntmps27
    go_wp2_with (go_at_call 55; refine (factored_any _ _).mono ?_; rw [HA.out]; rintro e w' ⟨rfl, rfl⟩)
    go_ret
    exact ⟨retI HP.out.symm, Below.refl _ _⟩
  | true =>
    cases hBB : factB b with
    | false =>
      have HP : Hid (sgnV a b = 0) := hid (by unfold sgnV okAB; rw [hA, hBB]; rfl)
      have HA := hid hA
      have HBB := hid hBB
      clear hA hBB
      go_enter Try.func27, Try.ntmps27
      go_wp2_with (go_at_call 55; refine (factored_any _ _).mono ?_; (first | rw [HA.out] | rw [HBB.out]); rintro e w' ⟨rfl, rfl⟩)
      go_ret
      exact ⟨retI HP.out.symm, Below.refl _ _⟩
    | true =>
      obtain ⟨a0, a1, a2⟩ := factB_bd hA
      obtain ⟨b0, b1, b2⟩ := factB_bd hBB
      have hmb := mul_bdI a1 a2 b1 b2
      have hm1 := hmb.1
      have hm2 := hmb.2
      have A0 := hid a0
      have B0 := hid b0
      have M0 := hid (Int.mul_ne_zero a0 b0)
      have HA := hid hA
      have HBB := hid hBB
      have HP : Hid (sgnV a b = prS a b (placesG (a * b))) := hid (by
        rw [prS_half a0 b0 _ (placesG_pl a0 b0 a1 a2 b1 b2)]
        unfold sgnV splL okAB
        rw [hA, hBB]
        rfl)
      have hpl := placesG_len M0.out (by omega) (by omega)
      have HPP := hid (placesG_pl a0 b0 a1 a2 b1 b2)
      clear a0 b0 hA hBB hmb
      go_enter Try.func27, Try.ntmps27
      go_wp2_with (first | (go_at_call 55; refine (factored_any _ _).mono ?_; (first | rw [HA.out] | rw [HBB.out]); rintro e w' ⟨rfl, rfl⟩) | (go_at_call 64; refine (placesOfG_any _ M0.out hm1 hm2 _).mono ?_; rintro e w2 ⟨v, rfl, ho, hb⟩))
      obtain ⟨ps, hps⟩ : ∃ ps, ps = placesG (a * b) := ⟨_, rfl⟩
      rw [← hps] at ho hpl HP HPP
      obtain ⟨ad, cap, rfl, hform⟩ := ho.rd.form
      have HFM := hid hform
      have HLT := hid ho.lt
      have HB1 := hid hb
      clear ho hform hb hps
      go_wp2_with fail
      simp only [Builtin.len_]
      go_simp
      go_wp2_with fail
      go_loopw [5, 21] (fun ss si wr => ∃ (K : Nat) (s : Int), si = .int .i64 K ∧ ss = .int .i64 s ∧ K ≤ ps.length ∧ -1 ≤ s ∧ s ≤ 1 ∧ Hid (s = prS a b (ps.take K)) ∧ w2.heap.size ≤ wr.heap.size ∧ Hid (Below w2.heap.size w2 wr)) (fun _ si _ => ps.length - (intOf si).toNat)
      case atStart => exact ⟨0, 1, rfl, rfl, by omega, by omega, by omega, hid rfl, Nat.le_refl _, hid (Below.refl _ _)⟩
      case round =>
        obtain ⟨K, s, rfl, rfl, hK, s1, s2, HS, hsz, HB⟩ := hrel
        rename World => wr
        by_cases hlt : K < ps.length
        · obtain ⟨bk, o, rfl, hml, hc⟩ := HFM.out (by omega)
          obtain ⟨x, hx⟩ : ∃ x, x = ps.getD K 0 := ⟨_, rfl⟩
          have hxm : x ∈ ps := by rw [hx, getD_at _ _ hlt]; exact List.getElem_mem _
          have hxp := HPP.out x hxm
          have hx2 := plI_bd hxp
          have hx3 := hx2.1
          have hx4 := hx2.2
          have HXP := hid hxp
          have hlt2 := HLT.out bk rfl
          have hcell := (World.cell?_of_block (HB.out.block bk hlt2)).trans (hc K hlt)
          rw [← hx] at hcell
          have HT : Hid (ps.take (K + 1) = ps.take K ++ [x]) := hid (by rw [List.take_succ_eq_append_getElem hlt, hx, getD_at _ _ hlt])
          have hi0 : (K : Int) < (ps.length : Int) := by omega
          unfold maxLen at hml
          obtain ⟨y, hy⟩ : ∃ y, y = symV a b x := ⟨_, rfl⟩
          have hyv := symV_val A0.out B0.out hxp
          rw [← hy] at hyv
          have y1 : -1 ≤ y := by omega
          have y2 : y ≤ 1 := by omega
          have hsy := small_mul s1 s2 y1 y2
          have p1 := hsy.1
          have p2 := hsy.2
          have HY := hid hy.symm
          have HN : Hid (s * y = prS a b (ps.take (K + 1))) := hid (by rw [HT.out, prS_snoc, HS.out, hy])
          clear hc hx hxm hxp hx2 hy hyv hsy
          go_wp2_with fail
          refine (symbolAt_any x HXP.out _).mono ?_
          rintro e wq ⟨fv, rfl, hfs, hbq⟩
          have hsq0 := hbq.size
          have HBq := hid (HB.out.trans (hbq.mono HB.out.size))
          clear hbq
          rcases hfs with ⟨rfl, rfl⟩ | ⟨rfl, rfl⟩ | ⟨P, C, rfl, hP, h3, rfl, hC1, hC2, hC3⟩
          · go_wp2_with (go_at_call 86; refine (symZero_any _ _ A0.out B0.out _).mono ?_; rw [HY.out]; rintro e w' ⟨rfl, rfl⟩)
            go_round
            case measure => simp only [intOf]; omega
            case rel => exact ⟨K + 1, s * y, by go_num, rfl, by omega, p1, p2, HN, by omega, HBq⟩
          · go_wp2_with (go_at_call 88; refine (symbolAtTwo_any _ _ A0.out B0.out (by omega) (by omega) (by omega) (by omega) _).mono ?_; rw [HY.out]; rintro e w' ⟨rfl, rfl⟩)
            go_round
            case measure => simp only [intOf]; omega
            case rel => exact ⟨K + 1, s * y, by go_num, rfl, by omega, p1, p2, HN, by omega, HBq⟩
          · have HPr := hid hP
            clear hP
            go_wp2_with (go_at_call 89; refine (symP_any _ _ P C HPr.out h3 A0.out B0.out (by omega) (by omega) (by omega) (by omega) _ hC3).mono ?_; rw [HY.out]; rintro e w' ⟨rfl, rfl⟩)
            go_round
            case measure => simp only [intOf]; omega
            case rel => exact ⟨K + 1, s * y, by go_num, rfl, by omega, p1, p2, HN, by omega, HBq⟩
        · obtain rfl : K = ps.length := by omega
          have HE : Hid (s = sgnV a b) := hid (by rw [HP.out, HS.out, List.take_length])
          clear hlt
          go_wp2_with fail
          go_ret
          exact ⟨retI HE.out, HB1.out.trans (HB.out.mono HB1.out.size)⟩

end Go.Proofs.Ytdidmblkknnglaa

namespace Go.Proofs.Ytdidmblkknnglaa.fnSymbolPlaces
open Go.ChangeShapes Go.WideShapes Go.ChangeAt Go.RowKit
open Go.ChangeMaps (open_string shut_string)
set_option linter.unusedVariables false
theorem spl_facts {a b q : Int} (O : okAB a b = true) (hq : q ∈ splL a b) : symOfV a b q = -1 ∧ lsV a q = false ∧ lsV b q = false ∧ 0 ≤ q ∧ q ≤ 5000 := by
  obtain ⟨hp, hs⟩ := (mem_spl O).1 hq
  have hb := plI_bd hp
  rcases okAB_cases a b with ⟨a1, a2, a0, b1, b2, b0, _⟩ | hO
  · refine ⟨by rw [symOf_yes O hp]; exact hs, ?_, ?_, hb.1, hb.2⟩
    · unfold lsV
      rw [okAt_yes a1 a2 a0 hp, Bool.true_and]
      cases h : sqAt a q
      · rfl
      · rw [symV_comm a0 b0 hp, symV_sq b0 hp h] at hs; cases hs
    · unfold lsV
      rw [okAt_yes b1 b2 b0 hp, Bool.true_and]
      cases h : sqAt b q
      · rfl
      · rw [symV_sq a0 hp h] at hs; cases hs
  · rw [O] at hO; cases hO
theorem spl_ok {a b : Int} (h : splL a b ≠ []) : okAB a b = true := by
  unfold splL at h
  by_cases O : okAB a b = true
  · exact O
  · rw [if_neg O] at h; exact absurd rfl h
theorem half_even {n : Nat} (h : halfI (n : Int) = 1) : n % 2 = 0 := by
  unfold halfI at h
  by_cases e : (n : Int) % 2 = 0
  · omega
  · rw [if_neg e] at h; cases h

set_option maxRecDepth 100000 in
set_option maxHeartbeats 4000000 in
theorem walk  (a0 : Option Addr) (len0 cap0 : Nat) (z0 : List Int) (w : World) (w0 : IsRow .u8 w a0 len0 cap0 z0) :
    Calls Try.prog 5 #[.slice a0 len0 cap0] w fun e w' => e = .returned (.bool true) ∧ Below w.heap.size w w' := by
  have HC := hid (codeIn_of w0)
  clear w0
  by_cases hl : (1048576 : Int) < (len0 : Int)
  · go_enter Try.func5, Try.ntmps5
    go_wp2
    go_ret
    exact ⟨rfl, Below.refl _ _⟩
  · go_enter Try.func5, Try.ntmps5
    go_wp2_with fail
    refine (drawSymbolPlaces_any _ len0 _ HC.out).mono ?_
    rintro e w1 ⟨a, b, rfl, ⟨ha, hp⟩, hb⟩
    have HEV := hid (even_drawn ha hp)
    have HSG := hid (sgn_drawn ha hp)
    have hsa := numOk_small ha
    have hsb := parOk_small ha hp
    clear ha hp
    obtain ⟨L, hL⟩ : ∃ L, L = splL a b := ⟨_, rfl⟩
    have HLE := hid hL
    have hll := splL_len (a := a) (b := b)
    rw [← hL] at hll
    have HI : Hid (∀ w : World, Calls Try.prog 23 #[.int .i64 a, .int .i64 b] w fun e w' => ∃ v, e = .returned v ∧ Owns w' w.heap.size v L ∧ Below w.heap.size w w') := hid (fun w => by rw [HLE.out]; exact symbolPlaces_any a b w)
    have HI2 : Hid (∀ w : World, Calls Try.prog 23 #[.int .i64 b, .int .i64 a] w fun e w' => ∃ v, e = .returned v ∧ Owns w' w.heap.size v L ∧ Below w.heap.size w w') := hid (fun w => by rw [HLE.out, spl_comm]; exact symbolPlaces_any b a w)
    have HJ : Hid (∀ w : World, Calls Try.prog 24 #[.int .i64 a, .int .i64 b] w fun e w' => ∃ v, e = .returned v ∧ Owns w' w.heap.size v L ∧ Below w.heap.size w w') := hid (fun w => by rw [HLE.out]; exact symbolPlacesS_any a b w)
    clear hL
    go_wp2_with fail
    refine (HI.out _).mono ?_
    rintro e w2 ⟨v1, rfl, o1, b1⟩
    have O1 := hid o1
    have hB1 := hb.trans (b1.mono hb.size)
    clear o1
    go_wp2_with fail
    refine (HJ.out _).mono ?_
    rintro e w3 ⟨v2, rfl, o2, b2⟩
    have O1b := hid (O1.out.keep O1.out.lt b2)
    have O2 := hid o2
    have HB2 := hid (hB1.trans (b2.mono hB1.size))
    clear o2 hb b1 b2 hB1
    go_wp2_with fail
    refine (sameInts_any _ _ _ _ _ O1b.out.rd O2.out.rd).mono ?_
    rintro e w4 ⟨rfl, kk, hw4⟩
    have HB4 : Hid (Below w.heap.size w w4) := hid (by rw [hw4]; exact below_drewN HB2.out kk)
    have HO4 : Hid (Owns w4 w1.heap.size v1 L) := hid (by rw [hw4]; exact O1b.out.drewN kk)
    have HQ4 : Hid (Owns w4 w2.heap.size v2 L) := hid (by rw [hw4]; exact O2.out.drewN kk)
    have HD : decide (L = L) = true := by simp
    clear hw4
    by_cases hL0 : L = []
    · subst hL0
      obtain ⟨ad, cap, rfl, hform⟩ := HO4.out.rd.form
      clear hform
      go_wp2_with fail
      refine (sameInts_any _ _ [] [] _ HO4.out.rd HQ4.out.rd).mono ?_
      rintro e w5 ⟨rfl, k5, hw5⟩
      go_wp2
      go_ret
      exact ⟨retB (by simp), by (try rw [hw5]); exact below_drewN HB4.out k5⟩
    · have O := spl_ok (a := a) (b := b) (by rw [← HLE.out]; exact hL0)
      have hLp : 0 < L.length := List.length_pos_iff.2 hL0
      have HFACT : Hid (∀ q ∈ L, symOfV a b q = -1 ∧ lsV a q = false ∧ lsV b q = false ∧ 0 ≤ q ∧ q ≤ 5000) := hid (fun q hq => spl_facts O (by rw [← HLE.out]; exact hq))
      have hev : L.length % 2 = 0 := by rw [HLE.out]; exact half_even (HEV.out O)
      have HS1 : Hid (sgnV a b = 1) := hid (by rw [HSG.out, O]; rfl)
      have HRD := hid HO4.out.rd
      have hlt4 := HO4.out.lt
      obtain ⟨ad, cap, rfl, hform⟩ := HO4.out.rd.form
      obtain ⟨bn, o, rfl, hml, hcells⟩ := hform hLp
      have hblt := hlt4 bn rfl
      have HCL := hid hcells
      have HRK : Hid (∀ wx, Below w4.heap.size w4 wx → Rd wx (.slice (some ⟨bn, o, none⟩) L.length cap) L) := hid (fun wx hbx => (HO4.out.keep hlt4 hbx).rd)
      unfold maxLen at hml
      have TL : ((L.length : Int) == 0) = false := by rw [beq_eq_false_iff_ne]; omega
      have TE : (((L.length : Int) % 2) == 0) = true := by rw [beq_iff_eq]; omega
      clear hform hcells hL0 O hlt4 hev
      go_wp2_with fail
      go_loopw [7] (fun si wr => ∃ K : Nat, si = .int .i64 K ∧ K ≤ L.length ∧ Below w4.heap.size w4 wr) (fun si _ => L.length - (intOf si).toNat)
      case atStart => exact ⟨0, rfl, by omega, Below.refl _ _⟩
      case round =>
        obtain ⟨K, rfl, hK, hBr⟩ := hrel
        rename World => wr
        by_cases hlt : K < L.length
        · obtain ⟨q, hq⟩ : ∃ q, q = L.getD K 0 := ⟨_, rfl⟩
          have hmem : q ∈ L := by rw [hq, getD_at _ _ hlt]; exact List.getElem_mem _
          obtain ⟨f1, f2, f3, f4, f5⟩ := HFACT.out _ hmem
          have F1 := hid f1
          have F2 := hid f2
          have F3 := hid f3
          have c1 := (hBr.cell (p := ⟨bn, o + K, none⟩) hblt).trans (HCL.out K hlt)
          rw [← hq] at c1
          have HCC : Hid (∀ wx, Below w4.heap.size w4 wx → wx.cell? ⟨bn, o + K, none⟩ = some (.int .i64 q)) := hid (fun wx hbx => by rw [hbx.cell (p := ⟨bn, o + K, none⟩) hblt, HCL.out K hlt, hq])
          have hK0 : (K : Int) < (L.length : Int) := by omega
          clear f1 f2 f3 hmem hq
          go_wp2_with fail
          refine (symbolOf_any a b q _).mono ?_
          rw [F1.out]
          rintro e wa ⟨rfl, hba⟩
          have hB2 := hBr.trans (hba.mono hBr.size)
          have c2 := HCC.out _ hB2
          go_wp2_with fail
          refine (localSquare_any a q _).mono ?_
          rw [F2.out]
          rintro e wb ⟨rfl, hbb⟩
          have hB3 := hB2.trans (hbb.mono hB2.size)
          have c3 := HCC.out _ hB3
          go_wp2_with fail
          refine (localSquare_any b q _).mono ?_
          rw [F3.out]
          rintro e wc ⟨rfl, hbc⟩
          have hB4 := hB3.trans (hbc.mono hB3.size)
          go_wp2
          go_round
          case measure => simp only [intOf]; omega
          case rel => exact ⟨K + 1, by go_num, by omega, hB4⟩
        · obtain rfl : K = L.length := by omega
          clear hlt
          have HBW := hid (HB4.out.trans (hBr.mono HB4.out.size))
          go_wp2_with fail
          refine (HI2.out _).mono ?_
          rintro e w6 ⟨v3, rfl, o3, b3⟩
          have O3 := hid o3
          have HRO := hid (HRK.out _ (hBr.trans (b3.mono hBr.size)))
          have HB6 := hid (HBW.out.trans (b3.mono HBW.out.size))
          clear o3 b3
          go_wp2_with fail
          refine (sameInts_any _ _ _ _ _ O3.out.rd HRO.out).mono ?_
          rintro e w7 ⟨rfl, k7, hw7⟩
          have HB7 : Hid (Below w.heap.size w w7) := hid (by rw [hw7]; exact below_drewN HB6.out k7)
          clear hw7
          go_wp2_with fail
          refine (symbolSign_any a b _).mono ?_
          rw [HS1.out]
          rintro e w8 ⟨rfl, hb8⟩
          have HB8 := hid (HB7.out.trans (hb8.mono HB7.out.size))
          clear hb8
          go_wp2
          go_ret
          exact ⟨rfl, HB8.out⟩
theorem own : ownKnob Try.prog.godebug = none := by kernel_rfl
theorem laidOut : laidOutB Try.prog = true := by kernel_rfl
set_option maxRecDepth 100000 in
theorem lifted (os : Os) (started : os.Started) (H : Type) (enc : TypeId × Value → H) :
    ReturnsInHanded {} Try.checked os 5 .any (Rows.fnSymbolPlacesSpec.pre6 enc Try.prog Try.f5 Rows.fnSymbolPlacesRow.domain false) (Rows.fnSymbolPlacesSpec.post enc Try.prog Try.f5 false true false false) := by
  refine returnsInHanded_of_change (C := Try.checked) own started (by kernel_rfl) Try.func5
    (ChangeSpec.witness6 (enc := enc) (C := Try.checked) false ⟨#[], #[.slice none 0 0], []⟩ 8 (by kernel_rfl) (by kernel_rfl) (by kernel_rfl) (by kernel_rfl)) ?_
  intro W base args ds gs before hval0 hW hcnd _
  have hval : ∀ (j : Nat) t v, Try.f5.params[j]? = some t → args[j]? = some v → Value.okWide Try.prog W .any base t v := hval0
  have hW' := hW
  obtain ⟨p, q, hA0, hV, rfl, hfz, hnd⟩ := hW
  have hA : DataW.TrodAll enc Try.prog W 0 (fun _ => true) true Try.f5.params.toList args.toList ds p := hA0
  rw [Try.params5] at hA hval
  obtain ⟨v0, vs0, d0, ds0, p0, q0, hargs, rfl, rfl, h0, r0⟩ := trodAll_cons hA
  obtain ⟨rfl, rfl, rfl⟩ := trodAll_nil r0
  obtain rfl : args = #[v0] := by cases args; simp_all
  obtain ⟨rfl, rfl⟩ := trodVars_none hV
  obtain ⟨a0, len0, cap0, rfl⟩ := okWide_slice Try.underlying22 (hval 0 22 v0 rfl rfl)
  have k0 := h0
  have lt0 : ∀ x ∈ p0, x.block < W.heap.size := by obtain ⟨m, hm⟩ := k0; exact DataW.trod_lt m _ _ _ hm
  obtain ⟨z0, w0⟩ : ∃ zs, IsRow .u8 W a0 len0 cap0 zs := by
    obtain ⟨fuel, hf⟩ := h0
    rcases open_ints Try.underlying22 Try.underlying5 (by kernel_rfl) hf with ⟨hcs, _⟩ | ⟨x, l, c, zs, hcs, _, hl, hm, hz, _, hcell, hwz⟩
    · simp [Value.cells] at hcs
      obtain ⟨rfl, rfl, rfl⟩ := hcs
      exact ⟨[], .inl ⟨rfl, rfl, rfl, rfl⟩⟩
    · simp [Value.cells] at hcs
      obtain ⟨rfl, rfl, rfl⟩ := hcs
      exact ⟨zs, .inr ⟨_, rfl, hl, hm, by simpa using hz, hcell, hwz⟩⟩
  clear hA0 hval0
  refine (walk a0 len0 cap0 z0 W w0).mono fun e W' ⟨he, bel⟩ => ?_
  subst he
  exact ⟨_, rfl, _, _, _, [], _, [], hW', trodAll_mk1 (shut_bool Try.underlying4 _), (trodAll_cons_mk (Below.trod laidOut (by kernel_rfl) (of_decide_eq_true (by kernel_rfl)) k0 bel lt0) trodAll_mk0), rfl, bel.frame _, fun h => by cases h⟩
theorem over : Rows.fnSymbolPlacesRow.holds Try.pinned (OpenSpec.ofChange Rows.fnSymbolPlacesSpec) :=
  OpenClaim.holds_of_wide 5 Try.f5 rfl rfl rfl rfl rfl rfl rfl ⟨rfl, rfl, rfl, rfl, rfl⟩ rfl rfl rfl rfl rfl (by kernel_rfl) Try.func5 (by kernel_rfl)
    (of_decide_eq_true (by kernel_rfl)) (by unfold Func.isWrapper; first | (rw [if_pos (by decide +kernel)]; kernel_rfl) | (rw [if_neg (by decide +kernel)]; exact ⟨rfl, rfl⟩))
    (fun os started H enc _ => lifted os started H enc)
theorem proved : Rows.FnSymbolPlacesSaid := over
end Go.Proofs.Ytdidmblkknnglaa.fnSymbolPlaces
