/-
  Some texts in one file: SlEq Zp1b Zvec1 Vecs RangeV.
-/
import Derived.Test.YtenibnblibnocabBun16
import Derived.BigQuiet
import Derived.Test.YtenibnblibnocabZp1
import Derived.Test.YtenibnblibnocabOwn2
import Derived.Laws.CopyOwn
import Derived.Laws.OwnMore
import Derived.Deep.OwnRows
import Derived.StillTailTactics
import Derived.Test.YtenibnblibnocabBun0
import Derived.RangeFuncNested
/-! SlEq -/
set_option linter.unusedVariables false
namespace Go.Proofs.Ytenibnblibnocab
open Go.RowKit Go.Shelf

set_option maxRecDepth 100000 in
set_option maxHeartbeats 1000000 in
theorem slEq_any (va vb : Value) (X Y : List Int) (w3 : World) (hx : Rd w3 va X) (hy : Rd w3 vb Y) (hl1 : X.length ≤ 1000000000002) (hl2 : Y.length ≤ 1000000000002) :
    Calls Try.prog 110 #[va, vb] w3 fun e w' => e = .returned (.bool (decide (X = Y))) ∧ ∃ k, w' = w3.drewN k := by
  obtain ⟨ax, cx, rfl, hfx⟩ := hx.form
  obtain ⟨ay, cy, rfl, hfy⟩ := hy.form
  have HFX := hid hfx
  have HFY := hid hfy
  clear hfx hfy hx hy
  by_cases hl : X.length = Y.length
  · have T : ((X.length : Int) != (Y.length : Int)) = false := by rw [bne_eq_false_iff_eq]; omega
    have HL := hid hl
    clear hl
    go_enter Try.func110, Try.ntmps110
    go_wp2
    go_loopw [13] (fun si wr => ∃ K k : Nat, si = .int .i64 K ∧ K ≤ X.length ∧ Hid (∀ j, j < K → X.getD j 0 = Y.getD j 0) ∧ wr = w3.drewN k) (fun si _ => X.length - (intOf si).toNat)
    case atStart => exact ⟨0, 0, rfl, by omega, hid (fun j hj => absurd hj (by omega)), rfl⟩
    case round =>
      obtain ⟨K, k, rfl, hK, HE, rfl⟩ := hrel
      by_cases hlt : K < X.length
      · obtain ⟨b1, o1, rfl, m1, hc1⟩ := HFX.out (by omega)
        obtain ⟨b2, o2, rfl, m2, hc2⟩ := HFY.out (by have := HL.out; omega)
        obtain ⟨x, hx⟩ : ∃ x, x = X.getD K 0 := ⟨_, rfl⟩
        obtain ⟨y, hy⟩ : ∃ y, y = Y.getD K 0 := ⟨_, rfl⟩
        have c1 := hc1 K hlt
        have c2 := hc2 K (by have := HL.out; omega)
        rw [← hx] at c1
        rw [← hy] at c2
        have Hx := hid hx
        have Hy := hid hy
        have hi : (K : Int) < (X.length : Int) := by omega
        have hi2 : (K : Int) < (Y.length : Int) := by have := HL.out; omega
        unfold maxLen at m1 m2
        clear hc1 hc2 hx hy
        by_cases hxy : x = y
        · have T2 : (x != y) = false := by rw [bne_eq_false_iff_eq]; exact hxy
          have HXY := hid hxy
          clear hxy
          go_wp2
          go_quiet (fail)
          go_wp2
          go_roundw
          case rel => exact ⟨K + 1, _, by go_num, by omega, hid (by intro j hj; by_cases e : j = K; (· rw [e, ← Hx.out, ← Hy.out, HXY.out]); (· exact HE.out j (by omega))), by first | rfl | exact World.drewN_drewN ..⟩
          case measure => simp only [intOf]; omega
        · have T2 : (x != y) = true := by rw [bne_iff_ne]; exact hxy
          have HXY := hid hxy
          have HF : Hid (decide (X = Y) = false) := hid (decide_eq_false (fun e => HXY.out (by rw [Hx.out, Hy.out, e])))
          clear hxy
          go_wp2
          go_quiet (fail)
          go_wp2
          go_ret
          exact ⟨retB HF.out.symm, by first | exact ⟨_, rfl⟩ | (rw [World.drewN_drewN]; exact ⟨_, rfl⟩)⟩
      · obtain rfl : K = X.length := by omega
        have HT : Hid (decide (X = Y) = true) := hid (by
          refine decide_eq_true (List.ext_getElem HL.out fun j h1 h2 => ?_)
          have := HE.out j h1
          rw [getD_at _ _ h1, getD_at _ _ h2] at this
          exact this)
        clear hlt
        go_wp2
        go_ret
        exact ⟨retB HT.out.symm, ⟨k, rfl⟩⟩
  · have T : ((X.length : Int) != (Y.length : Int)) = true := by rw [bne_iff_ne]; omega
    have HF : Hid (decide (X = Y) = false) := hid (decide_eq_false (fun e => hl (by rw [e])))
    clear hl
    go_enter Try.func110, Try.ntmps110
    go_wp2
    go_ret
    exact ⟨retB HF.out.symm, ⟨0, rfl⟩⟩

end Go.Proofs.Ytenibnblibnocab

/-! Zp1b -/
set_option linter.unusedVariables false
namespace Go.Proofs.Ytenibnblibnocab
open Go.RowKit

set_option maxRecDepth 100000 in
set_option maxHeartbeats 1000000 in
theorem plainIs_any (v : Value) (vs : List Int) (w : World) (hv : Rd w v vs) (hl : vs.length ≤ 4) (h6 : Vec11 vs) : Calls Try.prog 94 #[v] w fun e w' => e = .returned (.bool (someB vs && plainB vs)) ∧ Below w.heap.size w w' := by
  have HV := hid hv
  obtain ⟨a', cap', rfl, _⟩ := hv.form
  have H6 := hid h6
  have hgb : hgtL vs ≤ 100000000000 := hgt_le fun x hx => by have := h6 x hx; omega
  clear hv h6
  cases hs : someB vs with
  | false =>
    have hg0 : ¬ (0 < hgtL vs) := fun h => by rw [hgt_some, hs] at h; cases h
    have hg : hgtL vs = 0 := by omega
    have HG := hid hg
    clear hg hg0 hs hgb
    go_enter Try.func94, Try.ntmps94
    go_wp2_with (go_at_call 100; refine (heightOfW_any _ vs _ HV.out hl H6.out).mono ?_; rw [HG.out]; rintro e w' ⟨rfl, rfl⟩)
    go_ret
    exact ⟨rfl, Below.refl _ _⟩
  | true =>
    have HS := hid (someB_iff.1 hs)
    have hg0 : 0 < hgtL vs := hgt_some.2 hs
    obtain ⟨g, hg⟩ : ∃ g, g = hgtL vs := ⟨_, rfl⟩
    rw [← hg] at hg0 hgb
    have HG := hid hg.symm
    have hg1 : (0 : Int) < (g : Int) := by omega
    have hpl := plainL_len vs
    obtain ⟨J, hJ⟩ : ∃ J, J = plainL vs := ⟨_, rfl⟩
    obtain ⟨D, hD⟩ : ∃ D, D = decide (J = vs) := ⟨_, rfl⟩
    have HD : Hid ((true && plainB vs) = D) := hid (by rw [hD, hJ]; rfl)
    have HPL : Hid (∀ (vv : Value) (wx : World), Rd wx vv vs → Calls Try.prog 64 #[vv] wx fun e w' => ∃ u, e = .returned u ∧ Owns w' wx.heap.size u J ∧ Below wx.heap.size wx w') := hid (fun vv wx hr => by rw [hJ]; exact plainOfW_any vv vs wx hr hl H6.out HS.out)
    have HEQ : Hid (∀ (va vb : Value) (wx : World), Rd wx va J → Rd wx vb vs → Calls Try.prog 110 #[va, vb] wx fun e w' => e = .returned (.bool D) ∧ ∃ n, w' = wx.drewN n) := hid (fun va vb wx h1 h2 => by rw [hD]; exact slEq_any va vb J vs wx h1 h2 (by rw [hJ, hpl]; omega) (by omega))
    clear hg hg0 hs hgb hpl hJ hD
    go_enter Try.func94, Try.ntmps94
    go_wp2_with (go_at_call 100; refine (heightOfW_any _ vs _ HV.out hl H6.out).mono ?_; rw [HG.out]; rintro e w' ⟨rfl, rfl⟩)
    refine (HPL.out _ _ HV.out).mono ?_
    rintro e w3 ⟨u, rfl, ho3, hb3⟩
    have HV3 := hid (HV.out.keep hb3)
    go_wp2_with fail
    refine (HEQ.out _ _ _ ho3.rd HV3.out).mono ?_
    rintro e w4 ⟨rfl, n4, rfl⟩
    go_wp2_with fail
    go_ret
    exact ⟨retB HD.out.symm, below_drewN hb3 n4⟩

end Go.Proofs.Ytenibnblibnocab

/-! Zvec1 -/
set_option linter.unusedVariables false
namespace Go.Proofs.Ytenibnblibnocab
open Go.RowKit

set_option maxRecDepth 100000 in
set_option maxHeartbeats 2000000 in
theorem mul64_any (c : Nat) (h1 : 1 ≤ c) (h4 : c ≤ 4) (w : World) : Calls Try.prog 119 #[.int .u64 1, .int .u64 (c : Int)] w fun e w' => e = .returned (.tuple #[.int .u64 0, .int .u64 (c : Int)]) ∧ w = w' := by
  have hc : c = 1 ∨ c = 2 ∨ c = 3 ∨ c = 4 := by omega
  rcases hc with rfl | rfl | rfl | rfl
  all_goals (
    go_enter Try.func119, Try.ntmps119
    go_wp2
    go_ret2
    exact ⟨rfl, rfl⟩)

set_option maxRecDepth 100000 in
set_option maxHeartbeats 2000000 in
theorem mul_any (c : Nat) (h1 : 1 ≤ c) (h4 : c ≤ 4) (w : World) : Calls Try.prog 115 #[.int .u64 1, .int .u64 (c : Int)] w fun e w' => e = .returned (.tuple #[.int .u64 0, .int .u64 (c : Int)]) ∧ w = w' := by
  have HM := hid (fun w => mul64_any c h1 h4 w)
  go_enter Try.func115, Try.ntmps115
  go_wp2_with (go_at_call 119; refine (HM.out _).mono ?_; rintro e w' ⟨rfl, rfl⟩)
  go_ret2
  exact ⟨rfl, rfl⟩

theorem rd_one9 {w : World} {v : Value} {x : Int} (h : Rd w v [x]) : ∃ g o cap, v = .slice (some ⟨g, o, none⟩) 1 cap ∧ w.cell? ⟨g, o, none⟩ = some (.int .i64 x) := by
  obtain ⟨ad, cap, rfl, hform⟩ := h.form
  obtain ⟨g, o, rfl, _, hc⟩ := hform (by simp)
  exact ⟨g, o, cap, rfl, hc 0 (by simp)⟩

theorem made_row (c : Nat) (h1 : 1 ≤ c) (h4 : c ≤ 4) : (madeCells #[.int .i64 0] c : Array Value) = (List.replicate c (.int .i64 0) : List Value).toArray := by
  exact Array.toList_inj.1 (toList_madeCells_one _ _)
theorem one_at {w : World} {a : Addr} {x : Int} (h : w.cell? a = some (.int .i64 x)) : ∀ (j : Nat) (v : Value), [Value.int .i64 x][j]? = some v → w.cell? (a.add j) = some v := by
  intro j v hj
  match j with
  | 0 => simp at hj; subst hj; simpa [Addr.add] using h
  | j + 1 => simp at hj
def rowR (x : Int) (c K : Nat) : List Value := List.replicate K (.int .i64 x) ++ List.replicate (c - K) (.int .i64 0)
theorem rowR_len (x : Int) {c K : Nat} (h : K ≤ c) : (rowR x c K).length = c := by unfold rowR; rw [List.length_append, List.length_replicate, List.length_replicate]; omega
theorem rowR_splice (x : Int) {c K : Nat} (h : K ≤ c) (m : Nat) (hm : K + m ≤ c) : splice (rowR x c K) K (List.replicate m (.int .i64 x)) = rowR x c (K + m) := by
  unfold splice rowR
  rw [List.take_append_of_le_length (by simp), List.take_of_length_le (by simp), List.length_replicate, List.drop_append, List.drop_eq_nil_of_le (by simp), List.nil_append, List.length_replicate, List.drop_replicate, ← List.append_assoc, List.replicate_append_replicate]
  congr 2
  omega
theorem rowR_at (x : Int) {c K j : Nat} (h : j < K) : (rowR x c K)[j]? = some (.int .i64 x) := by
  unfold rowR
  rw [List.getElem?_append_left (by simpa using h), List.getElem?_replicate, if_pos h]
theorem rowR_full (x : Int) (c : Nat) : rowR x c c = (List.replicate c x).map (Value.int .i64) := by
  unfold rowR; rw [Nat.sub_self]; simp

theorem owns_row {W : World} {B g c : Nat} {xs : List Int} (h : W.heap[g]? = some (.cells ((xs).map (Value.int .i64)).toArray 3 (0, 0))) (hB : B ≤ g) (hl : xs.length = c) (hm : c ≤ maxLen) : Owns W B (.slice (some ⟨g, 0, none⟩) c c) xs := by
  subst hl
  refine ⟨by simp, .inr ⟨g, xs.length, _, rfl, hB, h, Nat.le_refl _, hm, by simp, ?_⟩⟩
  rw [List.take_of_length_le (by simp)]

theorem copy_run (wd : World) (g dLen dCap sLen sCap : Nat) (rk : List Value) (hg : wd.heap[g]? = some (.cells rk.toArray 3 (0, 0))) (cs : List Value) {m : Nat} (hl : cs.length = m) (hsrc : ∀ (j : Nat) (v : Value), cs[j]? = some v → wd.cell? ((⟨g, 0, none⟩ : Addr).add j) = some v) {K : Nat} (hfit : K + m ≤ rk.length) (hm : m = min sLen dLen) (h1 : ∀ v ∈ cs, v.oneCell' = true) (hsz : (Try.prog.info? 3).map (·.size) = some 1) :
    (Builtin.copy_ #[23, 23] 3 #[.slice (some ⟨g, K, none⟩) dLen dCap, .slice (some ⟨g, 0, none⟩) sLen sCap]).run Try.prog wd = .ok (goInt m) (wd.setRow g (splice rk K cs).toArray) := by
  have h := run_copy_row (P := Try.prog) wd 23 23 3 3 g K dLen dCap ⟨g, 0, none⟩ sLen sCap rk.toArray 3 cs Try.underlying23 hsz hg (by rw [hl, hm]) hsrc (by simpa [hl] using hfit) h1
  rw [hl] at h
  rw [h]
  unfold splice
  simp [hl]
theorem copy_below {w wd : World} {g : Nat} {rk : List Value} (hb : Below g w wd) (hg : wd.heap[g]? = some (.cells rk.toArray 3 (0, 0))) (l : List Value) : Below g w (wd.setRow g l.toArray) ∧ (wd.setRow g l.toArray).heap[g]? = some (.cells l.toArray 3 (0, 0)) :=
  ⟨below_setRow hb (Nat.le_refl _) _, setRow_heap wd g _ _ 3 _ hg⟩

set_option maxRecDepth 100000 in
set_option maxHeartbeats 400000 in
theorem repeat_any (a : Value) (x : Int) (c : Nat) (h1 : 1 ≤ c) (h4 : c ≤ 4) (w : World) (h : Rd w a [x]) :
    Calls Try.prog 107 #[a, .int .i64 (c : Int)] w fun e w' => e = .returned (.slice (some ⟨w.heap.size, 0, none⟩) c c) ∧ Owns w' w.heap.size (.slice (some ⟨w.heap.size, 0, none⟩) c c) (List.replicate c x) ∧ Below w.heap.size w w' := by
  obtain ⟨i0, hi, hz0, hz1, hz2⟩ := info_parts infoInt
  obtain ⟨g, o, cap, rfl, hcell⟩ := rd_one9 h
  have hg : g < w.heap.size := by
    obtain ⟨ob, ho, _⟩ := cells_of_cell hcell
    exact (Array.getElem?_eq_some_iff.1 ho).1
  have HM := hid (fun w => mul_any c h1 h4 w)
  have HB := hid ((Below.refl w.heap.size w).alloc (Nat.le_refl _) (.cells (rowR x c 0).toArray 3))
  have HR : Hid (((w.alloc (.cells (rowR x c 0).toArray 3))).heap[w.heap.size]? = some (.cells (rowR x c 0).toArray 3 (0, 0))) := hid (World.alloc_heap_new w _)
  have HC : Hid ((w.alloc (.cells (rowR x c 0).toArray 3)).cell? ⟨g, o, none⟩ = some (.int .i64 x)) := hid ((HB.out.cell (p := ⟨g, o, none⟩) hg).trans hcell)
  have HMR : Hid ((madeCells #[.int .i64 0] c : Array Value) = (rowR x c 0).toArray) := hid (made_row c h1 h4)
  clear h
  go_enter Try.func107, Try.ntmps107
  have wr2 : IntKind.i64.wrap 2 = 2 := by decide
  have wr3 : IntKind.i64.wrap 3 = 3 := by decide
  have wr4 : IntKind.i64.wrap 4 = 4 := by decide
  have HSZ : (i0 |> fun i => (Try.prog.info? 3).map (·.size)) = some 1 := by rw [hi]; simp [hz1]
  go_wp2_with (first | (go_at_call 115; refine (HM.out _).mono ?_; rintro e w' ⟨rfl, rfl⟩) | (at_make; refine wpList_make_row _ rfl _ _ 23 rfl 3 i0 (.int .i64 0) Try.underlying23 hi hz0 hz1 rfl .i64 .i64 c rfl rfl (by rw [hz2]; omega) (by omega) ?_; rw [HMR.out]) | (with_reducible refine wpList_copy_splice (o := ⟨some 33, _, _, _, _, _⟩) rfl _ _ 23 23 rfl 3 Try.underlying23 HSZ _ _ _ _ _ _ rfl rfl w.heap.size 0 (rowR x c 0) 3 HR.out [.int .i64 x] (show 1 = min 1 c by omega) (fun _ => ⟨rfl, _, rfl, one_at HC.out⟩) (by rw [rowR_len x (Nat.zero_le _)]; simp; omega) (by simp [Value.oneCell']) w.heap.size w HB.out (Nat.le_refl _) ?_; intro w2 HR2 hb2))
  have hs2 := hb2.size
  have HCW : Hid (∀ wx : World, Below w.heap.size w wx → wx.heap[w.heap.size]? = some (.cells (rowR x c c).toArray 3 (0, 0)) → Owns wx w.heap.size (.slice (some ⟨w.heap.size, 0, none⟩) c c) (List.replicate c x)) := hid (fun wx hb hh => by
    rw [rowR_full] at hh
    exact owns_row hh (Nat.le_refl _) (List.length_replicate ..) (by unfold maxLen; omega))
  have HR3 : Hid (w2.heap[w.heap.size]? = some (.cells (rowR x c 1).toArray 3 (0, 0))) := hid (by
    have h := HR2.out
    rw [show [Value.int .i64 x] = List.replicate 1 (Value.int .i64 x) from rfl, rowR_splice x (Nat.zero_le _) 1 (by omega)] at h
    exact h)
  have HB2 := hid hb2
  clear HR2 hb2 HM HMR HB HR HC hcell hg
  go_loopw [8] (fun si wr => ∃ K : Nat, si = .int .i64 K ∧ 1 ≤ K ∧ K ≤ c ∧ Hid (wr.heap[w.heap.size]? = some (.cells (rowR x c K).toArray 3 (0, 0))) ∧ Hid (Below w.heap.size w wr)) (fun si _ => 10 - (intOf si).toNat)
  case atStart => exact ⟨1, rfl, by omega, h1, HR3, HB2⟩
  case round =>
    obtain ⟨K, rfl, hK1, hKc, HRr, HBr⟩ := hrel
    rename World => wr
    by_cases hlt : K < c
    · obtain ⟨m, hm⟩ : ∃ m, m = min K (c - K) := ⟨_, rfl⟩
      have hm1 : 1 ≤ m := by omega
      have hmK : K + m ≤ c := by omega
      have HM2 := hid hm
      obtain ⟨cs, hcs⟩ : ∃ cs, cs = List.replicate m (Value.int .i64 x) := ⟨_, rfl⟩
      obtain ⟨rk, hrk⟩ : ∃ rk, rk = rowR x c K := ⟨_, rfl⟩
      have HSP : Hid (splice rk K cs = rowR x c (K + m)) := hid (by rw [hrk, hcs]; exact rowR_splice x hKc m hmK)
      have HCL : Hid (cs.length = m) := hid (by rw [hcs, List.length_replicate])
      have HRL : Hid (rk.length = c) := hid (by rw [hrk]; exact rowR_len x hKc)
      have HC1 : Hid (∀ v ∈ cs, v.oneCell' = true) := hid (by intro v hv; rw [hcs] at hv; rw [List.eq_of_mem_replicate hv]; rfl)
      rw [← hrk] at HRr
      have HBD : Hid (Below w.heap.size w wr.drew) := hid ⟨HBr.out.os, HBr.out.tape, HBr.out.output, HBr.out.size, HBr.out.block⟩
      have HRD : Hid (wr.drew.heap[w.heap.size]? = some (.cells rk.toArray 3 (0, 0))) := hid HRr.out
      have HCD : Hid (∀ (j : Nat) (v : Value), cs[j]? = some v → wr.drew.cell? ((⟨w.heap.size, 0, none⟩ : Addr).add j) = some v) := hid (fun j v hj => by
        rw [hcs, List.getElem?_replicate] at hj
        by_cases hjm : j < m
        · rw [if_pos hjm] at hj
          cases hj
          have h := rowR_at x (c := c) (show j < K by omega)
          have e : wr.drew.cell? ⟨w.heap.size, j, none⟩ = rk.toArray[j]? := Go.cell_of_row _ _ _ _ _ _ HRD.out
          have e2 : ((⟨w.heap.size, 0, none⟩ : Addr).add j) = ⟨w.heap.size, j, none⟩ := by
            by_cases h0 : j = 0
            · subst h0; simp [Addr.add]
            · simp [Addr.add, h0]
          rw [e2, e, hrk]
          simpa using h
        · rw [if_neg hjm] at hj; cases hj)
      clear hcs hrk
      have hcK : (c = 2 ∧ K = 1 ∧ m = 1) ∨ (c = 3 ∧ K = 1 ∧ m = 1) ∨ (c = 3 ∧ K = 2 ∧ m = 1) ∨ (c = 4 ∧ K = 1 ∧ m = 1) ∨ (c = 4 ∧ K = 2 ∧ m = 2) ∨ (c = 4 ∧ K = 3 ∧ m = 1) := by omega
      clear hm
      rcases hcK with ⟨rfl, rfl, rfl⟩ | ⟨rfl, rfl, rfl⟩ | ⟨rfl, rfl, rfl⟩ | ⟨rfl, rfl, rfl⟩ | ⟨rfl, rfl, rfl⟩ | ⟨rfl, rfl, rfl⟩
      · have HRUN := copy_run wr.drew w.heap.size 1 1 1 2 rk HRD.out cs HCL.out HCD.out (by rw [HRL.out]; omega) (by omega) HC1.out HSZ
        rw [HSP.out] at HRUN
        have HW4 := hid (copy_below HBD.out HRD.out (rowR x 2 2))
        obtain ⟨w4, hw4⟩ : ∃ w4, w4 = wr.drew.setRow w.heap.size (rowR x 2 2).toArray := ⟨_, rfl⟩
        rw [← hw4] at HRUN HW4
        clear hw4
        go_wp2_with fail
        go_region
        all_goals (
          go_wp2
          go_round
          case measure => simp only [intOf]; omega
          case rel => exact ⟨(2 : Nat), by go_num, by omega, by omega, hid HW4.out.2, hid HW4.out.1⟩)
      · have HRUN := copy_run wr.drew w.heap.size 2 2 1 3 rk HRD.out cs HCL.out HCD.out (by rw [HRL.out]; omega) (by omega) HC1.out HSZ
        rw [HSP.out] at HRUN
        have HW4 := hid (copy_below HBD.out HRD.out (rowR x 3 2))
        obtain ⟨w4, hw4⟩ : ∃ w4, w4 = wr.drew.setRow w.heap.size (rowR x 3 2).toArray := ⟨_, rfl⟩
        rw [← hw4] at HRUN HW4
        clear hw4
        go_wp2_with fail
        go_region
        all_goals (
          go_wp2
          go_round
          case measure => simp only [intOf]; omega
          case rel => exact ⟨(2 : Nat), by go_num, by omega, by omega, hid HW4.out.2, hid HW4.out.1⟩)
      · have HRUN := copy_run wr.drew w.heap.size 1 1 2 3 rk HRD.out cs HCL.out HCD.out (by rw [HRL.out]; omega) (by omega) HC1.out HSZ
        rw [HSP.out] at HRUN
        have HW4 := hid (copy_below HBD.out HRD.out (rowR x 3 3))
        obtain ⟨w4, hw4⟩ : ∃ w4, w4 = wr.drew.setRow w.heap.size (rowR x 3 3).toArray := ⟨_, rfl⟩
        rw [← hw4] at HRUN HW4
        clear hw4
        go_wp2_with fail
        go_region
        all_goals (
          go_wp2
          go_round
          case measure => simp only [intOf]; omega
          case rel => exact ⟨(3 : Nat), by go_num, by omega, by omega, hid HW4.out.2, hid HW4.out.1⟩)
      · have HRUN := copy_run wr.drew w.heap.size 3 3 1 4 rk HRD.out cs HCL.out HCD.out (by rw [HRL.out]; omega) (by omega) HC1.out HSZ
        rw [HSP.out] at HRUN
        have HW4 := hid (copy_below HBD.out HRD.out (rowR x 4 2))
        obtain ⟨w4, hw4⟩ : ∃ w4, w4 = wr.drew.setRow w.heap.size (rowR x 4 2).toArray := ⟨_, rfl⟩
        rw [← hw4] at HRUN HW4
        clear hw4
        go_wp2_with fail
        go_region
        all_goals (
          go_wp2
          go_round
          case measure => simp only [intOf]; omega
          case rel => exact ⟨(2 : Nat), by go_num, by omega, by omega, hid HW4.out.2, hid HW4.out.1⟩)
      · have HRUN := copy_run wr.drew w.heap.size 2 2 2 4 rk HRD.out cs HCL.out HCD.out (by rw [HRL.out]; omega) (by omega) HC1.out HSZ
        rw [HSP.out] at HRUN
        have HW4 := hid (copy_below HBD.out HRD.out (rowR x 4 4))
        obtain ⟨w4, hw4⟩ : ∃ w4, w4 = wr.drew.setRow w.heap.size (rowR x 4 4).toArray := ⟨_, rfl⟩
        rw [← hw4] at HRUN HW4
        clear hw4
        go_wp2_with fail
        go_region
        all_goals (
          go_wp2
          go_round
          case measure => simp only [intOf]; omega
          case rel => exact ⟨(4 : Nat), by go_num, by omega, by omega, hid HW4.out.2, hid HW4.out.1⟩)
      · have HRUN := copy_run wr.drew w.heap.size 1 1 3 4 rk HRD.out cs HCL.out HCD.out (by rw [HRL.out]; omega) (by omega) HC1.out HSZ
        rw [HSP.out] at HRUN
        have HW4 := hid (copy_below HBD.out HRD.out (rowR x 4 4))
        obtain ⟨w4, hw4⟩ : ∃ w4, w4 = wr.drew.setRow w.heap.size (rowR x 4 4).toArray := ⟨_, rfl⟩
        rw [← hw4] at HRUN HW4
        clear hw4
        go_wp2_with fail
        go_region
        all_goals (
          go_wp2
          go_round
          case measure => simp only [intOf]; omega
          case rel => exact ⟨(4 : Nat), by go_num, by omega, by omega, hid HW4.out.2, hid HW4.out.1⟩)
    · obtain rfl : K = c := by omega
      clear hlt
      go_wp2_with fail
      go_ret
      exact ⟨rfl, HCW.out _ HBr.out HRr.out, HBr.out⟩

end Go.Proofs.Ytenibnblibnocab

/-! Vecs -/
set_option linter.unusedVariables false
namespace Go.Proofs.Ytenibnblibnocab
open Go.RowKit

def dig (b c K j : Nat) : Nat := K / b ^ (c - 1 - j) % b
/-- the K-th vector, its last t integers the least ones -/
def vecPart (lo : Int) (b c K t : Nat) : List Int := (List.range c).map (fun j => if j < c - t then lo + ((dig b c K j : Nat) : Int) else lo)
def vecAt (lo : Int) (b c K : Nat) : List Int := (List.range c).map (fun j => lo + ((dig b c K j : Nat) : Int))
def vecsL (lo : Int) (b c : Nat) : List (List Int) := (List.range (b ^ c)).map (vecAt lo b c)
theorem vecAt_len (lo : Int) (b c K : Nat) : (vecAt lo b c K).length = c := by unfold vecAt; simp
theorem vecPart_len (lo : Int) (b c K t : Nat) : (vecPart lo b c K t).length = c := by unfold vecPart; simp
theorem vecAt_get {lo : Int} {b c K j : Nat} (h : j < (vecAt lo b c K).length) : (vecAt lo b c K)[j] = lo + ((dig b c K j : Nat) : Int) := by
  simp [vecAt]
theorem vecPart_get {lo : Int} {b c K t j : Nat} (h : j < (vecPart lo b c K t).length) : (vecPart lo b c K t)[j] = if j < c - t then lo + ((dig b c K j : Nat) : Int) else lo := by
  simp [vecPart]
theorem vecPart_zero (lo : Int) (b c K : Nat) : vecPart lo b c K 0 = vecAt lo b c K := by
  unfold vecPart vecAt
  refine List.map_congr_left fun j hj => ?_
  have := List.mem_range.1 hj
  rw [if_pos (by omega)]
theorem vecAt_first (lo : Int) (b c : Nat) : vecAt lo b c 0 = List.replicate c lo := by
  unfold vecAt dig
  refine List.eq_replicate_iff.2 ⟨by simp, fun x hx => ?_⟩
  obtain ⟨j, _, rfl⟩ := List.mem_map.1 hx
  simp
theorem vecAt_bd {lo : Int} {b c K : Nat} (hb : 1 ≤ b) : ∀ x ∈ vecAt lo b c K, lo ≤ x ∧ x < lo + b := by
  intro x hx
  obtain ⟨j, _, rfl⟩ := List.mem_map.1 hx
  have : dig b c K j < b := Nat.mod_lt _ (by omega)
  omega
theorem vecPart_at {lo : Int} {b c K t : Nat} (ht : t < c) : (vecPart lo b c K t).getD (c - 1 - t) 0 = lo + ((K / b ^ t % b : Nat) : Int) := by
  rw [getD_at _ _ (by rw [vecPart_len]; omega), vecPart_get, if_pos (by omega)]
  unfold dig
  rw [show c - 1 - (c - 1 - t) = t by omega]
theorem part_lo {lo : Int} {b c K t : Nat} (ht : t < c) : (vecPart lo b c K t).set (c - 1 - t) lo = vecPart lo b c K (t + 1) := by
  refine List.ext_getElem (by rw [List.length_set, vecPart_len, vecPart_len]) fun j h1 h2 => ?_
  have h3 := h2
  rw [vecPart_len] at h3
  rw [List.getElem_set, vecPart_get h2]
  by_cases h : c - 1 - t = j
  · rw [if_pos h, if_neg (by omega)]
  · rw [if_neg h, vecPart_get (by rw [vecPart_len]; exact h3)]
    by_cases h4 : j < c - t
    · rw [if_pos h4, if_pos (by omega)]
    · rw [if_neg h4, if_neg (by omega)]
theorem carry {b K t : Nat} (hb : 1 ≤ b) (h : (K + 1) % b ^ t = 0) (hd : K / b ^ t % b = b - 1) : (K + 1) % b ^ (t + 1) = 0 := by
  have hp : 0 < b ^ t := Nat.pow_pos (by omega)
  have e : (K + 1) / b ^ t = K / b ^ t + 1 := by rw [Nat.succ_div_of_dvd (Nat.dvd_of_mod_eq_zero h)]
  have e2 : (K / b ^ t + 1) % b = 0 := by
    rw [Nat.add_mod, hd]
    by_cases h1 : b = 1
    · subst h1; exact Nat.mod_one _
    · rw [Nat.mod_eq_of_lt (show 1 < b by omega), show b - 1 + 1 = b by omega, Nat.mod_self]
  obtain ⟨m, hm⟩ := Nat.dvd_of_mod_eq_zero h
  rw [hm, Nat.mul_div_cancel_left _ hp] at e
  rw [← e] at e2
  obtain ⟨q, rfl⟩ := Nat.dvd_of_mod_eq_zero e2
  rw [hm, Nat.pow_succ, ← Nat.mul_assoc]
  exact Nat.mul_mod_right _ _
theorem carried {b K c : Nat} (h : (K + 1) % b ^ c = 0) (hK : K < b ^ c) : K + 1 = b ^ c := by
  obtain ⟨m, hm⟩ := Nat.dvd_of_mod_eq_zero h
  have h1 : m ≠ 0 := by rintro rfl; rw [Nat.mul_zero] at hm; omega
  by_cases h2 : m = 1
  · rw [hm, h2, Nat.mul_one]
  · have : b ^ c * 2 ≤ b ^ c * m := Nat.mul_le_mul_left _ (by omega)
    omega
theorem part_next {lo : Int} {b c K t : Nat} (hb : 1 ≤ b) (ht : t < c) (h : (K + 1) % b ^ t = 0) (hd : K / b ^ t % b ≠ b - 1) : (vecPart lo b c K t).set (c - 1 - t) (lo + ((K / b ^ t % b : Nat) : Int) + 1) = vecAt lo b c (K + 1) := by
  have hlt : K / b ^ t % b < b := Nat.mod_lt _ (by omega)
  have e : (K + 1) / b ^ t = K / b ^ t + 1 := by rw [Nat.succ_div_of_dvd (Nat.dvd_of_mod_eq_zero h)]
  have e2 : (K / b ^ t + 1) % b = K / b ^ t % b + 1 := by
    rw [Nat.add_mod, Nat.mod_eq_of_lt (show 1 < b by omega), Nat.mod_eq_of_lt (by omega)]
  refine List.ext_getElem (by rw [List.length_set, vecPart_len, vecAt_len]) fun j h1 h2 => ?_
  have h9 := h2
  rw [vecAt_len] at h9
  rw [List.getElem_set, vecAt_get h2]
  by_cases hj : c - 1 - t = j
  · subst hj
    rw [if_pos rfl]
    unfold dig
    rw [show c - 1 - (c - 1 - t) = t by omega, e, e2]
    push_cast
    omega
  · rw [if_neg hj, vecPart_get (by rw [vecPart_len]; exact h9)]
    by_cases h3 : j < c - t
    · rw [if_pos h3]
      congr 2
      unfold dig
      rw [Nat.succ_div_of_not_dvd]
      intro hdv
      have hd1 : b ^ (t + 1) ∣ K + 1 := Nat.dvd_trans (Nat.pow_dvd_pow b (show t + 1 ≤ c - 1 - j by omega)) hdv
      obtain ⟨m, hm⟩ := hd1
      rw [hm, Nat.pow_succ, Nat.mul_assoc, Nat.mul_div_cancel_left _ (Nat.pow_pos (by omega))] at e
      rw [← e, Nat.mul_mod_right] at e2
      omega
    · rw [if_neg h3]
      have hdv : b ^ (c - 1 - j + 1) ∣ K + 1 := Nat.dvd_trans (Nat.pow_dvd_pow b (show c - 1 - j + 1 ≤ t by omega)) (Nat.dvd_of_mod_eq_zero h)
      obtain ⟨m, hm⟩ := hdv
      unfold dig
      rw [hm, Nat.pow_succ, Nat.mul_assoc, Nat.mul_div_cancel_left _ (Nat.pow_pos (by omega)), Nat.mul_mod_right]
      simp
theorem vecs_len (lo : Int) (b c : Nat) : (vecsL lo b c).length = b ^ c := by unfold vecsL; simp
theorem vecs_take {lo : Int} {b c K : Nat} (h : K < b ^ c) : (vecsL lo b c).take (K + 1) = (vecsL lo b c).take K ++ [vecAt lo b c K] := by
  rw [List.take_add_one, List.getElem?_eq_getElem (by rw [vecs_len]; exact h)]
  unfold vecsL
  simp

end Go.Proofs.Ytenibnblibnocab

/-! RangeV -/
set_option linter.unusedVariables false
namespace Go.Proofs.Ytenibnblibnocab
open Go.RowKit

/-- whatever lies at B or behind it is left as it lay -/
structure Stay (B : Nat) (W W' : World) : Prop where
  size : W.heap.size ≤ W'.heap.size
  block : ∀ k, B ≤ k → k < W.heap.size → W'.heap[k]? = W.heap[k]?
theorem Stay.refl (B : Nat) (W : World) : Stay B W W := ⟨Nat.le_refl _, fun _ _ _ => rfl⟩
theorem Stay.trans {B : Nat} {X Y Z : World} (h : Stay B X Y) (k : Stay B Y Z) : Stay B X Z :=
  ⟨Nat.le_trans h.size k.size, fun i hB hi => (k.block i hB (Nat.lt_of_lt_of_le hi h.size)).trans (h.block i hB hi)⟩
theorem Stay.mono {B C : Nat} {W W' : World} (h : Stay B W W') (hc : B ≤ C) : Stay C W W' := ⟨h.size, fun k hk hl => h.block k (Nat.le_trans hc hk) hl⟩
theorem Stay.of_below {B : Nat} {W W' : World} (h : Below W.heap.size W W') : Stay B W W' := ⟨h.size, fun k _ hl => h.block k hl⟩
theorem Stay.setCell {B : Nat} {W : World} {a : Addr} (ha : a.block < B) (v : Value) : Stay B W (W.setCell a v) :=
  ⟨by simp [World.setCell], fun k hk _ => Below.heap_setCell _ _ _ k (fun e => by omega)⟩
theorem Stay.drewN (B : Nat) (W : World) (n : Nat) : Stay B W (W.drewN n) := ⟨Nat.le_refl _, fun _ _ _ => rfl⟩
theorem Stay.at_block {B k : Nat} {W W' : World} {o : Obj} (h : Stay B W W') (hk : B ≤ k) (ho : W.heap[k]? = some o) : W'.heap[k]? = some o :=
  (h.block k hk (Array.getElem?_eq_some_iff.1 ho).1).trans ho
/-- these blocks are left as they lay -/
def Hold (B0 B1 : Nat) (W W' : World) : Prop := ∀ k, B0 ≤ k → k < B1 → W'.heap[k]? = W.heap[k]?
theorem Hold.trans {B0 B1 : Nat} {X Y Z : World} (h : Hold B0 B1 X Y) (k : Hold B0 B1 Y Z) : Hold B0 B1 X Z := fun i h1 h2 => (k i h1 h2).trans (h i h1 h2)
theorem Hold.put {B0 B1 k : Nat} (hk : B1 ≤ k) (W : World) (o : Obj) : Hold B0 B1 W (W.putObj k o) := fun i _ h2 => World.putObj_heap_other (by omega)
theorem Stay.hold {B0 B1 : Nat} {W W' : World} (h : Stay B0 W W') (hB : B1 ≤ W.heap.size) : Hold B0 B1 W W' := fun k h1 h2 => h.block k h1 (by omega)
/-- what is said abides new blocks, and the turn of one block at B or behind it -/
def Turns {β : Type} (B : Nat) (J : β → World → Prop) : Prop :=
  ∀ s W W' row, J s W → W.grownBy W' row → (∀ r, row = some r → B ≤ r) → J s W'
theorem Turns.and {β : Type} {B : Nat} {J K : β → World → Prop} (h : Turns B J) (k : Turns B K) : Turns B (fun s W => J s W ∧ K s W) :=
  fun s W W' row hs hg hr => ⟨h s W W' row hs.1 hg hr, k s W W' row hs.2 hg hr⟩
theorem turns_pure {β : Type} (B : Nat) (p : β → Prop) : Turns B (fun s (_ : World) => p s) := fun _ _ _ _ hs _ _ => hs
theorem turns_below {β : Type} {n B : Nat} {w : World} (hn : n ≤ w.heap.size) (hB : n ≤ B) : Turns B (fun (_ : β) W => Below n w W) :=
  fun _ _ _ _ hs hg hr => hs.grown hg (Nat.le_trans hn hs.size) (fun k e => Nat.le_trans hB (hr k e))
theorem turns_block {β : Type} {B k : Nat} (hk : k < B) (f : β → Obj) : Turns B (fun s W => W.heap[k]? = some (f s)) :=
  fun s W W' row hs hg hr => (hg.block k (Array.getElem?_eq_some_iff.1 hs).1 (fun e => by have := hr k e.symm; omega)).trans hs
theorem Turns.put {β : Type} {B : Nat} {J : β → World → Prop} (h : Turns B J) {s : β} {W : World} {k : Nat} (o : Obj) (hs : J s W) (hk : B ≤ k) : J s (W.putObj k o) :=
  h s W _ (some k) hs (grownBy_putObj' W k o) (fun r e => by cases e; exact hk)
theorem Turns.lay {β : Type} {B : Nat} {J : β → World → Prop} (h : Turns B J) {s : β} {W : World} (o : Obj) (hs : J s W) : J s (W.alloc o) :=
  h s W _ none hs (World.grownBy_alloc W o none) (fun r e => by cases e)

/-- the iterator's contract: at each yield, H says what the element is -/
def RoundsV {α : Type} (F : Fence) (n : Nat) (P : Program) (g : Nat) (lb : Array Value) (encs : α → Array Value) (H : Nat → α → World → Prop) (B0 B1 : Nat) (S Sp : List α → Prop) (N : Nat) (w : World) : Prop :=
  ∀ (l : Nat) (J Jx : List α → World → Prop) (W : World), Below w.heap.size w W → Turns W.heap.size J → Turns W.heap.size Jx →
    (∀ pre x V, J pre V → H W.heap.size x V → pre.length < N → YieldAt F (n - 1) P l (encs x) V fun e V' =>
      (e = .returned (.bool true) ∧ J (pre ++ [x]) V' ∧ Stay W.heap.size V V' ∧ Hold B0 B1 V V') ∨ (e = .returned (.bool false) ∧ Jx (pre ++ [x]) V')) →
    J [] W →
    CallsIn F n P g (#[.func (.yield l) #[] #[]] ++ lb) W fun e V => (∃ v, e = .returned v) ∧ ((∃ xs, S xs ∧ J xs V) ∨ (∃ pre, Sp pre ∧ Jx pre V))

/-- the two blocks of a loop: its record, and the block for deferred calls ahead of it -/
def Book (D : Nat) (r : Loop) (W : World) : Prop := W.heap[D]? = some (.deferred (some [])) ∧ W.heap[D + 1]? = some (.loop r)
theorem Book.put {D : Nat} {r : Loop} {W : World} (h : Book D r W) (r' : Loop) : Book D r' (W.putObj (D + 1) (.loop r')) :=
  ⟨(World.putObj_heap_other (by omega)).trans h.1, World.putObj_heap_same (Array.getElem?_eq_some_iff.1 h.2).1⟩
theorem Book.stay {D : Nat} {r : Loop} {W W' : World} (h : Book D r W) (hs : Stay D W W') : Book D r W' :=
  ⟨hs.at_block (Nat.le_refl _) h.1, hs.at_block (by omega) h.2⟩
theorem Book.turns {β : Type} {D B : Nat} (hB : D + 2 ≤ B) (r : β → Loop) : Turns B (fun s W => Book D (r s) W) :=
  Turns.and (turns_block (by omega) fun _ => _) (turns_block (by omega) fun s => .loop (r s))
theorem Book.new (w : World) (r : Loop) : Book w.heap.size r ((w.alloc (.deferred (some []))).alloc (.loop r)) := by
  refine ⟨(Below.heap_alloc _ _ _ (by simp)).trans (World.alloc_heap_new w _), ?_⟩
  have h := World.alloc_heap_new (w.alloc (.deferred (some []))) (.loop r)
  rwa [World.size_alloc] at h
/-- how a round's body is left -/
def endsV {α : Type} (B : Nat) (I : List α → World → Prop) (Ix : Code → List α → World → Prop) (xs : List α) (W : World) : Exit → Act → World → Prop
  | .normal, _, W' => Stay B W W' ∧ I xs W'
  | .ret, _, W' => Stay B W W' ∧ Ix .ret xs W'
  | .exit id, _, W' => Stay B W W' ∧ Ix (.exit id) xs W'
  | .goto t, _, W' => Stay B W W' ∧ Ix (.goto t) xs W'
  | _, _, _ => False

variable {F : Fence} {n : Nat} {P : Program}

/-- one round: what is asked at its end, out of how its body is left -/
theorem roundPost_of {α : Type} {D : Nat} {rec : LoopState → Option Code → Loop} (hrec : ∀ st pe st' pe', { rec st pe with state := st', pending := pe' } = rec st' pe') {I : List α → World → Prop} {Ix : Code → List α → World → Prop} (hI : Turns D I) (hIx : ∀ c, Turns D (Ix c)) {xs : List α} {V W : World} (hb : Book D (rec .busy none) W) (hV : V.heap.size ≤ W.heap.size) (hVW : Stay (D + 2) V W) (hD : D + 2 ≤ V.heap.size) {C : Nat} (hC : D + 2 ≤ C) {B0 B1 : Nat} (hB0 : B0 ≤ D) (hB1 : B1 ≤ D) (hH : Hold B0 B1 V W) :
    ∀ (e : Exit) (a : Act) (W' : World), endsV B0 I Ix xs W e a W' → roundPost P (D + 1) (fun e V' => (e = .returned (.bool true) ∧ (I xs V' ∧ Book D (rec .ready none) V') ∧ Stay C V V' ∧ Hold B0 B1 V V') ∨ (e = .returned (.bool false) ∧ ∃ c, Ix c xs V' ∧ Book D (rec .done (some c)) V')) e a W' := by
  have fin : ∀ (jump : Option Code) (W' : World), Stay D W W' → (Instr.endRound (D + 1) jump).run P W' = .ok (.bool jump.isNone) (W'.putObj (D + 1) (.loop (rec (if jump.isNone then .ready else .done) jump))) ∧ Book D (rec (if jump.isNone then .ready else .done) jump) (W'.putObj (D + 1) (.loop (rec (if jump.isNone then .ready else .done) jump))) := fun jump W' hs => by
    have hb' := hb.stay hs
    have hr := run_endRound (P := P) jump hb'.2
    rw [hrec] at hr
    exact ⟨hr, hb'.put _⟩
  intro e a W' h
  cases e with
  | normal =>
    obtain ⟨hr, hb'⟩ := fin none W' (h.1.mono hB0)
    refine ⟨_, _, hr, .inl ⟨rfl, ⟨hI.put _ h.2 (by omega), hb'⟩, ?_, hH.trans ((h.1.hold (by omega)).trans (Hold.put (by omega) _ _))⟩⟩
    refine (hVW.trans (h.1.mono (by omega))).mono hC |>.trans ⟨by simp, fun k hk _ => World.putObj_heap_other (by omega)⟩
  | ret =>
    obtain ⟨hr, hb'⟩ := fin (some .ret) W' (h.1.mono hB0)
    exact ⟨_, _, hr, .inr ⟨rfl, .ret, (hIx _).put _ h.2 (by omega), hb'⟩⟩
  | exit id =>
    obtain ⟨hr, hb'⟩ := fin (some (.exit id)) W' (h.1.mono hB0)
    exact ⟨_, _, hr, .inr ⟨rfl, .exit id, (hIx _).put _ h.2 (by omega), hb'⟩⟩
  | goto t =>
    obtain ⟨hr, hb'⟩ := fin (some (.goto t)) W' (h.1.mono hB0)
    exact ⟨_, _, hr, .inr ⟨rfl, .goto t, (hIx _).put _ h.2 (by omega), hb'⟩⟩
  | panic ch => exact h.elim
  | outgrown => exact h.elim

/-- a loop over such an iterator -/
theorem wpIn_rangeV {α : Type} {g : Operand} {ps : Array Tmp} {assign body : Code} {Q : Exit → Act → World → Prop} {a : Act} {w : World}
    (hro : F.round = none) (h1 : 1 ≤ n) {gf : Nat} {lb : Array Value} (hg : a.eval g = .func (.func gf) #[] lb) (hFg : F.fn gf) (eg : ∀ args W, (callFunc gf args).run P W = .ok (.enter gf args) W)
    {encs : α → Array Value} {H : Nat → α → World → Prop} {B0 B1 : Nat} (hB0 : B0 ≤ w.heap.size) (hB1 : B1 ≤ w.heap.size) {S Sp : List α → Prop} {N : Nat} {w0 : World} (hseq : RoundsV F (n - 1) P gf lb encs H B0 B1 S Sp N w0) (hb0 : Below w0.heap.size w0 w) (hps : ∀ x, (encs x).size = ps.size)
    (hH : ∀ x W k r o, H (w.heap.size + 2) x W → W.heap[k]? = some (.loop r) → H (w.heap.size + 2) x (W.putObj k o))
    (I : List α → World → Prop) (Ix : Code → List α → World → Prop) (hI : Turns w.heap.size I) (hIx : ∀ c, Turns w.heap.size (Ix c)) (h0 : I [] w) (a₁ : α → Act)
    (hassign : ∀ (l : Nat) (x : α) (W : World) (K : Act → World → Prop), K (a₁ x) W →
      assign.wpIn (F.inRound l) (n - 1 - 1) P (Exit.then K (fun _ _ _ => False)) { tmps := (ps.zip (encs x)).foldl (fun t (p, v) => t.setIfInBounds p v) a.tmps, defers := [] } W)
    (hbody : ∀ (l : Nat) (pre : List α) (x : α) (W : World), I pre W → H (w.heap.size + 2) x W → w.heap.size + 2 ≤ W.heap.size → pre.length < N → body.wpIn (F.inRound l) (n - 1 - 1) P (endsV B0 I Ix (pre ++ [x]) W) (a₁ x) W)
    (hdone : ∀ (xs : List α) (W : World), S xs → I xs W → W.heap[w.heap.size]? = some (.deferred (some [])) → Q .normal { a with defers := { target := .collected w.heap.size, args := #[] } :: a.defers } W)
    (hstop : ∀ (c : Code) (pre : List α) (W : World), Sp pre → Ix c pre W → W.heap[w.heap.size]? = some (.deferred (some [])) → c.wpIn F n P Q { a with defers := { target := .collected w.heap.size, args := #[] } :: a.defers } W) :
    (Code.rangeFunc g ps assign body).wpIn F n P Q a w := by
  refine wpIn_rangeFunc fun fn hfn => ?_
  rw [hro]
  obtain ⟨rec, hrec⟩ : ∃ rec : LoopState → Option Code → Loop, rec = fun st pe => { state := st, pending := pe, fn, tmps := a.tmps, params := ps, assign, body, defers := w.heap.size } := ⟨_, rfl⟩
  have hrr : ∀ st pe st' pe', { rec st pe with state := st', pending := pe' } = rec st' pe' := fun st pe st' pe' => by rw [hrec]
  have hbk := Book.new w (rec .ready none)
  have hI1 := hI.lay (.loop (rec .ready none)) (hI.lay (.deferred (some [])) h0)
  have hbl := hb0.trans ((((Below.refl _ w).alloc (Nat.le_refl _) (.deferred (some []))).alloc (by simp) (.loop (rec .ready none))).mono hb0.size)
  have hen := run_enterLoop_outer (P := P) (w := w) fn a.tmps ps assign body
  have hsz : ((w.alloc (.deferred (some []))).alloc (.loop (rec .ready none))).heap.size = w.heap.size + 2 := by simp
  have hrd : ((w.alloc (.deferred (some []))).alloc (.loop { state := .ready, pending := none, fn, tmps := a.tmps, params := ps, assign, body, defers := w.heap.size })) = ((w.alloc (.deferred (some []))).alloc (.loop (rec .ready none))) := by rw [hrec]
  rw [hrd] at hen
  obtain ⟨W1, hW1⟩ : ∃ W1, W1 = (w.alloc (.deferred (some []))).alloc (.loop (rec .ready none)) := ⟨_, rfl⟩
  rw [← hW1] at hbk hI1 hbl hen hsz
  refine ⟨w.heap.size + 1, [{ target := .collected w.heap.size, args := #[] }], W1, { target := .fn (.func gf) lb, args := #[.func (.yield (w.heap.size + 1)) #[] #[]] }, W1, gf, #[.func (.yield (w.heap.size + 1)) #[] #[]] ++ lb, W1, hen, ?_, ?_, ?_, fun _ => h1, ?_⟩
  · simp only [resolve, hg]
    simp [go_sem]
  · intro f' hf'
    simp [Target.leads] at hf'
    subst hf'
    exact hFg
  · simp [invoke, go_sem, eg]
  · refine (hseq (w.heap.size + 1) (fun pre W => I pre W ∧ Book w.heap.size (rec .ready none) W) (fun pre W => ∃ c, Ix c pre W ∧ Book w.heap.size (rec .done (some c)) W) W1 hbl ?_ ?_ ?_ ⟨hI1, hbk⟩).mono ?_
    · exact Turns.and (fun s A B row hs hgr hr => hI s A B row hs hgr (fun r e => by have := hr r e; omega)) (Book.turns (by omega) fun _ => _)
    · rintro s A B row ⟨c, hc, hbc⟩ hgr hr
      exact ⟨c, hIx c s A B row hc hgr (fun r e => by have := hr r e; omega), Book.turns (β := Unit) (B := W1.heap.size) (by omega) (fun _ => rec .done (some c)) () A B row hbc hgr hr⟩
    · rintro pre x V ⟨hi, hb⟩ hx hlen
      have hlt := (Array.getElem?_eq_some_iff.1 hb.2).1
      have hy := run_yield (P := P) (args := encs x) hb.2 (by rw [hrec]; exact hps x)
      have hbr := run_beginRound (P := P) hb.2 (by rw [hrec])
      rw [show ({ rec .ready none with state := .busy } : Loop) = rec .busy none by rw [hrec]] at hbr
      have hb2 := hb.put (rec .busy none)
      have hx2 := hH x V _ _ (.loop (rec .busy none)) (by rw [← hsz]; exact hx) hb.2
      have hi2 := hI.put (.loop (rec .busy none)) hi (show w.heap.size ≤ w.heap.size + 1 by omega)
      have hst : Stay (w.heap.size + 2) V (V.putObj (w.heap.size + 1) (.loop (rec .busy none))) := ⟨by simp, fun k hk _ => World.putObj_heap_other (by omega)⟩
      rw [hrec] at hy
      refine ⟨fn, _, assign, body, hy, roundIn_of_wpIn hfn (hassign _ x V _ ⟨_, hbr, ?_⟩)⟩
      exact wpIn_mono (hbody _ pre x _ hi2 hx2 (by simp; omega) hlen) (roundPost_of hrr hI hIx hb2 (by simp) hst (by omega) (by omega) hB0 hB1 (Hold.put (by omega) _ _))
    · rintro e W2 ⟨⟨v, rfl⟩, ⟨xs, hS, hi, hb⟩ | ⟨pre, hSp, c, hi, hb⟩⟩
      · have he := run_endLoop (P := P) hb.2 (by rw [hrec]; simp)
        refine ⟨_, _, he, ?_⟩
        rw [hrec] at *
        exact hdone xs _ hS (hI.put _ hi (by omega)) ((World.putObj_heap_other (by omega)).trans hb.1)
      · have he := run_endLoop (P := P) hb.2 (by rw [hrec]; simp)
        refine ⟨_, _, he, ?_⟩
        rw [hrec] at *
        exact hstop c pre _ hSp ((hIx c).put _ hi (by omega)) ((World.putObj_heap_other (by omega)).trans hb.1)

end Go.Proofs.Ytenibnblibnocab
