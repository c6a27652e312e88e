/-
  slices.Repeat at a list of one number: at most four times.
-/
import Derived.Test.YtbhlgdleklfonaaOwn2
import Derived.Laws.CopyOwn
import Derived.Laws.OwnMore
import Derived.Deep.OwnRows
import Derived.BigQuiet
import Derived.StillTailTactics
set_option linter.unusedVariables false
namespace Go.Proofs.Ytbhlgdleklfonaa
open Go.RowKit

set_option maxRecDepth 100000 in
set_option maxHeartbeats 2000000 in
theorem mul64_any (c : Nat) (h1 : 1 ≤ c) (h4 : c ≤ 4) (w : World) : Calls Try.prog 129 #[.int .u64 1, .int .u64 (c : Int)] w fun e w' => e = .returned (.tuple #[.int .u64 0, .int .u64 (c : Int)]) ∧ w = w' := by
  have hc : c = 1 ∨ c = 2 ∨ c = 3 ∨ c = 4 := by omega
  rcases hc with rfl | rfl | rfl | rfl
  all_goals (
    go_enter Try.func129, Try.ntmps129
    go_wp2
    go_ret2
    exact ⟨rfl, rfl⟩)

set_option maxRecDepth 100000 in
set_option maxHeartbeats 2000000 in
theorem mul_any (c : Nat) (h1 : 1 ≤ c) (h4 : c ≤ 4) (w : World) : Calls Try.prog 123 #[.int .u64 1, .int .u64 (c : Int)] w fun e w' => e = .returned (.tuple #[.int .u64 0, .int .u64 (c : Int)]) ∧ w = w' := by
  have HM := hid (fun w => mul64_any c h1 h4 w)
  go_enter Try.func123, Try.ntmps123
  go_wp2_with (go_at_call 129; refine (HM.out _).mono ?_; rintro e w' ⟨rfl, rfl⟩)
  go_ret2
  exact ⟨rfl, rfl⟩

theorem rd_one9 {w : World} {v : Value} {x : Int} (h : Rd w v [x]) : ∃ g o cap, v = .slice (some ⟨g, o, none⟩) 1 cap ∧ w.cell? ⟨g, o, none⟩ = some (.int .i64 x) := by
  obtain ⟨ad, cap, rfl, hform⟩ := h.form
  obtain ⟨g, o, rfl, _, hc⟩ := hform (by simp)
  exact ⟨g, o, cap, rfl, hc 0 (by simp)⟩

theorem made_row (c : Nat) (h1 : 1 ≤ c) (h4 : c ≤ 4) : (madeCells #[.int .i64 0] c : Array Value) = (List.replicate c (.int .i64 0) : List Value).toArray := by
  exact Array.toList_inj.1 (toList_madeCells_one _ _)
theorem one_at {w : World} {a : Addr} {x : Int} (h : w.cell? a = some (.int .i64 x)) : ∀ (j : Nat) (v : Value), [Value.int .i64 x][j]? = some v → w.cell? (a.add j) = some v := by
  intro j v hj
  match j with
  | 0 => simp at hj; subst hj; simpa [Addr.add] using h
  | j + 1 => simp at hj
def rowR (x : Int) (c K : Nat) : List Value := List.replicate K (.int .i64 x) ++ List.replicate (c - K) (.int .i64 0)
theorem rowR_len (x : Int) {c K : Nat} (h : K ≤ c) : (rowR x c K).length = c := by unfold rowR; rw [List.length_append, List.length_replicate, List.length_replicate]; omega
theorem rowR_splice (x : Int) {c K : Nat} (h : K ≤ c) (m : Nat) (hm : K + m ≤ c) : splice (rowR x c K) K (List.replicate m (.int .i64 x)) = rowR x c (K + m) := by
  unfold splice rowR
  rw [List.take_append_of_le_length (by simp), List.take_of_length_le (by simp), List.length_replicate, List.drop_append, List.drop_eq_nil_of_le (by simp), List.nil_append, List.length_replicate, List.drop_replicate, ← List.append_assoc, List.replicate_append_replicate]
  congr 2
  omega
theorem rowR_at (x : Int) {c K j : Nat} (h : j < K) : (rowR x c K)[j]? = some (.int .i64 x) := by
  unfold rowR
  rw [List.getElem?_append_left (by simpa using h), List.getElem?_replicate, if_pos h]
theorem rowR_full (x : Int) (c : Nat) : rowR x c c = (List.replicate c x).map (Value.int .i64) := by
  unfold rowR; rw [Nat.sub_self]; simp

theorem owns_row {W : World} {B g c : Nat} {xs : List Int} (h : W.heap[g]? = some (.cells ((xs).map (Value.int .i64)).toArray 3 (0, 0))) (hB : B ≤ g) (hl : xs.length = c) (hm : c ≤ maxLen) : Owns W B (.slice (some ⟨g, 0, none⟩) c c) xs := by
  subst hl
  refine ⟨by simp, .inr ⟨g, xs.length, _, rfl, hB, h, Nat.le_refl _, hm, by simp, ?_⟩⟩
  rw [List.take_of_length_le (by simp)]

theorem copy_run (wd : World) (g dLen dCap sLen sCap : Nat) (rk : List Value) (hg : wd.heap[g]? = some (.cells rk.toArray 3 (0, 0))) (cs : List Value) {m : Nat} (hl : cs.length = m) (hsrc : ∀ (j : Nat) (v : Value), cs[j]? = some v → wd.cell? ((⟨g, 0, none⟩ : Addr).add j) = some v) {K : Nat} (hfit : K + m ≤ rk.length) (hm : m = min sLen dLen) (h1 : ∀ v ∈ cs, v.oneCell' = true) (hsz : (Try.prog.info? 3).map (·.size) = some 1) :
    (Builtin.copy_ #[23, 23] 3 #[.slice (some ⟨g, K, none⟩) dLen dCap, .slice (some ⟨g, 0, none⟩) sLen sCap]).run Try.prog wd = .ok (goInt m) (wd.setRow g (splice rk K cs).toArray) := by
  have h := run_copy_row (P := Try.prog) wd 23 23 3 3 g K dLen dCap ⟨g, 0, none⟩ sLen sCap rk.toArray 3 cs Try.underlying23 hsz hg (by rw [hl, hm]) hsrc (by simpa [hl] using hfit) h1
  rw [hl] at h
  rw [h]
  unfold splice
  simp [hl]
theorem copy_below {w wd : World} {g : Nat} {rk : List Value} (hb : Below g w wd) (hg : wd.heap[g]? = some (.cells rk.toArray 3 (0, 0))) (l : List Value) : Below g w (wd.setRow g l.toArray) ∧ (wd.setRow g l.toArray).heap[g]? = some (.cells l.toArray 3 (0, 0)) :=
  ⟨below_setRow hb (Nat.le_refl _) _, setRow_heap wd g _ _ 3 _ hg⟩

set_option maxRecDepth 100000 in
set_option maxHeartbeats 400000 in
theorem repeat_any (a : Value) (x : Int) (c : Nat) (h1 : 1 ≤ c) (h4 : c ≤ 4) (w : World) (h : Rd w a [x]) :
    Calls Try.prog 106 #[a, .int .i64 (c : Int)] w fun e w' => e = .returned (.slice (some ⟨w.heap.size, 0, none⟩) c c) ∧ Owns w' w.heap.size (.slice (some ⟨w.heap.size, 0, none⟩) c c) (List.replicate c x) ∧ Below w.heap.size w w' := by
  obtain ⟨i0, hi, hz0, hz1, hz2⟩ := info_parts infoInt
  obtain ⟨g, o, cap, rfl, hcell⟩ := rd_one9 h
  have hg : g < w.heap.size := by
    obtain ⟨ob, ho, _⟩ := cells_of_cell hcell
    exact (Array.getElem?_eq_some_iff.1 ho).1
  have HM := hid (fun w => mul_any c h1 h4 w)
  have HB := hid ((Below.refl w.heap.size w).alloc (Nat.le_refl _) (.cells (rowR x c 0).toArray 3))
  have HR : Hid (((w.alloc (.cells (rowR x c 0).toArray 3))).heap[w.heap.size]? = some (.cells (rowR x c 0).toArray 3 (0, 0))) := hid (World.alloc_heap_new w _)
  have HC : Hid ((w.alloc (.cells (rowR x c 0).toArray 3)).cell? ⟨g, o, none⟩ = some (.int .i64 x)) := hid ((HB.out.cell (p := ⟨g, o, none⟩) hg).trans hcell)
  have HMR : Hid ((madeCells #[.int .i64 0] c : Array Value) = (rowR x c 0).toArray) := hid (made_row c h1 h4)
  clear h
  go_enter Try.func106, Try.ntmps106
  have wr2 : IntKind.i64.wrap 2 = 2 := by decide
  have wr3 : IntKind.i64.wrap 3 = 3 := by decide
  have wr4 : IntKind.i64.wrap 4 = 4 := by decide
  have HSZ : (i0 |> fun i => (Try.prog.info? 3).map (·.size)) = some 1 := by rw [hi]; simp [hz1]
  go_wp2_with (first | (go_at_call 123; refine (HM.out _).mono ?_; rintro e w' ⟨rfl, rfl⟩) | (at_make; refine wpList_make_row _ rfl _ _ 23 rfl 3 i0 (.int .i64 0) Try.underlying23 hi hz0 hz1 rfl .i64 .i64 c rfl rfl (by rw [hz2]; omega) (by omega) ?_; rw [HMR.out]) | (with_reducible refine wpList_copy_splice (o := ⟨some 33, _, _, _, _, _⟩) rfl _ _ 23 23 rfl 3 Try.underlying23 HSZ _ _ _ _ _ _ rfl rfl w.heap.size 0 (rowR x c 0) 3 HR.out [.int .i64 x] (show 1 = min 1 c by omega) (fun _ => ⟨rfl, _, rfl, one_at HC.out⟩) (by rw [rowR_len x (Nat.zero_le _)]; simp; omega) (by simp [Value.oneCell']) w.heap.size w HB.out (Nat.le_refl _) ?_; intro w2 HR2 hb2))
  have hs2 := hb2.size
  have HCW : Hid (∀ wx : World, Below w.heap.size w wx → wx.heap[w.heap.size]? = some (.cells (rowR x c c).toArray 3 (0, 0)) → Owns wx w.heap.size (.slice (some ⟨w.heap.size, 0, none⟩) c c) (List.replicate c x)) := hid (fun wx hb hh => by
    rw [rowR_full] at hh
    exact owns_row hh (Nat.le_refl _) (List.length_replicate ..) (by unfold maxLen; omega))
  have HR3 : Hid (w2.heap[w.heap.size]? = some (.cells (rowR x c 1).toArray 3 (0, 0))) := hid (by
    have h := HR2.out
    rw [show [Value.int .i64 x] = List.replicate 1 (Value.int .i64 x) from rfl, rowR_splice x (Nat.zero_le _) 1 (by omega)] at h
    exact h)
  have HB2 := hid hb2
  clear HR2 hb2 HM HMR HB HR HC hcell hg
  go_loopw [8] (fun si wr => ∃ K : Nat, si = .int .i64 K ∧ 1 ≤ K ∧ K ≤ c ∧ Hid (wr.heap[w.heap.size]? = some (.cells (rowR x c K).toArray 3 (0, 0))) ∧ Hid (Below w.heap.size w wr)) (fun si _ => 10 - (intOf si).toNat)
  case atStart => exact ⟨1, rfl, by omega, h1, HR3, HB2⟩
  case round =>
    obtain ⟨K, rfl, hK1, hKc, HRr, HBr⟩ := hrel
    rename World => wr
    by_cases hlt : K < c
    · obtain ⟨m, hm⟩ : ∃ m, m = min K (c - K) := ⟨_, rfl⟩
      have hm1 : 1 ≤ m := by omega
      have hmK : K + m ≤ c := by omega
      have HM2 := hid hm
      obtain ⟨cs, hcs⟩ : ∃ cs, cs = List.replicate m (Value.int .i64 x) := ⟨_, rfl⟩
      obtain ⟨rk, hrk⟩ : ∃ rk, rk = rowR x c K := ⟨_, rfl⟩
      have HSP : Hid (splice rk K cs = rowR x c (K + m)) := hid (by rw [hrk, hcs]; exact rowR_splice x hKc m hmK)
      have HCL : Hid (cs.length = m) := hid (by rw [hcs, List.length_replicate])
      have HRL : Hid (rk.length = c) := hid (by rw [hrk]; exact rowR_len x hKc)
      have HC1 : Hid (∀ v ∈ cs, v.oneCell' = true) := hid (by intro v hv; rw [hcs] at hv; rw [List.eq_of_mem_replicate hv]; rfl)
      rw [← hrk] at HRr
      have HBD : Hid (Below w.heap.size w wr.drew) := hid ⟨HBr.out.os, HBr.out.tape, HBr.out.output, HBr.out.size, HBr.out.block⟩
      have HRD : Hid (wr.drew.heap[w.heap.size]? = some (.cells rk.toArray 3 (0, 0))) := hid HRr.out
      have HCD : Hid (∀ (j : Nat) (v : Value), cs[j]? = some v → wr.drew.cell? ((⟨w.heap.size, 0, none⟩ : Addr).add j) = some v) := hid (fun j v hj => by
        rw [hcs, List.getElem?_replicate] at hj
        by_cases hjm : j < m
        · rw [if_pos hjm] at hj
          cases hj
          have h := rowR_at x (c := c) (show j < K by omega)
          have e : wr.drew.cell? ⟨w.heap.size, j, none⟩ = rk.toArray[j]? := Go.cell_of_row _ _ _ _ _ _ HRD.out
          have e2 : ((⟨w.heap.size, 0, none⟩ : Addr).add j) = ⟨w.heap.size, j, none⟩ := by
            by_cases h0 : j = 0
            · subst h0; simp [Addr.add]
            · simp [Addr.add, h0]
          rw [e2, e, hrk]
          simpa using h
        · rw [if_neg hjm] at hj; cases hj)
      clear hcs hrk
      have hcK : (c = 2 ∧ K = 1 ∧ m = 1) ∨ (c = 3 ∧ K = 1 ∧ m = 1) ∨ (c = 3 ∧ K = 2 ∧ m = 1) ∨ (c = 4 ∧ K = 1 ∧ m = 1) ∨ (c = 4 ∧ K = 2 ∧ m = 2) ∨ (c = 4 ∧ K = 3 ∧ m = 1) := by omega
      clear hm
      rcases hcK with ⟨rfl, rfl, rfl⟩ | ⟨rfl, rfl, rfl⟩ | ⟨rfl, rfl, rfl⟩ | ⟨rfl, rfl, rfl⟩ | ⟨rfl, rfl, rfl⟩ | ⟨rfl, rfl, rfl⟩
      · have HRUN := copy_run wr.drew w.heap.size 1 1 1 2 rk HRD.out cs HCL.out HCD.out (by rw [HRL.out]; omega) (by omega) HC1.out HSZ
        rw [HSP.out] at HRUN
        have HW4 := hid (copy_below HBD.out HRD.out (rowR x 2 2))
        obtain ⟨w4, hw4⟩ : ∃ w4, w4 = wr.drew.setRow w.heap.size (rowR x 2 2).toArray := ⟨_, rfl⟩
        rw [← hw4] at HRUN HW4
        clear hw4
        go_wp2_with fail
        go_region
        all_goals (
          go_wp2
          go_round
          case measure => simp only [intOf]; omega
          case rel => exact ⟨(2 : Nat), by go_num, by omega, by omega, hid HW4.out.2, hid HW4.out.1⟩)
      · have HRUN := copy_run wr.drew w.heap.size 2 2 1 3 rk HRD.out cs HCL.out HCD.out (by rw [HRL.out]; omega) (by omega) HC1.out HSZ
        rw [HSP.out] at HRUN
        have HW4 := hid (copy_below HBD.out HRD.out (rowR x 3 2))
        obtain ⟨w4, hw4⟩ : ∃ w4, w4 = wr.drew.setRow w.heap.size (rowR x 3 2).toArray := ⟨_, rfl⟩
        rw [← hw4] at HRUN HW4
        clear hw4
        go_wp2_with fail
        go_region
        all_goals (
          go_wp2
          go_round
          case measure => simp only [intOf]; omega
          case rel => exact ⟨(2 : Nat), by go_num, by omega, by omega, hid HW4.out.2, hid HW4.out.1⟩)
      · have HRUN := copy_run wr.drew w.heap.size 1 1 2 3 rk HRD.out cs HCL.out HCD.out (by rw [HRL.out]; omega) (by omega) HC1.out HSZ
        rw [HSP.out] at HRUN
        have HW4 := hid (copy_below HBD.out HRD.out (rowR x 3 3))
        obtain ⟨w4, hw4⟩ : ∃ w4, w4 = wr.drew.setRow w.heap.size (rowR x 3 3).toArray := ⟨_, rfl⟩
        rw [← hw4] at HRUN HW4
        clear hw4
        go_wp2_with fail
        go_region
        all_goals (
          go_wp2
          go_round
          case measure => simp only [intOf]; omega
          case rel => exact ⟨(3 : Nat), by go_num, by omega, by omega, hid HW4.out.2, hid HW4.out.1⟩)
      · have HRUN := copy_run wr.drew w.heap.size 3 3 1 4 rk HRD.out cs HCL.out HCD.out (by rw [HRL.out]; omega) (by omega) HC1.out HSZ
        rw [HSP.out] at HRUN
        have HW4 := hid (copy_below HBD.out HRD.out (rowR x 4 2))
        obtain ⟨w4, hw4⟩ : ∃ w4, w4 = wr.drew.setRow w.heap.size (rowR x 4 2).toArray := ⟨_, rfl⟩
        rw [← hw4] at HRUN HW4
        clear hw4
        go_wp2_with fail
        go_region
        all_goals (
          go_wp2
          go_round
          case measure => simp only [intOf]; omega
          case rel => exact ⟨(2 : Nat), by go_num, by omega, by omega, hid HW4.out.2, hid HW4.out.1⟩)
      · have HRUN := copy_run wr.drew w.heap.size 2 2 2 4 rk HRD.out cs HCL.out HCD.out (by rw [HRL.out]; omega) (by omega) HC1.out HSZ
        rw [HSP.out] at HRUN
        have HW4 := hid (copy_below HBD.out HRD.out (rowR x 4 4))
        obtain ⟨w4, hw4⟩ : ∃ w4, w4 = wr.drew.setRow w.heap.size (rowR x 4 4).toArray := ⟨_, rfl⟩
        rw [← hw4] at HRUN HW4
        clear hw4
        go_wp2_with fail
        go_region
        all_goals (
          go_wp2
          go_round
          case measure => simp only [intOf]; omega
          case rel => exact ⟨(4 : Nat), by go_num, by omega, by omega, hid HW4.out.2, hid HW4.out.1⟩)
      · have HRUN := copy_run wr.drew w.heap.size 1 1 3 4 rk HRD.out cs HCL.out HCD.out (by rw [HRL.out]; omega) (by omega) HC1.out HSZ
        rw [HSP.out] at HRUN
        have HW4 := hid (copy_below HBD.out HRD.out (rowR x 4 4))
        obtain ⟨w4, hw4⟩ : ∃ w4, w4 = wr.drew.setRow w.heap.size (rowR x 4 4).toArray := ⟨_, rfl⟩
        rw [← hw4] at HRUN HW4
        clear hw4
        go_wp2_with fail
        go_region
        all_goals (
          go_wp2
          go_round
          case measure => simp only [intOf]; omega
          case rel => exact ⟨(4 : Nat), by go_num, by omega, by omega, hid HW4.out.2, hid HW4.out.1⟩)
    · obtain rfl : K = c := by omega
      clear hlt
      go_wp2_with fail
      go_ret
      exact ⟨rfl, HCW.out _ HBr.out HRr.out, HBr.out⟩

end Go.Proofs.Ytbhlgdleklfonaa
