/-
  Contracts of the program's quaternions: which lists they are, norms, conjugates.
-/
import Derived.Test.YtdclmjmefkgbbabQuB
import Derived.Test.YtdclmjmefkgbbabQBun11
set_option linter.unusedVariables false
namespace Go.Proofs.Ytdclmjmefkgbbab
open Go.RowKit

/-- the value of a quaternion -/
def quV (a b c d : Int) : Value := .agg #[.int .i64 a, .int .i64 b, .int .i64 c, .int .i64 d]
theorem cell_q {W : World} {n i : Nat} {cs : Array Value} {t : TypeId} {m : Nat × Nat} (e : W.heap[n]? = some (.cells cs t m)) : W.cell? ⟨n, i, none⟩ = cs[i]? := by simp [World.cell?, e]
theorem frozen_q {W : World} {n i : Nat} {cs : Array Value} {t : TypeId} (e : W.heap[n]? = some (.cells cs t (0, 0))) : W.frozen? ⟨n, i, none⟩ = false := by simp [World.frozen?, e]
theorem below_dq {n : Nat} {w w' : World} (h : Below n w w') : Below n w w'.drew := ⟨h.os, h.tape, h.output, h.size, h.block⟩
def qOf (xs : List Int) : Value := if quatB xs then quV (qc0 xs) (qc1 xs) (qc2 xs) (qc3 xs) else quV 0 0 0 0
theorem qOf_yes {a b c d : Int} (h : quatB [a, b, c, d] = true) : qOf [a, b, c, d] = quV a b c d := by unfold qOf; rw [if_pos h]; rfl
theorem qOf_no {xs : List Int} (h : quatB xs = false) : qOf xs = quV 0 0 0 0 := by unfold qOf; rw [h]; rfl
theorem qOf_form (xs : List Int) : ∃ a b c d, qOf xs = quV a b c d := by
  unfold qOf
  split
  · exact ⟨_, _, _, _, rfl⟩
  · exact ⟨_, _, _, _, rfl⟩

set_option maxRecDepth 100000 in
set_option maxHeartbeats 2000000 in
theorem quaternionOf_any (v : Value) (xs : List Int) (w : World) (h : Rd w v xs) : Calls Try.prog 83 #[v] w fun e w' => e = .returned (.tuple #[qOf xs, .bool (quatB xs)]) ∧ Below w.heap.size w w' := by
  have hnew := heap_alloc_new w (.cells #[.int .i64 0, .int .i64 0, .int .i64 0, .int .i64 0] 70)
  have hbw : Below w.heap.size w (w.alloc (.cells #[.int .i64 0, .int .i64 0, .int .i64 0, .int .i64 0] 70)) := below_w8
  have z0 := cell_q (i := 0) hnew
  have z1 := cell_q (i := 1) hnew
  have z2 := cell_q (i := 2) hnew
  have z3 := cell_q (i := 3) hnew
  have f0 := frozen_q (i := 0) hnew
  have f1 := frozen_q (i := 1) hnew
  have f2 := frozen_q (i := 2) hnew
  have f3 := frozen_q (i := 3) hnew
  have hrd := h.keep hbw
  have HV := hid (vectorWithin_any v xs 4 10000 (by omega) (by omega) _ hrd)
  rw [show (inAll xs 10000 && decide ((xs.length : Int) = 4)) = quatB xs from rfl] at HV
  have HB := hid hbw
  cases hq : quatB xs with
  | false =>
    rw [hq] at HV
    rw [qOf_no hq]
    clear h hrd hq hbw hnew
    go_enter Try.func83, Try.ntmps83
    go_wp2_with (go_at_call 89; refine HV.out.mono ?_; rintro e w' ⟨rfl, rfl⟩)
    refine bodyPost_ret (v := .tuple #[.agg #[.int .i64 0, .int .i64 0, .int .i64 0, .int .i64 0], .bool false]) (by simp [results, Try.results83, go_sem] <;> go_simp) rfl ?_
    exact ⟨rfl, by first | exact HB.out | exact (((HB.out.setCell (Nat.le_refl _) _).setCell (Nat.le_refl _) _).setCell (Nat.le_refl _) _).setCell (Nat.le_refl _) _⟩
  | true =>
    rw [hq] at HV
    obtain ⟨a, b, c, d, rfl, ha, hb, hc, hd⟩ := quat_list hq
    rw [qOf_yes hq]
    obtain ⟨g, o, cap, rfl, c0, c1, c2, c3⟩ := rd_quat hrd
    clear h hrd hq hbw hnew
    go_enter Try.func83, Try.ntmps83
    go_wp2_with (go_at_call 89; refine HV.out.mono ?_; rintro e w' ⟨rfl, rfl⟩)
    have HBD := hid (below_dq HB.out)
    generalize (w.alloc (.cells #[.int .i64 0, .int .i64 0, .int .i64 0, .int .i64 0] 70)) = W at c0 c1 c2 c3 z0 z1 z2 z3 f0 f1 f2 f3 HB HBD ⊢
    go_still_tail 12, (by kernel_rfl)
    change wpList _ _ _ _ _ W.drew
    go_wp2_with fail
    refine bodyPost_ret (v := .tuple #[.agg #[.int .i64 a, .int .i64 b, .int .i64 c, .int .i64 d], .bool true]) (by simp [results, Try.results83, go_sem] <;> go_simp) rfl ?_
    exact ⟨rfl, (((HBD.out.setCell (Nat.le_refl _) _).setCell (Nat.le_refl _) _).setCell (Nat.le_refl _) _).setCell (Nat.le_refl _) _⟩


set_option maxRecDepth 100000 in
set_option maxHeartbeats 2000000 in
theorem qtNorm_any (a b c d : Int) (ha : InQ a) (hb : InQ b) (hc : InQ c) (hd : InQ d) (w : World) : Calls Try.prog 84 #[quV a b c d] w fun e w' => e = .returned (.int .i64 (a * a + b * b + c * c + d * d)) ∧ Below w.heap.size w w' := by
  have hnew := heap_alloc_new w (.cells #[.int .i64 a, .int .i64 b, .int .i64 c, .int .i64 d] 70)
  have z0 := cell_q (i := 0) hnew
  have z1 := cell_q (i := 1) hnew
  have z2 := cell_q (i := 2) hnew
  have z3 := cell_q (i := 3) hnew
  have ma := ha.mul ha
  have mb := hb.mul hb
  have mc := hc.mul hc
  have md := hd.mul hd
  unfold InQ at ha hb hc hd
  have HB : Hid (Below w.heap.size w (w.alloc (.cells #[.int .i64 a, .int .i64 b, .int .i64 c, .int .i64 d] 70))) := hid below_w8
  clear hnew
  unfold quV
  go_enter Try.func84, Try.ntmps84
  go_wp2_with fail
  go_ret
  exact ⟨rfl, HB.out⟩

set_option maxRecDepth 100000 in
set_option maxHeartbeats 2000000 in
theorem qtList_any (a b c d : Int) (w : World) : Calls Try.prog 87 #[quV a b c d] w fun e w' => ∃ u, e = .returned u ∧ Owns w' w.heap.size u [a, b, c, d] ∧ Below w.heap.size w w' := by
  have hnew := heap_alloc_new w (.cells #[.int .i64 a, .int .i64 b, .int .i64 c, .int .i64 d] 70)
  have z0 := cell_q (i := 0) hnew
  have z1 := cell_q (i := 1) hnew
  have z2 := cell_q (i := 2) hnew
  have z3 := cell_q (i := 3) hnew
  have HB : Hid (Below w.heap.size w (w.alloc (.cells #[.int .i64 a, .int .i64 b, .int .i64 c, .int .i64 d] 70))) := hid below_w8
  clear hnew
  unfold quV
  have HO := (row_new4 (w.alloc (.cells #[.int .i64 a, .int .i64 b, .int .i64 c, .int .i64 d] 70)) a b c d).low8 HB.out.size
  simp only [World.size_alloc] at HO
  have HO' := hid HO
  clear HO
  go_enter Try.func87, Try.ntmps87
  go_wp2_with fail
  go_ret
  exact ⟨_, rfl, HO'.out, HB.out.alloc HB.out.size _⟩

set_option maxRecDepth 100000 in
set_option maxHeartbeats 2000000 in
theorem qtConj_any (a b c d : Int) (ha : InQ a) (hb : InQ b) (hc : InQ c) (hd : InQ d) (w : World) : Calls Try.prog 86 #[quV a b c d] w fun e w' => e = .returned (quV a (-b) (-c) (-d)) ∧ Below w.heap.size w w' := by
  have e0 := heap_alloc2_old w (.cells #[.int .i64 a, .int .i64 b, .int .i64 c, .int .i64 d] 70) (.cells #[.int .i64 0, .int .i64 0, .int .i64 0, .int .i64 0] 70)
  have e1 := heap_alloc2_new w (.cells #[.int .i64 a, .int .i64 b, .int .i64 c, .int .i64 d] 70) (.cells #[.int .i64 0, .int .i64 0, .int .i64 0, .int .i64 0] 70)
  have z0 := cell_q (i := 0) e0
  have z1 := cell_q (i := 1) e0
  have z2 := cell_q (i := 2) e0
  have z3 := cell_q (i := 3) e0
  have y0 := cell_q (i := 0) e1
  have y1 := cell_q (i := 1) e1
  have y2 := cell_q (i := 2) e1
  have y3 := cell_q (i := 3) e1
  have f0 := frozen_q (i := 0) e1
  have f1 := frozen_q (i := 1) e1
  have f2 := frozen_q (i := 2) e1
  have f3 := frozen_q (i := 3) e1
  unfold InQ at ha hb hc hd
  have HB : Hid (Below w.heap.size w ((w.alloc (.cells #[.int .i64 a, .int .i64 b, .int .i64 c, .int .i64 d] 70)).alloc (.cells #[.int .i64 0, .int .i64 0, .int .i64 0, .int .i64 0] 70))) := hid (below_w8.alloc (by simp) _)
  clear e0 e1
  unfold quV
  have HB2 : Hid (Below w.heap.size w ((w.alloc (.cells #[.int .i64 a, .int .i64 b, .int .i64 c, .int .i64 d] 70)).alloc (.cells #[.int .i64 a, .int .i64 (-b), .int .i64 (-c), .int .i64 (-d)] 70))) := hid (below_w8.alloc (by simp) _)
  go_enter Try.func86, Try.ntmps86
  go_wp2_with fail
  refine bodyPost_ret (v := .agg #[.int .i64 a, .int .i64 (-b), .int .i64 (-c), .int .i64 (-d)]) (by simp [results, Try.results86, go_sem] <;> go_simp) rfl ?_
  exact ⟨rfl, HB2.out⟩

set_option maxRecDepth 100000 in
theorem quatNorm_any (v : Value) (xs : List Int) (w : World) (h : Rd w v xs) : Calls Try.prog 46 #[v] w fun e w' => e = .returned (.int .i64 (qnormV xs)) ∧ Below w.heap.size w w' := by
  have HQ := hid (quaternionOf_any v xs w h)
  cases hq : quatB xs with
  | false =>
    rw [hq, qOf_no hq] at HQ
    have HF := hid (qnorm_no hq)
    clear h hq
    go_enter Try.func46, Try.ntmps46
    go_wp2_with (go_at_call 83; refine HQ.out.mono ?_; rintro e w2 ⟨rfl, hb⟩; have HB := hid hb; unfold quV; clear hb)
    go_ret
    exact ⟨retI HF.out.symm, HB.out.alloc HB.out.size _⟩
  | true =>
    obtain ⟨a, b, c, d, rfl, ha, hb, hc, hd⟩ := quat_list hq
    rw [hq, qOf_yes hq] at HQ
    have HF := hid (qnorm_yes hq)
    have HN := hid (fun w => qtNorm_any a b c d ha hb hc hd w)
    obtain ⟨n, hn⟩ : ∃ n, n = a * a + b * b + c * c + d * d := ⟨_, rfl⟩
    rw [← hn] at HN HF
    clear h hq ha hb hc hd hn
    go_enter Try.func46, Try.ntmps46
    go_wp2_with (first | (go_at_call 84; refine (HN.out _).mono ?_; rintro e w3 ⟨rfl, hb3⟩; have HB3 := hid ((HB.out.alloc HB.out.size (.cells #[.int .i64 a, .int .i64 b, .int .i64 c, .int .i64 d] 70)).trans (hb3.mono (HB.out.alloc HB.out.size (.cells #[.int .i64 a, .int .i64 b, .int .i64 c, .int .i64 d] 70)).size)); clear hb3) | (go_at_call 83; refine HQ.out.mono ?_; rintro e w2 ⟨rfl, hb⟩; have HB := hid hb; unfold quV; have hnew := heap_alloc_new w2 (.cells #[.int .i64 a, .int .i64 b, .int .i64 c, .int .i64 d] 70); have z0 := cell_q (i := 0) hnew; have z1 := cell_q (i := 1) hnew; have z2 := cell_q (i := 2) hnew; have z3 := cell_q (i := 3) hnew; clear hb hnew))
    go_ret
    exact ⟨retI HF.out.symm, HB3.out⟩

set_option maxRecDepth 100000 in
theorem quatConj_any (v : Value) (xs : List Int) (w : World) (h : Rd w v xs) : Calls Try.prog 48 #[v] w (QPost (quatB xs) (qconjL xs) w) := by
  have HQ := hid (quaternionOf_any v xs w h)
  cases hq : quatB xs with
  | false =>
    rw [hq, qOf_no hq] at HQ
    rw [qconj_no hq]
    clear h hq
    go_enter Try.func48, Try.ntmps48
    go_wp2_with (go_at_call 83; refine HQ.out.mono ?_; rintro e w2 ⟨rfl, hb⟩; have HB := hid (hb.alloc hb.size (.cells #[.int .i64 0, .int .i64 0, .int .i64 0, .int .i64 0] 70)); unfold quV; clear hb)
    go_ret2
    have HE := qpost_none HB.out
    simp only [World.size_alloc] at HE
    exact HE
  | true =>
    obtain ⟨a, b, c, d, rfl, ha, hb, hc, hd⟩ := quat_list hq
    rw [hq, qOf_yes hq] at HQ
    rw [qconj_yes hq]
    have HN := hid (fun w => qtConj_any a b c d ha hb hc hd w)
    have HL := hid (fun w => qtList_any a (-b) (-c) (-d) w)
    clear h hq ha hb hc hd
    go_enter Try.func48, Try.ntmps48
    go_wp2_with (first | (go_at_call 87; refine (HL.out _).mono ?_; rintro e w4 ⟨u, rfl, ho4, hb4⟩; have HO4 := hid (ho4.low8 HB3.out.size); have HB4 := hid (HB3.out.trans (hb4.mono HB3.out.size)); clear hb4 ho4) | (go_at_call 86; refine (HN.out _).mono ?_; rintro e w3 ⟨rfl, hb3⟩; have HB3 := hid ((HB.out.alloc HB.out.size (.cells #[.int .i64 a, .int .i64 b, .int .i64 c, .int .i64 d] 70)).trans (hb3.mono (HB.out.alloc HB.out.size (.cells #[.int .i64 a, .int .i64 b, .int .i64 c, .int .i64 d] 70)).size)); clear hb3) | (go_at_call 83; refine HQ.out.mono ?_; rintro e w2 ⟨rfl, hb⟩; have HB := hid hb; unfold quV; have hnew := heap_alloc_new w2 (.cells #[.int .i64 a, .int .i64 b, .int .i64 c, .int .i64 d] 70); have z0 := cell_q (i := 0) hnew; have z1 := cell_q (i := 1) hnew; have z2 := cell_q (i := 2) hnew; have z3 := cell_q (i := 3) hnew; clear hb hnew))
    go_ret2
    exact ⟨_, rfl, HO4.out, HB4.out⟩

end Go.Proofs.Ytdclmjmefkgbbab
