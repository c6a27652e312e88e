/-
  Contracts of the program's chapter 7: mirrors, products.
-/
import Derived.Test.YtacjejnbomdhbabMpJ
import Derived.Test.YtacjejnbomdhbabQBun20
set_option linter.unusedVariables false
namespace Go.Proofs.Ytacjejnbomdhbab
open Go.RowKit

theorem vec_is {xs vs : List Int} {m : Int} (h : fvB xs = true) : vecB xs vs m = (inAll vs m && decide ((vs.length : Int) = (xs.length : Int))) := by
  rw [vecB_in, h, Bool.true_and]
  congr 1
  rw [Bool.eq_iff_iff, beq_iff_eq, decide_eq_true_eq]
  omega
theorem fF_form {xs : List Int} (h : fvB xs = true) {k : Nat} (hk : k < xs.length) : (-30 ≤ fF xs k ∧ fF xs k ≤ 30) ∧ fF xs k ≠ 0 := by
  have := (fvB_iff.1 h).1 (xs[k]) (List.getElem_mem _)
  unfold fF
  rw [List.getD_eq_getElem?_getD, List.getElem?_eq_getElem hk]
  exact ⟨this.2, this.1⟩

theorem mir_made {xs ws : List Int} (hf : fvB xs = true) (h3 : xs.length ≤ 3) (hv : vecB xs ws 1000 = true) (h0 : valI xs ws xs.length ≠ 0) : mirV xs ws = madeV xs.length (mirF (fF xs) (fF ws) (valI xs ws xs.length)) (valI xs ws xs.length) := by
  have hm : frm3B xs = true := by unfold frm3B; rw [hf, decide_eq_true h3]; rfl
  rw [made_tidy hf h3 h0 (by rw [val_pr]; exact mir_orth _ _ _)]
  unfold mirV
  rw [hm, hv, decide_eq_false h0]
  rfl
set_option maxRecDepth 100000 in
set_option maxHeartbeats 4000000 in
theorem moveMirror_any (vf vw : Value) (xs ws : List Int) (w : World) (hx : Rd w vf xs) (hw : Rd w vw ws) : Calls Try.prog 26 #[vf, vw] w (MovePost (mirV xs ws) w) := by
  obtain ⟨ax, cx, rfl, _⟩ := hx.form
  obtain ⟨aw, cw, rfl, _⟩ := hw.form
  have hbl : Below w.heap.size w (((w.alloc (.cells #[.slice ax xs.length cx] 22)).alloc (.cells #[.slice aw ws.length cw] 22)).alloc (.cells #[.slice none 0 0, .int .i64 0] 29)) := ((below_box2 _ _).alloc (by simp) _).alloc (by simp; omega) _
  have HX := hid (hx.keep hbl)
  have HW := hid (hw.keep hbl)
  have HB := hid hbl
  have HR : Hid ((((w.alloc (.cells #[.slice ax xs.length cx] 22)).alloc (.cells #[.slice aw ws.length cw] 22)).alloc (.cells #[.slice none 0 0, .int .i64 0] 29)).heap[w.heap.size + 1 + 1]? = some (.cells #[.slice none 0 0, .int .i64 0] 29 (0, 0))) := hid (heap_new (by simp))
  have H1 : Hid (Boxed (((w.alloc (.cells #[.slice ax xs.length cx] 22)).alloc (.cells #[.slice aw ws.length cw] 22)).alloc (.cells #[.slice none 0 0, .int .i64 0] 29)) w.heap.size 22 (.slice ax xs.length cx)) := hid (heap_up (heap_up (heap_new rfl)))
  have H2 : Hid (Boxed (((w.alloc (.cells #[.slice ax xs.length cx] 22)).alloc (.cells #[.slice aw ws.length cw] 22)).alloc (.cells #[.slice none 0 0, .int .i64 0] 29)) (w.heap.size + 1) 22 (.slice aw ws.length cw)) := hid (heap_up (heap_new (by simp)))
  clear hx hw hbl
  cases hf : frm3B xs with
  | false =>
    have HF := hid hf
    have HE : Hid (mirV xs ws = none) := hid (by unfold mirV; rw [hf]; rfl)
    clear hf
    go_enter Try.func26, Try.ntmps26
    go_wp2_with (go_at_call 51; refine (movable_any _ xs _ HX.out).mono ?_; rw [HF.out]; rintro e w' ⟨rfl, rfl⟩)
    refine bodyPost_ret (v := .tuple #[.agg #[.slice none 0 0, .int .i64 0], .bool false]) (by simp [results, Try.results26, go_sem] <;> go_simp) rfl ?_
    rw [HE.out]
    first | exact ⟨_, rfl, ownM_nil _ _ _, HB.out⟩ | exact movePost_none HB.out (by first | omega | (simp; omega) | simp) _ _
  | true =>
    have HF := hid hf
    have hf2 : fvB xs = true ∧ xs.length ≤ 3 := by unfold frm3B at hf; rwa [Bool.and_eq_true, decide_eq_true_eq] at hf
    have HF2 := hid hf2
    have hvi := vec_is (vs := ws) (m := 1000) hf2.1
    cases hv : vecB xs ws 1000 with
    | false =>
      have HE : Hid (mirV xs ws = none) := hid (by unfold mirV; rw [hf, hv]; rfl)
      rw [hv] at hvi
      have HV := hid hvi.symm
      clear hf hf2 hvi hv
      go_enter Try.func26, Try.ntmps26
      go_wp2_with (first | (go_at_call 51; refine (movable_any _ xs _ HX.out).mono ?_; rw [HF.out]; rintro e w' ⟨rfl, rfl⟩) | (go_at_call 57; refine (vectorWithin_any _ ws _ _ (by omega) (by omega) _ HW.out).mono ?_; rw [HV.out]; rintro e w' ⟨rfl, rfl⟩))
      refine bodyPost_ret (v := .tuple #[.agg #[.slice none 0 0, .int .i64 0], .bool false]) (by simp [results, Try.results26, go_sem] <;> go_simp) rfl ?_
      rw [HE.out]
      first | exact ⟨_, rfl, ownM_nil _ _ _, HB.out⟩ | exact movePost_none HB.out (by first | omega | (simp; omega) | simp) _ _
    | true =>
      have hvb := vecB_iff.1 hv
      have HL := hid hvb.2.2
      have hwb : ∀ k, k < xs.length → -1000 ≤ fF ws k ∧ fF ws k ≤ 1000 := fun k hk => fF_bd (m := 1000) (by omega) (fun v h => hvb.1 v h) k
      have hvl := val_bd3 (m := 1000) (by omega) hf2.1 hf2.2 hwb
      have H6 : Hid (Vec6 ws) := hid (vec6_vecB hv (by omega))
      rw [hv] at hvi
      have HV := hid hvi.symm
      obtain ⟨q, hq⟩ : ∃ q, q = valI xs ws xs.length := ⟨_, rfl⟩
      have HPQ : Hid (pairI xs ws ws xs.length = q) := hid (by rw [pair_self, hq])
      rw [← hq] at hvl
      by_cases h0 : q = 0
      · have HE : Hid (mirV xs ws = none) := hid (by unfold mirV; rw [← hq, hf, hv, h0]; rfl)
        have T : (q == 0) = true := by rw [beq_iff_eq]; exact h0
        clear hf hf2 hvi hv hvb hwb hvl h0 hq
        go_enter Try.func26, Try.ntmps26
        go_wp2_with (first | (go_at_call 51; refine (movable_any _ xs _ HX.out).mono ?_; rw [HF.out]; rintro e w' ⟨rfl, rfl⟩) | (go_at_call 57; refine (vectorWithin_any _ ws _ _ (by omega) (by omega) _ HW.out).mono ?_; rw [HV.out]; rintro e w' ⟨rfl, rfl⟩))
        refine (pairAt_any _ _ _ xs ws ws _ HX.out HW.out HW.out HF2.out.1 H6.out H6.out HL.out HL.out).mono ?_
        rw [HPQ.out]
        rintro e w' ⟨rfl, k, rfl⟩
        go_wp2_with fail
        refine bodyPost_ret (v := .tuple #[.agg #[.slice none 0 0, .int .i64 0], .bool false]) (by simp [results, Try.results26, go_sem] <;> go_simp) rfl ?_
        rw [HE.out]
        first | exact ⟨_, rfl, ownM_nil _ _ _, (((below_drewN HB.out k).setCell (by show w.heap.size ≤ w.heap.size + 1 + 1; omega) _).setCell (by show w.heap.size ≤ w.heap.size + 1 + 1; omega) _).alloc (by simp; omega) _⟩ | exact ⟨_, rfl, ownM_nil _ _ _, HB.out⟩ | exact movePost_none HB.out (by first | exact ⟨_, rfl, ownM_nil _ _ _, (((below_drewN HB.out k).setCell (by show w.heap.size ≤ w.heap.size + 1 + 1; omega) _).setCell (by show w.heap.size ≤ w.heap.size + 1 + 1; omega) _).alloc (by simp; omega) _⟩ | omega | (simp; omega) | simp) _ _
      · have T : (q == 0) = false := beq_eq_false_iff_ne.2 h0
        have HE := hid (mir_made hf2.1 hf2.2 hv (by rw [← hq]; exact h0))
        rw [← hq] at HE
        have hfb := fun k hk => (fF_form hf2.1 (k := k) hk).1
        have HMO := hid (fun (w' : World) (b2 b3 b6 : Nat) (h1 : Boxed w' b2 22 (.slice ax xs.length cx)) (h2 : Boxed w' b3 22 (.slice aw ws.length cw)) (h3 : Boxed w' b6 3 (.int .i64 q)) (h4 : Rd w' (.slice ax xs.length cx) xs) (h5 : Rd w' (.slice aw ws.length cw) ws) => moveOf_any xs.length (form_n3 hf2.1 hf2.2) 59 #[.pointer (some ⟨b2, 0, none⟩), .pointer (some ⟨b3, 0, none⟩), .pointer (some ⟨b6, 0, none⟩)] (mirF (fF xs) (fF ws) q) q h0 (by unfold B14; omega) (fun i j hi hj => by
          obtain ⟨_, _, g⟩ := mirr_bd (hfb j hj) (hwb j hj) (hwb i hi)
          unfold B14 mirF
          split <;> omega) w' (enters_of Try.func59 (by kernel_rfl) rfl) (fun i j w'' hi hj hb => mirrorAt_any b2 b3 b6 _ _ xs ws q i j w'' (box_below hb h1) (box_below hb h2) (box_below hb h3) (h4.keep hb) (h5.keep hb) hvb.2.2 hf2.2 hi hj hfb hwb h0 (by omega)))
        rw [← HE.out] at HMO
        have HW4 : Hid (∀ k, Boxed (((((w.alloc (.cells #[.slice ax xs.length cx] 22)).alloc (.cells #[.slice aw ws.length cw] 22)).alloc (.cells #[.slice none 0 0, .int .i64 0] 29)).drewN k).alloc (.cells #[.int .i64 q] 3)) (w.heap.size + 1 + 1 + 1) 3 (.int .i64 q)) := hid (fun k => heap_new (by simp))
        have HB4 : Hid (∀ k, Below (((w.alloc (.cells #[.slice ax xs.length cx] 22)).alloc (.cells #[.slice aw ws.length cw] 22)).alloc (.cells #[.slice none 0 0, .int .i64 0] 29)).heap.size (((w.alloc (.cells #[.slice ax xs.length cx] 22)).alloc (.cells #[.slice aw ws.length cw] 22)).alloc (.cells #[.slice none 0 0, .int .i64 0] 29)) (((((w.alloc (.cells #[.slice ax xs.length cx] 22)).alloc (.cells #[.slice aw ws.length cw] 22)).alloc (.cells #[.slice none 0 0, .int .i64 0] 29)).drewN k).alloc (.cells #[.int .i64 q] 3))) := hid (fun k => (below_drewN (Below.refl _ (((w.alloc (.cells #[.slice ax xs.length cx] 22)).alloc (.cells #[.slice aw ws.length cw] 22)).alloc (.cells #[.slice none 0 0, .int .i64 0] 29))) k).alloc (show (((w.alloc (.cells #[.slice ax xs.length cx] 22)).alloc (.cells #[.slice aw ws.length cw] 22)).alloc (.cells #[.slice none 0 0, .int .i64 0] 29)).heap.size ≤ ((((w.alloc (.cells #[.slice ax xs.length cx] 22)).alloc (.cells #[.slice aw ws.length cw] 22)).alloc (.cells #[.slice none 0 0, .int .i64 0] 29)).drewN k).heap.size from Nat.le_refl _) _)
        clear hf hf2 hvi hv hvb hwb hvl h0 hq hfb
        go_enter Try.func26, Try.ntmps26
        go_wp2_with (first | (go_at_call 51; refine (movable_any _ xs _ HX.out).mono ?_; rw [HF.out]; rintro e w' ⟨rfl, rfl⟩) | (go_at_call 57; refine (vectorWithin_any _ ws _ _ (by omega) (by omega) _ HW.out).mono ?_; rw [HV.out]; rintro e w' ⟨rfl, rfl⟩))
        refine (pairAt_any _ _ _ xs ws ws _ HX.out HW.out HW.out HF2.out.1 H6.out H6.out HL.out HL.out).mono ?_
        rw [HPQ.out]
        rintro e w' ⟨rfl, k, rfl⟩
        go_wp2_with fail
        have hb4 := HB4.out k
        have HR := hid (heap_below hb4 HR.out)
        have HB := hid (HB.out.trans (hb4.mono HB.out.size))
        refine (HMO.out _ _ _ _ (box_below hb4 H1.out) (box_below hb4 H2.out) (HW4.out k) (HX.out.keep hb4) (HW.out.keep hb4)).mono ?_
        clear hb4
        rintro e w2 hp
        obtain ⟨R2, d2, b2, au, cu, rfl, ho, hb2, HE2⟩ := movePost_un hp
        have HO := hid ho
        have hq := heap_below hb2 HR.out
        have z0 := cellB (i := 0) hq
        have z1 := cellB (i := 1) hq
        have y0 := frozenB (i := 0) hq
        have y1 := frozenB (i := 1) hq
        have HB2 := hid (HB.out.trans (hb2.mono HB.out.size))
        clear ho hb2 hq hp
        go_wp2_with fail
        refine bodyPost_ret (v := .tuple #[.agg #[.slice au R2.length cu, .int .i64 d2], .bool b2]) (by simp [results, Try.results26, go_sem] <;> go_simp) rfl ?_
        exact movePost_o HO.out HB2.out (by first | omega | (simp; omega) | simp) (by first | omega | (simp; omega) | simp) _ _ HE2.out

--TIMES
end Go.Proofs.Ytacjejnbomdhbab
