/-
  Contracts of the program's chapter 7: products, the way back.
-/
import Derived.Test.YtacjejnbomdhbabMpP
import Derived.Test.YtacjejnbomdhbabQBun26
set_option linter.unusedVariables false
namespace Go.Proofs.Ytacjejnbomdhbab
open Go.RowKit

theorem mul_made {xs : List Int} {A B : List (List Int)} {a b : Int} (hA : MoveOk xs A a) (hB : MoveOk xs B b) : mulV xs A a B b = madeV xs.length (mulF (at2 A) (at2 B) xs.length) (a * b) := by
  rw [made_tidy hA.form hA.l3 (Int.mul_ne_zero hA.d0 hB.d0) (orth_mul hA.orth hB.orth)]
  unfold mulV
  rw [moveB_iff.2 hA, moveB_iff.2 hB]
  rfl
theorem times_move {xs : List Int} (bmA bmB : Nat) (va vb : Value) (A B : List (List Int)) (a b : Int) (w : World) (hmA : MvAt w bmA va a) (hmB : MvAt w bmB vb b) (hA : RdM w va A) (hB : RdM w vb B) (oA : MoveOk xs A a) (oB : MoveOk xs B b) :
    Calls Try.prog 62 #[.pointer (some ⟨bmA, 0, none⟩), .pointer (some ⟨bmB, 0, none⟩)] w (MovePost (mulV xs A a B b) w) := by
  rw [mul_made oA oB]
  exact times9_any bmA bmB va vb A B a b xs.length w hmA hmB hA hB oA.sq oB.sq oA.n3 (fun i k => oA.at_bd i k) (fun i k => oB.at_bd i k) oA.den.1 oA.den.2 oB.den.1 oB.den.2
set_option maxRecDepth 100000 in
set_option maxHeartbeats 4000000 in
theorem moveMul_any (vf va vb : Value) (xs : List Int) (A B : List (List Int)) (a b : Int) (w : World) (hx : Rd w vf xs) (hA : RdM w va A) (hB : RdM w vb B) : Calls Try.prog 28 #[vf, .agg #[va, .int .i64 a], .agg #[vb, .int .i64 b]] w (MovePost (mulV xs A a B b) w) := by
  obtain ⟨ax, cx, rfl, _⟩ := hx.form
  obtain ⟨aa, ca, rfl⟩ := hA.form
  obtain ⟨ab, cb, rfl⟩ := hB.form
  have hbl : Below w.heap.size w (((w.alloc (.cells #[.slice aa A.length ca, .int .i64 a] 29)).alloc (.cells #[.slice ab B.length cb, .int .i64 b] 29)).alloc (.cells #[.slice none 0 0, .int .i64 0] 29)) := ((below_box2 _ _).alloc (by simp) _).alloc (by simp; omega) _
  have HX := hid (hx.keep hbl)
  have HA := hid (hA.keep hbl)
  have HBm := hid (hB.keep hbl)
  have HB := hid hbl
  have HR : Hid ((((w.alloc (.cells #[.slice aa A.length ca, .int .i64 a] 29)).alloc (.cells #[.slice ab B.length cb, .int .i64 b] 29)).alloc (.cells #[.slice none 0 0, .int .i64 0] 29)).heap[w.heap.size + 1 + 1]? = some (.cells #[.slice none 0 0, .int .i64 0] 29 (0, 0))) := hid (heap_new (by simp))
  have H1 : Hid (MvAt (((w.alloc (.cells #[.slice aa A.length ca, .int .i64 a] 29)).alloc (.cells #[.slice ab B.length cb, .int .i64 b] 29)).alloc (.cells #[.slice none 0 0, .int .i64 0] 29)) w.heap.size (.slice aa A.length ca) a) := hid (heap_up (heap_up (heap_new rfl)))
  have H2 : Hid (MvAt (((w.alloc (.cells #[.slice aa A.length ca, .int .i64 a] 29)).alloc (.cells #[.slice ab B.length cb, .int .i64 b] 29)).alloc (.cells #[.slice none 0 0, .int .i64 0] 29)) (w.heap.size + 1) (.slice ab B.length cb) b) := hid (heap_up (heap_new (by simp)))
  clear hx hA hB hbl
  cases hva : moveB xs A a with
  | false =>
    have HV := hid (valid9_any w.heap.size _ _ xs A a _ H1.out HA.out HX.out)
    rw [hva] at HV
    have HE : Hid (mulV xs A a B b = none) := hid (by unfold mulV; rw [hva]; rfl)
    clear hva
    go_enter Try.func28, Try.ntmps28
    go_wp2_with fail
    refine HV.out.mono ?_
    rintro e w2 ⟨rfl, hb2⟩
    have hq := heap_below hb2 HR.out
    have z0 := cellB (i := 0) hq
    have z1 := cellB (i := 1) hq
    have y0 := frozenB (i := 0) hq
    have y1 := frozenB (i := 1) hq
    have HR2 := hid hq
    have HB2 := hid (HB.out.trans (hb2.mono HB.out.size))
    clear hb2 hq
    go_wp2_with fail
    refine bodyPost_ret (v := .tuple #[.agg #[.slice none 0 0, .int .i64 0], .bool false]) (by simp [results, Try.results28, go_sem] <;> go_simp) rfl ?_
    rw [HE.out]
    first | exact ⟨_, rfl, ownM_nil _ _ _, HB2.out⟩ | exact movePost_none HB2.out (by first | omega | (simp; omega) | simp) _ _
  | true =>
    have HV := hid (valid9_any w.heap.size _ _ xs A a _ H1.out HA.out HX.out)
    have oA := moveB_iff.1 hva
    rw [hva] at HV
    cases hvb : moveB xs B b with
    | false =>
      have HE : Hid (mulV xs A a B b = none) := hid (by unfold mulV; rw [hva, hvb]; rfl)
      have HVB := hid hvb
      clear hva hvb oA
      go_enter Try.func28, Try.ntmps28
      go_wp2_with fail
      refine HV.out.mono ?_
      rintro e w2 ⟨rfl, hb2⟩
      have HV2 := hid (valid9_any (w.heap.size + 1) _ _ xs B b _ (H2.out.keep hb2) (HBm.out.keep hb2) (HX.out.keep hb2))
      have hq := heap_below hb2 HR.out
      have z0 := cellB (i := 0) hq
      have z1 := cellB (i := 1) hq
      have y0 := frozenB (i := 0) hq
      have y1 := frozenB (i := 1) hq
      have HR2 := hid hq
      have HB2 := hid (HB.out.trans (hb2.mono HB.out.size))
      clear hb2 hq
      go_wp2_with fail
      refine HV2.out.mono ?_
      rw [HVB.out]
      rintro e w3 ⟨rfl, hb3⟩
      have hq := heap_below hb3 HR2.out
      have z0 := cellB (i := 0) hq
      have z1 := cellB (i := 1) hq
      have y0 := frozenB (i := 0) hq
      have y1 := frozenB (i := 1) hq
      have HR3 := hid hq
      have HB3 := hid (HB2.out.trans (hb3.mono HB2.out.size))
      clear hb3 hq
      go_wp2_with fail
      refine bodyPost_ret (v := .tuple #[.agg #[.slice none 0 0, .int .i64 0], .bool false]) (by simp [results, Try.results28, go_sem] <;> go_simp) rfl ?_
      rw [HE.out]
      first | exact ⟨_, rfl, ownM_nil _ _ _, HB3.out⟩ | exact movePost_none HB3.out (by first | omega | (simp; omega) | simp) _ _
    | true =>
      have oB := moveB_iff.1 hvb
      have HVB := hid hvb
      have OA := hid oA
      have OB := hid oB
      clear hva hvb oA oB
      go_enter Try.func28, Try.ntmps28
      go_wp2_with fail
      refine HV.out.mono ?_
      rintro e w2 ⟨rfl, hb2⟩
      have HV2 := hid (valid9_any (w.heap.size + 1) _ _ xs B b _ (H2.out.keep hb2) (HBm.out.keep hb2) (HX.out.keep hb2))
      have HB20 := hid hb2
      have hq := heap_below hb2 HR.out
      have z0 := cellB (i := 0) hq
      have z1 := cellB (i := 1) hq
      have y0 := frozenB (i := 0) hq
      have y1 := frozenB (i := 1) hq
      have HR2 := hid hq
      have HB2 := hid (HB.out.trans (hb2.mono HB.out.size))
      clear hb2 hq
      go_wp2_with fail
      refine HV2.out.mono ?_
      rw [HVB.out]
      rintro e w3 ⟨rfl, hb3⟩
      have hb23 := HB20.out.trans (hb3.mono HB20.out.size)
      have HMU := hid (times_move w.heap.size (w.heap.size + 1) _ _ A B a b w3 (H1.out.keep hb23) (H2.out.keep hb23) (HA.out.keep hb23) (HBm.out.keep hb23) OA.out OB.out)
      clear hb23
      have hq := heap_below hb3 HR2.out
      have z0 := cellB (i := 0) hq
      have z1 := cellB (i := 1) hq
      have y0 := frozenB (i := 0) hq
      have y1 := frozenB (i := 1) hq
      have HR3 := hid hq
      have HB3 := hid (HB2.out.trans (hb3.mono HB2.out.size))
      clear hb3 hq
      go_wp2_with fail
      refine HMU.out.mono ?_
      have HR := HR3
      have hkl := (Array.getElem?_eq_some_iff.1 HR.out).1
      have HB := HB3
      rintro e w9 hp
      obtain ⟨R2, d2, b2, au, cu, rfl, ho, hb9, HE9⟩ := movePost_un hp
      have HO := hid ho
      have hq := heap_below hb9 HR.out
      have t0 := cellB (i := 0) hq
      have t1 := cellB (i := 1) hq
      have v0 := frozenB (i := 0) hq
      have v1 := frozenB (i := 1) hq
      have HB9 := hid (HB.out.trans (hb9.mono HB.out.size))
      clear ho hb9 hq hp
      go_wp2_with fail
      refine bodyPost_ret (v := .tuple #[.agg #[.slice au R2.length cu, .int .i64 d2], .bool b2]) (by simp [results, Try.results28, go_sem] <;> go_simp) rfl ?_
      exact movePost_o HO.out HB9.out (by first | omega | (simp; omega) | simp) (by first | omega | (simp; omega) | simp) _ _ HE9.out

theorem back_made {xs : List Int} {A : List (List Int)} {a : Int} (hA : MoveOk xs A a) : backW xs A a = madeV xs.length (backF (fF xs) (allI xs) (at2 A)) (a * allI xs) := by
  have hp := all_pos hA.form
  rw [made_tidy hA.form hA.l3 (Int.mul_ne_zero hA.d0 (by omega)) (back_orth hA.n3 hA.d0 (by omega) (fun i hi => all_div hA.form hi) hA.orth)]
  unfold backW
  rw [moveB_iff.2 hA]
  rfl
theorem backF_b14 {xs : List Int} {A : List (List Int)} {a : Int} (hA : MoveOk xs A a) {i j : Nat} (hi : i < xs.length) (hj : j < xs.length) : B14 (backF (fF xs) (allI xs) (at2 A) i j) := by
  have h1 := (fF_form hA.form hj).1
  have h2 := all_bd hA.form
  have h3 := all_pos hA.form
  have h4 : ((allI xs).tdiv (fF xs i)).natAbs ≤ 810000 := by rw [Int.natAbs_tdiv]; exact Nat.le_trans (Nat.div_le_self _ _) (by omega)
  have h5 := back_bd (hA.at_bd j i) h1 (z := (allI xs).tdiv (fF xs i)) (by omega)
  unfold B14 backF
  omega
set_option maxRecDepth 100000 in
set_option maxHeartbeats 4000000 in
theorem moveBack_any (vf va : Value) (xs : List Int) (A : List (List Int)) (a : Int) (w : World) (hx : Rd w vf xs) (hA : RdM w va A) : Calls Try.prog 30 #[vf, .agg #[va, .int .i64 a]] w (MovePost (backW xs A a) w) := by
  obtain ⟨ax, cx, rfl, _⟩ := hx.form
  obtain ⟨aa, ca, rfl⟩ := hA.form
  have hbl : Below w.heap.size w (((w.alloc (.cells #[.slice ax xs.length cx] 22)).alloc (.cells #[.slice aa A.length ca, .int .i64 a] 29)).alloc (.cells #[.slice none 0 0, .int .i64 0] 29)) := ((below_box2 _ _).alloc (by simp) _).alloc (by simp; omega) _
  have HX := hid (hx.keep hbl)
  have HA := hid (hA.keep hbl)
  have HB := hid hbl
  have HR : Hid ((((w.alloc (.cells #[.slice ax xs.length cx] 22)).alloc (.cells #[.slice aa A.length ca, .int .i64 a] 29)).alloc (.cells #[.slice none 0 0, .int .i64 0] 29)).heap[w.heap.size + 1 + 1]? = some (.cells #[.slice none 0 0, .int .i64 0] 29 (0, 0))) := hid (heap_new (by simp))
  have H1 : Hid (Boxed (((w.alloc (.cells #[.slice ax xs.length cx] 22)).alloc (.cells #[.slice aa A.length ca, .int .i64 a] 29)).alloc (.cells #[.slice none 0 0, .int .i64 0] 29)) w.heap.size 22 (.slice ax xs.length cx)) := hid (heap_up (heap_up (heap_new rfl)))
  have H2 : Hid (MvAt (((w.alloc (.cells #[.slice ax xs.length cx] 22)).alloc (.cells #[.slice aa A.length ca, .int .i64 a] 29)).alloc (.cells #[.slice none 0 0, .int .i64 0] 29)) (w.heap.size + 1) (.slice aa A.length ca) a) := hid (heap_up (heap_new (by simp)))
  have HV := hid (valid9_any (w.heap.size + 1) _ _ xs A a _ H2.out HA.out HX.out)
  clear hx hA hbl
  cases hva : moveB xs A a with
  | false =>
    rw [hva] at HV
    have HE : Hid (backW xs A a = none) := hid (by unfold backW; rw [hva]; rfl)
    clear hva
    go_enter Try.func30, Try.ntmps30
    go_wp2_with fail
    refine HV.out.mono ?_
    rintro e w2 ⟨rfl, hb2⟩
    have hq := heap_below hb2 HR.out
    have z0 := cellB (i := 0) hq
    have z1 := cellB (i := 1) hq
    have y0 := frozenB (i := 0) hq
    have y1 := frozenB (i := 1) hq
    have HR2 := hid hq
    have HB2 := hid (HB.out.trans (hb2.mono HB.out.size))
    clear hb2 hq
    go_wp2_with fail
    refine bodyPost_ret (v := .tuple #[.agg #[.slice none 0 0, .int .i64 0], .bool false]) (by simp [results, Try.results30, go_sem] <;> go_simp) rfl ?_
    rw [HE.out]
    first | exact ⟨_, rfl, ownM_nil _ _ _, HB2.out⟩ | exact movePost_none HB2.out (by first | omega | (simp; omega) | simp) _ _
  | true =>
    have oA := moveB_iff.1 hva
    rw [hva] at HV
    have HE := hid (back_made oA)
    have hap := all_pos oA.form
    have hab := all_bd oA.form
    have hda1 : 1 ≤ a * allI xs := Int.mul_pos (by have := oA.den.1; omega) (by omega)
    have hda2 : a * allI xs ≤ 8100000000 := by
      have := Int.mul_le_mul oA.den.2 hab (by omega) (by omega)
      omega
    have HMO := hid (fun (b2 bm : Nat) (w' : World) (h1 : Boxed w' b2 22 (.slice ax xs.length cx)) (h2 : MvAt w' bm (.slice aa A.length ca) a) (h4 : Rd w' (.slice ax xs.length cx) xs) (h5 : RdM w' (.slice aa A.length ca) A) => moveOf_any xs.length oA.n3 65 #[.pointer (some ⟨b2, 0, none⟩), .pointer (some ⟨bm, 0, none⟩)] (backF (fF xs) (allI xs) (at2 A)) (a * allI xs) (by omega) (by unfold B14; omega) (fun i j hi hj => backF_b14 oA hi hj) w' (enters_of Try.func65 (by kernel_rfl) rfl) (fun i j w'' hi hj hb => backAt_any b2 bm _ _ xs A a (allI xs) i j w'' (box_below hb h1) (h2.keep hb) (h4.keep hb) (h5.keep hb) oA.sq oA.l3 hi hj (fun k hk => fF_form oA.form hk) (fun i j _ _ => oA.at_bd i j) oA.den.1 oA.den.2 (fun k hk => all_div oA.form hk)))
    rw [← HE.out] at HMO
    clear hva oA hap hab hda1 hda2
    go_enter Try.func30, Try.ntmps30
    go_wp2_with fail
    refine HV.out.mono ?_
    rintro e w2 ⟨rfl, hb2⟩
    have c1 := (box_below hb2 H1.out).cell
    have HMU := hid (HMO.out w.heap.size (w.heap.size + 1) w2 (box_below hb2 H1.out) (H2.out.keep hb2) (HX.out.keep hb2) (HA.out.keep hb2))
    have hq := heap_below hb2 HR.out
    have z0 := cellB (i := 0) hq
    have z1 := cellB (i := 1) hq
    have y0 := frozenB (i := 0) hq
    have y1 := frozenB (i := 1) hq
    have HR2 := hid hq
    have HB2 := hid (HB.out.trans (hb2.mono HB.out.size))
    clear hb2 hq
    go_wp2_with fail
    refine HMU.out.mono ?_
    have HR := HR2
    have hkl := (Array.getElem?_eq_some_iff.1 HR.out).1
    have HB := HB2
    rintro e w9 hp
    obtain ⟨R2, d2, b2, au, cu, rfl, ho, hb9, HE9⟩ := movePost_un hp
    have HO := hid ho
    have hq := heap_below hb9 HR.out
    have t0 := cellB (i := 0) hq
    have t1 := cellB (i := 1) hq
    have v0 := frozenB (i := 0) hq
    have v1 := frozenB (i := 1) hq
    have HB9 := hid (HB.out.trans (hb9.mono HB.out.size))
    clear ho hb9 hq hp
    go_wp2_with fail
    refine bodyPost_ret (v := .tuple #[.agg #[.slice au R2.length cu, .int .i64 d2], .bool b2]) (by simp [results, Try.results30, go_sem] <;> go_simp) rfl ?_
    exact movePost_o HO.out HB9.out (by first | omega | (simp; omega) | simp) (by first | omega | (simp; omega) | simp) _ _ HE9.out

end Go.Proofs.Ytacjejnbomdhbab
