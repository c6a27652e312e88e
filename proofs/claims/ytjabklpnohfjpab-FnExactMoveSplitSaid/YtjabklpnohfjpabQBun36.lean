/-
  Some texts in one file: MpP MpQ MpS Mx8 RdCut.
-/
import Derived.Test.YtjabklpnohfjpabQBun35
import Derived.Test.YtjabklpnohfjpabQBun26
import Derived.Test.YtjabklpnohfjpabQBun25
import Derived.Test.YtjabklpnohfjpabQBun5
/-! MpP -/
set_option linter.unusedVariables false
namespace Go.Proofs.Ytjabklpnohfjpab
open Go.RowKit

set_option maxRecDepth 100000 in
set_option maxHeartbeats 2000000 in
theorem moveValid_any (vf va : Value) (xs : List Int) (R : List (List Int)) (d : Int) (w : World) (hx : Rd w vf xs) (hR : RdM w va R) : Calls Try.prog 17 #[vf, .agg #[va, .int .i64 d]] w fun e w' => e = .returned (.bool (moveB xs R d)) ∧ Below w.heap.size w w' := by
  obtain ⟨a, c, rfl⟩ := hR.form
  have hbl : Below w.heap.size w (w.alloc (.cells #[.slice a R.length c, .int .i64 d] 29)) := below_box2 _ _
  have HV := hid (valid9_any w.heap.size _ vf xs R d _ (heap_new rfl) (hR.keep hbl) (hx.keep hbl))
  obtain ⟨ax, cx, rfl, _⟩ := hx.form
  have HB := hid hbl
  clear hx hR hbl
  go_enter Try.func17, Try.ntmps17
  go_wp2_with fail
  refine HV.out.mono ?_
  rintro e w2 ⟨rfl, hb2⟩
  have HB2 := hid (HB.out.trans (hb2.mono HB.out.size))
  clear hb2
  go_wp2_with fail
  go_ret
  exact ⟨rfl, HB2.out⟩

set_option maxRecDepth 100000 in
set_option maxHeartbeats 4000000 in
theorem timesAt_any (b3 b2 bmA bmB : Nat) (va vb : Value) (A B : List (List Int)) (a b : Int) (n i j : Nat) (w : World) (hx1 : Boxed w b3 68 (.pointer (some ⟨bmB, 0, none⟩))) (hx2 : Boxed w b2 68 (.pointer (some ⟨bmA, 0, none⟩))) (hmA : MvAt w bmA va a) (hmB : MvAt w bmB vb b) (hA : RdM w va A) (hB : RdM w vb B) (sA : Sq n A) (sB : Sq n B) (hi : i < n) (hj : j < n) (hn3 : n ≤ 3) (bA : ∀ i k, -1000000 ≤ at2 A i k ∧ at2 A i k ≤ 1000000) (bB : ∀ i k, -1000000 ≤ at2 B i k ∧ at2 B i k ≤ 1000000) (a1 : 1 ≤ a) (a2 : a ≤ 10000) (b1 : 1 ≤ b) (b2' : b ≤ 10000) :
    Calls Try.prog 95 #[.int .i64 (i : Int), .int .i64 (j : Int), .pointer (some ⟨b3, 0, none⟩), .pointer (some ⟨b2, 0, none⟩)] w fun e w' => ∃ p q, e = .returned (frV p q) ∧ Fr p q (mulF (at2 A) (at2 B) n i j) (a * b) ∧ Below w.heap.size w w' := by
  obtain ⟨iF, hF, hz0, hz1, hz2⟩ := info_parts infoFr
  have HAT := hid (fun (k : Nat) (hk : k < n) (w' : World) (h : Below w.heap.size w w') => mvAt_any bmB vb B b n k j w' (hmB.keep h) (hB.keep h) sB hk hj (by omega) (by have := bB k j; unfold B15; omega) b1 b2')
  have HON := hid (fun (vl : Value) (l : List (Int × Int)) (w' : World) (h : Below w.heap.size w w') (hv : RdF w' vl l) (hl : l.length = n) (hf : Frs l (rowL n (fun k => at2 B k j)) b) => on_any bmA va vl A l (rowL n (fun k => at2 B k j)) a b n i w' (hmA.keep h) (hA.keep h) sA hi hn3 (fun k _ => bA i k) a1 a2 hv hl hf b1 b2' (fun k hk => by
    have e : (rowL n (fun k => at2 B k j)).getD k 0 = at2 B k j := row_at (f := fun k => at2 B k j) hk
    rw [e]; exact bB k j))
  have HFR : Hid (∀ k, k < n → Fr (numF (at2 B k j) b) (denF (at2 B k j) b) (at2 B k j) b) := hid (fun k _ => fr_of (by omega))
  obtain ⟨ab, cb, rfl⟩ := hB.form
  have hbl : Below w.heap.size w ((w.alloc (.cells #[.int .i64 0, .int .i64 0] 65)).alloc (.cells #[] 65)) := (below_box2 _ _).alloc (by simp) _
  have hq1 := box_below hbl hx1
  have hq2 := heap_below hbl hmB
  have c1 := hq1.cell
  have c3 := cellB (i := 0) hq2
  rw [sB.1] at c3
  have HX1 := hid hx1
  have HX2 := hid hx2
  have HBL := hid hbl
  have HR0 : Hid (((w.alloc (.cells #[.int .i64 0, .int .i64 0] 65)).alloc (.cells #[] 65)).heap[w.heap.size]? = some (.cells #[.int .i64 0, .int .i64 0] 65 (0, 0))) := hid (heap_up (heap_new rfl))
  have HO0 : Hid (OwnF ((w.alloc (.cells #[.int .i64 0, .int .i64 0] 65)).alloc (.cells #[] 65)) (w.heap.size + 1) (.slice (some ⟨w.heap.size + 1, 0, none⟩) 0 0) []) := hid (by
    have h := World.ownsRow_made (base := w.heap.size + 1) (size := 2) (e := 65) (w.alloc (.cells #[.int .i64 0, .int .i64 0] 65)) #[] 0 (by simp) (by unfold maxLen; omega) rfl
    rw [World.size_alloc] at h
    exact h)
  have HI := hid hi
  clear hx1 hx2 hmA hmB hA hB sA sB hi bA bB hbl hq1 hq2
  go_enter Try.func95, Try.ntmps95
  go_wp2_with fail
  go_loopw [7, 15] (fun so si wr => ∃ (K : Nat) (l : List (Int × Int)), si = .int .i64 (K : Int) ∧ K ≤ n ∧ Hid (Frs l ((rowL n (fun k => at2 B k j)).take K) b) ∧ Hid (OwnF wr (w.heap.size + 1) so l) ∧ Hid (Below w.heap.size w wr) ∧ Hid (wr.heap[w.heap.size]? = some (.cells #[.int .i64 0, .int .i64 0] 65 (0, 0)))) (fun _ si _ => n - (intOf si).toNat)
  case atStart => exact ⟨0, [], rfl, by omega, hid ⟨rfl, fun i hi => absurd hi (by simp)⟩, HO0, HBL, HR0⟩
  case round =>
    obtain ⟨K, l, rfl, hK, HFS, HO, HB, HR⟩ := hrel
    rename World => wr
    have hll : l.length = K := by
      have := HFS.out.1
      rw [List.length_take, row_len] at this
      omega
    by_cases hlt : K < n
    · have HFN := hid (rowL_take n (fun k => at2 B k j) hlt)
      have hfk := HFR.out K hlt
      have HC := hid (HAT.out K hlt wr HB.out)
      have c1 := (box_below HB.out (show Boxed w b3 68 _ from HX1.out)).cell
      obtain ⟨fa, hfa⟩ : ∃ fa, fa = numF (at2 B K j) b := ⟨_, rfl⟩
      obtain ⟨fb, hfb⟩ : ∃ fb, fb = denF (at2 B K j) b := ⟨_, rfl⟩
      rw [← hfa, ← hfb] at hfk HC
      have HFX := hid hfk
      have hKi : (K : Int) < (n : Int) := by omega
      have hl4 : l.length ≤ 4 := by omega
      have HLT := hid hlt
      clear hfk hfa hfb hll hlt
      go_wp2_with fail
      refine HC.out.mono ?_
      rintro e w2 ⟨rfl, hb2⟩
      have HO2 := hid (row2_keep HO.out hb2)
      have HB2 := hid (HB.out.trans (hb2.mono HB.out.size))
      have HR2 := hid (heap_below hb2 HR.out)
      have hbs := HB2.out.size
      have hrl := (Array.getElem?_eq_some_iff.1 HR2.out).1
      clear hb2
      go_wp2_with (at_builtin; refine wpList_append_own_at _ rfl _ _ 72 rfl (w.heap.size + 1) 65 iF (.agg #[.int .i64 0, .int .i64 0]) 2 16 Try.underlying72 hF hz0 hz1 hz2 rfl (by decide) _ _ _ rfl ((show World.ownsRow _ _ _ _ _ _ _ from HO2.out).alloc _) ⟨w2.heap.size, 0, none⟩ 1 1 [.int .i64 fa, .int .i64 fb] rfl rfl (cell_two_new _ _ _ _) (by simp [Value.oneCell']) (by unfold maxLen; omega) (by omega) (by simp; omega) ?_; intro v' w3 hown' hgrow _ hat; have HG := hid hgrow; have HW := hid hown'; clear hown' hgrow hat)
      have hsg := HG.out.size
      simp only [World.size_alloc] at hsg
      have hr3 := (HG.out.block w.heap.size (by simp; omega) (fun e => by have := HO2.out.lt2 _ e.symm; omega)).trans (heap_up HR2.out)
      have HR3 := hid hr3
      clear hr3
      go_roundw
      case measure => simp only [intOf]; have := HLT.out; omega
      case rel =>
        refine ⟨K + 1, l ++ [(fa, fb)], by go_num, HLT.out, hid (by rw [HFN.out]; exact frs_snoc HFS.out HFX.out), hid ?_, hid ((HB2.out.alloc hbs _).grown HG.out (by simp; omega) (fun k e => by have := HO2.out.lt2 k e; omega)), HR3⟩
        unfold OwnF
        rw [List.length_append, encF_snoc]
        exact HW.out
    · obtain rfl : K = n := by omega
      have hfs := HFS.out
      rw [List.take_of_length_le (by rw [row_len]; exact Nat.le_refl _)] at hfs
      have hv := HO.out.rd2 (by have := HI.out; omega)
      have HC := hid (HON.out _ l wr HB.out hv hll hfs)
      have HME : Hid (sumF (fun k => at2 A i k * (rowL K (fun k => at2 B k j)).getD k 0) K = mulF (at2 A) (at2 B) K i j) := hid (sumF_congr fun r hr => by
        have e : (rowL K (fun k => at2 B k j)).getD r 0 = at2 B r j := row_at (f := fun k => at2 B k j) hr
        rw [e])
      rw [HME.out] at HC
      have c2 := (box_below HB.out HX2.out).cell
      obtain ⟨gl, cl, rfl, _⟩ := hv
      clear hfs hll hlt
      go_wp2_with fail
      refine HC.out.mono ?_
      rintro e w2 ⟨p, q, rfl, hfr, hb2⟩
      have HFR2 := hid hfr
      have hq := heap_below hb2 HR.out
      have z0 := cellB (i := 0) hq
      have z1 := cellB (i := 1) hq
      have y0 := frozenB (i := 0) hq
      have y1 := frozenB (i := 1) hq
      have HQ := hid hq
      have HB2 := hid (HB.out.trans (hb2.mono HB.out.size))
      clear hfr hb2 hq
      go_wp2_with fail
      refine bodyPost_ret (results_cell_row rfl _ _ w.heap.size 65 #[_, _] (0, 0) _ rfl (heap_two1 (heap_two0 HQ.out)) Try.underlying65 rfl (by kernel_rfl)) rfl ?_
      exact ⟨p, q, rfl, HFR2.out, (HB2.out.setCell (Nat.le_refl _) _).setCell (Nat.le_refl _) _⟩

set_option maxRecDepth 100000 in
set_option maxHeartbeats 4000000 in
theorem times9_any (bmA bmB : Nat) (va vb : Value) (A B : List (List Int)) (a b : Int) (n : Nat) (w : World) (hmA : MvAt w bmA va a) (hmB : MvAt w bmB vb b) (hA : RdM w va A) (hB : RdM w vb B) (sA : Sq n A) (sB : Sq n B) (hn : n = 1 ∨ n = 2 ∨ n = 3) (bA : ∀ i k, -1000000 ≤ at2 A i k ∧ at2 A i k ≤ 1000000) (bB : ∀ i k, -1000000 ≤ at2 B i k ∧ at2 B i k ≤ 1000000) (a1 : 1 ≤ a) (a2 : a ≤ 10000) (b1 : 1 ≤ b) (b2 : b ≤ 10000) :
    Calls Try.prog 62 #[.pointer (some ⟨bmA, 0, none⟩), .pointer (some ⟨bmB, 0, none⟩)] w (MovePost (madeV n (mulF (at2 A) (at2 B) n) (a * b)) w) := by
  have hab1 : 1 ≤ a * b := Int.mul_pos (by omega) (by omega)
  have hab2 : a * b ≤ 100000000 := by
    have := Int.mul_le_mul a2 b2 (by omega) (by omega)
    omega
  have HMO := hid (fun (c3 c2 : Nat) (w' : World) (h : Below w.heap.size w w') (h1 : Boxed w' c3 68 (.pointer (some ⟨bmB, 0, none⟩))) (h2 : Boxed w' c2 68 (.pointer (some ⟨bmA, 0, none⟩))) => moveOf_any n hn 95 #[.pointer (some ⟨c3, 0, none⟩), .pointer (some ⟨c2, 0, none⟩)] (mulF (at2 A) (at2 B) n) (a * b) (by omega) (by unfold B14; omega) (fun i j hi hj => by
    have := sum_bd (f := fun r => at2 A i r * at2 B r j) (m := 1000000000000) (by omega) n (fun r hr => mul_bd12 (bA i r) (bB r j))
    have h3 : (n : Int) ≤ 3 := by omega
    have e : mulF (at2 A) (at2 B) n i j = sumF (fun r => at2 A i r * at2 B r j) n := rfl
    rw [e]
    unfold B14
    omega) w' (enters_of Try.func95 (by kernel_rfl) rfl) (fun i j w'' hi hj hb => timesAt_any c3 c2 bmA bmB va vb A B a b n i j w'' (box_below hb h1) (box_below hb h2) ((hmA.keep h).keep hb) ((hmB.keep h).keep hb) ((hA.keep h).keep hb) ((hB.keep h).keep hb) sA sB hi hj (by omega) bA bB a1 a2 b1 b2))
  obtain ⟨aa, ca, rfl⟩ := hA.form
  have hbl : Below w.heap.size w (((w.alloc (.cells #[.pointer (some ⟨bmA, 0, none⟩)] 68)).alloc (.cells #[.pointer (some ⟨bmB, 0, none⟩)] 68)).alloc (.cells #[.slice none 0 0, .int .i64 0] 29)) := ((below_box2 _ _).alloc (by simp) _).alloc (by simp; omega) _
  have hq := heap_below hbl hmA
  have c0 := cellB (i := 0) hq
  rw [sA.1] at c0
  have HB := hid hbl
  have HR : Hid ((((w.alloc (.cells #[.pointer (some ⟨bmA, 0, none⟩)] 68)).alloc (.cells #[.pointer (some ⟨bmB, 0, none⟩)] 68)).alloc (.cells #[.slice none 0 0, .int .i64 0] 29)).heap[w.heap.size + 1 + 1]? = some (.cells #[.slice none 0 0, .int .i64 0] 29 (0, 0))) := hid (heap_new (by simp))
  have H1 : Hid (Boxed (((w.alloc (.cells #[.pointer (some ⟨bmA, 0, none⟩)] 68)).alloc (.cells #[.pointer (some ⟨bmB, 0, none⟩)] 68)).alloc (.cells #[.slice none 0 0, .int .i64 0] 29)) w.heap.size 68 (.pointer (some ⟨bmA, 0, none⟩))) := hid (heap_up (heap_up (heap_new rfl)))
  have H2 : Hid (Boxed (((w.alloc (.cells #[.pointer (some ⟨bmA, 0, none⟩)] 68)).alloc (.cells #[.pointer (some ⟨bmB, 0, none⟩)] 68)).alloc (.cells #[.slice none 0 0, .int .i64 0] 29)) (w.heap.size + 1) 68 (.pointer (some ⟨bmB, 0, none⟩))) := hid (heap_up (heap_new (by simp)))
  clear hmA hmB hA hB sA sB hbl hq bA bB
  go_enter Try.func62, Try.ntmps62
  go_wp2_with fail
  refine (HMO.out _ _ _ HB.out H2.out H1.out).mono ?_
  rintro e w2 hp
  obtain ⟨R2, d2, b2, au, cu, rfl, ho, hb2, HE2⟩ := movePost_un hp
  have HO := hid ho
  have hq := heap_below hb2 HR.out
  have z0 := cellB (i := 0) hq
  have z1 := cellB (i := 1) hq
  have y0 := frozenB (i := 0) hq
  have y1 := frozenB (i := 1) hq
  have HB2 := hid (HB.out.trans (hb2.mono HB.out.size))
  clear ho hb2 hq hp
  go_wp2_with fail
  refine bodyPost_ret (v := .tuple #[.agg #[.slice au R2.length cu, .int .i64 d2], .bool b2]) (by simp [results, Try.results62, go_sem] <;> go_simp) rfl ?_
  exact movePost_o HO.out HB2.out (by first | omega | (simp; omega) | simp) (by first | omega | (simp; omega) | simp) _ _ HE2.out

end Go.Proofs.Ytjabklpnohfjpab

/-! MpQ -/
set_option linter.unusedVariables false
namespace Go.Proofs.Ytjabklpnohfjpab
open Go.RowKit

theorem mul_made {xs : List Int} {A B : List (List Int)} {a b : Int} (hA : MoveOk xs A a) (hB : MoveOk xs B b) : mulV xs A a B b = madeV xs.length (mulF (at2 A) (at2 B) xs.length) (a * b) := by
  rw [made_tidy hA.form hA.l3 (Int.mul_ne_zero hA.d0 hB.d0) (orth_mul hA.orth hB.orth)]
  unfold mulV
  rw [moveB_iff.2 hA, moveB_iff.2 hB]
  rfl
theorem times_move {xs : List Int} (bmA bmB : Nat) (va vb : Value) (A B : List (List Int)) (a b : Int) (w : World) (hmA : MvAt w bmA va a) (hmB : MvAt w bmB vb b) (hA : RdM w va A) (hB : RdM w vb B) (oA : MoveOk xs A a) (oB : MoveOk xs B b) :
    Calls Try.prog 62 #[.pointer (some ⟨bmA, 0, none⟩), .pointer (some ⟨bmB, 0, none⟩)] w (MovePost (mulV xs A a B b) w) := by
  rw [mul_made oA oB]
  exact times9_any bmA bmB va vb A B a b xs.length w hmA hmB hA hB oA.sq oB.sq oA.n3 (fun i k => oA.at_bd i k) (fun i k => oB.at_bd i k) oA.den.1 oA.den.2 oB.den.1 oB.den.2
set_option maxRecDepth 100000 in
set_option maxHeartbeats 4000000 in
theorem moveMul_any (vf va vb : Value) (xs : List Int) (A B : List (List Int)) (a b : Int) (w : World) (hx : Rd w vf xs) (hA : RdM w va A) (hB : RdM w vb B) : Calls Try.prog 28 #[vf, .agg #[va, .int .i64 a], .agg #[vb, .int .i64 b]] w (MovePost (mulV xs A a B b) w) := by
  obtain ⟨ax, cx, rfl, _⟩ := hx.form
  obtain ⟨aa, ca, rfl⟩ := hA.form
  obtain ⟨ab, cb, rfl⟩ := hB.form
  have hbl : Below w.heap.size w (((w.alloc (.cells #[.slice aa A.length ca, .int .i64 a] 29)).alloc (.cells #[.slice ab B.length cb, .int .i64 b] 29)).alloc (.cells #[.slice none 0 0, .int .i64 0] 29)) := ((below_box2 _ _).alloc (by simp) _).alloc (by simp; omega) _
  have HX := hid (hx.keep hbl)
  have HA := hid (hA.keep hbl)
  have HBm := hid (hB.keep hbl)
  have HB := hid hbl
  have HR : Hid ((((w.alloc (.cells #[.slice aa A.length ca, .int .i64 a] 29)).alloc (.cells #[.slice ab B.length cb, .int .i64 b] 29)).alloc (.cells #[.slice none 0 0, .int .i64 0] 29)).heap[w.heap.size + 1 + 1]? = some (.cells #[.slice none 0 0, .int .i64 0] 29 (0, 0))) := hid (heap_new (by simp))
  have H1 : Hid (MvAt (((w.alloc (.cells #[.slice aa A.length ca, .int .i64 a] 29)).alloc (.cells #[.slice ab B.length cb, .int .i64 b] 29)).alloc (.cells #[.slice none 0 0, .int .i64 0] 29)) w.heap.size (.slice aa A.length ca) a) := hid (heap_up (heap_up (heap_new rfl)))
  have H2 : Hid (MvAt (((w.alloc (.cells #[.slice aa A.length ca, .int .i64 a] 29)).alloc (.cells #[.slice ab B.length cb, .int .i64 b] 29)).alloc (.cells #[.slice none 0 0, .int .i64 0] 29)) (w.heap.size + 1) (.slice ab B.length cb) b) := hid (heap_up (heap_new (by simp)))
  clear hx hA hB hbl
  cases hva : moveB xs A a with
  | false =>
    have HV := hid (valid9_any w.heap.size _ _ xs A a _ H1.out HA.out HX.out)
    rw [hva] at HV
    have HE : Hid (mulV xs A a B b = none) := hid (by unfold mulV; rw [hva]; rfl)
    clear hva
    go_enter Try.func28, Try.ntmps28
    go_wp2_with fail
    refine HV.out.mono ?_
    rintro e w2 ⟨rfl, hb2⟩
    have hq := heap_below hb2 HR.out
    have z0 := cellB (i := 0) hq
    have z1 := cellB (i := 1) hq
    have y0 := frozenB (i := 0) hq
    have y1 := frozenB (i := 1) hq
    have HR2 := hid hq
    have HB2 := hid (HB.out.trans (hb2.mono HB.out.size))
    clear hb2 hq
    go_wp2_with fail
    refine bodyPost_ret (v := .tuple #[.agg #[.slice none 0 0, .int .i64 0], .bool false]) (by simp [results, Try.results28, go_sem] <;> go_simp) rfl ?_
    rw [HE.out]
    first | exact ⟨_, rfl, ownM_nil _ _ _, HB2.out⟩ | exact movePost_none HB2.out (by first | omega | (simp; omega) | simp) _ _
  | true =>
    have HV := hid (valid9_any w.heap.size _ _ xs A a _ H1.out HA.out HX.out)
    have oA := moveB_iff.1 hva
    rw [hva] at HV
    cases hvb : moveB xs B b with
    | false =>
      have HE : Hid (mulV xs A a B b = none) := hid (by unfold mulV; rw [hva, hvb]; rfl)
      have HVB := hid hvb
      clear hva hvb oA
      go_enter Try.func28, Try.ntmps28
      go_wp2_with fail
      refine HV.out.mono ?_
      rintro e w2 ⟨rfl, hb2⟩
      have HV2 := hid (valid9_any (w.heap.size + 1) _ _ xs B b _ (H2.out.keep hb2) (HBm.out.keep hb2) (HX.out.keep hb2))
      have hq := heap_below hb2 HR.out
      have z0 := cellB (i := 0) hq
      have z1 := cellB (i := 1) hq
      have y0 := frozenB (i := 0) hq
      have y1 := frozenB (i := 1) hq
      have HR2 := hid hq
      have HB2 := hid (HB.out.trans (hb2.mono HB.out.size))
      clear hb2 hq
      go_wp2_with fail
      refine HV2.out.mono ?_
      rw [HVB.out]
      rintro e w3 ⟨rfl, hb3⟩
      have hq := heap_below hb3 HR2.out
      have z0 := cellB (i := 0) hq
      have z1 := cellB (i := 1) hq
      have y0 := frozenB (i := 0) hq
      have y1 := frozenB (i := 1) hq
      have HR3 := hid hq
      have HB3 := hid (HB2.out.trans (hb3.mono HB2.out.size))
      clear hb3 hq
      go_wp2_with fail
      refine bodyPost_ret (v := .tuple #[.agg #[.slice none 0 0, .int .i64 0], .bool false]) (by simp [results, Try.results28, go_sem] <;> go_simp) rfl ?_
      rw [HE.out]
      first | exact ⟨_, rfl, ownM_nil _ _ _, HB3.out⟩ | exact movePost_none HB3.out (by first | omega | (simp; omega) | simp) _ _
    | true =>
      have oB := moveB_iff.1 hvb
      have HVB := hid hvb
      have OA := hid oA
      have OB := hid oB
      clear hva hvb oA oB
      go_enter Try.func28, Try.ntmps28
      go_wp2_with fail
      refine HV.out.mono ?_
      rintro e w2 ⟨rfl, hb2⟩
      have HV2 := hid (valid9_any (w.heap.size + 1) _ _ xs B b _ (H2.out.keep hb2) (HBm.out.keep hb2) (HX.out.keep hb2))
      have HB20 := hid hb2
      have hq := heap_below hb2 HR.out
      have z0 := cellB (i := 0) hq
      have z1 := cellB (i := 1) hq
      have y0 := frozenB (i := 0) hq
      have y1 := frozenB (i := 1) hq
      have HR2 := hid hq
      have HB2 := hid (HB.out.trans (hb2.mono HB.out.size))
      clear hb2 hq
      go_wp2_with fail
      refine HV2.out.mono ?_
      rw [HVB.out]
      rintro e w3 ⟨rfl, hb3⟩
      have hb23 := HB20.out.trans (hb3.mono HB20.out.size)
      have HMU := hid (times_move w.heap.size (w.heap.size + 1) _ _ A B a b w3 (H1.out.keep hb23) (H2.out.keep hb23) (HA.out.keep hb23) (HBm.out.keep hb23) OA.out OB.out)
      clear hb23
      have hq := heap_below hb3 HR2.out
      have z0 := cellB (i := 0) hq
      have z1 := cellB (i := 1) hq
      have y0 := frozenB (i := 0) hq
      have y1 := frozenB (i := 1) hq
      have HR3 := hid hq
      have HB3 := hid (HB2.out.trans (hb3.mono HB2.out.size))
      clear hb3 hq
      go_wp2_with fail
      refine HMU.out.mono ?_
      have HR := HR3
      have hkl := (Array.getElem?_eq_some_iff.1 HR.out).1
      have HB := HB3
      rintro e w9 hp
      obtain ⟨R2, d2, b2, au, cu, rfl, ho, hb9, HE9⟩ := movePost_un hp
      have HO := hid ho
      have hq := heap_below hb9 HR.out
      have t0 := cellB (i := 0) hq
      have t1 := cellB (i := 1) hq
      have v0 := frozenB (i := 0) hq
      have v1 := frozenB (i := 1) hq
      have HB9 := hid (HB.out.trans (hb9.mono HB.out.size))
      clear ho hb9 hq hp
      go_wp2_with fail
      refine bodyPost_ret (v := .tuple #[.agg #[.slice au R2.length cu, .int .i64 d2], .bool b2]) (by simp [results, Try.results28, go_sem] <;> go_simp) rfl ?_
      exact movePost_o HO.out HB9.out (by first | omega | (simp; omega) | simp) (by first | omega | (simp; omega) | simp) _ _ HE9.out

theorem back_made {xs : List Int} {A : List (List Int)} {a : Int} (hA : MoveOk xs A a) : backW xs A a = madeV xs.length (backF (fF xs) (allI xs) (at2 A)) (a * allI xs) := by
  have hp := all_pos hA.form
  rw [made_tidy hA.form hA.l3 (Int.mul_ne_zero hA.d0 (by omega)) (back_orth hA.n3 hA.d0 (by omega) (fun i hi => all_div hA.form hi) hA.orth)]
  unfold backW
  rw [moveB_iff.2 hA]
  rfl
theorem backF_b14 {xs : List Int} {A : List (List Int)} {a : Int} (hA : MoveOk xs A a) {i j : Nat} (hi : i < xs.length) (hj : j < xs.length) : B14 (backF (fF xs) (allI xs) (at2 A) i j) := by
  have h1 := (fF_form hA.form hj).1
  have h2 := all_bd hA.form
  have h3 := all_pos hA.form
  have h4 : ((allI xs).tdiv (fF xs i)).natAbs ≤ 810000 := by rw [Int.natAbs_tdiv]; exact Nat.le_trans (Nat.div_le_self _ _) (by omega)
  have h5 := back_bd (hA.at_bd j i) h1 (z := (allI xs).tdiv (fF xs i)) (by omega)
  unfold B14 backF
  omega
set_option maxRecDepth 100000 in
set_option maxHeartbeats 4000000 in
theorem moveBack_any (vf va : Value) (xs : List Int) (A : List (List Int)) (a : Int) (w : World) (hx : Rd w vf xs) (hA : RdM w va A) : Calls Try.prog 30 #[vf, .agg #[va, .int .i64 a]] w (MovePost (backW xs A a) w) := by
  obtain ⟨ax, cx, rfl, _⟩ := hx.form
  obtain ⟨aa, ca, rfl⟩ := hA.form
  have hbl : Below w.heap.size w (((w.alloc (.cells #[.slice ax xs.length cx] 22)).alloc (.cells #[.slice aa A.length ca, .int .i64 a] 29)).alloc (.cells #[.slice none 0 0, .int .i64 0] 29)) := ((below_box2 _ _).alloc (by simp) _).alloc (by simp; omega) _
  have HX := hid (hx.keep hbl)
  have HA := hid (hA.keep hbl)
  have HB := hid hbl
  have HR : Hid ((((w.alloc (.cells #[.slice ax xs.length cx] 22)).alloc (.cells #[.slice aa A.length ca, .int .i64 a] 29)).alloc (.cells #[.slice none 0 0, .int .i64 0] 29)).heap[w.heap.size + 1 + 1]? = some (.cells #[.slice none 0 0, .int .i64 0] 29 (0, 0))) := hid (heap_new (by simp))
  have H1 : Hid (Boxed (((w.alloc (.cells #[.slice ax xs.length cx] 22)).alloc (.cells #[.slice aa A.length ca, .int .i64 a] 29)).alloc (.cells #[.slice none 0 0, .int .i64 0] 29)) w.heap.size 22 (.slice ax xs.length cx)) := hid (heap_up (heap_up (heap_new rfl)))
  have H2 : Hid (MvAt (((w.alloc (.cells #[.slice ax xs.length cx] 22)).alloc (.cells #[.slice aa A.length ca, .int .i64 a] 29)).alloc (.cells #[.slice none 0 0, .int .i64 0] 29)) (w.heap.size + 1) (.slice aa A.length ca) a) := hid (heap_up (heap_new (by simp)))
  have HV := hid (valid9_any (w.heap.size + 1) _ _ xs A a _ H2.out HA.out HX.out)
  clear hx hA hbl
  cases hva : moveB xs A a with
  | false =>
    rw [hva] at HV
    have HE : Hid (backW xs A a = none) := hid (by unfold backW; rw [hva]; rfl)
    clear hva
    go_enter Try.func30, Try.ntmps30
    go_wp2_with fail
    refine HV.out.mono ?_
    rintro e w2 ⟨rfl, hb2⟩
    have hq := heap_below hb2 HR.out
    have z0 := cellB (i := 0) hq
    have z1 := cellB (i := 1) hq
    have y0 := frozenB (i := 0) hq
    have y1 := frozenB (i := 1) hq
    have HR2 := hid hq
    have HB2 := hid (HB.out.trans (hb2.mono HB.out.size))
    clear hb2 hq
    go_wp2_with fail
    refine bodyPost_ret (v := .tuple #[.agg #[.slice none 0 0, .int .i64 0], .bool false]) (by simp [results, Try.results30, go_sem] <;> go_simp) rfl ?_
    rw [HE.out]
    first | exact ⟨_, rfl, ownM_nil _ _ _, HB2.out⟩ | exact movePost_none HB2.out (by first | omega | (simp; omega) | simp) _ _
  | true =>
    have oA := moveB_iff.1 hva
    rw [hva] at HV
    have HE := hid (back_made oA)
    have hap := all_pos oA.form
    have hab := all_bd oA.form
    have hda1 : 1 ≤ a * allI xs := Int.mul_pos (by have := oA.den.1; omega) (by omega)
    have hda2 : a * allI xs ≤ 8100000000 := by
      have := Int.mul_le_mul oA.den.2 hab (by omega) (by omega)
      omega
    have HMO := hid (fun (b2 bm : Nat) (w' : World) (h1 : Boxed w' b2 22 (.slice ax xs.length cx)) (h2 : MvAt w' bm (.slice aa A.length ca) a) (h4 : Rd w' (.slice ax xs.length cx) xs) (h5 : RdM w' (.slice aa A.length ca) A) => moveOf_any xs.length oA.n3 65 #[.pointer (some ⟨b2, 0, none⟩), .pointer (some ⟨bm, 0, none⟩)] (backF (fF xs) (allI xs) (at2 A)) (a * allI xs) (by omega) (by unfold B14; omega) (fun i j hi hj => backF_b14 oA hi hj) w' (enters_of Try.func65 (by kernel_rfl) rfl) (fun i j w'' hi hj hb => backAt_any b2 bm _ _ xs A a (allI xs) i j w'' (box_below hb h1) (h2.keep hb) (h4.keep hb) (h5.keep hb) oA.sq oA.l3 hi hj (fun k hk => fF_form oA.form hk) (fun i j _ _ => oA.at_bd i j) oA.den.1 oA.den.2 (fun k hk => all_div oA.form hk)))
    rw [← HE.out] at HMO
    clear hva oA hap hab hda1 hda2
    go_enter Try.func30, Try.ntmps30
    go_wp2_with fail
    refine HV.out.mono ?_
    rintro e w2 ⟨rfl, hb2⟩
    have c1 := (box_below hb2 H1.out).cell
    have HMU := hid (HMO.out w.heap.size (w.heap.size + 1) w2 (box_below hb2 H1.out) (H2.out.keep hb2) (HX.out.keep hb2) (HA.out.keep hb2))
    have hq := heap_below hb2 HR.out
    have z0 := cellB (i := 0) hq
    have z1 := cellB (i := 1) hq
    have y0 := frozenB (i := 0) hq
    have y1 := frozenB (i := 1) hq
    have HR2 := hid hq
    have HB2 := hid (HB.out.trans (hb2.mono HB.out.size))
    clear hb2 hq
    go_wp2_with fail
    refine HMU.out.mono ?_
    have HR := HR2
    have hkl := (Array.getElem?_eq_some_iff.1 HR.out).1
    have HB := HB2
    rintro e w9 hp
    obtain ⟨R2, d2, b2, au, cu, rfl, ho, hb9, HE9⟩ := movePost_un hp
    have HO := hid ho
    have hq := heap_below hb9 HR.out
    have t0 := cellB (i := 0) hq
    have t1 := cellB (i := 1) hq
    have v0 := frozenB (i := 0) hq
    have v1 := frozenB (i := 1) hq
    have HB9 := hid (HB.out.trans (hb9.mono HB.out.size))
    clear ho hb9 hq hp
    go_wp2_with fail
    refine bodyPost_ret (v := .tuple #[.agg #[.slice au R2.length cu, .int .i64 d2], .bool b2]) (by simp [results, Try.results30, go_sem] <;> go_simp) rfl ?_
    exact movePost_o HO.out HB9.out (by first | omega | (simp; omega) | simp) (by first | omega | (simp; omega) | simp) _ _ HE9.out

end Go.Proofs.Ytjabklpnohfjpab

/-! MpS -/
set_option linter.unusedVariables false
namespace Go.Proofs.Ytjabklpnohfjpab
open Go.RowKit

theorem fr_int (x : Int) : Fr x 1 x 1 := ⟨by omega, Nat.gcd_one_right _, rfl⟩
theorem onPost_none {w W : World} (hb : Below w.heap.size w W) : OnPost none w (.returned (.tuple #[.slice (some ⟨W.heap.size, 0, none⟩) 0 0, .int .i64 0, .bool false])) (W.alloc (.cells #[] 3)) :=
  ⟨_, rfl, World.ownsRow_made (size := 1) W #[] 0 hb.size (by unfold maxLen; omega) rfl, hb.alloc hb.size _⟩
theorem row9_at {W W' : World} {B : Nat} {v : Value} {l : List (Int × Int)} (h : OwnF W B v l) (hb : ∀ g, v.ownBlock = some g → W'.heap[g]? = W.heap[g]?) : OwnF W' B v l := by
  obtain ⟨h1, h2⟩ := h
  refine ⟨h1, ?_⟩
  rcases h2 with h2 | ⟨g, cap, cur, hv, hB, hh, r⟩
  · exact .inl h2
  · exact .inr ⟨g, cap, cur, hv, hB, (hb g (by rw [hv]; rfl)).trans hh, r⟩
theorem frs_take {l : List (Int × Int)} {Ns : List Int} {D : Int} {K : Nat} (h : Frs l (Ns.take K) D) (hK : K ≤ Ns.length) : l.length = K := by
  have := h.1
  rw [List.length_take] at this
  omega
set_option maxRecDepth 100000 in
set_option maxHeartbeats 8000000 in
theorem moveOn_any (vf va vv : Value) (xs vs : List Int) (A : List (List Int)) (a : Int) (w : World) (hx : Rd w vf xs) (hA : RdM w va A) (hv : Rd w vv vs) : Calls Try.prog 32 #[vf, .agg #[va, .int .i64 a], vv] w (OnPost (onV xs A a vs) w) := by
  obtain ⟨ax, cx, rfl, _⟩ := hx.form
  obtain ⟨aa, ca, rfl⟩ := hA.form
  have hbl : Below w.heap.size w (w.alloc (.cells #[.slice aa A.length ca, .int .i64 a] 29)) := below_box2 _ _
  have HX := hid (hx.keep hbl)
  have HA := hid (hA.keep hbl)
  have HVV := hid (hv.keep hbl)
  obtain ⟨av, cv, rfl, _⟩ := hv.form
  have HB := hid hbl
  have H1 : Hid (MvAt (w.alloc (.cells #[.slice aa A.length ca, .int .i64 a] 29)) w.heap.size (.slice aa A.length ca) a) := hid (heap_new rfl)
  have HV := hid (valid9_any w.heap.size _ _ xs A a _ H1.out HA.out HX.out)
  clear hx hA hv hbl
  cases hva : moveB xs A a with
  | false =>
    rw [hva] at HV
    have HE : Hid (onV xs A a vs = none) := hid (by unfold onV; rw [hva]; rfl)
    clear hva
    go_enter Try.func32, Try.ntmps32
    go_wp2_with fail
    refine HV.out.mono ?_
    rintro e w2 ⟨rfl, hb2⟩
    have HB2 := hid (HB.out.trans (hb2.mono HB.out.size))
    clear hb2
    go_wp2_with fail
    refine bodyPost_ret (v := .tuple #[.slice (some ⟨w2.heap.size, 0, none⟩) 0 0, .int .i64 0, .bool false]) (by simp [results, Try.results32, go_sem]) rfl ?_
    rw [HE.out]
    exact onPost_none HB2.out
  | true =>
    have oA := moveB_iff.1 hva
    have hvi := vec_is (vs := vs) (m := 1000) oA.form
    rw [hva] at HV
    cases hvc : vecB xs vs 1000 with
    | false =>
      have HE : Hid (onV xs A a vs = none) := hid (by unfold onV; rw [hva, hvc]; rfl)
      rw [hvc] at hvi
      have HVC := hid hvi.symm
      clear hva hvc hvi oA
      go_enter Try.func32, Try.ntmps32
      go_wp2_with fail
      refine HV.out.mono ?_
      rintro e w2 ⟨rfl, hb2⟩
      have HB2 := hid (HB.out.trans (hb2.mono HB.out.size))
      have HV2 := hid (HVV.out.keep hb2)
      clear hb2
      go_wp2_with (go_at_call 57; refine (vectorWithin_any _ vs _ _ (by omega) (by omega) _ HV2.out).mono ?_; rw [HVC.out]; rintro e w' ⟨rfl, rfl⟩)
      refine bodyPost_ret (v := .tuple #[.slice (some ⟨w2.heap.size, 0, none⟩) 0 0, .int .i64 0, .bool false]) (by simp [results, Try.results32, go_sem]) rfl ?_
      rw [HE.out]
      exact onPost_none HB2.out
    | true =>
      have hvb := vecB_iff.1 hvc
      have hl := hvb.2.2
      have hvbd : ∀ k, -1000 ≤ fF vs k ∧ fF vs k ≤ 1000 := fun k => fF_bd (m := 1000) (by omega) (fun v h => hvb.1 v h) k
      rw [hvc] at hvi
      have HVC := hid hvi.symm
      obtain ⟨row, hrow⟩ : ∃ row, row = rowL xs.length (apF (at2 A) xs.length (fF vs)) := ⟨_, rfl⟩
      have HE : Hid (onV xs A a vs = some (row.map (fun x => x.tdiv (gM [row] a)), lowD [row] a)) := hid (by unfold onV; rw [hva, hvc, hrow]; rfl)
      have hrl : row.length = xs.length := by rw [hrow, row_len]
      have hrbd : ∀ k, B14 (row.getD k 0) := fun k => by
        have hz : B14 0 := by unfold B14; omega
        rcases Nat.lt_or_ge k row.length with hk | hk
        · have e : row.getD k 0 = apF (at2 A) xs.length (fF vs) k := by rw [hrow]; exact row_at (by omega)
          rw [e]
          have := sum_bd (f := fun r => at2 A k r * fF vs r) (m := 1000000000) (by omega) xs.length (fun r _ => mul_bd9 (oA.at_bd k r) (hvbd r))
          have h3 : (xs.length : Int) ≤ 3 := by have := oA.l3; omega
          have e2 : apF (at2 A) xs.length (fF vs) k = sumF (fun r => at2 A k r * fF vs r) xs.length := rfl
          rw [e2]
          unfold B14
          omega
        · rw [List.getD_eq_getElem?_getD, List.getElem?_eq_none hk]; exact hz
      have HROW : Hid (∀ k, k < xs.length → row.take (k + 1) = row.take k ++ [sumF (fun r => at2 A k r * vs.getD r 0) xs.length]) := hid (fun k hk => by rw [hrow]; exact rowL_take _ _ hk)
      have HON := hid (fun (k : Nat) (hk : k < xs.length) (vl : Value) (l : List (Int × Int)) (w' : World) (h : MvAt w' w.heap.size (.slice aa A.length ca) a) (h2 : RdM w' (.slice aa A.length ca) A) (h3 : RdF w' vl l) (h4 : Frs l vs 1) => on_any w.heap.size _ vl A l vs a 1 xs.length k w' h h2 oA.sq hk oA.l3 (fun j _ => oA.at_bd k j) oA.den.1 oA.den.2 h3 (by rw [h4.1, hl]) h4 (by omega) (by omega) (fun j _ => by
        have := hvbd j
        have e : vs.getD j 0 = fF vs j := rfl
        rw [e]; omega))
      have HTG := hid (fun (v : Value) (l : List (Int × Int)) (w' : World) (h : RdF w' v l) (h2 : Frs l row a) => together_any v l row a w' h (by rw [h2.1, hrl]; have := oA.l3; omega) h2 oA.d0 (by have := oA.den; unfold B14; omega) (fun k _ => hrbd k))
      have HLW : Hid (∀ l, Frs l row a → lcmL l = lowD [row] a ∧ numsL l (lcmL l) = row.map (fun x => x.tdiv (gM [row] a))) := hid (fun l h => by
        obtain ⟨e1, e2⟩ := together_low (R := [row]) (D := a) (l := l) (by rw [one_flat]; exact h) oA.d0
        exact ⟨e1, e2.trans (by unfold lowR mapM; rw [List.map_cons, List.map_nil, one_flat])⟩)
      obtain ⟨OUT, hOUT⟩ : ∃ OUT, OUT = row.map (fun x => x.tdiv (gM [row] a)) := ⟨_, rfl⟩
      obtain ⟨LD, hLD⟩ : ∃ LD, LD = lowD [row] a := ⟨_, rfl⟩
      rw [← hOUT, ← hLD] at HE HLW
      obtain ⟨iF, hF, hz0, hz1, hz2⟩ := info_parts infoFr
      have hn3 := oA.l3
      have hn1 := (fvB_iff.1 oA.form).2.1
      have HL := hid hl
      have HRLN := hid hrl
      have hvl3 : vs.length ≤ 3 := by omega
      clear hva hvc hvi oA hvb hvbd hrow hrbd hl hrl hOUT hLD
      go_enter Try.func32, Try.ntmps32
      go_wp2_with fail
      refine HV.out.mono ?_
      rintro e w2 ⟨rfl, hb2⟩
      have HB2 := hid (HB.out.trans (hb2.mono HB.out.size))
      have HV2 := hid (HVV.out.keep hb2)
      have HM2 := hid (H1.out.keep hb2)
      have HA2 := hid (HA.out.keep hb2)
      have HX2 := hid hb2
      clear hb2
      have HO0 : Hid (OwnF ((w2.alloc (.cells #[] 65)).alloc (.cells #[] 65)) w2.heap.size (.slice (some ⟨w2.heap.size, 0, none⟩) 0 0) []) := hid ((World.ownsRow_made (base := w2.heap.size) (size := 2) (e := 65) w2 #[] 0 (Nat.le_refl _) (by unfold maxLen; omega) rfl).alloc _)
      have HT0 : Hid (((w2.alloc (.cells #[] 65)).alloc (.cells #[] 65)).heap[w2.heap.size + 1]? = some (.cells #[] 65 (0, 0))) := hid (heap_new (by simp))
      have HK0 : Hid (Below w2.heap.size w2 ((w2.alloc (.cells #[] 65)).alloc (.cells #[] 65))) := hid ((below_box2 _ _).alloc (by simp) _)
      go_wp2_with (go_at_call 57; refine (vectorWithin_any _ vs _ _ (by omega) (by omega) _ HV2.out).mono ?_; rw [HVC.out]; rintro e w' ⟨rfl, rfl⟩)
      go_loopw [9, 31] (fun so si wr => ∃ (K : Nat) (l : List (Int × Int)), si = .int .i64 (K : Int) ∧ K ≤ vs.length ∧ Hid (Frs l (vs.take K) 1) ∧ Hid (OwnF wr w2.heap.size so l) ∧ Hid (∀ k, so.ownBlock = some k → k ≠ w2.heap.size + 1) ∧ Hid (Below w2.heap.size w2 wr) ∧ Hid (wr.heap[w2.heap.size + 1]? = some (.cells #[] 65 (0, 0)))) (fun _ si _ => vs.length - (intOf si).toNat)
      case atStart => exact ⟨0, [], rfl, by omega, hid ⟨rfl, fun i hi => absurd hi (by simp)⟩, HO0, hid (fun k e => by have h9 : w2.heap.size = k := (by simpa [Value.ownBlock] using e); omega), HK0, HT0⟩
      case round =>
        obtain ⟨K, l, rfl, hK, HFS, HO, HNE, HBK, HT⟩ := hrel
        rename World => wr
        have hll := frs_take HFS.out hK
        by_cases hlt : K < vs.length
        · obtain ⟨bv, ov, c, e, hc⟩ := rd_cells (HV2.out.keep HBK.out) (by omega)
          cases e
          have c2 := hc K hlt
          have HTK := hid (takeD_snoc hlt)
          obtain ⟨x, hxe⟩ : ∃ x, x = vs.getD K 0 := ⟨_, rfl⟩
          rw [← hxe] at c2 HTK
          have hKi : (K : Int) < (vs.length : Int) := by omega
          have HLT := hid hlt
          have hbs := HBK.out.size
          have hl4 : l.length ≤ 4 := by omega
          have hrl := (Array.getElem?_eq_some_iff.1 HT.out).1
          clear hc hxe hlt hll
          go_wp2_with (at_builtin; refine wpList_append_own_at _ rfl _ _ 72 rfl w2.heap.size 65 iF (.agg #[.int .i64 0, .int .i64 0]) 2 16 Try.underlying72 hF hz0 hz1 hz2 rfl (by decide) _ _ _ rfl ((show World.ownsRow _ _ _ _ _ _ _ from HO.out).alloc _) ⟨wr.heap.size, 0, none⟩ 1 1 [.int .i64 x, .int .i64 1] rfl rfl (cell_two_new _ _ _ _) (by simp [Value.oneCell']) (by unfold maxLen; omega) (by omega) (by simp; omega) ?_; intro v' w3 hown' hgrow _ hat; have HG := hid hgrow; have HW := hid hown'; have HAT := hid hat; clear hown' hgrow hat)
          have hsg := HG.out.size
          simp only [World.size_alloc] at hsg
          have hr3 := (HG.out.block (w2.heap.size + 1) (by simp; omega) (fun e => HNE.out _ e.symm rfl)).trans (heap_up HT.out)
          have HT3 := hid hr3
          clear hr3
          go_roundw
          case measure => simp only [intOf]; have := HLT.out; omega
          case rel =>
            refine ⟨K + 1, l ++ [(x, 1)], by go_num, HLT.out, hid (by rw [HTK.out]; exact frs_snoc HFS.out (fr_int x)), hid ?_, hid (fun k e => ?_), hid ((HBK.out.alloc hbs _).grown HG.out (by simp; omega) (fun k e => (HO.out.lt2 k e).1)), HT3⟩
            · unfold OwnF
              rw [List.length_append, encF_snoc]
              exact HW.out
            · rcases HAT.out with h | h
              · exact HNE.out k (h.symm.trans e)
              · have := h.symm.trans e
                simp only [World.size_alloc, Option.some.injEq] at this
                omega
        · obtain rfl : K = vs.length := by omega
          have hfs := HFS.out
          rw [List.take_length] at hfs
          have hv := HO.out.rd2 (by have := HL.out; omega)
          obtain ⟨gl, cl, rfl, hlm, _, _⟩ := hv
          have HF1 := hid hfs
          have HOF := HO
          have hglt := (HO.out.lt2 gl rfl).2
          have hgne := HNE.out gl rfl
          have HG1 := hid hgne
          have HTO : Hid (OwnF wr (w2.heap.size + 1) (.slice (some ⟨w2.heap.size + 1, 0, none⟩) 0 0) []) := hid ⟨rfl, .inr ⟨_, _, #[], rfl, Nat.le_refl _, HT.out, by simp, by unfold maxLen; omega, rfl, rfl⟩⟩
          have HBR : Hid (Below w2.heap.size w2 wr) := HBK
          have HL1 := hid hll
          have HTS := hid (Array.getElem?_eq_some_iff.1 HT.out).1
          obtain ⟨og, hog⟩ : ∃ og, wr.heap[gl]? = some og := ⟨_, Array.getElem?_eq_getElem hglt⟩
          have HOG := hid hog
          clear hfs hlt hlm hglt hgne hog hll HFS HNE HT HBK
          go_wp2_with fail
          go_loopw [10, 43] (fun so si wq => ∃ (K : Nat) (l2 : List (Int × Int)), si = .int .i64 (K : Int) ∧ K ≤ xs.length ∧ Hid (Frs l2 (row.take K) a) ∧ Hid (OwnF wq (w2.heap.size + 1) so l2) ∧ Hid (∀ k, so.ownBlock = some k → k ≠ gl) ∧ Hid (Below w2.heap.size w2 wq) ∧ Hid (wq.heap[gl]? = some og) ∧ w2.heap.size + 1 ≤ wq.heap.size) (fun _ si _ => xs.length - (intOf si).toNat)
          case atStart => exact ⟨0, [], rfl, by omega, hid ⟨rfl, fun i hi => absurd hi (by simp)⟩, HTO, hid (fun k e => by have h9 : w2.heap.size + 1 = k := (by simpa [Value.ownBlock] using e); have := HG1.out; omega), HBR, HOG, by have := HTS.out; omega⟩
          case round =>
            obtain ⟨K, l2, rfl, hK, HFS, HO2, HNE, HBK, HGQ, hwq⟩ := hrel
            rename World => wq
            have hll2 := frs_take HFS.out (by rw [HRLN.out]; exact hK)
            have hrdf : RdF wq (.slice (some ⟨gl, 0, none⟩) l.length cl) l := (row9_at HOF.out (fun g e => by
              have : gl = g := by simpa [Value.ownBlock] using e
              subst this
              exact HGQ.out.trans HOG.out.symm)).rd2 (by have := HL1.out; have := HL.out; omega)
            by_cases hlt : K < xs.length
            · have HC := hid (HON.out K hlt _ l wq (HM2.out.keep HBK.out) (HA2.out.keep HBK.out) hrdf HF1.out)
              have HTK := hid (HROW.out K hlt)
              have hKi : (K : Int) < (xs.length : Int) := by omega
              have HLT := hid hlt
              have hl4 : l2.length ≤ 4 := by omega
              clear hrdf hlt hll2
              go_wp2_with fail
              refine HC.out.mono ?_
              rintro e w5 ⟨p, q, rfl, hfr, hb5⟩
              rw [Int.mul_one] at hfr
              have HFX := hid hfr
              have HO5 := hid (row2_keep HO2.out hb5)
              have HB5 := hid (HBK.out.trans (hb5.mono HBK.out.size))
              have HG5 := hid (heap_below hb5 HGQ.out)
              have hbs := HB5.out.size
              have hrl := (Array.getElem?_eq_some_iff.1 HG5.out).1
              have hbs2 : w2.heap.size + 1 ≤ w5.heap.size := Nat.le_trans hwq hb5.size
              clear hfr hb5
              go_wp2_with (at_builtin; refine wpList_append_own_at _ rfl _ _ 72 rfl (w2.heap.size + 1) 65 iF (.agg #[.int .i64 0, .int .i64 0]) 2 16 Try.underlying72 hF hz0 hz1 hz2 rfl (by decide) _ _ _ rfl ((show World.ownsRow _ _ _ _ _ _ _ from HO5.out).alloc _) ⟨w5.heap.size, 0, none⟩ 1 1 [.int .i64 p, .int .i64 q] rfl rfl (cell_two_new _ _ _ _) (by simp [Value.oneCell']) (by unfold maxLen; omega) (by omega) (by simp; omega) ?_; intro v' w3 hown' hgrow _ hat; have HG := hid hgrow; have HW := hid hown'; have HAT := hid hat; clear hown' hgrow hat)
              have hsg := HG.out.size
              simp only [World.size_alloc] at hsg
              have hr3 := (HG.out.block gl (by simp; omega) (fun e => HNE.out _ e.symm rfl)).trans (heap_up HG5.out)
              have HG3 := hid hr3
              clear hr3
              go_roundw
              case measure => simp only [intOf]; have := HLT.out; omega
              case rel =>
                refine ⟨K + 1, l2 ++ [(p, q)], by go_num, HLT.out, hid (by rw [HTK.out]; exact frs_snoc HFS.out HFX.out), hid ?_, hid (fun k e => ?_), hid ((HB5.out.alloc hbs _).grown HG.out (by simp; omega) (fun k e => by have := (HO5.out.lt2 k e).1; omega)), HG3, by omega⟩
                · unfold OwnF
                  rw [List.length_append, encF_snoc]
                  exact HW.out
                · rcases HAT.out with h | h
                  · exact HNE.out k (h.symm.trans e)
                  · have := h.symm.trans e
                    simp only [World.size_alloc, Option.some.injEq] at this
                    omega
            · obtain rfl : K = xs.length := by omega
              have hfs := HFS.out
              rw [List.take_of_length_le (by rw [HRLN.out]; exact Nat.le_refl _)] at hfs
              have hv := HO2.out.rd2 (by omega)
              have HC := hid (HTG.out _ l2 wq hv hfs)
              obtain ⟨e1, e2⟩ := HLW.out l2 hfs
              rw [e2, e1] at HC
              obtain ⟨g2, c2, rfl, _⟩ := hv
              clear hfs hll2 hrdf e1 e2 hlt
              go_wp2_with fail
              refine HC.out.mono ?_
              rintro e w6 ⟨u, rfl, ho, hb6⟩
              have HO6 := hid (ho.down HBK.out.size)
              have HB6 := hid (HB2.out.trans ((HBK.out.trans (hb6.mono HBK.out.size)).mono HB2.out.size))
              obtain ⟨au, cu, rfl⟩ := ho.reads
              clear ho hb6
              go_wp2_with fail
              refine bodyPost_ret (v := .tuple #[.slice au OUT.length cu, .int .i64 LD, .bool true]) (by simp [results, Try.results32, go_sem]) rfl ?_
              rw [HE.out]
              exact ⟨_, rfl, HO6.out.down HB2.out.size, HB6.out⟩

end Go.Proofs.Ytjabklpnohfjpab

/-! Mx8 -/
set_option linter.unusedVariables false
namespace Go.Proofs.Ytjabklpnohfjpab
open Go.RowKit

theorem mul_bd18 {x y : Int} (h1 : -1000000 ≤ x ∧ x ≤ 1000000) (h2 : -2000000000000 ≤ y ∧ y ≤ 2000000000000) : -2000000000000000000 ≤ x * y ∧ x * y ≤ 2000000000000000000 := by
  have e : (x * y).natAbs ≤ 1000000 * 2000000000000 := by rw [Int.natAbs_mul]; exact Nat.mul_le_mul (by omega) (by omega)
  omega

set_option maxRecDepth 100000 in
set_option maxHeartbeats 4000000 in
theorem l7Det_any (v : Value) (R : List (List Int)) (n : Nat) (w : World) (hm : RdM w v R) (hs : Sq n R) (hn : n = 1 ∨ n = 2 ∨ n = 3) (hb : ∀ i k, -1000000 ≤ at2 R i k ∧ at2 R i k ≤ 1000000) : Calls Try.prog 71 #[v] w fun e w' => e = .returned (.int .i64 (detF n (at2 R))) ∧ ∃ k, w' = w.drewN k := by
  obtain ⟨a, cap, rfl⟩ := hm.form
  have hrow : ∀ t, t < n → (R.getD t []).length = n := fun t ht => by
    rw [List.getD_eq_getElem?_getD, List.getElem?_eq_getElem (by rw [hs.1]; exact ht)]
    exact hs.2 _ (List.getElem_mem _)
  obtain ⟨b, o, _, rfl, _, _⟩ := hm.row (i := 0) (by rw [hs.1]; omega)
  have hl := hs.1
  have HRL := hid hl
  rcases hn with rfl | rfl | rfl
  · skip
    obtain ⟨b0, o0, k0, h0, c0⟩ := row_cells hm (t := 0) (by rw [HRL.out]; omega) (show 0 < 1 by omega) (hrow 0 (by omega))
    have e00 := c0 0 (by omega)
    simp only [Nat.add_zero] at h0 e00
    have q00 := hb 0 0
    have HDET := hid (det1 (at2 R))
    obtain ⟨x00, y00⟩ : ∃ x, x = at2 R 0 0 := ⟨_, rfl⟩
    rw [← y00] at e00 q00 HDET
    rw [hl]
    clear c0 y00 hl hrow hs hm hb
    go_enter Try.func71, Try.ntmps71
    go_wp2_with fail
    go_ret
    exact ⟨retI HDET.out.symm, 0, rfl⟩
  · skip
    obtain ⟨b0, o0, k0, h0, c0⟩ := row_cells hm (t := 0) (by rw [HRL.out]; omega) (show 0 < 2 by omega) (hrow 0 (by omega))
    obtain ⟨b1, o1, k1, h1, c1⟩ := row_cells hm (t := 1) (by rw [HRL.out]; omega) (show 0 < 2 by omega) (hrow 1 (by omega))
    have e00 := c0 0 (by omega)
    have e01 := c0 1 (by omega)
    have e10 := c1 0 (by omega)
    have e11 := c1 1 (by omega)
    simp only [Nat.add_zero] at h0 h1 e00 e01 e10 e11
    have q00 := hb 0 0
    have q01 := hb 0 1
    have q10 := hb 1 0
    have q11 := hb 1 1
    have HDET := hid (det2 (at2 R))
    obtain ⟨x00, y00⟩ : ∃ x, x = at2 R 0 0 := ⟨_, rfl⟩
    obtain ⟨x01, y01⟩ : ∃ x, x = at2 R 0 1 := ⟨_, rfl⟩
    obtain ⟨x10, y10⟩ : ∃ x, x = at2 R 1 0 := ⟨_, rfl⟩
    obtain ⟨x11, y11⟩ : ∃ x, x = at2 R 1 1 := ⟨_, rfl⟩
    rw [← y00] at e00 q00 HDET
    rw [← y01] at e01 q01 HDET
    rw [← y10] at e10 q10 HDET
    rw [← y11] at e11 q11 HDET
    rw [hl]
    obtain ⟨m1, m2⟩ := mul_bd12 q00 q11
    obtain ⟨m3, m4⟩ := mul_bd12 q01 q10
    clear c0 c1 y00 y01 y10 y11 hl hrow hs hm hb
    go_enter Try.func71, Try.ntmps71
    go_wp2_with fail
    go_quiet (fail)
    go_wp2_with fail
    go_ret
    exact ⟨retI HDET.out.symm, _, rfl⟩
  · skip
    obtain ⟨b0, o0, k0, h0, c0⟩ := row_cells hm (t := 0) (by rw [HRL.out]; omega) (show 0 < 3 by omega) (hrow 0 (by omega))
    obtain ⟨b1, o1, k1, h1, c1⟩ := row_cells hm (t := 1) (by rw [HRL.out]; omega) (show 0 < 3 by omega) (hrow 1 (by omega))
    obtain ⟨b2, o2, k2, h2, c2⟩ := row_cells hm (t := 2) (by rw [HRL.out]; omega) (show 0 < 3 by omega) (hrow 2 (by omega))
    have e00 := c0 0 (by omega)
    have e01 := c0 1 (by omega)
    have e02 := c0 2 (by omega)
    have e10 := c1 0 (by omega)
    have e11 := c1 1 (by omega)
    have e12 := c1 2 (by omega)
    have e20 := c2 0 (by omega)
    have e21 := c2 1 (by omega)
    have e22 := c2 2 (by omega)
    simp only [Nat.add_zero] at h0 h1 h2 e00 e01 e02 e10 e11 e12 e20 e21 e22
    have q00 := hb 0 0
    have q01 := hb 0 1
    have q02 := hb 0 2
    have q10 := hb 1 0
    have q11 := hb 1 1
    have q12 := hb 1 2
    have q20 := hb 2 0
    have q21 := hb 2 1
    have q22 := hb 2 2
    have HDET := hid (det3 (at2 R))
    obtain ⟨x00, y00⟩ : ∃ x, x = at2 R 0 0 := ⟨_, rfl⟩
    obtain ⟨x01, y01⟩ : ∃ x, x = at2 R 0 1 := ⟨_, rfl⟩
    obtain ⟨x02, y02⟩ : ∃ x, x = at2 R 0 2 := ⟨_, rfl⟩
    obtain ⟨x10, y10⟩ : ∃ x, x = at2 R 1 0 := ⟨_, rfl⟩
    obtain ⟨x11, y11⟩ : ∃ x, x = at2 R 1 1 := ⟨_, rfl⟩
    obtain ⟨x12, y12⟩ : ∃ x, x = at2 R 1 2 := ⟨_, rfl⟩
    obtain ⟨x20, y20⟩ : ∃ x, x = at2 R 2 0 := ⟨_, rfl⟩
    obtain ⟨x21, y21⟩ : ∃ x, x = at2 R 2 1 := ⟨_, rfl⟩
    obtain ⟨x22, y22⟩ : ∃ x, x = at2 R 2 2 := ⟨_, rfl⟩
    rw [← y00] at e00 q00 HDET
    rw [← y01] at e01 q01 HDET
    rw [← y02] at e02 q02 HDET
    rw [← y10] at e10 q10 HDET
    rw [← y11] at e11 q11 HDET
    rw [← y12] at e12 q12 HDET
    rw [← y20] at e20 q20 HDET
    rw [← y21] at e21 q21 HDET
    rw [← y22] at e22 q22 HDET
    rw [hl]
    have p0a := mul_bd12 q11 q22
    have p0b := mul_bd12 q12 q21
    have s0 := mul_bd18 (y := x11 * x22 - x12 * x21) q00 (by omega)
    have p1a := mul_bd12 q12 q20
    have p1b := mul_bd12 q10 q22
    have s1 := mul_bd18 (y := x12 * x20 - x10 * x22) q01 (by omega)
    have p2a := mul_bd12 q10 q21
    have p2b := mul_bd12 q11 q20
    have s2 := mul_bd18 (y := x10 * x21 - x11 * x20) q02 (by omega)
    have PB := hid (And.intro p0a (And.intro p0b (And.intro p1a (And.intro p1b (And.intro p2a (And.intro p2b (And.intro s0 (And.intro s1 s2))))))))
    clear c0 c1 c2 y00 y01 y02 y10 y11 y12 y20 y21 y22 hl hrow hs hm hb p0a p0b p1a p1b p2a p2b s0 s1 s2
    go_enter Try.func71, Try.ntmps71
    go_wp2_with fail
    go_loopw [3, 4, 5] (fun ss sk sa wr => ∃ (K D : Int) (q : Nat), sk = .int .i64 K ∧ ss = .int .i64 D ∧ (K = 0 ∧ D = 0 ∨ K = 1 ∧ D = x00 * (x11 * x22 - x12 * x21) ∨ K = 2 ∧ D = x00 * (x11 * x22 - x12 * x21) + x01 * (x12 * x20 - x10 * x22) ∨ K = 3 ∧ D = x00 * (x11 * x22 - x12 * x21) + x01 * (x12 * x20 - x10 * x22) + x02 * (x10 * x21 - x11 * x20)) ∧ wr = w.drewN q) (fun _ sk _ _ => 3 - (intOf sk).toNat)
    case atStart => exact ⟨0, 0, 0, rfl, rfl, .inl ⟨rfl, rfl⟩, rfl⟩
    case round =>
      obtain ⟨K, D, q, rfl, rfl, hK, rfl⟩ := hrel
      obtain ⟨p0a, p0b, p1a, p1b, p2a, p2b, s0, s1, s2⟩ := PB.out
      rcases hK with ⟨rfl, rfl⟩ | ⟨rfl, rfl⟩ | ⟨rfl, rfl⟩ | ⟨rfl, rfl⟩
      · go_wp2_with fail
        go_quiet (fail)
        go_wp2_with fail
        go_roundw
        case measure => simp only [intOf]; omega
        case rel => exact ⟨1, _, _, by go_num, by go_num, .inr (.inl ⟨rfl, by omega⟩), by first | rfl | exact World.drewN_drewN ..⟩
      · go_wp2_with fail
        go_quiet (fail)
        go_wp2_with fail
        go_roundw
        case measure => simp only [intOf]; omega
        case rel => exact ⟨2, _, _, by go_num, by go_num, .inr (.inr (.inl ⟨rfl, by omega⟩)), by first | rfl | exact World.drewN_drewN ..⟩
      · go_wp2_with fail
        go_quiet (fail)
        go_wp2_with fail
        go_roundw
        case measure => simp only [intOf]; omega
        case rel => exact ⟨3, _, _, by go_num, by go_num, .inr (.inr (.inr ⟨rfl, by omega⟩)), by first | rfl | exact World.drewN_drewN ..⟩
      · clear p0a p0b p1a p1b p2a p2b s0 s1 s2
        go_wp2_with fail
        go_ret
        exact ⟨retI HDET.out.symm, _, rfl⟩

set_option maxRecDepth 100000 in
set_option maxHeartbeats 2000000 in
theorem moveSignS_any (vf va : Value) (xs : List Int) (A : List (List Int)) (a : Int) (w : World) (hx : Rd w vf xs) (hA : RdM w va A) : Calls Try.prog 34 #[vf, .agg #[va, .int .i64 a]] w fun e w' => e = .returned (.int .i64 (signW xs A a)) ∧ Below w.heap.size w w' := by
  obtain ⟨aa, ca, rfl⟩ := hA.form
  obtain ⟨ax, cx, rfl, _⟩ := hx.form
  have hB0 := below_box2 w (.cells #[.slice aa A.length ca, .int .i64 a] 29)
  have H0 := hid (heap_alloc_new w (.cells #[.slice aa A.length ca, .int .i64 a] 29))
  have HX := hid (hx.keep hB0)
  have HA := hid (hA.keep hB0)
  have HB := hid hB0
  have HVA := hid (fun (wx : World) (h1 : Rd wx (.slice ax xs.length cx) xs) (h2 : RdM wx (.slice aa A.length ca) A) => moveValidS_any (.slice ax xs.length cx) (.slice aa A.length ca) xs A a wx h1 h2)
  clear hx hA hB0
  cases hva : moveB xs A a with
  | false =>
    have HE : Hid (signW xs A a = 0) := hid (by unfold signW; rw [hva]; rfl)
    rw [hva] at HVA
    clear hva
    go_enter Try.func34, Try.ntmps34
    go_wp2_with fail
    refine (HVA.out _ HX.out HA.out).mono ?_
    rintro e w2 ⟨rfl, hb2⟩
    go_wp2_with fail
    go_ret
    exact ⟨retI HE.out.symm, HB.out.trans (hb2.mono HB.out.size)⟩
  | true =>
    have hMA := moveB_iff.1 hva
    have HE : Hid (signW xs A a = sg (detF xs.length (at2 A))) := hid (sign_ok hMA)
    rw [hva] at HVA
    obtain ⟨D, hD⟩ : ∃ D, D = detF xs.length (at2 A) := ⟨_, rfl⟩
    have HDC := hid (fun (wx : World) (v : Value) (h : RdM wx v A) => l7Det_any v A xs.length wx h hMA.sq hMA.n3 hMA.at_bd)
    rw [← hD] at HE HDC
    clear hva hMA hD
    go_enter Try.func34, Try.ntmps34
    go_wp2_with fail
    refine (HVA.out _ HX.out HA.out).mono ?_
    rintro e w2 ⟨rfl, hb2⟩
    have h02 := (hb2.block _ (Array.getElem?_eq_some_iff.1 H0.out).1).trans H0.out
    have x0 := cellB (i := 0) h02
    have HA2 := hid (HA.out.keep hb2)
    have HB2 := hid (HB.out.trans (hb2.mono HB.out.size))
    clear h02 hb2
    go_wp2_with fail
    refine (HDC.out _ _ HA2.out).mono ?_
    rintro e w3 ⟨rfl, k3, rfl⟩
    by_cases h0 : 0 < D
    · have HS : Hid (signW xs A a = 1) := hid (by rw [HE.out, sg_pos h0])
      go_wp2_with fail
      go_ret
      exact ⟨retI HS.out.symm, below_drewN HB2.out k3⟩
    · have HS : Hid (signW xs A a = -1) := hid (by rw [HE.out]; unfold sg; rw [if_neg h0])
      go_wp2_with fail
      go_ret
      exact ⟨retI HS.out.symm, below_drewN HB2.out k3⟩

end Go.Proofs.Ytjabklpnohfjpab

/-! RdCut -/
set_option linter.unusedVariables false
namespace Go.Proofs.Ytjabklpnohfjpab
open Go.RowKit

theorem Rd.drop {W : World} {g o n cap k : Nat} {xs : List Int} (h : Rd W (.slice (some ⟨g, o, none⟩) n cap) xs) (hk : k ≤ n) (hn : xs.length = n) : Rd W (.slice (some ⟨g, o + k, none⟩) (n - k) (cap - k)) (xs.drop k) := by
  subst hn
  by_cases h0 : xs.length = k
  · exact .inl ⟨_, _, by rw [h0, Nat.sub_self], List.drop_eq_nil_of_le (by omega)⟩
  · rcases h with ⟨a, c, hv, hx⟩ | ⟨b, o', c, hv, hl, hm, hc⟩
    · subst hx; have e : ([] : List Int).length = 0 := rfl; omega
    · simp only [Value.slice.injEq, Option.some.injEq, Addr.mk.injEq, and_true, true_and] at hv
      obtain ⟨⟨rfl, rfl⟩, rfl⟩ := hv
      refine .inr ⟨g, o + k, cap - k, by rw [List.length_drop], by rw [List.length_drop]; omega, by rw [List.length_drop]; omega, fun i hi => ?_⟩
      rw [List.length_drop] at hi
      have := hc (k + i) (by omega)
      rw [show o + k + i = o + (k + i) by omega, this]
      simp [List.getD]
theorem Rd.cut {W : World} {g o n cap k : Nat} {xs : List Int} (h : Rd W (.slice (some ⟨g, o, none⟩) n cap) xs) (hk : k ≤ n) (hn : xs.length = n) (hc : n ≤ cap) : Rd W (.slice (if cap = k then some ⟨g, o, none⟩ else some ⟨g, o + k, none⟩) (n - k) (cap - k)) (xs.drop k) := by
  by_cases e : cap = k
  · exact .inl ⟨_, _, by rw [show n - k = 0 by omega], List.drop_eq_nil_of_le (by omega)⟩
  · rw [if_neg e]
    exact h.drop hk hn
theorem Rd.take {W : World} {g o n cap k c : Nat} {xs : List Int} (h : Rd W (.slice (some ⟨g, o, none⟩) n cap) xs) (hk : k ≤ n) (hn : xs.length = n) (hcc : cap ≤ c := by exact Nat.le_refl _) : Rd W (.slice (some ⟨g, o, none⟩) k c) (xs.take k) := by
  subst hn
  by_cases h0 : k = 0
  · exact .inl ⟨_, _, by rw [h0], by rw [h0]; rfl⟩
  · rcases h with ⟨a, c, hv, hx⟩ | ⟨b, o', c', hv, hl, hm, hc⟩
    · subst hx; simp at hk; omega
    · simp only [Value.slice.injEq, Option.some.injEq, Addr.mk.injEq, and_true, true_and] at hv
      obtain ⟨⟨rfl, rfl⟩, rfl⟩ := hv
      have e : (xs.take k).length = k := by rw [List.length_take]; omega
      refine .inr ⟨g, o, c, by rw [e], by omega, by omega, fun i hi => ?_⟩
      rw [e] at hi
      rw [hc i (by omega)]
      simp [List.getD, hi]

end Go.Proofs.Ytjabklpnohfjpab
