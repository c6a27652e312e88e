/-
  Contracts of the program's chapter 7: is it a move, products of moves, the way back.
-/
import Derived.Test.YtacjejnbomdhbabMpO
set_option linter.unusedVariables false
namespace Go.Proofs.Ytacjejnbomdhbab
open Go.RowKit

set_option maxRecDepth 100000 in
set_option maxHeartbeats 2000000 in
theorem moveValid_any (vf va : Value) (xs : List Int) (R : List (List Int)) (d : Int) (w : World) (hx : Rd w vf xs) (hR : RdM w va R) : Calls Try.prog 17 #[vf, .agg #[va, .int .i64 d]] w fun e w' => e = .returned (.bool (moveB xs R d)) ∧ Below w.heap.size w w' := by
  obtain ⟨a, c, rfl⟩ := hR.form
  have hbl : Below w.heap.size w (w.alloc (.cells #[.slice a R.length c, .int .i64 d] 29)) := below_box2 _ _
  have HV := hid (valid9_any w.heap.size _ vf xs R d _ (heap_new rfl) (hR.keep hbl) (hx.keep hbl))
  obtain ⟨ax, cx, rfl, _⟩ := hx.form
  have HB := hid hbl
  clear hx hR hbl
  go_enter Try.func17, Try.ntmps17
  go_wp2_with fail
  refine HV.out.mono ?_
  rintro e w2 ⟨rfl, hb2⟩
  have HB2 := hid (HB.out.trans (hb2.mono HB.out.size))
  clear hb2
  go_wp2_with fail
  go_ret
  exact ⟨rfl, HB2.out⟩

set_option maxRecDepth 100000 in
set_option maxHeartbeats 4000000 in
theorem timesAt_any (b3 b2 bmA bmB : Nat) (va vb : Value) (A B : List (List Int)) (a b : Int) (n i j : Nat) (w : World) (hx1 : Boxed w b3 68 (.pointer (some ⟨bmB, 0, none⟩))) (hx2 : Boxed w b2 68 (.pointer (some ⟨bmA, 0, none⟩))) (hmA : MvAt w bmA va a) (hmB : MvAt w bmB vb b) (hA : RdM w va A) (hB : RdM w vb B) (sA : Sq n A) (sB : Sq n B) (hi : i < n) (hj : j < n) (hn3 : n ≤ 3) (bA : ∀ i k, -1000000 ≤ at2 A i k ∧ at2 A i k ≤ 1000000) (bB : ∀ i k, -1000000 ≤ at2 B i k ∧ at2 B i k ≤ 1000000) (a1 : 1 ≤ a) (a2 : a ≤ 10000) (b1 : 1 ≤ b) (b2' : b ≤ 10000) :
    Calls Try.prog 95 #[.int .i64 (i : Int), .int .i64 (j : Int), .pointer (some ⟨b3, 0, none⟩), .pointer (some ⟨b2, 0, none⟩)] w fun e w' => ∃ p q, e = .returned (frV p q) ∧ Fr p q (mulF (at2 A) (at2 B) n i j) (a * b) ∧ Below w.heap.size w w' := by
  obtain ⟨iF, hF, hz0, hz1, hz2⟩ := info_parts infoFr
  have HAT := hid (fun (k : Nat) (hk : k < n) (w' : World) (h : Below w.heap.size w w') => mvAt_any bmB vb B b n k j w' (hmB.keep h) (hB.keep h) sB hk hj (by omega) (by have := bB k j; unfold B15; omega) b1 b2')
  have HON := hid (fun (vl : Value) (l : List (Int × Int)) (w' : World) (h : Below w.heap.size w w') (hv : RdF w' vl l) (hl : l.length = n) (hf : Frs l (rowL n (fun k => at2 B k j)) b) => on_any bmA va vl A l (rowL n (fun k => at2 B k j)) a b n i w' (hmA.keep h) (hA.keep h) sA hi hn3 (fun k _ => bA i k) a1 a2 hv hl hf b1 b2' (fun k hk => by
    have e : (rowL n (fun k => at2 B k j)).getD k 0 = at2 B k j := row_at (f := fun k => at2 B k j) hk
    rw [e]; exact bB k j))
  have HFR : Hid (∀ k, k < n → Fr (numF (at2 B k j) b) (denF (at2 B k j) b) (at2 B k j) b) := hid (fun k _ => fr_of (by omega))
  obtain ⟨ab, cb, rfl⟩ := hB.form
  have hbl : Below w.heap.size w ((w.alloc (.cells #[.int .i64 0, .int .i64 0] 65)).alloc (.cells #[] 65)) := (below_box2 _ _).alloc (by simp) _
  have hq1 := box_below hbl hx1
  have hq2 := heap_below hbl hmB
  have c1 := hq1.cell
  have c3 := cellB (i := 0) hq2
  rw [sB.1] at c3
  have HX1 := hid hx1
  have HX2 := hid hx2
  have HBL := hid hbl
  have HR0 : Hid (((w.alloc (.cells #[.int .i64 0, .int .i64 0] 65)).alloc (.cells #[] 65)).heap[w.heap.size]? = some (.cells #[.int .i64 0, .int .i64 0] 65 (0, 0))) := hid (heap_up (heap_new rfl))
  have HO0 : Hid (OwnF ((w.alloc (.cells #[.int .i64 0, .int .i64 0] 65)).alloc (.cells #[] 65)) (w.heap.size + 1) (.slice (some ⟨w.heap.size + 1, 0, none⟩) 0 0) []) := hid (by
    have h := World.ownsRow_made (base := w.heap.size + 1) (size := 2) (e := 65) (w.alloc (.cells #[.int .i64 0, .int .i64 0] 65)) #[] 0 (by simp) (by unfold maxLen; omega) rfl
    rw [World.size_alloc] at h
    exact h)
  have HI := hid hi
  clear hx1 hx2 hmA hmB hA hB sA sB hi bA bB hbl hq1 hq2
  go_enter Try.func95, Try.ntmps95
  go_wp2_with fail
  go_loopw [7, 15] (fun so si wr => ∃ (K : Nat) (l : List (Int × Int)), si = .int .i64 (K : Int) ∧ K ≤ n ∧ Hid (Frs l ((rowL n (fun k => at2 B k j)).take K) b) ∧ Hid (OwnF wr (w.heap.size + 1) so l) ∧ Hid (Below w.heap.size w wr) ∧ Hid (wr.heap[w.heap.size]? = some (.cells #[.int .i64 0, .int .i64 0] 65 (0, 0)))) (fun _ si _ => n - (intOf si).toNat)
  case atStart => exact ⟨0, [], rfl, by omega, hid ⟨rfl, fun i hi => absurd hi (by simp)⟩, HO0, HBL, HR0⟩
  case round =>
    obtain ⟨K, l, rfl, hK, HFS, HO, HB, HR⟩ := hrel
    rename World => wr
    have hll : l.length = K := by
      have := HFS.out.1
      rw [List.length_take, row_len] at this
      omega
    by_cases hlt : K < n
    · have HFN := hid (rowL_take n (fun k => at2 B k j) hlt)
      have hfk := HFR.out K hlt
      have HC := hid (HAT.out K hlt wr HB.out)
      have c1 := (box_below HB.out (show Boxed w b3 68 _ from HX1.out)).cell
      obtain ⟨fa, hfa⟩ : ∃ fa, fa = numF (at2 B K j) b := ⟨_, rfl⟩
      obtain ⟨fb, hfb⟩ : ∃ fb, fb = denF (at2 B K j) b := ⟨_, rfl⟩
      rw [← hfa, ← hfb] at hfk HC
      have HFX := hid hfk
      have hKi : (K : Int) < (n : Int) := by omega
      have hl4 : l.length ≤ 4 := by omega
      have HLT := hid hlt
      clear hfk hfa hfb hll hlt
      go_wp2_with fail
      refine HC.out.mono ?_
      rintro e w2 ⟨rfl, hb2⟩
      have HO2 := hid (row2_keep HO.out hb2)
      have HB2 := hid (HB.out.trans (hb2.mono HB.out.size))
      have HR2 := hid (heap_below hb2 HR.out)
      have hbs := HB2.out.size
      have hrl := (Array.getElem?_eq_some_iff.1 HR2.out).1
      clear hb2
      go_wp2_with (at_builtin; refine wpList_append_own_at _ rfl _ _ 72 rfl (w.heap.size + 1) 65 iF (.agg #[.int .i64 0, .int .i64 0]) 2 16 Try.underlying72 hF hz0 hz1 hz2 rfl (by decide) _ _ _ rfl ((show World.ownsRow _ _ _ _ _ _ _ from HO2.out).alloc _) ⟨w2.heap.size, 0, none⟩ 1 1 [.int .i64 fa, .int .i64 fb] rfl rfl (cell_two_new _ _ _ _) (by simp [Value.oneCell']) (by unfold maxLen; omega) (by omega) (by simp; omega) ?_; intro v' w3 hown' hgrow _ hat; have HG := hid hgrow; have HW := hid hown'; clear hown' hgrow hat)
      have hsg := HG.out.size
      simp only [World.size_alloc] at hsg
      have hr3 := (HG.out.block w.heap.size (by simp; omega) (fun e => by have := HO2.out.lt2 _ e.symm; omega)).trans (heap_up HR2.out)
      have HR3 := hid hr3
      clear hr3
      go_roundw
      case measure => simp only [intOf]; have := HLT.out; omega
      case rel =>
        refine ⟨K + 1, l ++ [(fa, fb)], by go_num, HLT.out, hid (by rw [HFN.out]; exact frs_snoc HFS.out HFX.out), hid ?_, hid ((HB2.out.alloc hbs _).grown HG.out (by simp; omega) (fun k e => by have := HO2.out.lt2 k e; omega)), HR3⟩
        unfold OwnF
        rw [List.length_append, encF_snoc]
        exact HW.out
    · obtain rfl : K = n := by omega
      have hfs := HFS.out
      rw [List.take_of_length_le (by rw [row_len]; exact Nat.le_refl _)] at hfs
      have hv := HO.out.rd2 (by have := HI.out; omega)
      have HC := hid (HON.out _ l wr HB.out hv hll hfs)
      have HME : Hid (sumF (fun k => at2 A i k * (rowL K (fun k => at2 B k j)).getD k 0) K = mulF (at2 A) (at2 B) K i j) := hid (sumF_congr fun r hr => by
        have e : (rowL K (fun k => at2 B k j)).getD r 0 = at2 B r j := row_at (f := fun k => at2 B k j) hr
        rw [e])
      rw [HME.out] at HC
      have c2 := (box_below HB.out HX2.out).cell
      obtain ⟨gl, cl, rfl, _⟩ := hv
      clear hfs hll hlt
      go_wp2_with fail
      refine HC.out.mono ?_
      rintro e w2 ⟨p, q, rfl, hfr, hb2⟩
      have HFR2 := hid hfr
      have hq := heap_below hb2 HR.out
      have z0 := cellB (i := 0) hq
      have z1 := cellB (i := 1) hq
      have y0 := frozenB (i := 0) hq
      have y1 := frozenB (i := 1) hq
      have HQ := hid hq
      have HB2 := hid (HB.out.trans (hb2.mono HB.out.size))
      clear hfr hb2 hq
      go_wp2_with fail
      refine bodyPost_ret (results_cell_row rfl _ _ w.heap.size 65 #[_, _] (0, 0) _ rfl (heap_two1 (heap_two0 HQ.out)) Try.underlying65 rfl (by kernel_rfl)) rfl ?_
      exact ⟨p, q, rfl, HFR2.out, (HB2.out.setCell (Nat.le_refl _) _).setCell (Nat.le_refl _) _⟩

set_option maxRecDepth 100000 in
set_option maxHeartbeats 4000000 in
theorem times9_any (bmA bmB : Nat) (va vb : Value) (A B : List (List Int)) (a b : Int) (n : Nat) (w : World) (hmA : MvAt w bmA va a) (hmB : MvAt w bmB vb b) (hA : RdM w va A) (hB : RdM w vb B) (sA : Sq n A) (sB : Sq n B) (hn : n = 1 ∨ n = 2 ∨ n = 3) (bA : ∀ i k, -1000000 ≤ at2 A i k ∧ at2 A i k ≤ 1000000) (bB : ∀ i k, -1000000 ≤ at2 B i k ∧ at2 B i k ≤ 1000000) (a1 : 1 ≤ a) (a2 : a ≤ 10000) (b1 : 1 ≤ b) (b2 : b ≤ 10000) :
    Calls Try.prog 62 #[.pointer (some ⟨bmA, 0, none⟩), .pointer (some ⟨bmB, 0, none⟩)] w (MovePost (madeV n (mulF (at2 A) (at2 B) n) (a * b)) w) := by
  have hab1 : 1 ≤ a * b := Int.mul_pos (by omega) (by omega)
  have hab2 : a * b ≤ 100000000 := by
    have := Int.mul_le_mul a2 b2 (by omega) (by omega)
    omega
  have HMO := hid (fun (c3 c2 : Nat) (w' : World) (h : Below w.heap.size w w') (h1 : Boxed w' c3 68 (.pointer (some ⟨bmB, 0, none⟩))) (h2 : Boxed w' c2 68 (.pointer (some ⟨bmA, 0, none⟩))) => moveOf_any n hn 95 #[.pointer (some ⟨c3, 0, none⟩), .pointer (some ⟨c2, 0, none⟩)] (mulF (at2 A) (at2 B) n) (a * b) (by omega) (by unfold B14; omega) (fun i j hi hj => by
    have := sum_bd (f := fun r => at2 A i r * at2 B r j) (m := 1000000000000) (by omega) n (fun r hr => mul_bd12 (bA i r) (bB r j))
    have h3 : (n : Int) ≤ 3 := by omega
    have e : mulF (at2 A) (at2 B) n i j = sumF (fun r => at2 A i r * at2 B r j) n := rfl
    rw [e]
    unfold B14
    omega) w' (enters_of Try.func95 (by kernel_rfl) rfl) (fun i j w'' hi hj hb => timesAt_any c3 c2 bmA bmB va vb A B a b n i j w'' (box_below hb h1) (box_below hb h2) ((hmA.keep h).keep hb) ((hmB.keep h).keep hb) ((hA.keep h).keep hb) ((hB.keep h).keep hb) sA sB hi hj (by omega) bA bB a1 a2 b1 b2))
  obtain ⟨aa, ca, rfl⟩ := hA.form
  have hbl : Below w.heap.size w (((w.alloc (.cells #[.pointer (some ⟨bmA, 0, none⟩)] 68)).alloc (.cells #[.pointer (some ⟨bmB, 0, none⟩)] 68)).alloc (.cells #[.slice none 0 0, .int .i64 0] 29)) := ((below_box2 _ _).alloc (by simp) _).alloc (by simp; omega) _
  have hq := heap_below hbl hmA
  have c0 := cellB (i := 0) hq
  rw [sA.1] at c0
  have HB := hid hbl
  have HR : Hid ((((w.alloc (.cells #[.pointer (some ⟨bmA, 0, none⟩)] 68)).alloc (.cells #[.pointer (some ⟨bmB, 0, none⟩)] 68)).alloc (.cells #[.slice none 0 0, .int .i64 0] 29)).heap[w.heap.size + 1 + 1]? = some (.cells #[.slice none 0 0, .int .i64 0] 29 (0, 0))) := hid (heap_new (by simp))
  have H1 : Hid (Boxed (((w.alloc (.cells #[.pointer (some ⟨bmA, 0, none⟩)] 68)).alloc (.cells #[.pointer (some ⟨bmB, 0, none⟩)] 68)).alloc (.cells #[.slice none 0 0, .int .i64 0] 29)) w.heap.size 68 (.pointer (some ⟨bmA, 0, none⟩))) := hid (heap_up (heap_up (heap_new rfl)))
  have H2 : Hid (Boxed (((w.alloc (.cells #[.pointer (some ⟨bmA, 0, none⟩)] 68)).alloc (.cells #[.pointer (some ⟨bmB, 0, none⟩)] 68)).alloc (.cells #[.slice none 0 0, .int .i64 0] 29)) (w.heap.size + 1) 68 (.pointer (some ⟨bmB, 0, none⟩))) := hid (heap_up (heap_new (by simp)))
  clear hmA hmB hA hB sA sB hbl hq bA bB
  go_enter Try.func62, Try.ntmps62
  go_wp2_with fail
  refine (HMO.out _ _ _ HB.out H2.out H1.out).mono ?_
  rintro e w2 hp
  obtain ⟨R2, d2, b2, au, cu, rfl, ho, hb2, HE2⟩ := movePost_un hp
  have HO := hid ho
  have hq := heap_below hb2 HR.out
  have z0 := cellB (i := 0) hq
  have z1 := cellB (i := 1) hq
  have y0 := frozenB (i := 0) hq
  have y1 := frozenB (i := 1) hq
  have HB2 := hid (HB.out.trans (hb2.mono HB.out.size))
  clear ho hb2 hq hp
  go_wp2_with fail
  refine bodyPost_ret (v := .tuple #[.agg #[.slice au R2.length cu, .int .i64 d2], .bool b2]) (by simp [results, Try.results62, go_sem] <;> go_simp) rfl ?_
  exact movePost_o HO.out HB2.out (by first | omega | (simp; omega) | simp) (by first | omega | (simp; omega) | simp) _ _ HE2.out

end Go.Proofs.Ytacjejnbomdhbab
