/-
  Some texts in one file: MxH RangeV MpA MpR MpB.
-/
import Derived.Test.YtjabklpnohfjpabQBun27
import Derived.Test.YtjabklpnohfjpabQBun0
import Derived.RangeFuncNested
import Derived.Test.YtjabklpnohfjpabQBun19
import Derived.Test.YtjabklpnohfjpabQBun20
import Derived.Test.YtjabklpnohfjpabQBun2
import Derived.Test.YtjabklpnohfjpabQZm1
import Derived.Test.YtjabklpnohfjpabQBun25
import Derived.Laws.ResultCell
import Derived.BigQuiet
/-! MxH -/
set_option linter.unusedVariables false
namespace Go.Proofs.Ytjabklpnohfjpab
open Go.RowKit

theorem un_len (n i : Nat) : (unL n i).length = n := by unfold unL; simp
theorem split_fail {xs : List Int} {A : List (List Int)} {a : Int} {st st' : SplitSt} {LS : List (List Int)} {i k : Nat} (h : splitN xs (A, a, []) i = some st) (h2 : splitAt xs st i = putAll xs st LS) (h3 : putAll xs st (LS.take k) = some st') (h4 : splitPut xs st' (plainL (LS.getD k [])) = none) (hk : k < LS.length) (hi : i < xs.length) : splitV xs A a = none := by
  have e : splitN xs (A, a, []) (i + 1) = none := by
    show (splitN xs (A, a, []) i).bind (fun st => splitAt xs st i) = none
    rw [h]
    show splitAt xs st i = none
    rw [h2]
    refine putAll_none (k := k + 1) ?_
    rw [putAll_next hk, h3]
    exact h4
  unfold splitV
  split
  · rw [splitN_none e xs.length hi]; rfl
  · rfl
theorem split_go {xs : List Int} {A : List (List Int)} {a : Int} {st st' : SplitSt} {i : Nat} (h : splitN xs (A, a, []) i = some st) (h2 : splitAt xs st i = some st') : splitN xs (A, a, []) (i + 1) = some st' := by
  show (splitN xs (A, a, []) i).bind (fun st => splitAt xs st i) = some st'
  rw [h]
  exact h2
theorem put_is {xs ws : List Int} {R M : List (List Int)} {d m : Int} {L : List (List Int)} (h : mirV xs ws = some (M, m)) : splitPut xs (R, d, L) ws = (mulV xs M m R d).map (fun m => (m.1, m.2, L ++ [ws])) := by
  unfold splitPut
  rw [h]
  rfl
theorem put_no {xs ws : List Int} {st : SplitSt} (h : mirV xs ws = none) : splitPut xs st ws = none := by
  unfold splitPut
  rw [h]
  rfl
theorem listPost_nil2 {w W : World} {ok : Bool} {k : Nat} (hb : Below w.heap.size w W) (hk : k = W.heap.size) : ListPost ok [] w (.returned (.tuple #[.slice (some ⟨k, 0, none⟩) 0 0, .bool ok])) (W.alloc (.cells #[] 22)) := by
  subst hk
  exact listPost_nil hb
/-- the box of the parameter is written, then the list of vectors grows -/
theorem split_step {we wg : World} {bm : Nat} {c0 c1 v0 v1 : Value} {so : Value} {o : Obj} (hbm : we.heap[bm]? = some (.cells #[c0, c1] 29 (0, 0))) (hg : ((((we.setCell ⟨bm, 0, none⟩ v0).setCell ⟨bm, 1, none⟩ v1)).alloc o).grownBy wg so.ownBlock) (hso : so.ownBlock ≠ some bm) : we.heap.size ≤ wg.heap.size ∧ (∀ g, g < we.heap.size → g ≠ bm → so.ownBlock ≠ some g → wg.heap[g]? = we.heap[g]?) ∧ wg.heap[bm]? = some (.cells #[v0, v1] 29 (0, 0)) := by
  have hs := hg.size
  have hl := (Array.getElem?_eq_some_iff.1 hbm).1
  simp at hs
  refine ⟨by omega, fun g h1 h2 h3 => ?_, ?_⟩
  · rw [hg.block g (by simp; omega) (fun e => h3 e.symm), Below.heap_alloc _ _ _ (by simp; omega), Below.heap_setCell _ _ _ g (fun e => h2 e), Below.heap_setCell _ _ _ g (fun e => h2 e)]
  · rw [hg.block bm (by simp; omega) (fun e => hso e.symm), Below.heap_alloc _ _ _ (by simp; omega)]
    exact heap_cells2 hbm

set_option maxRecDepth 100000 in
set_option maxHeartbeats 16000000 in
theorem moveSplitS_any (vf va : Value) (xs : List Int) (A : List (List Int)) (a : Int) (w : World) (hx : Rd w vf xs) (hA : RdM w va A) : Calls Try.prog 42 #[vf, .agg #[va, .int .i64 a]] w (ListPost (splitV xs A a).isSome ((splitV xs A a).getD []) w) := by
  obtain ⟨i0, hi0, hz0, hz1, hz2⟩ := info_parts infoInt
  obtain ⟨i1, hi1, hy0, hy1, hy2⟩ := info_parts infoRow
  obtain ⟨ax, cx, rfl, _⟩ := hx.form
  obtain ⟨aa, ca, rfl⟩ := hA.form
  obtain ⟨W1, hW1⟩ : ∃ W1, W1 = (w.alloc (.cells #[.slice aa A.length ca, .int .i64 a] 29)).alloc (.cells #[] 22) := ⟨_, rfl⟩
  have hs0 : (w.alloc (.cells #[.slice aa A.length ca, .int .i64 a] 29)).heap.size = w.heap.size + 1 := by simp
  have hb1 : Below w.heap.size w W1 := by rw [hW1]; exact (below_box2 w _).alloc (by simp) _
  have h01 : W1.heap[w.heap.size]? = some (.cells #[.slice aa A.length ca, .int .i64 a] 29 (0, 0)) := by rw [hW1, Below.heap_alloc _ _ _ (by simp)]; exact World.alloc_heap_new w _
  have ho1 : OwnM W1 (w.heap.size + 1) none (.slice (some ⟨w.heap.size + 1, 0, none⟩) 0 0) [] := by
    have h := ownM_none (w.alloc (.cells #[.slice aa A.length ca, .int .i64 a] 29)) none (by simp)
    rw [hs0, ← hW1] at h
    exact h
  have hr1 : RdS W1 (fun g => g ≠ w.heap.size) (.slice aa A.length ca) A := hA.rdS.to hb1.size fun g hg _ => ⟨by omega, hb1.block g hg⟩
  have x0 := cellB (i := 0) h01
  have x1 := cellB (i := 1) h01
  have HX := hid hx
  have HX1 := hid (hx.keep hb1)
  have HB1 := hid hb1
  have H01 := hid h01
  have HO1 := hid ho1
  have HR1 := hid hr1
  have HW1 := hid hW1
  rw [hW1] at x0 x1
  have HVA := hid (fun (wx : World) (h1 : Rd wx (.slice ax xs.length cx) xs) (h2 : RdM wx (.slice aa A.length ca) A) => moveValidS_any (.slice ax xs.length cx) (.slice aa A.length ca) xs A a wx h1 h2)
  clear hx hA hb1 h01 ho1 hr1 hs0 hW1
  cases hva : moveB xs A a with
  | false =>
    have HE : Hid (splitV xs A a = none) := hid (by unfold splitV; rw [hva]; rfl)
    rw [hva] at HVA
    clear hva
    go_enter Try.func42, Try.ntmps42
    go_wp2_with fail
    refine (HVA.out _ (by rw [← HW1.out]; exact HX1.out) (by rw [← HW1.out]; exact HR1.out.rd)).mono ?_
    rintro e w2 ⟨rfl, hb2⟩
    rw [← HW1.out] at hb2
    have HB2 := hid (HB1.out.trans (hb2.mono HB1.out.size))
    have HO2 := hid (HO1.out.keep hb2)
    clear hb2
    go_wp2_with fail
    refine bodyPost_ret (v := .tuple #[.slice (some ⟨w.heap.size + 1, 0, none⟩) 0 0, .bool false]) (by simp [results, Try.results42, go_sem]) rfl ?_
    rw [HE.out]
    exact ⟨_, rfl, HO2.out.down (Nat.le_succ _), HB2.out⟩
  | true =>
    have hMA := moveB_iff.1 hva
    have HVT := hid hva
    rw [hva] at HVA
    have hn1 := (fvB_iff.1 hMA.form).2.1
    have hn3 := hMA.l3
    have hfv := hMA.form
    have HFV := hid hfv
    have HMA := hid hMA
    have HQ : Hid (∀ (ws : List Int) (wx : World) (vw : Value), Rd wx (.slice ax xs.length cx) xs → Rd wx vw ws → (∀ v ∈ ws, -2000000 ≤ v ∧ v ≤ 2000000) → ws.length = xs.length → Calls Try.prog 55 #[.slice ax xs.length cx, vw] wx fun e w' => e = .returned (.int .i64 (valI xs ws xs.length)) ∧ Below wx.heap.size wx w') := hid (fun ws wx vw h1 h2 h3 h4 => by
      refine (l4ValueW_any _ _ xs ws wx h1 h2 hfv h3 h4).mono ?_
      rintro e w' ⟨rfl, k, rfl⟩
      exact ⟨rfl, below_drewN (Below.refl _ _) k⟩)
    clear hva hMA hfv
    go_enter Try.func42, Try.ntmps42
    go_wp2_with fail
    refine (HVA.out _ (by rw [← HW1.out]; exact HX1.out) (by rw [← HW1.out]; exact HR1.out.rd)).mono ?_
    rintro e w2 ⟨rfl, hb2⟩
    rw [← HW1.out] at hb2
    have HB2 := hid (HB1.out.trans (hb2.mono HB1.out.size))
    have HO2 := hid (HO1.out.keep hb2)
    have HR2 := hid (HR1.out.keep hb2)
    have H02 := hid ((hb2.block _ (Array.getElem?_eq_some_iff.1 H01.out).1).trans H01.out)
    clear hb2 x0 x1
    go_wp2_with fail
    go_loopw [6, 7, 8, 9, 10, 11, 12, 13, 14, 15, 16, 17] (fun so si se su st sl sk sw sm sq sn sf wr => ∃ (i : Nat) (u : Value) (R : List (List Int)) (d : Int) (L : List (List Int)), si = .int .i64 i ∧ i ≤ xs.length ∧ Hid (splitN xs (A, a, []) i = some (R, d, L)) ∧ Hid (MoveOk xs R d) ∧ Hid (OwnM wr (w.heap.size + 1) none so L) ∧ Hid (RdS wr (fun g => g ≠ w.heap.size) u R) ∧ Hid (wr.heap[w.heap.size]? = some (.cells #[u, .int .i64 d] 29 (0, 0))) ∧ Hid (L.length ≤ 2 * i) ∧ Hid (Below w.heap.size w wr)) (fun _ si _ _ _ _ _ _ _ _ _ _ _ => xs.length - (intOf si).toNat)
    case atStart => exact ⟨0, _, _, _, _, rfl, by omega, hid rfl, HMA, HO2, HR2, H02, hid (Nat.le_refl _), HB2⟩
    case round =>
      obtain ⟨i, u, R, d, L, rfl, hi, HN, HOK, HO, HRS, HBX, HLN, HBW⟩ := hrel
      rename World => wr
      clear HO1 HR1 H01 HX1 HB1 HO2 HR2 H02 HB2 HW1 HVA
      by_cases hlt : i < xs.length
      · skip
        have hlti : (i : Int) < (xs.length : Int) := by omega
        have HLT := hid hlt
        obtain ⟨ua, uc, rfl⟩ := HRS.out.rd.form
        have hbl := (Array.getElem?_eq_some_iff.1 HBX.out).1
        have HBL := hid hbl
        -- e
        have hz := zero_row xs.length (by omega) wr
        have hc : (wr.alloc (.cells (madeCells #[.int .i64 0] xs.length) 3)).cell? ⟨wr.heap.size, i, none⟩ = some (.int .i64 ((List.replicate xs.length (0 : Int)).getD i 0)) := hz.elem (by rw [List.length_replicate]; exact hlt)
        have hf := hz.thaw i
        obtain ⟨hst, _⟩ := hz.storeAt i 1
        rw [unit_row hlt, un_row] at hst
        rw [World.setCell_alloc_new] at hst
        obtain ⟨We, hWe⟩ : ∃ We, We = wr.alloc (.cells ((madeCells #[.int .i64 0] xs.length).setIfInBounds i (.int .i64 1)) 3) := ⟨_, rfl⟩
        rw [← hWe] at hst
        have hbe : Below wr.heap.size wr We := by rw [hWe]; exact (Below.refl _ _).alloc (Nat.le_refl _) _
        have HE := hid hst
        have HBE := hid hbe
        have hob := (hbe.block _ hbl).trans HBX.out
        have HOBE := hid hob
        have cp0 := cellB (i := 0) hob
        have cp1 := cellB (i := 1) hob
        rw [hWe] at cp0 cp1
        have HWE := hid hWe
        have HSQ := hid HOK.out.sq
        have HABD := hid HOK.out.at_bd
        have HON : Hid (∀ (wx : World) (vv : Value), RdM wx (.slice ua R.length uc) R → Rd wx vv (unL xs.length i) → Calls Try.prog 68 #[.agg #[.slice ua R.length uc, .int .i64 d], vv] wx fun e w' => ∃ u, e = .returned u ∧ Owns w' wx.heap.size u (rowL xs.length (fun r => at2 R r i)) ∧ Below wx.heap.size wx w') := hid (fun wx vv h1 h2 => by
          have h := l7On_any (.slice ua R.length uc) vv R d (unL xs.length i) wx h1 h2 (by rw [un_len]; exact HSQ.out) (by rw [un_len]; exact hn1) (by rw [un_len]; exact hn3) HABD.out (fun j => fF_bd (m := 1000) (by omega) (fun v hv => by
            unfold unL at hv
            obtain ⟨j, _, rfl⟩ := List.mem_map.1 hv
            unfold unF
            split <;> omega) j)
          rw [un_len, on_unit _ HLT.out] at h
          exact h)
        have HRSE := hid (HRS.out.keep hbe)
        clear hz hst hbe hob hlt hi hWe hbl
        go_wp2_with (at_make; refine wpList_make_row _ rfl _ _ 22 rfl 3 i0 (.int .i64 0) Try.underlying22 hi0 hz0 hz1 rfl .i64 .i64 xs.length rfl rfl (by rw [hz2]; omega) (by omega) ?_)
        rw [← HWE.out]
        refine (HON.out _ _ HRSE.out.rd HE.out.rd).mono ?_
        rintro e w3 ⟨u9, rfl, ho9, hb9⟩
        clear hc hf cp0 cp1
        -- times
        have hb3 := HBE.out.trans (hb9.mono HBE.out.size)
        have HE3 := hid (HE.out.keep HE.out.lt hb9)
        have hz := zero_row xs.length (by omega) w3
        have hc : (w3.alloc (.cells (madeCells #[.int .i64 0] xs.length) 3)).cell? ⟨w3.heap.size, i, none⟩ = some (.int .i64 ((List.replicate xs.length (0 : Int)).getD i 0)) := hz.elem (by rw [List.length_replicate]; exact HLT.out)
        have hf := hz.thaw i
        obtain ⟨hst, _⟩ := hz.storeAt i d
        rw [unit_row HLT.out] at hst
        rw [World.setCell_alloc_new] at hst
        obtain ⟨Wt, hWt⟩ : ∃ Wt, Wt = w3.alloc (.cells ((madeCells #[.int .i64 0] xs.length).setIfInBounds i (.int .i64 d)) 3) := ⟨_, rfl⟩
        rw [← hWt] at hst
        have hbt : Below w3.heap.size w3 Wt := by rw [hWt]; exact (Below.refl _ _).alloc (Nat.le_refl _) _
        have ob3 := (hb3.block _ HBL.out).trans HBX.out
        have hl3 := (Array.getElem?_eq_some_iff.1 ob3).1
        have cp1 := cellB (i := 1) ((Below.heap_alloc w3 (.cells (madeCells #[.int .i64 0] xs.length) 3) _ hl3).trans ob3)
        have hbT := hb3.trans (hbt.mono hb3.size)
        have HBT := hid hbT
        have HET := hid (HE3.out.keep HE3.out.lt hbt)
        have HCT := hid (ho9.keep ho9.lt hbt)
        have HTT := hid hst
        have HWT := hid hWt
        obtain ⟨a9, c9, rfl⟩ := ho9.reads
        rw [row_len] at HCT ⊢
        have hbw3 := hb3.size
        have HS3 := hid hbw3
        clear hz hst hbt ob3 hl3 hb3 hb9 ho9 hWt hbT hbw3
        have HTL : Hid ((rowL xs.length (fun k => if k = i then d else 0)).length = xs.length) := hid (row_len _ _)
        obtain ⟨hd1, hd2⟩ := HOK.out.den
        have HMIX : Hid (∀ (wx : World) (c e : Int) (vu vt : Value), (c = 1 ∨ c = -1) → e = -c → Rd wx vu (rowL xs.length (fun r => at2 R r i)) → Rd wx vt (rowL xs.length (fun k => if k = i then d else 0)) → Calls Try.prog 75 #[vu, vt, .int .i64 e] wx fun en w' => ∃ u, en = .returned u ∧ Owns w' wx.heap.size u (mixL xs.length R d c i) ∧ Below wx.heap.size wx w') := hid (fun wx c e vu vt hc he h1 h2 => by
          have h := l7Mix_any vu vt (rowL xs.length (fun r => at2 R r i)) (rowL xs.length (fun k => if k = i then d else 0)) e wx h1 h2 (by rw [row_len, row_len]) (by rw [row_len]; exact hn1) (by rw [row_len]; exact hn3) (by omega) (fun j => fF_bd (m := 1000000000000) (by omega) (fun v hv => by
            unfold rowL at hv
            obtain ⟨j, _, rfl⟩ := List.mem_map.1 hv
            have := HABD.out j i
            omega) j) (fun j => fF_bd (m := 1000000000000) (by omega) (fun v hv => by
            unfold rowL at hv
            obtain ⟨j, _, rfl⟩ := List.mem_map.1 hv
            split <;> omega) j)
          rw [mix_sum he HTL.out] at h
          exact h)
        go_wp2_with (at_make; refine wpList_make_row _ rfl _ _ 22 rfl 3 i0 (.int .i64 0) Try.underlying22 hi0 hz0 hz1 rfl .i64 .i64 xs.length rfl rfl (by rw [hz2]; omega) (by omega) ?_)
        rw [← HWT.out]
        refine (HMIX.out _ 1 (-1) _ _ (.inl rfl) (by decide) HCT.out.rd HTT.out.rd).mono ?_
        rintro e w5 ⟨u5, rfl, ho5, hb5⟩
        clear hc hf cp1
        have HB5 := hid (HBT.out.trans (hb5.mono HBT.out.size))
        have HE5 := hid (HET.out.keep HET.out.lt hb5)
        have HC5 := hid (HCT.out.keep HCT.out.lt hb5)
        have HT5 := hid (HTT.out.keep HTT.out.lt hb5)
        have HSW := hid (Nat.le_trans HBT.out.size hb5.size : wr.heap.size ≤ w5.heap.size)
        have HM5 := hid (ho5.down (B := wr.heap.size) HBT.out.size)
        have HMB := hid (mix_bd (i := i) HOK.out (c := 1) (.inl rfl))
        have HMB2 := hid (mix_bd (i := i) HOK.out (c := -1) (.inr rfl))
        have HML : Hid ((mixL xs.length R d 1 i).length = xs.length) := hid (row_len _ _)
        have HML2 : Hid ((mixL xs.length R d (-1) i).length = xs.length) := hid (row_len _ _)
        have HMBK := hid (mix_back HOK.out HLT.out)
        have HSK := hid (split_skip (xs := xs) (st := (R, d, L)) (i := i))
        have HS1 := hid (split_one (xs := xs) (st := (R, d, L)) (i := i))
        have HS2 := hid (split_two (xs := xs) (st := (R, d, L)) (i := i))
        obtain ⟨X, hX⟩ : ∃ X, X = mixL xs.length R d 1 i := ⟨_, rfl⟩
        obtain ⟨Y, hY⟩ : ∃ Y, Y = mixL xs.length R d (-1) i := ⟨_, rfl⟩
        have HMX2 := hid (fun (wx : World) (vu vt : Value) h1 h2 => HMIX.out wx (-1) 1 vu vt (.inr rfl) (by decide) h1 h2)
        simp only [← hX, ← hY] at HMB HMB2 HML HML2 HMBK HSK HS1 HS2 HMX2 HM5 ho5
        have HL1 := hid (ownM_lit1 HM5.out HSW.out)
        obtain ⟨a5, c5, rfl⟩ := ho5.reads
        obtain ⟨w6, hw6⟩ : ∃ w6, w6 = w5.alloc (.cells #[.slice a5 X.length c5] 22) := ⟨_, rfl⟩
        have hb6 : Below w5.heap.size w5 w6 := by rw [hw6]; exact (Below.refl _ _).alloc (Nat.le_refl _) _
        have cl0 := cellB (i := 0) (heap_alloc_new w5 (.cells #[.slice a5 X.length c5] 22))
        rw [← hw6] at cl0 HL1
        have HB6 := hid (HB5.out.trans (hb6.mono HB5.out.size))
        have HE6 := hid (HE5.out.keep HE5.out.lt hb6)
        have HC6 := hid (HC5.out.keep HC5.out.lt hb6)
        have HT6 := hid (HT5.out.keep HT5.out.lt hb6)
        have HM6 := hid (HM5.out.keep HM5.out.lt hb6)
        have HW6 := hid hw6
        clear ho5 hb5 hb6 hw6 hX hY HMIX HON
        cases hsm : someB X with
        | false =>
          have HSO := hid hsm
          have HNX := hid (split_go HN.out (HSK.out hsm))
          clear hsm
          go_wp2_with fail
          rw [← HW6.out]
          go_wp2_with (go_at_call 76; refine (l5Some_any _ X _ HM6.out.rd (by rw [HML.out]; omega)).mono ?_; rw [HSO.out]; rintro e w' ⟨rfl, rfl⟩)
          go_roundw
          case measure => simp only [intOf]; have := HLT.out; omega
          case rel => exact ⟨i + 1, _, R, d, L, by go_num, by have := HLT.out; omega, HNX, HOK, hid (HO.out.keep HB6.out), hid (HRS.out.keep HB6.out), hid ((HB6.out.block _ HBL.out).trans HBX.out), hid (by have := HLN.out; omega), hid (HBW.out.trans (HB6.out.mono HBW.out.size))⟩
        | true =>
          have HSO := hid hsm
          have HSX := hid (someB_iff.1 hsm)
          obtain ⟨dv, hdv⟩ : ∃ dv, dv = valI xs X xs.length := ⟨_, rfl⟩
          have HQD : Hid (∀ (wx : World) (vw : Value), Rd wx (.slice ax xs.length cx) xs → Rd wx vw X → Calls Try.prog 55 #[.slice ax xs.length cx, vw] wx fun e w' => e = .returned (.int .i64 dv) ∧ Below wx.heap.size wx w') := hid (fun wx vw h1 h2 => by rw [hdv]; exact HQ.out X wx vw h1 h2 HMB.out HML.out)
          have HX6 := hid (HX.out.keep (HBW.out.trans (HB6.out.mono HBW.out.size)))
          replace HS1 := hid (HS1.out hsm)
          replace HS2 := hid (HS2.out hsm)
          rw [← hdv] at HS1 HS2 HMBK
          clear hsm hdv
          by_cases hd0 : dv = 0
          · skip
            replace HS2 := hid (HS2.out hd0)
            replace HMBK := hid (HMBK.out hd0)
            subst hd0
            go_wp2_with fail
            rw [← HW6.out]
            go_wp2_with (go_at_call 76; refine (l5Some_any _ X _ HM6.out.rd (by rw [HML.out]; omega)).mono ?_; rw [HSO.out]; rintro e w' ⟨rfl, rfl⟩)
            refine (HQD.out _ _ HX6.out HM6.out.rd).mono ?_
            rintro e w7 ⟨rfl, hb7⟩
            have HB7 := hid (HB6.out.trans (hb7.mono HB6.out.size))
            have HE7 := hid (HE6.out.keep HE6.out.lt hb7)
            have HC7 := hid (HC6.out.keep HC6.out.lt hb7)
            have HT7 := hid (HT6.out.keep HT6.out.lt hb7)
            clear hb7
            go_wp2_with fail
            refine (HMX2.out _ _ _ HC7.out.rd HT7.out.rd).mono ?_
            rintro e w8 ⟨u8, rfl, ho8, hb8⟩
            have HB8 := hid (HB7.out.trans (hb8.mono HB7.out.size))
            have HL2 := hid (ownM_lit2 (ho8.down (B := wr.heap.size) HB7.out.size) (HE7.out.keep HE7.out.lt hb8) (fun k e e2 => by have h1 := ho8.ge k e; have h2 := HE7.out.lt k e2; omega) HB8.out.size)
            obtain ⟨a8, c8, rfl⟩ := ho8.reads
            obtain ⟨w9, hw9⟩ : ∃ w9, w9 = w8.alloc (.cells #[.slice a8 Y.length c8, .slice (some ⟨wr.heap.size, 0, none⟩) xs.length xs.length] 22) := ⟨_, rfl⟩
            have HB9 := hid (show Below wr.heap.size wr w9 by rw [hw9]; exact HB8.out.alloc HB8.out.size _)
            rw [← hw9] at HL2
            have HW9 := hid hw9
            clear ho8 hb8 hw9
            obtain ⟨LS, hLS⟩ : ∃ LS, LS = [Y, unL xs.length i] := ⟨_, rfl⟩
            have HLP : Hid (∀ k, k < LS.length → (LS.getD k []).length ≤ 4 ∧ Vec11 (LS.getD k []) ∧ ∃ v ∈ LS.getD k [], v ≠ 0) := hid (by
              rw [hLS]
              intro k hk
              have hk2 : k = 0 ∨ k = 1 := by
                have : k < 2 := by simpa using hk
                omega
              rcases hk2 with rfl | rfl
              · exact ⟨by show Y.length ≤ 4; rw [HML2.out]; omega, fun v hv => by have := HMB2.out v hv; omega, HMBK.out⟩
              · refine ⟨by show (unL xs.length i).length ≤ 4; rw [un_len]; omega, fun v hv => ?_, un_some HLT.out⟩
                have hv : v ∈ unL xs.length i := hv
                unfold unL at hv
                obtain ⟨j, _, rfl⟩ := List.mem_map.1 hv
                unfold unF
                split <;> omega)
            have HLL : Hid (LS.length = 2) := hid (by rw [hLS]; rfl)
            have HLL2 : Hid (LS.length ≤ 2) := hid (by rw [HLL.out]; omega)
            rw [← hLS] at HL2 HS2
            have HSA := HS2
            have HLW := hid HL2.out.rdS
            have HBZ := HB9
            clear hLS
            go_wp2_with fail
            rw [← HW9.out]
            go_loopw [6, 12, 13, 14, 15, 16, 17] (fun so sk sw sm sq sn sf wk => ∃ (k : Nat) (u' : Value) (R' : List (List Int)) (d' : Int) (L' : List (List Int)), sk = .int .i64 k ∧ k ≤ LS.length ∧ Hid (putAll xs (R, d, L) (LS.take k) = some (R', d', L')) ∧ Hid (OwnM wk (w.heap.size + 1) none so L') ∧ Hid (RdS wk (fun g => g ≠ w.heap.size) u' R') ∧ Hid (wk.heap[w.heap.size]? = some (.cells #[u', .int .i64 d'] 29 (0, 0))) ∧ Hid (RdS wk (fun g => w.heap.size + 1 ≤ g ∧ so.ownBlock ≠ some g) (.slice (some ⟨w8.heap.size, 0, none⟩) 2 2) LS) ∧ Hid (L'.length ≤ 2 * i + k) ∧ Hid (Below w.heap.size w wk)) (fun _ sk _ _ _ _ _ _ => LS.length - (intOf sk).toNat)
            case atStart => exact ⟨0, _, R, d, L, rfl, by omega, hid rfl, hid (HO.out.keep HBZ.out), hid (HRS.out.keep HBZ.out), hid ((HBZ.out.block _ HBL.out).trans HBX.out), hid (by
              have h := HLW.out
              refine RdS.to h (Nat.le_refl _) fun g hg hS => ⟨⟨?_, fun e => ?_⟩, rfl⟩
              · have := HBL.out; have := hS.1; omega
              · have := (HO.out.lt g e).2.1; have := hS.1; omega), hid (by have := HLN.out; omega), hid (HBW.out.trans (HBZ.out.mono HBW.out.size))⟩
            case round =>
              obtain ⟨k, u', R', d', L', rfl, hk, HP, HOL, HRP, HBP, HLS, HLN2, HBK⟩ := hrel
              rename World => wk
              skip
              by_cases hkl : k < LS.length
              · skip
                have hkli : (k : Int) < 2 := by have := HLL.out; omega
                have HKL := hid hkl
                obtain ⟨ub, uc', rfl⟩ := HRP.out.rd.form
                obtain ⟨sa, sc, rfl⟩ := HOL.out.rd.form
                have hbl2 := (Array.getElem?_eq_some_iff.1 HBP.out).1
                have HBL2 := hid hbl2
                obtain ⟨b, o, ul, he, hcu, hru⟩ := HLS.out.rd.row hkl
                simp only [Option.some.injEq, Addr.mk.injEq, and_true] at he
                obtain ⟨rfl, rfl⟩ := he
                rw [Nat.zero_add] at hcu
                obtain ⟨h1, h2, h3⟩ := HLP.out k hkl
                have HPL := hid (fun (wx : World) (vv : Value) (h : Rd wx vv (LS.getD k [])) => l5PlainW_any vv (LS.getD k []) wx h h1 h2 h3)
                have HFAIL := hid (fun (h : splitPut xs (R', d', L') (plainL (LS.getD k [])) = none) => split_fail HN.out HSA.out HP.out h hkl HLT.out)
                have HNEXT := hid (fun (s : SplitSt) (h : splitPut xs (R', d', L') (plainL (LS.getD k [])) = some s) => (show putAll xs (R, d, L) (LS.take (k + 1)) = some s by rw [putAll_next hkl, HP.out]; exact h))
                obtain ⟨li, hli⟩ : ∃ li, li = LS.getD k [] := ⟨_, rfl⟩
                obtain ⟨pl, hpl⟩ : ∃ pl, pl = plainL (LS.getD k []) := ⟨_, rfl⟩
                rw [← hpl] at HPL HFAIL HNEXT
                rw [← hli] at HPL hru
                have HRU := hid hru
                obtain ⟨al, cl, rfl, _⟩ := hru.form
                have HXK := hid (HX.out.keep HBK.out)
                have HLEN := hid (show L'.length ≤ 100 by have := HLN2.out; have := HLL2.out; omega)
                clear hkl hk h1 h2 h3 hli hpl hru hbl2
                go_wp2_with fail
                refine (HPL.out _ _ HRU.out).mono ?_
                rintro e wa ⟨u13, rfl, ho13, hba⟩
                obtain ⟨a13, c13, rfl⟩ := ho13.reads
                have HBA := hid hba
                have HPA := hid ho13
                have HXA := hid (HXK.out.keep hba)
                clear ho13 hba
                have HMC := hid (fun (wx : World) (h1 : Rd wx (.slice ax xs.length cx) xs) (h2 : Rd wx (.slice a13 pl.length c13) pl) => moveMirrorS_any _ _ xs pl wx h1 h2)
                cases hm : mirV xs pl with
                | none =>
                  have HEN := hid (HFAIL.out (put_no hm))
                  have HMC2 : Hid (∀ wx : World, Rd wx (.slice ax xs.length cx) xs → Rd wx (.slice a13 pl.length c13) pl → Calls Try.prog 25 #[.slice ax xs.length cx, .slice a13 pl.length c13] wx fun e w' => ∃ u, e = .returned (.tuple #[.agg #[u, .int .i64 0], .bool false]) ∧ OwnM w' wx.heap.size none u [] ∧ Below wx.heap.size wx w') := hid (fun wx h1 h2 => by
                    have h := HMC.out wx h1 h2
                    unfold MovePost at h
                    rw [hm] at h
                    exact h)
                  clear hm HMC
                  go_wp2_with fail
                  refine (HMC2.out _ HXA.out HPA.out.rd).mono ?_
                  rintro e wb ⟨ub3, rfl, hob, hbb⟩
                  obtain ⟨ua3, uc3, rfl⟩ := hob.rd.form
                  have HBB := hid ((HBK.out.trans (HBA.out.mono HBK.out.size)).trans (hbb.mono (HBK.out.trans (HBA.out.mono HBK.out.size)).size))
                  clear hob hbb
                  go_wp2_with fail
                  refine bodyPost_ret (v := .tuple #[.slice (some ⟨wb.heap.size + 1, 0, none⟩) 0 0, .bool false]) (by simp [results, Try.results42, go_sem]) rfl ?_
                  rw [HEN.out]
                  exact listPost_nil2 (HBB.out.alloc HBB.out.size _) (by simp)
                | some Mm =>
                  obtain ⟨M, m⟩ := Mm
                  have HPI := hid (put_is (R := R') (d := d') (L := L') hm)
                  have HMC2 : Hid (∀ wx : World, Rd wx (.slice ax xs.length cx) xs → Rd wx (.slice a13 pl.length c13) pl → Calls Try.prog 25 #[.slice ax xs.length cx, .slice a13 pl.length c13] wx fun e w' => ∃ u, e = .returned (.tuple #[.agg #[u, .int .i64 m], .bool true]) ∧ OwnM w' wx.heap.size none u M ∧ Below wx.heap.size wx w') := hid (fun wx h1 h2 => by
                    have h := HMC.out wx h1 h2
                    unfold MovePost at h
                    rw [hm] at h
                    exact h)
                  clear hm HMC
                  go_wp2_with fail
                  refine (HMC2.out _ HXA.out HPA.out.rd).mono ?_
                  rintro e wb ⟨ub3, rfl, hob, hbb⟩
                  obtain ⟨ua3, uc3, rfl⟩ := hob.rd.form
                  have hb4 := hbb.alloc hbb.size (.cells #[.slice ua3 M.length uc3, .int .i64 m] 29)
                  have HO4 := hid (hob.keep ((Below.refl _ _).alloc (Nat.le_refl _) (.cells #[.slice ua3 M.length uc3, .int .i64 m] 29)))
                  have HB4 := hid (HBA.out.trans (hb4.mono HBA.out.size))
                  have HX4 := hid (HXA.out.keep hb4)
                  have HP4 := hid (HPA.out.keep HPA.out.lt hb4)
                  have HR4 := hid (HRP.out.keep HB4.out)
                  have hob4 := (HB4.out.block _ HBL2.out).trans HBP.out
                  have HOB4 := hid hob4
                  have p0 := cellB (i := 0) hob4
                  have p1 := cellB (i := 1) hob4
                  have HW4 := hid (HBK.out.trans (HB4.out.mono HBK.out.size))
                  have HMLC := hid (fun (h1 : Rd (wb.alloc (.cells #[.slice ua3 M.length uc3, .int .i64 m] 29)) (.slice ax xs.length cx) xs) (h2 : RdM (wb.alloc (.cells #[.slice ua3 M.length uc3, .int .i64 m] 29)) (.slice ua3 M.length uc3) M) (h3 : RdM (wb.alloc (.cells #[.slice ua3 M.length uc3, .int .i64 m] 29)) (.slice ub R'.length uc') R') => moveMulS_any _ _ _ xs M R' m d' _ h1 h2 h3)
                  unfold MovePost at HMLC
                  clear hob hbb hb4 hob4
                  cases hml : mulV xs M m R' d' with
                  | none =>
                    have HEN := hid (HFAIL.out (by rw [HPI.out, hml]; rfl))
                    rw [hml] at HMLC
                    clear hml
                    go_wp2_with fail
                    refine (HMLC.out HX4.out HO4.out.rd HR4.out.rd).mono ?_
                    rintro e w5' ⟨u5', rfl, ho5, hb5⟩
                    have hb5 : Below (wb.alloc (.cells #[.slice ua3 M.length uc3, .int .i64 m] 29)).heap.size (wb.alloc (.cells #[.slice ua3 M.length uc3, .int .i64 m] 29)) w5' := hb5
                    obtain ⟨ua5, uc5, rfl⟩ := ho5.rd.form
                    have HB5' := hid (HW4.out.trans (hb5.mono HW4.out.size))
                    clear ho5 hb5
                    go_wp2_with fail
                    refine bodyPost_ret (v := .tuple #[.slice (some ⟨w5'.heap.size + 1, 0, none⟩) 0 0, .bool false]) (by simp [results, Try.results42, go_sem]) rfl ?_
                    rw [HEN.out]
                    exact listPost_nil2 (HB5'.out.alloc HB5'.out.size _) (by simp)
                  | some Nn =>
                    obtain ⟨R5, d5⟩ := Nn
                    have HNX := hid (HNEXT.out (R5, d5, L' ++ [pl]) (by rw [HPI.out, hml]; rfl))
                    rw [hml] at HMLC
                    clear hml
                    go_wp2_with fail
                    refine (HMLC.out HX4.out HO4.out.rd HR4.out.rd).mono ?_
                    rintro e w5' ⟨u5', rfl, ho5, hb5⟩
                    have ho5 : OwnM w5' (wb.alloc (.cells #[.slice ua3 M.length uc3, .int .i64 m] 29)).heap.size none u5' R5 := ho5
                    have hb5 : Below (wb.alloc (.cells #[.slice ua3 M.length uc3, .int .i64 m] 29)).heap.size (wb.alloc (.cells #[.slice ua3 M.length uc3, .int .i64 m] 29)) w5' := hb5
                    obtain ⟨ua5, uc5, rfl⟩ := ho5.rd.form
                    obtain ⟨we, hwe⟩ : ∃ we, we = w5'.alloc (.cells #[.slice ua5 R5.length uc5, .int .i64 d5] 29) := ⟨_, rfl⟩
                    have hbe1 : Below w5'.heap.size w5' we := by rw [hwe]; exact (Below.refl _ _).alloc (Nat.le_refl _) _
                    have hbe2 := HB4.out.trans ((hb5.mono HB4.out.size).trans (hbe1.mono (Nat.le_trans HB4.out.size hb5.size)))
                    have HBE2 := hid hbe2
                    have HOE := hid (ho5.keep hbe1)
                    have HPE := hid ((HP4.out.keep HP4.out.lt hb5).keep (HP4.out.keep HP4.out.lt hb5).lt hbe1)
                    have hobe := (hbe2.block _ HBL2.out).trans HBP.out
                    have HOBE2 := hid hobe
                    have HWEB := hid (HBK.out.trans (hbe2.mono HBK.out.size))
                    have hske := hbe2.size
                    obtain ⟨vals, SN⟩ := ownM_snoc2 (W := (we.setCell ⟨w.heap.size, 0, none⟩ (.slice ua5 R5.length uc5)).setCell ⟨w.heap.size, 1, none⟩ (.int .i64 d5)) (zv := .slice a13 pl.length c13) (zs := pl) HOL.out (fun g h1 h2 => by
                      rw [Below.heap_setCell _ _ _ g (by show g ≠ w.heap.size; omega), Below.heap_setCell _ _ _ g (by show g ≠ w.heap.size; omega)]
                      exact hbe2.block g h2) (by simpa using hske) (by have := HBL2.out; omega) (HPE.out.at_block fun g e => by
                      have := HPE.out.ge g e
                      have := HBL2.out
                      rw [Below.heap_setCell _ _ _ g (by show g ≠ w.heap.size; omega), Below.heap_setCell _ _ _ g (by show g ≠ w.heap.size; omega)]) (fun k e => by cases e)
                    have HSN := hid SN
                    have hrow := SN.row
                    rw [hwe] at hrow
                    have HROW := hid hrow
                    clear hrow
                    have HSW4 := hid HB4.out.size
                    have HSB5 := hid hb5.size
                    have hbe0 : w.heap.size + 1 ≤ we.heap.size := by have := HBL2.out; omega
                    rw [hwe] at hobe hbe0
                    have x0 := cellB (i := 0) hobe
                    have x1 := cellB (i := 1) hobe
                    have y0 := frozenB (i := 0) hobe
                    have y1 := frozenB (i := 1) hobe
                    have hbe0' : w.heap.size ≤ w5'.heap.size := by simp at hbe0; omega
                    have HWE2 := hid hwe
                    have hll := HLEN.out
                    clear SN ho5 hb5 hbe1 hbe2 hobe hwe p0 p1 hske
                    go_wp2_with (at_builtin; refine wpList_append_own_at _ rfl _ _ 23 rfl (w.heap.size + 1) 22 i1 (.slice none 0 0) 1 24 Try.underlying23 hi1 hy0 hy1 hy2 rfl (by decide) _ _ _ rfl ((show World.ownsRow (((w5'.alloc (.cells #[.slice ua5 R5.length uc5, .int .i64 d5] 29)).setCell ⟨w.heap.size, 0, none⟩ (.slice ua5 R5.length uc5)).setCell ⟨w.heap.size, 1, none⟩ (.int .i64 d5)) _ _ _ _ _ _ from HROW.out).alloc _) ⟨w5'.heap.size + 1, 0, none⟩ 1 1 [.slice a13 pl.length c13] rfl rfl (by have h := cell_one_new (((w5'.alloc (.cells #[.slice ua5 R5.length uc5, .int .i64 d5] 29)).setCell ⟨w.heap.size, 0, none⟩ (.slice ua5 R5.length uc5)).setCell ⟨w.heap.size, 1, none⟩ (.int .i64 d5)) (.slice a13 pl.length c13) 22; simp at h; exact h) (by simp [Value.oneCell']) (by unfold maxLen; omega) (by omega) (by simp; omega) ?_; intro v' wg hown' hgrow _ hat; rw [← HWE2.out] at hgrow hat; have hsn := HSN.out.fin _ _ _ hown' hgrow hat; have HSG := hid hgrow; have HSN3 := hid hsn; have HAT := hid hat; clear hown' hat hsn hgrow)
                    have HSS := hid (split_step HOBE2.out HSG.out (fun e => by have := (HOL.out.lt _ e).1; omega))
                    go_roundw
                    case measure => simp only [intOf]; have := HKL.out; omega
                    case rel =>
                      obtain ⟨s1, s2, s3⟩ := HSS.out
                      have hl2 := HBL2.out
                      have hske := HBE2.out.size
                      have hsw4 := HSW4.out
                      have hsb5 := HSB5.out
                      refine ⟨k + 1, _, R5, d5, L' ++ [pl], by go_num, by have := HKL.out; omega, HNX, HSN3, hid ?_, hid s3, hid ?_, hid ?_, hid ?_⟩
                      · refine HOE.out.rdS.to s1 fun g hg hS => ⟨by have := hS.1; omega, s2 g hg (by have := hS.1; omega) fun e => ?_⟩
                        have := (HOL.out.lt g e).2.1
                        have := hS.1
                        omega
                      · refine HLS.out.to (by omega) fun g hg hS => ⟨⟨hS.1, fun e => ?_⟩, ?_⟩
                        · rcases HAT.out with h | h
                          · rw [h] at e; exact hS.2 e
                          · rw [h] at e
                            have := Option.some.inj e
                            simp at this
                            omega
                        · rw [s2 g (by omega) (by have := hS.1; omega) hS.2]
                          exact HBE2.out.block g hg
                      · rw [List.length_append]
                        have := HLN2.out
                        simp
                        omega
                      · exact (((HWEB.out.setCell (Nat.le_refl _) _).setCell (Nat.le_refl _) _).alloc (by simp; omega) _).grown HSG.out (by simp; omega) (fun k e => by have := (HOL.out.lt k e).1; omega)
              · have hke : k = LS.length := by omega
                have HPF := HP.out
                rw [List.take_of_length_le (by omega)] at HPF
                have HNX := hid (split_go HN.out (HSA.out.trans HPF))
                have HOK2 := hid (putAll_ok (st := (R, d, L)) HOK.out k (by omega) _ HP.out)
                have hge : ¬ (k : Int) < 2 := by have := HLL.out; omega
                have HLN3 := hid (show L'.length ≤ 2 * (i + 1) by have := HLN2.out; have := HLL2.out; omega)
                clear hkl hke HPF hk
                go_wp2_with fail
                go_roundw
                case measure => simp only [intOf]; have := HLT.out; omega
                case rel => exact ⟨i + 1, _, R', d', L', by go_num, by have := HLT.out; omega, HNX, HOK2, HOL, HRP, HBP, HLN3, HBK⟩
          · skip
            replace HS1 := hid (HS1.out hd0)
            have D0 : (dv == 0) = false := by rw [beq_eq_false_iff_ne]; exact hd0
            clear hd0
            go_wp2_with fail
            rw [← HW6.out]
            go_wp2_with (go_at_call 76; refine (l5Some_any _ X _ HM6.out.rd (by rw [HML.out]; omega)).mono ?_; rw [HSO.out]; rintro e w' ⟨rfl, rfl⟩)
            refine (HQD.out _ _ HX6.out HM6.out.rd).mono ?_
            rintro e w7 ⟨rfl, hb7⟩
            have HB7 := hid (HB6.out.trans (hb7.mono HB6.out.size))
            have HL2 := hid (HL1.out.keep hb7)
            clear hb7
            obtain ⟨LS, hLS⟩ : ∃ LS, LS = [X] := ⟨_, rfl⟩
            have HLP : Hid (∀ k, k < LS.length → (LS.getD k []).length ≤ 4 ∧ Vec11 (LS.getD k []) ∧ ∃ v ∈ LS.getD k [], v ≠ 0) := hid (by
              rw [hLS]
              intro k hk
              have hk2 : k = 0 := by simpa using hk
              subst hk2
              exact ⟨by show X.length ≤ 4; rw [HML.out]; omega, fun v hv => by have := HMB.out v hv; omega, HSX.out⟩)
            have HLL : Hid (LS.length = 1) := hid (by rw [hLS]; rfl)
            have HLL2 : Hid (LS.length ≤ 2) := hid (by rw [HLL.out]; omega)
            rw [← hLS] at HL2 HS1
            have HSA := HS1
            have HLW := hid HL2.out.rdS
            have HBZ := HB7
            clear hLS
            go_wp2_with fail
            go_loopw [6, 12, 13, 14, 15, 16, 17] (fun so sk sw sm sq sn sf wk => ∃ (k : Nat) (u' : Value) (R' : List (List Int)) (d' : Int) (L' : List (List Int)), sk = .int .i64 k ∧ k ≤ LS.length ∧ Hid (putAll xs (R, d, L) (LS.take k) = some (R', d', L')) ∧ Hid (OwnM wk (w.heap.size + 1) none so L') ∧ Hid (RdS wk (fun g => g ≠ w.heap.size) u' R') ∧ Hid (wk.heap[w.heap.size]? = some (.cells #[u', .int .i64 d'] 29 (0, 0))) ∧ Hid (RdS wk (fun g => w.heap.size + 1 ≤ g ∧ so.ownBlock ≠ some g) (.slice (some ⟨w5.heap.size, 0, none⟩) 1 1) LS) ∧ Hid (L'.length ≤ 2 * i + k) ∧ Hid (Below w.heap.size w wk)) (fun _ sk _ _ _ _ _ _ => LS.length - (intOf sk).toNat)
            case atStart => exact ⟨0, _, R, d, L, rfl, by omega, hid rfl, hid (HO.out.keep HBZ.out), hid (HRS.out.keep HBZ.out), hid ((HBZ.out.block _ HBL.out).trans HBX.out), hid (by
              have h := HLW.out
              refine RdS.to h (Nat.le_refl _) fun g hg hS => ⟨⟨?_, fun e => ?_⟩, rfl⟩
              · have := HBL.out; have := hS.1; omega
              · have := (HO.out.lt g e).2.1; have := hS.1; omega), hid (by have := HLN.out; omega), hid (HBW.out.trans (HBZ.out.mono HBW.out.size))⟩
            case round =>
              obtain ⟨k, u', R', d', L', rfl, hk, HP, HOL, HRP, HBP, HLS, HLN2, HBK⟩ := hrel
              rename World => wk
              skip
              by_cases hkl : k < LS.length
              · skip
                have hkli : (k : Int) < 1 := by have := HLL.out; omega
                have HKL := hid hkl
                obtain ⟨ub, uc', rfl⟩ := HRP.out.rd.form
                obtain ⟨sa, sc, rfl⟩ := HOL.out.rd.form
                have hbl2 := (Array.getElem?_eq_some_iff.1 HBP.out).1
                have HBL2 := hid hbl2
                obtain ⟨b, o, ul, he, hcu, hru⟩ := HLS.out.rd.row hkl
                simp only [Option.some.injEq, Addr.mk.injEq, and_true] at he
                obtain ⟨rfl, rfl⟩ := he
                rw [Nat.zero_add] at hcu
                obtain ⟨h1, h2, h3⟩ := HLP.out k hkl
                have HPL := hid (fun (wx : World) (vv : Value) (h : Rd wx vv (LS.getD k [])) => l5PlainW_any vv (LS.getD k []) wx h h1 h2 h3)
                have HFAIL := hid (fun (h : splitPut xs (R', d', L') (plainL (LS.getD k [])) = none) => split_fail HN.out HSA.out HP.out h hkl HLT.out)
                have HNEXT := hid (fun (s : SplitSt) (h : splitPut xs (R', d', L') (plainL (LS.getD k [])) = some s) => (show putAll xs (R, d, L) (LS.take (k + 1)) = some s by rw [putAll_next hkl, HP.out]; exact h))
                obtain ⟨li, hli⟩ : ∃ li, li = LS.getD k [] := ⟨_, rfl⟩
                obtain ⟨pl, hpl⟩ : ∃ pl, pl = plainL (LS.getD k []) := ⟨_, rfl⟩
                rw [← hpl] at HPL HFAIL HNEXT
                rw [← hli] at HPL hru
                have HRU := hid hru
                obtain ⟨al, cl, rfl, _⟩ := hru.form
                have HXK := hid (HX.out.keep HBK.out)
                have HLEN := hid (show L'.length ≤ 100 by have := HLN2.out; have := HLL2.out; omega)
                clear hkl hk h1 h2 h3 hli hpl hru hbl2
                go_wp2_with fail
                refine (HPL.out _ _ HRU.out).mono ?_
                rintro e wa ⟨u13, rfl, ho13, hba⟩
                obtain ⟨a13, c13, rfl⟩ := ho13.reads
                have HBA := hid hba
                have HPA := hid ho13
                have HXA := hid (HXK.out.keep hba)
                clear ho13 hba
                have HMC := hid (fun (wx : World) (h1 : Rd wx (.slice ax xs.length cx) xs) (h2 : Rd wx (.slice a13 pl.length c13) pl) => moveMirrorS_any _ _ xs pl wx h1 h2)
                cases hm : mirV xs pl with
                | none =>
                  have HEN := hid (HFAIL.out (put_no hm))
                  have HMC2 : Hid (∀ wx : World, Rd wx (.slice ax xs.length cx) xs → Rd wx (.slice a13 pl.length c13) pl → Calls Try.prog 25 #[.slice ax xs.length cx, .slice a13 pl.length c13] wx fun e w' => ∃ u, e = .returned (.tuple #[.agg #[u, .int .i64 0], .bool false]) ∧ OwnM w' wx.heap.size none u [] ∧ Below wx.heap.size wx w') := hid (fun wx h1 h2 => by
                    have h := HMC.out wx h1 h2
                    unfold MovePost at h
                    rw [hm] at h
                    exact h)
                  clear hm HMC
                  go_wp2_with fail
                  refine (HMC2.out _ HXA.out HPA.out.rd).mono ?_
                  rintro e wb ⟨ub3, rfl, hob, hbb⟩
                  obtain ⟨ua3, uc3, rfl⟩ := hob.rd.form
                  have HBB := hid ((HBK.out.trans (HBA.out.mono HBK.out.size)).trans (hbb.mono (HBK.out.trans (HBA.out.mono HBK.out.size)).size))
                  clear hob hbb
                  go_wp2_with fail
                  refine bodyPost_ret (v := .tuple #[.slice (some ⟨wb.heap.size + 1, 0, none⟩) 0 0, .bool false]) (by simp [results, Try.results42, go_sem]) rfl ?_
                  rw [HEN.out]
                  exact listPost_nil2 (HBB.out.alloc HBB.out.size _) (by simp)
                | some Mm =>
                  obtain ⟨M, m⟩ := Mm
                  have HPI := hid (put_is (R := R') (d := d') (L := L') hm)
                  have HMC2 : Hid (∀ wx : World, Rd wx (.slice ax xs.length cx) xs → Rd wx (.slice a13 pl.length c13) pl → Calls Try.prog 25 #[.slice ax xs.length cx, .slice a13 pl.length c13] wx fun e w' => ∃ u, e = .returned (.tuple #[.agg #[u, .int .i64 m], .bool true]) ∧ OwnM w' wx.heap.size none u M ∧ Below wx.heap.size wx w') := hid (fun wx h1 h2 => by
                    have h := HMC.out wx h1 h2
                    unfold MovePost at h
                    rw [hm] at h
                    exact h)
                  clear hm HMC
                  go_wp2_with fail
                  refine (HMC2.out _ HXA.out HPA.out.rd).mono ?_
                  rintro e wb ⟨ub3, rfl, hob, hbb⟩
                  obtain ⟨ua3, uc3, rfl⟩ := hob.rd.form
                  have hb4 := hbb.alloc hbb.size (.cells #[.slice ua3 M.length uc3, .int .i64 m] 29)
                  have HO4 := hid (hob.keep ((Below.refl _ _).alloc (Nat.le_refl _) (.cells #[.slice ua3 M.length uc3, .int .i64 m] 29)))
                  have HB4 := hid (HBA.out.trans (hb4.mono HBA.out.size))
                  have HX4 := hid (HXA.out.keep hb4)
                  have HP4 := hid (HPA.out.keep HPA.out.lt hb4)
                  have HR4 := hid (HRP.out.keep HB4.out)
                  have hob4 := (HB4.out.block _ HBL2.out).trans HBP.out
                  have HOB4 := hid hob4
                  have p0 := cellB (i := 0) hob4
                  have p1 := cellB (i := 1) hob4
                  have HW4 := hid (HBK.out.trans (HB4.out.mono HBK.out.size))
                  have HMLC := hid (fun (h1 : Rd (wb.alloc (.cells #[.slice ua3 M.length uc3, .int .i64 m] 29)) (.slice ax xs.length cx) xs) (h2 : RdM (wb.alloc (.cells #[.slice ua3 M.length uc3, .int .i64 m] 29)) (.slice ua3 M.length uc3) M) (h3 : RdM (wb.alloc (.cells #[.slice ua3 M.length uc3, .int .i64 m] 29)) (.slice ub R'.length uc') R') => moveMulS_any _ _ _ xs M R' m d' _ h1 h2 h3)
                  unfold MovePost at HMLC
                  clear hob hbb hb4 hob4
                  cases hml : mulV xs M m R' d' with
                  | none =>
                    have HEN := hid (HFAIL.out (by rw [HPI.out, hml]; rfl))
                    rw [hml] at HMLC
                    clear hml
                    go_wp2_with fail
                    refine (HMLC.out HX4.out HO4.out.rd HR4.out.rd).mono ?_
                    rintro e w5' ⟨u5', rfl, ho5, hb5⟩
                    have hb5 : Below (wb.alloc (.cells #[.slice ua3 M.length uc3, .int .i64 m] 29)).heap.size (wb.alloc (.cells #[.slice ua3 M.length uc3, .int .i64 m] 29)) w5' := hb5
                    obtain ⟨ua5, uc5, rfl⟩ := ho5.rd.form
                    have HB5' := hid (HW4.out.trans (hb5.mono HW4.out.size))
                    clear ho5 hb5
                    go_wp2_with fail
                    refine bodyPost_ret (v := .tuple #[.slice (some ⟨w5'.heap.size + 1, 0, none⟩) 0 0, .bool false]) (by simp [results, Try.results42, go_sem]) rfl ?_
                    rw [HEN.out]
                    exact listPost_nil2 (HB5'.out.alloc HB5'.out.size _) (by simp)
                  | some Nn =>
                    obtain ⟨R5, d5⟩ := Nn
                    have HNX := hid (HNEXT.out (R5, d5, L' ++ [pl]) (by rw [HPI.out, hml]; rfl))
                    rw [hml] at HMLC
                    clear hml
                    go_wp2_with fail
                    refine (HMLC.out HX4.out HO4.out.rd HR4.out.rd).mono ?_
                    rintro e w5' ⟨u5', rfl, ho5, hb5⟩
                    have ho5 : OwnM w5' (wb.alloc (.cells #[.slice ua3 M.length uc3, .int .i64 m] 29)).heap.size none u5' R5 := ho5
                    have hb5 : Below (wb.alloc (.cells #[.slice ua3 M.length uc3, .int .i64 m] 29)).heap.size (wb.alloc (.cells #[.slice ua3 M.length uc3, .int .i64 m] 29)) w5' := hb5
                    obtain ⟨ua5, uc5, rfl⟩ := ho5.rd.form
                    obtain ⟨we, hwe⟩ : ∃ we, we = w5'.alloc (.cells #[.slice ua5 R5.length uc5, .int .i64 d5] 29) := ⟨_, rfl⟩
                    have hbe1 : Below w5'.heap.size w5' we := by rw [hwe]; exact (Below.refl _ _).alloc (Nat.le_refl _) _
                    have hbe2 := HB4.out.trans ((hb5.mono HB4.out.size).trans (hbe1.mono (Nat.le_trans HB4.out.size hb5.size)))
                    have HBE2 := hid hbe2
                    have HOE := hid (ho5.keep hbe1)
                    have HPE := hid ((HP4.out.keep HP4.out.lt hb5).keep (HP4.out.keep HP4.out.lt hb5).lt hbe1)
                    have hobe := (hbe2.block _ HBL2.out).trans HBP.out
                    have HOBE2 := hid hobe
                    have HWEB := hid (HBK.out.trans (hbe2.mono HBK.out.size))
                    have hske := hbe2.size
                    obtain ⟨vals, SN⟩ := ownM_snoc2 (W := (we.setCell ⟨w.heap.size, 0, none⟩ (.slice ua5 R5.length uc5)).setCell ⟨w.heap.size, 1, none⟩ (.int .i64 d5)) (zv := .slice a13 pl.length c13) (zs := pl) HOL.out (fun g h1 h2 => by
                      rw [Below.heap_setCell _ _ _ g (by show g ≠ w.heap.size; omega), Below.heap_setCell _ _ _ g (by show g ≠ w.heap.size; omega)]
                      exact hbe2.block g h2) (by simpa using hske) (by have := HBL2.out; omega) (HPE.out.at_block fun g e => by
                      have := HPE.out.ge g e
                      have := HBL2.out
                      rw [Below.heap_setCell _ _ _ g (by show g ≠ w.heap.size; omega), Below.heap_setCell _ _ _ g (by show g ≠ w.heap.size; omega)]) (fun k e => by cases e)
                    have HSN := hid SN
                    have hrow := SN.row
                    rw [hwe] at hrow
                    have HROW := hid hrow
                    clear hrow
                    have HSW4 := hid HB4.out.size
                    have HSB5 := hid hb5.size
                    have hbe0 : w.heap.size + 1 ≤ we.heap.size := by have := HBL2.out; omega
                    rw [hwe] at hobe hbe0
                    have x0 := cellB (i := 0) hobe
                    have x1 := cellB (i := 1) hobe
                    have y0 := frozenB (i := 0) hobe
                    have y1 := frozenB (i := 1) hobe
                    have hbe0' : w.heap.size ≤ w5'.heap.size := by simp at hbe0; omega
                    have HWE2 := hid hwe
                    have hll := HLEN.out
                    clear SN ho5 hb5 hbe1 hbe2 hobe hwe p0 p1 hske
                    go_wp2_with (at_builtin; refine wpList_append_own_at _ rfl _ _ 23 rfl (w.heap.size + 1) 22 i1 (.slice none 0 0) 1 24 Try.underlying23 hi1 hy0 hy1 hy2 rfl (by decide) _ _ _ rfl ((show World.ownsRow (((w5'.alloc (.cells #[.slice ua5 R5.length uc5, .int .i64 d5] 29)).setCell ⟨w.heap.size, 0, none⟩ (.slice ua5 R5.length uc5)).setCell ⟨w.heap.size, 1, none⟩ (.int .i64 d5)) _ _ _ _ _ _ from HROW.out).alloc _) ⟨w5'.heap.size + 1, 0, none⟩ 1 1 [.slice a13 pl.length c13] rfl rfl (by have h := cell_one_new (((w5'.alloc (.cells #[.slice ua5 R5.length uc5, .int .i64 d5] 29)).setCell ⟨w.heap.size, 0, none⟩ (.slice ua5 R5.length uc5)).setCell ⟨w.heap.size, 1, none⟩ (.int .i64 d5)) (.slice a13 pl.length c13) 22; simp at h; exact h) (by simp [Value.oneCell']) (by unfold maxLen; omega) (by omega) (by simp; omega) ?_; intro v' wg hown' hgrow _ hat; rw [← HWE2.out] at hgrow hat; have hsn := HSN.out.fin _ _ _ hown' hgrow hat; have HSG := hid hgrow; have HSN3 := hid hsn; have HAT := hid hat; clear hown' hat hsn hgrow)
                    have HSS := hid (split_step HOBE2.out HSG.out (fun e => by have := (HOL.out.lt _ e).1; omega))
                    go_roundw
                    case measure => simp only [intOf]; have := HKL.out; omega
                    case rel =>
                      obtain ⟨s1, s2, s3⟩ := HSS.out
                      have hl2 := HBL2.out
                      have hske := HBE2.out.size
                      have hsw4 := HSW4.out
                      have hsb5 := HSB5.out
                      refine ⟨k + 1, _, R5, d5, L' ++ [pl], by go_num, by have := HKL.out; omega, HNX, HSN3, hid ?_, hid s3, hid ?_, hid ?_, hid ?_⟩
                      · refine HOE.out.rdS.to s1 fun g hg hS => ⟨by have := hS.1; omega, s2 g hg (by have := hS.1; omega) fun e => ?_⟩
                        have := (HOL.out.lt g e).2.1
                        have := hS.1
                        omega
                      · refine HLS.out.to (by omega) fun g hg hS => ⟨⟨hS.1, fun e => ?_⟩, ?_⟩
                        · rcases HAT.out with h | h
                          · rw [h] at e; exact hS.2 e
                          · rw [h] at e
                            have := Option.some.inj e
                            simp at this
                            omega
                        · rw [s2 g (by omega) (by have := hS.1; omega) hS.2]
                          exact HBE2.out.block g hg
                      · rw [List.length_append]
                        have := HLN2.out
                        simp
                        omega
                      · exact (((HWEB.out.setCell (Nat.le_refl _) _).setCell (Nat.le_refl _) _).alloc (by simp; omega) _).grown HSG.out (by simp; omega) (fun k e => by have := (HOL.out.lt k e).1; omega)
              · have hke : k = LS.length := by omega
                have HPF := HP.out
                rw [List.take_of_length_le (by omega)] at HPF
                have HNX := hid (split_go HN.out (HSA.out.trans HPF))
                have HOK2 := hid (putAll_ok (st := (R, d, L)) HOK.out k (by omega) _ HP.out)
                have hge : ¬ (k : Int) < 1 := by have := HLL.out; omega
                have HLN3 := hid (show L'.length ≤ 2 * (i + 1) by have := HLN2.out; have := HLL2.out; omega)
                clear hkl hke HPF hk
                go_wp2_with fail
                go_roundw
                case measure => simp only [intOf]; have := HLT.out; omega
                case rel => exact ⟨i + 1, _, R', d', L', by go_num, by have := HLT.out; omega, HNX, HOK2, HOL, HRP, HBP, HLN3, HBK⟩
      · have hie : i = xs.length := by omega
        have HNF := HN.out
        rw [hie] at HNF
        have HE : Hid (splitV xs A a = some L) := hid (by unfold splitV; rw [HVT.out, if_pos rfl, HNF]; rfl)
        obtain ⟨sa, sc, rfl⟩ := HO.out.rd.form
        have hge : ¬ (i : Int) < (xs.length : Int) := by omega
        clear hlt hie HNF
        go_wp2_with fail
        refine bodyPost_ret (v := .tuple #[.slice sa L.length sc, .bool true]) (by simp [results, Try.results42, go_sem]) rfl ?_
        rw [HE.out]
        exact ⟨_, rfl, HO.out.down (Nat.le_succ _), HBW.out⟩

end Go.Proofs.Ytjabklpnohfjpab

/-! RangeV -/
set_option linter.unusedVariables false
namespace Go.Proofs.Ytjabklpnohfjpab
open Go.RowKit

/-- whatever lies at B or behind it is left as it lay -/
structure Stay (B : Nat) (W W' : World) : Prop where
  size : W.heap.size ≤ W'.heap.size
  block : ∀ k, B ≤ k → k < W.heap.size → W'.heap[k]? = W.heap[k]?
theorem Stay.refl (B : Nat) (W : World) : Stay B W W := ⟨Nat.le_refl _, fun _ _ _ => rfl⟩
theorem Stay.trans {B : Nat} {X Y Z : World} (h : Stay B X Y) (k : Stay B Y Z) : Stay B X Z :=
  ⟨Nat.le_trans h.size k.size, fun i hB hi => (k.block i hB (Nat.lt_of_lt_of_le hi h.size)).trans (h.block i hB hi)⟩
theorem Stay.mono {B C : Nat} {W W' : World} (h : Stay B W W') (hc : B ≤ C) : Stay C W W' := ⟨h.size, fun k hk hl => h.block k (Nat.le_trans hc hk) hl⟩
theorem Stay.of_below {B : Nat} {W W' : World} (h : Below W.heap.size W W') : Stay B W W' := ⟨h.size, fun k _ hl => h.block k hl⟩
theorem Stay.setCell {B : Nat} {W : World} {a : Addr} (ha : a.block < B) (v : Value) : Stay B W (W.setCell a v) :=
  ⟨by simp [World.setCell], fun k hk _ => Below.heap_setCell _ _ _ k (fun e => by omega)⟩
theorem Stay.drewN (B : Nat) (W : World) (n : Nat) : Stay B W (W.drewN n) := ⟨Nat.le_refl _, fun _ _ _ => rfl⟩
theorem Stay.at_block {B k : Nat} {W W' : World} {o : Obj} (h : Stay B W W') (hk : B ≤ k) (ho : W.heap[k]? = some o) : W'.heap[k]? = some o :=
  (h.block k hk (Array.getElem?_eq_some_iff.1 ho).1).trans ho
/-- these blocks are left as they lay -/
def Hold (B0 B1 : Nat) (W W' : World) : Prop := ∀ k, B0 ≤ k → k < B1 → W'.heap[k]? = W.heap[k]?
theorem Hold.trans {B0 B1 : Nat} {X Y Z : World} (h : Hold B0 B1 X Y) (k : Hold B0 B1 Y Z) : Hold B0 B1 X Z := fun i h1 h2 => (k i h1 h2).trans (h i h1 h2)
theorem Hold.put {B0 B1 k : Nat} (hk : B1 ≤ k) (W : World) (o : Obj) : Hold B0 B1 W (W.putObj k o) := fun i _ h2 => World.putObj_heap_other (by omega)
theorem Stay.hold {B0 B1 : Nat} {W W' : World} (h : Stay B0 W W') (hB : B1 ≤ W.heap.size) : Hold B0 B1 W W' := fun k h1 h2 => h.block k h1 (by omega)
/-- what is said abides new blocks, and the turn of one block at B or behind it -/
def Turns {β : Type} (B : Nat) (J : β → World → Prop) : Prop :=
  ∀ s W W' row, J s W → W.grownBy W' row → (∀ r, row = some r → B ≤ r) → J s W'
theorem Turns.and {β : Type} {B : Nat} {J K : β → World → Prop} (h : Turns B J) (k : Turns B K) : Turns B (fun s W => J s W ∧ K s W) :=
  fun s W W' row hs hg hr => ⟨h s W W' row hs.1 hg hr, k s W W' row hs.2 hg hr⟩
theorem turns_pure {β : Type} (B : Nat) (p : β → Prop) : Turns B (fun s (_ : World) => p s) := fun _ _ _ _ hs _ _ => hs
theorem turns_below {β : Type} {n B : Nat} {w : World} (hn : n ≤ w.heap.size) (hB : n ≤ B) : Turns B (fun (_ : β) W => Below n w W) :=
  fun _ _ _ _ hs hg hr => hs.grown hg (Nat.le_trans hn hs.size) (fun k e => Nat.le_trans hB (hr k e))
theorem turns_block {β : Type} {B k : Nat} (hk : k < B) (f : β → Obj) : Turns B (fun s W => W.heap[k]? = some (f s)) :=
  fun s W W' row hs hg hr => (hg.block k (Array.getElem?_eq_some_iff.1 hs).1 (fun e => by have := hr k e.symm; omega)).trans hs
theorem Turns.put {β : Type} {B : Nat} {J : β → World → Prop} (h : Turns B J) {s : β} {W : World} {k : Nat} (o : Obj) (hs : J s W) (hk : B ≤ k) : J s (W.putObj k o) :=
  h s W _ (some k) hs (grownBy_putObj' W k o) (fun r e => by cases e; exact hk)
theorem Turns.lay {β : Type} {B : Nat} {J : β → World → Prop} (h : Turns B J) {s : β} {W : World} (o : Obj) (hs : J s W) : J s (W.alloc o) :=
  h s W _ none hs (World.grownBy_alloc W o none) (fun r e => by cases e)

/-- the iterator's contract: at each yield, H says what the element is -/
def RoundsV {α : Type} (F : Fence) (n : Nat) (P : Program) (g : Nat) (lb : Array Value) (encs : α → Array Value) (H : Nat → α → World → Prop) (B0 B1 : Nat) (S Sp : List α → Prop) (N : Nat) (w : World) : Prop :=
  ∀ (l : Nat) (J Jx : List α → World → Prop) (W : World), Below w.heap.size w W → Turns W.heap.size J → Turns W.heap.size Jx →
    (∀ pre x V, J pre V → H W.heap.size x V → pre.length < N → YieldAt F (n - 1) P l (encs x) V fun e V' =>
      (e = .returned (.bool true) ∧ J (pre ++ [x]) V' ∧ Stay W.heap.size V V' ∧ Hold B0 B1 V V') ∨ (e = .returned (.bool false) ∧ Jx (pre ++ [x]) V')) →
    J [] W →
    CallsIn F n P g (#[.func (.yield l) #[] #[]] ++ lb) W fun e V => (∃ v, e = .returned v) ∧ ((∃ xs, S xs ∧ J xs V) ∨ (∃ pre, Sp pre ∧ Jx pre V))

/-- the two blocks of a loop: its record, and the block for deferred calls ahead of it -/
def Book (D : Nat) (r : Loop) (W : World) : Prop := W.heap[D]? = some (.deferred (some [])) ∧ W.heap[D + 1]? = some (.loop r)
theorem Book.put {D : Nat} {r : Loop} {W : World} (h : Book D r W) (r' : Loop) : Book D r' (W.putObj (D + 1) (.loop r')) :=
  ⟨(World.putObj_heap_other (by omega)).trans h.1, World.putObj_heap_same (Array.getElem?_eq_some_iff.1 h.2).1⟩
theorem Book.stay {D : Nat} {r : Loop} {W W' : World} (h : Book D r W) (hs : Stay D W W') : Book D r W' :=
  ⟨hs.at_block (Nat.le_refl _) h.1, hs.at_block (by omega) h.2⟩
theorem Book.turns {β : Type} {D B : Nat} (hB : D + 2 ≤ B) (r : β → Loop) : Turns B (fun s W => Book D (r s) W) :=
  Turns.and (turns_block (by omega) fun _ => _) (turns_block (by omega) fun s => .loop (r s))
theorem Book.new (w : World) (r : Loop) : Book w.heap.size r ((w.alloc (.deferred (some []))).alloc (.loop r)) := by
  refine ⟨(Below.heap_alloc _ _ _ (by simp)).trans (World.alloc_heap_new w _), ?_⟩
  have h := World.alloc_heap_new (w.alloc (.deferred (some []))) (.loop r)
  rwa [World.size_alloc] at h
/-- how a round's body is left -/
def endsV {α : Type} (B : Nat) (I : List α → World → Prop) (Ix : Code → List α → World → Prop) (xs : List α) (W : World) : Exit → Act → World → Prop
  | .normal, _, W' => Stay B W W' ∧ I xs W'
  | .ret, _, W' => Stay B W W' ∧ Ix .ret xs W'
  | .exit id, _, W' => Stay B W W' ∧ Ix (.exit id) xs W'
  | .goto t, _, W' => Stay B W W' ∧ Ix (.goto t) xs W'
  | _, _, _ => False

variable {F : Fence} {n : Nat} {P : Program}

/-- one round: what is asked at its end, out of how its body is left -/
theorem roundPost_of {α : Type} {D : Nat} {rec : LoopState → Option Code → Loop} (hrec : ∀ st pe st' pe', { rec st pe with state := st', pending := pe' } = rec st' pe') {I : List α → World → Prop} {Ix : Code → List α → World → Prop} (hI : Turns D I) (hIx : ∀ c, Turns D (Ix c)) {xs : List α} {V W : World} (hb : Book D (rec .busy none) W) (hV : V.heap.size ≤ W.heap.size) (hVW : Stay (D + 2) V W) (hD : D + 2 ≤ V.heap.size) {C : Nat} (hC : D + 2 ≤ C) {B0 B1 : Nat} (hB0 : B0 ≤ D) (hB1 : B1 ≤ D) (hH : Hold B0 B1 V W) :
    ∀ (e : Exit) (a : Act) (W' : World), endsV B0 I Ix xs W e a W' → roundPost P (D + 1) (fun e V' => (e = .returned (.bool true) ∧ (I xs V' ∧ Book D (rec .ready none) V') ∧ Stay C V V' ∧ Hold B0 B1 V V') ∨ (e = .returned (.bool false) ∧ ∃ c, Ix c xs V' ∧ Book D (rec .done (some c)) V')) e a W' := by
  have fin : ∀ (jump : Option Code) (W' : World), Stay D W W' → (Instr.endRound (D + 1) jump).run P W' = .ok (.bool jump.isNone) (W'.putObj (D + 1) (.loop (rec (if jump.isNone then .ready else .done) jump))) ∧ Book D (rec (if jump.isNone then .ready else .done) jump) (W'.putObj (D + 1) (.loop (rec (if jump.isNone then .ready else .done) jump))) := fun jump W' hs => by
    have hb' := hb.stay hs
    have hr := run_endRound (P := P) jump hb'.2
    rw [hrec] at hr
    exact ⟨hr, hb'.put _⟩
  intro e a W' h
  cases e with
  | normal =>
    obtain ⟨hr, hb'⟩ := fin none W' (h.1.mono hB0)
    refine ⟨_, _, hr, .inl ⟨rfl, ⟨hI.put _ h.2 (by omega), hb'⟩, ?_, hH.trans ((h.1.hold (by omega)).trans (Hold.put (by omega) _ _))⟩⟩
    refine (hVW.trans (h.1.mono (by omega))).mono hC |>.trans ⟨by simp, fun k hk _ => World.putObj_heap_other (by omega)⟩
  | ret =>
    obtain ⟨hr, hb'⟩ := fin (some .ret) W' (h.1.mono hB0)
    exact ⟨_, _, hr, .inr ⟨rfl, .ret, (hIx _).put _ h.2 (by omega), hb'⟩⟩
  | exit id =>
    obtain ⟨hr, hb'⟩ := fin (some (.exit id)) W' (h.1.mono hB0)
    exact ⟨_, _, hr, .inr ⟨rfl, .exit id, (hIx _).put _ h.2 (by omega), hb'⟩⟩
  | goto t =>
    obtain ⟨hr, hb'⟩ := fin (some (.goto t)) W' (h.1.mono hB0)
    exact ⟨_, _, hr, .inr ⟨rfl, .goto t, (hIx _).put _ h.2 (by omega), hb'⟩⟩
  | panic ch => exact h.elim
  | outgrown => exact h.elim

/-- a loop over such an iterator -/
theorem wpIn_rangeV {α : Type} {g : Operand} {ps : Array Tmp} {assign body : Code} {Q : Exit → Act → World → Prop} {a : Act} {w : World}
    (hro : F.round = none) (h1 : 1 ≤ n) {gf : Nat} {lb : Array Value} (hg : a.eval g = .func (.func gf) #[] lb) (hFg : F.fn gf) (eg : ∀ args W, (callFunc gf args).run P W = .ok (.enter gf args) W)
    {encs : α → Array Value} {H : Nat → α → World → Prop} {B0 B1 : Nat} (hB0 : B0 ≤ w.heap.size) (hB1 : B1 ≤ w.heap.size) {S Sp : List α → Prop} {N : Nat} {w0 : World} (hseq : RoundsV F (n - 1) P gf lb encs H B0 B1 S Sp N w0) (hb0 : Below w0.heap.size w0 w) (hps : ∀ x, (encs x).size = ps.size)
    (hH : ∀ x W k r o, H (w.heap.size + 2) x W → W.heap[k]? = some (.loop r) → H (w.heap.size + 2) x (W.putObj k o))
    (I : List α → World → Prop) (Ix : Code → List α → World → Prop) (hI : Turns w.heap.size I) (hIx : ∀ c, Turns w.heap.size (Ix c)) (h0 : I [] w) (a₁ : α → Act)
    (hassign : ∀ (l : Nat) (x : α) (W : World) (K : Act → World → Prop), K (a₁ x) W →
      assign.wpIn (F.inRound l) (n - 1 - 1) P (Exit.then K (fun _ _ _ => False)) { tmps := (ps.zip (encs x)).foldl (fun t (p, v) => t.setIfInBounds p v) a.tmps, defers := [] } W)
    (hbody : ∀ (l : Nat) (pre : List α) (x : α) (W : World), I pre W → H (w.heap.size + 2) x W → w.heap.size + 2 ≤ W.heap.size → pre.length < N → body.wpIn (F.inRound l) (n - 1 - 1) P (endsV B0 I Ix (pre ++ [x]) W) (a₁ x) W)
    (hdone : ∀ (xs : List α) (W : World), S xs → I xs W → W.heap[w.heap.size]? = some (.deferred (some [])) → Q .normal { a with defers := { target := .collected w.heap.size, args := #[] } :: a.defers } W)
    (hstop : ∀ (c : Code) (pre : List α) (W : World), Sp pre → Ix c pre W → W.heap[w.heap.size]? = some (.deferred (some [])) → c.wpIn F n P Q { a with defers := { target := .collected w.heap.size, args := #[] } :: a.defers } W) :
    (Code.rangeFunc g ps assign body).wpIn F n P Q a w := by
  refine wpIn_rangeFunc fun fn hfn => ?_
  rw [hro]
  obtain ⟨rec, hrec⟩ : ∃ rec : LoopState → Option Code → Loop, rec = fun st pe => { state := st, pending := pe, fn, tmps := a.tmps, params := ps, assign, body, defers := w.heap.size } := ⟨_, rfl⟩
  have hrr : ∀ st pe st' pe', { rec st pe with state := st', pending := pe' } = rec st' pe' := fun st pe st' pe' => by rw [hrec]
  have hbk := Book.new w (rec .ready none)
  have hI1 := hI.lay (.loop (rec .ready none)) (hI.lay (.deferred (some [])) h0)
  have hbl := hb0.trans ((((Below.refl _ w).alloc (Nat.le_refl _) (.deferred (some []))).alloc (by simp) (.loop (rec .ready none))).mono hb0.size)
  have hen := run_enterLoop_outer (P := P) (w := w) fn a.tmps ps assign body
  have hsz : ((w.alloc (.deferred (some []))).alloc (.loop (rec .ready none))).heap.size = w.heap.size + 2 := by simp
  have hrd : ((w.alloc (.deferred (some []))).alloc (.loop { state := .ready, pending := none, fn, tmps := a.tmps, params := ps, assign, body, defers := w.heap.size })) = ((w.alloc (.deferred (some []))).alloc (.loop (rec .ready none))) := by rw [hrec]
  rw [hrd] at hen
  obtain ⟨W1, hW1⟩ : ∃ W1, W1 = (w.alloc (.deferred (some []))).alloc (.loop (rec .ready none)) := ⟨_, rfl⟩
  rw [← hW1] at hbk hI1 hbl hen hsz
  refine ⟨w.heap.size + 1, [{ target := .collected w.heap.size, args := #[] }], W1, { target := .fn (.func gf) lb, args := #[.func (.yield (w.heap.size + 1)) #[] #[]] }, W1, gf, #[.func (.yield (w.heap.size + 1)) #[] #[]] ++ lb, W1, hen, ?_, ?_, ?_, fun _ => h1, ?_⟩
  · simp only [resolve, hg]
    simp [go_sem]
  · intro f' hf'
    simp [Target.leads] at hf'
    subst hf'
    exact hFg
  · simp [invoke, go_sem, eg]
  · refine (hseq (w.heap.size + 1) (fun pre W => I pre W ∧ Book w.heap.size (rec .ready none) W) (fun pre W => ∃ c, Ix c pre W ∧ Book w.heap.size (rec .done (some c)) W) W1 hbl ?_ ?_ ?_ ⟨hI1, hbk⟩).mono ?_
    · exact Turns.and (fun s A B row hs hgr hr => hI s A B row hs hgr (fun r e => by have := hr r e; omega)) (Book.turns (by omega) fun _ => _)
    · rintro s A B row ⟨c, hc, hbc⟩ hgr hr
      exact ⟨c, hIx c s A B row hc hgr (fun r e => by have := hr r e; omega), Book.turns (β := Unit) (B := W1.heap.size) (by omega) (fun _ => rec .done (some c)) () A B row hbc hgr hr⟩
    · rintro pre x V ⟨hi, hb⟩ hx hlen
      have hlt := (Array.getElem?_eq_some_iff.1 hb.2).1
      have hy := run_yield (P := P) (args := encs x) hb.2 (by rw [hrec]; exact hps x)
      have hbr := run_beginRound (P := P) hb.2 (by rw [hrec])
      rw [show ({ rec .ready none with state := .busy } : Loop) = rec .busy none by rw [hrec]] at hbr
      have hb2 := hb.put (rec .busy none)
      have hx2 := hH x V _ _ (.loop (rec .busy none)) (by rw [← hsz]; exact hx) hb.2
      have hi2 := hI.put (.loop (rec .busy none)) hi (show w.heap.size ≤ w.heap.size + 1 by omega)
      have hst : Stay (w.heap.size + 2) V (V.putObj (w.heap.size + 1) (.loop (rec .busy none))) := ⟨by simp, fun k hk _ => World.putObj_heap_other (by omega)⟩
      rw [hrec] at hy
      refine ⟨fn, _, assign, body, hy, roundIn_of_wpIn hfn (hassign _ x V _ ⟨_, hbr, ?_⟩)⟩
      exact wpIn_mono (hbody _ pre x _ hi2 hx2 (by simp; omega) hlen) (roundPost_of hrr hI hIx hb2 (by simp) hst (by omega) (by omega) hB0 hB1 (Hold.put (by omega) _ _))
    · rintro e W2 ⟨⟨v, rfl⟩, ⟨xs, hS, hi, hb⟩ | ⟨pre, hSp, c, hi, hb⟩⟩
      · have he := run_endLoop (P := P) hb.2 (by rw [hrec]; simp)
        refine ⟨_, _, he, ?_⟩
        rw [hrec] at *
        exact hdone xs _ hS (hI.put _ hi (by omega)) ((World.putObj_heap_other (by omega)).trans hb.1)
      · have he := run_endLoop (P := P) hb.2 (by rw [hrec]; simp)
        refine ⟨_, _, he, ?_⟩
        rw [hrec] at *
        exact hstop c pre _ hSp ((hIx c).put _ hi (by omega)) ((World.putObj_heap_other (by omega)).trans hb.1)

end Go.Proofs.Ytjabklpnohfjpab

/-! MpA -/
set_option linter.unusedVariables false
namespace Go.Proofs.Ytjabklpnohfjpab
open Go.RowKit

/-- a over b is N over D, in lowest terms -/
structure Fr (a b N D : Int) : Prop where
  pos : 1 ≤ b
  cop : Nat.gcd a.natAbs b.natAbs = 1
  eq : a * D = N * b
def gF (n d : Int) : Int := sgF d * (Nat.gcd n.natAbs d.natAbs : Nat)
def numF (n d : Int) : Int := n.tdiv (gF n d)
def denF (n d : Int) : Int := d.tdiv (gF n d)
theorem gF_ne {n d : Int} (h : d ≠ 0) : gF n d ≠ 0 := by
  unfold gF
  have hg : 0 < Nat.gcd n.natAbs d.natAbs := Nat.gcd_pos_of_pos_right _ (by omega)
  rcases sgF_pm d with e | e <;> rw [e] <;> omega
theorem gF_dvd (n d : Int) : gF n d ∣ n ∧ gF n d ∣ d := by
  unfold gF
  have h1 : ((Nat.gcd n.natAbs d.natAbs : Nat) : Int) ∣ n := Int.ofNat_dvd_left.2 (Nat.gcd_dvd_left _ _)
  have h2 : ((Nat.gcd n.natAbs d.natAbs : Nat) : Int) ∣ d := Int.ofNat_dvd_left.2 (Nat.gcd_dvd_right _ _)
  rcases sgF_pm d with e | e <;> rw [e]
  · rw [Int.one_mul]; exact ⟨h1, h2⟩
  · rw [Int.neg_mul, Int.one_mul, Int.neg_dvd, Int.neg_dvd]; exact ⟨h1, h2⟩
theorem num_mul (n d : Int) : n = gF n d * numF n d := by
  unfold numF
  rw [Int.mul_comm]; exact (Int.tdiv_mul_cancel (gF_dvd n d).1).symm
theorem den_mul (n d : Int) : d = gF n d * denF n d := by
  unfold denF
  rw [Int.mul_comm]; exact (Int.tdiv_mul_cancel (gF_dvd n d).2).symm
theorem gF_abs (n d : Int) : (gF n d).natAbs = Nat.gcd n.natAbs d.natAbs := by
  unfold gF
  rcases sgF_pm d with e | e <;> rw [e] <;> omega
theorem fr_of {n d : Int} (h : d ≠ 0) : Fr (numF n d) (denF n d) n d := by
  have hg := gF_ne (n := n) h
  have h1 := num_mul n d
  have h2 := den_mul n d
  have ha := gF_abs n d
  have hsg : gF n d = sgF d * (Nat.gcd n.natAbs d.natAbs : Nat) := rfl
  generalize numF n d = a at *
  generalize denF n d = b at *
  generalize gF n d = g at *
  refine ⟨?_, ?_, ?_⟩
  · have hgp : 0 < Nat.gcd n.natAbs d.natAbs := Nat.gcd_pos_of_pos_right _ (by omega)
    unfold sgF at hsg
    refine Classical.byContradiction fun hc => ?_
    have hb : b ≤ 0 := by omega
    split at hsg
    · have := Int.mul_nonneg_of_nonpos_of_nonpos (a := g) (b := b) (by omega) hb
      omega
    · have := Int.mul_nonpos_of_nonneg_of_nonpos (a := g) (b := b) (by omega) hb
      omega
  · have e : Nat.gcd n.natAbs d.natAbs = g.natAbs * Nat.gcd a.natAbs b.natAbs := by
      conv => lhs; rw [h1, h2]
      rw [Int.natAbs_mul, Int.natAbs_mul, Nat.gcd_mul_left]
    rw [← ha] at e
    have hgp : 0 < g.natAbs := by omega
    exact Nat.eq_of_mul_eq_mul_left hgp (by omega)
  · rw [h1, h2]; grind
theorem Fr.change {a b N D N' D' : Int} (h : Fr a b N D) (hD : D ≠ 0) (he : N * D' = N' * D) : Fr a b N' D' := by
  refine ⟨h.pos, h.cop, ?_⟩
  have e := h.eq
  refine Int.eq_of_mul_eq_mul_left hD ?_
  have : D * (a * D') = (a * D) * D' := by grind
  rw [this, e]
  have : N * b * D' = (N * D') * b := by grind
  rw [this, he]
  grind
theorem cop_dvd {a b c : Int} (hc : Nat.gcd a.natAbs b.natAbs = 1) (h : b ∣ a * c) : b ∣ c := by
  have h1 : b.natAbs ∣ a.natAbs * c.natAbs := by rw [← Int.natAbs_mul]; exact Int.natAbs_dvd_natAbs.2 h
  exact Int.natAbs_dvd_natAbs.1 (Nat.Coprime.dvd_of_dvd_mul_left (Nat.Coprime.symm hc) h1)
theorem Fr.den {a b N D : Int} (h : Fr a b N D) : b ∣ D := cop_dvd h.cop ⟨N, by rw [h.eq, Int.mul_comm]⟩
theorem Fr.num {a b N D : Int} (h : Fr a b N D) : a ∣ N := cop_dvd (by rw [Nat.gcd_comm]; exact h.cop) ⟨D, by rw [Int.mul_comm b N, ← h.eq]⟩
theorem abs_le {a N : Int} {m : Int} (h : a ∣ N) (hN : N = 0 → a = 0) (hm : 0 ≤ m) (h1 : -m ≤ N) (h2 : N ≤ m) : -m ≤ a ∧ a ≤ m := by
  by_cases e : N = 0
  · have := hN e; omega
  · have := Nat.le_of_dvd (by omega : 0 < N.natAbs) (Int.natAbs_dvd_natAbs.2 h)
    omega
theorem Fr.num_bd {a b N D m : Int} (h : Fr a b N D) (hD : D ≠ 0) (hm : 0 ≤ m) (h1 : -m ≤ N) (h2 : N ≤ m) : -m ≤ a ∧ a ≤ m := abs_le h.num (fun e => by
  have := h.eq
  rw [e, Int.zero_mul] at this
  exact (Int.mul_eq_zero.1 this).resolve_right hD) hm h1 h2
theorem Fr.den_bd {a b N D m : Int} (h : Fr a b N D) (hD : D ≠ 0) (h1 : -m ≤ D) (h2 : D ≤ m) : 1 ≤ b ∧ b ≤ m := by
  have := Nat.le_of_dvd (by omega : 0 < D.natAbs) (Int.natAbs_dvd_natAbs.2 h.den)
  have := h.pos
  omega
/-- the least multiple of both, as the program finds it -/
def lcmI (a b : Int) : Int := a.tdiv (Nat.gcd a.natAbs b.natAbs : Nat) * b
theorem lcmI_nat {a b : Int} (ha : 1 ≤ a) (hb : 1 ≤ b) : lcmI a b = (Nat.lcm a.natAbs b.natAbs : Nat) := by
  obtain ⟨x, rfl⟩ := Int.eq_ofNat_of_zero_le (show 0 ≤ a by omega)
  obtain ⟨y, rfl⟩ := Int.eq_ofNat_of_zero_le (show 0 ≤ b by omega)
  unfold lcmI
  rw [Int.natAbs_natCast, Int.natAbs_natCast]
  have : ((x : Int).tdiv ((Nat.gcd x y : Nat) : Int)) = ((x / Nat.gcd x y : Nat) : Int) := rfl
  rw [this]
  have e : Nat.lcm x y = x / Nat.gcd x y * y := by
    rw [Nat.lcm]
    rw [Nat.div_mul_right_comm (Nat.gcd_dvd_left x y)]
  rw [e]
  push_cast
  rfl
theorem lcmI_pos {a b : Int} (ha : 1 ≤ a) (hb : 1 ≤ b) : 1 ≤ lcmI a b := by
  rw [lcmI_nat ha hb]
  have := Nat.lcm_pos (m := a.natAbs) (n := b.natAbs) (by omega) (by omega)
  omega
theorem lcmI_dvd {a b : Int} (ha : 1 ≤ a) (hb : 1 ≤ b) : a ∣ lcmI a b ∧ b ∣ lcmI a b := by
  rw [lcmI_nat ha hb]
  exact ⟨Int.natAbs_dvd.1 (Int.natCast_dvd_natCast.2 (Nat.dvd_lcm_left _ _)), Int.natAbs_dvd.1 (Int.natCast_dvd_natCast.2 (Nat.dvd_lcm_right _ _))⟩
theorem lcmI_least {a b D : Int} (ha : 1 ≤ a) (hb : 1 ≤ b) (h1 : a ∣ D) (h2 : b ∣ D) : lcmI a b ∣ D := by
  rw [lcmI_nat ha hb]
  exact Int.ofNat_dvd_left.2 (Nat.lcm_dvd (Int.natAbs_dvd_natAbs.2 h1) (Int.natAbs_dvd_natAbs.2 h2))
/-- the numerator above a multiple of the denominator -/
def overF (a b L : Int) : Int := a * L.tdiv b
theorem over_eq {a b N D L g : Int} (h : Fr a b N D) (hb : b ∣ L) (hD : D = g * L) (h0 : D ≠ 0) : N = g * overF a b L := by
  unfold overF
  obtain ⟨c, rfl⟩ := hb
  have hb0 : b ≠ 0 := by have := h.pos; omega
  rw [Int.mul_tdiv_cancel_left c hb0]
  have e := h.eq
  rw [hD] at e
  refine Int.eq_of_mul_eq_mul_left hb0 ?_
  grind
theorem over_bd {a b N D L m : Int} (h : Fr a b N D) (hb : b ∣ L) (hL : L ∣ D) (h0 : D ≠ 0) (hm : 0 ≤ m) (h1 : -m ≤ N) (h2 : N ≤ m) : -m ≤ overF a b L ∧ overF a b L ≤ m := by
  obtain ⟨g, hg⟩ := hL
  rw [Int.mul_comm] at hg
  have e := over_eq h hb hg h0
  refine abs_le ⟨g, by rw [e, Int.mul_comm]⟩ (fun en => ?_) hm h1 h2
  rw [en] at e
  have hg0 : g ≠ 0 := by rintro rfl; rw [Int.zero_mul] at hg; exact h0 hg
  exact (Int.mul_eq_zero.1 e.symm).resolve_left hg0
theorem fr_plus {a b N c d M D p q : Int} (h : Fr a b N D) (h2 : Fr c d M D) (h0 : D ≠ 0) (hr : Fr p q (overF a b (lcmI b d) + overF c d (lcmI b d)) (lcmI b d)) : Fr p q (N + M) D := by
  have hp := lcmI_pos h.pos h2.pos
  obtain ⟨g, hg⟩ := lcmI_least h.pos h2.pos h.den h2.den
  rw [Int.mul_comm] at hg
  refine hr.change (by omega) ?_
  rw [over_eq h (lcmI_dvd h.pos h2.pos).1 hg h0, over_eq h2 (lcmI_dvd h.pos h2.pos).2 hg h0, hg]
  grind
theorem fr_times {a b N c d M D E p q : Int} (h : Fr a b N D) (h2 : Fr c d M E) (hr : Fr p q (a * c) (b * d)) : Fr p q (N * M) (D * E) := by
  have e1 := h.eq
  have e2 := h2.eq
  have hb := h.pos
  have hd := h2.pos
  refine hr.change (Int.mul_ne_zero (by omega) (by omega)) ?_
  have : a * c * (D * E) = (a * D) * (c * E) := by grind
  rw [this, e1, e2]
  grind
/-- the least common denominator of fractions -/
def lcmL (l : List (Int × Int)) : Int := l.foldl (fun L f => lcmI L f.2) 1
theorem lcmL_snoc (l : List (Int × Int)) (f : Int × Int) : lcmL (l ++ [f]) = lcmI (lcmL l) f.2 := by unfold lcmL; rw [List.foldl_append]; rfl
def Frs (l : List (Int × Int)) (Ns : List Int) (D : Int) : Prop := l.length = Ns.length ∧ ∀ i, i < l.length → Fr (l.getD i (0, 0)).1 (l.getD i (0, 0)).2 (Ns.getD i 0) D
theorem lcm_all {l : List (Int × Int)} {D : Int} (h : ∀ f ∈ l, 1 ≤ f.2 ∧ f.2 ∣ D) : ∀ K, K ≤ l.length → 1 ≤ lcmL (l.take K) ∧ lcmL (l.take K) ∣ D ∧ ∀ f ∈ l.take K, f.2 ∣ lcmL (l.take K)
  | 0, _ => ⟨by show (1 : Int) ≤ 1; omega, ⟨D, by show D = 1 * D; omega⟩, fun f hf => by simp at hf⟩
  | K + 1, hK => by
    have ih := lcm_all h K (by omega)
    have hm : l[K] ∈ l := List.getElem_mem _
    have hk := h _ hm
    rw [List.take_succ_eq_append_getElem (by omega), lcmL_snoc]
    have hd := lcmI_dvd ih.1 hk.1
    refine ⟨lcmI_pos ih.1 hk.1, lcmI_least ih.1 hk.1 ih.2.1 hk.2, fun f hf => ?_⟩
    rcases List.mem_append.1 hf with hf | hf
    · exact Int.dvd_trans (ih.2.2 f hf) hd.1
    · rw [List.mem_singleton] at hf
      subst hf
      exact hd.2
/-- any multiple of all denominators is a multiple of the least one -/
theorem lcm_least {l : List (Int × Int)} {h : Int} (hp : ∀ f ∈ l, 1 ≤ f.2) (hd : ∀ f ∈ l, f.2 ∣ h) : lcmL l ∣ h := by
  have := (lcm_all (l := l) (D := h) (fun f hf => ⟨hp f hf, hd f hf⟩) l.length (Nat.le_refl _)).2.1
  rwa [List.take_length] at this
def numsL (l : List (Int × Int)) (L : Int) : List Int := l.map fun f => overF f.1 f.2 L
theorem together_is {l : List (Int × Int)} {Ns : List Int} {D : Int} (h : Frs l Ns D) (h0 : D ≠ 0) : plainL (D :: Ns) = lcmL l :: numsL l (lcmL l) := by
  have hmem : ∀ f ∈ l, ∃ N ∈ Ns, Fr f.1 f.2 N D := fun f hf => by
    obtain ⟨i, hi, rfl⟩ := List.getElem_of_mem hf
    have e := h.2 i hi
    rw [List.getD_eq_getElem?_getD, List.getElem?_eq_getElem hi] at e
    refine ⟨Ns.getD i 0, ?_, e⟩
    rw [List.getD_eq_getElem?_getD, List.getElem?_eq_getElem (by rw [← h.1]; exact hi)]
    exact List.getElem_mem _
  have hall := lcm_all (l := l) (D := D) (fun f hf => by
    obtain ⟨N, _, e⟩ := hmem f hf
    exact ⟨e.pos, e.den⟩) l.length (Nat.le_refl _)
  rw [List.take_length] at hall
  obtain ⟨hL, hLD, hdv⟩ := hall
  obtain ⟨g, hg⟩ := hLD
  rw [Int.mul_comm] at hg
  have hg0 : g ≠ 0 := by rintro rfl; rw [Int.zero_mul] at hg; exact h0 hg
  have hN : Ns = (numsL l (lcmL l)).map (fun x => g * x) := by
    refine List.ext_getElem (by unfold numsL; rw [List.length_map, List.length_map, h.1]) fun i h1 h2 => ?_
    have hi : i < l.length := by rw [h.1]; exact h1
    have e := h.2 i hi
    rw [List.getD_eq_getElem?_getD, List.getElem?_eq_getElem hi, List.getD_eq_getElem?_getD, List.getElem?_eq_getElem h1] at e
    have e2 : ((numsL l (lcmL l)).map (fun x => g * x))[i]'h2 = g * overF l[i].1 l[i].2 (lcmL l) := by simp [numsL]
    exact (over_eq e (hdv _ (List.getElem_mem hi)) hg h0).trans e2.symm
  have hone : gcdL (lcmL l :: numsL l (lcmL l)) = 1 := by
    obtain ⟨q, hq⟩ : ∃ q, q = gcdL (lcmL l :: numsL l (lcmL l)) := ⟨_, rfl⟩
    have hqp : 0 < q := by rw [hq]; exact gcdL_pos ⟨lcmL l, List.mem_cons_self .., by omega⟩
    have hq1 : (q : Int) ∣ lcmL l := by rw [hq]; exact gcdL_dvd (List.mem_cons_self ..)
    obtain ⟨t, ht⟩ := hq1
    have hlt : lcmL l ∣ t := by
      refine lcm_least (fun f hf => by obtain ⟨N, _, e⟩ := hmem f hf; exact e.pos) fun f hf => ?_
      obtain ⟨N, _, e⟩ := hmem f hf
      have hq2 : (q : Int) ∣ overF f.1 f.2 (lcmL l) := by
        rw [hq]
        exact gcdL_dvd (List.mem_cons_of_mem _ (List.mem_map.2 ⟨f, hf, rfl⟩))
      obtain ⟨s, hs⟩ := hq2
      obtain ⟨c, hc⟩ := hdv f hf
      have hb0 : f.2 ≠ 0 := by have := e.pos; omega
      unfold overF at hs
      rw [hc, Int.mul_tdiv_cancel_left c hb0] at hs
      refine cop_dvd e.cop ⟨s, ?_⟩
      have hq0 : (q : Int) ≠ 0 := by omega
      refine Int.eq_of_mul_eq_mul_left hq0 ?_
      have e1 : (q : Int) * (f.1 * t) = f.1 * (q * t) := by grind
      rw [e1, ← ht, hc]
      have e2 : f.1 * (f.2 * c) = f.2 * (f.1 * c) := by grind
      rw [e2, hs]
      grind
    have h1 : q ≤ 1 := by
      have h2 := Nat.le_of_dvd (by
        have : t ≠ 0 := by rintro rfl; rw [Int.mul_zero] at ht; omega
        omega) (Int.natAbs_dvd_natAbs.2 hlt)
      have h3 : (lcmL l).natAbs = q * t.natAbs := by rw [ht, Int.natAbs_mul, Int.natAbs_natCast]
      rw [h3] at h2
      have htp : 0 < t.natAbs := by
        have : t ≠ 0 := by rintro rfl; rw [Int.mul_zero] at ht; omega
        omega
      refine Classical.byContradiction fun hc => ?_
      have := Nat.mul_le_mul_right t.natAbs (show 2 ≤ q by omega)
      omega
    omega
  have hs : ∃ v ∈ lcmL l :: numsL l (lcmL l), v ≠ 0 := ⟨lcmL l, List.mem_cons_self .., by omega⟩
  have hp := plain_scale hg0 hs
  rw [List.map_cons, ← hN, ← hg] at hp
  rw [hp]
  unfold plainL
  have e : signL (lcmL l :: numsL l (lcmL l)) = 1 := by unfold signL; rw [if_neg (by omega), if_neg (by omega)]
  rw [e, hone]
  conv => rhs; rw [← List.map_id (lcmL l :: numsL l (lcmL l))]
  exact List.map_congr_left fun v _ => by simp
/-- what the program makes of the fractions of a table is the table in lowest terms -/
theorem together_low {l : List (Int × Int)} {R : List (List Int)} {D : Int} (h : Frs l R.flatten D) (h0 : D ≠ 0) : lcmL l = lowD R D ∧ numsL l (lcmL l) = (lowR R D).flatten := by
  have e := together_is h h0
  rw [← low_plain h0] at e
  injection e with e1 e2
  exact ⟨e1.symm, e2.symm⟩

end Go.Proofs.Ytjabklpnohfjpab

/-! MpR -/
set_option linter.unusedVariables false
namespace Go.Proofs.Ytjabklpnohfjpab
open Go.RowKit

theorem dn_self2 {L : Array Bool} {i : Nat} (h : L[i]? = some false) : dn (L.setIfInBounds i true) i := by
  unfold dn
  have hl : i < L.size := by
    rcases Nat.lt_or_ge i L.size with hl | hl
    · exact hl
    · rw [Array.getElem?_eq_none hl] at h; cases h
  rw [Array.getElem?_setIfInBounds_self_of_lt hl]
structure RegI (n : Nat) (deps : List (List Nat)) (W : World) (fin : World → World) (vs : List Value) (L : Array Bool) (wx : World) (ss : List Value) : Prop where
  hs : L.size = n
  hl : ss.length = n
  hb : ¬ dn L (n - 1) → Below W.heap.size W wx
  he : dn L (n - 1) → ∃ wy, Below W.heap.size W wy ∧ wx = fin wy
  hv : ∀ k, dn L k → ss.getD k undef = vs.getD k undef
  cl : ∀ k, dn L k → ∀ j ∈ deps.getD k [], dn L j
/-- each operation is wanted by a later one -/
def usedB (n : Nat) (deps : List (List Nat)) : Bool := (List.range (n - 1)).all fun k => (List.range n).any fun k' => decide (k < k') && (deps.getD k' []).contains k
theorem RegI.all {n : Nat} {deps : List (List Nat)} {W : World} {fin : World → World} {vs ss : List Value} {L : Array Bool} {wx : World} (I : RegI n deps W fin vs L wx ss) (hu : usedB n deps = true) (h : dn L (n - 1)) : ∀ d k, n - 1 - d ≤ k → k < n → dn L k
  | 0, k, h1, h2 => by
    have e : k = n - 1 := by omega
    rw [e]; exact h
  | d + 1, k, h1, h2 => by
    by_cases hk : k = n - 1
    · subst hk; exact h
    · unfold usedB at hu
      have := List.all_eq_true.1 hu k (List.mem_range.2 (by omega))
      obtain ⟨k', hk', h3⟩ := List.any_eq_true.1 this
      rw [Bool.and_eq_true, decide_eq_true_eq] at h3
      have hkn := List.mem_range.1 hk'
      exact I.cl k' (I.all hu h d k' (by omega) hkn) k (by simpa using h3.2)
theorem RegI.open {n : Nat} {deps : List (List Nat)} {W : World} {fin : World → World} {vs ss : List Value} {L : Array Bool} {wx : World} {i : Nat} (I : RegI n deps W fin vs L wx ss) (hu : usedB n deps = true) (hf : L[i]? = some false) (hi : i < n) : Below W.heap.size W wx :=
  I.hb fun h => dn_not hf (I.all hu h n i (by omega) hi)
theorem RegI.val {n : Nat} {deps : List (List Nat)} {W : World} {fin : World → World} {vs ss : List Value} {L : Array Bool} {wx : World} (I : RegI n deps W fin vs L wx ss) (k : Nat) (h : dn L k) : ss.getD k undef = vs.getD k undef := I.hv k h
theorem getD_set_ne {l : List Value} {i k : Nat} {v : Value} (h : k ≠ i) : (l.set i v).getD k undef = l.getD k undef := by
  rw [List.getD_eq_getElem?_getD, List.getD_eq_getElem?_getD, List.getElem?_set_ne (by omega)]
theorem getD_set_self {l : List Value} {i : Nat} {v : Value} (h : i < l.length) : (l.set i v).getD i undef = v := by
  rw [List.getD_eq_getElem?_getD, List.getElem?_set_self h]; rfl
theorem RegI.step {n : Nat} {deps : List (List Nat)} {W : World} {fin : World → World} {vs ss ss' : List Value} {L : Array Bool} {wx wx' : World} {i : Nat} (I : RegI n deps W fin vs L wx ss) (hf : L[i]? = some false) (hi : i < n - 1) (hd : ∀ j ∈ deps.getD i [], dn L j) (hb : Below W.heap.size W wx') (hss : ss' = ss.set i (vs.getD i undef)) (hu : usedB n deps = true) : RegI n deps W fin vs (L.setIfInBounds i true) wx' ss' := by
  subst hss
  refine ⟨by rw [Array.size_setIfInBounds]; exact I.hs, by rw [List.length_set]; exact I.hl, fun _ => hb, fun h => ?_, fun k hk => ?_, fun k hk j hj => ?_⟩
  · have h2 := dn_old h (by omega)
    exact (dn_not hf (I.all hu h2 n i (by omega) (by omega))).elim
  · by_cases e : k = i
    · subst e; exact getD_set_self (by have := I.hl; omega)
    · rw [getD_set_ne e]; exact I.hv k (dn_old hk e)
  · by_cases e : k = i
    · subst e; exact dn_keep (hd j hj)
    · exact dn_keep (I.cl k (dn_old hk e) j hj)
theorem RegI.last {n : Nat} {deps : List (List Nat)} {W : World} {fin : World → World} {vs ss ss' : List Value} {L : Array Bool} {wx wx' : World} {i : Nat} (I : RegI n deps W fin vs L wx ss) (hf : L[i]? = some false) (hi : i = n - 1) (hn : 0 < n) (hd : ∀ j ∈ deps.getD i [], dn L j) (hb : Below W.heap.size W wx) (hw : wx' = fin wx) (hss : ss' = ss.set i (vs.getD i undef)) : RegI n deps W fin vs (L.setIfInBounds i true) wx' ss' := by
  subst hss
  refine ⟨by rw [Array.size_setIfInBounds]; exact I.hs, by rw [List.length_set]; exact I.hl, fun h => ?_, fun h => ⟨wx, hb, hw⟩, fun k hk => ?_, fun k hk j hj => ?_⟩
  · rw [← hi] at h
    exact absurd (dn_self2 hf) h
  · by_cases e : k = i
    · subst e; exact getD_set_self (by have := I.hl; omega)
    · rw [getD_set_ne e]; exact I.hv k (dn_old hk e)
  · by_cases e : k = i
    · subst e; exact dn_keep (hd j hj)
    · exact dn_keep (I.cl k (dn_old hk e) j hj)
theorem RegI.start {n m : Nat} {deps : List (List Nat)} {W wx : World} {fin : World → World} {vs ss : List Value} (hl : ss.length = n) (hm : m = n) (hw : wx = W) : RegI n deps W fin vs (Array.replicate m false) wx ss := by
  subst hm
  subst hw
  have hno : ∀ k, ¬ dn (Array.replicate m false) k := fun k h => by
    unfold dn at h
    rw [Array.getElem?_replicate] at h
    split at h <;> cases h
  exact ⟨by simp, hl, fun _ => Below.refl _ _, fun h => (hno _ h).elim, fun k h => (hno k h).elim, fun k h => (hno k h).elim⟩

end Go.Proofs.Ytjabklpnohfjpab

/-! MpB -/
set_option linter.unusedVariables false
namespace Go.Proofs.Ytjabklpnohfjpab
open Go.RowKit

theorem infoFr : (Try.prog.info? 65).map (fun i => (i.zero, i.size, i.bytes)) = some (some (.agg #[.int .i64 0, .int .i64 0]), 2, 16) := by kernel_rfl
abbrev frV (a b : Int) : Value := .agg #[.int .i64 a, .int .i64 b]
def B15 (x : Int) : Prop := -1000000000000000 ≤ x ∧ x ≤ 1000000000000000
theorem tdiv_b15 {x g : Int} (h : B15 x) : B15 (x.tdiv g) := by
  unfold B15 at *
  have : (x.tdiv g).natAbs ≤ x.natAbs := by rw [Int.natAbs_tdiv]; exact Nat.div_le_self _ _
  omega

set_option maxHeartbeats 400000 in
theorem commonG_any (a b : Int) (a1 : -1000000000000000000 ≤ a) (a2 : a ≤ 1000000000000000000) (b1 : -1000000000000000000 ≤ b) (b2 : b ≤ 1000000000000000000) (w : World) : Calls Try.prog 94 #[.int .i64 a, .int .i64 b] w fun e w' => e = .returned (.int .i64 (Nat.gcd a.natAbs b.natAbs : Nat)) ∧ ∃ k, w' = w.drewN k := by
  go_enter Try.func94, Try.ntmps94
  go_wp2_with fail
  refine (size_any a (by omega) (by omega) _).mono ?_
  rintro e w' ⟨rfl, rfl⟩
  go_wp2_with fail
  refine (size_any b (by omega) (by omega) _).mono ?_
  rintro e w' ⟨rfl, rfl⟩
  go_wp2_with fail
  go_loopw [5, 6] (fun x y wr => ∃ (X Y k : Nat), x = .int .i64 X ∧ y = .int .i64 Y ∧ X ≤ 1000000000000000000 ∧ Y ≤ 1000000000000000000 ∧ Hid (Nat.gcd X Y = Nat.gcd a.natAbs b.natAbs) ∧ wr = w.drewN k) (fun _ y _ => (intOf y).toNat)
  case atStart => exact ⟨_, _, 0, rfl, rfl, by omega, by omega, hid rfl, rfl⟩
  case round =>
    obtain ⟨X, Y, k, rfl, rfl, hX, hY, HV, rfl⟩ := hrel
    by_cases h0 : Y = 0
    · subst h0
      go_wp2
      go_ret
      exact ⟨retI (by rw [← HV.out, Nat.gcd_zero_right]), k, rfl⟩
    · have T : ((Y : Int) != 0) = true := by rw [bne_iff_ne]; omega
      have hlt := Nat.mod_lt X (show Y > 0 by omega)
      go_wp2
      go_quiet (fail)
      go_wp2
      go_roundw
      case rel => exact ⟨Y, X % Y, _, rfl, vI (by push_cast; rfl), hY, by omega, hid (by rw [← HV.out, Nat.gcd_comm X Y, Nat.gcd_rec Y X, Nat.gcd_comm]), World.drewN_drewN ..⟩
      case measure => simp only [intOf]; omega

set_option maxRecDepth 100000 in
set_option maxHeartbeats 1000000 in
theorem multipleOf_any (a b : Int) (a1 : 1 ≤ a) (b1 : 1 ≤ b) (ba : B15 a) (bb : B15 b) (bl : B15 (lcmI a b)) (w : World) : Calls Try.prog 92 #[.int .i64 a, .int .i64 b] w fun e w' => e = .returned (.int .i64 (lcmI a b)) ∧ ∃ k, w' = w.drewN k := by
  obtain ⟨g, hg⟩ : ∃ g : Nat, g = Nat.gcd a.natAbs b.natAbs := ⟨_, rfl⟩
  have hgp : 0 < g := by rw [hg]; exact Nat.gcd_pos_of_pos_left _ (by omega)
  have Tg : ((g : Int) == 0) = false := beq_eq_false_iff_ne.2 (by omega)
  have hE : lcmI a b = a.tdiv g * b := by unfold lcmI; rw [hg]
  obtain ⟨q1, q2⟩ := tdiv_b15 (g := (g : Int)) ba
  rw [hE] at bl ⊢
  obtain ⟨r1, r2⟩ := bl
  obtain ⟨s1, s2⟩ := ba
  obtain ⟨t1, t2⟩ := bb
  have HG := hid hg
  clear hg hE
  go_enter Try.func92, Try.ntmps92
  go_wp2_with (go_at_call 94; refine (commonG_any a b (by omega) (by omega) (by omega) (by omega) _).mono ?_; rw [← HG.out]; rintro e w' ⟨rfl, k, rfl⟩)
  go_ret
  exact ⟨rfl, k, rfl⟩

theorem wrap62 {x : Int} (h1 : -4611686018427387904 ≤ x) (h2 : x ≤ 4611686018427387904) : IntKind.i64.wrap x = x := by rw [IntKind.wrap_i64]; omega
theorem heap_up {w : World} {o x : Obj} {k : Nat} (h : w.heap[k]? = some x) : (w.alloc o).heap[k]? = some x :=
  (((Below.refl w.heap.size w).alloc (Nat.le_refl _) o).block k (Array.getElem?_eq_some_iff.1 h).1).trans h
theorem heap_new {w : World} {o : Obj} {k : Nat} (hk : k = w.heap.size) : (w.alloc o).heap[k]? = some o := by subst hk; exact heap_alloc_new w o
theorem fr_two {w : World} {k : Nat} {x y u v : Value} {t : TypeId} : ((((w.alloc (.cells #[x, y] t)).drewN k).setCell ⟨w.heap.size, 0, none⟩ u).setCell ⟨w.heap.size, 1, none⟩ v).heap[w.heap.size]? = some (.cells #[u, v] t (0, 0)) :=
  heap_two1 (heap_two0 (show ((w.alloc (.cells #[x, y] t)).drewN k).heap[w.heap.size]? = some (.cells #[x, y] t (0, 0)) from heap_alloc_new w _))
theorem fr_low {w : World} {k : Nat} {x y u v : Value} {t : TypeId} : Below w.heap.size w ((((w.alloc (.cells #[x, y] t)).drewN k).setCell ⟨w.heap.size, 0, none⟩ u).setCell ⟨w.heap.size, 1, none⟩ v) :=
  ((below_drewN (below_box2 _ _) _).setCell (Nat.le_refl _) _).setCell (Nat.le_refl _) _

theorem frac_pos {n d : Int} (h : ¬ d < 0) : gF n d = (Nat.gcd n.natAbs d.natAbs : Nat) := by unfold gF sgF; rw [if_neg h, Int.one_mul]
theorem frac_neg {n d : Int} (h : d < 0) : gF n d = -((Nat.gcd n.natAbs d.natAbs : Nat) : Int) := by unfold gF sgF; rw [if_pos h]; omega
set_option maxRecDepth 100000 in
set_option maxHeartbeats 1000000 in
theorem fractionOf_any (n d : Int) (bn : B15 n) (bd : B15 d) (h0 : d ≠ 0) (w : World) : Calls Try.prog 61 #[.int .i64 n, .int .i64 d] w fun e w' => e = .returned (frV (numF n d) (denF n d)) ∧ Below w.heap.size w w' := by
  obtain ⟨g, hg⟩ : ∃ g : Nat, g = Nat.gcd n.natAbs d.natAbs := ⟨_, rfl⟩
  have hgp : 0 < g := by rw [hg]; exact Nat.gcd_pos_of_pos_right _ (by omega)
  have hgl : g ≤ 1000000000000000 := by
    rw [hg]
    have := Nat.gcd_le_right (m := n.natAbs) (n := d.natAbs) (by omega)
    have := bd.1; have := bd.2
    omega
  have Tg : ((g : Int) == 0) = false := beq_eq_false_iff_ne.2 (by omega)
  have Tn : (-(g : Int) == 0) = false := beq_eq_false_iff_ne.2 (by omega)
  obtain ⟨q1, q2⟩ := tdiv_b15 (g := (g : Int)) bn
  obtain ⟨r1, r2⟩ := tdiv_b15 (g := (g : Int)) bd
  obtain ⟨s1, s2⟩ := bn
  obtain ⟨t1, t2⟩ := bd
  have HG := hid hg
  by_cases hd : d < 0
  · have HE : Hid (frV (numF n d) (denF n d) = .agg #[.int .i64 (-(n.tdiv g)), .int .i64 (-(d.tdiv g))]) := hid (by
      unfold frV numF denF
      rw [frac_neg hd, ← hg, Int.tdiv_neg, Int.tdiv_neg])
    clear hg h0
    go_enter Try.func61, Try.ntmps61
    go_wp2_with (go_at_call 94; refine (commonG_any n d (by omega) (by omega) (by omega) (by omega) _).mono ?_; rw [← HG.out]; rintro e w' ⟨rfl, k, rfl⟩)
    go_region
    all_goals (try go_wp2)
    all_goals
      refine bodyPost_ret (results_cell_row rfl _ _ w.heap.size 65 #[.int .i64 (-(n.tdiv g)), .int .i64 (-(d.tdiv g))] (0, 0) _ rfl fr_two Try.underlying65 rfl (by kernel_rfl)) rfl ?_
      rw [HE.out]
      exact ⟨rfl, fr_low⟩
  · have HE : Hid (frV (numF n d) (denF n d) = .agg #[.int .i64 (n.tdiv g), .int .i64 (d.tdiv g)]) := hid (by
      unfold frV numF denF
      rw [frac_pos hd, ← hg])
    clear hg h0
    go_enter Try.func61, Try.ntmps61
    go_wp2_with (go_at_call 94; refine (commonG_any n d (by omega) (by omega) (by omega) (by omega) _).mono ?_; rw [← HG.out]; rintro e w' ⟨rfl, k, rfl⟩)
    go_region
    all_goals (try go_wp2)
    all_goals
      refine bodyPost_ret (results_cell_row rfl _ _ w.heap.size 65 #[.int .i64 (n.tdiv g), .int .i64 (d.tdiv g)] (0, 0) _ rfl fr_two Try.underlying65 rfl (by kernel_rfl)) rfl ?_
      rw [HE.out]
      exact ⟨rfl, fr_low⟩

set_option maxRecDepth 100000 in
set_option maxHeartbeats 1000000 in
theorem over_any (a b L : Int) (b1 : 1 ≤ b) (bb : B15 b) (ba : B15 a) (bL : B15 L) (bo : B15 (overF a b L)) (w : World) : Calls Try.prog 93 #[.agg #[.int .i64 a, .int .i64 b], .int .i64 L] w fun e w' => e = .returned (.int .i64 (overF a b L)) ∧ Below w.heap.size w w' := by
  have Tb : (b == 0) = false := beq_eq_false_iff_ne.2 (by omega)
  obtain ⟨q1, q2⟩ := tdiv_b15 (g := b) bL
  unfold overF at *
  obtain ⟨r1, r2⟩ := bo
  obtain ⟨s1, s2⟩ := ba
  obtain ⟨t1, t2⟩ := bb
  obtain ⟨u1, u2⟩ := bL
  go_enter Try.func93, Try.ntmps93
  go_wp2_with fail
  go_quiet (fail)
  go_wp2_with fail
  go_ret
  exact ⟨rfl, below_drewN (below_box2 _ _) _⟩

set_option maxRecDepth 100000 in
set_option maxHeartbeats 1000000 in
theorem frTimes_any (a b c d : Int) (b1 : 1 ≤ b) (d1 : 1 ≤ d) (bac : B15 (a * c)) (bbd : B15 (b * d)) (w : World) : Calls Try.prog 66 #[.agg #[.int .i64 a, .int .i64 b], .agg #[.int .i64 c, .int .i64 d]] w fun e w' => e = .returned (frV (numF (a * c) (b * d)) (denF (a * c) (b * d))) ∧ Below w.heap.size w w' := by
  have h0 : b * d ≠ 0 := Int.mul_ne_zero (by omega) (by omega)
  have HA := hid bac
  have HB := hid bbd
  have H0 := hid h0
  obtain ⟨r1, r2⟩ := bac
  obtain ⟨s1, s2⟩ := bbd
  clear h0
  obtain ⟨o1, ho1⟩ : ∃ o1, o1 = Obj.cells #[.int .i64 a, .int .i64 b] 65 := ⟨_, rfl⟩
  have H2 : Hid ((((w.alloc (.cells #[.int .i64 a, .int .i64 b] 65)).alloc (.cells #[.int .i64 c, .int .i64 d] 65)).alloc (.cells #[.int .i64 0, .int .i64 0] 65)).heap[w.heap.size + 1 + 1]? = some (.cells #[.int .i64 0, .int .i64 0] 65 (0, 0))) := hid (by
    have h := heap_alloc_new ((w.alloc (.cells #[.int .i64 a, .int .i64 b] 65)).alloc (.cells #[.int .i64 c, .int .i64 d] 65)) (.cells #[.int .i64 0, .int .i64 0] 65 (0, 0))
    rwa [World.size_alloc, World.size_alloc] at h)
  have HBL : Hid (Below w.heap.size w (((w.alloc (.cells #[.int .i64 a, .int .i64 b] 65)).alloc (.cells #[.int .i64 c, .int .i64 d] 65)).alloc (.cells #[.int .i64 0, .int .i64 0] 65))) := hid (((below_box2 _ _).alloc (by simp) _).alloc (by simp; omega) _)
  clear ho1 o1
  go_enter Try.func66, Try.ntmps66
  go_wp2_with fail
  refine (fractionOf_any _ _ HA.out HB.out H0.out _).mono ?_
  rintro e w2 ⟨rfl, hb2⟩
  have hq := (hb2.block _ (Array.getElem?_eq_some_iff.1 H2.out).1).trans H2.out
  have HBB := hid (HBL.out.trans (hb2.mono HBL.out.size))
  have z0 := cellB (i := 0) hq
  have z1 := cellB (i := 1) hq
  have y0 := frozenB (i := 0) hq
  have y1 := frozenB (i := 1) hq
  have HQ := hid hq
  clear hq hb2 H2 HBL
  go_wp2_with fail
  refine bodyPost_ret (results_cell_row rfl _ _ (w.heap.size + 1 + 1) 65 #[_, _] (0, 0) _ rfl (heap_two1 (heap_two0 HQ.out)) Try.underlying65 rfl (by kernel_rfl)) rfl ?_
  exact ⟨rfl, (HBB.out.setCell (by simp; omega) _).setCell (by simp; omega) _⟩

set_option maxRecDepth 100000 in
set_option maxHeartbeats 1000000 in
theorem stayAt_any (i j : Nat) (hi : i ≤ 10) (hj : j ≤ 10) (w : World) : Calls Try.prog 53 #[.int .i64 (i : Int), .int .i64 (j : Int)] w fun e w' => e = .returned (frV (if i = j then 1 else 0) 1) ∧ Below w.heap.size w w' := by
  by_cases h : i = j
  · subst h
    rw [if_pos rfl]
    go_enter Try.func53, Try.ntmps53
    go_wp2_with fail
    refine bodyPost_ret (results_cell_row rfl _ _ w.heap.size 65 #[_, _] (0, 0) _ rfl (heap_alloc_new _ _) Try.underlying65 rfl (by kernel_rfl)) rfl ?_
    exact ⟨rfl, below_box2 _ _⟩
  · have T : ((i : Int) == (j : Int)) = false := beq_eq_false_iff_ne.2 (by omega)
    rw [if_neg h]
    clear h
    go_enter Try.func53, Try.ntmps53
    go_wp2_with fail
    refine bodyPost_ret (results_cell_row rfl _ _ w.heap.size 65 #[_, _] (0, 0) _ rfl (heap_alloc_new _ _) Try.underlying65 rfl (by kernel_rfl)) rfl ?_
    exact ⟨rfl, below_box2 _ _⟩

def B14 (x : Int) : Prop := -100000000000000 ≤ x ∧ x ≤ 100000000000000
theorem B14.b15 {x : Int} (h : B14 x) : B15 x := by unfold B14 at h; unfold B15; omega
theorem Fr.b14n {a b N D : Int} (h : Fr a b N D) (h0 : D ≠ 0) (hn : B14 N) : B14 a := h.num_bd h0 (by omega) hn.1 hn.2
theorem Fr.b14d {a b N D : Int} (h : Fr a b N D) (h0 : D ≠ 0) (hd : B14 D) : B14 b := by
  have := h.den_bd h0 hd.1 hd.2
  unfold B14; omega
theorem b14_dvd {L D : Int} (hL : 1 ≤ L) (h : L ∣ D) (h0 : D ≠ 0) (hd : B14 D) : B14 L := by
  have := Nat.le_of_dvd (by omega : 0 < D.natAbs) (Int.natAbs_dvd_natAbs.2 h)
  unfold B14 at *; omega
def plusN (a b c d : Int) : Int := numF (overF a b (lcmI b d) + overF c d (lcmI b d)) (lcmI b d)
def plusD (a b c d : Int) : Int := denF (overF a b (lcmI b d) + overF c d (lcmI b d)) (lcmI b d)
theorem plus_is {a b N c d M D : Int} (h : Fr a b N D) (h2 : Fr c d M D) (h0 : D ≠ 0) : Fr (plusN a b c d) (plusD a b c d) (N + M) D :=
  fr_plus h h2 h0 (fr_of (by have := lcmI_pos h.pos h2.pos; omega))
set_option maxRecDepth 100000 in
set_option maxHeartbeats 4000000 in
theorem frPlus_any (a b N c d M D : Int) (h : Fr a b N D) (h2 : Fr c d M D) (h0 : D ≠ 0) (bN : B14 N) (bM : B14 M) (bD : B14 D) (w : World) : Calls Try.prog 60 #[.agg #[.int .i64 a, .int .i64 b], .agg #[.int .i64 c, .int .i64 d]] w fun e w' => e = .returned (frV (plusN a b c d) (plusD a b c d)) ∧ Below w.heap.size w w' := by
  unfold plusN plusD
  have hld := lcmI_least h.pos h2.pos h.den h2.den
  have hl1 := lcmI_pos h.pos h2.pos
  have hlv := lcmI_dvd h.pos h2.pos
  have bL := b14_dvd hl1 hld h0 bD
  have bo1 : B14 (overF a b (lcmI b d)) := over_bd h hlv.1 hld h0 (by omega) bN.1 bN.2
  have bo2 : B14 (overF c d (lcmI b d)) := over_bd h2 hlv.2 hld h0 (by omega) bM.1 bM.2
  have hba := h.b14n h0 bN
  have hbb := h.b14d h0 bD
  have hbc := h2.b14n h0 bM
  have hbd := h2.b14d h0 bD
  have p1 := h.pos
  have p2 := h2.pos
  have HM := hid (fun w => multipleOf_any b d p1 p2 hbb.b15 hbd.b15 bL.b15 w)
  have HO1 := hid (fun w => over_any a b (lcmI b d) p1 hbb.b15 hba.b15 bL.b15 bo1.b15 w)
  have HO2 := hid (fun w => over_any c d (lcmI b d) p2 hbd.b15 hbc.b15 bL.b15 bo2.b15 w)
  have bs : B15 (overF a b (lcmI b d) + overF c d (lcmI b d)) := by unfold B14 at bo1 bo2; unfold B15; omega
  have HFO := hid (fun w => fractionOf_any (overF a b (lcmI b d) + overF c d (lcmI b d)) (lcmI b d) bs bL.b15 (by omega) w)
  obtain ⟨s1, s2⟩ := bs
  obtain ⟨o1, o2⟩ := bo1
  obtain ⟨o3, o4⟩ := bo2
  generalize overF a b (lcmI b d) = O1 at *
  generalize overF c d (lcmI b d) = O2 at *
  generalize lcmI b d = L at *
  have H0 : Hid ((((w.alloc (.cells #[.int .i64 a, .int .i64 b] 65)).alloc (.cells #[.int .i64 c, .int .i64 d] 65)).alloc (.cells #[.int .i64 0, .int .i64 0] 65)).heap[w.heap.size]? = some (.cells #[.int .i64 a, .int .i64 b] 65 (0, 0))) := hid (heap_up (heap_up (heap_new rfl)))
  have H1 : Hid ((((w.alloc (.cells #[.int .i64 a, .int .i64 b] 65)).alloc (.cells #[.int .i64 c, .int .i64 d] 65)).alloc (.cells #[.int .i64 0, .int .i64 0] 65)).heap[w.heap.size + 1]? = some (.cells #[.int .i64 c, .int .i64 d] 65 (0, 0))) := hid (heap_up (heap_new (by simp)))
  have H2 : Hid ((((w.alloc (.cells #[.int .i64 a, .int .i64 b] 65)).alloc (.cells #[.int .i64 c, .int .i64 d] 65)).alloc (.cells #[.int .i64 0, .int .i64 0] 65)).heap[w.heap.size + 1 + 1]? = some (.cells #[.int .i64 0, .int .i64 0] 65 (0, 0))) := hid (heap_new (by simp))
  have HBL : Hid (Below w.heap.size w (((w.alloc (.cells #[.int .i64 a, .int .i64 b] 65)).alloc (.cells #[.int .i64 c, .int .i64 d] 65)).alloc (.cells #[.int .i64 0, .int .i64 0] 65))) := hid (((below_box2 _ _).alloc (by simp) _).alloc (by simp; omega) _)
  clear h h2 hld hl1 hlv bL hba hbb hbc hbd p1 p2 h0 bN bM bD
  go_enter Try.func60, Try.ntmps60
  go_wp2_with fail
  refine (HM.out _).mono ?_
  rintro e w2 ⟨rfl, k, rfl⟩
  go_wp2_with fail
  obtain ⟨W, hW⟩ : ∃ W, W = ((((w.alloc (.cells #[.int .i64 a, .int .i64 b] 65)).alloc (.cells #[.int .i64 c, .int .i64 d] 65)).alloc (.cells #[.int .i64 0, .int .i64 0] 65)).drewN k).drew := ⟨_, rfl⟩
  replace H0 : Hid (W.heap[w.heap.size]? = some (.cells #[.int .i64 a, .int .i64 b] 65 (0, 0))) := hid (by rw [hW]; exact H0.out)
  replace H1 : Hid (W.heap[w.heap.size + 1]? = some (.cells #[.int .i64 c, .int .i64 d] 65 (0, 0))) := hid (by rw [hW]; exact H1.out)
  replace H2 : Hid (W.heap[w.heap.size + 1 + 1]? = some (.cells #[.int .i64 0, .int .i64 0] 65 (0, 0))) := hid (by rw [hW]; exact H2.out)
  replace HBL : Hid (Below w.heap.size w W) := hid (by rw [hW]; exact below_drewN (below_drewN HBL.out k) 1)
  have HL0 := hid (Array.getElem?_eq_some_iff.1 H0.out).1
  have HL1 := hid (Array.getElem?_eq_some_iff.1 H1.out).1
  have HL2 := hid (Array.getElem?_eq_some_iff.1 H2.out).1
  refine region_inv (by kernel_rfl) (fun LB act wx => ∃ (s11 s12 s13 s14 s15 s16 s17 s18 s19 : Value), act = ({ tmps := #[.agg #[.int .i64 a, .int .i64 b], .agg #[.int .i64 c, .int .i64 d], .pointer (some ⟨w.heap.size, 0, none⟩), .pointer (some ⟨w.heap.size + 1, 0, none⟩), .pointer (some ⟨w.heap.size + 1 + 1, 0, none⟩), .int .i64 L, .pointer (some ⟨w.heap.size, 1, none⟩), .int .i64 b, .pointer (some ⟨w.heap.size + 1, 1, none⟩), .int .i64 d, .int .i64 L, s11, s12, s13, s14, s15, s16, s17, s18, s19], defers := [] } : Act) ∧ RegI 10 [[], [], [0, 1], [], [], [3, 4], [2, 5], [], [6, 7], [8]] (W) (fun wy => (wy.setCell ⟨w.heap.size + 1 + 1, 0, none⟩ (.int .i64 (numF (O1 + O2) L))).setCell ⟨w.heap.size + 1 + 1, 1, none⟩ (.int .i64 (denF (O1 + O2) L))) [.agg #[.int .i64 a, .int .i64 b], .int .i64 L, .int .i64 O1, .agg #[.int .i64 c, .int .i64 d], .int .i64 L, .int .i64 O2, .int .i64 (O1 + O2), .int .i64 L, .agg #[.int .i64 (numF (O1 + O2) L), .int .i64 (denF (O1 + O2) L)], undef] LB wx [s11, s12, s13, s14, s15, s16, s17, s18, s19, undef]) ?h0R ?hendR ?hstepR
  case h0R => exact ⟨undef, undef, undef, undef, undef, undef, undef, undef, undef, rfl, RegI.start rfl rfl hW.symm⟩
  case hstepR =>
    rintro LB act wx i ⟨s11, s12, s13, s14, s15, s16, s17, s18, s19, rfl, I⟩ hi
    obtain ⟨hi1, hf, hdep⟩ := ready_mem hi
    have hi2 : i < 10 := hi1
    have hbw := I.open (by decide) hf hi2
    have hsz := hbw.size
    have HI := hid I
    have HF := hid hf
    have hqH0 := (hbw.block _ HL0.out).trans H0.out
    have cH00 := cellB (i := 0) hqH0
    have cH01 := cellB (i := 1) hqH0
    have HQH0 := hid hqH0
    clear hqH0
    have hqH1 := (hbw.block _ HL1.out).trans H1.out
    have cH10 := cellB (i := 0) hqH1
    have cH11 := cellB (i := 1) hqH1
    have HQH1 := hid hqH1
    clear hqH1
    have hqH2 := (hbw.block _ HL2.out).trans H2.out
    have cH20 := cellB (i := 0) hqH2
    have cH21 := cellB (i := 1) hqH2
    have HQH2 := hid hqH2
    clear hqH2
    have y0 := frozenB (i := 0) HQH2.out
    have y1 := frozenB (i := 1) HQH2.out
    have HBW := hid hbw
    clear hi hi1 I hf hbw
    have hc : i = 0 ∨ i = 1 ∨ i = 2 ∨ i = 3 ∨ i = 4 ∨ i = 5 ∨ i = 6 ∨ i = 7 ∨ i = 8 ∨ i = 9 := by omega
    clear hi2
    rcases hc with rfl | rfl | rfl | rfl | rfl | rfl | rfl | rfl | rfl | rfl
    · skip
      have hq : ∀ j ∈ ([] : List Nat), dn LB j := fun _ h => absurd h List.not_mem_nil
      clear hdep
      refine wpOp_step rfl (fun K hK => ?_)
      go_simp
      exact hK _ _ ⟨_, _, _, _, _, _, _, _, _, rfl, HI.out.step HF.out (by decide) hq HBW.out rfl (by decide)⟩
    · skip
      have hq : ∀ j ∈ ([] : List Nat), dn LB j := fun _ h => absurd h List.not_mem_nil
      clear hdep
      refine wpOp_step rfl (fun K hK => ?_)
      go_simp
      exact hK _ _ ⟨_, _, _, _, _, _, _, _, _, rfl, HI.out.step HF.out (by decide) hq HBW.out rfl (by decide)⟩
    · skip
      have q0 : dn LB 0 := hdep _ rfl { on := 0, ground := .data } (by simp) rfl
      have q1 : dn LB 1 := hdep _ rfl { on := 1, ground := .data } (by simp) rfl
      have hq : ∀ j ∈ ([0, 1] : List Nat), dn LB j := List.forall_mem_cons.2 ⟨q0, List.forall_mem_cons.2 ⟨q1, fun _ h => absurd h List.not_mem_nil⟩⟩
      clear hdep
      obtain rfl : s11 = .agg #[.int .i64 a, .int .i64 b] := HI.out.val 0 q0
      obtain rfl : s12 = .int .i64 L := HI.out.val 1 q1
      refine wpOp_step rfl (fun K hK => ?_)
      go_simp
      go_at_call 93
      refine (HO1.out _).mono ?_
      rintro e wP ⟨rfl, hbk⟩
      exact hK _ _ ⟨_, _, _, _, _, _, _, _, _, rfl, HI.out.step HF.out (by decide) hq (HBW.out.trans (hbk.mono hsz)) rfl (by decide)⟩
    · skip
      have hq : ∀ j ∈ ([] : List Nat), dn LB j := fun _ h => absurd h List.not_mem_nil
      clear hdep
      refine wpOp_step rfl (fun K hK => ?_)
      go_simp
      exact hK _ _ ⟨_, _, _, _, _, _, _, _, _, rfl, HI.out.step HF.out (by decide) hq HBW.out rfl (by decide)⟩
    · skip
      have hq : ∀ j ∈ ([] : List Nat), dn LB j := fun _ h => absurd h List.not_mem_nil
      clear hdep
      refine wpOp_step rfl (fun K hK => ?_)
      go_simp
      exact hK _ _ ⟨_, _, _, _, _, _, _, _, _, rfl, HI.out.step HF.out (by decide) hq HBW.out rfl (by decide)⟩
    · skip
      have q3 : dn LB 3 := hdep _ rfl { on := 3, ground := .data } (by simp) rfl
      have q4 : dn LB 4 := hdep _ rfl { on := 4, ground := .data } (by simp) rfl
      have hq : ∀ j ∈ ([3, 4] : List Nat), dn LB j := List.forall_mem_cons.2 ⟨q3, List.forall_mem_cons.2 ⟨q4, fun _ h => absurd h List.not_mem_nil⟩⟩
      clear hdep
      obtain rfl : s14 = .agg #[.int .i64 c, .int .i64 d] := HI.out.val 3 q3
      obtain rfl : s15 = .int .i64 L := HI.out.val 4 q4
      refine wpOp_step rfl (fun K hK => ?_)
      go_simp
      go_at_call 93
      refine (HO2.out _).mono ?_
      rintro e wP ⟨rfl, hbk⟩
      exact hK _ _ ⟨_, _, _, _, _, _, _, _, _, rfl, HI.out.step HF.out (by decide) hq (HBW.out.trans (hbk.mono hsz)) rfl (by decide)⟩
    · skip
      have q2 : dn LB 2 := hdep _ rfl { on := 2, ground := .data } (by simp) rfl
      have q5 : dn LB 5 := hdep _ rfl { on := 5, ground := .data } (by simp) rfl
      have hq : ∀ j ∈ ([2, 5] : List Nat), dn LB j := List.forall_mem_cons.2 ⟨q2, List.forall_mem_cons.2 ⟨q5, fun _ h => absurd h List.not_mem_nil⟩⟩
      clear hdep
      obtain rfl : s13 = .int .i64 O1 := HI.out.val 2 q2
      obtain rfl : s16 = .int .i64 O2 := HI.out.val 5 q5
      refine wpOp_step rfl (fun K hK => ?_)
      go_simp
      rw [wrap62 (by omega) (by omega)]
      exact hK _ _ ⟨_, _, _, _, _, _, _, _, _, rfl, HI.out.step HF.out (by decide) hq HBW.out rfl (by decide)⟩
    · skip
      have hq : ∀ j ∈ ([] : List Nat), dn LB j := fun _ h => absurd h List.not_mem_nil
      clear hdep
      refine wpOp_step rfl (fun K hK => ?_)
      go_simp
      exact hK _ _ ⟨_, _, _, _, _, _, _, _, _, rfl, HI.out.step HF.out (by decide) hq HBW.out rfl (by decide)⟩
    · skip
      have q6 : dn LB 6 := hdep _ rfl { on := 6, ground := .data } (by simp) rfl
      have q7 : dn LB 7 := hdep _ rfl { on := 7, ground := .data } (by simp) rfl
      have hq : ∀ j ∈ ([6, 7] : List Nat), dn LB j := List.forall_mem_cons.2 ⟨q6, List.forall_mem_cons.2 ⟨q7, fun _ h => absurd h List.not_mem_nil⟩⟩
      clear hdep
      obtain rfl : s17 = .int .i64 (O1 + O2) := HI.out.val 6 q6
      obtain rfl : s18 = .int .i64 L := HI.out.val 7 q7
      refine wpOp_step rfl (fun K hK => ?_)
      go_simp
      go_at_call 61
      refine (HFO.out _).mono ?_
      rintro e wP ⟨rfl, hbk⟩
      exact hK _ _ ⟨_, _, _, _, _, _, _, _, _, rfl, HI.out.step HF.out (by decide) hq (HBW.out.trans (hbk.mono hsz)) rfl (by decide)⟩
    · skip
      have q8 : dn LB 8 := hdep _ rfl { on := 8, ground := .data } (by simp) rfl
      have hq : ∀ j ∈ ([8] : List Nat), dn LB j := List.forall_mem_cons.2 ⟨q8, fun _ h => absurd h List.not_mem_nil⟩
      clear hdep
      obtain rfl : s19 = .agg #[.int .i64 (numF (O1 + O2) L), .int .i64 (denF (O1 + O2) L)] := HI.out.val 8 q8
      refine wpOp_step rfl (fun K hK => ?_)
      go_simp
      exact hK _ _ ⟨_, _, _, _, _, _, _, _, _, rfl, HI.out.last HF.out rfl (by decide) hq HBW.out rfl rfl⟩
  case hendR =>
    rintro LB act wx ⟨s11, s12, s13, s14, s15, s16, s17, s18, s19, rfl, I⟩ hrd
    have D := all_done2 I.hs (by kernel_rfl) hrd
    obtain ⟨wy, hby, rfl⟩ := I.he (D 9 (by decide))
    have hq := (hby.block _ HL2.out).trans H2.out
    have HBF := hid (HBL.out.trans (hby.mono HBL.out.size))
    have HQ := hid hq
    clear I D hrd hby hq
    go_wp2_with fail
    refine bodyPost_ret (results_cell_row rfl _ _ (w.heap.size + 1 + 1) 65 #[_, _] (0, 0) _ rfl (heap_two1 (heap_two0 HQ.out)) Try.underlying65 rfl (by kernel_rfl)) rfl ?_
    exact ⟨rfl, (HBF.out.setCell (by simp; omega) _).setCell (by simp; omega) _⟩

end Go.Proofs.Ytjabklpnohfjpab
