/-
  Some texts in one file: AppOne Mx6 Mx7 Mx9 MxA.
-/
import Derived.Test.YtjabklpnohfjpabQOwn2
import Derived.Maps.AppendAt
import Derived.Deep.RegionLaw
import Derived.Test.YtjabklpnohfjpabQBun25
import Derived.Test.YtjabklpnohfjpabQFm2
import Derived.Test.YtjabklpnohfjpabQBun7
import Derived.Deep.OwnRows
/-! AppOne -/
set_option linter.unusedVariables false
namespace Go.Proofs.Ytjabklpnohfjpab
open Go.RowKit

theorem append_one {wd : World} {base : Nat} {so : Value} {xs : List Int} (x : Int) (ho : Owns wd base so xs) (hb : base ≤ wd.heap.size) (hl : xs.length ≤ 1000000) :
    ∃ v' w', (Builtin.append_ #[22, 22] 22 #[so, .slice (some ⟨wd.heap.size, 0, none⟩) 1 1]).run Try.prog (wd.alloc (.cells #[.int .i64 x] 3)) = .ok v' w' ∧ Owns w' base v' (xs ++ [x]) ∧ (wd.alloc (.cells #[.int .i64 x] 3)).grownBy w' so.ownBlock := by
  obtain ⟨i0, hi, hz0, hz1, hz2⟩ := info_parts infoInt
  obtain ⟨v', w', h1, h2, h3, _, _⟩ := run_append_own_at (P := Try.prog) (w := wd.alloc (.cells #[.int .i64 x] 3)) base 22 22 3 i0 (.int .i64 0) 1 8 Try.underlying22 hi hz0 hz1 hz2 rfl (by decide) so xs.length _ ((show World.ownsRow _ _ _ _ _ _ _ from ho).alloc _) ⟨wd.heap.size, 0, none⟩ 1 1 [.int .i64 x] rfl (cell_one_new _ _ _) (by simp [Value.oneCell']) (by unfold maxLen; omega) (by omega) (by simp; omega)
  refine ⟨v', w', h1, ?_, h3⟩
  unfold Owns
  rw [List.length_append, List.map_append]
  exact h2
/-- the same as one step of such a region -/
theorem step_append_told {ops : Array Oper} {o : Oper} {a : Act} {W w' : World} {K : Act → World → Prop} {Q : Exit → Act → World → Prop} {E : Prop} (hgd : o.guard = none) (s x : Operand) (so xv v' : Value)
    (hop : o.op = .call { callee := .builtin .append, args := #[s, x], argTypes := #[22, 22] }) (ht : o.type = 22) (hs : a.eval s = so) (hx : a.eval x = xv)
    (hrun : (Builtin.append_ #[22, 22] 22 #[so, xv]).run Try.prog W = .ok v' w') (hK : K (a.put o.dst v') w') :
    if Region.wanted o (yielded ops a.tmps) = true then Oper.wp Try.prog o a W K Q else E := by
  have hw : Region.wanted o (yielded ops a.tmps) = true := by simp [Region.wanted, hgd]
  rw [if_pos hw]
  unfold Oper.wp execOp
  simp only [hop, ht, resolve, invoke, builtin, Sem.run_bind, Sem.run_pure, Result.andThen_ok, List.map_toArray, List.map_cons, List.map_nil, hs, hx, hrun]
  exact hK

end Go.Proofs.Ytjabklpnohfjpab

/-! Mx6 -/
set_option linter.unusedVariables false
namespace Go.Proofs.Ytjabklpnohfjpab
open Go.RowKit

theorem back_bd {x f z : Int} (hx : -1000000 ≤ x ∧ x ≤ 1000000) (hf : -30 ≤ f ∧ f ≤ 30) (hz : -810000 ≤ z ∧ z ≤ 810000) : (-30000000 ≤ x * f ∧ x * f ≤ 30000000) ∧ (-24300000000000 ≤ x * f * z ∧ x * f * z ≤ 24300000000000) := by
  have e1 : (x * f).natAbs ≤ 1000000 * 30 := by rw [Int.natAbs_mul]; exact Nat.mul_le_mul (by omega) (by omega)
  have e2 : (x * f * z).natAbs ≤ 1000000 * 30 * 810000 := by rw [Int.natAbs_mul]; exact Nat.mul_le_mul e1 (by omega)
  exact ⟨by omega, by omega⟩
theorem all_bd {xs : List Int} (h : fvB xs = true) : allI xs ≤ 810000 := by
  have := prod_full h
  unfold allI
  omega

set_option maxRecDepth 100000 in
set_option maxHeartbeats 8000000 in
theorem moveBackS_any (vf va : Value) (xs : List Int) (A : List (List Int)) (a : Int) (w : World) (hx : Rd w vf xs) (hA : RdM w va A) : Calls Try.prog 29 #[vf, .agg #[va, .int .i64 a]] w (MovePost (backW xs A a) w) := by
  obtain ⟨aa, ca, rfl⟩ := hA.form
  obtain ⟨ax, cx, rfl, _⟩ := hx.form
  obtain ⟨W0, hW0⟩ : ∃ W0, W0 = (w.alloc (.cells #[.slice aa A.length ca, .int .i64 a] 29)).alloc (.cells #[.slice none 0 0, .int .i64 0] 29) := ⟨_, rfl⟩
  have hB3 : Below w.heap.size w W0 := by rw [hW0]; exact ((Below.refl _ _).alloc (Nat.le_refl _) _).alloc (by simp) _
  have h0 : W0.heap[w.heap.size]? = some (.cells #[.slice aa A.length ca, .int .i64 a] 29 (0, 0)) := by
    rw [hW0, Below.heap_alloc _ _ _ (by simp)]
    exact World.alloc_heap_new w _
  have h2 : W0.heap[w.heap.size + 1]? = some (.cells #[.slice none 0 0, .int .i64 0] 29 (0, 0)) := by
    rw [hW0]
    have h := World.alloc_heap_new (w.alloc (.cells #[.slice aa A.length ca, .int .i64 a] 29)) (.cells #[.slice none 0 0, .int .i64 0] 29)
    rw [World.size_alloc] at h
    exact h
  have HX := hid (hx.keep hB3)
  have HA := hid (hA.keep hB3)
  have HB := hid hB3
  have H0 := hid h0
  have H2 := hid h2
  have HVA := hid (fun (wx : World) (h1 : Rd wx (.slice ax xs.length cx) xs) (h2 : RdM wx (.slice aa A.length ca) A) => moveValidS_any (.slice ax xs.length cx) (.slice aa A.length ca) xs A a wx h1 h2)
  have HW0 := hid hW0
  clear hx hA hB3 hW0 h0 h2
  cases hva : moveB xs A a with
  | false =>
    have HE : Hid (backW xs A a = none) := hid (by unfold backW; rw [hva]; rfl)
    rw [hva] at HVA
    clear hva
    go_enter Try.func29, Try.ntmps29
    go_wp2_with fail
    refine (HVA.out _ (by rw [← HW0.out]; exact HX.out) (by rw [← HW0.out]; exact HA.out)).mono ?_
    rintro e w2 ⟨rfl, hb2⟩
    rw [← HW0.out] at hb2
    have HB2 := hid (HB.out.trans (hb2.mono HB.out.size))
    have hr2 := (hb2.block _ (Array.getElem?_eq_some_iff.1 H2.out).1).trans H2.out
    have x0 := cellB (i := 0) hr2
    have x1 := cellB (i := 1) hr2
    have y0 := frozenB (i := 0) hr2
    have y1 := frozenB (i := 1) hr2
    clear hb2 hr2
    go_wp2_with fail
    refine bodyPost_ret (v := .tuple #[.agg #[.slice none 0 0, .int .i64 0], .bool false]) (by simp [results, Try.results29, go_sem]; go_simp) rfl ?_
    rw [HE.out]
    exact movePost_none HB2.out (by omega) _ _
  | true =>
      have hMA := moveB_iff.1 hva
      rw [hva] at HVA
      obtain ⟨i0, hi0, hz0, hz1, hz2⟩ := info_parts infoInt
      obtain ⟨i1, hi1, hy0, hy1, hy2⟩ := info_parts infoRow
      have HMA := hid hMA
      have hn1 := (fvB_iff.1 hMA.form).2.1
      have hn3 := hMA.l3
      have HAL := hid hMA.sq.1
      obtain ⟨da1, da2⟩ := hMA.den
      have hall1 := all_pos hMA.form
      have hall2 := all_bd hMA.form
      have HPF := hid (prod_full hMA.form)
      have HTRM := hid (fun i (hi : i < xs.length) => And.intro (term_ne hMA.form hi) (fv_at hMA.form hi).2)
      obtain ⟨ba, oa, _, rfl, _, _⟩ := HA.out.row (i := 0) (by have := HAL.out; omega)
      have HMV : Hid (backW xs A a = tidyV xs (matL xs.length (backF (fF xs) (allI xs) (at2 A))) (a * allI xs)) := hid (by unfold backW; rw [hva]; rfl)
      obtain ⟨M, hM⟩ : ∃ M, M = backF (fF xs) (allI xs) (at2 A) := ⟨_, rfl⟩
      have HM := hid hM
      rw [← hM] at HMV
      have HPS : Hid (allI xs = ((prodI xs).natAbs : Nat)) := hid rfl
      obtain ⟨al, hal⟩ : ∃ al, al = allI xs := ⟨_, rfl⟩
      rw [← hal] at HM HMV hall1 hall2 HPS
      obtain ⟨pr, hpr⟩ : ∃ pr, pr = prodI xs := ⟨_, rfl⟩
      have HPC : Hid (∀ (wx : World), Rd wx (.slice ax xs.length cx) xs → Calls Try.prog 64 #[.slice ax xs.length cx] wx fun e w' => e = .returned (.int .i64 pr) ∧ wx = w') := hid (fun wx h => by rw [hpr]; exact l4Product_any _ xs wx h HMA.out.form)
      rw [← hpr] at HPF HPS
      have HSC : Hid (∀ (wx : World), Calls Try.prog 63 #[.int .i64 pr] wx fun e w' => e = .returned (.int .i64 al) ∧ wx = w') := hid (fun wx => by rw [HPS.out]; exact l1Size_any pr (by have := HPF.out; omega) (by have := HPF.out; omega) wx)
      have hMbd : ∀ i k, i < xs.length → k < xs.length → -24300000000000 ≤ M i k ∧ M i k ≤ 24300000000000 := fun i k hi hk => by
        rw [HM.out]
        have hz := low_bd (x := al) (g := fF xs i) (m := 810000) (by omega) (by omega)
        exact (back_bd (hMA.at_bd k i) (HTRM.out k hk).2 (by omega)).2
      have HMBD := hid hMbd
      have hden := back_bd (x := al) (f := 30) (z := a) (by omega) (by omega) (by omega)
      have m0 : (a * al).natAbs ≤ 10000 * 810000 := by rw [Int.natAbs_mul]; exact Nat.mul_le_mul (by omega) (by omega)
      have m1 : -8100000000 ≤ a * al := by omega
      have m2 : a * al ≤ 8100000000 := by omega
      have hab1 : 1 ≤ a * al := Int.mul_pos (by omega) (by omega)
      clear hva hMA hM hMbd hal hpr hden m0
      go_enter Try.func29, Try.ntmps29
      go_wp2_with fail
      refine (HVA.out _ (by rw [← HW0.out]; exact HX.out) (by rw [← HW0.out]; exact HA.out)).mono ?_
      rintro e w3 ⟨rfl, hb3⟩
      rw [← HW0.out] at hb3
      have HB3 := hid (HB.out.trans (hb3.mono HB.out.size))
      have HX3 := hid (HX.out.keep hb3)
      have HA3 := hid (HA.out.keep hb3)
      have H03 := hid ((hb3.block _ (Array.getElem?_eq_some_iff.1 H0.out).1).trans H0.out)
      have H23 := hid ((hb3.block _ (Array.getElem?_eq_some_iff.1 H2.out).1).trans H2.out)
      have HOW0 := hid (ownM_none w3 none (by simp))
      have HBW0 := hid ((Below.refl w3.heap.size w3).alloc (Nat.le_refl _) (.cells #[] 22))
      clear hb3
      go_wp2_with fail
      refine (HPC.out _ HX3.out).mono ?_
      rintro e w' ⟨rfl, rfl⟩
      go_wp2_with fail
      refine (HSC.out _).mono ?_
      rintro e w' ⟨rfl, rfl⟩
      go_wp2_with fail
      go_loopw [7, 8, 9, 10] (fun su si sr sk wr => ∃ i : Nat, si = .int .i64 i ∧ i ≤ xs.length ∧ Hid (OwnM wr w3.heap.size none su ((matL xs.length M).take i)) ∧ Hid (Below w3.heap.size w3 wr)) (fun _ si _ _ _ => xs.length - (intOf si).toNat)
      case atStart => exact ⟨0, rfl, by omega, HOW0, HBW0⟩
      case round =>
        obtain ⟨i, rfl, hi, HOW, HBW⟩ := hrel
        rename World => wr
        by_cases hlt : i < xs.length
        · have hlti : (i : Int) < (xs.length : Int) := by omega
          have HLT := hid hlt
          have HR0 : Hid (Owns (wr.alloc (.cells #[] 3)) wr.heap.size (.slice (some ⟨wr.heap.size, 0, none⟩) 0 0) []) := hid (World.ownsRow_made (size := 1) wr #[] 0 (Nat.le_refl _) (by unfold maxLen; omega) rfl)
          have HBR0 := hid ((Below.refl wr.heap.size wr).alloc (Nat.le_refl _) (.cells #[] 3))
          clear hlt hi
          go_wp2_with fail
          go_loopw [9, 10] (fun sr sk wr' => ∃ k : Nat, sk = .int .i64 k ∧ k ≤ xs.length ∧ Hid (Owns wr' wr.heap.size sr ((rowL xs.length (M i)).take k)) ∧ Hid (Below wr.heap.size wr wr')) (fun _ sk _ => xs.length - (intOf sk).toNat)
          case atStart => exact ⟨0, rfl, by omega, hid (by simpa using HR0.out), HBR0⟩
          case round =>
            obtain ⟨k, rfl, hk, HRW, HBR⟩ := hrel
            rename World => wq
            by_cases hlk : k < xs.length
            · have hlki : (k : Int) < (xs.length : Int) := by omega
              have hik := HLT.out
              have hb3q := HBW.out.trans (HBR.out.mono HBW.out.size)
              have h03 := (hb3q.block _ (Array.getElem?_eq_some_iff.1 H03.out).1).trans H03.out
              have p0 := cellB (i := 0) h03
              obtain ⟨b2, o2, c2, hrc, hce⟩ := row_cells (HA3.out.keep hb3q) (t := k) (by have := HAL.out; omega) (show 0 < xs.length by omega) (HMA.out.row_len hlk)
              have e1 := hce i hik
              have hx2 := HX3.out.keep hb3q
              obtain ⟨ax2, cx2, ex, hfx⟩ := hx2.form
              simp only [Value.slice.injEq, true_and] at ex
              obtain ⟨rfl, rfl⟩ := ex
              obtain ⟨bx, ox, rfl, _, hxc⟩ := hfx (by omega)
              have e2 := hxc k hlk
              have e3 := hxc i hik
              have HTK := hid (rowL_take xs.length (M i) hlk)
              have hMe : M i k = at2 A k i * xs.getD k 0 * (al.tdiv (xs.getD i 0)) := by rw [HM.out]; rfl
              have bz := low_bd (x := al) (g := xs.getD i 0) (m := 810000) (by omega) (by omega)
              have bb := back_bd (HMA.out.at_bd k i) (HTRM.out k hlk).2 (z := al.tdiv (xs.getD i 0)) (by omega)
              have bx1 := HMA.out.at_bd k i
              have bt1 := (HTRM.out k hlk).2
              have bt2 := (HTRM.out i hik)
              have hfk : fF xs k = xs.getD k 0 := rfl
              have hfi : fF xs i = xs.getD i 0 := rfl
              rw [hfi] at bt2
              obtain ⟨x, hxe⟩ : ∃ x, x = at2 A k i := ⟨_, rfl⟩
              obtain ⟨f, hfe⟩ : ∃ f, f = xs.getD k 0 := ⟨_, rfl⟩
              obtain ⟨g, hge⟩ : ∃ g, g = xs.getD i 0 := ⟨_, rfl⟩
              rw [← hxe] at e1 hMe bb bx1
              rw [← hfe] at e2 hMe bb bt1
              rw [← hge] at e3 hMe bb bt2 bz
              obtain ⟨z, hze⟩ : ∃ z, z = al.tdiv g := ⟨_, rfl⟩
              have q0 : (g == 0) = false := by rw [beq_eq_false_iff_ne]; exact bt2.1
              have q9 := bt2.1
              have f0 := wrapW (x := al.tdiv g) (by omega) (by omega)
              rw [← hze] at hMe bb bz
              have HZE : al.tdiv g = z := hze.symm
              rw [HZE] at f0
              obtain ⟨⟨c1, c2'⟩, c3, c4⟩ := bb
              obtain ⟨d1, d2⟩ := bz
              obtain ⟨d3, d4⟩ := bx1
              obtain ⟨d5, d6⟩ := bt1
              obtain ⟨_, d7, d8⟩ := bt2
              have f1 := wrapW (x := x * f) (by omega) (by omega)
              have f2 := wrapW (x := x * f * z) (by omega) (by omega)
              rw [hMe] at HTK
              have hkA : (k : Int) < (A.length : Int) := by have := HAL.out; omega
              obtain ⟨pre, hpre⟩ : ∃ pre, pre = (rowL xs.length (M i)).take k := ⟨_, rfl⟩
              have hprel : pre.length ≤ 4 := by rw [hpre, List.length_take, row_len]; omega
              rw [← hpre] at HRW HTK
              have hbs : wr.heap.size ≤ wq.heap.size := HBR.out.size
              obtain ⟨v', w5, hrun, hown', hgrow⟩ := append_one (wd := wq.drew) (x * f * z) (show Owns wq.drew wr.heap.size _ pre from HRW.out) hbs (by omega)
              have HRUN : Hid ((Builtin.append_ #[22, 22] 22 #[u9, .slice (some ⟨wq.heap.size, 0, none⟩) 1 1]).run Try.prog ((wq.alloc (.cells #[.int .i64 (x * f * z)] 3)).drew) = .ok v' w5) := hid hrun
              have HBX := hid ((below_dw HBR.out).alloc hbs (.cells #[.int .i64 (x * f * z)] 3))
              have hbz : wr.heap.size ≤ (wq.drew.alloc (.cells #[.int .i64 (x * f * z)] 3)).heap.size := HBX.out.size
              have HOWN := hid hown'
              have HGR := hid hgrow
              have HLK := hid hlk
              clear hlk hk h03 hb3q hce hfx hxc hx2 hxe hfe hge hze hMe hpre hrun hown' hgrow hfk hfi
              go_wp2_with fail
              go_region_law (refine step_append_told rfl (.tmp 34) (.tmp 55) u9 (.slice (some ⟨wq.heap.size, 0, none⟩) 1 1) v' rfl rfl rfl rfl HRUN.out ?_)
              all_goals (
                go_wp2
                go_roundw
                case measure => simp only [intOf]; have := HLK.out; omega
                case rel => exact ⟨k + 1, by go_num, by have := HLK.out; omega, hid (by rw [HTK.out]; exact HOWN.out), hid (HBX.out.grown HGR.out hbz (fun k e => (HRW.out.ge k e)))⟩)
            · have hke : k = xs.length := by omega
              have HRF : Hid (Owns wq wr.heap.size _ (rowL xs.length (M i))) := hid (by have h := HRW.out; rw [List.take_of_length_le (by rw [row_len]; omega)] at h; exact h)
              obtain ⟨ar, cr, hre⟩ := HRF.out.reads
              rw [row_len] at hre
              subst hre
              have hge : ¬ (k : Int) < (xs.length : Int) := by omega
              have hsw := HBW.out.size
              have hbs : wr.heap.size ≤ wq.heap.size := HBR.out.size
              have HTR := hid (matL_take xs.length M HLT.out)
              obtain ⟨P, hP⟩ : ∃ P, P = (matL xs.length M).take i := ⟨_, rfl⟩
              have hPl : P.length ≤ 4 := by rw [hP, List.length_take, matL_len]; omega
              rw [← hP] at HTR HOW
              obtain ⟨vals, SN⟩ := ownM_snoc HOW.out HBR.out hsw HRF.out (fun k e => by cases e)
              have HSN := hid SN
              have hw3q : w3.heap.size ≤ wq.heap.size := Nat.le_trans hsw hbs
              clear SN hP hke hlk hk
              go_wp2_with (at_builtin; refine wpList_append_own_at _ rfl _ _ 23 rfl w3.heap.size 22 i1 (.slice none 0 0) 1 24 Try.underlying23 hi1 hy0 hy1 hy2 rfl (by decide) _ _ _ rfl ((show World.ownsRow wq _ _ _ _ _ _ from HSN.out.row).alloc _) ⟨wq.heap.size, 0, none⟩ 1 1 [.slice ar xs.length cr] rfl rfl (cell_one_new _ _ _) (by simp [Value.oneCell']) (by unfold maxLen; omega) (by omega) (by simp; omega) ?_; intro v' w5 hown' hgrow _ hat; have hsn := HSN.out.fin _ _ _ hown' hgrow hat; have HSG := hid hgrow; have HSN3 := hid hsn; clear hown' hat hsn hgrow)
              go_roundw
              case measure => simp only [intOf]; have := HLT.out; omega
              case rel =>
                have hbq := HBW.out.trans (HBR.out.mono hsw)
                refine ⟨i + 1, by go_num, by have := HLT.out; omega, hid ?_, hid ?_⟩
                · rw [HTR.out]
                  exact HSN3.out
                · exact (hbq.alloc hbq.size _).grown HSG.out (by simp; omega) (fun k e => (HOW.out.lt k e).1)
        · have hie : i = xs.length := by omega
          have HOF := HOW.out
          rw [List.take_of_length_le (by rw [matL_len]; omega)] at HOF
          have HOF2 := hid HOF
          have h03 := (HBW.out.block _ (Array.getElem?_eq_some_iff.1 H03.out).1).trans H03.out
          have p0 := cellB (i := 1) h03
          have hge : ¬ (i : Int) < (xs.length : Int) := by omega
          have HLOW := hid (fun (wx : World) (v : Value) (h : RdM wx v (matL xs.length M)) => l7Low_any v (matL xs.length M) (a * al) wx h (by omega) (by omega) (by omega) (by rw [matL_len]; omega) (by rw [matL_len]; omega) (fun i hi => by rw [matL_len] at hi; rw [matL_row _ hi, row_len]; omega) (fun i k => by have := matL_bd (m := 24300000000000) (by omega) (fun i k hi hk => HMBD.out i k hi hk) (n := xs.length) i k; omega))
          have HTI := HMV.out
          unfold tidyV at HTI
          obtain ⟨R2, hR2⟩ : ∃ R2, R2 = lowR (matL xs.length M) (a * al) := ⟨_, rfl⟩
          obtain ⟨d2, hd2⟩ : ∃ d2, d2 = lowD (matL xs.length M) (a * al) := ⟨_, rfl⟩
          rw [← hR2, ← hd2] at HTI
          rw [← hR2, ← hd2] at HLOW
          have HT := hid HTI
          have HWS : Hid (w.heap.size + 2 ≤ wr.heap.size) := hid (by
            have h1 := HBW.out.size
            have h2 := Array.getElem?_eq_some_iff.1 H23.out
            obtain ⟨h2, _⟩ := h2
            omega)
          have HRW := hid (HBW.out.block _ (Array.getElem?_eq_some_iff.1 H23.out).1 |>.trans H23.out)
          have HBR := hid (HB3.out.trans (HBW.out.mono HB3.out.size))
          have HXR := hid (HX3.out.keep HBW.out)
          clear hlt hie HOF h03 hR2 hd2 HTI hi
          go_wp2_with fail
          refine (HLOW.out _ _ HOF2.out.rd).mono ?_
          rintro e w4 ⟨u2, rfl, ho2, hb4⟩
          obtain ⟨ua, uc, rfl⟩ := ho2.rd.form
          have hb5 := hb4.alloc hb4.size (.cells #[.slice ua R2.length uc, .int .i64 d2] 29)
          have HO5 := hid (ho2.keep ((Below.refl _ _).alloc (Nat.le_refl _) (.cells #[.slice ua R2.length uc, .int .i64 d2] 29)))
          have HE5 := hid (heap_alloc_new w4 (.cells #[.slice ua R2.length uc, .int .i64 d2] 29))
          have HR5 := hid ((hb5.block _ (Array.getElem?_eq_some_iff.1 HRW.out).1).trans HRW.out)
          have HX5 := hid (HXR.out.keep hb5)
          have HB5 := hid (HBR.out.trans (hb5.mono HBR.out.size))
          clear ho2 hb4 hb5 p0
          cases hmv : moveB xs R2 d2 with
          | false =>
            have HE : Hid (backW xs A a = none) := hid (by rw [HT.out, hmv]; rfl)
            have HMVC := hid (fun (wx : World) (v : Value) (h1 : Rd wx (.slice ax xs.length cx) xs) (h : RdM wx v R2) => moveValidS_any (.slice ax xs.length cx) v xs R2 d2 wx h1 h)
            rw [hmv] at HMVC
            clear hmv
            go_wp2_with fail
            refine (HMVC.out _ _ HX5.out HO5.out.rd).mono ?_
            rintro e w6 ⟨rfl, hb6⟩
            have hr6 := (hb6.block _ (Array.getElem?_eq_some_iff.1 HR5.out).1).trans HR5.out
            have x0 := cellB (i := 0) hr6
            have x1 := cellB (i := 1) hr6
            have y0 := frozenB (i := 0) hr6
            have y1 := frozenB (i := 1) hr6
            have HB6 := hid (HB5.out.trans (hb6.mono HB5.out.size))
            clear hr6 hb6
            go_wp2_with fail
            refine bodyPost_ret (v := .tuple #[.agg #[.slice none 0 0, .int .i64 0], .bool false]) (by simp [results, Try.results29, go_sem]; go_simp) rfl ?_
            rw [HE.out]
            exact movePost_none HB6.out (by omega) _ _
          | true =>
            have HE : Hid (backW xs A a = some (R2, d2)) := hid (by rw [HT.out, hmv, if_pos rfl])
            have HMVC := hid (fun (wx : World) (v : Value) (h1 : Rd wx (.slice ax xs.length cx) xs) (h : RdM wx v R2) => moveValidS_any (.slice ax xs.length cx) v xs R2 d2 wx h1 h)
            rw [hmv] at HMVC
            clear hmv
            go_wp2_with fail
            refine (HMVC.out _ _ HX5.out HO5.out.rd).mono ?_
            rintro e w6 ⟨rfl, hb6⟩
            have hr6 := (hb6.block _ (Array.getElem?_eq_some_iff.1 HR5.out).1).trans HR5.out
            have he6 := (hb6.block _ (Array.getElem?_eq_some_iff.1 HE5.out).1).trans HE5.out
            have x0 := cellB (i := 0) hr6
            have x1 := cellB (i := 1) hr6
            have y0 := frozenB (i := 0) hr6
            have y1 := frozenB (i := 1) hr6
            have z0 := cellB (i := 0) he6
            have z1 := cellB (i := 1) he6
            have HB6 := hid (HB5.out.trans (hb6.mono HB5.out.size))
            have HO6 := hid (HO5.out.keep hb6)
            clear hr6 he6 hb6
            go_wp2_with fail
            refine bodyPost_ret (v := .tuple #[.agg #[.slice ua R2.length uc, .int .i64 d2], .bool true]) (by simp [results, Try.results29, go_sem]; go_simp) rfl ?_
            rw [HE.out]
            exact movePost_some HO6.out HB6.out (by omega) (by have := HWS.out; omega) _ _

end Go.Proofs.Ytjabklpnohfjpab

/-! Mx7 -/
set_option linter.unusedVariables false
namespace Go.Proofs.Ytjabklpnohfjpab
open Go.RowKit

theorem mirr_bd {f y z : Int} (hf : -30 ≤ f ∧ f ≤ 30) (hy : -1000 ≤ y ∧ y ≤ 1000) (hz : -1000 ≤ z ∧ z ≤ 1000) : (-60 ≤ 2 * f ∧ 2 * f ≤ 60) ∧ (-60000 ≤ 2 * f * y ∧ 2 * f * y ≤ 60000) ∧ (-60000000 ≤ 2 * f * y * z ∧ 2 * f * y * z ≤ 60000000) := by
  have e0 : (2 * f).natAbs ≤ 60 := by omega
  have e1 : (2 * f * y).natAbs ≤ 60 * 1000 := by rw [Int.natAbs_mul]; exact Nat.mul_le_mul e0 (by omega)
  have e2 : (2 * f * y * z).natAbs ≤ 60 * 1000 * 1000 := by rw [Int.natAbs_mul]; exact Nat.mul_le_mul e1 (by omega)
  exact ⟨by omega, by omega, by omega⟩
theorem val_bd3 {xs vs : List Int} {m : Int} (hm : 0 ≤ m) (hf : fvB xs = true) (h3 : xs.length ≤ 3) (hv : ∀ i, i < xs.length → -m ≤ fF vs i ∧ fF vs i ≤ m) : -(90 * (m * m)) ≤ valI xs vs xs.length ∧ valI xs vs xs.length ≤ 90 * (m * m) := by
  rw [val_pr]
  have h := sum_bd (f := fun r => fF xs r * fF vs r * fF vs r) (m := 30 * (m * m)) (Int.mul_nonneg (by omega) (Int.mul_nonneg hm hm)) xs.length fun r hr => by
    have h1 := (fv_at hf hr).2
    have h2 := hv r hr
    have e1 : (fF xs r * fF vs r * fF vs r).natAbs ≤ 30 * (m.natAbs * m.natAbs) := by
      rw [Int.natAbs_mul, Int.natAbs_mul, Nat.mul_assoc]
      exact Nat.mul_le_mul (by show (xs.getD r 0).natAbs ≤ 30; omega) (Nat.mul_le_mul (by omega) (by omega))
    have e2 : ((m.natAbs * m.natAbs : Nat) : Int) = m * m := by rw [← Int.natAbs_mul]; exact Int.natAbs_of_nonneg (Int.mul_nonneg hm hm)
    omega
  have hmm : 0 ≤ m * m := Int.mul_nonneg hm hm
  unfold prF
  rcases form_n3 hf h3 with e | e | e <;> rw [e] at h ⊢ <;> constructor <;> omega

set_option maxRecDepth 100000 in
set_option maxHeartbeats 8000000 in
theorem moveMirrorS_any (vf vv : Value) (xs ws : List Int) (w : World) (hx : Rd w vf xs) (hv : Rd w vv ws) : Calls Try.prog 25 #[vf, vv] w (MovePost (mirV xs ws) w) := by
  obtain ⟨ax, cx, rfl, _⟩ := hx.form
  obtain ⟨av, cv, rfl, _⟩ := hv.form
  have hB0 := below_box2 w (.cells #[.slice none 0 0, .int .i64 0] 29)
  have h0 := heap_alloc_new w (.cells #[.slice none 0 0, .int .i64 0] 29)
  have x0 := cellB (i := 0) h0
  have x1 := cellB (i := 1) h0
  have y0 := frozenB (i := 0) h0
  have y1 := frozenB (i := 1) h0
  have HX := hid (hx.keep hB0)
  have HV := hid (hv.keep hB0)
  have HB := hid hB0
  have H0 := hid h0
  clear hx hv hB0 h0
  cases hf : frm3B xs with
  | false =>
    have HF := hid hf
    have HE : Hid (mirV xs ws = none) := hid (by unfold mirV; rw [hf]; rfl)
    clear hf
    go_enter Try.func25, Try.ntmps25
    go_wp2_with (go_at_call 49; refine (l7Form_any _ xs _ HX.out).mono ?_; rw [HF.out]; rintro e w' ⟨rfl, rfl⟩)
    refine bodyPost_ret (v := .tuple #[.agg #[.slice none 0 0, .int .i64 0], .bool false]) (by simp [results, Try.results25, go_sem]) rfl ?_
    rw [HE.out]
    exact ⟨_, rfl, ownM_nil _ _ _, HB.out⟩
  | true =>
    have HF := hid hf
    cases hvb : vecB xs ws 1000 with
    | false =>
      have HVB := hid hvb
      have HE : Hid (mirV xs ws = none) := hid (by unfold mirV; rw [hf, hvb]; rfl)
      clear hf hvb
      go_enter Try.func25, Try.ntmps25
      go_wp2_with (first | (go_at_call 49; refine (l7Form_any _ xs _ HX.out).mono ?_; rw [HF.out]; rintro e w' ⟨rfl, rfl⟩) | (go_at_call 54; refine (l4Vector_any _ _ _ _ 1000 (by decide) (by decide) _ HX.out HV.out).mono ?_; rw [HVB.out]; rintro e w' ⟨rfl, rfl⟩))
      refine bodyPost_ret (v := .tuple #[.agg #[.slice none 0 0, .int .i64 0], .bool false]) (by simp [results, Try.results25, go_sem]) rfl ?_
      rw [HE.out]
      exact ⟨_, rfl, ownM_nil _ _ _, HB.out⟩
    | true =>
      have HVB := hid hvb
      have hfv : fvB xs = true := by unfold frm3B at hf; rw [Bool.and_eq_true] at hf; exact hf.1
      have hn3 : xs.length ≤ 3 := by unfold frm3B at hf; rw [Bool.and_eq_true, decide_eq_true_eq] at hf; exact hf.2
      have hn1 := (fvB_iff.1 hfv).2.1
      obtain ⟨hwb, _, hwl⟩ := vecB_iff.1 hvb
      have hwat : ∀ i, i < xs.length → -1000 ≤ fF ws i ∧ fF ws i ≤ 1000 := fun i hi => by
        unfold fF
        rw [getD_at _ _ (by omega)]
        exact hwb _ (List.getElem_mem _)
      have HWAT := hid hwat
      have HWL := hid hwl
      have HFB := hid (fun i (hi : i < xs.length) => (fv_at hfv hi).2)
      have hqb := val_bd3 (m := 1000) (by omega) hfv hn3 hwat
      obtain ⟨q, hqe⟩ : ∃ q, q = valI xs ws xs.length := ⟨_, rfl⟩
      have HVC : Hid (∀ wx : World, Rd wx (.slice ax xs.length cx) xs → Rd wx (.slice av ws.length cv) ws → Calls Try.prog 55 #[.slice ax xs.length cx, .slice av ws.length cv] wx fun e w' => e = .returned (.int .i64 q) ∧ ∃ k, w' = wx.drewN k) := hid (fun wx h1 h2 => by rw [hqe]; exact l4Value_any _ _ xs ws wx h1 h2 hfv hwb hwl)
      rw [← hqe] at hqb
      obtain ⟨m1, m2⟩ := hqb
      by_cases hq : q = 0
      · have HE : Hid (mirV xs ws = none) := hid (by unfold mirV; rw [hf, hvb, ← hqe, hq]; rfl)
        rw [hq] at HVC
        clear hf hvb hfv hwb hwl hwat hqe hq m1 m2
        go_enter Try.func25, Try.ntmps25
        go_wp2_with (first | (go_at_call 49; refine (l7Form_any _ xs _ HX.out).mono ?_; rw [HF.out]; rintro e w' ⟨rfl, rfl⟩) | (go_at_call 54; refine (l4Vector_any _ _ _ _ 1000 (by decide) (by decide) _ HX.out HV.out).mono ?_; rw [HVB.out]; rintro e w' ⟨rfl, rfl⟩))
        refine (HVC.out _ HX.out HV.out).mono ?_
        rintro e w2 ⟨rfl, k2, hw2⟩
        have hb2 : Below (w.alloc (.cells #[.slice none 0 0, .int .i64 0] 29)).heap.size (w.alloc (.cells #[.slice none 0 0, .int .i64 0] 29)) w2 := by rw [hw2]; exact below_drewN (Below.refl _ _) k2
        have HB2 := hid (HB.out.trans (hb2.mono HB.out.size))
        have hr2 := (hb2.block _ (Array.getElem?_eq_some_iff.1 H0.out).1).trans H0.out
        have r0 := cellB (i := 0) hr2
        have r1 := cellB (i := 1) hr2
        have s0 := frozenB (i := 0) hr2
        have s1 := frozenB (i := 1) hr2
        clear hw2 hb2 hr2
        go_wp2_with fail
        refine bodyPost_ret (v := .tuple #[.agg #[.slice none 0 0, .int .i64 0], .bool false]) (by simp [results, Try.results25, go_sem]; go_simp) rfl ?_
        rw [HE.out]
        exact movePost_none HB2.out (by omega) _ _
      · have T0 : (q == 0) = false := by rw [beq_eq_false_iff_ne]; exact hq
        obtain ⟨i0, hi0, hz0, hz1, hz2⟩ := info_parts infoInt
        obtain ⟨i1, hi1, hy0, hy1, hy2⟩ := info_parts infoRow
        have HMV : Hid (mirV xs ws = tidyV xs (matL xs.length (mirF (fF xs) (fF ws) q)) q) := hid (by unfold mirV; rw [hf, hvb, ← hqe, decide_eq_false hq]; rfl)
        obtain ⟨M, hM⟩ : ∃ M, M = mirF (fF xs) (fF ws) q := ⟨_, rfl⟩
        have HM := hid hM
        rw [← hM] at HMV
        have hMbd : ∀ i k, i < xs.length → k < xs.length → -150000000 ≤ M i k ∧ M i k ≤ 150000000 := fun i k hi hk => by
          rw [hM]
          unfold mirF
          have := (mirr_bd (HFB.out k hk) (hwat k hk) (hwat i hi)).2.2
          have e : 2 * fF xs k * fF ws k * fF ws i = 2 * xs.getD k 0 * fF ws k * fF ws i := rfl
          split <;> omega
        have HMBD := hid hMbd
        have HQ := hid hq
        clear hf hvb hwb hwl hwat hqe hM hMbd
        go_enter Try.func25, Try.ntmps25
        go_wp2_with (first | (go_at_call 49; refine (l7Form_any _ xs _ HX.out).mono ?_; rw [HF.out]; rintro e w' ⟨rfl, rfl⟩) | (go_at_call 54; refine (l4Vector_any _ _ _ _ 1000 (by decide) (by decide) _ HX.out HV.out).mono ?_; rw [HVB.out]; rintro e w' ⟨rfl, rfl⟩))
        refine (HVC.out _ HX.out HV.out).mono ?_
        rintro e w2 ⟨rfl, k2, hw2⟩
        have hb2 : Below (w.alloc (.cells #[.slice none 0 0, .int .i64 0] 29)).heap.size (w.alloc (.cells #[.slice none 0 0, .int .i64 0] 29)) w2 := by rw [hw2]; exact below_drewN (Below.refl _ _) k2
        have HB2 := hid hb2
        clear hw2 hb2 x0 x1 y0 y1
        go_wp2_with fail
        refine (HVC.out _ (HX.out.keep HB2.out) (HV.out.keep HB2.out)).mono ?_
        rintro e w3 ⟨rfl, k3, hw3⟩
        have hb3 : Below w2.heap.size w2 w3 := by rw [hw3]; exact below_drewN (Below.refl _ _) k3
        have hb23 := HB2.out.trans (hb3.mono HB2.out.size)
        have HB3 := hid (HB.out.trans (hb23.mono HB.out.size))
        have HX3 := hid (HX.out.keep hb23)
        have HV3 := hid (HV.out.keep hb23)
        have H23 := hid ((hb23.block _ (Array.getElem?_eq_some_iff.1 H0.out).1).trans H0.out)
        have HOW0 := hid (ownM_none w3 none (by simp))
        have HBW0 := hid ((Below.refl w3.heap.size w3).alloc (Nat.le_refl _) (.cells #[] 22))
        clear hw3 hb3 hb23
        go_wp2_with fail
        go_loopw [7, 8, 9, 10, 11] (fun su si sr sk sx wr => ∃ i : Nat, si = .int .i64 i ∧ i ≤ xs.length ∧ Hid (OwnM wr w3.heap.size none su ((matL xs.length M).take i)) ∧ Hid (Below w3.heap.size w3 wr)) (fun _ si _ _ _ _ => xs.length - (intOf si).toNat)
        case atStart => exact ⟨0, rfl, by omega, HOW0, HBW0⟩
        case round =>
          obtain ⟨i, rfl, hi, HOW, HBW⟩ := hrel
          rename World => wr
          by_cases hlt : i < xs.length
          · have hlti : (i : Int) < (xs.length : Int) := by omega
            have HLT := hid hlt
            have HR0 : Hid (Owns (wr.alloc (.cells #[] 3)) wr.heap.size (.slice (some ⟨wr.heap.size, 0, none⟩) 0 0) []) := hid (World.ownsRow_made (size := 1) wr #[] 0 (Nat.le_refl _) (by unfold maxLen; omega) rfl)
            have HBR0 := hid ((Below.refl wr.heap.size wr).alloc (Nat.le_refl _) (.cells #[] 3))
            clear hlt hi
            go_wp2_with fail
            go_loopw [9, 10, 11] (fun sr sk sx wr' => ∃ k : Nat, sk = .int .i64 k ∧ k ≤ xs.length ∧ Hid (Owns wr' wr.heap.size sr ((rowL xs.length (M i)).take k)) ∧ Hid (Below wr.heap.size wr wr')) (fun _ sk _ _ => xs.length - (intOf sk).toNat)
            case atStart => exact ⟨0, rfl, by omega, hid (by simpa using HR0.out), HBR0⟩
            case round =>
              obtain ⟨k, rfl, hk, HRW, HBR⟩ := hrel
              rename World => wq
              by_cases hlk : k < xs.length
              · have hlki : (k : Int) < (xs.length : Int) := by omega
                have hik := HLT.out
                have hb3q := HBW.out.trans (HBR.out.mono HBW.out.size)
                have hx2 := HX3.out.keep hb3q
                obtain ⟨ax2, cx2, ex, hfx⟩ := hx2.form
                simp only [Value.slice.injEq, true_and] at ex
                obtain ⟨rfl, rfl⟩ := ex
                obtain ⟨bx, ox, rfl, _, hxc⟩ := hfx (by omega)
                have e1 := hxc k hlk
                have hv2 := HV3.out.keep hb3q
                obtain ⟨av2, cv2, ev, hfv2⟩ := hv2.form
                simp only [Value.slice.injEq, true_and] at ev
                obtain ⟨rfl, rfl⟩ := ev
                obtain ⟨bv, ov, rfl, _, hvc⟩ := hfv2 (by have := HWL.out; omega)
                have e2 := hvc k (by have := HWL.out; omega)
                have e3 := hvc i (by have := HWL.out; omega)
                have HTK := hid (rowL_take xs.length (M i) hlk)
                have b1 := HFB.out k hlk
                have b2 := HWAT.out k hlk
                have b3 := HWAT.out i hik
                have bb := mirr_bd b1 b2 b3
                have hMe : M i k = (if i = k then q else 0) - 2 * xs.getD k 0 * fF ws k * fF ws i := by rw [HM.out]; rfl
                have hwk : fF ws k = ws.getD k 0 := rfl
                have hwi : fF ws i = ws.getD i 0 := rfl
                obtain ⟨f, hfe⟩ : ∃ f, f = xs.getD k 0 := ⟨_, rfl⟩
                obtain ⟨y, hye⟩ : ∃ y, y = ws.getD k 0 := ⟨_, rfl⟩
                obtain ⟨z, hze⟩ : ∃ z, z = ws.getD i 0 := ⟨_, rfl⟩
                rw [hwk, hwi] at hMe bb
                rw [hwk] at b2
                rw [hwi] at b3
                rw [← hfe] at e1 b1 bb hMe
                rw [← hye] at e2 b2 bb hMe
                rw [← hze] at e3 b3 bb hMe
                obtain ⟨⟨c1, c2⟩, ⟨c3, c4⟩, c5, c6⟩ := bb
                obtain ⟨d1, d2⟩ := b1
                obtain ⟨d3, d4⟩ := b2
                obtain ⟨d5, d6⟩ := b3
                have hkw : (k : Int) < (ws.length : Int) := by have := HWL.out; omega
                have hiw : (i : Int) < (ws.length : Int) := by have := HWL.out; omega
                obtain ⟨pre, hpre⟩ : ∃ pre, pre = (rowL xs.length (M i)).take k := ⟨_, rfl⟩
                have hprel : pre.length ≤ 4 := by rw [hpre, List.length_take, row_len]; omega
                rw [← hpre] at HRW HTK
                have HRWA : Hid (∀ n, Owns (wq.drewN n) wr.heap.size _ pre) := hid (fun n => HRW.out)
                have hbs : wr.heap.size ≤ wq.heap.size := HBR.out.size
                have HLK := hid hlk
                by_cases hikk : i = k
                · have T1 : ((i : Int) == (k : Int)) = true := by rw [beq_iff_eq]; omega
                  have HME : Hid (M i k = -(2 * f * y * z) + q) := hid (by rw [hMe, if_pos hikk]; omega)
                  rw [HME.out] at HTK
                  clear hlk hk hb3q hfx hxc hx2 hfv2 hvc hv2 hfe hye hze hMe hpre hwk hwi hikk
                  have hi := hi0
                  go_wp2_with fail
                  go_quiet (fail)
                  go_wp2_with (at_builtin; refine wpList_append_own_at _ rfl _ _ 22 rfl wr.heap.size 3 i0 (.int .i64 0) 1 8 Try.underlying22 hi hz0 hz1 hz2 rfl (by decide) _ _ _ rfl ((show World.ownsRow _ _ _ _ _ _ _ from (hid (HRWA.out _)).out).alloc _) ⟨wq.heap.size, 0, none⟩ 1 1 [.int .i64 (-(2 * f * y * z) + q)] rfl rfl (cell_one_new _ _ _) (by simp [Value.oneCell']) (by unfold maxLen; omega) (by omega) (by simp; omega) ?_; intro v' w5 hown' hgrow _ hat)
                  have hsg := hgrow.size
                  simp only [World.size_alloc] at hsg
                  go_roundw
                  case measure => simp only [intOf]; have := HLK.out; omega
                  case rel =>
                    refine ⟨k + 1, by go_num, by have := HLK.out; omega, hid ?_, hid ?_⟩
                    · rw [HTK.out]
                      unfold Owns
                      simpa using hown'
                    · exact ((below_drewN HBR.out _).alloc (below_drewN HBR.out _).size _).grown hgrow (by simp; omega) (fun k e => (HRW.out.ge k e))
                · have T1 : ((i : Int) == (k : Int)) = false := by rw [beq_eq_false_iff_ne]; omega
                  have HME : Hid (M i k = -(2 * f * y * z)) := hid (by rw [hMe, if_neg hikk]; omega)
                  rw [HME.out] at HTK
                  clear hlk hk hb3q hfx hxc hx2 hfv2 hvc hv2 hfe hye hze hMe hpre hwk hwi hikk
                  have hi := hi0
                  go_wp2_with fail
                  go_quiet (fail)
                  go_wp2_with (at_builtin; refine wpList_append_own_at _ rfl _ _ 22 rfl wr.heap.size 3 i0 (.int .i64 0) 1 8 Try.underlying22 hi hz0 hz1 hz2 rfl (by decide) _ _ _ rfl ((show World.ownsRow _ _ _ _ _ _ _ from (hid (HRWA.out _)).out).alloc _) ⟨wq.heap.size, 0, none⟩ 1 1 [.int .i64 (-(2 * f * y * z))] rfl rfl (cell_one_new _ _ _) (by simp [Value.oneCell']) (by unfold maxLen; omega) (by omega) (by simp; omega) ?_; intro v' w5 hown' hgrow _ hat)
                  have hsg := hgrow.size
                  simp only [World.size_alloc] at hsg
                  go_roundw
                  case measure => simp only [intOf]; have := HLK.out; omega
                  case rel =>
                    refine ⟨k + 1, by go_num, by have := HLK.out; omega, hid ?_, hid ?_⟩
                    · rw [HTK.out]
                      unfold Owns
                      simpa using hown'
                    · exact ((below_drewN HBR.out _).alloc (below_drewN HBR.out _).size _).grown hgrow (by simp; omega) (fun k e => (HRW.out.ge k e))
              · have hke : k = xs.length := by omega
                have HRF : Hid (Owns wq wr.heap.size _ (rowL xs.length (M i))) := hid (by have h := HRW.out; rw [List.take_of_length_le (by rw [row_len]; omega)] at h; exact h)
                obtain ⟨ar, cr, hre⟩ := HRF.out.reads
                rw [row_len] at hre
                subst hre
                have hge : ¬ (k : Int) < (xs.length : Int) := by omega
                have hsw := HBW.out.size
                have hbs : wr.heap.size ≤ wq.heap.size := HBR.out.size
                have HTR := hid (matL_take xs.length M HLT.out)
                obtain ⟨P, hP⟩ : ∃ P, P = (matL xs.length M).take i := ⟨_, rfl⟩
                have hPl : P.length ≤ 4 := by rw [hP, List.length_take, matL_len]; omega
                rw [← hP] at HTR HOW
                obtain ⟨vals, SN⟩ := ownM_snoc HOW.out HBR.out hsw HRF.out (fun k e => by cases e)
                have HSN := hid SN
                have hw3q : w3.heap.size ≤ wq.heap.size := Nat.le_trans hsw hbs
                clear SN hP hke hlk hk
                go_wp2_with (at_builtin; refine wpList_append_own_at _ rfl _ _ 23 rfl w3.heap.size 22 i1 (.slice none 0 0) 1 24 Try.underlying23 hi1 hy0 hy1 hy2 rfl (by decide) _ _ _ rfl ((show World.ownsRow wq _ _ _ _ _ _ from HSN.out.row).alloc _) ⟨wq.heap.size, 0, none⟩ 1 1 [.slice ar xs.length cr] rfl rfl (cell_one_new _ _ _) (by simp [Value.oneCell']) (by unfold maxLen; omega) (by omega) (by simp; omega) ?_; intro v' w5 hown' hgrow _ hat; have hsn := HSN.out.fin _ _ _ hown' hgrow hat; have HSG := hid hgrow; have HSN3 := hid hsn; clear hown' hat hsn hgrow)
                go_roundw
                case measure => simp only [intOf]; have := HLT.out; omega
                case rel =>
                  have hbq := HBW.out.trans (HBR.out.mono hsw)
                  refine ⟨i + 1, by go_num, by have := HLT.out; omega, hid ?_, hid ?_⟩
                  · rw [HTR.out]
                    exact HSN3.out
                  · exact (hbq.alloc hbq.size _).grown HSG.out (by simp; omega) (fun k e => (HOW.out.lt k e).1)
          · have hie : i = xs.length := by omega
            have HOF := HOW.out
            rw [List.take_of_length_le (by rw [matL_len]; omega)] at HOF
            have HOF2 := hid HOF
            have hge : ¬ (i : Int) < (xs.length : Int) := by omega
            have HLOW := hid (fun (wx : World) (v : Value) (h : RdM wx v (matL xs.length M)) => l7Low_any v (matL xs.length M) q wx h (by omega) (by omega) (by omega) (by rw [matL_len]; omega) (by rw [matL_len]; omega) (fun i hi => by rw [matL_len] at hi; rw [matL_row _ hi, row_len]; omega) (fun i k => by have := matL_bd (m := 150000000) (by omega) (fun i k hi hk => HMBD.out i k hi hk) (n := xs.length) i k; omega))
            have HTI := HMV.out
            unfold tidyV at HTI
            obtain ⟨R2, hR2⟩ : ∃ R2, R2 = lowR (matL xs.length M) q := ⟨_, rfl⟩
            obtain ⟨d2, hd2⟩ : ∃ d2, d2 = lowD (matL xs.length M) q := ⟨_, rfl⟩
            rw [← hR2, ← hd2] at HTI
            rw [← hR2, ← hd2] at HLOW
            have HT := hid HTI
            have HWS : Hid (w.heap.size + 1 ≤ wr.heap.size) := hid (by
              have h1 := HBW.out.size
              have h2 := Array.getElem?_eq_some_iff.1 H23.out
              obtain ⟨h2, _⟩ := h2
              omega)
            have HRW := hid (HBW.out.block _ (Array.getElem?_eq_some_iff.1 H23.out).1 |>.trans H23.out)
            have HBR := hid (HB3.out.trans (HBW.out.mono HB3.out.size))
            have HXR := hid (HX3.out.keep HBW.out)
            clear hlt hie HOF hR2 hd2 HTI hi
            go_wp2_with fail
            refine (HLOW.out _ _ HOF2.out.rd).mono ?_
            rintro e w4 ⟨u2, rfl, ho2, hb4⟩
            obtain ⟨ua, uc, rfl⟩ := ho2.rd.form
            have hb5 := hb4.alloc hb4.size (.cells #[.slice ua R2.length uc, .int .i64 d2] 29)
            have HO5 := hid (ho2.keep ((Below.refl _ _).alloc (Nat.le_refl _) (.cells #[.slice ua R2.length uc, .int .i64 d2] 29)))
            have HE5 := hid (heap_alloc_new w4 (.cells #[.slice ua R2.length uc, .int .i64 d2] 29))
            have HR5 := hid ((hb5.block _ (Array.getElem?_eq_some_iff.1 HRW.out).1).trans HRW.out)
            have HX5 := hid (HXR.out.keep hb5)
            have HB5 := hid (HBR.out.trans (hb5.mono HBR.out.size))
            clear ho2 hb4 hb5
            cases hmv : moveB xs R2 d2 with
            | false =>
              have HE : Hid (mirV xs ws = none) := hid (by rw [HT.out, hmv]; rfl)
              have HMVC := hid (fun (wx : World) (v : Value) (h1 : Rd wx (.slice ax xs.length cx) xs) (h : RdM wx v R2) => moveValidS_any (.slice ax xs.length cx) v xs R2 d2 wx h1 h)
              rw [hmv] at HMVC
              clear hmv
              go_wp2_with fail
              refine (HMVC.out _ _ HX5.out HO5.out.rd).mono ?_
              rintro e w6 ⟨rfl, hb6⟩
              have hr6 := (hb6.block _ (Array.getElem?_eq_some_iff.1 HR5.out).1).trans HR5.out
              have x0 := cellB (i := 0) hr6
              have x1 := cellB (i := 1) hr6
              have y0 := frozenB (i := 0) hr6
              have y1 := frozenB (i := 1) hr6
              have HB6 := hid (HB5.out.trans (hb6.mono HB5.out.size))
              clear hr6 hb6
              go_wp2_with fail
              refine bodyPost_ret (v := .tuple #[.agg #[.slice none 0 0, .int .i64 0], .bool false]) (by simp [results, Try.results25, go_sem]; go_simp) rfl ?_
              rw [HE.out]
              exact movePost_none HB6.out (by omega) _ _
            | true =>
              have HE : Hid (mirV xs ws = some (R2, d2)) := hid (by rw [HT.out, hmv, if_pos rfl])
              have HMVC := hid (fun (wx : World) (v : Value) (h1 : Rd wx (.slice ax xs.length cx) xs) (h : RdM wx v R2) => moveValidS_any (.slice ax xs.length cx) v xs R2 d2 wx h1 h)
              rw [hmv] at HMVC
              clear hmv
              go_wp2_with fail
              refine (HMVC.out _ _ HX5.out HO5.out.rd).mono ?_
              rintro e w6 ⟨rfl, hb6⟩
              have hr6 := (hb6.block _ (Array.getElem?_eq_some_iff.1 HR5.out).1).trans HR5.out
              have he6 := (hb6.block _ (Array.getElem?_eq_some_iff.1 HE5.out).1).trans HE5.out
              have x0 := cellB (i := 0) hr6
              have x1 := cellB (i := 1) hr6
              have y0 := frozenB (i := 0) hr6
              have y1 := frozenB (i := 1) hr6
              have z0 := cellB (i := 0) he6
              have z1 := cellB (i := 1) he6
              have HB6 := hid (HB5.out.trans (hb6.mono HB5.out.size))
              have HO6 := hid (HO5.out.keep hb6)
              clear hr6 he6 hb6
              go_wp2_with fail
              refine bodyPost_ret (v := .tuple #[.agg #[.slice ua R2.length uc, .int .i64 d2], .bool true]) (by simp [results, Try.results25, go_sem]; go_simp) rfl ?_
              rw [HE.out]
              exact movePost_some HO6.out HB6.out (by omega) (by have := HWS.out; omega) _ _

end Go.Proofs.Ytjabklpnohfjpab

/-! Mx9 -/
set_option linter.unusedVariables false
namespace Go.Proofs.Ytjabklpnohfjpab
open Go.RowKit

theorem zero_row (n : Nat) (hn : n ≤ 100) (W : World) : Owns (W.alloc (.cells (madeCells #[.int .i64 0] n) 3)) W.heap.size (.slice (some ⟨W.heap.size, 0, none⟩) n n) (List.replicate n 0) := by
  have h := owns_lit (W := W) (B := W.heap.size) (List.replicate n (0 : Int)) (madeCells #[.int .i64 0] n) (by
    rw [List.map_replicate]
    exact Array.toList_inj.1 (toList_madeCells_one _ _)) (Nat.le_refl _) (by rw [List.length_replicate]; unfold maxLen; omega)
  rw [List.length_replicate] at h
  exact h
theorem unit_row {n i : Nat} (h : i < n) (c : Int) : (List.replicate n (0 : Int)).set i c = rowL n (fun k => if k = i then c else 0) := by
  refine list_ext (n := n) (by rw [List.length_set, List.length_replicate]) (row_len _ _) fun k hk => ?_
  rw [row_at hk]
  unfold fF
  rw [List.getD_eq_getElem?_getD, List.getElem?_set]
  by_cases e : i = k
  · rw [if_pos e, if_pos (by rw [List.length_replicate]; omega), if_pos e.symm]; rfl
  · rw [if_neg e, if_neg (fun h => e h.symm), List.getElem?_replicate, if_pos hk]; rfl
theorem stay_row {n i : Nat} (h : i < n) : (List.replicate n (0 : Int)).set i 1 = rowL n (idF 1 i) := by
  rw [unit_row h]
  congr 1
  funext k
  unfold idF
  by_cases e : i = k
  · rw [if_pos e, if_pos e.symm]
  · rw [if_neg e, if_neg (fun h => e h.symm)]
def stayV (xs : List Int) : Option (List (List Int) × Int) := if frm3B xs then some (stayL xs.length, 1) else none

set_option maxRecDepth 100000 in
set_option maxHeartbeats 4000000 in
theorem l7Stay_any (n : Nat) (h1 : 1 ≤ n) (h3 : n ≤ 3) (w : World) : Calls Try.prog 50 #[.int .i64 (n : Int)] w fun e w' => ∃ u, e = .returned (.agg #[u, .int .i64 1]) ∧ OwnM w' w.heap.size none u (stayL n) ∧ Below w.heap.size w w' := by
  obtain ⟨i0, hi0, hz0, hz1, hz2⟩ := info_parts infoInt
  obtain ⟨i1, hi1, hy0, hy1, hy2⟩ := info_parts infoRow
  have HE0 := hid (heap_alloc_new w (.cells #[.slice none 0 0, .int .i64 0] 29))
  have HB := hid (below_box2 w (.cells #[.slice none 0 0, .int .i64 0] 29))
  have hs0 : (w.alloc (.cells #[.slice none 0 0, .int .i64 0] 29)).heap.size = w.heap.size + 1 := by simp
  have hB2 := ((Below.refl (w.alloc (.cells #[.slice none 0 0, .int .i64 0] 29)).heap.size (w.alloc (.cells #[.slice none 0 0, .int .i64 0] 29))).alloc (Nat.le_refl _) (.cells #[] 22)).alloc (by simp) (.cells #[.slice (some ⟨w.heap.size + 1, 0, none⟩) 0 0, .int .i64 1] 29)
  have hO0 := (ownM_none (w.alloc (.cells #[.slice none 0 0, .int .i64 0] 29)) (some (w.heap.size + 1 + 1)) (by intro e; have := Option.some.inj e; simp at this)).keep ((Below.refl _ _).alloc (Nat.le_refl _) (.cells #[.slice (some ⟨w.heap.size + 1, 0, none⟩) 0 0, .int .i64 1] 29))
  have hOB0 := World.alloc_heap_new ((w.alloc (.cells #[.slice none 0 0, .int .i64 0] 29)).alloc (.cells #[] 22)) (.cells #[.slice (some ⟨w.heap.size + 1, 0, none⟩) 0 0, .int .i64 1] 29)
  simp only [World.size_alloc] at hB2 hO0 hOB0
  have HB2 := hid hB2
  have HO0 := hid hO0
  have HOB0 := hid hOB0
  clear hs0 hB2 hO0 hOB0
  go_enter Try.func50, Try.ntmps50
  go_wp2_with fail
  go_loopw [4, 5] (fun si sr wr => ∃ (i : Nat) (u : Value), si = .int .i64 i ∧ i ≤ n ∧ Hid (OwnM wr (w.heap.size + 1) (some (w.heap.size + 1 + 1)) u ((matL n (idF 1)).take i)) ∧ Hid (wr.heap[w.heap.size + 1 + 1]? = some (.cells #[u, .int .i64 1] 29 (0, 0))) ∧ Hid (Below (w.heap.size + 1) (w.alloc (.cells #[.slice none 0 0, .int .i64 0] 29)) wr) ∧ Hid (w.heap.size + 3 ≤ wr.heap.size)) (fun si _ _ => n - (intOf si).toNat)
  case atStart => exact ⟨0, _, rfl, by omega, HO0, HOB0, HB2, hid (by simp)⟩
  case round =>
    obtain ⟨i, u, rfl, hi, HOW, HOB, HBW, HSZ⟩ := hrel
    rename World => wr
    by_cases hlt : i < n
    · have hlti : (i : Int) < (n : Int) := by omega
      have HLT := hid hlt
      have hz := zero_row n (by omega) wr
      have hc : (wr.alloc (.cells (madeCells #[.int .i64 0] n) 3)).cell? ⟨wr.heap.size, i, none⟩ = some (.int .i64 ((List.replicate n (0 : Int)).getD i 0)) := hz.elem (by rw [List.length_replicate]; exact hlt)
      have hf := hz.thaw i
      obtain ⟨hst, hgr⟩ := hz.storeAt i 1
      rw [stay_row hlt] at hst
      rw [World.setCell_alloc_new] at hst hgr
      have HST := hid hst
      have hbr : Below wr.heap.size wr (wr.alloc (.cells ((madeCells #[.int .i64 0] n).setIfInBounds i (.int .i64 1)) 3)) := (Below.refl _ _).alloc (Nat.le_refl _) _
      have HBR := hid hbr
      have hsz := HSZ.out
      have HTR := hid (matL_take n (idF 1) hlt)
      obtain ⟨P, hP⟩ : ∃ P, P = (matL n (idF 1)).take i := ⟨_, rfl⟩
      have hPl : P.length ≤ 4 := by rw [hP, List.length_take, matL_len]; omega
      rw [← hP] at HTR HOW
      obtain ⟨vals, SN⟩ := ownM_snoc HOW.out hbr (by omega) hst (fun k e => by have := Option.some.inj e; omega)
      have HSN := hid SN
      have hob := (hbr.block (w.heap.size + 1 + 1) (by omega)).trans HOB.out
      have HQB := hid hob
      have cq0 := cellB (i := 0) hob
      have HUN := hid (fun e : u.ownBlock = some (w.heap.size + 1 + 1) => (HOW.out.lt _ e).2.2 rfl)
      obtain ⟨uf, uc, rfl⟩ := HOW.out.rd.form
      clear SN hP hlt hob hz hst hgr hbr hi
      go_wp2_with (first | (at_make; refine wpList_make_row _ rfl _ _ 22 rfl 3 i0 (.int .i64 0) Try.underlying22 hi0 hz0 hz1 rfl .i64 .i64 n rfl rfl (by rw [hz2]; omega) (by omega) ?_) | (at_builtin; refine wpList_append_own_at _ rfl _ _ 23 rfl (w.heap.size + 1) 22 i1 (.slice none 0 0) 1 24 Try.underlying23 hi1 hy0 hy1 hy2 rfl (by decide) _ _ _ rfl ((show World.ownsRow (wr.alloc (.cells ((madeCells #[.int .i64 0] n).setIfInBounds i (.int .i64 1)) 3)) _ _ _ _ _ _ from HSN.out.row).alloc _) ⟨wr.heap.size + 1, 0, none⟩ 1 1 [.slice (some ⟨wr.heap.size, 0, none⟩) n n] rfl rfl (by have h := cell_one_new (wr.alloc (.cells ((madeCells #[.int .i64 0] n).setIfInBounds i (.int .i64 1)) 3)) (.slice (some ⟨wr.heap.size, 0, none⟩) n n) 22; simp only [World.size_alloc] at h; exact h) (by simp [Value.oneCell']) (by unfold maxLen; omega) (by omega) (by simp; omega) ?_; intro v' w3 hown' hgrow _ hat; have hsn := HSN.out.fin _ _ _ hown' hgrow hat; obtain ⟨av, cv, rfl⟩ := hsn.rd.form; have HSG := hid hgrow; have hob3 := (hgrow.block (w.heap.size + 1 + 1) (by simp; omega) (fun e => HUN.out e.symm)).trans ((Below.heap_alloc _ _ _ (by simp; omega)).trans HQB.out); have cb := cellB (i := 0) hob3; have fb := frozenB (i := 0) hob3; have HOB3 := hid hob3; have HSN3 := hid hsn; clear hown' hat hsn hob3 hgrow))
      go_roundw
      case measure => simp only [intOf]; have := HLT.out; omega
      case rel =>
        have hsz := HSZ.out
        have hbq := HBW.out.trans (HBR.out.mono (show w.heap.size + 1 ≤ wr.heap.size by omega))
        have hsg := HSG.out.size
        simp only [World.size_alloc] at hsg
        refine ⟨i + 1, _, by go_num, by have := HLT.out; omega, hid ?_, hid (heap_two0 HOB3.out), hid ?_, hid ?_⟩
        · rw [HTR.out]
          have h := HSN3.out.setLow (a := ⟨w.heap.size + 1 + 1, 0, none⟩) (.inr rfl) (.slice av (P.length + 1) cv)
          rw [List.length_append] at h
          exact h
        · exact ((hbq.alloc (by simp; omega) _).grown HSG.out (by simp; omega) (fun k e => (HOW.out.lt k e).1)).setCell (by show w.heap.size + 1 ≤ w.heap.size + 1 + 1; omega) _
        · have := HSZ.out
          simp
          omega
    · have hie : i = n := by omega
      subst hie
      obtain ⟨ufa, ufc, hu⟩ := HOW.out.rd.form
      rw [List.length_take, matL_len, Nat.min_eq_left (by omega)] at hu
      subst hu
      have HOF := HOW.out
      rw [List.take_of_length_le (by rw [matL_len]; omega)] at HOF
      have HOF2 := hid HOF
      have hob := HOB.out
      have cq0 := cellB (i := 0) hob
      have cq1 := cellB (i := 1) hob
      have hes := (HBW.out.block w.heap.size (by omega)).trans HE0.out
      have cr0 := cellB (i := 0) hes
      have cr1 := cellB (i := 1) hes
      have fr0 := frozenB (i := 0) hes
      have fr1 := frozenB (i := 1) hes
      have HES2 := hid hes
      have hge : ¬ (i : Int) < (i : Int) := by omega
      clear hlt HOF hob hes
      go_wp2_with fail
      refine bodyPost_ret (results_cell_row rfl _ _ w.heap.size 29 #[_, .int .i64 1] (0, 0) _ rfl (heap_two1 (heap_two0 HES2.out)) Try.underlying29 rfl (by kernel_rfl)) rfl ?_
      refine ⟨_, rfl, ?_, ?_⟩
      · have hlow : w.heap.size < w.heap.size + 1 := by omega
        exact ((HOF2.out.setLow (a := ⟨w.heap.size, 0, none⟩) (.inl hlow) _).setLow (a := ⟨w.heap.size, 1, none⟩) (.inl hlow) _).free.down (Nat.le_of_lt hlow)
      · exact ((HB.out.trans (HBW.out.mono (Nat.le_succ _))).setCell (Nat.le_refl _) _).setCell (Nat.le_refl _) _

set_option maxRecDepth 100000 in
set_option maxHeartbeats 2000000 in
theorem moveStayS_any (vf : Value) (xs : List Int) (w : World) (hx : Rd w vf xs) : Calls Try.prog 20 #[vf] w (MovePost (stayV xs) w) := by
  obtain ⟨ax, cx, rfl, _⟩ := hx.form
  have hB0 := below_box2 w (.cells #[.slice none 0 0, .int .i64 0] 29)
  have H0 := hid (heap_alloc_new w (.cells #[.slice none 0 0, .int .i64 0] 29))
  have HX := hid (hx.keep hB0)
  have HB := hid hB0
  clear hx hB0
  cases hf : frm3B xs with
  | false =>
    have HF := hid hf
    have HE : Hid (stayV xs = none) := hid (by unfold stayV; rw [hf]; rfl)
    clear hf
    go_enter Try.func20, Try.ntmps20
    go_wp2_with (go_at_call 49; refine (l7Form_any _ xs _ HX.out).mono ?_; rw [HF.out]; rintro e w' ⟨rfl, rfl⟩)
    refine bodyPost_ret (v := .tuple #[.agg #[.slice none 0 0, .int .i64 0], .bool false]) (by simp [results, Try.results20, go_sem]) rfl ?_
    rw [HE.out]
    exact ⟨_, rfl, ownM_nil _ _ _, HB.out⟩
  | true =>
    have HF := hid hf
    have HE : Hid (stayV xs = some (stayL xs.length, 1)) := hid (by unfold stayV; rw [hf, if_pos rfl])
    have hfv : fvB xs = true := by unfold frm3B at hf; rw [Bool.and_eq_true] at hf; exact hf.1
    have hn3 : xs.length ≤ 3 := by unfold frm3B at hf; rw [Bool.and_eq_true, decide_eq_true_eq] at hf; exact hf.2
    have hn1 := (fvB_iff.1 hfv).2.1
    have HSC := hid (fun wx : World => l7Stay_any xs.length hn1 hn3 wx)
    clear hf hfv hn3 hn1
    go_enter Try.func20, Try.ntmps20
    go_wp2_with (go_at_call 49; refine (l7Form_any _ xs _ HX.out).mono ?_; rw [HF.out]; rintro e w' ⟨rfl, rfl⟩)
    refine (HSC.out _).mono ?_
    rintro e w2 ⟨u, rfl, ho2, hb2⟩
    obtain ⟨ua, uc, rfl⟩ := ho2.rd.form
    have HO2 := hid ho2
    have HB2 := hid (HB.out.trans (hb2.mono HB.out.size))
    have hr2 := (hb2.block _ (Array.getElem?_eq_some_iff.1 H0.out).1).trans H0.out
    have r0 := cellB (i := 0) hr2
    have r1 := cellB (i := 1) hr2
    have s0 := frozenB (i := 0) hr2
    have s1 := frozenB (i := 1) hr2
    clear ho2 hb2 hr2
    go_wp2_with fail
    refine bodyPost_ret (v := .tuple #[.agg #[.slice ua (stayL xs.length).length uc, .int .i64 1], .bool true]) (by simp [results, Try.results20, go_sem]; go_simp) rfl ?_
    rw [HE.out]
    exact movePost_some HO2.out HB2.out (Nat.le_refl _) (by simp) _ _

end Go.Proofs.Ytjabklpnohfjpab

/-! MxA -/
set_option linter.unusedVariables false
namespace Go.Proofs.Ytjabklpnohfjpab
open Go.RowKit

theorem OwnM.exOf {W : World} {B k : Nat} {v : Value} {R : List (List Int)} (h : OwnM W B none v R) (hk : k < B ∨ W.heap.size ≤ k) : OwnM W B (some k) v R := by
  obtain ⟨vals, hl, ho, hx, hr, hd⟩ := h.own
  refine ⟨vals, hl, ho, fun j e => ?_, fun i hi => ⟨(hr i hi).1, fun j e => ⟨((hr i hi).2 j e).1, ?_⟩⟩, hd⟩
  · have := World.ownsRow.lt ho j e
    intro e2
    have := Option.some.inj e2
    omega
  · have h1 := (hr i hi).1.lt j e
    have h2 := (hr i hi).1.ge j e
    intro e2
    have := Option.some.inj e2
    omega
theorem fold_none {xs : List Int} {list : List (List Int)} {i : Nat} {m : Option (List (List Int) × Int)} (hi : i < list.length) (h : (list.take i).foldl (ofStep xs) m = none ∨ ofStep xs ((list.take i).foldl (ofStep xs) m) (list.getD i []) = none) : list.foldl (ofStep xs) m = none := by
  have e : list = list.take i ++ list.getD i [] :: list.drop (i + 1) := by
    rw [List.getD_eq_getElem?_getD, List.getElem?_eq_getElem hi]
    show list = list.take i ++ list[i] :: list.drop (i + 1)
    rw [List.getElem_cons_drop, List.take_append_drop]
  rw [e, List.foldl_append, List.foldl_cons]
  rcases h with h | h
  · rw [h]
    have : ofStep xs none (list.getD i []) = none := rfl
    rw [this, step_none]
  · rw [h, step_none]
theorem fold_next {xs : List Int} {list : List (List Int)} {i : Nat} {m : Option (List (List Int) × Int)} (hi : i < list.length) : (list.take (i + 1)).foldl (ofStep xs) m = ofStep xs ((list.take i).foldl (ofStep xs) m) (list.getD i []) := by
  have e : list.take (i + 1) = list.take i ++ [list.getD i []] := by
    rw [List.take_add_one, List.getD_eq_getElem?_getD, List.getElem?_eq_getElem hi]; rfl
  rw [e, List.foldl_append]; rfl
theorem heap_cells2 {w : World} {g : Nat} {a b v0 v1 : Value} {t : TypeId} (h : w.heap[g]? = some (.cells #[a, b] t (0, 0))) : ((w.setCell ⟨g, 0, none⟩ v0).setCell ⟨g, 1, none⟩ v1).heap[g]? = some (.cells #[v0, v1] t (0, 0)) := heap_two1 (heap_two0 h)

set_option maxRecDepth 100000 in
set_option maxHeartbeats 8000000 in
theorem moveOfS_any (vf vl : Value) (xs : List Int) (list : List (List Int)) (w : World) (hx : Rd w vf xs) (hl : RdM w vl list) : Calls Try.prog 37 #[vf, vl] w (MovePost (ofV xs list) w) := by
  obtain ⟨ax, cx, rfl, _⟩ := hx.form
  obtain ⟨al, cl, rfl⟩ := hl.form
  have hB0 := below_box2 w (.cells #[.slice none 0 0, .int .i64 0] 29)
  have H0 := hid (heap_alloc_new w (.cells #[.slice none 0 0, .int .i64 0] 29))
  have HX := hid (hx.keep hB0)
  have HL := hid (hl.keep hB0)
  have HB := hid hB0
  clear hx hl hB0
  cases hf : frm3B xs with
  | false =>
    have HF := hid hf
    have HE : Hid (ofV xs list = none) := hid (by unfold ofV; rw [hf]; rfl)
    clear hf
    go_enter Try.func37, Try.ntmps37
    go_wp2_with (go_at_call 49; refine (l7Form_any _ xs _ HX.out).mono ?_; rw [HF.out]; rintro e w' ⟨rfl, rfl⟩)
    refine bodyPost_ret (v := .tuple #[.agg #[.slice none 0 0, .int .i64 0], .bool false]) (by simp [results, Try.results37, go_sem]) rfl ?_
    rw [HE.out]
    exact ⟨_, rfl, ownM_nil _ _ _, HB.out⟩
  | true =>
    have HF := hid hf
    by_cases h6 : list.length ≤ 6
    · have HE : Hid (ofV xs list = list.foldl (ofStep xs) (some (stayL xs.length, 1))) := hid (by unfold ofV; rw [hf, decide_eq_true h6]; rfl)
      have hfv : fvB xs = true := by unfold frm3B at hf; rw [Bool.and_eq_true] at hf; exact hf.1
      have hn3 : xs.length ≤ 3 := by unfold frm3B at hf; rw [Bool.and_eq_true, decide_eq_true_eq] at hf; exact hf.2
      have hn1 := (fvB_iff.1 hfv).2.1
      have HSC := hid (fun wx : World => l7Stay_any xs.length hn1 hn3 wx)
      have T6 : ¬ (6 : Int) < (list.length : Int) := by omega
      clear hf hfv hn3 hn1
      go_enter Try.func37, Try.ntmps37
      go_wp2_with (go_at_call 49; refine (l7Form_any _ xs _ HX.out).mono ?_; rw [HF.out]; rintro e w' ⟨rfl, rfl⟩)
      refine (HSC.out _).mono ?_
      rintro e w2 ⟨u, rfl, ho2, hb2⟩
      obtain ⟨ua, uc, rfl⟩ := ho2.rd.form
      have hs2 := hb2.size
      simp only [World.size_alloc] at hs2
      have hb3 := hb2.trans (((Below.refl w2.heap.size w2).alloc (Nat.le_refl _) (.cells #[.slice ua (stayL xs.length).length uc, .int .i64 1] 29)).mono hb2.size)
      have HO3 := hid ((ho2.exOf (k := w2.heap.size) (.inr (Nat.le_refl _))).keep ((Below.refl w2.heap.size w2).alloc (Nat.le_refl _) (.cells #[.slice ua (stayL xs.length).length uc, .int .i64 1] 29)))
      have HOB := hid (heap_alloc_new w2 (.cells #[.slice ua (stayL xs.length).length uc, .int .i64 1] 29))
      simp only [World.size_alloc] at hb3 HO3
      have HB3 := hid hb3
      have HS2 := hid hs2
      clear ho2 hb2 hb3 hs2
      go_wp2_with fail
      go_loopw [7, 8, 9, 10, 11] (fun si sm sk sn sf wr => ∃ (i : Nat) (u : Value) (R : List (List Int)) (d : Int), si = .int .i64 i ∧ i ≤ list.length ∧ Hid ((list.take i).foldl (ofStep xs) (some (stayL xs.length, 1)) = some (R, d)) ∧ Hid (OwnM wr (w.heap.size + 1) (some w2.heap.size) u R) ∧ Hid (wr.heap[w2.heap.size]? = some (.cells #[u, .int .i64 d] 29 (0, 0))) ∧ Hid (Below (w.heap.size + 1) (w.alloc (.cells #[.slice none 0 0, .int .i64 0] 29)) wr)) (fun si _ _ _ _ _ => list.length - (intOf si).toNat)
      case atStart => exact ⟨0, _, _, _, rfl, by omega, hid rfl, HO3, HOB, HB3⟩
      case round =>
        obtain ⟨i, u, R, d, rfl, hi, HFO, HOW, HOB, HBW⟩ := hrel
        rename World => wr
        have hlast := (Array.getElem?_eq_some_iff.1 HOB.out).1
        by_cases hlt : i < list.length
        · have hlti : (i : Int) < (list.length : Int) := by omega
          have HLT := hid hlt
          obtain ⟨b, o, ul, rfl, hcu, hru⟩ := (HL.out.keep (HBW.out.mono (by simp))).row hlt
          obtain ⟨li, hli⟩ : ∃ li, li = list.getD i [] := ⟨_, rfl⟩
          rw [← hli] at hru
          have HRU := hid hru
          obtain ⟨aq, cq, rfl, _⟩ := hru.form
          have hob := HOB.out
          obtain ⟨ua2, uc2, rfl⟩ := HOW.out.rd.form
          have HSB := hid HBW.out.size
          have HWX : Hid (Below w.heap.size w wr) := hid (HB.out.trans (HBW.out.mono (Nat.le_succ _)))
          have HXW := hid (HX.out.keep (HBW.out.mono (by simp)))
          have HRES : Hid (wr.heap[w.heap.size]? = some (.cells #[.slice none 0 0, .int .i64 0] 29 (0, 0))) := hid ((HBW.out.block w.heap.size (by omega)).trans H0.out)
          have HLAST := hid hlast
          cases hm : mirV xs li with
          | none =>
            have HEN : Hid (ofV xs list = none) := hid (by
              rw [HE.out]
              refine fold_none HLT.out (.inr ?_)
              rw [HFO.out, ← hli]
              show (mirV xs li).bind _ = none
              rw [hm]; rfl)
            have HMC : Hid (∀ wx : World, Rd wx (.slice ax xs.length cx) xs → Rd wx (.slice aq li.length cq) li → Calls Try.prog 25 #[.slice ax xs.length cx, .slice aq li.length cq] wx fun e w' => ∃ u, e = .returned (.tuple #[.agg #[u, .int .i64 0], .bool false]) ∧ OwnM w' wx.heap.size none u [] ∧ Below wx.heap.size wx w') := hid (fun wx h1 h2 => by
              have h := moveMirrorS_any _ _ xs li wx h1 h2
              unfold MovePost at h
              rw [hm] at h
              exact h)
            clear hm hli hlt hob hru hlast
            go_wp2_with fail
            refine (HMC.out _ HXW.out HRU.out).mono ?_
            rintro e w3 ⟨u3, rfl, ho3, hb3⟩
            obtain ⟨ua3, uc3, rfl⟩ := ho3.rd.form
            have hb4 := hb3.alloc hb3.size (.cells #[.slice ua3 0 uc3, .int .i64 0] 29)
            have hr9 := (hb4.block _ (Array.getElem?_eq_some_iff.1 HRES.out).1).trans HRES.out
            have x0 := cellB (i := 0) hr9
            have x1 := cellB (i := 1) hr9
            have y0 := frozenB (i := 0) hr9
            have y1 := frozenB (i := 1) hr9
            have HB4 := hid (HWX.out.trans (hb4.mono HWX.out.size))
            clear ho3 hb3 hb4 hr9
            go_wp2_with fail
            refine bodyPost_ret (v := .tuple #[.agg #[.slice none 0 0, .int .i64 0], .bool false]) (by simp [results, Try.results37, go_sem]; go_simp) rfl ?_
            rw [HEN.out]
            exact movePost_none HB4.out (Nat.le_refl _) _ _
          | some Mm =>
            obtain ⟨M, m⟩ := Mm
            have HMC : Hid (∀ wx : World, Rd wx (.slice ax xs.length cx) xs → Rd wx (.slice aq li.length cq) li → Calls Try.prog 25 #[.slice ax xs.length cx, .slice aq li.length cq] wx fun e w' => ∃ u, e = .returned (.tuple #[.agg #[u, .int .i64 m], .bool true]) ∧ OwnM w' wx.heap.size none u M ∧ Below wx.heap.size wx w') := hid (fun wx h1 h2 => by
              have h := moveMirrorS_any _ _ xs li wx h1 h2
              unfold MovePost at h
              rw [hm] at h
              exact h)
            have HST : Hid (ofStep xs (some (R, d)) li = mulV xs R d M m) := hid (by
              show (mirV xs li).bind _ = _
              rw [hm]; rfl)
            have HLI := hid hli
            clear hm hli hlt hru hlast
            go_wp2_with fail
            refine (HMC.out _ HXW.out HRU.out).mono ?_
            rintro e w3 ⟨u3, rfl, ho3, hb3⟩
            obtain ⟨ua3, uc3, rfl⟩ := ho3.rd.form
            have hb4 := hb3.alloc hb3.size (.cells #[.slice ua3 M.length uc3, .int .i64 m] 29)
            have he4 := heap_alloc_new w3 (.cells #[.slice ua3 M.length uc3, .int .i64 m] 29)
            have HO4 := hid (ho3.keep ((Below.refl _ _).alloc (Nat.le_refl _) (.cells #[.slice ua3 M.length uc3, .int .i64 m] 29)))
            have HOW4 := hid (HOW.out.keep hb4)
            have HX4 := hid (HXW.out.keep hb4)
            have HRES4 := hid ((hb4.block _ (Array.getElem?_eq_some_iff.1 HRES.out).1).trans HRES.out)
            have hob4 := (hb4.block _ HLAST.out).trans HOB.out
            have HOB4 := hid hob4
            have p0 := cellB (i := 0) hob4
            have p1 := cellB (i := 1) hob4
            have HB4 := hid hb4
            have HW4 := hid (HWX.out.trans (hb4.mono HWX.out.size))
            obtain ⟨w4, hw4⟩ : ∃ w4, w4 = w3.alloc (.cells #[.slice ua3 M.length uc3, .int .i64 m] 29) := ⟨_, rfl⟩
            have HMLC := hid (fun (h1 : Rd (w3.alloc (.cells #[.slice ua3 M.length uc3, .int .i64 m] 29)) (.slice ax xs.length cx) xs) (h2 : RdM (w3.alloc (.cells #[.slice ua3 M.length uc3, .int .i64 m] 29)) (.slice ua2 R.length uc2) R) (h3 : RdM (w3.alloc (.cells #[.slice ua3 M.length uc3, .int .i64 m] 29)) (.slice ua3 M.length uc3) M) => moveMulS_any _ _ _ xs R M d m _ h1 h2 h3)
            unfold MovePost at HMLC
            clear ho3 hb3 hb4 he4 hob hob4 hw4 w4
            cases hml : mulV xs R d M m with
            | none =>
              have HEN : Hid (ofV xs list = none) := hid (by
                rw [HE.out]
                refine fold_none HLT.out (.inr ?_)
                rw [HFO.out, ← HLI.out, HST.out, hml])
              rw [hml] at HMLC
              clear hml
              go_wp2_with fail
              refine (HMLC.out HX4.out HOW4.out.rd HO4.out.rd).mono ?_
              rintro e w5 ⟨u5, rfl, ho5, hb5⟩
              obtain ⟨ua5, uc5, rfl⟩ := ho5.rd.form
              have hb6 := hb5.alloc hb5.size (.cells #[.slice ua5 0 uc5, .int .i64 0] 29)
              have hr9 := (hb6.block _ (Array.getElem?_eq_some_iff.1 HRES4.out).1).trans HRES4.out
              have x0 := cellB (i := 0) hr9
              have x1 := cellB (i := 1) hr9
              have y0 := frozenB (i := 0) hr9
              have y1 := frozenB (i := 1) hr9
              have HB6 := hid (HW4.out.trans (hb6.mono HW4.out.size))
              clear ho5 hb5 hb6 hr9
              go_wp2_with fail
              refine bodyPost_ret (v := .tuple #[.agg #[.slice none 0 0, .int .i64 0], .bool false]) (by simp [results, Try.results37, go_sem]; go_simp) rfl ?_
              rw [HEN.out]
              exact movePost_none HB6.out (Nat.le_refl _) _ _
            | some Nn =>
              obtain ⟨R5, d5⟩ := Nn
              have HFN : Hid ((list.take (i + 1)).foldl (ofStep xs) (some (stayL xs.length, 1)) = some (R5, d5)) := hid (by rw [fold_next HLT.out, HFO.out, ← HLI.out, HST.out, hml])
              rw [hml] at HMLC
              clear hml
              go_wp2_with fail
              refine (HMLC.out HX4.out HOW4.out.rd HO4.out.rd).mono ?_
              rintro e w5 ⟨u5, rfl, ho5, hb5⟩
              have ho5 : OwnM w5 (w3.alloc (.cells #[.slice ua3 M.length uc3, .int .i64 m] 29)).heap.size none u5 R5 := ho5
              obtain ⟨ua5, uc5, rfl⟩ := ho5.rd.form
              have hb6 := hb5.alloc hb5.size (.cells #[.slice ua5 R5.length uc5, .int .i64 d5] 29)
              have ho6 := ho5.keep ((Below.refl _ _).alloc (Nat.le_refl _) (.cells #[.slice ua5 R5.length uc5, .int .i64 d5] 29))
              have hlo : w2.heap.size < (w3.alloc (.cells #[.slice ua3 M.length uc3, .int .i64 m] 29)).heap.size := Nat.lt_of_lt_of_le HLAST.out HB4.out.size
              have hlw : w.heap.size + 1 ≤ (w3.alloc (.cells #[.slice ua3 M.length uc3, .int .i64 m] 29)).heap.size := by have := HS2.out; omega
              have HO6 := hid ((ho6.exOf (k := w2.heap.size) (.inl hlo)).down hlw)
              have hob6 := (hb6.block _ hlo).trans HOB4.out
              have x0 := cellB (i := 0) hob6
              have x1 := cellB (i := 1) hob6
              have y0 := frozenB (i := 0) hob6
              have y1 := frozenB (i := 1) hob6
              have HOB6 := hid hob6
              have HB6 := hid (HB4.out.trans (hb6.mono HB4.out.size))
              clear ho5 ho6 hb5 hb6 hob6 hlo hlw p0 p1
              go_wp2_with fail
              go_roundw
              case measure => simp only [intOf]; have := HLT.out; omega
              case rel =>
                refine ⟨i + 1, _, R5, d5, by go_num, by have := HLT.out; omega, HFN, hid ?_, hid (heap_cells2 HOB6.out), hid ?_⟩
                · exact (HO6.out.setLow (a := ⟨w2.heap.size, 0, none⟩) (.inr rfl) _).setLow (a := ⟨w2.heap.size, 1, none⟩) (.inr rfl) _
                · exact ((HBW.out.trans (HB6.out.mono (by have := HSB.out; simp at this; omega))).setCell (by show w.heap.size + 1 ≤ w2.heap.size; have := HS2.out; omega) _).setCell (by show w.heap.size + 1 ≤ w2.heap.size; have := HS2.out; omega) _
        · have hie : i = list.length := by omega
          have HFF := HFO.out
          rw [List.take_of_length_le (by omega), ← HE.out] at HFF
          have HFF2 := hid HFF
          obtain ⟨ua2, uc2, rfl⟩ := HOW.out.rd.form
          have hob := HOB.out
          have p0 := cellB (i := 0) hob
          have p1 := cellB (i := 1) hob
          have hr9 := (HBW.out.block w.heap.size (by omega)).trans H0.out
          have x0 := cellB (i := 0) hr9
          have x1 := cellB (i := 1) hr9
          have y0 := frozenB (i := 0) hr9
          have y1 := frozenB (i := 1) hr9
          have HWX : Hid (Below w.heap.size w wr) := hid (HB.out.trans (HBW.out.mono (Nat.le_succ _)))
          have hge : ¬ (i : Int) < (list.length : Int) := by omega
          clear hlt hob hr9 HFF
          go_wp2_with fail
          refine bodyPost_ret (v := .tuple #[.agg #[.slice ua2 R.length uc2, .int .i64 d], .bool true]) (by simp [results, Try.results37, go_sem]; go_simp) rfl ?_
          rw [HFF2.out]
          exact movePost_some HOW.out.free HWX.out (Nat.le_refl _) (Nat.lt_succ_self _) _ _
    · have HE : Hid (ofV xs list = none) := hid (by unfold ofV; rw [hf, decide_eq_false h6]; rfl)
      have T6 : (6 : Int) < (list.length : Int) := by omega
      clear hf h6
      go_enter Try.func37, Try.ntmps37
      go_wp2_with (go_at_call 49; refine (l7Form_any _ xs _ HX.out).mono ?_; rw [HF.out]; rintro e w' ⟨rfl, rfl⟩)
      refine bodyPost_ret (v := .tuple #[.agg #[.slice none 0 0, .int .i64 0], .bool false]) (by simp [results, Try.results37, go_sem]) rfl ?_
      rw [HE.out]
      exact ⟨_, rfl, ownM_nil _ _ _, HB.out⟩

end Go.Proofs.Ytjabklpnohfjpab
