/-
  Contracts of the program's chapter 7: a move made of fractions.
-/
import Derived.Test.YtjabklpnohfjpabQMpG
import Derived.Test.YtjabklpnohfjpabQRegInv2
import Derived.WalkSmall
import Derived.Maps.AppendAt
set_option linter.unusedVariables false
namespace Go.Proofs.Ytjabklpnohfjpab
open Go.RowKit Go.Shelf
attribute [local go_sem] Oper.semAt_some

def rowAt9 (R : List (List Int)) (k : Nat) : List Int := R.getD k []
theorem owns_slice {W : World} {B : Nat} {v : Value} {xs : List Int} (h : Owns W B v xs) : ∃ a c, v = .slice a xs.length c := h.reads
theorem keeps_of {W W' : World} (h : Below W.heap.size W W') : KeepsOthers W W' := ⟨h.size, fun k o hk _ => (h.block k (Array.getElem?_eq_some_iff.1 hk).1).trans hk⟩
theorem row_cells9 {W : World} {B n size j : Nat} {t : TypeId} {v : Value} {xs : List Value} {o : Obj} (h : World.ownsRow W B t size v n xs) (e : v.ownBlock = some j) (hj : W.heap[j]? = some o) : o.isCells = true := by
  rcases h.2 with ⟨rfl, _⟩ | ⟨g, cap, cur, rfl, _, hh, _⟩
  · simp [Value.ownBlock] at e
  · obtain rfl : g = j := by simpa [Value.ownBlock] using e
    rw [hh] at hj; cases hj; rfl
/-- an append of one more row as one step of a region inside a fence -/
theorem step_appendM_toldIn {F : Fence} {n : Nat} {ops : Array Oper} {o : Oper} {a : Act} {W w' : World} {K : Act → World → Prop} {Q : Exit → Act → World → Prop} {E : Prop} (hgd : o.guard = none) (s x : Operand) (so xv : Value) (v' : Value)
    (hop : o.op = .call { callee := .builtin .append, args := #[s, x], argTypes := #[23, 23] }) (ht : o.type = 23) (hs : a.eval s = so) (hx : a.eval x = xv)
    (hrun : (Builtin.append_ #[23, 23] 23 #[so, xv]).run Try.prog W = .ok v' w') (hK : K (a.put o.dst v') w') :
    if Region.wanted o (yielded ops a.tmps) = true then Oper.wpIn F n Try.prog o a W K Q else E := by
  have hw : Region.wanted o (yielded ops a.tmps) = true := by simp [Region.wanted, hgd]
  rw [if_pos hw]
  unfold Oper.wpIn
  refine ⟨by simp [Oper.about, hop, resolve, Target.leads, Sem.run_pure], ?_⟩
  rw [Oper.semAt_plain F _ _ (by rw [hop]; intro c hc'; cases hc')]
  simp only [execOp, hop, ht, resolve, invoke, builtin, Sem.run_bind, Sem.run_pure, Result.andThen_ok, List.map_toArray, List.map_cons, List.map_nil, hs, hx, hrun]
  exact hK
theorem heap_turn {A W : World} {k : Nat} {cs : Array Value} {t : TypeId} {m : Nat × Nat} {row : Option Nat} (h : A.heap[k]? = some (.cells cs t m)) (hg : A.grownBy W row) (hr : ∀ r, row = some r → ∃ o : Obj, A.heap[r]? = some o ∧ o.isCells = false) : W.heap[k]? = some (.cells cs t m) :=
  (hg.block k (Array.getElem?_eq_some_iff.1 h).1 fun e => by
    obtain ⟨o, ho, hc⟩ := hr k e.symm
    rw [h] at ho; cases ho; cases hc).trans h
/-- what holds within the loop's region -/
structure ChI (n1 bt : Nat) (L0 : Int) (W : World) (RV ROWV : Value) (R : List (List Int)) (row : List Int) (LB : Array Bool) (wx : World) (s50 s51 s52 s53 s54 s55 s56 : Value) : Prop where
  hs : LB.size = 8
  h0 : dn LB 0 → s50 = .pointer (some ⟨bt, 0, none⟩)
  h1 : dn LB 1 → s51 = RV
  h2 : dn LB 2 → s52 = ROWV
  h3 : dn LB 3 → ¬ dn LB 4 → (∃ a c, s53 = .slice a row.length c) ∧ Owns wx W.heap.size s53 row
  h4 : dn LB 4 → ¬ dn LB 5 → ∃ wz zv, wx = wz.alloc (.cells #[zv] 22) ∧ s54 = .slice (some ⟨wz.heap.size, 0, none⟩) 1 1 ∧ Below W.heap.size W wz ∧ (∃ a c, zv = .slice a row.length c) ∧ Owns wz W.heap.size zv row
  hb : ¬ dn LB 5 → Below W.heap.size W wx
  h5 : dn LB 5 → OwnM wx n1 none s55 (R ++ [row]) ∧ (∃ g c, s55 = .slice (some ⟨g, 0, none⟩) (R.length + 1) c) ∧ KeepsOthers W wx ∧ W.heap.size ≤ wx.heap.size ∧ (∀ g, g < n1 → g ≠ bt → wx.heap[g]? = W.heap[g]?) ∧ (wx.os = W.os ∧ wx.tape = W.tape ∧ wx.output = W.output)
  h5a : dn LB 5 → ¬ dn LB 7 → wx.heap[bt]? = some (.cells #[RV, .int .i64 L0] 29 (0, 0))
  h6 : dn LB 6 → s56 = .pointer (some ⟨bt, 0, none⟩)
  h7 : dn LB 7 → wx.heap[bt]? = some (.cells #[s55, .int .i64 L0] 29 (0, 0))
  d4 : dn LB 4 → dn LB 3
  d5 : dn LB 5 → dn LB 1 ∧ dn LB 4
  d7 : dn LB 7 → dn LB 5 ∧ dn LB 6
theorem leavesM_ret {F : Fence} {n : Nat} {P : Program} {fn : Func} {R : Ending → World → Prop} {ts : Array Value} {w : World} {v : Value} (hr : (results fn ts).run P w = .ok v w) (hR : R (.returned v) w) : bodyPostM F n P fn R .ret { tmps := ts, defers := [] } w := ⟨v, hr, hR⟩
theorem OwnF.lt2 {W : World} {B : Nat} {v : Value} {l : List (Int × Int)} (h : OwnF W B v l) (k : Nat) (e : v.ownBlock = some k) : B ≤ k ∧ k < W.heap.size := World.ownsRow.lt h k e
theorem row2_keep {W W' : World} {B : Nat} {v : Value} {l : List (Int × Int)} (h : OwnF W B v l) (hb : Below W.heap.size W W') : OwnF W' B v l := by
  obtain ⟨h1, h2⟩ := h
  refine ⟨h1, ?_⟩
  rcases h2 with h2 | ⟨g, cap, cur, hv, hB, hh, r⟩
  · exact .inl h2
  · exact .inr ⟨g, cap, cur, hv, hB, heap_below hb hh, r⟩
set_option maxRecDepth 100000 in
set_option maxHeartbeats 8000000 in
theorem moveOf_any (n : Nat) (hn : n = 1 ∨ n = 2 ∨ n = 3) (fc : Nat) (cap : Array Value) (M : Nat → Nat → Int) (D : Int) (h0 : D ≠ 0) (bD : B14 D) (bM : ∀ i j, i < n → j < n → B14 (M i j)) (w : World) (he : ∀ args W, (callFunc fc args).run Try.prog W = .ok (.enter fc args) W)
    (hcl : ∀ (i j : Nat) (w' : World), i < n → j < n → Below w.heap.size w w' → Calls Try.prog fc (#[.int .i64 (i : Int), .int .i64 (j : Int)] ++ cap) w' fun e w'' => ∃ a b, e = .returned (frV a b) ∧ Fr a b (M i j) D ∧ Below w'.heap.size w' w'') :
    Calls Try.prog 52 #[.int .i64 (n : Int), .func (.func fc) #[] cap] w (MovePost (madeV n M D) w) := by
  obtain ⟨iF, hF, hz0, hz1, hz2⟩ := info_parts infoFr
  have HCL := hid hcl
  have HN := hid hn
  have HO0 : Hid (OwnF ((w.alloc (.cells #[.slice none 0 0, .int .i64 0] 29)).alloc (.cells #[] 65)) (w.heap.size + 1) (.slice (some ⟨w.heap.size + 1, 0, none⟩) 0 0) []) := hid (by
    have h := World.ownsRow_made (base := w.heap.size + 1) (size := 2) (e := 65) (w.alloc (.cells #[.slice none 0 0, .int .i64 0] 29)) #[] 0 (by simp) (by unfold maxLen; omega) rfl
    rw [World.size_alloc] at h
    exact h)
  have HB0 : Hid (Below w.heap.size w ((w.alloc (.cells #[.slice none 0 0, .int .i64 0] 29)).alloc (.cells #[] 65))) := hid ((below_box2 _ _).alloc (by simp) _)
  have HR0 : Hid (((w.alloc (.cells #[.slice none 0 0, .int .i64 0] 29)).alloc (.cells #[] 65)).heap[w.heap.size]? = some (.cells #[.slice none 0 0, .int .i64 0] 29 (0, 0))) := hid (heap_up (heap_new rfl))
  have hn1 : 1 ≤ n := by omega
  have hn3 : n ≤ 3 := by omega
  clear hcl hn
  refine (callsIn_wide (n := 5)).1 ?_
  refine callsIn_of_wp_marks Try.func52 rfl trivial ?_ rfl
  simp only [Try.ntmps52, List.size_toArray, List.length_cons, List.length_nil, Nat.reduceAdd, Nat.reduceSub, Array.replicate_succ, Array.replicate_zero, List.push_toArray, List.append_toArray, List.nil_append, List.cons_append]
  gi_wp2_with fail
  gi_loopw [6, 15] (fun so si wr => ∃ (i : Nat) (l : List (Int × Int)), si = .int .i64 (i : Int) ∧ i ≤ n ∧ Hid (Frs l (numsAt n M i 0) D) ∧ Hid (OwnF wr (w.heap.size + 1) so l) ∧ Hid (Below w.heap.size w wr) ∧ Hid (wr.heap[w.heap.size]? = some (.cells #[.slice none 0 0, .int .i64 0] 29 (0, 0)))) (fun _ si _ => n - (intOf si).toNat)
  case atStart => exact ⟨0, [], rfl, by omega, hid ⟨rfl, fun i hi => absurd hi (by simp)⟩, HO0, HB0, HR0⟩
  case round =>
    obtain ⟨i, l, rfl, hi, HFR, HO, HB, HR⟩ := hrel
    rename World => wr
    by_cases hlt : i < n
    · have hii : (i : Int) < (n : Int) := by omega
      have HLT := hid hlt
      clear hlt
      gi_wp2_with fail
      gi_loopw [6, 19] (fun so si wr => ∃ (j : Nat) (l : List (Int × Int)), si = .int .i64 (j : Int) ∧ j ≤ n ∧ Hid (Frs l (numsAt n M i j) D) ∧ Hid (OwnF wr (w.heap.size + 1) so l) ∧ Hid (Below w.heap.size w wr) ∧ Hid (wr.heap[w.heap.size]? = some (.cells #[.slice none 0 0, .int .i64 0] 29 (0, 0)))) (fun _ si _ => n - (intOf si).toNat)
      case atStart => exact ⟨0, l, rfl, by omega, HFR, HO, HB, HR⟩
      case round =>
        obtain ⟨j, l, rfl, hj, HFR, HO, HB, HR⟩ := hrel
        rename World => wr
        by_cases hlj : j < n
        · have hjj : (j : Int) < (n : Int) := by omega
          have HC := hid (HCL.out i j wr HLT.out hlj HB.out)
          have hll : l.length ≤ 12 := by
            have := numsAt_len (M := M) (n := n) (i := i) (j := j) hi hj hn3
            rw [← HFR.out.1] at this
            exact this
          have HLJ := hid hlj
          clear hlj
          gi_wp2_with fail
          refine ⟨trivial, ?_⟩
          show CallsIn _ _ _ _ _ _ _
          refine (callsIn_wide.2 HC.out).mono ?_
          rintro e w2 ⟨a, b, rfl, hfr, hb2⟩
          have HFX := hid hfr
          have HO2 := hid (row2_keep HO.out hb2)
          have HB2 := hid (HB.out.trans (hb2.mono HB.out.size))
          have HR2 := hid (heap_below hb2 HR.out)
          have hbs := HB2.out.size
          have hrl := (Array.getElem?_eq_some_iff.1 HR2.out).1
          clear hfr hb2
          gi_wp2_with (gi_at_builtin; refine wpListIn_append_own_at _ rfl _ _ 72 rfl (w.heap.size + 1) 65 iF (.agg #[.int .i64 0, .int .i64 0]) 2 16 Try.underlying72 hF hz0 hz1 hz2 rfl (by decide) _ _ _ rfl ((show World.ownsRow _ _ _ _ _ _ _ from HO2.out).alloc _) ⟨w2.heap.size, 0, none⟩ 1 1 [.int .i64 a, .int .i64 b] rfl rfl (cell_two_new _ _ _ _) (by simp [Value.oneCell']) (by unfold maxLen; omega) (by omega) (by simp; omega) ?_; intro v' w3 hown' hgrow _ hat; have HG := hid hgrow; have HW := hid hown'; clear hown' hgrow hat)
          have hsg := HG.out.size
          simp only [World.size_alloc] at hsg
          have hr3 := (HG.out.block w.heap.size (by simp; omega) (fun e => by have := HO2.out.lt2 _ e.symm; omega)).trans (heap_up HR2.out)
          have HR3 := hid hr3
          clear hr3
          go_roundw
          case measure => simp only [intOf]; have := HLJ.out; omega
          case rel =>
            refine ⟨j + 1, l ++ [(a, b)], by go_num, HLJ.out, hid (by rw [numsAt_next HLJ.out]; exact frs_snoc HFR.out HFX.out), hid ?_, hid ((HB2.out.alloc hbs _).grown HG.out (by simp; omega) (fun k e => by have := HO2.out.lt2 k e; omega)), HR3⟩
            unfold OwnF
            rw [List.length_append, encF_snoc]
            exact HW.out
        · obtain rfl : j = n := by omega
          clear hlj
          gi_wp2_with fail
          go_roundw
          case measure => simp only [intOf]; have := HLT.out; omega
          case rel => exact ⟨i + 1, l, by go_num, HLT.out, hid (by rw [← numsAt_row HLT.out]; exact HFR.out), HO, HB, HR⟩
    · obtain rfl : i = n := by omega
      have hfr := HFR.out
      rw [numsAt_all] at hfr
      have hfl := flat_len (n := i) (matL i M) (fun r hr => by
        obtain ⟨k, _, rfl⟩ := List.mem_map.1 hr
        simp)
      rw [matL_len] at hfl
      have hll : l.length = i * i := by rw [hfr.1, hfl]
      have hsq : 1 ≤ i * i ∧ i * i ≤ 9 := by
        rcases HN.out with rfl | rfl | rfl <;> omega
      obtain ⟨t1, t2⟩ := together_low hfr h0
      have HTG := hid (fun (v : Value) (W : World) (hv : RdF W v l) => together_any v l _ D W hv (by omega) hfr h0 bD (fun k _ => nums_b14 bM k))
      rw [t2, t1] at HTG
      obtain ⟨R, hR⟩ : ∃ R, R = lowR (matL i M) D := ⟨_, rfl⟩
      obtain ⟨L, hL⟩ : ∃ L, L = lowD (matL i M) D := ⟨_, rfl⟩
      have hRs : Sq i R := by rw [hR]; exact sq_low (mat_sq i M)
      have hRl : R.flatten.length = i * i := by rw [flat_len (n := i) R hRs.2, hRs.1]
      have hbd : ∀ x ∈ R.flatten, -100000000000000 ≤ x ∧ x ≤ 100000000000000 := fun x hx => by
        rw [hR, ← t2] at hx
        obtain ⟨f, hf, rfl⟩ := List.mem_map.1 hx
        obtain ⟨k, hk, rfl⟩ := List.getElem_of_mem hf
        have e := hfr.2 k hk
        rw [List.getD_eq_getElem?_getD, List.getElem?_eq_getElem hk] at e
        have ha := lcm_all (l := l) (D := D) (fun f hf => by
          obtain ⟨k, hk, rfl⟩ := List.getElem_of_mem hf
          have e := hfr.2 k hk
          rw [List.getD_eq_getElem?_getD, List.getElem?_eq_getElem hk] at e
          exact ⟨e.pos, e.den⟩) l.length (Nat.le_refl _)
        rw [List.take_length] at ha
        have hb := nums_b14 bM k
        exact over_bd e (ha.2.2 _ (List.getElem_mem _)) ha.2.1 h0 (by omega) hb.1 hb.2
      have hL1 : 1 ≤ L ∧ L ≤ 100000000000000 := by
        rw [hL, ← t1]
        have ha := lcm_all (l := l) (D := D) (fun f hf => by
          obtain ⟨k, hk, rfl⟩ := List.getElem_of_mem hf
          have e := hfr.2 k hk
          rw [List.getD_eq_getElem?_getD, List.getElem?_eq_getElem hk] at e
          exact ⟨e.pos, e.den⟩) l.length (Nat.le_refl _)
        rw [List.take_length] at ha
        have := b14_dvd ha.1 ha.2.1 h0 bD
        exact ⟨ha.1, this.2⟩
      have HHG := hid (fun (v : Value) (W : World) (hv : Rd W v R.flatten) => heightOfG_any v R.flatten W hv (by omega) hbd)
      have HNO : Hid (¬ (L ≤ 10000 ∧ hgtL R.flatten ≤ 1000000) → madeV i M D = none) := hid (fun h => made_none (by rw [← hL, ← hR]; exact h))
      have HYES : Hid (L ≤ 10000 → hgtL R.flatten ≤ 1000000 → madeV i M D = some (R, L)) := hid (fun h1 h2 => by rw [hR, hL] at *; exact made_some h1 h2)
      rw [← hR, ← hL] at HTG
      have HRS := hid hRs
      have HRL := hid hRl
      have HV := hid (HO.out.rd2 (by omega))
      obtain ⟨gv, cv, hev, hlm, _, _⟩ := HV.out
      subst hev
      have HLL := hid hll
      clear hfr hfl hsq t1 t2 hR hL hRs hRl hbd hlm hlt HFR hll
      gi_wp2_with fail
      refine ⟨trivial, ?_⟩
      gi_at_call 70
      refine (callsIn_wide.2 (HTG.out _ _ HV.out)).mono ?_
      rintro e w2 ⟨u, rfl, ho, hb2⟩
      obtain ⟨gN, cN, hu, hc1, hc2, hg1, hg2⟩ := owns_form ho (by rw [HRL.out]; rcases HN.out with rfl | rfl | rfl <;> omega)
      subst hu
      rw [HRL.out] at ho hc1 ⊢
      have HU := hid ho
      have HB2 := hid (HB.out.trans (hb2.mono HB.out.size))
      have HR2 := hid (heap_below hb2 HR.out)
      have HRD := hid (ho.rd)
      have z0 := cellB (i := 0) HR2.out
      have z1 := cellB (i := 1) HR2.out
      have y0 := frozenB (i := 0) HR2.out
      have y1 := frozenB (i := 1) HR2.out
      clear ho hb2
      obtain ⟨l1, l2⟩ := hL1
      by_cases hLD : L ≤ 10000
      · obtain ⟨H, hH⟩ : ∃ H, H = hgtL R.flatten := ⟨_, rfl⟩
        rw [← hH] at HHG HNO HYES
        clear hH
        by_cases hHG : H ≤ 1000000
        · have HM := hid (HYES.out hLD hHG)
          have hhi : (H : Int) ≤ 1000000 := by omega
          clear HYES HNO hHG
          gi_wp2_with fail
          refine ⟨trivial, ?_⟩
          gi_at_call 89
          refine (callsIn_wide.2 (HHG.out _ _ HRD.out)).mono ?_
          rintro e w3 ⟨rfl, rfl⟩
          gi_wp2_with fail
          refine ⟨trivial, ?_⟩
          gi_at_call 90
          refine (callsIn_wide.2 (chunk_make _ i hn1 hn3 _ ⟨_, _, _, rfl⟩)).mono ?_
          rintro e w' ⟨rfl, rfl⟩
          gi_wp2_with fail
          have hc3 := hc2
          have HBW := hid (show w.heap.size ≤ wr.heap.size from HB.out.size)
          have HB5 : Hid (Below w2.heap.size w2 (((w2.alloc (.cells #[.slice none 0 0, .int .i64 L] 29)).alloc (.cells #[.slice (some ⟨gN, 0, none⟩) (i * i) cN] 22)).alloc (.cells #[.int .i64 (i : Int)] 3))) := hid (((below_box2 _ _).alloc (by simp) _).alloc (by simp; omega) _)
          have HCK : Hid (ChunkAt (w2.heap.size + 1) gN i cN (((w2.alloc (.cells #[.slice none 0 0, .int .i64 L] 29)).alloc (.cells #[.slice (some ⟨gN, 0, none⟩) (i * i) cN] 22)).alloc (.cells #[.int .i64 (i : Int)] 3))) := hid ⟨heap_up (heap_new (by simp)), heap_new (by simp)⟩
          refine wpIn_rangeFunc_ownF rfl (by omega) (gf := 100) (lb := #[.pointer (some ⟨w2.heap.size + 1, 0, none⟩), .pointer (some ⟨w2.heap.size + 1 + 1, 0, none⟩)]) rfl trivial (enters_of Try.func100 (by kernel_rfl) rfl)
            (chunk_stops _ (w2.heap.size + 1) gN i cN HN.out hc1 (by unfold maxLen at hc2; omega) _ (by simp) HCK.out) (fun h k => h.trans k) (fun W l o o' hl h _ _ => Hold.put (by simp at hl; omega) W o') (Below.refl _ _) (fun _ => rfl)
            (fun (pre : List (Fin i)) W => ∃ rv, W.heap[w2.heap.size]? = some (.cells #[rv, .int .i64 L] 29 (0, 0)) ∧ OwnM W (w2.heap.size + 1 + 1 + 1) none rv (pre.map (fun x => rowAt9 R x.1)) ∧ Owns W w.heap.size (.slice (some ⟨gN, 0, none⟩) (i * i) cN) R.flatten ∧ W.heap[w.heap.size]? = some (.cells #[.slice none 0 0, .int .i64 0] 29 (0, 0)) ∧ Below w.heap.size w W ∧ w2.heap.size + 1 + 1 + 1 ≤ W.heap.size)
            (fun _ _ _ => False) ?hI (fun _ _ _ _ _ hs _ _ => hs) ?hI0 ?a1 ?assign ?body ?done ?stop
          case hI =>
            rintro s A B row ⟨rv, h1, h2, h3, h4, h5, h6⟩ hg hr
            exact ⟨rv, heap_turn h1 hg (fun r e => (hr r e).2), h2.turn hg (fun r e => (hr r e).2), h3.turn hg (fun r e => (hr r e).2), heap_turn h4 hg (fun r e => (hr r e).2), h5.grown hg (by have := HB2.out.size; omega) (fun k e => by have h9 := (hr k e).1; have := HB2.out.size; simp at h9; omega), Nat.le_trans h6 hg.size⟩
          case hI0 =>
            exact ⟨.slice none 0 0, heap_up (heap_up (heap_new rfl)), ownM_nil _ _ _, ((HU.out.down HBW.out).keep (HU.out.down HBW.out).lt HB5.out), heap_below HB5.out HR2.out, HB2.out.trans (HB5.out.mono HB2.out.size), by simp⟩
          case assign =>
            intro l x W K hK
            gi_wp2
            exact hK
          case body =>
            rintro lr pre x W0 ⟨RV, h1, h2, h3, h4, h5, h6⟩ hlen
            have hx := x.2
            have hrow : (R.getD x.1 []).length = i := HRS.out.2 _ (by rw [List.getD_eq_getElem?_getD, List.getElem?_eq_getElem (by rw [HRS.out.1]; exact hx)]; exact List.getElem_mem _)
            obtain ⟨row, hrw⟩ : ∃ row, row = R.getD x.1 [] := ⟨_, rfl⟩
            obtain ⟨Pr, hPr⟩ : ∃ Pr, Pr = pre.map (fun x => rowAt9 R x.1) := ⟨_, rfl⟩
            have hPl : Pr.length ≤ 4 := by rw [hPr, List.length_map]; omega
            have HPN : Hid ((pre ++ [x]).map (fun x => rowAt9 R x.1) = Pr ++ [row]) := hid (by rw [List.map_append, hPr, hrw]; rfl)
            have hrd : Rd W0 (.slice (some ⟨gN, x.1 * i, none⟩) i i) row := by
              refine .inr ⟨gN, x.1 * i, i, by rw [hrw, hrow], ⟨by rw [hrw, hrow]; omega, by rw [hrw, hrow]; exact Nat.le_refl _⟩, by rw [hrw, hrow]; unfold maxLen; omega, fun k hk => ?_⟩
              rw [hrw, hrow] at hk
              have hlt : x.1 * i + k < i * i := by
                have := Nat.mul_le_mul_right i (show x.1 + 1 ≤ i by omega)
                rw [Nat.succ_mul] at this
                omega
              have e := h3.elem (i := x.1 * i + k) (by rw [HRL.out]; exact hlt)
              rw [flat_at HRS.out.2 (by rw [HRS.out.1]; exact hx) hk] at e
              rw [hrw]
              exact e
            rw [← hPr] at h2
            rw [← hrw] at hrow
            have HRLN : Hid (row.length ≤ 1000) := hid (by omega)
            have HRB : Hid (Pr.length ≤ 4) := hid hPl
            obtain ⟨n1, hn1e⟩ : ∃ n1, n1 = w2.heap.size + 1 + 1 + 1 := ⟨_, rfl⟩
            have hbtn : w2.heap.size < n1 := by omega
            have hbw0 : w.heap.size ≤ w2.heap.size := by have := HB2.out.size; omega
            rw [← hn1e] at h2 h6
            obtain ⟨arv, crv, rfl⟩ := h2.rd.form
            obtain ⟨W, hW⟩ : ∃ W, W = W0.drew := ⟨_, rfl⟩
            have HW0 := hid hW
            have HWB : Hid (Below W.heap.size W W0.drew) := hid (by rw [hW]; exact Below.refl _ _)
            have HW1 : Hid (W.heap[w2.heap.size]? = some (.cells #[.slice arv Pr.length crv, .int .i64 L] 29 (0, 0))) := hid (by rw [hW]; exact h1)
            have HOM : Hid (OwnM W n1 none (.slice arv Pr.length crv) Pr) := hid (by rw [hW]; exact h2.keep (below_drewN (Below.refl _ _) 1))
            have HRW : Hid (Rd W (.slice (some ⟨gN, x.1 * i, none⟩) i i) row) := hid (by rw [hW]; exact hrd.keep (below_drewN (Below.refl _ _) 1))
            have HNN : Hid (n1 ≤ W.heap.size) := hid (by rw [hW]; exact h6)
            have HBT := hid hbtn
            have HB0W := hid hbw0
            have HU3 := hid h3
            have HR4 := hid h4
            have HB6 := hid h5
            have HN1E := hid hn1e
            clear hPl hrow hrw hPr hrd h1 h2 h3 h4 h5 h6 hlen hx hn1e
            gi_wp2_with fail
            refine region_invIn (by kernel_rfl) (fun LB act wx => ∃ (s50 s51 s52 s53 s54 s55 s56 : Value), act = ({ tmps := #[.int .i64 (i : Int), .func (.func fc) #[] cap, undef, undef, .pointer (some ⟨w.heap.size, 0, none⟩), .bool false, .slice (some ⟨gv, 0, none⟩) l.length cv, u7, u8, .slice (some ⟨gN, 0, none⟩) (i * i) cN, .int .i64 L, .pointer (some ⟨w2.heap.size, 0, none⟩), .slice (some ⟨gN, x.1 * i, none⟩) i i, .slice (some ⟨w.heap.size + 1, 0, none⟩) 0 0, .int .i64 (i : Int), .int .i64 (i : Int), .bool false, u17, u18, u19, u20, u21, u22, u23, u24, u25, u26, u27, u28, u29, u30, .tuple #[.slice (some ⟨gN, 0, none⟩) (i * i) cN, .int .i64 L], .slice (some ⟨gv, 0, none⟩) l.length cv, .tuple #[.slice (some ⟨gN, 0, none⟩) (i * i) cN, .int .i64 L], .slice (some ⟨gN, 0, none⟩) (i * i) cN, .int .i64 L, .int .i64 L, .bool (decide (10000 < L)), .bool (decide (10000 < L)), .slice (some ⟨gN, 0, none⟩) (i * i) cN, .int .i64 (H : Int), .bool (decide (1000000 < (H : Int))), .bool (decide (10000 < L) || decide (1000000 < (H : Int))), undef, .int .i64 L, .agg #[.slice none 0 0, .int .i64 L], .slice (some ⟨gN, 0, none⟩) (i * i) cN, .int .i64 (i : Int), .func (.func 100) #[] #[.pointer (some ⟨w2.heap.size + 1, 0, none⟩), .pointer (some ⟨w2.heap.size + 1 + 1, 0, none⟩)], .slice (some ⟨gN, x.1 * i, none⟩) i i, s50, s51, s52, s53, s54, s55, s56, undef], defers := [] } : Act) ∧ ChI n1 w2.heap.size L W (.slice arv Pr.length crv) (.slice (some ⟨gN, x.1 * i, none⟩) i i) Pr row LB wx s50 s51 s52 s53 s54 s55 s56) ?h0 ?hend ?hstep
            case h0 => exact ⟨_, _, _, _, _, _, _, rfl, ⟨rfl, fun h => (dn_new h).elim, fun h => (dn_new h).elim, fun h => (dn_new h).elim, fun h => (dn_new h).elim, fun h => (dn_new h).elim, fun _ => HWB.out, fun h => (dn_new h).elim, fun h => (dn_new h).elim, fun h => (dn_new h).elim, fun h => (dn_new h).elim, fun h => (dn_new h).elim, fun h => (dn_new h).elim, fun h => (dn_new h).elim⟩⟩
            case hstep =>
              rintro LB act wx k ⟨s50, s51, s52, s53, s54, s55, s56, rfl, I⟩ hk
              obtain ⟨hi1, hf, hdep⟩ := ready_mem hk
              have hi2 : k < 8 := hi1
              have HI := hid I
              have HF := hid hf
              clear hk hi1 I hf
              have hc : k = 0 ∨ k = 1 ∨ k = 2 ∨ k = 3 ∨ k = 4 ∨ k = 5 ∨ k = 6 ∨ k = 7 := by omega
              clear hi2
              rcases hc with rfl | rfl | rfl | rfl | rfl | rfl | rfl | rfl
              · skip
                clear hdep
                refine wpOpIn_step rfl (fun K hK => ?_)
                go_simp
                exact hK _ _ ⟨_, _, _, _, _, _, _, rfl, ⟨(by rw [Array.size_setIfInBounds]; exact HI.out.hs), fun _ => rfl, fun h => HI.out.h1 (dn_old h (by decide)), fun h => HI.out.h2 (dn_old h (by decide)), fun h h' => HI.out.h3 (dn_old h (by decide)) (fun q => h' (dn_keep q)), fun h h' => HI.out.h4 (dn_old h (by decide)) (fun q => h' (dn_keep q)), fun h' => HI.out.hb (fun q => h' (dn_keep q)), fun h => HI.out.h5 (dn_old h (by decide)), fun h h' => HI.out.h5a (dn_old h (by decide)) (fun q => h' (dn_keep q)), fun h => HI.out.h6 (dn_old h (by decide)), fun h => HI.out.h7 (dn_old h (by decide)), fun h => dn_keep (HI.out.d4 (dn_old h (by decide))), fun h => ⟨dn_keep (HI.out.d5 (dn_old h (by decide))).1, dn_keep (HI.out.d5 (dn_old h (by decide))).2⟩, fun h => ⟨dn_keep (HI.out.d7 (dn_old h (by decide))).1, dn_keep (HI.out.d7 (dn_old h (by decide))).2⟩⟩⟩
              · skip
                have q0 : dn LB 0 := hdep _ rfl { on := 0, ground := .data } (by simp) rfl
                clear hdep
                obtain rfl := HI.out.h0 q0
                have n5 : ¬ dn LB 5 := fun q => dn_not HF.out (HI.out.d5 q).1
                have hbw := HI.out.hb n5
                have hsz := hbw.size
                have z0 := cellB (i := 0) (heap_below hbw HW1.out)
                refine wpOpIn_step rfl (fun K hK => ?_)
                go_simp
                exact hK _ _ ⟨_, _, _, _, _, _, _, rfl, ⟨(by rw [Array.size_setIfInBounds]; exact HI.out.hs), fun h => HI.out.h0 (dn_old h (by decide)), fun _ => rfl, fun h => HI.out.h2 (dn_old h (by decide)), fun h h' => HI.out.h3 (dn_old h (by decide)) (fun q => h' (dn_keep q)), fun h h' => HI.out.h4 (dn_old h (by decide)) (fun q => h' (dn_keep q)), fun h' => HI.out.hb (fun q => h' (dn_keep q)), fun h => HI.out.h5 (dn_old h (by decide)), fun h h' => HI.out.h5a (dn_old h (by decide)) (fun q => h' (dn_keep q)), fun h => HI.out.h6 (dn_old h (by decide)), fun h => HI.out.h7 (dn_old h (by decide)), fun h => dn_keep (HI.out.d4 (dn_old h (by decide))), fun h => ⟨dn_keep (HI.out.d5 (dn_old h (by decide))).1, dn_keep (HI.out.d5 (dn_old h (by decide))).2⟩, fun h => ⟨dn_keep (HI.out.d7 (dn_old h (by decide))).1, dn_keep (HI.out.d7 (dn_old h (by decide))).2⟩⟩⟩
              · skip
                clear hdep
                refine wpOpIn_step rfl (fun K hK => ?_)
                go_simp
                exact hK _ _ ⟨_, _, _, _, _, _, _, rfl, ⟨(by rw [Array.size_setIfInBounds]; exact HI.out.hs), fun h => HI.out.h0 (dn_old h (by decide)), fun h => HI.out.h1 (dn_old h (by decide)), fun _ => rfl, fun h h' => HI.out.h3 (dn_old h (by decide)) (fun q => h' (dn_keep q)), fun h h' => HI.out.h4 (dn_old h (by decide)) (fun q => h' (dn_keep q)), fun h' => HI.out.hb (fun q => h' (dn_keep q)), fun h => HI.out.h5 (dn_old h (by decide)), fun h h' => HI.out.h5a (dn_old h (by decide)) (fun q => h' (dn_keep q)), fun h => HI.out.h6 (dn_old h (by decide)), fun h => HI.out.h7 (dn_old h (by decide)), fun h => dn_keep (HI.out.d4 (dn_old h (by decide))), fun h => ⟨dn_keep (HI.out.d5 (dn_old h (by decide))).1, dn_keep (HI.out.d5 (dn_old h (by decide))).2⟩, fun h => ⟨dn_keep (HI.out.d7 (dn_old h (by decide))).1, dn_keep (HI.out.d7 (dn_old h (by decide))).2⟩⟩⟩
              · skip
                have q2 : dn LB 2 := hdep _ rfl { on := 2, ground := .data } (by simp) rfl
                clear hdep
                obtain rfl := HI.out.h2 q2
                have n5 : ¬ dn LB 5 := fun q => dn_not HF.out (HI.out.d4 (HI.out.d5 q).2)
                have hbw := HI.out.hb n5
                have hsz := hbw.size
                refine wpOpIn_step rfl (fun K hK => ?_)
                go_simp
                refine ⟨trivial, ?_⟩
                gi_at_call 91
                refine (CallsIn.inRound _ (callsIn_wide.2 (clone7_any _ _ _ row HRLN.out _ (HRW.out.keep hbw)))).mono ?_
                rintro e wP ⟨u, rfl, ho, hbk⟩
                exact hK _ _ ⟨_, _, _, _, _, _, _, rfl, ⟨(by rw [Array.size_setIfInBounds]; exact HI.out.hs), fun h => HI.out.h0 (dn_old h (by decide)), fun h => HI.out.h1 (dn_old h (by decide)), fun h => HI.out.h2 (dn_old h (by decide)), fun _ _ => ⟨owns_slice ho, ho.down hsz⟩, fun h => (dn_not HF.out (HI.out.d4 (dn_old h (by decide)))).elim, fun h' => hbw.trans (hbk.mono hsz), fun h => (n5 (dn_old h (by decide))).elim, fun h => (n5 (dn_old h (by decide))).elim, fun h => HI.out.h6 (dn_old h (by decide)), fun h => (n5 (HI.out.d7 (dn_old h (by decide))).1).elim, fun h => dn_keep (HI.out.d4 (dn_old h (by decide))), fun h => ⟨dn_keep (HI.out.d5 (dn_old h (by decide))).1, dn_keep (HI.out.d5 (dn_old h (by decide))).2⟩, fun h => ⟨dn_keep (HI.out.d7 (dn_old h (by decide))).1, dn_keep (HI.out.d7 (dn_old h (by decide))).2⟩⟩⟩
              · skip
                have q3 : dn LB 3 := hdep _ rfl { on := 3, ground := .data } (by simp) rfl
                clear hdep
                have n5 : ¬ dn LB 5 := fun q => dn_not HF.out (HI.out.d5 q).2
                have hbw := HI.out.hb n5
                have hsz := hbw.size
                obtain ⟨⟨a53, c53, rfl⟩, ho⟩ := HI.out.h3 q3 (dn_not HF.out)
                refine wpOpIn_step rfl (fun K hK => ?_)
                go_simp
                exact hK _ _ ⟨_, _, _, _, _, _, _, rfl, ⟨(by rw [Array.size_setIfInBounds]; exact HI.out.hs), fun h => HI.out.h0 (dn_old h (by decide)), fun h => HI.out.h1 (dn_old h (by decide)), fun h => HI.out.h2 (dn_old h (by decide)), fun _ h' => absurd (dn_self2 HF.out) h', fun _ _ => ⟨wx, _, rfl, rfl, hbw, ⟨_, _, rfl⟩, ho⟩, fun h' => hbw.alloc hsz _, fun h => (n5 (dn_old h (by decide))).elim, fun h => (n5 (dn_old h (by decide))).elim, fun h => HI.out.h6 (dn_old h (by decide)), fun h => (n5 (HI.out.d7 (dn_old h (by decide))).1).elim, fun _ => dn_keep q3, fun h => ⟨dn_keep (HI.out.d5 (dn_old h (by decide))).1, dn_keep (HI.out.d5 (dn_old h (by decide))).2⟩, fun h => ⟨dn_keep (HI.out.d7 (dn_old h (by decide))).1, dn_keep (HI.out.d7 (dn_old h (by decide))).2⟩⟩⟩
              · skip
                have q1 : dn LB 1 := hdep _ rfl { on := 1, ground := .data } (by simp) rfl
                have q4 : dn LB 4 := hdep _ rfl { on := 4, ground := .data } (by simp) rfl
                clear hdep
                obtain ⟨wz, zv, rfl, rfl, hbz, ⟨a53, c53, rfl⟩, ho⟩ := HI.out.h4 q4 (dn_not HF.out)
                obtain rfl := HI.out.h1 q1
                have hsz := hbz.size
                have hnn := HNN.out
                have hrb := HRB.out
                obtain ⟨vals, SN⟩ := ownM_snoc HOM.out hbz HNN.out ho (fun k e => by cases e)
                obtain ⟨i1, hi1, hy0, hy1, hy2⟩ := info_parts infoRow
                obtain ⟨v5, w5, hr5, hown5, hgrow5, _, hat5⟩ := run_append_own_at (P := Try.prog) (w := wz.alloc (.cells #[.slice a53 row.length c53] 22)) n1 23 23 22 i1 (.slice none 0 0) 1 24 Try.underlying23 hi1 hy0 hy1 hy2 rfl (by decide) (.slice arv Pr.length crv) Pr.length vals ((show World.ownsRow wz _ _ _ _ _ _ from SN.row).alloc _) ⟨wz.heap.size, 0, none⟩ 1 1 [.slice a53 row.length c53] rfl (cell_one_new _ _ _) (by simp [Value.oneCell']) (by unfold maxLen; omega) (by omega) (by simp; omega)
                have hm5 := SN.fin _ _ _ hown5 hgrow5 hat5
                obtain ⟨g5, c5, rfl⟩ := ownsRow_succ hown5
                have hne5 : ∀ g, g < n1 → some g ≠ (Value.slice arv Pr.length crv).ownBlock := fun g h e => by
                  have := HOM.out.lt g e.symm
                  omega
                have hk5 : KeepsOthers W w5 := (keeps_of hbz).trans ((KeepsOthers.alloc wz _).trans (KeepsOthers.of_grownBy hgrow5 (fun j o e hj => row_cells9 ((show World.ownsRow wz _ _ _ _ _ _ from SN.row).alloc _) e hj)))
                have hs5 : W.heap.size ≤ w5.heap.size := hk5.size
                have hg5 : ∀ g, g < n1 → w5.heap[g]? = W.heap[g]? := fun g h1 => ((hgrow5.block g (by simp; omega) (hne5 g h1)).trans (Below.heap_alloc _ _ _ (by omega))).trans (hbz.block g (by omega))
                have ho5 : w5.os = W.os ∧ w5.tape = W.tape ∧ w5.output = W.output := ⟨hgrow5.os.trans hbz.os, hgrow5.tape.trans hbz.tape, hgrow5.output.trans hbz.output⟩
                have hb5 := (hg5 w2.heap.size HBT.out).trans HW1.out
                refine wpOpIn_step rfl (fun K hK => ?_)
                refine step_appendM_toldIn rfl (.tmp 51) (.tmp 54) (.slice arv Pr.length crv) (.slice (some ⟨wz.heap.size, 0, none⟩) 1 1) _ rfl rfl rfl rfl hr5 ?_
                exact hK _ _ ⟨_, _, _, _, _, _, _, rfl, ⟨(by rw [Array.size_setIfInBounds]; exact HI.out.hs), fun h => HI.out.h0 (dn_old h (by decide)), fun h => HI.out.h1 (dn_old h (by decide)), fun h => HI.out.h2 (dn_old h (by decide)), fun _ h' => absurd (dn_keep q4) h', fun _ h' => absurd (dn_self2 HF.out) h', fun h' => absurd (dn_self2 HF.out) h', fun _ => ⟨hm5, ⟨_, _, rfl⟩, hk5, hs5, fun g h1 _ => hg5 g h1, ho5⟩, fun _ _ => hb5, fun h => HI.out.h6 (dn_old h (by decide)), fun h => (dn_not HF.out (HI.out.d7 (dn_old h (by decide))).1).elim, fun h => dn_keep (HI.out.d4 (dn_old h (by decide))), fun _ => ⟨dn_keep q1, dn_keep q4⟩, fun h => ⟨dn_keep (HI.out.d7 (dn_old h (by decide))).1, dn_keep (HI.out.d7 (dn_old h (by decide))).2⟩⟩⟩
              · skip
                clear hdep
                refine wpOpIn_step rfl (fun K hK => ?_)
                go_simp
                exact hK _ _ ⟨_, _, _, _, _, _, _, rfl, ⟨(by rw [Array.size_setIfInBounds]; exact HI.out.hs), fun h => HI.out.h0 (dn_old h (by decide)), fun h => HI.out.h1 (dn_old h (by decide)), fun h => HI.out.h2 (dn_old h (by decide)), fun h h' => HI.out.h3 (dn_old h (by decide)) (fun q => h' (dn_keep q)), fun h h' => HI.out.h4 (dn_old h (by decide)) (fun q => h' (dn_keep q)), fun h' => HI.out.hb (fun q => h' (dn_keep q)), fun h => HI.out.h5 (dn_old h (by decide)), fun h h' => HI.out.h5a (dn_old h (by decide)) (fun q => h' (dn_keep q)), fun _ => rfl, fun h => HI.out.h7 (dn_old h (by decide)), fun h => dn_keep (HI.out.d4 (dn_old h (by decide))), fun h => ⟨dn_keep (HI.out.d5 (dn_old h (by decide))).1, dn_keep (HI.out.d5 (dn_old h (by decide))).2⟩, fun h => ⟨dn_keep (HI.out.d7 (dn_old h (by decide))).1, dn_keep (HI.out.d7 (dn_old h (by decide))).2⟩⟩⟩
              · skip
                have q6 : dn LB 6 := hdep _ rfl { on := 6, ground := .data } (by simp) rfl
                have q5 : dn LB 5 := hdep _ rfl { on := 5, ground := .data } (by simp) rfl
                clear hdep
                obtain rfl := HI.out.h6 q6
                obtain ⟨hm5, ⟨g5, c5, rfl⟩, hk5, hs5, hg5, ho5⟩ := HI.out.h5 q5
                have hb5 := HI.out.h5a q5 (dn_not HF.out)
                have z0 := cellB (i := 0) hb5
                have y0 := frozenB (i := 0) hb5
                refine wpOpIn_step rfl (fun K hK => ?_)
                go_simp
                exact hK _ _ ⟨_, _, _, _, _, _, _, rfl, ⟨(by rw [Array.size_setIfInBounds]; exact HI.out.hs), fun h => HI.out.h0 (dn_old h (by decide)), fun h => HI.out.h1 (dn_old h (by decide)), fun h => HI.out.h2 (dn_old h (by decide)), fun _ h' => absurd (dn_keep (HI.out.d5 q5).2) h', fun _ h' => absurd (dn_keep q5) h', fun h' => absurd (dn_keep q5) h', fun _ => ⟨hm5.setLow (a := ⟨w2.heap.size, 0, none⟩) (.inl HBT.out) _, ⟨_, _, rfl⟩, hk5.trans (KeepsOthers.setCell _ _ _), by simpa using hs5, fun g h1 h2 => (heap_setCell_other _ _ _ _ h2).trans (hg5 g h1 h2), ho5⟩, fun _ h' => absurd (dn_self2 HF.out) h', fun h => HI.out.h6 (dn_old h (by decide)), fun _ => heap_two0 hb5, fun h => dn_keep (HI.out.d4 (dn_old h (by decide))), fun h => ⟨dn_keep (HI.out.d5 (dn_old h (by decide))).1, dn_keep (HI.out.d5 (dn_old h (by decide))).2⟩, fun _ => ⟨dn_keep q5, dn_keep q6⟩⟩⟩
            case hend =>
              rintro LB act wx ⟨s50, s51, s52, s53, s54, s55, s56, rfl, I⟩ hrd
              have Dn := all_done2 I.hs (by kernel_rfl) hrd
              obtain ⟨hm5, ⟨g5, c5, rfl⟩, hk5, hs5, hg5, ho5⟩ := I.h5 (Dn 5 (by decide))
              have hb7 := I.h7 (Dn 7 (by decide))
              clear I Dn hrd
              have hwe := HW0.out
              subst hwe
              have hnn := HNN.out
              have hne := HN1E.out
              have hw2 := (Array.getElem?_eq_some_iff.1 HR2.out).1
              gi_wp2_with fail
              refine ⟨(KeepsOthers.drew W0).trans hk5, fun k h1 h2 => hg5 k (by omega) (by omega), _, hb7, ?_, HU3.out.at_block (fun g e => hg5 g ?_ ?_), (hg5 _ (by omega) (by omega)).trans HR4.out, ⟨ho5.1.trans HB6.out.os, ho5.2.1.trans HB6.out.tape, ho5.2.2.trans HB6.out.output, Nat.le_trans HB6.out.size hs5, fun g hg => (hg5 g (by omega) (by omega)).trans (HB6.out.block g hg)⟩, by have : W0.drew.heap.size = W0.heap.size := rfl; omega⟩
              · rw [HPN.out, ← hne]; exact hm5
              · have : gN = g := by simpa [Value.ownBlock] using e
                omega
              · have : gN = g := by simpa [Value.ownBlock] using e
                omega
          case done =>
            rintro D' ys W hD hS ⟨rv, h1, h2, h3, h4, h5, h6⟩ hK
            have hys : ys.map (fun x => rowAt9 R x.1) = R := by
              have e : ys.map (fun x => rowAt9 R x.1) = (ys.map (·.1)).map (rowAt9 R) := by rw [List.map_map]; rfl
              rw [e, hS]
              refine List.ext_getElem (by rw [List.length_map, List.length_range, HRS.out.1]) fun k k1 k2 => ?_
              rw [List.getElem_map, List.getElem_range]
              unfold rowAt9
              rw [List.getD_eq_getElem?_getD, List.getElem?_eq_getElem k2]; rfl
            rw [hys] at h2
            obtain ⟨arv, crv, rfl⟩ := h2.rd.form
            have hw2 := (Array.getElem?_eq_some_iff.1 HR2.out).1
            simp only [World.size_alloc] at hD
            have z0 := cellB (i := 0) h1
            have z1 := cellB (i := 1) h1
            have y0 := cellB (i := 0) h4
            have y1 := cellB (i := 1) h4
            have x0 := frozenB (i := 0) h4
            have x1 := frozenB (i := 1) h4
            have hK2 : ((W.setCell ⟨w.heap.size, 0, none⟩ (.slice arv R.length crv)).setCell ⟨w.heap.size, 1, none⟩ (.int .i64 L)).heap[D']? = some (.deferred (some [])) := by
              rw [heap_setCell_other _ _ _ _ (by show D' ≠ w.heap.size; omega), heap_setCell_other _ _ _ _ (by show D' ≠ w.heap.size; omega)]; exact hK
            have HO9 := hid (((h2.down (B := w.heap.size + 1) (by omega)).setLow (a := ⟨w.heap.size, 0, none⟩) (.inl (by show w.heap.size < w.heap.size + 1; omega)) (.slice arv R.length crv)).setLow (a := ⟨w.heap.size, 1, none⟩) (.inl (by show w.heap.size < w.heap.size + 1; omega)) (.int .i64 L))
            have hq : (((W.setCell ⟨w.heap.size, 0, none⟩ (.slice arv R.length crv)).setCell ⟨w.heap.size, 1, none⟩ (.int .i64 L)).putObj D' (.deferred none)).heap[w.heap.size]? = some (.cells #[.slice arv R.length crv, .int .i64 L] 29 (0, 0)) := (World.putObj_heap_other (by omega)).trans (heap_two1 (heap_two0 h4))
            have p0 := cellB (i := 0) hq
            have p1 := cellB (i := 1) hq
            gi_wp2_with fail
            refine ⟨by simp, .inl ⟨_, _, rfl, run_takeDeferred hK2, ?_⟩⟩
            refine leavesM_ret (v := .tuple #[.agg #[.slice arv R.length crv, .int .i64 L], .bool true]) (by simp [results, Try.results52, go_sem]; go_simp) ?_
            rw [HM.out]
            refine ⟨_, rfl, ((HO9.out.turn (grownBy_putObj' _ D' (.deferred none)) (fun r e => by cases e; exact ⟨_, hK2, rfl⟩)).down (Nat.le_succ _)), ?_⟩
            exact ((h5.setCell (Nat.le_refl _) _).setCell (Nat.le_refl _) _).trans (belowK_b (w := w) (Nat.le_refl _) _ D' _ _ (by omega) hK2 rfl rfl)
          case stop =>
            rintro D' c pre W _ _ h _
            exact h.elim
        · have HM := hid (HNO.out (fun h => hHG h.2))
          have hhi : ¬ (H : Int) ≤ 1000000 := by omega
          clear HYES HNO hHG
          gi_wp2_with fail
          refine ⟨trivial, ?_⟩
          gi_at_call 89
          refine (callsIn_wide.2 (HHG.out _ _ HRD.out)).mono ?_
          rintro e w3 ⟨rfl, rfl⟩
          gi_wp2_with fail
          refine leavesM_ret (v := .tuple #[.agg #[.slice none 0 0, .int .i64 0], .bool false]) (by simp [results, Try.results52, go_sem]; go_simp) ?_
          rw [HM.out]
          exact movePost_none HB2.out (Nat.le_refl _) _ _
      · have HM := hid (HNO.out (fun h => hLD h.1))
        clear HYES HNO HHG
        gi_wp2_with fail
        refine ⟨trivial, ?_⟩
        gi_wp2_with fail
        refine leavesM_ret (v := .tuple #[.agg #[.slice none 0 0, .int .i64 0], .bool false]) (by simp [results, Try.results52, go_sem]; go_simp) ?_
        rw [HM.out]
        exact movePost_none HB2.out (Nat.le_refl _) _ _

end Go.Proofs.Ytjabklpnohfjpab
