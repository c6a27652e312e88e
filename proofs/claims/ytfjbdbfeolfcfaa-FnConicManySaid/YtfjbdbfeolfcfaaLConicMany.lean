/-
  Proves: for every code: as many zeros are met as plain headings meet one, and a greater size meets no fewer.
  Conditions: none beyond the given statement's own.
-/
import Derived.Test.YtfjbdbfeolfcfaaQBun29
import Derived.OrdersIn
import Derived.Test.YtfjbdbfeolfcfaaQBun30
import Derived.Test.YtfjbdbfeolfcfaaQBun49
import Derived.Test.YtfjbdbfeolfcfaaCpL
import Derived.Test.YtfjbdbfeolfcfaaQZp5
import Derived.Test.YtfjbdbfeolfcfaaQBun14
import Derived.Test.YtfjbdbfeolfcfaaQZvec2
import Derived.Test.YtfjbdbfeolfcfaaQVecs2
import Derived.Test.YtfjbdbfeolfcfaaRows
import Derived.Test.YtfjbdbfeolfcfaaQBun18
import Derived.Test.YtfjbdbfeolfcfaaQBun47
import Derived.ProofKit
import Derived.OpenShut
import Derived.ShutString
import Derived.ChangeOld
set_option linter.unusedVariables false
namespace Go.Proofs.Ytfjbdbfeolfcfaa
open Go.RowKit

section
variable {F : Fence} {n : Nat} {P : Program} {ops : Array Oper} {Q : Exit → Act → World → Prop} {md : Region.Mode}
theorem any_invIn {I : Array Bool → Act → World → Prop} (hend : ∀ L a w, I L a w → Region.ready md ops L = [] → Q .normal a w)
    (hstep : ∀ L a w i, I L a w → i ∈ Region.ready md ops L → wpOpIn F n P ops Q i (I (L.setIfInBounds i true)) a w) :
    ∀ (fuel : Nat) (L : Array Bool) (a : Act) (w : World), openN L ≤ fuel → I L a w → wpAnyIn F n P md ops Q fuel L a w := by
  intro fuel
  induction fuel with
  | zero => intro L a w hf h; exact ⟨open_ready (by omega), hend L a w h (open_ready (by omega))⟩
  | succ fuel ih =>
    intro L a w hf h
    refine ⟨hend L a w h, fun i hi => ?_⟩
    have ho := open_set (ready_mem hi).2.1
    exact wpOpIn_mono (fun a w hI => ih _ a w (by omega) hI) (hstep L a w i h hi)
/-- inside a fence: what holds at a region's beginning and is kept by each operation that may come up holds at its end -/
theorem region_invIn {id : Nat} {a : Act} {w : World} (hm : P.follows .mixedOrders = true) (I : Array Bool → Act → World → Prop)
    (h0 : I (Array.replicate ops.size false) a w.drew) (hend : ∀ L a w, I L a w → Region.ready .any ops L = [] → Q .normal a w)
    (hstep : ∀ L a w i, I L a w → i ∈ Region.ready .any ops L → wpOpIn F n P ops Q i (I (L.setIfInBounds i true)) a w) : (Code.region id ops true).wpIn F n P Q a w :=
  wpIn_region_any hm (any_invIn hend hstep _ _ _ _ (by rw [open_new]; exact Nat.le_refl _) h0)
end

end Go.Proofs.Ytfjbdbfeolfcfaa

set_option linter.unusedVariables false
namespace Go.Proofs.Ytfjbdbfeolfcfaa
open Go.RowKit Go.Shelf
attribute [local go_sem] Oper.semAt_some

set_option maxRecDepth 100000 in
set_option maxHeartbeats 2000000 in
theorem conicMany_no (vf vv : Value) (xs vs : List Int) (n : Int) (w : World) (hx : Rd w vf xs) (hv : Rd w vv vs) (h : (pointB xs vs && inR n 1 5) = false) : Calls Try.prog 27 #[vf, vv, .int .i64 n] w fun e w' => e = .returned (.int .i64 (-1)) ∧ Below w.heap.size w w' := by
  have HC := hid (conicOf_any vf vv xs vs w hx hv)
  obtain ⟨a, cap, rfl, _⟩ := hx.form
  obtain ⟨a', cap', rfl, _⟩ := hv.form
  clear hx hv
  cases hp : pointB xs vs with
  | false =>
    have HCN : Hid (conOf xs vs (.slice a xs.length cap) (.slice a' vs.length cap') = .tuple #[conN, .bool false]) := hid (by unfold conOf; rw [hp]; rfl)
    rw [HCN.out] at HC
    unfold conN at HC
    clear hp h
    go_enter Try.func27, Try.ntmps27
    go_wp2_with fail
    refine (HC.out).mono ?_
    rintro e w2 ⟨rfl, hb2⟩
    go_wp2
    go_ret
    exact ⟨rfl, hb2.alloc hb2.size _⟩
  | true =>
    obtain ⟨c2, c3, hC, _⟩ := conA_form vs (.slice a xs.length cap) (.slice a' vs.length cap')
    have HCN : Hid (conOf xs vs (.slice a xs.length cap) (.slice a' vs.length cap') = .tuple #[.agg #[.slice a xs.length cap, .slice a' vs.length cap', .int .i64 c2, .int .i64 c3, .int .i64 2], .bool true]) := hid (by unfold conOf; rw [hp, if_pos rfl, hC])
    rw [HCN.out] at HC
    rw [hp, Bool.true_and] at h
    have hn : n < 1 ∨ 5 < n := by
      refine Classical.byContradiction fun hc => ?_
      have : inR n 1 5 = true := by unfold inR; rw [decide_eq_true (show 1 ≤ n by omega), decide_eq_true (show n ≤ 5 by omega)]; rfl
      rw [h] at this; cases this
    clear hp h hC
    rcases hn with hn | hn
    · go_enter Try.func27, Try.ntmps27
      go_wp2_with fail
      refine (HC.out).mono ?_
      rintro e w2 ⟨rfl, hb2⟩
      go_wp2
      go_ret
      exact ⟨rfl, hb2.alloc hb2.size _⟩
    · have hn1 : ¬ n < 1 := by omega
      go_enter Try.func27, Try.ntmps27
      go_wp2_with fail
      refine (HC.out).mono ?_
      rintro e w2 ⟨rfl, hb2⟩
      go_wp2
      go_ret
      exact ⟨rfl, hb2.alloc hb2.size _⟩
structure HitI (W : World) (C hv p0 p1 : Value) (x y : Int) (vs zs : List Int) (ok : Bool) (L : Array Bool) (wx : World) (s11 s12 s35 s36 s37 s38 s39 s40 s41 s42 s43 s44 s45 s46 s47 s48 : Value) : Prop where
  hs : L.size = 16
  hb : Below W.heap.size W wx
  h0 : dn L 0 → s36 = C
  h1 : dn L 1 → s37 = C
  h2 : dn L 2 → s38 = hv
  h3 : dn L 3 → s39 = p0
  h4 : dn L 4 → s40 = .int .i64 x
  h5 : dn L 5 → s41 = hv
  h6 : dn L 6 → s42 = p1
  h7 : dn L 7 → s43 = .int .i64 y
  h8 : dn L 8 → s44 = .agg #[.int .i64 x, .int .i64 y]
  h9 : dn L 9 → Rd wx s45 (headL vs x y)
  h10 : dn L 10 → ∃ u, s46 = .tuple #[u, .bool ok] ∧ Rd wx u zs
  h11 : dn L 11 → ∃ u, s35 = .tuple #[u, .bool ok] ∧ Rd wx u zs
  h12 : dn L 12 → Rd wx s47 zs
  h13 : dn L 13 → s48 = .bool ok
  h14 : dn L 14 → Rd wx s11 zs
  h15 : dn L 15 → s12 = .bool ok
structure PutI (B0 S : Nat) (w W : World) (C u pt : Value) (ob : Obj) (zs : List Int) (n : Nat) (D D' : DataW Nat) (L : Array Bool) (wx : World) (s50 s51 s52 s53 : Value) : Prop where
  hs : L.size = 5
  hst : Stay B0 W wx
  hb : Below w.heap.size w wx
  hC : wx.heap[S]? = some ob
  hM : Boxed wx (S + 1 + 1) 67 (.map (some (S + 1)))
  hm0 : ¬ dn L 4 → wx.ownsMap Try.prog 72 (plainElem Try.prog 4) (S + 1) n D ∧ Rd wx u zs
  hm1 : dn L 4 → wx.ownsMap Try.prog 72 (plainElem Try.prog 4) (S + 1) (n + 1) D'
  h0 : dn L 0 → s50 = .map (some (S + 1))
  h1 : dn L 1 → s51 = C
  h2 : dn L 2 → s52 = u
  h3 : dn L 3 → s53 = pt
  d4 : dn L 4 → dn L 3
theorem dn_self {L : Array Bool} {i : Nat} (h : L[i]? = some false) : dn (L.setIfInBounds i true) i := by
  have hl : i < L.size := by
    rcases Nat.lt_or_ge i L.size with hl | hl
    · exact hl
    · rw [Array.getElem?_eq_none hl] at h; cases h
  unfold dn
  rw [Array.getElem?_setIfInBounds_self_of_lt hl]
theorem stay_grown {B b : Nat} {W W' : World} (hg : W.grownBy W' (some b)) (hb : b < B) : Stay B W W' := ⟨hg.size, fun k hk hl => hg.block k hl (fun e => by have e2 := Option.some.inj e; omega)⟩
theorem mapUnder : Try.prog.underlying 67 = some (.map 72 4) := by rw [Try.underlying67]
theorem valTrue : plainElem (H := Nat) Try.prog 4 (.bool true) = some (.lit (.bool true), []) := plainElem_bool (by rw [Try.underlying4]) true
theorem turns_map {β : Type} {B b : Nat} {k : TypeId} {R : Value → Option (DataW Nat × List MemPlace)} (hb : b < B) (f : β → Nat) (g : β → DataW Nat) : Turns B (fun s W => W.ownsMap Try.prog k R b (f s) (g s)) :=
  fun s W W' row hs hg hr => hs.kept hg (fun e => by have := hr b e.symm; omega)
theorem six_at (w : World) (o1 o3 o4 o5 o6 : Obj) : let W := ((((((w.alloc o1).alloc (.map #[] 0)).alloc o3).alloc o4).alloc o5).alloc o6)
    W.heap[w.heap.size]? = some o1 ∧ W.heap[w.heap.size + 2]? = some o3 ∧ W.ownsMap Try.prog 72 (plainElem (H := Nat) Try.prog 4) (w.heap.size + 1) 0 (.map []) := by
  refine ⟨?_, ?_, ?_⟩
  · rw [Below.heap_alloc _ _ _ (by simp <;> omega), Below.heap_alloc _ _ _ (by simp <;> omega), Below.heap_alloc _ _ _ (by simp <;> omega), Below.heap_alloc _ _ _ (by simp <;> omega), Below.heap_alloc _ _ _ (by simp)]
    exact World.alloc_heap_new w o1
  · rw [Below.heap_alloc _ _ _ (by simp <;> omega), Below.heap_alloc _ _ _ (by simp <;> omega), Below.heap_alloc _ _ _ (by simp)]
    have h := World.alloc_heap_new ((w.alloc o1).alloc (.map #[] 0)) o3
    rw [World.size_alloc, World.size_alloc] at h
    exact h
  · have h := World.ownsMap_made (w.alloc o1) Try.prog 72 (plainElem (H := Nat) Try.prog 4)
    rw [World.size_alloc] at h
    exact (((h.alloc o3).alloc o4).alloc o5).alloc o6
theorem two_cells {W : World} {g n cap : Nat} {x y : Int} (h : Rd W (.slice (some ⟨g, 0, none⟩) n cap) [x, y]) : W.cell? ⟨g, 0, none⟩ = some (.int .i64 x) ∧ W.cell? ⟨g, 1, none⟩ = some (.int .i64 y) := by
  obtain ⟨a, c, e, hf⟩ := h.form
  simp only [Value.slice.injEq] at e
  obtain ⟨rfl, _, _⟩ := e
  obtain ⟨b, o, e, _, hc⟩ := hf (by simp)
  cases e
  have h0 := hc 0 (by simp)
  have h1 := hc 1 (by simp)
  exact ⟨h0, h1⟩
theorem five_cells {W : World} {n : Nat} {a0 a1 a2 a3 a4 : Value} {t : TypeId} {m : Nat × Nat} (e : W.heap[n]? = some (.cells #[a0, a1, a2, a3, a4] t m)) : W.cell? ⟨n, 0, none⟩ = some a0 ∧ W.cell? ⟨n, 1, none⟩ = some a1 ∧ W.cell? ⟨n, 2, none⟩ = some a2 ∧ W.cell? ⟨n, 3, none⟩ = some a3 ∧ W.cell? ⟨n, 4, none⟩ = some a4 := ⟨cell_h e, cell_h e, cell_h e, cell_h e, cell_h e⟩
theorem below_six {n : Nat} {w0 w : World} (h : Below n w0 w) (hn : n ≤ w.heap.size) (o1 o2 o3 o4 o5 o6 : Obj) : Below n w0 ((((((w.alloc o1).alloc o2).alloc o3).alloc o4).alloc o5).alloc o6) :=
  below_three (below_three h hn o1 o2 o3) (by simp; omega) o4 o5 o6
set_option maxRecDepth 100000 in
set_option maxHeartbeats 8000000 in
theorem conicMany_main (vf vv : Value) (xs vs : List Int) (N : Nat) (hN1 : 1 ≤ N) (hN5 : N ≤ 5) (hp : pointB xs vs = true) (w : World) (hx : Rd w vf xs) (hv : Rd w vv vs) : Calls Try.prog 27 #[vf, vv, .int .i64 (N : Int)] w fun e w' => e = .returned (.int .i64 (allC (metB xs vs) N (N + 1) : Nat)) ∧ Below w.heap.size w w' := by
  have HC := hid (conicOf_any vf vv xs vs w hx hv)
  have HX := hid hx
  have HV := hid hv
  obtain ⟨a, cap, rfl, _⟩ := hx.form
  obtain ⟨a', cap', rfl, _⟩ := hv.form
  obtain ⟨c2, c3, hC, _⟩ := conA_form vs (.slice a xs.length cap) (.slice a' vs.length cap')
  have HCN : Hid (conOf xs vs (.slice a xs.length cap) (.slice a' vs.length cap') = .tuple #[.agg #[.slice a xs.length cap, .slice a' vs.length cap', .int .i64 c2, .int .i64 c3, .int .i64 2], .bool true]) := hid (by unfold conOf; rw [hp, if_pos rfl, hC])
  rw [HCN.out] at HC
  have HP := hid hp
  have HO : Hid (∀ (s t : Int) (wx : World) (u : Value), Below w.heap.size w wx → Rd wx u (headL vs s t) → Calls Try.prog 39 #[.agg #[.slice a xs.length cap, .slice a' vs.length cap', .int .i64 c2, .int .i64 c3, .int .i64 2], u] wx fun e w' => ∃ u, e = .returned (.tuple #[u, .bool (hedB xs vs [s, t])]) ∧ Rd w' u (hedL xs vs [s, t]) ∧ Below wx.heap.size wx w') := hid (fun s t wx u h hr => by
    rw [← hC]
    refine (other_any _ _ _ xs vs (headL vs s t) wx (HX.out.keep h) (HV.out.keep h) hr hp).mono ?_
    rintro e w' ⟨u3, rfl, h5, h6⟩
    exact ⟨u3, rfl, h5.rd, h6⟩)
  have HD : Hid (∀ (s t : Int) (wx : World), Calls Try.prog 40 #[.agg #[.slice a xs.length cap, .slice a' vs.length cap', .int .i64 c2, .int .i64 c3, .int .i64 2], .agg #[.int .i64 s, .int .i64 t]] wx fun e w' => ∃ u, e = .returned u ∧ Rd w' u (headL vs s t) ∧ Below wx.heap.size wx w') := hid (fun s t wx => by
    rw [← hC]
    refine (direction_any _ _ vs s t wx).mono ?_
    rintro e w' ⟨u, rfl, ho, hb⟩
    exact ⟨u, rfl, ho.rd, hb⟩)
  have HPT : Hid (∀ (zs : List Int) (u : Value) (wx : World), zs.length = 3 → Rd wx u zs → Calls Try.prog 55 #[.agg #[.slice a xs.length cap, .slice a' vs.length cap', .int .i64 c2, .int .i64 c3, .int .i64 2], u] wx fun e w' => e = .returned (ptA vs zs) ∧ Below wx.heap.size wx w') := hid (fun zs u wx hl hr => by
    rw [← hC]
    exact pointOf_any _ _ _ vs zs wx hr hl)
  have hN1i : ¬ (N : Int) < 1 := by omega
  have hN5i : ¬ 5 < (N : Int) := by omega
  have hmk : ∀ wx, (Instr.makeMap 67 none).run Try.prog wx = .ok (.map (some wx.heap.size)) (wx.alloc (.map #[] 0)) := fun wx => run_makeMap _ _
  clear hx hv hp hC
  refine (callsIn_wide (n := 5)).1 ?_
  refine callsIn_of_wp_marks Try.func27 rfl trivial ?_ rfl
  simp only [Try.ntmps27, List.size_toArray, List.length_cons, List.length_nil, Nat.reduceAdd, Nat.reduceSub, Array.replicate_succ, Array.replicate_zero, List.push_toArray, List.append_toArray, List.nil_append, List.cons_append]
  gi_wp2_with (refine ⟨trivial, ?_⟩; gi_at_call 33; refine (callsIn_wide.2 (HC.out)).mono ?_; rintro e w2 ⟨rfl, hb2⟩)
  refine ⟨trivial, ?_⟩
  gi_at_call 54
  refine (callsIn_wide.2 (vectors_make _ _ _ _)).mono ?_
  rintro e w' ⟨rfl, rfl⟩
  simp only [World.size_alloc]
  have hs2 := hb2.size
  have eN : -(N : Int) + ((2 * N + 1 : Nat) : Int) - 1 = (N : Int) := by omega
  have HCV := captV_new (-(N : Int)) (2 * N + 1) 2 (((w2.alloc (.cells #[.slice a xs.length cap, .slice a' vs.length cap', .int .i64 c2, .int .i64 c3, .int .i64 2] 50)).alloc (.map #[] 0)).alloc (.cells #[.map (some (w2.heap.size + 1))] 67))
  rw [eN] at HCV
  simp only [World.size_alloc] at HCV
  have hpw : (2 * N + 1) ^ 2 ≤ 121 := Nat.pow_le_pow_left (show 2 * N + 1 ≤ 11 by omega) 2
  have hB6 := below_six hb2 hs2 (.cells #[.slice a xs.length cap, .slice a' vs.length cap', .int .i64 c2, .int .i64 c3, .int .i64 2] 50) (.map #[] 0) (.cells #[.map (some (w2.heap.size + 1))] 67) (.cells #[.int .i64 2] 3) (.cells #[.int .i64 (-(N : Int))] 3) (.cells #[.int .i64 (N : Int)] 3)
  gi_wp2_with fail
  have HE6 := six_at w2 (.cells #[.slice a xs.length cap, .slice a' vs.length cap', .int .i64 c2, .int .i64 c3, .int .i64 2] 50) (.cells #[.map (some (w2.heap.size + 1))] 67) (.cells #[.int .i64 2] 3) (.cells #[.int .i64 (-(N : Int))] 3) (.cells #[.int .i64 (N : Int)] 3)
  refine wpIn_rangeV rfl (by omega) (gf := 73) (lb := #[.pointer (some ⟨w2.heap.size + 1 + 1 + 1 + 1, 0, none⟩), .pointer (some ⟨w2.heap.size + 1 + 1 + 1, 0, none⟩), .pointer (some ⟨w2.heap.size + 1 + 1 + 1 + 2, 0, none⟩)]) rfl trivial (enters_of Try.func73 (by kernel_rfl) rfl)
    (B0 := w2.heap.size + 1 + 1 + 1) (B1 := w2.heap.size + 1 + 1 + 1 + 3) (by simp <;> omega) (by simp) (vec_rounds _ (w2.heap.size + 1 + 1 + 1) (-(N : Int)) (2 * N + 1) 2 (by omega) (by omega) (by omega) (by omega) (by omega) (by omega) _ (by simp) HCV) (Below.refl _ _) (fun _ => rfl) (fun x W k r o h hk => yields_put o h hk)
    (fun (pre : List VE) W => (W.heap[w2.heap.size]? = some (.cells #[.slice a xs.length cap, .slice a' vs.length cap', .int .i64 c2, .int .i64 c3, .int .i64 2] 50 (0, 0)) ∧ Boxed W (w2.heap.size + 2) 67 (.map (some (w2.heap.size + 1)))) ∧ W.ownsMap Try.prog 72 (plainElem (H := Nat) Try.prog 4) (w2.heap.size + 1) pre.length (Maps.setOf (.lit (.bool true)) ((ptsM xs vs (pre.map (·.2))).map (keyZ vs))) ∧ Below w.heap.size w W)
    (fun _ _ _ => False)
    (Turns.and (Turns.and (turns_block (by simp <;> omega) _) (turns_boxed (by simp <;> omega) _ _)) (Turns.and (turns_map (by simp <;> omega) _ _) (turns_below (Nat.le_refl _) (by simp <;> omega))))
    (fun _ _ _ _ _ hs _ _ => hs)
    ⟨⟨HE6.1, HE6.2.1⟩, HE6.2.2, hB6⟩ ?a1 ?assign ?body ?done ?stop
  case assign =>
    intro l x W K hK
    gi_wp2
    exact hK
  case body =>
    rintro l pre ⟨g, hh⟩ W ⟨⟨hCx, hMx⟩, hDx, hB⟩ ⟨ho, hvl, hv⟩ hsz hlt
    dsimp only at ho hvl hv
    simp only [World.size_alloc] at hsz
    obtain ⟨x, y, rfl⟩ : ∃ x y, hh = [x, y] := by
      match hh, hvl with
      | [x, y], _ => exact ⟨x, y, rfl⟩
    obtain ⟨hc0, hc1⟩ := two_cells ho.rd
    have hHW := below_dw (Below.refl W.heap.size W)
    have HWW := hid hHW
    have HBX := hid hB
    have HDX := hid hDx
    have HMX := hid hMx
    have HCX := hid hCx
    have HNN : Hid (pre.length < 121) := hid (by omega)
    have HCC := hid (fun (wx : World) (h : Below W.heap.size W wx) => five_cells ((h.block _ (Array.getElem?_eq_some_iff.1 hCx).1).trans hCx))
    have HCG := hid (fun (wx : World) (h : Below W.heap.size W wx) => And.intro (cell_later h hc0) (cell_later h hc1))
    have HMW := hid (fun (wx : World) (h : Below W.heap.size W wx) => (h.block _ (Array.getElem?_eq_some_iff.1 hMx).1).trans hMx)
    have HS0 : Hid (w2.heap.size + 5 < W.heap.size) := hid (by omega)
    obtain ⟨ok, hok⟩ : ∃ ok, ok = hedB xs vs [x, y] := ⟨_, rfl⟩
    have HOK := hid hok
    have HOO := hid (HO.out x y)
    rw [← hok] at HOO
    clear ho hvl hv hsz hlt hHW hB hDx hMx hCx hc0 hc1 hok
    gi_wp2_with fail
    refine region_invIn (by kernel_rfl) (fun L act wx => ∃ s11 s12 s35 s36 s37 s38 s39 s40 s41 s42 s43 s44 s45 s46 s47 s48 : Value, act = ({ tmps := #[.slice a xs.length cap, .slice a' vs.length cap', .int .i64 (N : Int), undef, undef, undef, .int .i64 0, .pointer (some ⟨w2.heap.size, 0, none⟩), .bool true, .pointer (some ⟨w2.heap.size + 1 + 1, 0, none⟩), .slice (some ⟨g, 0, none⟩) 2 2, s11, s12, .tuple #[.agg #[.slice a xs.length cap, .slice a' vs.length cap', .int .i64 c2, .int .i64 c3, .int .i64 2], .bool true], .slice a xs.length cap, .slice a' vs.length cap', .tuple #[.agg #[.slice a xs.length cap, .slice a' vs.length cap', .int .i64 c2, .int .i64 c3, .int .i64 2], .bool true], .agg #[.slice a xs.length cap, .slice a' vs.length cap', .int .i64 c2, .int .i64 c3, .int .i64 2], .bool true, .bool true, .bool false, .bool false, .int .i64 (N : Int), .bool (decide ((N : Int) < 1)), .bool (decide ((N : Int) < 1)), .bool (decide ((N : Int) < 1)), .int .i64 (N : Int), .bool (decide (5 < (N : Int))), .bool (decide ((N : Int) < 1) || decide (5 < (N : Int))), .map (some (w2.heap.size + 1)), .int .i64 (N : Int), .int .i64 (-(N : Int)), .int .i64 (N : Int), .func (.func 73) #[] #[.pointer (some ⟨w2.heap.size + 1 + 1 + 1 + 1, 0, none⟩), .pointer (some ⟨w2.heap.size + 1 + 1 + 1, 0, none⟩), .pointer (some ⟨w2.heap.size + 1 + 1 + 1 + 2, 0, none⟩)], .slice (some ⟨g, 0, none⟩) 2 2, s35, s36, s37, s38, s39, s40, s41, s42, s43, s44, s45, s46, s47, s48, undef, undef, undef, undef, undef, undef, undef], defers := [] } : Act) ∧ HitI W (.agg #[.slice a xs.length cap, .slice a' vs.length cap', .int .i64 c2, .int .i64 c3, .int .i64 2]) (.slice (some ⟨g, 0, none⟩) 2 2) (.pointer (some ⟨g, 0, none⟩)) (.pointer (some ⟨g, 1, none⟩)) x y vs (hedL xs vs [x, y]) ok L wx s11 s12 s35 s36 s37 s38 s39 s40 s41 s42 s43 s44 s45 s46 s47 s48) ?h0 ?hend ?hstep
    case h0 => exact ⟨undef, undef, undef, undef, undef, undef, undef, undef, undef, undef, undef, undef, undef, undef, undef, undef, rfl, ⟨rfl, HWW.out, fun h => (dn_new h).elim, fun h => (dn_new h).elim, fun h => (dn_new h).elim, fun h => (dn_new h).elim, fun h => (dn_new h).elim, fun h => (dn_new h).elim, fun h => (dn_new h).elim, fun h => (dn_new h).elim, fun h => (dn_new h).elim, fun h => (dn_new h).elim, fun h => (dn_new h).elim, fun h => (dn_new h).elim, fun h => (dn_new h).elim, fun h => (dn_new h).elim, fun h => (dn_new h).elim, fun h => (dn_new h).elim⟩⟩
    case hstep =>
      rintro L act wx i ⟨s11, s12, s35, s36, s37, s38, s39, s40, s41, s42, s43, s44, s45, s46, s47, s48, rfl, I⟩ hi
      obtain ⟨hi1, hf, hdep⟩ := ready_mem hi
      have hi2 : i < 16 := hi1
      have HI := hid I
      have HF := hid hf
      have hbw := I.hb
      obtain ⟨d0, d1, d2, d3, d4⟩ := HCC.out _ hbw
      obtain ⟨g0, g1⟩ := HCG.out _ hbw
      clear hi hi1 I hf
      have hc : i = 0 ∨ i = 1 ∨ i = 2 ∨ i = 3 ∨ i = 4 ∨ i = 5 ∨ i = 6 ∨ i = 7 ∨ i = 8 ∨ i = 9 ∨ i = 10 ∨ i = 11 ∨ i = 12 ∨ i = 13 ∨ i = 14 ∨ i = 15 := by omega
      clear hi2
      rcases hc with rfl | rfl | rfl | rfl | rfl | rfl | rfl | rfl | rfl | rfl | rfl | rfl | rfl | rfl | rfl | rfl
      · skip
        clear hdep
        refine wpOpIn_step rfl (fun K hK => ?_)
        go_simp
        exact hK _ _ ⟨_, _, _, _, _, _, _, _, _, _, _, _, _, _, _, _, rfl, ⟨(by rw [Array.size_setIfInBounds]; exact HI.out.hs), HI.out.hb, fun _ => rfl, fun h => HI.out.h1 (dn_old h (by decide)), fun h => HI.out.h2 (dn_old h (by decide)), fun h => HI.out.h3 (dn_old h (by decide)), fun h => HI.out.h4 (dn_old h (by decide)), fun h => HI.out.h5 (dn_old h (by decide)), fun h => HI.out.h6 (dn_old h (by decide)), fun h => HI.out.h7 (dn_old h (by decide)), fun h => HI.out.h8 (dn_old h (by decide)), fun h => HI.out.h9 (dn_old h (by decide)), fun h => HI.out.h10 (dn_old h (by decide)), fun h => HI.out.h11 (dn_old h (by decide)), fun h => HI.out.h12 (dn_old h (by decide)), fun h => HI.out.h13 (dn_old h (by decide)), fun h => HI.out.h14 (dn_old h (by decide)), fun h => HI.out.h15 (dn_old h (by decide))⟩⟩
      · skip
        clear hdep
        refine wpOpIn_step rfl (fun K hK => ?_)
        go_simp
        exact hK _ _ ⟨_, _, _, _, _, _, _, _, _, _, _, _, _, _, _, _, rfl, ⟨(by rw [Array.size_setIfInBounds]; exact HI.out.hs), HI.out.hb, fun h => HI.out.h0 (dn_old h (by decide)), fun _ => rfl, fun h => HI.out.h2 (dn_old h (by decide)), fun h => HI.out.h3 (dn_old h (by decide)), fun h => HI.out.h4 (dn_old h (by decide)), fun h => HI.out.h5 (dn_old h (by decide)), fun h => HI.out.h6 (dn_old h (by decide)), fun h => HI.out.h7 (dn_old h (by decide)), fun h => HI.out.h8 (dn_old h (by decide)), fun h => HI.out.h9 (dn_old h (by decide)), fun h => HI.out.h10 (dn_old h (by decide)), fun h => HI.out.h11 (dn_old h (by decide)), fun h => HI.out.h12 (dn_old h (by decide)), fun h => HI.out.h13 (dn_old h (by decide)), fun h => HI.out.h14 (dn_old h (by decide)), fun h => HI.out.h15 (dn_old h (by decide))⟩⟩
      · skip
        clear hdep
        refine wpOpIn_step rfl (fun K hK => ?_)
        go_simp
        exact hK _ _ ⟨_, _, _, _, _, _, _, _, _, _, _, _, _, _, _, _, rfl, ⟨(by rw [Array.size_setIfInBounds]; exact HI.out.hs), HI.out.hb, fun h => HI.out.h0 (dn_old h (by decide)), fun h => HI.out.h1 (dn_old h (by decide)), fun _ => rfl, fun h => HI.out.h3 (dn_old h (by decide)), fun h => HI.out.h4 (dn_old h (by decide)), fun h => HI.out.h5 (dn_old h (by decide)), fun h => HI.out.h6 (dn_old h (by decide)), fun h => HI.out.h7 (dn_old h (by decide)), fun h => HI.out.h8 (dn_old h (by decide)), fun h => HI.out.h9 (dn_old h (by decide)), fun h => HI.out.h10 (dn_old h (by decide)), fun h => HI.out.h11 (dn_old h (by decide)), fun h => HI.out.h12 (dn_old h (by decide)), fun h => HI.out.h13 (dn_old h (by decide)), fun h => HI.out.h14 (dn_old h (by decide)), fun h => HI.out.h15 (dn_old h (by decide))⟩⟩
      · skip
        have q2 : dn L 2 := hdep _ rfl { on := 2, ground := .data } (by simp) rfl
        clear hdep
        obtain rfl := HI.out.h2 q2
        refine wpOpIn_step rfl (fun K hK => ?_)
        go_simp
        exact hK _ _ ⟨_, _, _, _, _, _, _, _, _, _, _, _, _, _, _, _, rfl, ⟨(by rw [Array.size_setIfInBounds]; exact HI.out.hs), HI.out.hb, fun h => HI.out.h0 (dn_old h (by decide)), fun h => HI.out.h1 (dn_old h (by decide)), fun h => HI.out.h2 (dn_old h (by decide)), fun _ => rfl, fun h => HI.out.h4 (dn_old h (by decide)), fun h => HI.out.h5 (dn_old h (by decide)), fun h => HI.out.h6 (dn_old h (by decide)), fun h => HI.out.h7 (dn_old h (by decide)), fun h => HI.out.h8 (dn_old h (by decide)), fun h => HI.out.h9 (dn_old h (by decide)), fun h => HI.out.h10 (dn_old h (by decide)), fun h => HI.out.h11 (dn_old h (by decide)), fun h => HI.out.h12 (dn_old h (by decide)), fun h => HI.out.h13 (dn_old h (by decide)), fun h => HI.out.h14 (dn_old h (by decide)), fun h => HI.out.h15 (dn_old h (by decide))⟩⟩
      · skip
        have q3 : dn L 3 := hdep _ rfl { on := 3, ground := .data } (by simp) rfl
        clear hdep
        obtain rfl := HI.out.h3 q3
        refine wpOpIn_step rfl (fun K hK => ?_)
        go_simp
        exact hK _ _ ⟨_, _, _, _, _, _, _, _, _, _, _, _, _, _, _, _, rfl, ⟨(by rw [Array.size_setIfInBounds]; exact HI.out.hs), HI.out.hb, fun h => HI.out.h0 (dn_old h (by decide)), fun h => HI.out.h1 (dn_old h (by decide)), fun h => HI.out.h2 (dn_old h (by decide)), fun h => HI.out.h3 (dn_old h (by decide)), fun _ => rfl, fun h => HI.out.h5 (dn_old h (by decide)), fun h => HI.out.h6 (dn_old h (by decide)), fun h => HI.out.h7 (dn_old h (by decide)), fun h => HI.out.h8 (dn_old h (by decide)), fun h => HI.out.h9 (dn_old h (by decide)), fun h => HI.out.h10 (dn_old h (by decide)), fun h => HI.out.h11 (dn_old h (by decide)), fun h => HI.out.h12 (dn_old h (by decide)), fun h => HI.out.h13 (dn_old h (by decide)), fun h => HI.out.h14 (dn_old h (by decide)), fun h => HI.out.h15 (dn_old h (by decide))⟩⟩
      · skip
        clear hdep
        refine wpOpIn_step rfl (fun K hK => ?_)
        go_simp
        exact hK _ _ ⟨_, _, _, _, _, _, _, _, _, _, _, _, _, _, _, _, rfl, ⟨(by rw [Array.size_setIfInBounds]; exact HI.out.hs), HI.out.hb, fun h => HI.out.h0 (dn_old h (by decide)), fun h => HI.out.h1 (dn_old h (by decide)), fun h => HI.out.h2 (dn_old h (by decide)), fun h => HI.out.h3 (dn_old h (by decide)), fun h => HI.out.h4 (dn_old h (by decide)), fun _ => rfl, fun h => HI.out.h6 (dn_old h (by decide)), fun h => HI.out.h7 (dn_old h (by decide)), fun h => HI.out.h8 (dn_old h (by decide)), fun h => HI.out.h9 (dn_old h (by decide)), fun h => HI.out.h10 (dn_old h (by decide)), fun h => HI.out.h11 (dn_old h (by decide)), fun h => HI.out.h12 (dn_old h (by decide)), fun h => HI.out.h13 (dn_old h (by decide)), fun h => HI.out.h14 (dn_old h (by decide)), fun h => HI.out.h15 (dn_old h (by decide))⟩⟩
      · skip
        have q5 : dn L 5 := hdep _ rfl { on := 5, ground := .data } (by simp) rfl
        clear hdep
        obtain rfl := HI.out.h5 q5
        refine wpOpIn_step rfl (fun K hK => ?_)
        go_simp
        exact hK _ _ ⟨_, _, _, _, _, _, _, _, _, _, _, _, _, _, _, _, rfl, ⟨(by rw [Array.size_setIfInBounds]; exact HI.out.hs), HI.out.hb, fun h => HI.out.h0 (dn_old h (by decide)), fun h => HI.out.h1 (dn_old h (by decide)), fun h => HI.out.h2 (dn_old h (by decide)), fun h => HI.out.h3 (dn_old h (by decide)), fun h => HI.out.h4 (dn_old h (by decide)), fun h => HI.out.h5 (dn_old h (by decide)), fun _ => rfl, fun h => HI.out.h7 (dn_old h (by decide)), fun h => HI.out.h8 (dn_old h (by decide)), fun h => HI.out.h9 (dn_old h (by decide)), fun h => HI.out.h10 (dn_old h (by decide)), fun h => HI.out.h11 (dn_old h (by decide)), fun h => HI.out.h12 (dn_old h (by decide)), fun h => HI.out.h13 (dn_old h (by decide)), fun h => HI.out.h14 (dn_old h (by decide)), fun h => HI.out.h15 (dn_old h (by decide))⟩⟩
      · skip
        have q6 : dn L 6 := hdep _ rfl { on := 6, ground := .data } (by simp) rfl
        clear hdep
        obtain rfl := HI.out.h6 q6
        refine wpOpIn_step rfl (fun K hK => ?_)
        go_simp
        exact hK _ _ ⟨_, _, _, _, _, _, _, _, _, _, _, _, _, _, _, _, rfl, ⟨(by rw [Array.size_setIfInBounds]; exact HI.out.hs), HI.out.hb, fun h => HI.out.h0 (dn_old h (by decide)), fun h => HI.out.h1 (dn_old h (by decide)), fun h => HI.out.h2 (dn_old h (by decide)), fun h => HI.out.h3 (dn_old h (by decide)), fun h => HI.out.h4 (dn_old h (by decide)), fun h => HI.out.h5 (dn_old h (by decide)), fun h => HI.out.h6 (dn_old h (by decide)), fun _ => rfl, fun h => HI.out.h8 (dn_old h (by decide)), fun h => HI.out.h9 (dn_old h (by decide)), fun h => HI.out.h10 (dn_old h (by decide)), fun h => HI.out.h11 (dn_old h (by decide)), fun h => HI.out.h12 (dn_old h (by decide)), fun h => HI.out.h13 (dn_old h (by decide)), fun h => HI.out.h14 (dn_old h (by decide)), fun h => HI.out.h15 (dn_old h (by decide))⟩⟩
      · skip
        have q4 : dn L 4 := hdep _ rfl { on := 4, ground := .data } (by simp) rfl
        have q7 : dn L 7 := hdep _ rfl { on := 7, ground := .data } (by simp) rfl
        clear hdep
        obtain rfl := HI.out.h4 q4
        obtain rfl := HI.out.h7 q7
        refine wpOpIn_step rfl (fun K hK => ?_)
        go_simp
        exact hK _ _ ⟨_, _, _, _, _, _, _, _, _, _, _, _, _, _, _, _, rfl, ⟨(by rw [Array.size_setIfInBounds]; exact HI.out.hs), HI.out.hb, fun h => HI.out.h0 (dn_old h (by decide)), fun h => HI.out.h1 (dn_old h (by decide)), fun h => HI.out.h2 (dn_old h (by decide)), fun h => HI.out.h3 (dn_old h (by decide)), fun h => HI.out.h4 (dn_old h (by decide)), fun h => HI.out.h5 (dn_old h (by decide)), fun h => HI.out.h6 (dn_old h (by decide)), fun h => HI.out.h7 (dn_old h (by decide)), fun _ => rfl, fun h => HI.out.h9 (dn_old h (by decide)), fun h => HI.out.h10 (dn_old h (by decide)), fun h => HI.out.h11 (dn_old h (by decide)), fun h => HI.out.h12 (dn_old h (by decide)), fun h => HI.out.h13 (dn_old h (by decide)), fun h => HI.out.h14 (dn_old h (by decide)), fun h => HI.out.h15 (dn_old h (by decide))⟩⟩
      · skip
        have q1 : dn L 1 := hdep _ rfl { on := 1, ground := .data } (by simp) rfl
        have q8 : dn L 8 := hdep _ rfl { on := 8, ground := .data } (by simp) rfl
        clear hdep
        obtain rfl := HI.out.h1 q1
        obtain rfl := HI.out.h8 q8
        refine wpOpIn_step rfl (fun K hK => ?_)
        go_simp
        refine ⟨trivial, ?_⟩
        gi_at_call 40
        refine (CallsIn.inRound l (callsIn_wide.2 (HD.out x y _))).mono ?_
        rintro e wP ⟨u, rfl, hru, hbk⟩
        exact hK _ _ ⟨_, _, _, _, _, _, _, _, _, _, _, _, _, _, _, _, rfl, ⟨(by rw [Array.size_setIfInBounds]; exact HI.out.hs), HI.out.hb.trans (hbk.mono HI.out.hb.size), fun h => HI.out.h0 (dn_old h (by decide)), fun h => HI.out.h1 (dn_old h (by decide)), fun h => HI.out.h2 (dn_old h (by decide)), fun h => HI.out.h3 (dn_old h (by decide)), fun h => HI.out.h4 (dn_old h (by decide)), fun h => HI.out.h5 (dn_old h (by decide)), fun h => HI.out.h6 (dn_old h (by decide)), fun h => HI.out.h7 (dn_old h (by decide)), fun h => HI.out.h8 (dn_old h (by decide)), fun _ => hru, fun h => (HI.out.h10 (dn_old h (by decide))).imp fun _ h => ⟨h.1, h.2.keep hbk⟩, fun h => (HI.out.h11 (dn_old h (by decide))).imp fun _ h => ⟨h.1, h.2.keep hbk⟩, fun h => (HI.out.h12 (dn_old h (by decide))).keep hbk, fun h => HI.out.h13 (dn_old h (by decide)), fun h => (HI.out.h14 (dn_old h (by decide))).keep hbk, fun h => HI.out.h15 (dn_old h (by decide))⟩⟩
      · skip
        have q0 : dn L 0 := hdep _ rfl { on := 0, ground := .data } (by simp) rfl
        have q9 : dn L 9 := hdep _ rfl { on := 9, ground := .data } (by simp) rfl
        clear hdep
        obtain rfl := HI.out.h0 q0
        have hr9 := HI.out.h9 q9
        refine wpOpIn_step rfl (fun K hK => ?_)
        go_simp
        refine ⟨trivial, ?_⟩
        gi_at_call 39
        refine (CallsIn.inRound l (callsIn_wide.2 (HOO.out _ _ (HBX.out.trans (hbw.mono HBX.out.size)) hr9))).mono ?_
        rintro e wP ⟨u, rfl, hru, hbk⟩
        exact hK _ _ ⟨_, _, _, _, _, _, _, _, _, _, _, _, _, _, _, _, rfl, ⟨(by rw [Array.size_setIfInBounds]; exact HI.out.hs), HI.out.hb.trans (hbk.mono HI.out.hb.size), fun h => HI.out.h0 (dn_old h (by decide)), fun h => HI.out.h1 (dn_old h (by decide)), fun h => HI.out.h2 (dn_old h (by decide)), fun h => HI.out.h3 (dn_old h (by decide)), fun h => HI.out.h4 (dn_old h (by decide)), fun h => HI.out.h5 (dn_old h (by decide)), fun h => HI.out.h6 (dn_old h (by decide)), fun h => HI.out.h7 (dn_old h (by decide)), fun h => HI.out.h8 (dn_old h (by decide)), fun h => (HI.out.h9 (dn_old h (by decide))).keep hbk, fun _ => ⟨u, rfl, hru⟩, fun h => (HI.out.h11 (dn_old h (by decide))).imp fun _ h => ⟨h.1, h.2.keep hbk⟩, fun h => (HI.out.h12 (dn_old h (by decide))).keep hbk, fun h => HI.out.h13 (dn_old h (by decide)), fun h => (HI.out.h14 (dn_old h (by decide))).keep hbk, fun h => HI.out.h15 (dn_old h (by decide))⟩⟩
      · skip
        have q10 : dn L 10 := hdep _ rfl { on := 10, ground := .data } (by simp) rfl
        clear hdep
        obtain ⟨u, rfl, hru⟩ := HI.out.h10 q10
        refine wpOpIn_step rfl (fun K hK => ?_)
        go_simp
        exact hK _ _ ⟨_, _, _, _, _, _, _, _, _, _, _, _, _, _, _, _, rfl, ⟨(by rw [Array.size_setIfInBounds]; exact HI.out.hs), HI.out.hb, fun h => HI.out.h0 (dn_old h (by decide)), fun h => HI.out.h1 (dn_old h (by decide)), fun h => HI.out.h2 (dn_old h (by decide)), fun h => HI.out.h3 (dn_old h (by decide)), fun h => HI.out.h4 (dn_old h (by decide)), fun h => HI.out.h5 (dn_old h (by decide)), fun h => HI.out.h6 (dn_old h (by decide)), fun h => HI.out.h7 (dn_old h (by decide)), fun h => HI.out.h8 (dn_old h (by decide)), fun h => HI.out.h9 (dn_old h (by decide)), fun h => HI.out.h10 (dn_old h (by decide)), fun _ => ⟨u, rfl, hru⟩, fun h => HI.out.h12 (dn_old h (by decide)), fun h => HI.out.h13 (dn_old h (by decide)), fun h => HI.out.h14 (dn_old h (by decide)), fun h => HI.out.h15 (dn_old h (by decide))⟩⟩
      · skip
        have q11 : dn L 11 := hdep _ rfl { on := 11, ground := .data } (by simp) rfl
        clear hdep
        obtain ⟨u, rfl, hru⟩ := HI.out.h11 q11
        refine wpOpIn_step rfl (fun K hK => ?_)
        go_simp
        exact hK _ _ ⟨_, _, _, _, _, _, _, _, _, _, _, _, _, _, _, _, rfl, ⟨(by rw [Array.size_setIfInBounds]; exact HI.out.hs), HI.out.hb, fun h => HI.out.h0 (dn_old h (by decide)), fun h => HI.out.h1 (dn_old h (by decide)), fun h => HI.out.h2 (dn_old h (by decide)), fun h => HI.out.h3 (dn_old h (by decide)), fun h => HI.out.h4 (dn_old h (by decide)), fun h => HI.out.h5 (dn_old h (by decide)), fun h => HI.out.h6 (dn_old h (by decide)), fun h => HI.out.h7 (dn_old h (by decide)), fun h => HI.out.h8 (dn_old h (by decide)), fun h => HI.out.h9 (dn_old h (by decide)), fun h => HI.out.h10 (dn_old h (by decide)), fun h => HI.out.h11 (dn_old h (by decide)), fun _ => hru, fun h => HI.out.h13 (dn_old h (by decide)), fun h => HI.out.h14 (dn_old h (by decide)), fun h => HI.out.h15 (dn_old h (by decide))⟩⟩
      · skip
        have q11 : dn L 11 := hdep _ rfl { on := 11, ground := .data } (by simp) rfl
        clear hdep
        obtain ⟨u, rfl, hru⟩ := HI.out.h11 q11
        refine wpOpIn_step rfl (fun K hK => ?_)
        go_simp
        exact hK _ _ ⟨_, _, _, _, _, _, _, _, _, _, _, _, _, _, _, _, rfl, ⟨(by rw [Array.size_setIfInBounds]; exact HI.out.hs), HI.out.hb, fun h => HI.out.h0 (dn_old h (by decide)), fun h => HI.out.h1 (dn_old h (by decide)), fun h => HI.out.h2 (dn_old h (by decide)), fun h => HI.out.h3 (dn_old h (by decide)), fun h => HI.out.h4 (dn_old h (by decide)), fun h => HI.out.h5 (dn_old h (by decide)), fun h => HI.out.h6 (dn_old h (by decide)), fun h => HI.out.h7 (dn_old h (by decide)), fun h => HI.out.h8 (dn_old h (by decide)), fun h => HI.out.h9 (dn_old h (by decide)), fun h => HI.out.h10 (dn_old h (by decide)), fun h => HI.out.h11 (dn_old h (by decide)), fun h => HI.out.h12 (dn_old h (by decide)), fun _ => rfl, fun h => HI.out.h14 (dn_old h (by decide)), fun h => HI.out.h15 (dn_old h (by decide))⟩⟩
      · skip
        have q12 : dn L 12 := hdep _ rfl { on := 12, ground := .data } (by simp) rfl
        clear hdep
        have hr12 := HI.out.h12 q12
        refine wpOpIn_step rfl (fun K hK => ?_)
        go_simp
        exact hK _ _ ⟨_, _, _, _, _, _, _, _, _, _, _, _, _, _, _, _, rfl, ⟨(by rw [Array.size_setIfInBounds]; exact HI.out.hs), HI.out.hb, fun h => HI.out.h0 (dn_old h (by decide)), fun h => HI.out.h1 (dn_old h (by decide)), fun h => HI.out.h2 (dn_old h (by decide)), fun h => HI.out.h3 (dn_old h (by decide)), fun h => HI.out.h4 (dn_old h (by decide)), fun h => HI.out.h5 (dn_old h (by decide)), fun h => HI.out.h6 (dn_old h (by decide)), fun h => HI.out.h7 (dn_old h (by decide)), fun h => HI.out.h8 (dn_old h (by decide)), fun h => HI.out.h9 (dn_old h (by decide)), fun h => HI.out.h10 (dn_old h (by decide)), fun h => HI.out.h11 (dn_old h (by decide)), fun h => HI.out.h12 (dn_old h (by decide)), fun h => HI.out.h13 (dn_old h (by decide)), fun _ => hr12, fun h => HI.out.h15 (dn_old h (by decide))⟩⟩
      · skip
        have q13 : dn L 13 := hdep _ rfl { on := 13, ground := .data } (by simp) rfl
        clear hdep
        obtain rfl := HI.out.h13 q13
        refine wpOpIn_step rfl (fun K hK => ?_)
        go_simp
        exact hK _ _ ⟨_, _, _, _, _, _, _, _, _, _, _, _, _, _, _, _, rfl, ⟨(by rw [Array.size_setIfInBounds]; exact HI.out.hs), HI.out.hb, fun h => HI.out.h0 (dn_old h (by decide)), fun h => HI.out.h1 (dn_old h (by decide)), fun h => HI.out.h2 (dn_old h (by decide)), fun h => HI.out.h3 (dn_old h (by decide)), fun h => HI.out.h4 (dn_old h (by decide)), fun h => HI.out.h5 (dn_old h (by decide)), fun h => HI.out.h6 (dn_old h (by decide)), fun h => HI.out.h7 (dn_old h (by decide)), fun h => HI.out.h8 (dn_old h (by decide)), fun h => HI.out.h9 (dn_old h (by decide)), fun h => HI.out.h10 (dn_old h (by decide)), fun h => HI.out.h11 (dn_old h (by decide)), fun h => HI.out.h12 (dn_old h (by decide)), fun h => HI.out.h13 (dn_old h (by decide)), fun h => HI.out.h14 (dn_old h (by decide)), fun _ => rfl⟩⟩
    case hend =>
      rintro L act W6 ⟨s11, s12, s35, s36, s37, s38, s39, s40, s41, s42, s43, s44, s45, s46, s47, s48, rfl, I⟩ hrd
      have D := all_done3 I.hs (by kernel_rfl) hrd
      have hr11 := hid (I.h14 (D 14 (by decide)))
      obtain rfl := I.h15 (D 15 (by decide))
      have HBI := hid I.hb
      clear I D hrd
      cases ok with
      | false =>
        have HOWN := hid ((HDX.out.kept (grows_of HBI.out) (by simp)).mono (Nat.le_succ _))
        have HCX9 := hid ((HBI.out.block _ (Array.getElem?_eq_some_iff.1 HCX.out).1).trans HCX.out)
        have HBX9 := hid (HBX.out.trans (HBI.out.mono HBX.out.size))
        gi_wp2_with fail
        refine ⟨Stay.of_below HBI.out, ⟨HCX9.out, HMW.out _ HBI.out⟩, ?_, HBX9.out⟩
        rw [show (pre ++ [((g, [x, y]) : VE)]).length = pre.length + 1 by simp, List.map_append, List.map_cons, List.map_nil, ptsM_no _ HOK.out.symm]
        exact HOWN.out
      | true =>
        obtain ⟨hl3, hb3⟩ := hit_three HOK.out.symm
        obtain ⟨k1, k2, k3⟩ := at_wf (vs := vs) hl3 hb3
        have HKEY : Hid (keyOf Try.prog 72 (ptA vs (hedL xs vs [x, y])) = some (keyZ vs (hedL xs vs [x, y]))) := hid (key_pt _ _ _ k1 k2 k3)
        have HPO := hid (fun (u : Value) (wx : World) (h : Rd wx u (hedL xs vs [x, y])) => HPT.out _ u wx hl3 h)
        obtain ⟨DM, hDM⟩ : ∃ DM : DataW Nat, DM = Maps.setOf (.lit (.bool true)) ((ptsM xs vs (pre.map (·.2))).map (keyZ vs)) := ⟨_, rfl⟩
        rw [← hDM] at HDX
        have HDM := hid hDM
        have HB6 := hid (HBX.out.trans (HBI.out.mono HBX.out.size))
        have HC6 := hid ((HBI.out.block _ (Array.getElem?_eq_some_iff.1 HCX.out).1).trans HCX.out)
        have HM6 := hid (HMW.out _ HBI.out)
        have HD6 := hid (HDX.out.kept (grows_of HBI.out) (by simp))
        have HSB := hid (Stay.of_below (B := w2.heap.size + 1 + 1 + 1) HBI.out)
        clear hl3 hb3 k1 k2 k3 hDM
        gi_wp2_with fail
        refine region_invIn (by kernel_rfl) (fun L act wx => ∃ s50 s51 s52 s53 : Value, act = ({ tmps := #[.slice a xs.length cap, .slice a' vs.length cap', .int .i64 (N : Int), undef, undef, undef, .int .i64 0, .pointer (some ⟨w2.heap.size, 0, none⟩), .bool true, .pointer (some ⟨w2.heap.size + 1 + 1, 0, none⟩), .slice (some ⟨g, 0, none⟩) 2 2, s11, .bool true, .tuple #[.agg #[.slice a xs.length cap, .slice a' vs.length cap', .int .i64 c2, .int .i64 c3, .int .i64 2], .bool true], .slice a xs.length cap, .slice a' vs.length cap', .tuple #[.agg #[.slice a xs.length cap, .slice a' vs.length cap', .int .i64 c2, .int .i64 c3, .int .i64 2], .bool true], .agg #[.slice a xs.length cap, .slice a' vs.length cap', .int .i64 c2, .int .i64 c3, .int .i64 2], .bool true, .bool true, .bool false, .bool false, .int .i64 (N : Int), .bool (decide ((N : Int) < 1)), .bool (decide ((N : Int) < 1)), .bool (decide ((N : Int) < 1)), .int .i64 (N : Int), .bool (decide (5 < (N : Int))), .bool (decide ((N : Int) < 1) || decide (5 < (N : Int))), .map (some (w2.heap.size + 1)), .int .i64 (N : Int), .int .i64 (-(N : Int)), .int .i64 (N : Int), .func (.func 73) #[] #[.pointer (some ⟨w2.heap.size + 1 + 1 + 1 + 1, 0, none⟩), .pointer (some ⟨w2.heap.size + 1 + 1 + 1, 0, none⟩), .pointer (some ⟨w2.heap.size + 1 + 1 + 1 + 2, 0, none⟩)], .slice (some ⟨g, 0, none⟩) 2 2, s35, s36, s37, s38, s39, s40, s41, s42, s43, s44, s45, s46, s47, s48, .bool true, s50, s51, s52, s53, undef, undef], defers := [] } : Act) ∧ PutI (w2.heap.size + 1 + 1 + 1) w2.heap.size w W6 (.agg #[.slice a xs.length cap, .slice a' vs.length cap', .int .i64 c2, .int .i64 c3, .int .i64 2]) s11 (ptA vs (hedL xs vs [x, y])) (.cells #[.slice a xs.length cap, .slice a' vs.length cap', .int .i64 c2, .int .i64 c3, .int .i64 2] 50 (0, 0)) (hedL xs vs [x, y]) pre.length DM (DM.put (keyZ vs (hedL xs vs [x, y])) (.lit (.bool true))) L wx s50 s51 s52 s53) ?h0 ?hend ?hstep
        case h0 => exact ⟨undef, undef, undef, undef, rfl, ⟨rfl, Stay.drewN _ _ 1, (show Below _ _ W6.drew from below_dw HB6.out), HC6.out, HM6.out, fun _ => ⟨HD6.out, hr11.out⟩, fun h => (dn_new h).elim, fun h => (dn_new h).elim, fun h => (dn_new h).elim, fun h => (dn_new h).elim, fun h => (dn_new h).elim, fun h => (dn_new h).elim⟩⟩
        case hstep =>
          rintro L act wx i ⟨s50, s51, s52, s53, rfl, I⟩ hi
          obtain ⟨hi1, hf, hdep⟩ := ready_mem hi
          have hi2 : i < 5 := hi1
          have HI := hid I
          have HF := hid hf
          clear hi hi1 I hf
          have hc : i = 0 ∨ i = 1 ∨ i = 2 ∨ i = 3 ∨ i = 4 := by omega
          clear hi2
          rcases hc with rfl | rfl | rfl | rfl | rfl
          · skip
            clear hdep
            have x0 := HI.out.hM.cell
            refine wpOpIn_step rfl (fun K hK => ?_)
            go_simp
            exact hK _ _ ⟨_, _, _, _, rfl, ⟨(by rw [Array.size_setIfInBounds]; exact HI.out.hs), HI.out.hst, HI.out.hb, HI.out.hC, HI.out.hM, fun h => HI.out.hm0 (fun h2 => h (dn_keep h2)), fun h => HI.out.hm1 (dn_old h (by decide)), fun _ => rfl, fun h => HI.out.h1 (dn_old h (by decide)), fun h => HI.out.h2 (dn_old h (by decide)), fun h => HI.out.h3 (dn_old h (by decide)), fun h => dn_keep (HI.out.d4 (dn_old h (by decide)))⟩⟩
          · skip
            clear hdep
            have hC := HI.out.hC
            have d0 := cell_h (i := 0) hC
            have d1 := cell_h (i := 1) hC
            have d2 := cell_h (i := 2) hC
            have d3 := cell_h (i := 3) hC
            have d4 := cell_h (i := 4) hC
            clear hC
            refine wpOpIn_step rfl (fun K hK => ?_)
            go_simp
            exact hK _ _ ⟨_, _, _, _, rfl, ⟨(by rw [Array.size_setIfInBounds]; exact HI.out.hs), HI.out.hst, HI.out.hb, HI.out.hC, HI.out.hM, fun h => HI.out.hm0 (fun h2 => h (dn_keep h2)), fun h => HI.out.hm1 (dn_old h (by decide)), fun h => HI.out.h0 (dn_old h (by decide)), fun _ => rfl, fun h => HI.out.h2 (dn_old h (by decide)), fun h => HI.out.h3 (dn_old h (by decide)), fun h => dn_keep (HI.out.d4 (dn_old h (by decide)))⟩⟩
          · skip
            clear hdep
            refine wpOpIn_step rfl (fun K hK => ?_)
            go_simp
            exact hK _ _ ⟨_, _, _, _, rfl, ⟨(by rw [Array.size_setIfInBounds]; exact HI.out.hs), HI.out.hst, HI.out.hb, HI.out.hC, HI.out.hM, fun h => HI.out.hm0 (fun h2 => h (dn_keep h2)), fun h => HI.out.hm1 (dn_old h (by decide)), fun h => HI.out.h0 (dn_old h (by decide)), fun h => HI.out.h1 (dn_old h (by decide)), fun _ => rfl, fun h => HI.out.h3 (dn_old h (by decide)), fun h => dn_keep (HI.out.d4 (dn_old h (by decide)))⟩⟩
          · skip
            have q1 : dn L 1 := hdep _ rfl { on := 1, ground := .data } (by simp) rfl
            have q2 : dn L 2 := hdep _ rfl { on := 2, ground := .data } (by simp) rfl
            clear hdep
            obtain rfl := HI.out.h1 q1
            obtain rfl := HI.out.h2 q2
            refine wpOpIn_step rfl (fun K hK => ?_)
            go_simp
            refine ⟨trivial, ?_⟩
            gi_at_call 55
            refine (CallsIn.inRound l (callsIn_wide.2 (HPO.out _ _ (HI.out.hm0 (fun h => dn_not HF.out (HI.out.d4 h))).2))).mono ?_
            rintro e wP ⟨rfl, hbk⟩
            exact hK _ _ ⟨_, _, _, _, rfl, ⟨(by rw [Array.size_setIfInBounds]; exact HI.out.hs), HI.out.hst.trans (Stay.of_below hbk), HI.out.hb.trans (hbk.mono HI.out.hb.size), (hbk.block _ (Array.getElem?_eq_some_iff.1 HI.out.hC).1).trans HI.out.hC, (hbk.block _ (Array.getElem?_eq_some_iff.1 HI.out.hM).1).trans HI.out.hM, fun h => ⟨(HI.out.hm0 (fun h2 => h (dn_keep h2))).1.kept (grows_of hbk) (by simp), (HI.out.hm0 (fun h2 => h (dn_keep h2))).2.keep hbk⟩, fun h => (HI.out.hm1 (dn_old h (by decide))).kept (grows_of hbk) (by simp), fun h => HI.out.h0 (dn_old h (by decide)), fun h => HI.out.h1 (dn_old h (by decide)), fun h => HI.out.h2 (dn_old h (by decide)), fun _ => rfl, fun h => dn_keep (HI.out.d4 (dn_old h (by decide)))⟩⟩
          · skip
            have q0 : dn L 0 := hdep _ rfl { on := 0, ground := .data } (by simp) rfl
            have q3 : dn L 3 := hdep _ rfl { on := 3, ground := .data } (by simp) rfl
            clear hdep
            obtain rfl := HI.out.h0 q0
            obtain rfl := HI.out.h3 q3
            obtain ⟨hown, _⟩ := HI.out.hm0 (dn_not HF.out)
            obtain ⟨w', hrun, hown', hturn⟩ := hown.store (t := 67) ptKeyed mapUnder (by have := HNN.out; unfold maxLen; omega) HKEY.out valTrue
            refine wpOpIn_step rfl (fun K hK => ?_)
            go_simp
            exact hK _ _ ⟨_, _, _, _, rfl, ⟨(by rw [Array.size_setIfInBounds]; exact HI.out.hs), HI.out.hst.trans (stay_grown hturn.grown (by omega)), HI.out.hb.grown hturn.grown HI.out.hb.size (fun k e => by have e2 := Option.some.inj e; omega), (hturn.grown.block _ (Array.getElem?_eq_some_iff.1 HI.out.hC).1 (fun e => by have e2 := Option.some.inj e; omega)).trans HI.out.hC, (hturn.grown.block _ (Array.getElem?_eq_some_iff.1 HI.out.hM).1 (fun e => by have e2 := Option.some.inj e; omega)).trans HI.out.hM, fun h => (h (dn_self HF.out)).elim, fun _ => hown', fun h => HI.out.h0 (dn_old h (by decide)), fun h => HI.out.h1 (dn_old h (by decide)), fun h => HI.out.h2 (dn_old h (by decide)), fun h => HI.out.h3 (dn_old h (by decide)), fun _ => dn_keep q3⟩⟩
        case hend =>
          rintro L act wx ⟨s50, s51, s52, s53, rfl, I⟩ hrd
          have D := all_done3 I.hs (by kernel_rfl) hrd
          have HFI := hid I
          have HM9 := hid (I.hm1 (D 4 (by decide)))
          clear I D hrd
          have HST := hid (HSB.out.trans HFI.out.hst)
          gi_wp2_with fail
          refine ⟨HST.out, ⟨HFI.out.hC, HFI.out.hM⟩, ?_, HFI.out.hb⟩
          rw [show (pre ++ [((g, [x, y]) : VE)]).length = pre.length + 1 by simp, List.map_append, List.map_cons, List.map_nil, ptsM_yes _ HOK.out.symm, List.map_append, List.map_cons, List.map_nil, Maps.setOf_snoc, ← HDM.out]
          exact HM9.out
  case done =>
    rintro ys W hS ⟨⟨hCx, hMx⟩, hDx, hB⟩ hK
    rw [hS] at hDx
    simp only [World.size_alloc] at hK
    have hc := hMx.cell
    have hlen := fun ty => hDx.len mapUnder ty
    rw [Maps.size_setOf _ _ (fun k hk => by obtain ⟨z, _, rfl⟩ := List.mem_map.1 hk; exact keyZ_lit _ _), keys_len hN5] at hlen
    clear hDx
    gi_wp2
    refine ⟨by simp, .inl ⟨_, _, rfl, run_takeDeferred hK, ?_⟩⟩
    refine ⟨_, results_tmp rfl _ _ _, ?_⟩
    exact ⟨rfl, hB.trans (belowK_b (w := w) (Nat.le_refl _) W _ _ _ (by omega) hK rfl rfl)⟩
  case stop =>
    rintro c pre W _ h _
    exact h.elim

set_option maxRecDepth 100000 in
theorem conicMany_any (vf vv : Value) (xs vs : List Int) (n : Int) (w : World) (hx : Rd w vf xs) (hv : Rd w vv vs) : Calls Try.prog 27 #[vf, vv, .int .i64 n] w fun e w' => e = .returned (.int .i64 (cmanyV xs vs n)) ∧ Below w.heap.size w w' := by
  cases h : (pointB xs vs && inR n 1 5) with
  | false =>
    have e : cmanyV xs vs n = -1 := by unfold cmanyV; rw [h]; rfl
    rw [e]
    exact conicMany_no vf vv xs vs n w hx hv h
  | true =>
    have e : cmanyV xs vs n = (allC (metB xs vs) n.toNat (n.toNat + 1) : Nat) := by unfold cmanyV; rw [h, if_pos rfl]
    rw [Bool.and_eq_true] at h
    have hn := h.2
    unfold inR at hn
    rw [Bool.and_eq_true, decide_eq_true_eq, decide_eq_true_eq] at hn
    obtain ⟨N, rfl⟩ := Int.eq_ofNat_of_zero_le (show 0 ≤ n by omega)
    rw [e, Int.toNat_natCast]
    exact conicMany_main vf vv xs vs N (by omega) (by omega) h.1 w hx hv

end Go.Proofs.Ytfjbdbfeolfcfaa

namespace Go.Proofs.Ytfjbdbfeolfcfaa.fnConicMany
open Go.ChangeShapes Go.WideShapes Go.ChangeAt Go.RowKit
open Go.ChangeMaps (open_string shut_string)
set_option linter.unusedVariables false
theorem many_gcd {s t : Int} (hs : 0 ≤ s ∧ s ≤ 10) (ht : -10 ≤ t ∧ t ≤ 10) : gcdV s t = (gcdL [s, t] : Nat) := by
  rw [gcdV_yes (by rw [okN_iff.2 (by omega), okN_iff.2 (by omega)]; rfl)]
  show _ = ((Nat.gcd (Nat.gcd 0 s.natAbs) t.natAbs : Nat) : Int)
  rw [Nat.gcd_zero_left]
theorem head_gcd1 {s t : Int} (h : headB s t = true) : gcdL [s, t] = 1 := by
  obtain ⟨h1, h2⟩ := headB_iff.1 h
  have hb := plain_back [s, t]
  rw [h2] at hb
  simp only [List.map_cons, List.map_nil, List.cons.injEq, and_true] at hb
  obtain ⟨k, hk⟩ : ∃ k, k = signL [s, t] * (gcdL [s, t] : Int) := ⟨_, rfl⟩
  rw [← hk] at hb
  have k1 : k = 1 := by
    by_cases hs : s = 0
    · have ht : t ≠ 0 := fun e => h1 ⟨hs, e⟩
      have := ne_cancel (a := t) (b := k - 1) (by grind) ht
      omega
    · have := ne_cancel (a := s) (b := k - 1) (by grind) hs
      omega
  rcases signL_pm [s, t] with e | e <;> rw [e] at hk <;> omega
theorem head_yes {s t : Int} (hs : 0 ≤ s ∧ s ≤ 10) (ht : -10 ≤ t ∧ t ≤ 10) (h : headB s t = true) : gcdV s t = 1 ∧ (s = 0 → ¬ t < 0) := by
  refine ⟨by rw [many_gcd hs ht, head_gcd1 h]; rfl, fun h0 => ?_⟩
  have := (headB_pos h).2 h0
  omega
theorem head_no {s t : Int} (hs : 0 ≤ s ∧ s ≤ 10) (ht : -10 ≤ t ∧ t ≤ 10) (h : headB s t = false) (hg : gcdV s t = 1) : s = 0 ∧ t < 0 := by
  refine Classical.byContradiction fun hc => ?_
  rw [many_gcd hs ht] at hg
  have hg1 : gcdL [s, t] = 1 := by omega
  have hn : ¬ (s = 0 ∧ t = 0) := by
    rintro ⟨rfl, rfl⟩
    exact absurd hg1 (by decide)
  have hsg : signL [s, t] = 1 := by
    unfold signL
    by_cases h0 : s = 0
    · rw [if_pos h0]
      unfold signL
      rw [if_neg (by omega), if_neg (by omega)]
    · rw [if_neg h0, if_neg (by omega)]
  have hp : plainL [s, t] = [s, t] := by
    unfold plainL
    rw [hg1, hsg]
    simp
  rw [headB_iff.2 ⟨hn, hp⟩] at h
  cases h
theorem row_yes {f : Int → Int → Bool} {n s t : Int} {k A A' : Nat} (hA : A' = A + rowC f n s k) (ht : t = (k : Int) - n) (h : f s t = true) : A' + 1 = A + rowC f n s (k + 1) := by
  rw [rowC_succ, ← ht, h, if_pos rfl]; omega
theorem row_no {f : Int → Int → Bool} {n s t : Int} {k A A' : Nat} (hA : A' = A + rowC f n s k) (ht : t = (k : Int) - n) (h : f s t = false) : A' = A + rowC f n s (k + 1) := by
  rw [rowC_succ, ← ht, h]; simpa using hA
theorem all_small {f : Int → Int → Bool} {N S : Nat} (hN : N ≤ 5) (hS : S ≤ 6) : allC f N S ≤ 66 := by
  have h1 := allC_le f N S
  have h2 : S * (2 * N + 1) ≤ 6 * 11 := Nat.mul_le_mul hS (by omega)
  omega
theorem met_no {xs vs : List Int} {s t : Int} (h : headB s t = false) : metB xs vs s t = false := by unfold metB; rw [h]; rfl
theorem met_at {xs vs : List Int} {s t : Int} (h : headB s t = true) : metB xs vs s t = otherOk xs vs (headL vs s t) := by unfold metB; rw [h]; rfl
theorem many_next (xs vs : List Int) (N : Nat) (hp : pointB xs vs = true) (hN : N < 5) : cmanyV xs vs ((N : Int) + 1) = (allC (metB xs vs) (N + 1) (N + 1 + 1) : Nat) := by
  unfold cmanyV inR
  rw [hp, decide_eq_true (show (1 : Int) ≤ (N : Int) + 1 by omega), decide_eq_true (show (N : Int) + 1 ≤ 5 by omega), if_pos (show (true && (true && true)) = true from rfl), show ((N : Int) + 1).toNat = N + 1 by omega]
set_option maxRecDepth 100000 in
set_option maxHeartbeats 8000000 in
theorem walk (a0 : Option Addr) (len0 cap0 : Nat) (z0 : List Int) (w : World) (w0 : IsRow .u8 w a0 len0 cap0 z0) :
    Calls Try.prog 7 #[.slice a0 len0 cap0] w fun e w' => e = .returned (.bool true) ∧ Below w.heap.size w w' := by
  have HC := hid (codeIn_of w0)
  clear w0
  by_cases hl0 : (1048576 : Int) < (len0 : Int)
  · go_enter Try.func7, Try.ntmps7
    go_wp2
    go_ret
    exact ⟨rfl, Below.refl _ _⟩
  · go_enter Try.func7, Try.ntmps7
    go_wp2_with fail
    refine (drawConicMany_any _ len0 _ HC.out).mono ?_
    rintro e d1 ⟨u, z, xs, vs, n, rfl, _, _, hn, HO, HZo, hb⟩
    have HB1 := hid hb
    clear hb
    have X_1 := hid HO.out.rd
    have V_1 := hid HZo.out.rd
    cases hk : (pointB xs vs && inR n 1 5) with
    | false =>
      have HV : Hid (cmanyV xs vs n = -1) := hid (by unfold cmanyV; rw [hk]; rfl)
      clear hk hn
      go_wp2_with fail
      refine (conicMany_any _ _ xs vs n _ X_1.out V_1.out).mono ?_
      rw [HV.out]
      rintro e d2 ⟨rfl, hb⟩
      have HB2 := hid (HB1.out.trans (hb.mono HB1.out.size))
      have X_2 := hid (X_1.out.keep hb)
      have V_2 := hid (V_1.out.keep hb)
      clear hb
      go_wp2_with fail
      refine (conicManyS_any _ _ xs vs n _ X_2.out V_2.out).mono ?_
      rw [HV.out]
      rintro e d3 ⟨rfl, hb⟩
      have HB3 := hid (HB2.out.trans (hb.mono HB2.out.size))
      clear hb
      go_wp2
      go_ret
      exact ⟨rfl, HB3.out⟩
    | true =>
      have hp : pointB xs vs = true := by rw [Bool.and_eq_true] at hk; exact hk.1
      have h15 : 1 ≤ n ∧ n ≤ 5 := by
        rw [Bool.and_eq_true] at hk
        have h := hk.2
        unfold inR at h
        rw [Bool.and_eq_true, decide_eq_true_eq, decide_eq_true_eq] at h
        exact h
      have HV := hid (show cmanyV xs vs n = (allC (metB xs vs) n.toNat (n.toNat + 1) : Nat) by unfold cmanyV; rw [hk, if_pos rfl])
      obtain ⟨N, rfl⟩ := Int.eq_ofNat_of_zero_le (show 0 ≤ n by omega)
      have hN1 : 1 ≤ N := by omega
      have hN5 : N ≤ 5 := by omega
      rw [show ((N : Int)).toNat = N by omega] at HV
      have HNX := hid (fun h => many_next xs vs N hp h)
      have HCB := hid (cmany_bd xs vs ((N : Int) + 1))
      obtain ⟨x2, hx2⟩ : ∃ x2, x2 = cmanyV xs vs ((N : Int) + 1) := ⟨_, rfl⟩
      have HMA := hid (fun (u z : Value) (wx : World) (h1 : Rd wx u xs) (h2 : Rd wx z vs) => conicMany_any u z xs vs ((N : Int) + 1) wx h1 h2)
      rw [← hx2] at HNX HCB HMA
      obtain ⟨m, hm⟩ : ∃ m : Nat, m = allC (metB xs vs) N (N + 1) := ⟨_, rfl⟩
      have hm6 : m ≤ 66 := by rw [hm]; exact all_small hN5 (by omega)
      have HM := hid hm
      rw [← hm] at HV
      clear hk hn h15 hp hx2 hm
      go_wp2_with fail
      refine (conicMany_any _ _ xs vs (N : Int) _ X_1.out V_1.out).mono ?_
      rw [HV.out]
      rintro e d2 ⟨rfl, hb⟩
      have HB2 := hid (HB1.out.trans (hb.mono HB1.out.size))
      have X_2 := hid (X_1.out.keep hb)
      have V_2 := hid (V_1.out.keep hb)
      clear hb
      go_wp2_with fail
      refine (conicManyS_any _ _ xs vs (N : Int) _ X_2.out V_2.out).mono ?_
      rw [HV.out]
      rintro e d3 ⟨rfl, hb⟩
      have HB3 := hid (HB2.out.trans (hb.mono HB2.out.size))
      have X_3 := hid (X_2.out.keep hb)
      have V_3 := hid (V_2.out.keep hb)
      clear hb
      have HBB := hid (Below.refl d3.heap.size d3)
      go_wp2_with fail
      go_loopw [8, 9, 10, 11, 12, 13] (fun s8 s9 s10 s11 s12 s13 wr => ∃ S A B : Nat, s10 = .int .i64 S ∧ S ≤ N + 1 ∧ s8 = .int .i64 A ∧ Hid (A = allC headB N S) ∧ s9 = .int .i64 B ∧ Hid (B = allC (metB xs vs) N S) ∧ Hid (Below d3.heap.size d3 wr)) (fun _ _ s10 _ _ _ _ => N + 1 - (intOf s10).toNat)
      case atStart => exact ⟨0, 0, 0, rfl, by omega, rfl, hid rfl, rfl, hid rfl, HBB⟩
      case round =>
        obtain ⟨S, A, B, rfl, hS, rfl, HA, rfl, HBm, HL⟩ := hrel
        rename World => wA
        by_cases hlt : S ≤ N
        · have hA6 : A ≤ 66 := by rw [HA.out]; exact all_small hN5 (by omega)
          have hB6 : B ≤ 66 := by rw [HBm.out]; exact all_small hN5 (by omega)
          have hlt1 : (S : Int) ≤ (N : Int) := by omega
          have HLT := hid hlt
          clear hlt hS
          go_wp2_with fail
          go_loopw [8, 9, 11, 12, 13] (fun s8 s9 s11 s12 s13 wr => ∃ (k A' B' : Nat) (t : Int), s11 = .int .i64 t ∧ k ≤ 2 * N + 1 ∧ Hid (t = (k : Int) - N) ∧ s8 = .int .i64 A' ∧ Hid (A' = A + rowC headB N S k) ∧ s9 = .int .i64 B' ∧ Hid (B' = B + rowC (metB xs vs) N S k) ∧ Hid (Below d3.heap.size d3 wr)) (fun _ _ s11 _ _ _ => 2 * N + 1 - (intOf s11 + N).toNat)
          case atStart => exact ⟨0, A, B, -(N : Int), by go_num, by omega, hid (by omega), rfl, hid rfl, rfl, hid rfl, HL⟩
          case round =>
            obtain ⟨k, A', B', t, rfl, hk, HT, rfl, HA', rfl, HB', HL'⟩ := hrel
            rename World => wB
            by_cases hlt2 : k < 2 * N + 1
            · have ht := HT.out
              have ht1 : t ≤ (N : Int) := by omega
              have ht2 : -(N : Int) ≤ t := by omega
              have hA7 : A' ≤ 80 := by rw [HA'.out]; have := rowC_le headB N S k; omega
              have hB7 : B' ≤ 80 := by rw [HB'.out]; have := rowC_le (metB xs vs) N S k; omega
              have HG := hid (fun wx => gcd_any (S : Int) t wx)
              have HLT2 := hid hlt2
              have XB := hid (X_3.out.keep HL'.out)
              have VB := hid (V_3.out.keep HL'.out)
              clear ht hlt2 hk
              cases hh : headB (S : Int) t with
              | false =>
                have RH := hid (row_no HA'.out HT.out hh)
                have RM := hid (row_no HB'.out HT.out (met_no hh))
                by_cases hg : gcdV (S : Int) t = 1
                · obtain ⟨h0, h1⟩ := head_no (by omega) (by omega) hh hg
                  have T0 : ((S : Int) == 0) = true := by rw [beq_iff_eq]; exact h0
                  rw [hg] at HG
                  clear hh hg h0
                  go_wp2_with fail
                  refine (HG.out _).mono ?_
                  rintro e dG ⟨rfl, kG, rfl⟩
                  go_wp2_with fail
                  go_roundw
                  case measure => simp only [intOf]; have := HLT2.out; have := HT.out; omega
                  case rel => exact ⟨k + 1, A', B', t + 1, by go_num, by have := HLT2.out; omega, hid (by have := HT.out; omega), rfl, RH, rfl, RM, hid (below_drewN HL'.out kG)⟩
                · obtain ⟨gv, hgv⟩ : ∃ gv, gv = gcdV (S : Int) t := ⟨_, rfl⟩
                  rw [← hgv] at HG hg
                  have T0 : (gv == 1) = false := by rw [beq_eq_false_iff_ne]; exact hg
                  have T1 : (gv != 1) = true := by rw [bne_iff_ne]; exact hg
                  clear hh hg hgv
                  go_wp2_with fail
                  refine (HG.out _).mono ?_
                  rintro e dG ⟨rfl, kG, rfl⟩
                  go_wp2_with fail
                  go_roundw
                  case measure => simp only [intOf]; have := HLT2.out; have := HT.out; omega
                  case rel => exact ⟨k + 1, A', B', t + 1, by go_num, by have := HLT2.out; omega, hid (by have := HT.out; omega), rfl, RH, rfl, RM, hid (below_drewN HL'.out kG)⟩
              | true =>
                obtain ⟨hg, h0⟩ := head_yes (s := (S : Int)) (t := t) (by omega) (by omega) hh
                have RH := hid (row_yes HA'.out HT.out hh)
                have HMB := hid (met_at (xs := xs) (vs := vs) hh)
                have HRY := hid (fun h => row_yes HB'.out HT.out (f := metB xs vs) h)
                have HRN := hid (fun h => row_no HB'.out HT.out (f := metB xs vs) h)
                rw [hg] at HG
                have H0 := hid h0
                clear hh hg h0
                cases hok : otherOk xs vs (headL vs (S : Int) t) with
                | false =>
                  have HOK := hid hok
                  have RM := hid (HRN.out (by rw [HMB.out, hok]))
                  clear hok HMB HRY HRN
                  by_cases s0 : (S : Int) = 0
                  · have T0 : ((S : Int) == 0) = true := by rw [beq_iff_eq]; exact s0
                    have T1 := H0.out s0
                    clear s0 H0
                    go_wp2_with fail
                    refine (HG.out _).mono ?_
                    rintro e dG ⟨rfl, kG, rfl⟩
                    have HG4 := hid (below_drewN (Below.refl wB.heap.size wB) kG)
                    go_wp2_with fail
                    refine (conicAt_any _ _ xs vs (S : Int) t _ (XB.out.keep HG4.out) (VB.out.keep HG4.out)).mono ?_
                    unfold OtherPost
                    rw [HOK.out]
                    rintro e d5 ⟨q, rfl, ho, hb⟩
                    have HL5 := hid ((below_drewN HL'.out kG).trans (hb.mono (below_drewN HL'.out kG).size))
                    clear ho hb
                    go_wp2_with fail
                    go_roundw
                    case measure => simp only [intOf]; have := HLT2.out; have := HT.out; omega
                    case rel => exact ⟨k + 1, A' + 1, B', t + 1, by go_num, by have := HLT2.out; omega, hid (by have := HT.out; omega), by go_num, RH, rfl, RM, HL5⟩
                  · have T0 : ((S : Int) == 0) = false := by rw [beq_eq_false_iff_ne]; exact s0
                    clear s0 H0
                    go_wp2_with fail
                    refine (HG.out _).mono ?_
                    rintro e dG ⟨rfl, kG, rfl⟩
                    have HG4 := hid (below_drewN (Below.refl wB.heap.size wB) kG)
                    go_wp2_with fail
                    refine (conicAt_any _ _ xs vs (S : Int) t _ (XB.out.keep HG4.out) (VB.out.keep HG4.out)).mono ?_
                    unfold OtherPost
                    rw [HOK.out]
                    rintro e d5 ⟨q, rfl, ho, hb⟩
                    have HL5 := hid ((below_drewN HL'.out kG).trans (hb.mono (below_drewN HL'.out kG).size))
                    clear ho hb
                    go_wp2_with fail
                    go_roundw
                    case measure => simp only [intOf]; have := HLT2.out; have := HT.out; omega
                    case rel => exact ⟨k + 1, A' + 1, B', t + 1, by go_num, by have := HLT2.out; omega, hid (by have := HT.out; omega), by go_num, RH, rfl, RM, HL5⟩
                | true =>
                  have HOK := hid hok
                  have RM := hid (HRY.out (by rw [HMB.out, hok]))
                  clear hok HMB HRY HRN
                  by_cases s0 : (S : Int) = 0
                  · have T0 : ((S : Int) == 0) = true := by rw [beq_iff_eq]; exact s0
                    have T1 := H0.out s0
                    clear s0 H0
                    go_wp2_with fail
                    refine (HG.out _).mono ?_
                    rintro e dG ⟨rfl, kG, rfl⟩
                    have HG4 := hid (below_drewN (Below.refl wB.heap.size wB) kG)
                    go_wp2_with fail
                    refine (conicAt_any _ _ xs vs (S : Int) t _ (XB.out.keep HG4.out) (VB.out.keep HG4.out)).mono ?_
                    unfold OtherPost
                    rw [HOK.out]
                    rintro e d5 ⟨q, rfl, ho, hb⟩
                    have HL5 := hid ((below_drewN HL'.out kG).trans (hb.mono (below_drewN HL'.out kG).size))
                    clear ho hb
                    go_wp2_with fail
                    go_roundw
                    case measure => simp only [intOf]; have := HLT2.out; have := HT.out; omega
                    case rel => exact ⟨k + 1, A' + 1, B' + 1, t + 1, by go_num, by have := HLT2.out; omega, hid (by have := HT.out; omega), by go_num, RH, by go_num, RM, HL5⟩
                  · have T0 : ((S : Int) == 0) = false := by rw [beq_eq_false_iff_ne]; exact s0
                    clear s0 H0
                    go_wp2_with fail
                    refine (HG.out _).mono ?_
                    rintro e dG ⟨rfl, kG, rfl⟩
                    have HG4 := hid (below_drewN (Below.refl wB.heap.size wB) kG)
                    go_wp2_with fail
                    refine (conicAt_any _ _ xs vs (S : Int) t _ (XB.out.keep HG4.out) (VB.out.keep HG4.out)).mono ?_
                    unfold OtherPost
                    rw [HOK.out]
                    rintro e d5 ⟨q, rfl, ho, hb⟩
                    have HL5 := hid ((below_drewN HL'.out kG).trans (hb.mono (below_drewN HL'.out kG).size))
                    clear ho hb
                    go_wp2_with fail
                    go_roundw
                    case measure => simp only [intOf]; have := HLT2.out; have := HT.out; omega
                    case rel => exact ⟨k + 1, A' + 1, B' + 1, t + 1, by go_num, by have := HLT2.out; omega, hid (by have := HT.out; omega), by go_num, RH, by go_num, RM, HL5⟩
            · have hkE : k = 2 * N + 1 := by omega
              have ht := HT.out
              have hge : ¬ t ≤ (N : Int) := by omega
              have EA := hid (show A' = allC headB N (S + 1) by rw [HA'.out, HA.out, hkE]; rfl)
              have EB := hid (show B' = allC (metB xs vs) N (S + 1) by rw [HB'.out, HBm.out, hkE]; rfl)
              clear hkE ht hlt2 hk
              go_wp2_with fail
              go_roundw
              case measure => simp only [intOf]; have := HLT.out; omega
              case rel => exact ⟨S + 1, A', B', by go_num, by have := HLT.out; omega, rfl, EA, rfl, EB, HL'⟩
        · have hSE : S = N + 1 := by omega
          have hBm : B = m := by rw [HBm.out, HM.out, hSE]
          have hAm : (m : Int) ≤ (A : Int) := by
            have h := allC_impl (f := metB xs vs) (g := headB) (fun s t h => (metB_iff.1 h).1) N (N + 1)
            have h1 := HA.out
            have h2 := HM.out
            rw [hSE] at h1
            omega
          have hge : ¬ (S : Int) ≤ (N : Int) := by omega
          subst hBm
          have HB9 := hid (HB3.out.trans (HL.out.mono HB3.out.size))
          have X9 := hid (X_3.out.keep HL.out)
          have V9 := hid (V_3.out.keep HL.out)
          obtain ⟨c1, c2⟩ := HCB.out
          clear hSE hlt hS
          by_cases h5 : N = 5
          · subst h5
            go_wp2_with fail
            refine (HMA.out _ _ _ X9.out V9.out).mono ?_
            rintro e d9 ⟨rfl, hb⟩
            have HB10 := hid (HB9.out.trans (hb.mono HB9.out.size))
            clear hb
            go_wp2
            go_ret
            exact ⟨rfl, HB10.out⟩
          · have T5 : ((N : Int) == 5) = false := by rw [beq_eq_false_iff_ne]; omega
            have hxm : (B : Int) ≤ x2 := by
              have h1 := HNX.out (by omega)
              have h2 := allC_step (metB xs vs) N
              have h3 := HM.out
              omega
            clear h5
            go_wp2_with fail
            refine (HMA.out _ _ _ X9.out V9.out).mono ?_
            rintro e d9 ⟨rfl, hb⟩
            have HB10 := hid (HB9.out.trans (hb.mono HB9.out.size))
            clear hb
            go_wp2
            go_ret
            exact ⟨rfl, HB10.out⟩
theorem own : ownKnob Try.prog.godebug = none := by kernel_rfl
theorem laidOut : laidOutB Try.prog = true := by kernel_rfl
set_option maxRecDepth 100000 in
theorem lifted (os : Os) (started : os.Started) (H : Type) (enc : TypeId × Value → H) :
    ReturnsInHanded {} Try.checked os 7 .any (Rows.fnConicManySpec.pre6 enc Try.prog Try.f7 Rows.fnConicManyRow.domain false) (Rows.fnConicManySpec.post enc Try.prog Try.f7 false true false false) := by
  refine returnsInHanded_of_change (C := Try.checked) own started (by kernel_rfl) Try.func7
    (ChangeSpec.witness6 (enc := enc) (C := Try.checked) false ⟨#[], #[.slice none 0 0], []⟩ 8 (by kernel_rfl) (by kernel_rfl) (by kernel_rfl) (by kernel_rfl)) ?_
  intro W base args ds gs before hval0 hW hcnd _
  have hval : ∀ (j : Nat) t v, Try.f7.params[j]? = some t → args[j]? = some v → Value.okWide Try.prog W .any base t v := hval0
  have hW' := hW
  obtain ⟨p, q, hA0, hV, rfl, hfz, hnd⟩ := hW
  have hA : DataW.TrodAll enc Try.prog W 0 (fun _ => true) true Try.f7.params.toList args.toList ds p := hA0
  rw [Try.params7] at hA hval
  obtain ⟨v0, vs0, d0, ds0, p0, q0, hargs, rfl, rfl, h0, r0⟩ := trodAll_cons hA
  obtain ⟨rfl, rfl, rfl⟩ := trodAll_nil r0
  obtain rfl : args = #[v0] := by cases args; simp_all
  obtain ⟨rfl, rfl⟩ := trodVars_none hV
  obtain ⟨a0, len0, cap0, rfl⟩ := okWide_slice Try.underlying22 (hval 0 22 v0 rfl rfl)
  have k0 := h0
  have lt0 : ∀ x ∈ p0, x.block < W.heap.size := by obtain ⟨m, hm⟩ := k0; exact DataW.trod_lt m _ _ _ hm
  obtain ⟨z0, w0⟩ : ∃ zs, IsRow .u8 W a0 len0 cap0 zs := by
    obtain ⟨fuel, hf⟩ := h0
    rcases open_ints Try.underlying22 Try.underlying5 (by kernel_rfl) hf with ⟨hcs, _⟩ | ⟨x, l, c, zs, hcs, _, hl, hm, hz, _, hcell, hwz⟩
    · simp [Value.cells] at hcs
      obtain ⟨rfl, rfl, rfl⟩ := hcs
      exact ⟨[], .inl ⟨rfl, rfl, rfl, rfl⟩⟩
    · simp [Value.cells] at hcs
      obtain ⟨rfl, rfl, rfl⟩ := hcs
      exact ⟨zs, .inr ⟨_, rfl, hl, hm, by simpa using hz, hcell, hwz⟩⟩
  clear hA0 hval0
  refine (walk a0 len0 cap0 z0 W w0).mono fun e W' ⟨he, bel⟩ => ?_
  subst he
  exact ⟨_, rfl, _, _, _, [], _, [], hW', trodAll_mk1 (shut_bool Try.underlying4 _), (trodAll_cons_mk (Below.trod laidOut (by kernel_rfl) (of_decide_eq_true (by kernel_rfl)) k0 bel lt0) trodAll_mk0), rfl, bel.frame _, fun h => by cases h⟩
theorem over : Rows.fnConicManyRow.holds Try.pinned (OpenSpec.ofChange Rows.fnConicManySpec) :=
  OpenClaim.holds_of_wide 7 Try.f7 rfl rfl rfl rfl rfl rfl rfl ⟨rfl, rfl, rfl, rfl, rfl⟩ rfl rfl rfl rfl rfl (by kernel_rfl) Try.func7 (by kernel_rfl)
    (of_decide_eq_true (by kernel_rfl)) (by unfold Func.isWrapper; first | (rw [if_pos (by decide +kernel)]; kernel_rfl) | (rw [if_neg (by decide +kernel)]; exact ⟨rfl, rfl⟩))
    (fun os started H enc _ => lifted os started H enc)
theorem proved : Rows.FnConicManySaid := over
end Go.Proofs.Ytfjbdbfeolfcfaa.fnConicMany
