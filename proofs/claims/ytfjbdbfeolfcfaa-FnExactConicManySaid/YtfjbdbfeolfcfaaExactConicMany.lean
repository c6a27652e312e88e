/-
  Proves: for every two lists and an integer the program's ConicMany answers as the model's.
  Conditions: none beyond the given statement's own.
-/
import Derived.Test.YtfjbdbfeolfcfaaQBun49
import Derived.Test.YtfjbdbfeolfcfaaQBun14
import Derived.Test.YtfjbdbfeolfcfaaQVecs2
import Derived.Test.YtfjbdbfeolfcfaaQBun29
import Derived.OrdersIn
import Derived.Test.YtfjbdbfeolfcfaaQBun30
import Derived.Test.YtfjbdbfeolfcfaaQZp5
import Derived.Test.YtfjbdbfeolfcfaaQZvec2
import Derived.Test.YtfjbdbfeolfcfaaRows
import Derived.Test.YtfjbdbfeolfcfaaQBun47
import Derived.Test.YtfjbdbfeolfcfaaQBun53
import Derived.ProofKit
import Derived.OpenShut
import Derived.ShutString
import Derived.ChangeOld
set_option linter.unusedVariables false
namespace Go.Proofs.Ytfjbdbfeolfcfaa
open Go.RowKit

/-- the zeros that these headings meet -/
def hedB (xs vs h : List Int) : Bool := otherOk xs vs (headL vs (h.getD 0 0) (h.getD 1 0))
def hedL (xs vs h : List Int) : List Int := otherL xs vs (headL vs (h.getD 0 0) (h.getD 1 0))
def ptsM (xs vs : List Int) (L : List (List Int)) : List (List Int) := (L.filter (hedB xs vs)).map (hedL xs vs)
theorem ptsM_yes {xs vs h : List Int} (L : List (List Int)) (e : hedB xs vs h = true) : ptsM xs vs (L ++ [h]) = ptsM xs vs L ++ [hedL xs vs h] := by
  unfold ptsM
  rw [List.filter_append, List.map_append]
  simp [e]
theorem ptsM_no {xs vs h : List Int} (L : List (List Int)) (e : hedB xs vs h = false) : ptsM xs vs (L ++ [h]) = ptsM xs vs L := by
  unfold ptsM
  rw [List.filter_append, List.map_append]
  simp [e]
def keyZ (vs zs : List Int) : Lit := keyP (atA vs zs) (atB vs zs) (atC zs)
theorem keyZ_lit (vs zs : List Int) : WideAt.IsKeyLit (keyZ vs zs) := trivial
theorem hit_three {xs vs h : List Int} (e : hedB xs vs h = true) : (hedL xs vs h).length = 3 ∧ ∀ v ∈ hedL xs vs h, -1000000 ≤ v ∧ v ≤ 1000000 := by
  unfold hedB at e
  unfold hedL
  have e' := e
  unfold otherOk at e'
  rw [Bool.and_eq_true, Bool.and_eq_true, Bool.and_eq_true, decide_eq_true_eq] at e'
  unfold otherL
  rw [if_pos e]
  refine ⟨?_, fun v hv => by have := hgt_ge hv; omega⟩
  rw [plainL_len]
  rfl
theorem at_wf {vs zs : List Int} (h : zs.length = 3) (hb : ∀ v ∈ zs, -1000000 ≤ v ∧ v ≤ 1000000) : (Lit.int .i64 (atA vs zs)).wf = true ∧ (Lit.int .i64 (atB vs zs)).wf = true ∧ (Lit.int .i64 (atC zs)).wf = true := by
  obtain ⟨x, y, z, rfl⟩ := len3 h
  have h1 := hb x (by simp); have h2 := hb y (by simp); have h3 := hb z (by simp)
  unfold atA atB atC
  simp only [List.getD_cons_zero, List.getD_cons_succ]
  refine ⟨?_, ?_, wf_mild h3.1 h3.2⟩
  · split
    · exact wf_mild h2.1 h2.2
    · exact wf_mild h1.1 h1.2
  · split
    · exact wf_mild h1.1 h1.2
    · exact wf_mild h2.1 h2.2
theorem keyZ_inj {vs a b : List Int} (ha : a.length = 3 ∧ ∀ v ∈ a, -1000000 ≤ v ∧ v ≤ 1000000) (hb : b.length = 3 ∧ ∀ v ∈ b, -1000000 ≤ v ∧ v ≤ 1000000) (h : keyZ vs a = keyZ vs b) : a = b := by
  obtain ⟨e1, e2, e3⟩ := keyP_inj (at_wf ha.1 ha.2) (at_wf hb.1 hb.2) h
  obtain ⟨x, y, z, rfl⟩ := len3 ha.1
  obtain ⟨u, v, w, rfl⟩ := len3 hb.1
  unfold atA at e1
  unfold atB at e2
  unfold atC at e3
  simp only [List.getD_cons_zero, List.getD_cons_succ] at e1 e2 e3
  split at e1 <;> simp_all
theorem add_keys : ∀ (l acc : List Lit), (∀ x ∈ l, WideAt.IsKeyLit x) → acc.Nodup → (l.foldl Maps.addKey acc).Nodup ∧ ∀ x, x ∈ l.foldl Maps.addKey acc ↔ x ∈ acc ∨ x ∈ l
  | [], acc, _, h => ⟨h, fun x => by simp⟩
  | k :: l, acc, hl, h => by
    have hk := hl k (List.mem_cons_self ..)
    have hl' := fun x hx => hl x (List.mem_cons_of_mem _ hx)
    rw [List.foldl_cons]
    unfold Maps.addKey
    by_cases e : acc.any (fun y => y.sameKey k) = true
    · rw [if_pos e]
      obtain ⟨n1, n2⟩ := add_keys l acc hl' h
      refine ⟨n1, fun x => ?_⟩
      obtain ⟨y, hy, e2⟩ := List.any_eq_true.1 e
      have e3 := (WideAt.sameKey_iff hk).1 e2
      subst e3
      have h2 := n2 x
      unfold Maps.addKey at h2
      rw [h2]
      constructor
      · rintro (h | h)
        · exact .inl h
        · exact .inr (List.mem_cons_of_mem _ h)
      · rintro (h | h)
        · exact .inl h
        · rcases List.mem_cons.1 h with rfl | h
          · exact .inl hy
          · exact .inr h
    · rw [if_neg e]
      have hn : k ∉ acc := fun hm => e (List.any_eq_true.2 ⟨k, hm, WideAt.sameKey_self hk⟩)
      have ha : (acc ++ [k]).Nodup := by
        rw [List.nodup_append]
        refine ⟨h, by simp, fun a ha b hb => ?_⟩
        simp only [List.mem_singleton] at hb
        subst hb
        intro e
        subst e
        exact hn ha
      obtain ⟨n1, n2⟩ := add_keys l (acc ++ [k]) hl' ha
      refine ⟨n1, fun x => ?_⟩
      have h2 := n2 x
      unfold Maps.addKey at h2
      rw [h2]
      simp only [List.mem_append, List.mem_cons, List.not_mem_nil, or_false]
      constructor
      · rintro ((h | h) | h)
        · exact .inl h
        · exact .inr (.inl h)
        · exact .inr (.inr h)
      · rintro (h | h | h)
        · exact .inl (.inl h)
        · exact .inl (.inr h)
        · exact .inr h
theorem pts_mem {xs vs : List Int} {N : Nat} (h5 : N ≤ 5) (z : List Int) : z ∈ ptsM xs vs (vecsL (-(N : Int)) (2 * N + 1) 2) ↔ z ∈ allZ (metB xs vs) (metZ xs vs) N (N + 1) := by
  unfold ptsM
  rw [List.mem_map, allZ_mem]
  constructor
  · rintro ⟨h, hh, rfl⟩
    rw [List.mem_filter] at hh
    obtain ⟨h1, h2⟩ := hh
    obtain ⟨hl, hb⟩ := vecs_mem (by omega) h1
    obtain ⟨s, t, rfl⟩ : ∃ s t, h = [s, t] := by
      match h, hl with
      | [s, t], _ => exact ⟨s, t, rfl⟩
    have b1 := hb s (by simp)
    have b2 := hb t (by simp)
    obtain ⟨u, v, hm, he, hu, hv⟩ := met_plain (s := s) (t := t) (n := (N : Int)) (by omega) ⟨by omega, by omega⟩ ⟨by omega, by omega⟩ h2
    refine ⟨u.toNat, (v + N).toNat, by omega, by omega, ?_, ?_⟩
    · rw [show ((u.toNat : Nat) : Int) = u by omega, show (((v + N).toNat : Nat) : Int) - N = v by omega]
      exact hm
    · rw [show ((u.toNat : Nat) : Int) = u by omega, show (((v + N).toNat : Nat) : Int) - N = v by omega]
      exact he.symm
  · rintro ⟨s, j, h1, h2, hm, rfl⟩
    refine ⟨[(s : Int), (j : Int) - N], ?_, rfl⟩
    rw [List.mem_filter]
    refine ⟨?_, (metB_iff.1 hm).2⟩
    have := mem_vecs (lo := -(N : Int)) (b := 2 * N + 1) (by omega) (us := [(s : Int), (j : Int) - N]) (fun u hu => by
      simp only [List.mem_cons, List.not_mem_nil, or_false] at hu
      rcases hu with rfl | rfl <;> omega)
    exact this
theorem met_three {xs vs : List Int} {N S : Nat} {z : List Int} (h : z ∈ allZ (metB xs vs) (metZ xs vs) N S) : z.length = 3 ∧ ∀ v ∈ z, -1000000 ≤ v ∧ v ≤ 1000000 := by
  obtain ⟨s, j, _, _, hm, rfl⟩ := allZ_mem.1 h
  exact hit_three (h := [(s : Int), (j : Int) - N]) (metB_iff.1 hm).2
theorem keys_len {xs vs : List Int} {N : Nat} (h5 : N ≤ 5) : (((ptsM xs vs (vecsL (-(N : Int)) (2 * N + 1) 2)).map (keyZ vs)).foldl Maps.addKey []).length = allC (metB xs vs) N (N + 1) := by
  obtain ⟨n1, n2⟩ := add_keys ((ptsM xs vs (vecsL (-(N : Int)) (2 * N + 1) 2)).map (keyZ vs)) [] (fun x hx => by
    obtain ⟨z, _, rfl⟩ := List.mem_map.1 hx
    exact keyZ_lit _ _) List.nodup_nil
  have hn := allZ_nodup (metZ_inj xs vs) N (N + 1)
  have hn2 : ((allZ (metB xs vs) (metZ xs vs) N (N + 1)).map (keyZ vs)).Nodup := by
    unfold List.Nodup
    rw [List.pairwise_map]
    exact hn.imp_of_mem fun {a b} ha hb hne e => hne (keyZ_inj (met_three ha) (met_three hb) e)
  rw [← allZ_len (metB xs vs) (metZ xs vs), ← List.length_map (keyZ vs)]
  haveI : DecidableEq Lit := fun a b => Classical.propDecidable _
  refine nodup_len n1 hn2 fun x => ?_
  rw [n2]
  simp only [List.mem_map, List.not_mem_nil, false_or, pts_mem h5]

end Go.Proofs.Ytfjbdbfeolfcfaa

set_option linter.unusedVariables false
namespace Go.Proofs.Ytfjbdbfeolfcfaa
open Go.RowKit

section
variable {F : Fence} {n : Nat} {P : Program} {ops : Array Oper} {Q : Exit → Act → World → Prop} {md : Region.Mode}
theorem any_invIn {I : Array Bool → Act → World → Prop} (hend : ∀ L a w, I L a w → Region.ready md ops L = [] → Q .normal a w)
    (hstep : ∀ L a w i, I L a w → i ∈ Region.ready md ops L → wpOpIn F n P ops Q i (I (L.setIfInBounds i true)) a w) :
    ∀ (fuel : Nat) (L : Array Bool) (a : Act) (w : World), openN L ≤ fuel → I L a w → wpAnyIn F n P md ops Q fuel L a w := by
  intro fuel
  induction fuel with
  | zero => intro L a w hf h; exact ⟨open_ready (by omega), hend L a w h (open_ready (by omega))⟩
  | succ fuel ih =>
    intro L a w hf h
    refine ⟨hend L a w h, fun i hi => ?_⟩
    have ho := open_set (ready_mem hi).2.1
    exact wpOpIn_mono (fun a w hI => ih _ a w (by omega) hI) (hstep L a w i h hi)
/-- inside a fence: what holds at a region's beginning and is kept by each operation that may come up holds at its end -/
theorem region_invIn {id : Nat} {a : Act} {w : World} (hm : P.follows .mixedOrders = true) (I : Array Bool → Act → World → Prop)
    (h0 : I (Array.replicate ops.size false) a w.drew) (hend : ∀ L a w, I L a w → Region.ready .any ops L = [] → Q .normal a w)
    (hstep : ∀ L a w i, I L a w → i ∈ Region.ready .any ops L → wpOpIn F n P ops Q i (I (L.setIfInBounds i true)) a w) : (Code.region id ops true).wpIn F n P Q a w :=
  wpIn_region_any hm (any_invIn hend hstep _ _ _ _ (by rw [open_new]; exact Nat.le_refl _) h0)
end

end Go.Proofs.Ytfjbdbfeolfcfaa

set_option linter.unusedVariables false
namespace Go.Proofs.Ytfjbdbfeolfcfaa
open Go.RowKit Go.Shelf
attribute [local go_sem] Oper.semAt_some

set_option maxRecDepth 100000 in
set_option maxHeartbeats 2000000 in
theorem conicMany_no (vf vv : Value) (xs vs : List Int) (n : Int) (w : World) (hx : Rd w vf xs) (hv : Rd w vv vs) (h : (pointB xs vs && inR n 1 5) = false) : Calls Try.prog 27 #[vf, vv, .int .i64 n] w fun e w' => e = .returned (.int .i64 (-1)) ∧ Below w.heap.size w w' := by
  have HC := hid (conicOf_any vf vv xs vs w hx hv)
  obtain ⟨a, cap, rfl, _⟩ := hx.form
  obtain ⟨a', cap', rfl, _⟩ := hv.form
  clear hx hv
  cases hp : pointB xs vs with
  | false =>
    have HCN : Hid (conOf xs vs (.slice a xs.length cap) (.slice a' vs.length cap') = .tuple #[conN, .bool false]) := hid (by unfold conOf; rw [hp]; rfl)
    rw [HCN.out] at HC
    unfold conN at HC
    clear hp h
    go_enter Try.func27, Try.ntmps27
    go_wp2_with fail
    refine (HC.out).mono ?_
    rintro e w2 ⟨rfl, hb2⟩
    go_wp2
    go_ret
    exact ⟨rfl, hb2.alloc hb2.size _⟩
  | true =>
    obtain ⟨c2, c3, hC, _⟩ := conA_form vs (.slice a xs.length cap) (.slice a' vs.length cap')
    have HCN : Hid (conOf xs vs (.slice a xs.length cap) (.slice a' vs.length cap') = .tuple #[.agg #[.slice a xs.length cap, .slice a' vs.length cap', .int .i64 c2, .int .i64 c3, .int .i64 2], .bool true]) := hid (by unfold conOf; rw [hp, if_pos rfl, hC])
    rw [HCN.out] at HC
    rw [hp, Bool.true_and] at h
    have hn : n < 1 ∨ 5 < n := by
      refine Classical.byContradiction fun hc => ?_
      have : inR n 1 5 = true := by unfold inR; rw [decide_eq_true (show 1 ≤ n by omega), decide_eq_true (show n ≤ 5 by omega)]; rfl
      rw [h] at this; cases this
    clear hp h hC
    rcases hn with hn | hn
    · go_enter Try.func27, Try.ntmps27
      go_wp2_with fail
      refine (HC.out).mono ?_
      rintro e w2 ⟨rfl, hb2⟩
      go_wp2
      go_ret
      exact ⟨rfl, hb2.alloc hb2.size _⟩
    · have hn1 : ¬ n < 1 := by omega
      go_enter Try.func27, Try.ntmps27
      go_wp2_with fail
      refine (HC.out).mono ?_
      rintro e w2 ⟨rfl, hb2⟩
      go_wp2
      go_ret
      exact ⟨rfl, hb2.alloc hb2.size _⟩
structure HitI (W : World) (C hv p0 p1 : Value) (x y : Int) (vs zs : List Int) (ok : Bool) (L : Array Bool) (wx : World) (s11 s12 s35 s36 s37 s38 s39 s40 s41 s42 s43 s44 s45 s46 s47 s48 : Value) : Prop where
  hs : L.size = 16
  hb : Below W.heap.size W wx
  h0 : dn L 0 → s36 = C
  h1 : dn L 1 → s37 = C
  h2 : dn L 2 → s38 = hv
  h3 : dn L 3 → s39 = p0
  h4 : dn L 4 → s40 = .int .i64 x
  h5 : dn L 5 → s41 = hv
  h6 : dn L 6 → s42 = p1
  h7 : dn L 7 → s43 = .int .i64 y
  h8 : dn L 8 → s44 = .agg #[.int .i64 x, .int .i64 y]
  h9 : dn L 9 → Rd wx s45 (headL vs x y)
  h10 : dn L 10 → ∃ u, s46 = .tuple #[u, .bool ok] ∧ Rd wx u zs
  h11 : dn L 11 → ∃ u, s35 = .tuple #[u, .bool ok] ∧ Rd wx u zs
  h12 : dn L 12 → Rd wx s47 zs
  h13 : dn L 13 → s48 = .bool ok
  h14 : dn L 14 → Rd wx s11 zs
  h15 : dn L 15 → s12 = .bool ok
structure PutI (B0 S : Nat) (w W : World) (C u pt : Value) (ob : Obj) (zs : List Int) (n : Nat) (D D' : DataW Nat) (L : Array Bool) (wx : World) (s50 s51 s52 s53 : Value) : Prop where
  hs : L.size = 5
  hst : Stay B0 W wx
  hb : Below w.heap.size w wx
  hC : wx.heap[S]? = some ob
  hM : Boxed wx (S + 1 + 1) 67 (.map (some (S + 1)))
  hm0 : ¬ dn L 4 → wx.ownsMap Try.prog 72 (plainElem Try.prog 4) (S + 1) n D ∧ Rd wx u zs
  hm1 : dn L 4 → wx.ownsMap Try.prog 72 (plainElem Try.prog 4) (S + 1) (n + 1) D'
  h0 : dn L 0 → s50 = .map (some (S + 1))
  h1 : dn L 1 → s51 = C
  h2 : dn L 2 → s52 = u
  h3 : dn L 3 → s53 = pt
  d4 : dn L 4 → dn L 3
theorem dn_self {L : Array Bool} {i : Nat} (h : L[i]? = some false) : dn (L.setIfInBounds i true) i := by
  have hl : i < L.size := by
    rcases Nat.lt_or_ge i L.size with hl | hl
    · exact hl
    · rw [Array.getElem?_eq_none hl] at h; cases h
  unfold dn
  rw [Array.getElem?_setIfInBounds_self_of_lt hl]
theorem stay_grown {B b : Nat} {W W' : World} (hg : W.grownBy W' (some b)) (hb : b < B) : Stay B W W' := ⟨hg.size, fun k hk hl => hg.block k hl (fun e => by have e2 := Option.some.inj e; omega)⟩
theorem mapUnder : Try.prog.underlying 67 = some (.map 72 4) := by rw [Try.underlying67]
theorem valTrue : plainElem (H := Nat) Try.prog 4 (.bool true) = some (.lit (.bool true), []) := plainElem_bool (by rw [Try.underlying4]) true
theorem turns_map {β : Type} {B b : Nat} {k : TypeId} {R : Value → Option (DataW Nat × List MemPlace)} (hb : b < B) (f : β → Nat) (g : β → DataW Nat) : Turns B (fun s W => W.ownsMap Try.prog k R b (f s) (g s)) :=
  fun s W W' row hs hg hr => hs.kept hg (fun e => by have := hr b e.symm; omega)
theorem six_at (w : World) (o1 o3 o4 o5 o6 : Obj) : let W := ((((((w.alloc o1).alloc (.map #[] 0)).alloc o3).alloc o4).alloc o5).alloc o6)
    W.heap[w.heap.size]? = some o1 ∧ W.heap[w.heap.size + 2]? = some o3 ∧ W.ownsMap Try.prog 72 (plainElem (H := Nat) Try.prog 4) (w.heap.size + 1) 0 (.map []) := by
  refine ⟨?_, ?_, ?_⟩
  · rw [Below.heap_alloc _ _ _ (by simp <;> omega), Below.heap_alloc _ _ _ (by simp <;> omega), Below.heap_alloc _ _ _ (by simp <;> omega), Below.heap_alloc _ _ _ (by simp <;> omega), Below.heap_alloc _ _ _ (by simp)]
    exact World.alloc_heap_new w o1
  · rw [Below.heap_alloc _ _ _ (by simp <;> omega), Below.heap_alloc _ _ _ (by simp <;> omega), Below.heap_alloc _ _ _ (by simp)]
    have h := World.alloc_heap_new ((w.alloc o1).alloc (.map #[] 0)) o3
    rw [World.size_alloc, World.size_alloc] at h
    exact h
  · have h := World.ownsMap_made (w.alloc o1) Try.prog 72 (plainElem (H := Nat) Try.prog 4)
    rw [World.size_alloc] at h
    exact (((h.alloc o3).alloc o4).alloc o5).alloc o6
theorem two_cells {W : World} {g n cap : Nat} {x y : Int} (h : Rd W (.slice (some ⟨g, 0, none⟩) n cap) [x, y]) : W.cell? ⟨g, 0, none⟩ = some (.int .i64 x) ∧ W.cell? ⟨g, 1, none⟩ = some (.int .i64 y) := by
  obtain ⟨a, c, e, hf⟩ := h.form
  simp only [Value.slice.injEq] at e
  obtain ⟨rfl, _, _⟩ := e
  obtain ⟨b, o, e, _, hc⟩ := hf (by simp)
  cases e
  have h0 := hc 0 (by simp)
  have h1 := hc 1 (by simp)
  exact ⟨h0, h1⟩
theorem five_cells {W : World} {n : Nat} {a0 a1 a2 a3 a4 : Value} {t : TypeId} {m : Nat × Nat} (e : W.heap[n]? = some (.cells #[a0, a1, a2, a3, a4] t m)) : W.cell? ⟨n, 0, none⟩ = some a0 ∧ W.cell? ⟨n, 1, none⟩ = some a1 ∧ W.cell? ⟨n, 2, none⟩ = some a2 ∧ W.cell? ⟨n, 3, none⟩ = some a3 ∧ W.cell? ⟨n, 4, none⟩ = some a4 := ⟨cell_h e, cell_h e, cell_h e, cell_h e, cell_h e⟩
theorem below_six {n : Nat} {w0 w : World} (h : Below n w0 w) (hn : n ≤ w.heap.size) (o1 o2 o3 o4 o5 o6 : Obj) : Below n w0 ((((((w.alloc o1).alloc o2).alloc o3).alloc o4).alloc o5).alloc o6) :=
  below_three (below_three h hn o1 o2 o3) (by simp; omega) o4 o5 o6
set_option maxRecDepth 100000 in
set_option maxHeartbeats 8000000 in
theorem conicMany_main (vf vv : Value) (xs vs : List Int) (N : Nat) (hN1 : 1 ≤ N) (hN5 : N ≤ 5) (hp : pointB xs vs = true) (w : World) (hx : Rd w vf xs) (hv : Rd w vv vs) : Calls Try.prog 27 #[vf, vv, .int .i64 (N : Int)] w fun e w' => e = .returned (.int .i64 (allC (metB xs vs) N (N + 1) : Nat)) ∧ Below w.heap.size w w' := by
  have HC := hid (conicOf_any vf vv xs vs w hx hv)
  have HX := hid hx
  have HV := hid hv
  obtain ⟨a, cap, rfl, _⟩ := hx.form
  obtain ⟨a', cap', rfl, _⟩ := hv.form
  obtain ⟨c2, c3, hC, _⟩ := conA_form vs (.slice a xs.length cap) (.slice a' vs.length cap')
  have HCN : Hid (conOf xs vs (.slice a xs.length cap) (.slice a' vs.length cap') = .tuple #[.agg #[.slice a xs.length cap, .slice a' vs.length cap', .int .i64 c2, .int .i64 c3, .int .i64 2], .bool true]) := hid (by unfold conOf; rw [hp, if_pos rfl, hC])
  rw [HCN.out] at HC
  have HP := hid hp
  have HO : Hid (∀ (s t : Int) (wx : World) (u : Value), Below w.heap.size w wx → Rd wx u (headL vs s t) → Calls Try.prog 39 #[.agg #[.slice a xs.length cap, .slice a' vs.length cap', .int .i64 c2, .int .i64 c3, .int .i64 2], u] wx fun e w' => ∃ u, e = .returned (.tuple #[u, .bool (hedB xs vs [s, t])]) ∧ Rd w' u (hedL xs vs [s, t]) ∧ Below wx.heap.size wx w') := hid (fun s t wx u h hr => by
    rw [← hC]
    refine (other_any _ _ _ xs vs (headL vs s t) wx (HX.out.keep h) (HV.out.keep h) hr hp).mono ?_
    rintro e w' ⟨u3, rfl, h5, h6⟩
    exact ⟨u3, rfl, h5.rd, h6⟩)
  have HD : Hid (∀ (s t : Int) (wx : World), Calls Try.prog 40 #[.agg #[.slice a xs.length cap, .slice a' vs.length cap', .int .i64 c2, .int .i64 c3, .int .i64 2], .agg #[.int .i64 s, .int .i64 t]] wx fun e w' => ∃ u, e = .returned u ∧ Rd w' u (headL vs s t) ∧ Below wx.heap.size wx w') := hid (fun s t wx => by
    rw [← hC]
    refine (direction_any _ _ vs s t wx).mono ?_
    rintro e w' ⟨u, rfl, ho, hb⟩
    exact ⟨u, rfl, ho.rd, hb⟩)
  have HPT : Hid (∀ (zs : List Int) (u : Value) (wx : World), zs.length = 3 → Rd wx u zs → Calls Try.prog 55 #[.agg #[.slice a xs.length cap, .slice a' vs.length cap', .int .i64 c2, .int .i64 c3, .int .i64 2], u] wx fun e w' => e = .returned (ptA vs zs) ∧ Below wx.heap.size wx w') := hid (fun zs u wx hl hr => by
    rw [← hC]
    exact pointOf_any _ _ _ vs zs wx hr hl)
  have hN1i : ¬ (N : Int) < 1 := by omega
  have hN5i : ¬ 5 < (N : Int) := by omega
  have hmk : ∀ wx, (Instr.makeMap 67 none).run Try.prog wx = .ok (.map (some wx.heap.size)) (wx.alloc (.map #[] 0)) := fun wx => run_makeMap _ _
  clear hx hv hp hC
  refine (callsIn_wide (n := 5)).1 ?_
  refine callsIn_of_wp_marks Try.func27 rfl trivial ?_ rfl
  simp only [Try.ntmps27, List.size_toArray, List.length_cons, List.length_nil, Nat.reduceAdd, Nat.reduceSub, Array.replicate_succ, Array.replicate_zero, List.push_toArray, List.append_toArray, List.nil_append, List.cons_append]
  gi_wp2_with (refine ⟨trivial, ?_⟩; gi_at_call 33; refine (callsIn_wide.2 (HC.out)).mono ?_; rintro e w2 ⟨rfl, hb2⟩)
  refine ⟨trivial, ?_⟩
  gi_at_call 54
  refine (callsIn_wide.2 (vectors_make _ _ _ _)).mono ?_
  rintro e w' ⟨rfl, rfl⟩
  simp only [World.size_alloc]
  have hs2 := hb2.size
  have eN : -(N : Int) + ((2 * N + 1 : Nat) : Int) - 1 = (N : Int) := by omega
  have HCV := captV_new (-(N : Int)) (2 * N + 1) 2 (((w2.alloc (.cells #[.slice a xs.length cap, .slice a' vs.length cap', .int .i64 c2, .int .i64 c3, .int .i64 2] 50)).alloc (.map #[] 0)).alloc (.cells #[.map (some (w2.heap.size + 1))] 67))
  rw [eN] at HCV
  simp only [World.size_alloc] at HCV
  have hpw : (2 * N + 1) ^ 2 ≤ 121 := Nat.pow_le_pow_left (show 2 * N + 1 ≤ 11 by omega) 2
  have hB6 := below_six hb2 hs2 (.cells #[.slice a xs.length cap, .slice a' vs.length cap', .int .i64 c2, .int .i64 c3, .int .i64 2] 50) (.map #[] 0) (.cells #[.map (some (w2.heap.size + 1))] 67) (.cells #[.int .i64 2] 3) (.cells #[.int .i64 (-(N : Int))] 3) (.cells #[.int .i64 (N : Int)] 3)
  gi_wp2_with fail
  have HE6 := six_at w2 (.cells #[.slice a xs.length cap, .slice a' vs.length cap', .int .i64 c2, .int .i64 c3, .int .i64 2] 50) (.cells #[.map (some (w2.heap.size + 1))] 67) (.cells #[.int .i64 2] 3) (.cells #[.int .i64 (-(N : Int))] 3) (.cells #[.int .i64 (N : Int)] 3)
  refine wpIn_rangeV rfl (by omega) (gf := 73) (lb := #[.pointer (some ⟨w2.heap.size + 1 + 1 + 1 + 1, 0, none⟩), .pointer (some ⟨w2.heap.size + 1 + 1 + 1, 0, none⟩), .pointer (some ⟨w2.heap.size + 1 + 1 + 1 + 2, 0, none⟩)]) rfl trivial (enters_of Try.func73 (by kernel_rfl) rfl)
    (B0 := w2.heap.size + 1 + 1 + 1) (B1 := w2.heap.size + 1 + 1 + 1 + 3) (by simp <;> omega) (by simp) (vec_rounds _ (w2.heap.size + 1 + 1 + 1) (-(N : Int)) (2 * N + 1) 2 (by omega) (by omega) (by omega) (by omega) (by omega) (by omega) _ (by simp) HCV) (Below.refl _ _) (fun _ => rfl) (fun x W k r o h hk => yields_put o h hk)
    (fun (pre : List VE) W => (W.heap[w2.heap.size]? = some (.cells #[.slice a xs.length cap, .slice a' vs.length cap', .int .i64 c2, .int .i64 c3, .int .i64 2] 50 (0, 0)) ∧ Boxed W (w2.heap.size + 2) 67 (.map (some (w2.heap.size + 1)))) ∧ W.ownsMap Try.prog 72 (plainElem (H := Nat) Try.prog 4) (w2.heap.size + 1) pre.length (Maps.setOf (.lit (.bool true)) ((ptsM xs vs (pre.map (·.2))).map (keyZ vs))) ∧ Below w.heap.size w W)
    (fun _ _ _ => False)
    (Turns.and (Turns.and (turns_block (by simp <;> omega) _) (turns_boxed (by simp <;> omega) _ _)) (Turns.and (turns_map (by simp <;> omega) _ _) (turns_below (Nat.le_refl _) (by simp <;> omega))))
    (fun _ _ _ _ _ hs _ _ => hs)
    ⟨⟨HE6.1, HE6.2.1⟩, HE6.2.2, hB6⟩ ?a1 ?assign ?body ?done ?stop
  case assign =>
    intro l x W K hK
    gi_wp2
    exact hK
  case body =>
    rintro l pre ⟨g, hh⟩ W ⟨⟨hCx, hMx⟩, hDx, hB⟩ ⟨ho, hvl, hv⟩ hsz hlt
    dsimp only at ho hvl hv
    simp only [World.size_alloc] at hsz
    obtain ⟨x, y, rfl⟩ : ∃ x y, hh = [x, y] := by
      match hh, hvl with
      | [x, y], _ => exact ⟨x, y, rfl⟩
    obtain ⟨hc0, hc1⟩ := two_cells ho.rd
    have hHW := below_dw (Below.refl W.heap.size W)
    have HWW := hid hHW
    have HBX := hid hB
    have HDX := hid hDx
    have HMX := hid hMx
    have HCX := hid hCx
    have HNN : Hid (pre.length < 121) := hid (by omega)
    have HCC := hid (fun (wx : World) (h : Below W.heap.size W wx) => five_cells ((h.block _ (Array.getElem?_eq_some_iff.1 hCx).1).trans hCx))
    have HCG := hid (fun (wx : World) (h : Below W.heap.size W wx) => And.intro (cell_later h hc0) (cell_later h hc1))
    have HMW := hid (fun (wx : World) (h : Below W.heap.size W wx) => (h.block _ (Array.getElem?_eq_some_iff.1 hMx).1).trans hMx)
    have HS0 : Hid (w2.heap.size + 5 < W.heap.size) := hid (by omega)
    obtain ⟨ok, hok⟩ : ∃ ok, ok = hedB xs vs [x, y] := ⟨_, rfl⟩
    have HOK := hid hok
    have HOO := hid (HO.out x y)
    rw [← hok] at HOO
    clear ho hvl hv hsz hlt hHW hB hDx hMx hCx hc0 hc1 hok
    gi_wp2_with fail
    refine region_invIn (by kernel_rfl) (fun L act wx => ∃ s11 s12 s35 s36 s37 s38 s39 s40 s41 s42 s43 s44 s45 s46 s47 s48 : Value, act = ({ tmps := #[.slice a xs.length cap, .slice a' vs.length cap', .int .i64 (N : Int), undef, undef, undef, .int .i64 0, .pointer (some ⟨w2.heap.size, 0, none⟩), .bool true, .pointer (some ⟨w2.heap.size + 1 + 1, 0, none⟩), .slice (some ⟨g, 0, none⟩) 2 2, s11, s12, .tuple #[.agg #[.slice a xs.length cap, .slice a' vs.length cap', .int .i64 c2, .int .i64 c3, .int .i64 2], .bool true], .slice a xs.length cap, .slice a' vs.length cap', .tuple #[.agg #[.slice a xs.length cap, .slice a' vs.length cap', .int .i64 c2, .int .i64 c3, .int .i64 2], .bool true], .agg #[.slice a xs.length cap, .slice a' vs.length cap', .int .i64 c2, .int .i64 c3, .int .i64 2], .bool true, .bool true, .bool false, .bool false, .int .i64 (N : Int), .bool (decide ((N : Int) < 1)), .bool (decide ((N : Int) < 1)), .bool (decide ((N : Int) < 1)), .int .i64 (N : Int), .bool (decide (5 < (N : Int))), .bool (decide ((N : Int) < 1) || decide (5 < (N : Int))), .map (some (w2.heap.size + 1)), .int .i64 (N : Int), .int .i64 (-(N : Int)), .int .i64 (N : Int), .func (.func 73) #[] #[.pointer (some ⟨w2.heap.size + 1 + 1 + 1 + 1, 0, none⟩), .pointer (some ⟨w2.heap.size + 1 + 1 + 1, 0, none⟩), .pointer (some ⟨w2.heap.size + 1 + 1 + 1 + 2, 0, none⟩)], .slice (some ⟨g, 0, none⟩) 2 2, s35, s36, s37, s38, s39, s40, s41, s42, s43, s44, s45, s46, s47, s48, undef, undef, undef, undef, undef, undef, undef], defers := [] } : Act) ∧ HitI W (.agg #[.slice a xs.length cap, .slice a' vs.length cap', .int .i64 c2, .int .i64 c3, .int .i64 2]) (.slice (some ⟨g, 0, none⟩) 2 2) (.pointer (some ⟨g, 0, none⟩)) (.pointer (some ⟨g, 1, none⟩)) x y vs (hedL xs vs [x, y]) ok L wx s11 s12 s35 s36 s37 s38 s39 s40 s41 s42 s43 s44 s45 s46 s47 s48) ?h0 ?hend ?hstep
    case h0 => exact ⟨undef, undef, undef, undef, undef, undef, undef, undef, undef, undef, undef, undef, undef, undef, undef, undef, rfl, ⟨rfl, HWW.out, fun h => (dn_new h).elim, fun h => (dn_new h).elim, fun h => (dn_new h).elim, fun h => (dn_new h).elim, fun h => (dn_new h).elim, fun h => (dn_new h).elim, fun h => (dn_new h).elim, fun h => (dn_new h).elim, fun h => (dn_new h).elim, fun h => (dn_new h).elim, fun h => (dn_new h).elim, fun h => (dn_new h).elim, fun h => (dn_new h).elim, fun h => (dn_new h).elim, fun h => (dn_new h).elim, fun h => (dn_new h).elim⟩⟩
    case hstep =>
      rintro L act wx i ⟨s11, s12, s35, s36, s37, s38, s39, s40, s41, s42, s43, s44, s45, s46, s47, s48, rfl, I⟩ hi
      obtain ⟨hi1, hf, hdep⟩ := ready_mem hi
      have hi2 : i < 16 := hi1
      have HI := hid I
      have HF := hid hf
      have hbw := I.hb
      obtain ⟨d0, d1, d2, d3, d4⟩ := HCC.out _ hbw
      obtain ⟨g0, g1⟩ := HCG.out _ hbw
      clear hi hi1 I hf
      have hc : i = 0 ∨ i = 1 ∨ i = 2 ∨ i = 3 ∨ i = 4 ∨ i = 5 ∨ i = 6 ∨ i = 7 ∨ i = 8 ∨ i = 9 ∨ i = 10 ∨ i = 11 ∨ i = 12 ∨ i = 13 ∨ i = 14 ∨ i = 15 := by omega
      clear hi2
      rcases hc with rfl | rfl | rfl | rfl | rfl | rfl | rfl | rfl | rfl | rfl | rfl | rfl | rfl | rfl | rfl | rfl
      · skip
        clear hdep
        refine wpOpIn_step rfl (fun K hK => ?_)
        go_simp
        exact hK _ _ ⟨_, _, _, _, _, _, _, _, _, _, _, _, _, _, _, _, rfl, ⟨(by rw [Array.size_setIfInBounds]; exact HI.out.hs), HI.out.hb, fun _ => rfl, fun h => HI.out.h1 (dn_old h (by decide)), fun h => HI.out.h2 (dn_old h (by decide)), fun h => HI.out.h3 (dn_old h (by decide)), fun h => HI.out.h4 (dn_old h (by decide)), fun h => HI.out.h5 (dn_old h (by decide)), fun h => HI.out.h6 (dn_old h (by decide)), fun h => HI.out.h7 (dn_old h (by decide)), fun h => HI.out.h8 (dn_old h (by decide)), fun h => HI.out.h9 (dn_old h (by decide)), fun h => HI.out.h10 (dn_old h (by decide)), fun h => HI.out.h11 (dn_old h (by decide)), fun h => HI.out.h12 (dn_old h (by decide)), fun h => HI.out.h13 (dn_old h (by decide)), fun h => HI.out.h14 (dn_old h (by decide)), fun h => HI.out.h15 (dn_old h (by decide))⟩⟩
      · skip
        clear hdep
        refine wpOpIn_step rfl (fun K hK => ?_)
        go_simp
        exact hK _ _ ⟨_, _, _, _, _, _, _, _, _, _, _, _, _, _, _, _, rfl, ⟨(by rw [Array.size_setIfInBounds]; exact HI.out.hs), HI.out.hb, fun h => HI.out.h0 (dn_old h (by decide)), fun _ => rfl, fun h => HI.out.h2 (dn_old h (by decide)), fun h => HI.out.h3 (dn_old h (by decide)), fun h => HI.out.h4 (dn_old h (by decide)), fun h => HI.out.h5 (dn_old h (by decide)), fun h => HI.out.h6 (dn_old h (by decide)), fun h => HI.out.h7 (dn_old h (by decide)), fun h => HI.out.h8 (dn_old h (by decide)), fun h => HI.out.h9 (dn_old h (by decide)), fun h => HI.out.h10 (dn_old h (by decide)), fun h => HI.out.h11 (dn_old h (by decide)), fun h => HI.out.h12 (dn_old h (by decide)), fun h => HI.out.h13 (dn_old h (by decide)), fun h => HI.out.h14 (dn_old h (by decide)), fun h => HI.out.h15 (dn_old h (by decide))⟩⟩
      · skip
        clear hdep
        refine wpOpIn_step rfl (fun K hK => ?_)
        go_simp
        exact hK _ _ ⟨_, _, _, _, _, _, _, _, _, _, _, _, _, _, _, _, rfl, ⟨(by rw [Array.size_setIfInBounds]; exact HI.out.hs), HI.out.hb, fun h => HI.out.h0 (dn_old h (by decide)), fun h => HI.out.h1 (dn_old h (by decide)), fun _ => rfl, fun h => HI.out.h3 (dn_old h (by decide)), fun h => HI.out.h4 (dn_old h (by decide)), fun h => HI.out.h5 (dn_old h (by decide)), fun h => HI.out.h6 (dn_old h (by decide)), fun h => HI.out.h7 (dn_old h (by decide)), fun h => HI.out.h8 (dn_old h (by decide)), fun h => HI.out.h9 (dn_old h (by decide)), fun h => HI.out.h10 (dn_old h (by decide)), fun h => HI.out.h11 (dn_old h (by decide)), fun h => HI.out.h12 (dn_old h (by decide)), fun h => HI.out.h13 (dn_old h (by decide)), fun h => HI.out.h14 (dn_old h (by decide)), fun h => HI.out.h15 (dn_old h (by decide))⟩⟩
      · skip
        have q2 : dn L 2 := hdep _ rfl { on := 2, ground := .data } (by simp) rfl
        clear hdep
        obtain rfl := HI.out.h2 q2
        refine wpOpIn_step rfl (fun K hK => ?_)
        go_simp
        exact hK _ _ ⟨_, _, _, _, _, _, _, _, _, _, _, _, _, _, _, _, rfl, ⟨(by rw [Array.size_setIfInBounds]; exact HI.out.hs), HI.out.hb, fun h => HI.out.h0 (dn_old h (by decide)), fun h => HI.out.h1 (dn_old h (by decide)), fun h => HI.out.h2 (dn_old h (by decide)), fun _ => rfl, fun h => HI.out.h4 (dn_old h (by decide)), fun h => HI.out.h5 (dn_old h (by decide)), fun h => HI.out.h6 (dn_old h (by decide)), fun h => HI.out.h7 (dn_old h (by decide)), fun h => HI.out.h8 (dn_old h (by decide)), fun h => HI.out.h9 (dn_old h (by decide)), fun h => HI.out.h10 (dn_old h (by decide)), fun h => HI.out.h11 (dn_old h (by decide)), fun h => HI.out.h12 (dn_old h (by decide)), fun h => HI.out.h13 (dn_old h (by decide)), fun h => HI.out.h14 (dn_old h (by decide)), fun h => HI.out.h15 (dn_old h (by decide))⟩⟩
      · skip
        have q3 : dn L 3 := hdep _ rfl { on := 3, ground := .data } (by simp) rfl
        clear hdep
        obtain rfl := HI.out.h3 q3
        refine wpOpIn_step rfl (fun K hK => ?_)
        go_simp
        exact hK _ _ ⟨_, _, _, _, _, _, _, _, _, _, _, _, _, _, _, _, rfl, ⟨(by rw [Array.size_setIfInBounds]; exact HI.out.hs), HI.out.hb, fun h => HI.out.h0 (dn_old h (by decide)), fun h => HI.out.h1 (dn_old h (by decide)), fun h => HI.out.h2 (dn_old h (by decide)), fun h => HI.out.h3 (dn_old h (by decide)), fun _ => rfl, fun h => HI.out.h5 (dn_old h (by decide)), fun h => HI.out.h6 (dn_old h (by decide)), fun h => HI.out.h7 (dn_old h (by decide)), fun h => HI.out.h8 (dn_old h (by decide)), fun h => HI.out.h9 (dn_old h (by decide)), fun h => HI.out.h10 (dn_old h (by decide)), fun h => HI.out.h11 (dn_old h (by decide)), fun h => HI.out.h12 (dn_old h (by decide)), fun h => HI.out.h13 (dn_old h (by decide)), fun h => HI.out.h14 (dn_old h (by decide)), fun h => HI.out.h15 (dn_old h (by decide))⟩⟩
      · skip
        clear hdep
        refine wpOpIn_step rfl (fun K hK => ?_)
        go_simp
        exact hK _ _ ⟨_, _, _, _, _, _, _, _, _, _, _, _, _, _, _, _, rfl, ⟨(by rw [Array.size_setIfInBounds]; exact HI.out.hs), HI.out.hb, fun h => HI.out.h0 (dn_old h (by decide)), fun h => HI.out.h1 (dn_old h (by decide)), fun h => HI.out.h2 (dn_old h (by decide)), fun h => HI.out.h3 (dn_old h (by decide)), fun h => HI.out.h4 (dn_old h (by decide)), fun _ => rfl, fun h => HI.out.h6 (dn_old h (by decide)), fun h => HI.out.h7 (dn_old h (by decide)), fun h => HI.out.h8 (dn_old h (by decide)), fun h => HI.out.h9 (dn_old h (by decide)), fun h => HI.out.h10 (dn_old h (by decide)), fun h => HI.out.h11 (dn_old h (by decide)), fun h => HI.out.h12 (dn_old h (by decide)), fun h => HI.out.h13 (dn_old h (by decide)), fun h => HI.out.h14 (dn_old h (by decide)), fun h => HI.out.h15 (dn_old h (by decide))⟩⟩
      · skip
        have q5 : dn L 5 := hdep _ rfl { on := 5, ground := .data } (by simp) rfl
        clear hdep
        obtain rfl := HI.out.h5 q5
        refine wpOpIn_step rfl (fun K hK => ?_)
        go_simp
        exact hK _ _ ⟨_, _, _, _, _, _, _, _, _, _, _, _, _, _, _, _, rfl, ⟨(by rw [Array.size_setIfInBounds]; exact HI.out.hs), HI.out.hb, fun h => HI.out.h0 (dn_old h (by decide)), fun h => HI.out.h1 (dn_old h (by decide)), fun h => HI.out.h2 (dn_old h (by decide)), fun h => HI.out.h3 (dn_old h (by decide)), fun h => HI.out.h4 (dn_old h (by decide)), fun h => HI.out.h5 (dn_old h (by decide)), fun _ => rfl, fun h => HI.out.h7 (dn_old h (by decide)), fun h => HI.out.h8 (dn_old h (by decide)), fun h => HI.out.h9 (dn_old h (by decide)), fun h => HI.out.h10 (dn_old h (by decide)), fun h => HI.out.h11 (dn_old h (by decide)), fun h => HI.out.h12 (dn_old h (by decide)), fun h => HI.out.h13 (dn_old h (by decide)), fun h => HI.out.h14 (dn_old h (by decide)), fun h => HI.out.h15 (dn_old h (by decide))⟩⟩
      · skip
        have q6 : dn L 6 := hdep _ rfl { on := 6, ground := .data } (by simp) rfl
        clear hdep
        obtain rfl := HI.out.h6 q6
        refine wpOpIn_step rfl (fun K hK => ?_)
        go_simp
        exact hK _ _ ⟨_, _, _, _, _, _, _, _, _, _, _, _, _, _, _, _, rfl, ⟨(by rw [Array.size_setIfInBounds]; exact HI.out.hs), HI.out.hb, fun h => HI.out.h0 (dn_old h (by decide)), fun h => HI.out.h1 (dn_old h (by decide)), fun h => HI.out.h2 (dn_old h (by decide)), fun h => HI.out.h3 (dn_old h (by decide)), fun h => HI.out.h4 (dn_old h (by decide)), fun h => HI.out.h5 (dn_old h (by decide)), fun h => HI.out.h6 (dn_old h (by decide)), fun _ => rfl, fun h => HI.out.h8 (dn_old h (by decide)), fun h => HI.out.h9 (dn_old h (by decide)), fun h => HI.out.h10 (dn_old h (by decide)), fun h => HI.out.h11 (dn_old h (by decide)), fun h => HI.out.h12 (dn_old h (by decide)), fun h => HI.out.h13 (dn_old h (by decide)), fun h => HI.out.h14 (dn_old h (by decide)), fun h => HI.out.h15 (dn_old h (by decide))⟩⟩
      · skip
        have q4 : dn L 4 := hdep _ rfl { on := 4, ground := .data } (by simp) rfl
        have q7 : dn L 7 := hdep _ rfl { on := 7, ground := .data } (by simp) rfl
        clear hdep
        obtain rfl := HI.out.h4 q4
        obtain rfl := HI.out.h7 q7
        refine wpOpIn_step rfl (fun K hK => ?_)
        go_simp
        exact hK _ _ ⟨_, _, _, _, _, _, _, _, _, _, _, _, _, _, _, _, rfl, ⟨(by rw [Array.size_setIfInBounds]; exact HI.out.hs), HI.out.hb, fun h => HI.out.h0 (dn_old h (by decide)), fun h => HI.out.h1 (dn_old h (by decide)), fun h => HI.out.h2 (dn_old h (by decide)), fun h => HI.out.h3 (dn_old h (by decide)), fun h => HI.out.h4 (dn_old h (by decide)), fun h => HI.out.h5 (dn_old h (by decide)), fun h => HI.out.h6 (dn_old h (by decide)), fun h => HI.out.h7 (dn_old h (by decide)), fun _ => rfl, fun h => HI.out.h9 (dn_old h (by decide)), fun h => HI.out.h10 (dn_old h (by decide)), fun h => HI.out.h11 (dn_old h (by decide)), fun h => HI.out.h12 (dn_old h (by decide)), fun h => HI.out.h13 (dn_old h (by decide)), fun h => HI.out.h14 (dn_old h (by decide)), fun h => HI.out.h15 (dn_old h (by decide))⟩⟩
      · skip
        have q1 : dn L 1 := hdep _ rfl { on := 1, ground := .data } (by simp) rfl
        have q8 : dn L 8 := hdep _ rfl { on := 8, ground := .data } (by simp) rfl
        clear hdep
        obtain rfl := HI.out.h1 q1
        obtain rfl := HI.out.h8 q8
        refine wpOpIn_step rfl (fun K hK => ?_)
        go_simp
        refine ⟨trivial, ?_⟩
        gi_at_call 40
        refine (CallsIn.inRound l (callsIn_wide.2 (HD.out x y _))).mono ?_
        rintro e wP ⟨u, rfl, hru, hbk⟩
        exact hK _ _ ⟨_, _, _, _, _, _, _, _, _, _, _, _, _, _, _, _, rfl, ⟨(by rw [Array.size_setIfInBounds]; exact HI.out.hs), HI.out.hb.trans (hbk.mono HI.out.hb.size), fun h => HI.out.h0 (dn_old h (by decide)), fun h => HI.out.h1 (dn_old h (by decide)), fun h => HI.out.h2 (dn_old h (by decide)), fun h => HI.out.h3 (dn_old h (by decide)), fun h => HI.out.h4 (dn_old h (by decide)), fun h => HI.out.h5 (dn_old h (by decide)), fun h => HI.out.h6 (dn_old h (by decide)), fun h => HI.out.h7 (dn_old h (by decide)), fun h => HI.out.h8 (dn_old h (by decide)), fun _ => hru, fun h => (HI.out.h10 (dn_old h (by decide))).imp fun _ h => ⟨h.1, h.2.keep hbk⟩, fun h => (HI.out.h11 (dn_old h (by decide))).imp fun _ h => ⟨h.1, h.2.keep hbk⟩, fun h => (HI.out.h12 (dn_old h (by decide))).keep hbk, fun h => HI.out.h13 (dn_old h (by decide)), fun h => (HI.out.h14 (dn_old h (by decide))).keep hbk, fun h => HI.out.h15 (dn_old h (by decide))⟩⟩
      · skip
        have q0 : dn L 0 := hdep _ rfl { on := 0, ground := .data } (by simp) rfl
        have q9 : dn L 9 := hdep _ rfl { on := 9, ground := .data } (by simp) rfl
        clear hdep
        obtain rfl := HI.out.h0 q0
        have hr9 := HI.out.h9 q9
        refine wpOpIn_step rfl (fun K hK => ?_)
        go_simp
        refine ⟨trivial, ?_⟩
        gi_at_call 39
        refine (CallsIn.inRound l (callsIn_wide.2 (HOO.out _ _ (HBX.out.trans (hbw.mono HBX.out.size)) hr9))).mono ?_
        rintro e wP ⟨u, rfl, hru, hbk⟩
        exact hK _ _ ⟨_, _, _, _, _, _, _, _, _, _, _, _, _, _, _, _, rfl, ⟨(by rw [Array.size_setIfInBounds]; exact HI.out.hs), HI.out.hb.trans (hbk.mono HI.out.hb.size), fun h => HI.out.h0 (dn_old h (by decide)), fun h => HI.out.h1 (dn_old h (by decide)), fun h => HI.out.h2 (dn_old h (by decide)), fun h => HI.out.h3 (dn_old h (by decide)), fun h => HI.out.h4 (dn_old h (by decide)), fun h => HI.out.h5 (dn_old h (by decide)), fun h => HI.out.h6 (dn_old h (by decide)), fun h => HI.out.h7 (dn_old h (by decide)), fun h => HI.out.h8 (dn_old h (by decide)), fun h => (HI.out.h9 (dn_old h (by decide))).keep hbk, fun _ => ⟨u, rfl, hru⟩, fun h => (HI.out.h11 (dn_old h (by decide))).imp fun _ h => ⟨h.1, h.2.keep hbk⟩, fun h => (HI.out.h12 (dn_old h (by decide))).keep hbk, fun h => HI.out.h13 (dn_old h (by decide)), fun h => (HI.out.h14 (dn_old h (by decide))).keep hbk, fun h => HI.out.h15 (dn_old h (by decide))⟩⟩
      · skip
        have q10 : dn L 10 := hdep _ rfl { on := 10, ground := .data } (by simp) rfl
        clear hdep
        obtain ⟨u, rfl, hru⟩ := HI.out.h10 q10
        refine wpOpIn_step rfl (fun K hK => ?_)
        go_simp
        exact hK _ _ ⟨_, _, _, _, _, _, _, _, _, _, _, _, _, _, _, _, rfl, ⟨(by rw [Array.size_setIfInBounds]; exact HI.out.hs), HI.out.hb, fun h => HI.out.h0 (dn_old h (by decide)), fun h => HI.out.h1 (dn_old h (by decide)), fun h => HI.out.h2 (dn_old h (by decide)), fun h => HI.out.h3 (dn_old h (by decide)), fun h => HI.out.h4 (dn_old h (by decide)), fun h => HI.out.h5 (dn_old h (by decide)), fun h => HI.out.h6 (dn_old h (by decide)), fun h => HI.out.h7 (dn_old h (by decide)), fun h => HI.out.h8 (dn_old h (by decide)), fun h => HI.out.h9 (dn_old h (by decide)), fun h => HI.out.h10 (dn_old h (by decide)), fun _ => ⟨u, rfl, hru⟩, fun h => HI.out.h12 (dn_old h (by decide)), fun h => HI.out.h13 (dn_old h (by decide)), fun h => HI.out.h14 (dn_old h (by decide)), fun h => HI.out.h15 (dn_old h (by decide))⟩⟩
      · skip
        have q11 : dn L 11 := hdep _ rfl { on := 11, ground := .data } (by simp) rfl
        clear hdep
        obtain ⟨u, rfl, hru⟩ := HI.out.h11 q11
        refine wpOpIn_step rfl (fun K hK => ?_)
        go_simp
        exact hK _ _ ⟨_, _, _, _, _, _, _, _, _, _, _, _, _, _, _, _, rfl, ⟨(by rw [Array.size_setIfInBounds]; exact HI.out.hs), HI.out.hb, fun h => HI.out.h0 (dn_old h (by decide)), fun h => HI.out.h1 (dn_old h (by decide)), fun h => HI.out.h2 (dn_old h (by decide)), fun h => HI.out.h3 (dn_old h (by decide)), fun h => HI.out.h4 (dn_old h (by decide)), fun h => HI.out.h5 (dn_old h (by decide)), fun h => HI.out.h6 (dn_old h (by decide)), fun h => HI.out.h7 (dn_old h (by decide)), fun h => HI.out.h8 (dn_old h (by decide)), fun h => HI.out.h9 (dn_old h (by decide)), fun h => HI.out.h10 (dn_old h (by decide)), fun h => HI.out.h11 (dn_old h (by decide)), fun _ => hru, fun h => HI.out.h13 (dn_old h (by decide)), fun h => HI.out.h14 (dn_old h (by decide)), fun h => HI.out.h15 (dn_old h (by decide))⟩⟩
      · skip
        have q11 : dn L 11 := hdep _ rfl { on := 11, ground := .data } (by simp) rfl
        clear hdep
        obtain ⟨u, rfl, hru⟩ := HI.out.h11 q11
        refine wpOpIn_step rfl (fun K hK => ?_)
        go_simp
        exact hK _ _ ⟨_, _, _, _, _, _, _, _, _, _, _, _, _, _, _, _, rfl, ⟨(by rw [Array.size_setIfInBounds]; exact HI.out.hs), HI.out.hb, fun h => HI.out.h0 (dn_old h (by decide)), fun h => HI.out.h1 (dn_old h (by decide)), fun h => HI.out.h2 (dn_old h (by decide)), fun h => HI.out.h3 (dn_old h (by decide)), fun h => HI.out.h4 (dn_old h (by decide)), fun h => HI.out.h5 (dn_old h (by decide)), fun h => HI.out.h6 (dn_old h (by decide)), fun h => HI.out.h7 (dn_old h (by decide)), fun h => HI.out.h8 (dn_old h (by decide)), fun h => HI.out.h9 (dn_old h (by decide)), fun h => HI.out.h10 (dn_old h (by decide)), fun h => HI.out.h11 (dn_old h (by decide)), fun h => HI.out.h12 (dn_old h (by decide)), fun _ => rfl, fun h => HI.out.h14 (dn_old h (by decide)), fun h => HI.out.h15 (dn_old h (by decide))⟩⟩
      · skip
        have q12 : dn L 12 := hdep _ rfl { on := 12, ground := .data } (by simp) rfl
        clear hdep
        have hr12 := HI.out.h12 q12
        refine wpOpIn_step rfl (fun K hK => ?_)
        go_simp
        exact hK _ _ ⟨_, _, _, _, _, _, _, _, _, _, _, _, _, _, _, _, rfl, ⟨(by rw [Array.size_setIfInBounds]; exact HI.out.hs), HI.out.hb, fun h => HI.out.h0 (dn_old h (by decide)), fun h => HI.out.h1 (dn_old h (by decide)), fun h => HI.out.h2 (dn_old h (by decide)), fun h => HI.out.h3 (dn_old h (by decide)), fun h => HI.out.h4 (dn_old h (by decide)), fun h => HI.out.h5 (dn_old h (by decide)), fun h => HI.out.h6 (dn_old h (by decide)), fun h => HI.out.h7 (dn_old h (by decide)), fun h => HI.out.h8 (dn_old h (by decide)), fun h => HI.out.h9 (dn_old h (by decide)), fun h => HI.out.h10 (dn_old h (by decide)), fun h => HI.out.h11 (dn_old h (by decide)), fun h => HI.out.h12 (dn_old h (by decide)), fun h => HI.out.h13 (dn_old h (by decide)), fun _ => hr12, fun h => HI.out.h15 (dn_old h (by decide))⟩⟩
      · skip
        have q13 : dn L 13 := hdep _ rfl { on := 13, ground := .data } (by simp) rfl
        clear hdep
        obtain rfl := HI.out.h13 q13
        refine wpOpIn_step rfl (fun K hK => ?_)
        go_simp
        exact hK _ _ ⟨_, _, _, _, _, _, _, _, _, _, _, _, _, _, _, _, rfl, ⟨(by rw [Array.size_setIfInBounds]; exact HI.out.hs), HI.out.hb, fun h => HI.out.h0 (dn_old h (by decide)), fun h => HI.out.h1 (dn_old h (by decide)), fun h => HI.out.h2 (dn_old h (by decide)), fun h => HI.out.h3 (dn_old h (by decide)), fun h => HI.out.h4 (dn_old h (by decide)), fun h => HI.out.h5 (dn_old h (by decide)), fun h => HI.out.h6 (dn_old h (by decide)), fun h => HI.out.h7 (dn_old h (by decide)), fun h => HI.out.h8 (dn_old h (by decide)), fun h => HI.out.h9 (dn_old h (by decide)), fun h => HI.out.h10 (dn_old h (by decide)), fun h => HI.out.h11 (dn_old h (by decide)), fun h => HI.out.h12 (dn_old h (by decide)), fun h => HI.out.h13 (dn_old h (by decide)), fun h => HI.out.h14 (dn_old h (by decide)), fun _ => rfl⟩⟩
    case hend =>
      rintro L act W6 ⟨s11, s12, s35, s36, s37, s38, s39, s40, s41, s42, s43, s44, s45, s46, s47, s48, rfl, I⟩ hrd
      have D := all_done3 I.hs (by kernel_rfl) hrd
      have hr11 := hid (I.h14 (D 14 (by decide)))
      obtain rfl := I.h15 (D 15 (by decide))
      have HBI := hid I.hb
      clear I D hrd
      cases ok with
      | false =>
        have HOWN := hid ((HDX.out.kept (grows_of HBI.out) (by simp)).mono (Nat.le_succ _))
        have HCX9 := hid ((HBI.out.block _ (Array.getElem?_eq_some_iff.1 HCX.out).1).trans HCX.out)
        have HBX9 := hid (HBX.out.trans (HBI.out.mono HBX.out.size))
        gi_wp2_with fail
        refine ⟨Stay.of_below HBI.out, ⟨HCX9.out, HMW.out _ HBI.out⟩, ?_, HBX9.out⟩
        rw [show (pre ++ [((g, [x, y]) : VE)]).length = pre.length + 1 by simp, List.map_append, List.map_cons, List.map_nil, ptsM_no _ HOK.out.symm]
        exact HOWN.out
      | true =>
        obtain ⟨hl3, hb3⟩ := hit_three HOK.out.symm
        obtain ⟨k1, k2, k3⟩ := at_wf (vs := vs) hl3 hb3
        have HKEY : Hid (keyOf Try.prog 72 (ptA vs (hedL xs vs [x, y])) = some (keyZ vs (hedL xs vs [x, y]))) := hid (key_pt _ _ _ k1 k2 k3)
        have HPO := hid (fun (u : Value) (wx : World) (h : Rd wx u (hedL xs vs [x, y])) => HPT.out _ u wx hl3 h)
        obtain ⟨DM, hDM⟩ : ∃ DM : DataW Nat, DM = Maps.setOf (.lit (.bool true)) ((ptsM xs vs (pre.map (·.2))).map (keyZ vs)) := ⟨_, rfl⟩
        rw [← hDM] at HDX
        have HDM := hid hDM
        have HB6 := hid (HBX.out.trans (HBI.out.mono HBX.out.size))
        have HC6 := hid ((HBI.out.block _ (Array.getElem?_eq_some_iff.1 HCX.out).1).trans HCX.out)
        have HM6 := hid (HMW.out _ HBI.out)
        have HD6 := hid (HDX.out.kept (grows_of HBI.out) (by simp))
        have HSB := hid (Stay.of_below (B := w2.heap.size + 1 + 1 + 1) HBI.out)
        clear hl3 hb3 k1 k2 k3 hDM
        gi_wp2_with fail
        refine region_invIn (by kernel_rfl) (fun L act wx => ∃ s50 s51 s52 s53 : Value, act = ({ tmps := #[.slice a xs.length cap, .slice a' vs.length cap', .int .i64 (N : Int), undef, undef, undef, .int .i64 0, .pointer (some ⟨w2.heap.size, 0, none⟩), .bool true, .pointer (some ⟨w2.heap.size + 1 + 1, 0, none⟩), .slice (some ⟨g, 0, none⟩) 2 2, s11, .bool true, .tuple #[.agg #[.slice a xs.length cap, .slice a' vs.length cap', .int .i64 c2, .int .i64 c3, .int .i64 2], .bool true], .slice a xs.length cap, .slice a' vs.length cap', .tuple #[.agg #[.slice a xs.length cap, .slice a' vs.length cap', .int .i64 c2, .int .i64 c3, .int .i64 2], .bool true], .agg #[.slice a xs.length cap, .slice a' vs.length cap', .int .i64 c2, .int .i64 c3, .int .i64 2], .bool true, .bool true, .bool false, .bool false, .int .i64 (N : Int), .bool (decide ((N : Int) < 1)), .bool (decide ((N : Int) < 1)), .bool (decide ((N : Int) < 1)), .int .i64 (N : Int), .bool (decide (5 < (N : Int))), .bool (decide ((N : Int) < 1) || decide (5 < (N : Int))), .map (some (w2.heap.size + 1)), .int .i64 (N : Int), .int .i64 (-(N : Int)), .int .i64 (N : Int), .func (.func 73) #[] #[.pointer (some ⟨w2.heap.size + 1 + 1 + 1 + 1, 0, none⟩), .pointer (some ⟨w2.heap.size + 1 + 1 + 1, 0, none⟩), .pointer (some ⟨w2.heap.size + 1 + 1 + 1 + 2, 0, none⟩)], .slice (some ⟨g, 0, none⟩) 2 2, s35, s36, s37, s38, s39, s40, s41, s42, s43, s44, s45, s46, s47, s48, .bool true, s50, s51, s52, s53, undef, undef], defers := [] } : Act) ∧ PutI (w2.heap.size + 1 + 1 + 1) w2.heap.size w W6 (.agg #[.slice a xs.length cap, .slice a' vs.length cap', .int .i64 c2, .int .i64 c3, .int .i64 2]) s11 (ptA vs (hedL xs vs [x, y])) (.cells #[.slice a xs.length cap, .slice a' vs.length cap', .int .i64 c2, .int .i64 c3, .int .i64 2] 50 (0, 0)) (hedL xs vs [x, y]) pre.length DM (DM.put (keyZ vs (hedL xs vs [x, y])) (.lit (.bool true))) L wx s50 s51 s52 s53) ?h0 ?hend ?hstep
        case h0 => exact ⟨undef, undef, undef, undef, rfl, ⟨rfl, Stay.drewN _ _ 1, (show Below _ _ W6.drew from below_dw HB6.out), HC6.out, HM6.out, fun _ => ⟨HD6.out, hr11.out⟩, fun h => (dn_new h).elim, fun h => (dn_new h).elim, fun h => (dn_new h).elim, fun h => (dn_new h).elim, fun h => (dn_new h).elim, fun h => (dn_new h).elim⟩⟩
        case hstep =>
          rintro L act wx i ⟨s50, s51, s52, s53, rfl, I⟩ hi
          obtain ⟨hi1, hf, hdep⟩ := ready_mem hi
          have hi2 : i < 5 := hi1
          have HI := hid I
          have HF := hid hf
          clear hi hi1 I hf
          have hc : i = 0 ∨ i = 1 ∨ i = 2 ∨ i = 3 ∨ i = 4 := by omega
          clear hi2
          rcases hc with rfl | rfl | rfl | rfl | rfl
          · skip
            clear hdep
            have x0 := HI.out.hM.cell
            refine wpOpIn_step rfl (fun K hK => ?_)
            go_simp
            exact hK _ _ ⟨_, _, _, _, rfl, ⟨(by rw [Array.size_setIfInBounds]; exact HI.out.hs), HI.out.hst, HI.out.hb, HI.out.hC, HI.out.hM, fun h => HI.out.hm0 (fun h2 => h (dn_keep h2)), fun h => HI.out.hm1 (dn_old h (by decide)), fun _ => rfl, fun h => HI.out.h1 (dn_old h (by decide)), fun h => HI.out.h2 (dn_old h (by decide)), fun h => HI.out.h3 (dn_old h (by decide)), fun h => dn_keep (HI.out.d4 (dn_old h (by decide)))⟩⟩
          · skip
            clear hdep
            have hC := HI.out.hC
            have d0 := cell_h (i := 0) hC
            have d1 := cell_h (i := 1) hC
            have d2 := cell_h (i := 2) hC
            have d3 := cell_h (i := 3) hC
            have d4 := cell_h (i := 4) hC
            clear hC
            refine wpOpIn_step rfl (fun K hK => ?_)
            go_simp
            exact hK _ _ ⟨_, _, _, _, rfl, ⟨(by rw [Array.size_setIfInBounds]; exact HI.out.hs), HI.out.hst, HI.out.hb, HI.out.hC, HI.out.hM, fun h => HI.out.hm0 (fun h2 => h (dn_keep h2)), fun h => HI.out.hm1 (dn_old h (by decide)), fun h => HI.out.h0 (dn_old h (by decide)), fun _ => rfl, fun h => HI.out.h2 (dn_old h (by decide)), fun h => HI.out.h3 (dn_old h (by decide)), fun h => dn_keep (HI.out.d4 (dn_old h (by decide)))⟩⟩
          · skip
            clear hdep
            refine wpOpIn_step rfl (fun K hK => ?_)
            go_simp
            exact hK _ _ ⟨_, _, _, _, rfl, ⟨(by rw [Array.size_setIfInBounds]; exact HI.out.hs), HI.out.hst, HI.out.hb, HI.out.hC, HI.out.hM, fun h => HI.out.hm0 (fun h2 => h (dn_keep h2)), fun h => HI.out.hm1 (dn_old h (by decide)), fun h => HI.out.h0 (dn_old h (by decide)), fun h => HI.out.h1 (dn_old h (by decide)), fun _ => rfl, fun h => HI.out.h3 (dn_old h (by decide)), fun h => dn_keep (HI.out.d4 (dn_old h (by decide)))⟩⟩
          · skip
            have q1 : dn L 1 := hdep _ rfl { on := 1, ground := .data } (by simp) rfl
            have q2 : dn L 2 := hdep _ rfl { on := 2, ground := .data } (by simp) rfl
            clear hdep
            obtain rfl := HI.out.h1 q1
            obtain rfl := HI.out.h2 q2
            refine wpOpIn_step rfl (fun K hK => ?_)
            go_simp
            refine ⟨trivial, ?_⟩
            gi_at_call 55
            refine (CallsIn.inRound l (callsIn_wide.2 (HPO.out _ _ (HI.out.hm0 (fun h => dn_not HF.out (HI.out.d4 h))).2))).mono ?_
            rintro e wP ⟨rfl, hbk⟩
            exact hK _ _ ⟨_, _, _, _, rfl, ⟨(by rw [Array.size_setIfInBounds]; exact HI.out.hs), HI.out.hst.trans (Stay.of_below hbk), HI.out.hb.trans (hbk.mono HI.out.hb.size), (hbk.block _ (Array.getElem?_eq_some_iff.1 HI.out.hC).1).trans HI.out.hC, (hbk.block _ (Array.getElem?_eq_some_iff.1 HI.out.hM).1).trans HI.out.hM, fun h => ⟨(HI.out.hm0 (fun h2 => h (dn_keep h2))).1.kept (grows_of hbk) (by simp), (HI.out.hm0 (fun h2 => h (dn_keep h2))).2.keep hbk⟩, fun h => (HI.out.hm1 (dn_old h (by decide))).kept (grows_of hbk) (by simp), fun h => HI.out.h0 (dn_old h (by decide)), fun h => HI.out.h1 (dn_old h (by decide)), fun h => HI.out.h2 (dn_old h (by decide)), fun _ => rfl, fun h => dn_keep (HI.out.d4 (dn_old h (by decide)))⟩⟩
          · skip
            have q0 : dn L 0 := hdep _ rfl { on := 0, ground := .data } (by simp) rfl
            have q3 : dn L 3 := hdep _ rfl { on := 3, ground := .data } (by simp) rfl
            clear hdep
            obtain rfl := HI.out.h0 q0
            obtain rfl := HI.out.h3 q3
            obtain ⟨hown, _⟩ := HI.out.hm0 (dn_not HF.out)
            obtain ⟨w', hrun, hown', hturn⟩ := hown.store (t := 67) ptKeyed mapUnder (by have := HNN.out; unfold maxLen; omega) HKEY.out valTrue
            refine wpOpIn_step rfl (fun K hK => ?_)
            go_simp
            exact hK _ _ ⟨_, _, _, _, rfl, ⟨(by rw [Array.size_setIfInBounds]; exact HI.out.hs), HI.out.hst.trans (stay_grown hturn.grown (by omega)), HI.out.hb.grown hturn.grown HI.out.hb.size (fun k e => by have e2 := Option.some.inj e; omega), (hturn.grown.block _ (Array.getElem?_eq_some_iff.1 HI.out.hC).1 (fun e => by have e2 := Option.some.inj e; omega)).trans HI.out.hC, (hturn.grown.block _ (Array.getElem?_eq_some_iff.1 HI.out.hM).1 (fun e => by have e2 := Option.some.inj e; omega)).trans HI.out.hM, fun h => (h (dn_self HF.out)).elim, fun _ => hown', fun h => HI.out.h0 (dn_old h (by decide)), fun h => HI.out.h1 (dn_old h (by decide)), fun h => HI.out.h2 (dn_old h (by decide)), fun h => HI.out.h3 (dn_old h (by decide)), fun _ => dn_keep q3⟩⟩
        case hend =>
          rintro L act wx ⟨s50, s51, s52, s53, rfl, I⟩ hrd
          have D := all_done3 I.hs (by kernel_rfl) hrd
          have HFI := hid I
          have HM9 := hid (I.hm1 (D 4 (by decide)))
          clear I D hrd
          have HST := hid (HSB.out.trans HFI.out.hst)
          gi_wp2_with fail
          refine ⟨HST.out, ⟨HFI.out.hC, HFI.out.hM⟩, ?_, HFI.out.hb⟩
          rw [show (pre ++ [((g, [x, y]) : VE)]).length = pre.length + 1 by simp, List.map_append, List.map_cons, List.map_nil, ptsM_yes _ HOK.out.symm, List.map_append, List.map_cons, List.map_nil, Maps.setOf_snoc, ← HDM.out]
          exact HM9.out
  case done =>
    rintro ys W hS ⟨⟨hCx, hMx⟩, hDx, hB⟩ hK
    rw [hS] at hDx
    simp only [World.size_alloc] at hK
    have hc := hMx.cell
    have hlen := fun ty => hDx.len mapUnder ty
    rw [Maps.size_setOf _ _ (fun k hk => by obtain ⟨z, _, rfl⟩ := List.mem_map.1 hk; exact keyZ_lit _ _), keys_len hN5] at hlen
    clear hDx
    gi_wp2
    refine ⟨by simp, .inl ⟨_, _, rfl, run_takeDeferred hK, ?_⟩⟩
    refine ⟨_, results_tmp rfl _ _ _, ?_⟩
    exact ⟨rfl, hB.trans (belowK_b (w := w) (Nat.le_refl _) W _ _ _ (by omega) hK rfl rfl)⟩
  case stop =>
    rintro c pre W _ h _
    exact h.elim

set_option maxRecDepth 100000 in
theorem conicMany_any (vf vv : Value) (xs vs : List Int) (n : Int) (w : World) (hx : Rd w vf xs) (hv : Rd w vv vs) : Calls Try.prog 27 #[vf, vv, .int .i64 n] w fun e w' => e = .returned (.int .i64 (cmanyV xs vs n)) ∧ Below w.heap.size w w' := by
  cases h : (pointB xs vs && inR n 1 5) with
  | false =>
    have e : cmanyV xs vs n = -1 := by unfold cmanyV; rw [h]; rfl
    rw [e]
    exact conicMany_no vf vv xs vs n w hx hv h
  | true =>
    have e : cmanyV xs vs n = (allC (metB xs vs) n.toNat (n.toNat + 1) : Nat) := by unfold cmanyV; rw [h, if_pos rfl]
    rw [Bool.and_eq_true] at h
    have hn := h.2
    unfold inR at hn
    rw [Bool.and_eq_true, decide_eq_true_eq, decide_eq_true_eq] at hn
    obtain ⟨N, rfl⟩ := Int.eq_ofNat_of_zero_le (show 0 ≤ n by omega)
    rw [e, Int.toNat_natCast]
    exact conicMany_main vf vv xs vs N (by omega) (by omega) h.1 w hx hv

end Go.Proofs.Ytfjbdbfeolfcfaa

namespace Go.Proofs.Ytfjbdbfeolfcfaa.fnExactConicMany
open Go.ChangeShapes Go.WideShapes Go.ChangeAt Go.RowKit
open Go.ChangeMaps (open_string shut_string)
set_option linter.unusedVariables false
set_option maxRecDepth 100000 in
set_option maxHeartbeats 2000000 in
theorem walk  (a0 : Option Addr) (len0 cap0 : Nat) (z0 : List Int) (a1 : Option Addr) (len1 cap1 : Nat) (z1 : List Int) (a2 : Int) (w : World) (w0 : IsRow .i64 w a0 len0 cap0 z0) (w1 : IsRow .i64 w a1 len1 cap1 z1) (w2 : (Lit.int .i64 a2).wf = true) :
    Calls Try.prog 8 #[.slice a0 len0 cap0, .slice a1 len1 cap1, .int .i64 a2] w fun e w' => e = .returned (.bool true) ∧ Below w.heap.size w w' := by
  obtain ⟨xs0, hxl0, hrd0⟩ := rd_row w0
  have RA0 := hid hrd0
  have HXL0 := hid hxl0
  clear hrd0 hxl0 w0
  obtain ⟨xs1, hxl1, hrd1⟩ := rd_row w1
  have RA1 := hid hrd1
  have HXL1 := hid hxl1
  clear hrd1 hxl1 w1
  by_cases hl0a : (1048576 : Int) < (len0 : Int)
  · go_enter Try.func8, Try.ntmps8
    go_wp2
    go_ret
    exact ⟨rfl, Below.refl _ _⟩
  by_cases hl1a : (1048576 : Int) < (len1 : Int)
  · go_enter Try.func8, Try.ntmps8
    go_wp2
    go_ret
    exact ⟨rfl, Below.refl _ _⟩
  have hl0 : xs0.length ≤ 1048576 := by have := HXL0.out; omega
  have HD0 : decide (xs0 = xs0) = true := by simp
  have hl1 : xs1.length ≤ 1048576 := by have := HXL1.out; omega
  have HD1 : decide (xs1 = xs1) = true := by simp
  have B0 := hid (Below.refl w.heap.size w)
  obtain ⟨x, hx⟩ : ∃ x : Int, x = cmanyV xs0 xs1 a2 := ⟨_, rfl⟩
  have P : Hid (cmanyV xs0 xs1 a2 = x) := hid hx.symm
  clear hx
  go_enter Try.func8, Try.ntmps8
  go_wp2_with fail
  refine (toIntS_any _ xs0 _ (RA0.out.keep2 B0.out) hl0).mono ?_
  rintro e W1 ⟨u0, rfl, o1, b1, f1⟩
  have E1 := hid b1
  have Q1 := hid o1
  have Fu0 : Hid (Firm u0) := hid (.inr f1)
  clear b1 o1 f1
  have B1 := hid (B0.out.trans (E1.out.mono B0.out.size))
  have Ru0_1 := hid Q1.out.rd
  go_wp2_with fail
  refine (toIntS_any _ xs1 _ (RA1.out.keep2 B1.out) hl1).mono ?_
  rintro e W2 ⟨u1, rfl, o2, b2, f2⟩
  have E2 := hid b2
  have Q2 := hid o2
  have Fu1 : Hid (Firm u1) := hid (.inr f2)
  clear b2 o2 f2
  have B2 := hid (B1.out.trans (E2.out.mono B1.out.size))
  have Ru0_2 := hid (Ru0_1.out.keep2 E2.out)
  have Ru1_2 := hid Q2.out.rd
  go_wp2_with fail
  refine (conicManyS_any _ _ xs0 xs1 a2 _ Ru0_2.out Ru1_2.out).mono ?_
  rw [P.out]
  rintro e W3 ⟨rfl, b3⟩
  have E3 := hid b3
  clear b3
  have B3 := hid (B2.out.trans (E3.out.mono B2.out.size))
  have Ru0_3 := hid (Ru0_2.out.keep2 E3.out)
  have Ru1_3 := hid (Ru1_2.out.keep2 E3.out)
  go_wp2_with fail
  refine (toIntS_any _ xs0 _ (RA0.out.keep2 B3.out) hl0).mono ?_
  rintro e W4 ⟨y0, rfl, o4, b4, f4⟩
  have E4 := hid b4
  have Q4 := hid o4
  have Fy0 : Hid (Firm y0) := hid (.inr f4)
  clear b4 o4 f4
  have B4 := hid (B3.out.trans (E4.out.mono B3.out.size))
  have Ry0_4 := hid Q4.out.rd
  go_wp2_with fail
  refine (toIntS_any _ xs1 _ (RA1.out.keep2 B4.out) hl1).mono ?_
  rintro e W5 ⟨y1, rfl, o5, b5, f5⟩
  have E5 := hid b5
  have Q5 := hid o5
  have Fy1 : Hid (Firm y1) := hid (.inr f5)
  clear b5 o5 f5
  have B5 := hid (B4.out.trans (E5.out.mono B4.out.size))
  have Ry0_5 := hid (Ry0_4.out.keep2 E5.out)
  have Ry1_5 := hid Q5.out.rd
  go_wp2_with fail
  refine (conicMany_any _ _ xs0 xs1 a2 _ Ry0_5.out Ry1_5.out).mono ?_
  rw [P.out]
  rintro e W6 ⟨rfl, b6⟩
  have E6 := hid b6
  clear b6
  have B6 := hid (B5.out.trans (E6.out.mono B5.out.size))
  have Ry0_6 := hid (Ry0_5.out.keep2 E6.out)
  have Ry1_6 := hid (Ry1_5.out.keep2 E6.out)
  go_wp2_with fail
  refine (toIntS_any _ xs0 _ (RA0.out.keep2 B6.out) hl0).mono ?_
  rintro e W7 ⟨t0, rfl, o7, b7, f7⟩
  have E7 := hid b7
  have Q7 := hid o7
  have Ft0 : Hid (Firm t0) := hid (.inr f7)
  clear b7 o7 f7
  have B7 := hid (B6.out.trans (E7.out.mono B6.out.size))
  have Ry0_7 := hid (Ry0_6.out.keep2 E7.out)
  have Ry1_7 := hid (Ry1_6.out.keep2 E7.out)
  have Rt0_7 := hid Q7.out.rd
  go_wp2_with fail
  refine (eqIntS_any _ _ xs0 xs0 _ Ry0_7.out Rt0_7.out).mono ?_
  rintro e W8 ⟨rfl, k8, hk8⟩
  have E8 : Hid (Below W7.heap.size W7 W8) := hid (by rw [hk8]; exact below_drewN (Below.refl _ _) k8)
  clear hk8
  have B8 := hid (B7.out.trans (E8.out.mono B7.out.size))
  have Ry0_8 := hid (Ry0_7.out.keep2 E8.out)
  have Ry1_8 := hid (Ry1_7.out.keep2 E8.out)
  have Rt0_8 := hid (Rt0_7.out.keep2 E8.out)
  go_wp2_with fail
  refine (toIntS_any _ xs1 _ (RA1.out.keep2 B8.out) hl1).mono ?_
  rintro e W9 ⟨t1, rfl, o9, b9, f9⟩
  have E9 := hid b9
  have Q9 := hid o9
  have Ft1 : Hid (Firm t1) := hid (.inr f9)
  clear b9 o9 f9
  have B9 := hid (B8.out.trans (E9.out.mono B8.out.size))
  have Ry1_9 := hid (Ry1_8.out.keep2 E9.out)
  have Rt1_9 := hid Q9.out.rd
  go_wp2_with fail
  refine (eqIntS_any _ _ xs1 xs1 _ Ry1_9.out Rt1_9.out).mono ?_
  rintro e W10 ⟨rfl, k10, hk10⟩
  have E10 : Hid (Below W9.heap.size W9 W10) := hid (by rw [hk10]; exact below_drewN (Below.refl _ _) k10)
  clear hk10
  have B10 := hid (B9.out.trans (E10.out.mono B9.out.size))
  have Ry1_10 := hid (Ry1_9.out.keep2 E10.out)
  have Rt1_10 := hid (Rt1_9.out.keep2 E10.out)
  go_wp2
  go_ret
  exact ⟨rfl, B10.out⟩
theorem own : ownKnob Try.prog.godebug = none := by kernel_rfl
theorem laidOut : laidOutB Try.prog = true := by kernel_rfl
set_option maxRecDepth 100000 in
theorem lifted (os : Os) (started : os.Started) (H : Type) (enc : TypeId × Value → H) :
    ReturnsInHanded {} Try.checked os 8 .any (Rows.fnExactConicManySpec.pre6 enc Try.prog Try.f8 Rows.fnExactConicManyRow.domain false) (Rows.fnExactConicManySpec.post enc Try.prog Try.f8 false true false false) := by
  refine returnsInHanded_of_change (C := Try.checked) own started (by kernel_rfl) Try.func8
    (ChangeSpec.witness6 (enc := enc) (C := Try.checked) false ⟨#[], #[.slice none 0 0, .slice none 0 0, .int .i64 0], []⟩ 8 (by kernel_rfl) (by kernel_rfl) (by kernel_rfl) (by kernel_rfl)) ?_
  intro W base args ds gs before hval0 hW hcnd _
  have hval : ∀ (j : Nat) t v, Try.f8.params[j]? = some t → args[j]? = some v → Value.okWide Try.prog W .any base t v := hval0
  have hW' := hW
  obtain ⟨p, q, hA0, hV, rfl, hfz, hnd⟩ := hW
  have hA : DataW.TrodAll enc Try.prog W 0 (fun _ => true) true Try.f8.params.toList args.toList ds p := hA0
  rw [Try.params8] at hA hval
  obtain ⟨v0, vs0, d0, ds0, p0, q0, hargs, rfl, rfl, h0, r0⟩ := trodAll_cons hA
  obtain ⟨v1, vs1, d1, ds1, p1, q1, rfl, rfl, rfl, h1, r1⟩ := trodAll_cons r0
  obtain ⟨v2, vs2, d2, ds2, p2, q2, rfl, rfl, rfl, h2, r2⟩ := trodAll_cons r1
  obtain ⟨rfl, rfl, rfl⟩ := trodAll_nil r2
  obtain rfl : args = #[v0, v1, v2] := by cases args; simp_all
  obtain ⟨rfl, rfl⟩ := trodVars_none hV
  obtain ⟨a0, len0, cap0, rfl⟩ := okWide_slice Try.underlying23 (hval 0 23 v0 rfl rfl)
  have k0 := h0
  have lt0 : ∀ x ∈ p0, x.block < W.heap.size := by obtain ⟨m, hm⟩ := k0; exact DataW.trod_lt m _ _ _ hm
  obtain ⟨z0, w0⟩ : ∃ zs, IsRow .i64 W a0 len0 cap0 zs := by
    obtain ⟨fuel, hf⟩ := h0
    rcases open_ints Try.underlying23 Try.underlying3 (by kernel_rfl) hf with ⟨hcs, _⟩ | ⟨x, l, c, zs, hcs, _, hl, hm, hz, _, hcell, hwz⟩
    · simp [Value.cells] at hcs
      obtain ⟨rfl, rfl, rfl⟩ := hcs
      exact ⟨[], .inl ⟨rfl, rfl, rfl, rfl⟩⟩
    · simp [Value.cells] at hcs
      obtain ⟨rfl, rfl, rfl⟩ := hcs
      exact ⟨zs, .inr ⟨_, rfl, hl, hm, by simpa using hz, hcell, hwz⟩⟩
  obtain ⟨a1, len1, cap1, rfl⟩ := okWide_slice Try.underlying23 (hval 1 23 v1 rfl rfl)
  have k1 := h1
  have lt1 : ∀ x ∈ p1, x.block < W.heap.size := by obtain ⟨m, hm⟩ := k1; exact DataW.trod_lt m _ _ _ hm
  obtain ⟨z1, w1⟩ : ∃ zs, IsRow .i64 W a1 len1 cap1 zs := by
    obtain ⟨fuel, hf⟩ := h1
    rcases open_ints Try.underlying23 Try.underlying3 (by kernel_rfl) hf with ⟨hcs, _⟩ | ⟨x, l, c, zs, hcs, _, hl, hm, hz, _, hcell, hwz⟩
    · simp [Value.cells] at hcs
      obtain ⟨rfl, rfl, rfl⟩ := hcs
      exact ⟨[], .inl ⟨rfl, rfl, rfl, rfl⟩⟩
    · simp [Value.cells] at hcs
      obtain ⟨rfl, rfl, rfl⟩ := hcs
      exact ⟨zs, .inr ⟨_, rfl, hl, hm, by simpa using hz, hcell, hwz⟩⟩
  obtain ⟨a2, rfl, rfl, rfl, w2⟩ := open_int Try.underlying3 (hval 2 3 v2 rfl rfl) h2
  clear hA0 hval0
  refine (walk a0 len0 cap0 z0 a1 len1 cap1 z1 a2 W w0 w1 w2).mono fun e W' ⟨he, bel⟩ => ?_
  subst he
  exact ⟨_, rfl, _, _, _, [], _, [], hW', trodAll_mk1 (shut_bool Try.underlying4 _), (trodAll_cons_mk (Below.trod laidOut (by kernel_rfl) (of_decide_eq_true (by kernel_rfl)) k0 bel lt0) (trodAll_cons_mk (Below.trod laidOut (by kernel_rfl) (of_decide_eq_true (by kernel_rfl)) k1 bel lt1) (trodAll_cons_mk (shut_int Try.underlying3 w2) trodAll_mk0))), rfl, bel.frame _, fun h => by cases h⟩
theorem over : Rows.fnExactConicManyRow.holds Try.pinned (OpenSpec.ofChange Rows.fnExactConicManySpec) :=
  OpenClaim.holds_of_wide 8 Try.f8 rfl rfl rfl rfl rfl rfl rfl ⟨rfl, rfl, rfl, rfl, rfl⟩ rfl rfl rfl rfl rfl (by kernel_rfl) Try.func8 (by kernel_rfl)
    (of_decide_eq_true (by kernel_rfl)) (by unfold Func.isWrapper; first | (rw [if_pos (by decide +kernel)]; kernel_rfl) | (rw [if_neg (by decide +kernel)]; exact ⟨rfl, rfl⟩))
    (fun os started H enc _ => lifted os started H enc)
theorem proved : Rows.FnExactConicManySaid := over
end Go.Proofs.Ytfjbdbfeolfcfaa.fnExactConicMany
