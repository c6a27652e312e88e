/-
  Some texts in one file: WrapW Mx1.
-/
import Derived.Test.YtjabklpnohfjpabQBun0
import Derived.Test.YtjabklpnohfjpabQOwn2
import Derived.Test.YtjabklpnohfjpabQBun8
import Derived.Test.YtjabklpnohfjpabQFm3
/-! WrapW -/
set_option linter.unusedVariables false
namespace Go.Proofs.Ytjabklpnohfjpab
open Go.RowKit

theorem wrapW {x : Int} (h1 : -100000000000000 ≤ x) (h2 : x ≤ 100000000000000) : IntKind.i64.wrap x = x := by rw [IntKind.wrap_i64]; omega
theorem below_dw {n : Nat} {w w' : World} (h : Below n w w') : Below n w w'.drew := ⟨h.os, h.tape, h.output, h.size, h.block⟩
theorem below_box2 (w : World) (o : Obj) : Below w.heap.size w (w.alloc o) := (Below.refl _ _).alloc (Nat.le_refl _) _

end Go.Proofs.Ytjabklpnohfjpab

/-! Mx1 -/
set_option linter.unusedVariables false
namespace Go.Proofs.Ytjabklpnohfjpab
open Go.RowKit

theorem cellB {W : World} {n i : Nat} {cs : Array Value} {t : TypeId} {m : Nat × Nat} (e : W.heap[n]? = some (.cells cs t m)) : W.cell? ⟨n, i, none⟩ = cs[i]? := by simp [World.cell?, e]
theorem frozenB {W : World} {n i : Nat} {cs : Array Value} {t : TypeId} (e : W.heap[n]? = some (.cells cs t (0, 0))) : W.frozen? ⟨n, i, none⟩ = false := by simp [World.frozen?, e]
theorem infoRow : (Try.prog.info? 22).map (fun i => (i.zero, i.size, i.bytes)) = some (some (.slice none 0 0), 1, 24) := by kernel_rfl
/-- a list of lists lies there to be read -/
def RdM (W : World) (v : Value) (R : List (List Int)) : Prop := ∃ (a : Option Addr) (cap : Nat) (vals : List Value), v = .slice a R.length cap ∧ vals.length = R.length ∧ (0 < R.length → ∃ b o, a = some ⟨b, o, none⟩ ∧ R.length ≤ maxLen ∧ ∀ i, i < R.length → W.cell? ⟨b, o + i, none⟩ = some (vals.getD i undef)) ∧ ∀ i, i < R.length → Rd W (vals.getD i undef) (R.getD i [])
theorem RdM.keep {W W' : World} {v : Value} {R : List (List Int)} (h : RdM W v R) (hb : Below W.heap.size W W') : RdM W' v R := by
  obtain ⟨a, cap, vals, h1, h2, h3, h4⟩ := h
  refine ⟨a, cap, vals, h1, h2, fun h0 => ?_, fun i hi => (h4 i hi).keep hb⟩
  obtain ⟨b, o, e, hm, hc⟩ := h3 h0
  refine ⟨b, o, e, hm, fun i hi => ?_⟩
  exact cell_later hb (hc i hi)
theorem RdM.form {W : World} {v : Value} {R : List (List Int)} (h : RdM W v R) : ∃ a cap, v = .slice a R.length cap := by
  obtain ⟨a, cap, vals, h1, _⟩ := h
  exact ⟨a, cap, h1⟩
/-- one row -/
theorem RdM.row {W : World} {a : Option Addr} {n cap : Nat} {R : List (List Int)} (h : RdM W (.slice a n cap) R) {i : Nat} (hi : i < R.length) : ∃ (b o : Nat) (u : Value), a = some ⟨b, o, none⟩ ∧ W.cell? ⟨b, o + i, none⟩ = some u ∧ Rd W u (R.getD i []) := by
  obtain ⟨a', cap', vals, h1, h2, h3, h4⟩ := h
  simp only [Value.slice.injEq] at h1
  obtain ⟨rfl, _, _⟩ := h1
  obtain ⟨b, o, e, _, hc⟩ := h3 (by omega)
  exact ⟨b, o, _, e, hc i hi, h4 i hi⟩
theorem RdM.len {W : World} {a : Option Addr} {n cap : Nat} {R : List (List Int)} (h : RdM W (.slice a n cap) R) : n = R.length := by
  obtain ⟨a', cap', vals, h1, _⟩ := h
  simp only [Value.slice.injEq] at h1
  exact h1.2.1
theorem rdM_nil (W : World) (a : Option Addr) (cap : Nat) : RdM W (.slice a 0 cap) [] := ⟨a, cap, [], rfl, rfl, fun h => by simp at h, fun i hi => by simp at hi⟩

theorem Owns.at_block {W W' : World} {B : Nat} {v : Value} {xs : List Int} (h : Owns W B v xs) (hb : ∀ g, v.ownBlock = some g → W'.heap[g]? = W.heap[g]?) : Owns W' B v xs := by
  obtain ⟨h1, h2⟩ := h
  refine ⟨h1, ?_⟩
  rcases h2 with h2 | ⟨g, cap, cur, hv, hg, hh, r⟩
  · exact .inl h2
  · exact .inr ⟨g, cap, cur, hv, hg, (hb g (by rw [hv]; rfl)).trans hh, r⟩
/-- a list of lists of one's own: each in a block of its own, none of them in block ex -/
structure OwnM (W : World) (B : Nat) (ex : Option Nat) (v : Value) (R : List (List Int)) : Prop where
  own : ∃ vals : List Value, vals.length = R.length ∧ World.ownsRow W B 22 1 v R.length vals ∧ (∀ k, v.ownBlock = some k → ex ≠ some k) ∧ (∀ i, i < R.length → Owns W B (vals.getD i undef) (R.getD i []) ∧ ∀ k, (vals.getD i undef).ownBlock = some k → v.ownBlock ≠ some k ∧ ex ≠ some k) ∧ ∀ i j k, i < j → j < R.length → (vals.getD i undef).ownBlock = some k → (vals.getD j undef).ownBlock ≠ some k
theorem row_at_block {W W' : World} {B n : Nat} {t : TypeId} {v : Value} {xs : List Value} (h : World.ownsRow W B t 1 v n xs) (hb : ∀ g, v.ownBlock = some g → W'.heap[g]? = W.heap[g]?) : World.ownsRow W' B t 1 v n xs := by
  obtain ⟨h1, h2⟩ := h
  refine ⟨h1, ?_⟩
  rcases h2 with h2 | ⟨g, cap, cur, hv, hg, hh, r⟩
  · exact .inl h2
  · exact .inr ⟨g, cap, cur, hv, hg, (hb g (by rw [hv]; rfl)).trans hh, r⟩
/-- what is said abides where its blocks do -/
theorem OwnM.at_blocks {W W' : World} {B : Nat} {ex : Option Nat} {v : Value} {R : List (List Int)} (h : OwnM W B ex v R) (hb : ∀ g, B ≤ g → g < W.heap.size → ex ≠ some g → W'.heap[g]? = W.heap[g]?) : OwnM W' B ex v R := by
  obtain ⟨vals, hl, ho, hx, hr, hd⟩ := h.own
  refine ⟨vals, hl, row_at_block ho fun g e => ?_, hx, fun i hi => ⟨(hr i hi).1.at_block fun g e => ?_, (hr i hi).2⟩, hd⟩
  · have := World.ownsRow.lt ho g e
    exact hb g this.1 this.2 (hx g e)
  · exact hb g ((hr i hi).1.ge g e) ((hr i hi).1.lt g e) ((hr i hi).2 g e).2
theorem OwnM.keep {W W' : World} {B : Nat} {ex : Option Nat} {v : Value} {R : List (List Int)} (h : OwnM W B ex v R) (hb : Below W.heap.size W W') : OwnM W' B ex v R := h.at_blocks fun g _ hg _ => hb.block g hg
/-- a cell of another block is written -/
theorem OwnM.setLow {W : World} {B : Nat} {ex : Option Nat} {v : Value} {R : List (List Int)} (h : OwnM W B ex v R) {a : Addr} (ha : a.block < B ∨ ex = some a.block) (u : Value) : OwnM (W.setCell a u) B ex v R :=
  h.at_blocks fun g h1 h2 h3 => Below.heap_setCell _ _ _ g (fun e => by subst e; rcases ha with ha | ha; omega; exact h3 ha)
theorem OwnM.free {W : World} {B : Nat} {ex : Option Nat} {v : Value} {R : List (List Int)} (h : OwnM W B ex v R) : OwnM W B none v R := by
  obtain ⟨vals, hl, ho, hx, hr, hd⟩ := h.own
  exact ⟨vals, hl, ho, fun _ _ => by simp, fun i hi => ⟨(hr i hi).1, fun k e => ⟨((hr i hi).2 k e).1, by simp⟩⟩, hd⟩
theorem OwnM.down {W : World} {B C : Nat} {ex : Option Nat} {v : Value} {R : List (List Int)} (h : OwnM W C ex v R) (hb : B ≤ C) : OwnM W B ex v R := by
  obtain ⟨vals, hl, ho, hx, hr, hd⟩ := h.own
  refine ⟨vals, hl, ?_, hx, fun i hi => ⟨(hr i hi).1.down hb, (hr i hi).2⟩, hd⟩
  obtain ⟨h1, h2⟩ := ho
  refine ⟨h1, ?_⟩
  rcases h2 with h2 | ⟨g, cap, cur, hv, hg, r⟩
  · exact .inl h2
  · exact .inr ⟨g, cap, cur, hv, Nat.le_trans hb hg, r⟩
theorem OwnM.lt {W : World} {B : Nat} {ex : Option Nat} {v : Value} {R : List (List Int)} (h : OwnM W B ex v R) : ∀ k, v.ownBlock = some k → B ≤ k ∧ k < W.heap.size ∧ ex ≠ some k := by
  obtain ⟨vals, _, ho, hx, _⟩ := h.own
  exact fun k e => ⟨(World.ownsRow.lt ho k e).1, (World.ownsRow.lt ho k e).2, hx k e⟩
theorem OwnM.rd {W : World} {B : Nat} {ex : Option Nat} {v : Value} {R : List (List Int)} (h : OwnM W B ex v R) : RdM W v R := by
  obtain ⟨vals, hl, ⟨h1, h2⟩, _, hr, _⟩ := h.own
  rcases h2 with ⟨rfl, hn⟩ | ⟨g, cap, cur, rfl, _, hg, hc2, hm, hs, ht⟩
  · have hn : R.length = 0 := hn
    exact ⟨none, 0, vals, by rw [hn], hl, fun h => by omega, fun i hi => by omega⟩
  · refine ⟨some ⟨g, 0, none⟩, cap, vals, rfl, hl, fun _ => ⟨g, 0, rfl, Nat.le_trans hc2 hm, fun i hi => ?_⟩, fun i hi => (hr i hi).1.rd⟩
    have hcur : cur[i]? = some (vals.getD i undef) := by
      rw [← Array.getElem?_toList]
      have hv : vals[i]? = some (vals.getD i undef) := by
        rw [List.getElem?_eq_getElem (by omega)]
        simp [List.getD, List.getElem?_eq_getElem (show i < vals.length by omega)]
      rw [← hv, ← ht, List.getElem?_take_of_lt (by omega)]
    rw [Nat.zero_add, Go.cell_of_row _ _ _ _ _ _ hg, hcur]
theorem ownM_none (W : World) (ex : Option Nat) (he : ex ≠ some W.heap.size) : OwnM (W.alloc (.cells #[] 22)) W.heap.size ex (.slice (some ⟨W.heap.size, 0, none⟩) 0 0) [] :=
  ⟨[], rfl, World.ownsRow_made (size := 1) W #[] 0 (Nat.le_refl _) (by unfold maxLen; omega) rfl, fun k e => (by cases e; exact he), fun i hi => (by cases hi), fun i j k _ hj => (by cases hj)⟩
theorem ownM_nil (W : World) (B : Nat) (ex : Option Nat) : OwnM W B ex (.slice none 0 0) [] := ⟨[], rfl, ⟨by simp, .inl ⟨rfl, rfl⟩⟩, fun k e => (by cases e), fun i hi => (by cases hi), fun i j k _ hj => (by cases hj)⟩
theorem getD_snoc_old {α : Type} (l : List α) (x d : α) {i : Nat} (h : i < l.length) : (l ++ [x]).getD i d = l.getD i d := by
  rw [List.getD_eq_getElem?_getD, List.getD_eq_getElem?_getD, List.getElem?_append_left h]
theorem getD_snoc_new {α : Type} (l : List α) (x d : α) : (l ++ [x]).getD l.length d = x := by
  rw [List.getD_eq_getElem?_getD, List.getElem?_append_right (Nat.le_refl _), Nat.sub_self]; rfl
/-- what an append of one more row asks, and gives -/
structure SnocM (W : World) (B : Nat) (ex : Option Nat) (v : Value) (R : List (List Int)) (zv : Value) (zs : List Int) (vals : List Value) : Prop where
  row : World.ownsRow W B 22 1 v R.length vals
  fin : ∀ (W' : World) (v' : Value) (o : Obj), World.ownsRow W' B 22 1 v' (R.length + 1) (vals ++ [zv]) → (W.alloc o).grownBy W' v.ownBlock → (v'.ownBlock = v.ownBlock ∨ v'.ownBlock = some (W.alloc o).heap.size) → OwnM W' B ex v' (R ++ [zs])
/-- one more row, that was made later than the others -/
theorem ownM_snoc {W0 W : World} {B : Nat} {ex : Option Nat} {v zv : Value} {R : List (List Int)} {zs : List Int} (h : OwnM W0 B ex v R) (hb : Below W0.heap.size W0 W) (hB : B ≤ W0.heap.size) (hz : Owns W W0.heap.size zv zs) (hex : ∀ k, ex = some k → k < W0.heap.size) : ∃ vals, SnocM W B ex v R zv zs vals := by
  obtain ⟨vals, hl, ho, hx, hr, hd⟩ := (h.keep hb).own
  obtain ⟨vals0, hl0, ho0, _, hr0, _⟩ := h.own
  obtain ⟨vals, hl, ho, hx, hr, hd, hlo⟩ : ∃ vals : List Value, vals.length = R.length ∧ World.ownsRow W B 22 1 v R.length vals ∧ (∀ k, v.ownBlock = some k → ex ≠ some k) ∧ (∀ i, i < R.length → Owns W B (vals.getD i undef) (R.getD i []) ∧ ∀ k, (vals.getD i undef).ownBlock = some k → v.ownBlock ≠ some k ∧ ex ≠ some k) ∧ (∀ i j k, i < j → j < R.length → (vals.getD i undef).ownBlock = some k → (vals.getD j undef).ownBlock ≠ some k) ∧ ∀ i k, i < R.length → (vals.getD i undef).ownBlock = some k → k < W0.heap.size := by
    obtain ⟨vals, hl, ho, hx, hr, hd⟩ := h.own
    refine ⟨vals, hl, row_at_block ho fun g e => hb.block g (World.ownsRow.lt ho g e).2, hx, fun i hi => ⟨(hr i hi).1.at_block fun g e => hb.block g ((hr i hi).1.lt g e), (hr i hi).2⟩, hd, fun i k hi e => (hr i hi).1.lt k e⟩
  have hvlt : ∀ k, v.ownBlock = some k → k < W0.heap.size := fun k e => (h.lt k e).2.1
  have hs := hb.size
  refine ⟨vals, ho, fun W' v' o hown hg hat => ?_⟩
  have key : ∀ {x : Value} {ys : List Int}, Owns W B x ys → (∀ k, x.ownBlock = some k → v.ownBlock ≠ some k) → Owns W' B x ys ∧ ∀ k, x.ownBlock = some k → v'.ownBlock ≠ some k := by
    intro x ys hx hne
    refine ⟨hx.at_block fun g e => ?_, fun k e => ?_⟩
    · have hlt := hx.lt g e
      have e1 : W'.heap[g]? = (W.alloc o).heap[g]? := hg.block g (by simp; omega) (fun e2 => hne g e e2.symm)
      exact e1.trans (Below.heap_alloc _ _ _ hlt)
    · rcases hat with h | h
      · rw [h]; exact hne k e
      · rw [h]
        intro e2
        have := hx.lt k e
        simp only [World.size_alloc, Option.some.injEq] at e2
        omega
  have hzge : ∀ k, zv.ownBlock = some k → W0.heap.size ≤ k := fun k e => hz.ge k e
  have hz2 := key (hz.down hB) fun k e e2 => by have := hzge k e; have := hvlt k e2; omega
  refine ⟨vals ++ [zv], by rw [List.length_append, List.length_append, hl]; rfl, by rw [List.length_append]; exact hown, fun k e => ?_, fun i hi => ?_, fun i j k hij hj => ?_⟩
  · rcases hat with h | h
    · rw [h] at e; exact hx k e
    · rw [h] at e
      intro e2
      have := hex k e2
      simp only [World.size_alloc, Option.some.injEq] at e
      omega
  · rw [List.length_append] at hi
    simp only [List.length_cons, List.length_nil] at hi
    by_cases e : i < R.length
    · rw [getD_snoc_old _ _ _ (by omega), getD_snoc_old _ _ _ e]
      have hk := key (hr i e).1 fun k e2 => ((hr i e).2 k e2).1
      exact ⟨hk.1, fun k e2 => ⟨hk.2 k e2, ((hr i e).2 k e2).2⟩⟩
    · obtain rfl : i = R.length := by omega
      rw [getD_snoc_new, ← hl, getD_snoc_new]
      exact ⟨hz2.1, fun k e2 => ⟨hz2.2 k e2, fun e3 => by have := hex k e3; have := hzge k e2; omega⟩⟩
  · rw [List.length_append] at hj
    simp only [List.length_cons, List.length_nil] at hj
    rw [getD_snoc_old _ _ _ (by omega)]
    by_cases e : j < R.length
    · rw [getD_snoc_old _ _ _ (by omega)]
      exact hd i j k hij e
    · obtain rfl : j = R.length := by omega
      rw [show (vals ++ [zv]).getD R.length undef = zv by rw [← hl, getD_snoc_new]]
      intro e2 e3
      have := hlo i k (by omega) e2
      have := hzge k e3
      omega

end Go.Proofs.Ytjabklpnohfjpab
