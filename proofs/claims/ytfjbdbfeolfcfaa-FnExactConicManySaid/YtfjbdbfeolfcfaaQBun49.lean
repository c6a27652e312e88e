/-
  Some texts in one file: LawFm Cm5 Cm6 CpK Zvec1 Vecs RangeV.
-/
import Derived.Test.YtfjbdbfeolfcfaaQDraws13
import Derived.Test.YtfjbdbfeolfcfaaQBun47
import Derived.Test.YtfjbdbfeolfcfaaQBun7
import Derived.Test.YtfjbdbfeolfcfaaQBun17
import Derived.Test.YtfjbdbfeolfcfaaQBun14
import Derived.Deep.QuietTactic
import Derived.DeepKeys4
import Derived.Maps.OwnOps
import Derived.Maps.Views
import Derived.Test.YtfjbdbfeolfcfaaQBun29
import Derived.Maps.OwnSet
import Derived.Test.YtfjbdbfeolfcfaaQOwn2
import Derived.Laws.CopyOwn
import Derived.Laws.OwnMore
import Derived.Deep.OwnRows
import Derived.BigQuiet
import Derived.StillTailTactics
import Derived.Test.YtfjbdbfeolfcfaaQBun0
import Derived.RangeFuncNested
/-! LawFm -/
set_option linter.unusedVariables false
namespace Go.Proofs.Ytfjbdbfeolfcfaa
open Go.RowKit

def MildT (xs : List Int) : Prop := xs.length ≤ 1000 ∧ ∀ x ∈ xs, -1000000 ≤ x ∧ x ≤ 1000000
theorem TermsOk.mild {xs : List Int} (h : TermsOk xs) : MildT xs := ⟨by have := h.1; omega, fun x hx => by have := h.2 x hx; omega⟩
theorem VecGood.mild {m : Nat} {xs : List Int} (h : VecGood m xs) (hm : m ≤ 10) : MildT xs := ⟨by have := h.1; omega, fun x hx => by have := h.2 x hx; omega⟩
theorem MildT.at {xs : List Int} (h : MildT xs) {i : Nat} (hi : i < xs.length) : -1000000 ≤ xs.getD i 0 ∧ xs.getD i 0 ≤ 1000000 := by
  rw [getD_at _ _ hi]; exact h.2 _ (List.getElem_mem _)

set_option maxRecDepth 100000 in
set_option maxHeartbeats 2000000 in
theorem minusOf_any (v : Value) (xs : List Int) (w : World) (h : Rd w v xs) (hf : MildT xs) :
    Calls Try.prog 20 #[v] w fun e w' => ∃ u, e = .returned u ∧ Owns w' w.heap.size u (xs.map (fun x => -x)) ∧ Below w.heap.size w w' := by
  obtain ⟨i0, hi, hz0, hz1, hz2⟩ := info_parts infoInt
  have HB0 := hid ((Below.refl w.heap.size w).alloc (Nat.le_refl _) (.cells #[] 3))
  have HO0 : Hid (Owns (w.alloc (.cells #[] 3)) w.heap.size (.slice (some ⟨w.heap.size, 0, none⟩) 0 0) []) := hid (World.ownsRow_made (size := 1) w #[] 0 (Nat.le_refl _) (by unfold maxLen; omega) rfl)
  have HH := hid h
  obtain ⟨ad, cap, rfl, _⟩ := h.form
  have HF := hid hf
  have hl4 := hf.1
  clear h hf
  go_enter Try.func20, Try.ntmps20
  go_wp2_with fail
  go_loopw [3, 4] (fun so si wr => ∃ K : Nat, si = .int .i64 K ∧ K ≤ xs.length ∧ Hid (Owns wr w.heap.size so ((xs.take K).map (fun x => -x))) ∧ Hid (Below w.heap.size w wr)) (fun _ si _ => xs.length - (intOf si).toNat)
  case atStart => exact ⟨0, rfl, by omega, hid (by simpa using HO0.out), HB0⟩
  case round =>
    obtain ⟨K, rfl, hK, HO, HB⟩ := hrel
    rename World => wr
    by_cases hlt : K < xs.length
    · obtain ⟨a2, cap2, e2, hform⟩ := (HH.out.keep HB.out).form
      cases e2
      obtain ⟨bb, o, rfl, hml, hc⟩ := hform (by omega)
      have hcell := hc K hlt
      have ht := HF.out.at hlt
      obtain ⟨x, hx⟩ : ∃ x, x = xs.getD K 0 := ⟨_, rfl⟩
      rw [← hx] at hcell ht
      have HS : Hid ((xs.take (K + 1)).map (fun x => -x) = (xs.take K).map (fun x => -x) ++ [-x]) := hid (by rw [map_take hlt, hx])
      have hi0 : (K : Int) < (xs.length : Int) := by omega
      have HLT := hid hlt
      obtain ⟨pre, hpre⟩ : ∃ pre, pre = (xs.take K).map (fun x => -x) := ⟨_, rfl⟩
      have hprel : pre.length ≤ 1000 := by rw [hpre, List.length_map, List.length_take]; omega
      rw [← hpre] at HO HS
      have hbs : w.heap.size ≤ wr.heap.size := HB.out.size
      unfold maxLen at hml
      clear hform hc hx hlt hpre
      go_wp2_with (at_builtin; refine wpList_append_own_at _ rfl _ _ 23 rfl w.heap.size 3 i0 (.int .i64 0) 1 8 Try.underlying23 hi hz0 hz1 hz2 rfl (by decide) _ _ _ rfl ((show World.ownsRow _ _ _ _ _ _ _ from HO.out).alloc _) ⟨wr.heap.size, 0, none⟩ 1 1 [.int .i64 (-x)] rfl rfl (cell_one_new _ _ _) (by simp [Value.oneCell']) (by unfold maxLen; omega) (by omega) (by simp; omega) ?_; intro v' w3 hown' hgrow _ hat)
      have hsg := hgrow.size
      simp only [World.size_alloc] at hsg
      go_roundw
      case measure => simp only [intOf]; have := HLT.out; omega
      case rel =>
        refine ⟨K + 1, by go_num, by have := HLT.out; omega, hid ?_, hid (HB.out.alloc hbs _ |>.grown hgrow (by simp; omega) (fun k e => (HO.out.ge k e)))⟩
        rw [HS.out]
        unfold Owns
        simpa using hown'
    · obtain rfl : K = xs.length := by omega
      have HE : Hid (xs.map (fun x => -x) = (xs.take xs.length).map (fun x => -x)) := hid (by rw [List.take_length])
      clear hlt
      go_wp2_with fail
      go_ret
      exact ⟨_, rfl, by rw [HE.out]; exact HO.out, HB.out⟩


end Go.Proofs.Ytfjbdbfeolfcfaa

/-! Cm5 -/
set_option linter.unusedVariables false
namespace Go.Proofs.Ytfjbdbfeolfcfaa
open Go.RowKit

/-- a vector of three integers in a block that is not the list's -/
def RowAt (W : World) (base : Nat) (g : Option Nat) (v : Value) (zs : List Int) : Prop := ∃ b o cap : Nat, v = .slice (some ⟨b, o, none⟩) 3 cap ∧ base ≤ b ∧ b < W.heap.size ∧ g ≠ some b ∧ zs.length = 3 ∧ ∀ j, j < 3 → W.cell? ⟨b, o + j, none⟩ = some (.int .i64 (zs.getD j 0))
/-- a list of such vectors -/
structure Mets (W : World) (base : Nat) (v : Value) (ls : List (List Int)) : Prop where
  own : ∃ vals : List Value, vals.length = ls.length ∧ World.ownsRow W base 23 1 v ls.length vals ∧ ∀ i, i < ls.length → RowAt W base v.ownBlock (vals.getD i undef) (ls.getD i [])
theorem RowAt.keep {W W' : World} {base : Nat} {g : Option Nat} {v : Value} {zs : List Int} (h : RowAt W base g v zs) (hb : Below W.heap.size W W') : RowAt W' base g v zs := by
  obtain ⟨b, o, cap, h1, h2, h3, h4, h5, h6⟩ := h
  exact ⟨b, o, cap, h1, h2, Nat.lt_of_lt_of_le h3 hb.size, h4, h5, fun j hj => (hb.cell (p := ⟨b, o + j, none⟩) h3).trans (h6 j hj)⟩
theorem Mets.len {W : World} {base : Nat} {v : Value} {ls : List (List Int)} (h : Mets W base v ls) : ∃ a cap, v = .slice a ls.length cap ∧ ls.length ≤ maxLen := by
  obtain ⟨vals, _, ⟨_, h2⟩, _⟩ := h.own
  rcases h2 with ⟨rfl, hn⟩ | ⟨g, cap, cur, rfl, _, _, hc, hm, _⟩
  · rw [hn]; exact ⟨none, 0, rfl, Nat.zero_le _⟩
  · exact ⟨_, _, rfl, Nat.le_trans hc hm⟩
theorem Mets.at {W : World} {base : Nat} {v : Value} {ls : List (List Int)} (h : Mets W base v ls) {i : Nat} (hi : i < ls.length) :
    ∃ (g cap : Nat) (b o c : Nat), v = .slice (some ⟨g, 0, none⟩) ls.length cap ∧ W.cell? ⟨g, i, none⟩ = some (.slice (some ⟨b, o, none⟩) 3 c) ∧ (ls.getD i []).length = 3 ∧ ∀ j, j < 3 → W.cell? ⟨b, o + j, none⟩ = some (.int .i64 ((ls.getD i []).getD j 0)) := by
  obtain ⟨vals, hl, ⟨h1, h2⟩, hr⟩ := h.own
  obtain ⟨b, o, c, e, _, _, _, h3, hc⟩ := hr i hi
  rcases h2 with ⟨rfl, hn⟩ | ⟨g, cap, cur, rfl, _, hg, hc2, hm, hs, ht⟩
  · omega
  · refine ⟨g, cap, b, o, c, rfl, ?_, h3, hc⟩
    have hcur : cur[i]? = some (vals.getD i undef) := by
      rw [← Array.getElem?_toList]
      have hv : vals[i]? = some (vals.getD i undef) := by
        rw [List.getElem?_eq_getElem (by omega)]
        simp [List.getD, List.getElem?_eq_getElem (show i < vals.length by omega)]
      rw [← hv, ← ht, List.getElem?_take_of_lt (by omega)]
    rw [Go.cell_of_row _ _ _ _ _ _ hg, hcur, e]
theorem Mets.keep {W W' : World} {base : Nat} {v : Value} {ls : List (List Int)} (h : Mets W base v ls) (hb : Below W.heap.size W W') : Mets W' base v ls := by
  obtain ⟨vals, hl, ⟨h1, h2⟩, hr⟩ := h.own
  refine ⟨vals, hl, ⟨h1, ?_⟩, fun i hi => (hr i hi).keep hb⟩
  rcases h2 with h2 | ⟨g, cap, cur, e, hbg, hg, r⟩
  · exact .inl h2
  · exact .inr ⟨g, cap, cur, e, hbg, (hb.block g (Array.getElem?_eq_some_iff.1 hg).1).trans hg, r⟩
theorem list3_eq {xs ys : List Int} (hx : xs.length = 3) (hy : ys.length = 3) : xs = ys ↔ ∀ j, j < 3 → xs.getD j 0 = ys.getD j 0 := by
  obtain ⟨a, b, c, rfl⟩ := len3 hx
  obtain ⟨d, e, f, rfl⟩ := len3 hy
  constructor
  · intro h; cases h; exact fun _ _ => rfl
  · intro h
    have h0 := h 0 (by omega)
    have h1 := h 1 (by omega)
    have h2 := h 2 (by omega)
    simp only [List.getD_cons_zero, List.getD_cons_succ] at h0 h1 h2
    rw [h0, h1, h2]

set_option maxRecDepth 100000 in
set_option maxHeartbeats 4000000 in
theorem l6kIn_any (base : Nat) (v u : Value) (ls : List (List Int)) (zs : List Int) (w : World) (hv : Mets w base v ls) (hu : Rd w u zs) (hz : zs.length = 3) (hn : zs ∉ ls) (hl : ls.length ≤ 1000) :
    Calls Try.prog 57 #[v, u] w fun e w' => e = .returned (.bool false) ∧ ∃ k, w' = w.drewN k := by
  have HV := hid hv
  have HN := hid hn
  have HZ := hid hz
  obtain ⟨ad, cap, rfl, _⟩ := hv.len
  obtain ⟨au, cu, rfl, hform⟩ := hu.form
  obtain ⟨bu, ou, rfl, _, hcu⟩ := hform (by omega)
  have HCU := hid hcu
  rw [hz]
  clear hv hu hn hform hcu hz
  go_enter Try.func57, Try.ntmps57
  go_wp2_with fail
  go_loopw [5] (fun si wr => ∃ I : Nat, si = .int .i64 I ∧ I ≤ ls.length ∧ Hid (∃ q, wr = w.drewN q)) (fun si _ => ls.length - (intOf si).toNat)
  case atStart => exact ⟨0, rfl, by omega, hid ⟨0, rfl⟩⟩
  case round =>
    obtain ⟨I, rfl, hI, HW⟩ := hrel
    rename World => wq
    by_cases hlt : I < ls.length
    · obtain ⟨g, cap', b, o, c, e, hcell, h3, hrow⟩ := HV.out.at hlt
      cases e
      have HR := hid hrow
      have HC := hid hcell
      have HNE : Hid (ls.getD I [] ≠ zs) := hid (fun e => HN.out (by
        rw [← e, List.getD, List.getElem?_eq_getElem hlt]; exact List.getElem_mem _))
      obtain ⟨r, hr⟩ : ∃ r, r = ls.getD I [] := ⟨_, rfl⟩
      rw [← hr] at HR HNE h3
      have hIi : (I : Int) < (ls.length : Int) := by omega
      have HLT := hid hlt
      have H3 := hid h3
      clear hr hrow hcell hlt h3
      go_wp2_with fail
      go_loopw [6, 7] (fun ss sk wr => ∃ (S : Bool) (K : Nat), ss = .bool S ∧ sk = .int .i64 K ∧ K ≤ 3 ∧ Hid (S = true → ∀ j, j < K → r.getD j 0 = zs.getD j 0) ∧ Hid (∃ q, wr = w.drewN q)) (fun _ sk _ => 3 - (intOf sk).toNat)
      case atStart => exact ⟨true, 0, rfl, rfl, by omega, hid (fun _ j hj => by omega), HW⟩
      case round =>
        obtain ⟨S, K, rfl, rfl, hK, HS, HW2⟩ := hrel
        rename World => wx
        by_cases hlk : K < 3
        · have c1 : wx.cell? ⟨g, I, none⟩ = some (.slice (some ⟨b, o, none⟩) 3 c) := by obtain ⟨q, rfl⟩ := HW2.out; exact HC.out
          have c2 : wx.cell? ⟨b, o + K, none⟩ = some (.int .i64 (r.getD K 0)) := by obtain ⟨q, rfl⟩ := HW2.out; exact HR.out K hlk
          have c3 : wx.cell? ⟨bu, ou + K, none⟩ = some (.int .i64 (zs.getD K 0)) := by obtain ⟨q, rfl⟩ := HW2.out; exact HCU.out K (by have := HZ.out; omega)
          obtain ⟨x, hx⟩ : ∃ x, x = r.getD K 0 := ⟨_, rfl⟩
          obtain ⟨y, hy⟩ : ∃ y, y = zs.getD K 0 := ⟨_, rfl⟩
          rw [← hx] at c2
          rw [← hy] at c3
          have HXE := hid hx
          have HYE := hid hy
          have hKi : (K : Int) < 3 := by omega
          clear hx hy
          cases S with
          | false =>
            go_wp2_with fail
            go_quiet (fail)
            go_wp2_with fail
            go_roundw
            case measure => simp only [intOf]; omega
            case rel => exact ⟨false, K + 1, rfl, by go_num, by omega, hid (fun h => by cases h), hid (by obtain ⟨q, hq⟩ := HW2.out; exact ⟨q + nq, by rw [hq, World.drewN_drewN]⟩)⟩
          | true =>
            by_cases hxy : x = y
            · have T : (x == y) = true := by rw [beq_iff_eq]; exact hxy
              have HXY := hid hxy
              clear hxy
              go_wp2_with fail
              go_quiet (fail)
              go_wp2_with fail
              go_roundw
              case measure => simp only [intOf]; omega
              case rel => exact ⟨true, K + 1, rfl, by go_num, by omega, hid (fun _ j hj => by
                by_cases e : j = K
                · rw [e, ← HXE.out, ← HYE.out]; exact HXY.out
                · exact HS.out (by trivial) j (by omega)), hid (by obtain ⟨q, hq⟩ := HW2.out; exact ⟨q + nq, by rw [hq, World.drewN_drewN]⟩)⟩
            · have T : (x == y) = false := by rw [beq_eq_false_iff_ne]; exact hxy
              clear hxy
              go_wp2_with fail
              go_quiet (fail)
              go_wp2_with fail
              go_roundw
              case measure => simp only [intOf]; omega
              case rel => exact ⟨false, K + 1, rfl, by go_num, by omega, hid (fun h => by cases h), hid (by obtain ⟨q, hq⟩ := HW2.out; exact ⟨q + nq, by rw [hq, World.drewN_drewN]⟩)⟩
        · obtain rfl : K = 3 := by omega
          clear hlk
          cases S with
          | true => exact absurd ((list3_eq H3.out HZ.out).2 (HS.out (by trivial))) HNE.out
          | false =>
            go_wp2_with fail
            go_roundw
            case measure => simp only [intOf]; have := HLT.out; omega
            case rel => exact ⟨I + 1, by go_num, by have := HLT.out; omega, HW2⟩
    · obtain rfl : I = ls.length := by omega
      have hge : ¬ (ls.length : Int) < (ls.length : Int) := by omega
      go_wp2
      go_ret
      exact ⟨rfl, HW.out⟩

end Go.Proofs.Ytfjbdbfeolfcfaa

/-! Cm6 -/
set_option linter.unusedVariables false
namespace Go.Proofs.Ytfjbdbfeolfcfaa
open Go.RowKit

theorem infoSl : (Try.prog.info? 23).map (fun i => (i.zero, i.size, i.bytes)) = some (some (.slice none 0 0), 1, 24) := by kernel_rfl
theorem Mets.snoc {W W' : World} {base : Nat} {v v' zv : Value} {ls : List (List Int)} {zs : List Int} {vals : List Value} {o : Obj} (hl : vals.length = ls.length) (hr : ∀ i, i < ls.length → RowAt W base v.ownBlock (vals.getD i undef) (ls.getD i [])) (hz : RowAt W base v.ownBlock zv zs)
    (hown : World.ownsRow W' base 23 1 v' (ls.length + 1) (vals ++ [zv])) (hg : (W.alloc o).grownBy W' v.ownBlock) (hat : v'.ownBlock = v.ownBlock ∨ v'.ownBlock = some (W.alloc o).heap.size) : Mets W' base v' (ls ++ [zs]) := by
  have key : ∀ {x : Value} {ys : List Int}, RowAt W base v.ownBlock x ys → RowAt W' base v'.ownBlock x ys := by
    rintro x ys ⟨b, p, cap, h1, h2, h3, h4, h5, h6⟩
    have hs := hg.size
    simp only [World.size_alloc] at hs hat
    refine ⟨b, p, cap, h1, h2, by omega, ?_, h5, fun j hj => ?_⟩
    · rcases hat with e | e
      · rw [e]; exact h4
      · rw [e]; intro e2; cases e2; omega
    · have e1 : W'.heap[b]? = (W.alloc o).heap[b]? := hg.block b (by simp; omega) (fun e => h4 e.symm)
      have e2 : (W.alloc o).heap[b]? = W.heap[b]? := Below.heap_alloc _ _ _ h3
      rw [← h6 j hj]
      exact World.cell?_of_block (e1.trans e2)
  refine ⟨vals ++ [zv], by rw [List.length_append, List.length_append, hl]; rfl, ?_, fun i hi => ?_⟩
  · rw [List.length_append]; exact hown
  · rw [List.length_append] at hi
    simp only [List.length_cons, List.length_nil] at hi
    by_cases e : i < ls.length
    · have h := key (hr i e)
      have e1 : (vals ++ [zv]).getD i undef = vals.getD i undef := by simp [List.getD, List.getElem?_append_left (show i < vals.length by omega)]
      have e2 : (ls ++ [zs]).getD i [] = ls.getD i [] := by simp [List.getD, List.getElem?_append_left e]
      rw [e1, e2]; exact h
    · obtain rfl : i = ls.length := by omega
      have h := key hz
      have e1 : (vals ++ [zv]).getD ls.length undef = zv := by rw [← hl]; simp [List.getD]
      have e2 : (ls ++ [zs]).getD ls.length [] = zs := by simp [List.getD]
      rw [e1, e2]; exact h
theorem mets_none (W : World) : Mets (W.alloc (.cells #[] 23)) W.heap.size (.slice (some ⟨W.heap.size, 0, none⟩) 0 0) [] :=
  ⟨[], rfl, World.ownsRow_made (size := 1) W #[] 0 (Nat.le_refl _) (by unfold maxLen; omega) rfl, fun i hi => by cases hi⟩
theorem Mets.lt {W : World} {base : Nat} {v : Value} {ls : List (List Int)} (h : Mets W base v ls) : ∀ k, v.ownBlock = some k → base ≤ k ∧ k < W.heap.size := by
  obtain ⟨vals, _, ho, _⟩ := h.own
  exact fun k e => World.ownsRow.lt ho k e
theorem row_of {W : World} {base B : Nat} {zv : Value} {zs : List Int} {g : Option Nat} (h : Owns W B zv zs) (h3 : zs.length = 3) (hb : base ≤ B) (hg : ∀ k, g = some k → k < B) : RowAt W base g zv zs := by
  obtain ⟨h1, h2⟩ := h
  rcases h2 with ⟨_, e⟩ | ⟨b, cap, cur, rfl, hB, hh, hc, hm, hs, ht⟩
  · rw [h3] at e; cases e
  · rw [h3]
    refine ⟨b, 0, cap, rfl, by omega, (Array.getElem?_eq_some_iff.1 hh).1, fun e => ?_, h3, fun j hj => ?_⟩
    · have := hg b e; omega
    · have hcur : cur[j]? = some (.int .i64 (zs.getD j 0)) := by
        rw [← Array.getElem?_toList]
        have hv : (zs.map (Value.int .i64))[j]? = some (.int .i64 (zs.getD j 0)) := by
          rw [List.getElem?_map, List.getElem?_eq_getElem (by omega)]
          simp [List.getD, List.getElem?_eq_getElem (show j < zs.length by omega)]
        rw [← hv, ← ht, List.getElem?_take_of_lt (by omega)]
      rw [Nat.zero_add, Go.cell_of_row _ _ _ _ _ _ hh, hcur]
theorem otherL_len3 {xs vs ws : List Int} (h : otherOk xs vs ws = true) : (otherL xs vs ws).length = 3 := by
  unfold otherL
  rw [if_pos h, plainL_len]; rfl
set_option maxRecDepth 100000 in
set_option maxHeartbeats 8000000 in
theorem conicManyS_any (vf vv : Value) (xs vs : List Int) (n : Int) (w : World) (hx : Rd w vf xs) (hv : Rd w vv vs) : Calls Try.prog 28 #[vf, vv, .int .i64 n] w fun e w' => e = .returned (.int .i64 (cmanyV xs vs n)) ∧ Below w.heap.size w w' := by
  obtain ⟨i0, hi, hz0, hz1, hz2⟩ := info_parts infoSl
  have HX := hid hx
  have HV := hid hv
  obtain ⟨a, cap, rfl, _⟩ := hx.form
  obtain ⟨a', cap', rfl, _⟩ := hv.form
  clear hx hv
  cases hp : pointB xs vs with
  | false =>
    have HP := hid hp
    have HE : Hid (cmanyV xs vs n = -1) := hid (by unfold cmanyV; rw [hp]; rfl)
    clear hp
    go_enter Try.func28, Try.ntmps28
    go_wp2_with (go_at_call 11; refine (conicPointS_any _ _ xs vs _ HX.out HV.out).mono ?_; rw [HP.out]; rintro e w1 ⟨rfl, hb1⟩)
    go_ret
    exact ⟨retI HE.out.symm, hb1⟩
  | true =>
    have HP := hid hp
    cases hn : inR n 1 5 with
    | false =>
      have HN := hid hn
      have HE : Hid (cmanyV xs vs n = -1) := hid (by unfold cmanyV; rw [hp, hn]; rfl)
      clear hp hn
      go_enter Try.func28, Try.ntmps28
      go_wp2_with (first | (go_at_call 11; refine (conicPointS_any _ _ xs vs _ HX.out HV.out).mono ?_; rw [HP.out]; rintro e w1 ⟨rfl, hb1⟩) | (go_at_call 56; refine (l6In_any _ _ _ _).mono ?_; rw [HN.out]; rintro e w' ⟨rfl, rfl⟩))
      go_ret
      exact ⟨retI HE.out.symm, hb1⟩
    | true =>
      have HN := hid hn
      have hnb := hn
      unfold inR at hnb
      rw [Bool.and_eq_true, decide_eq_true_eq, decide_eq_true_eq] at hnb
      obtain ⟨N, rfl⟩ := Int.eq_ofNat_of_zero_le (show 0 ≤ n by omega)
      have HE : Hid (cmanyV xs vs (N : Int) = (allC (metB xs vs) N (N + 1) : Nat)) := hid (by unfold cmanyV; rw [hp, hn, Int.toNat_natCast]; rfl)
      obtain ⟨E, hE⟩ : ∃ E, E = cmanyV xs vs (N : Int) := ⟨_, rfl⟩
      rw [← hE] at HE ⊢
      have hN1 : (1 : Int) ≤ (N : Int) := hnb.1
      have hN5 : (N : Int) ≤ 5 := hnb.2
      have HNEW := hid (fun S k => allZ_new (f := metB xs vs) (g := metZ xs vs) (metZ_inj xs vs) (n := N) (S := S) (k := k))
      clear hp hn hE hnb
      go_enter Try.func28, Try.ntmps28
      go_wp2_with (first | (go_at_call 11; refine (conicPointS_any _ _ xs vs _ HX.out HV.out).mono ?_; rw [HP.out]; rintro e w1 ⟨rfl, hb1⟩) | (go_at_call 56; refine (l6In_any _ _ _ _).mono ?_; rw [HN.out]; rintro e w' ⟨rfl, rfl⟩))
      have hs1 := hb1.size
      have HM0 := hid (mets_none w1)
      have HB0 := hid (hb1.alloc hb1.size (.cells #[] 23))
      clear hb1
      go_loopw [7, 8] (fun sm ss wr => ∃ (S : Nat) (X : Int), ss = .int .i64 X ∧ X = S ∧ S ≤ N + 1 ∧ Hid (Mets wr w1.heap.size sm (allZ (metB xs vs) (metZ xs vs) N S)) ∧ Hid (Below w.heap.size w wr) ∧ Hid (w1.heap.size ≤ wr.heap.size)) (fun _ ss _ => N + 1 - (intOf ss).toNat)
      case atStart => exact ⟨0, 0, rfl, rfl, by omega, HM0, HB0, hid (by simp)⟩
      case round =>
        obtain ⟨S, X, rfl, hXS, hS, HM, HB, HSZ⟩ := hrel
        rename World => wr
        have HXS := hid hXS
        clear hXS
        have hX0 : 0 ≤ X := by have := HXS.out; omega
        by_cases hlt : X ≤ (N : Int)
        · have hX5 : X ≤ 5 := by omega
          go_wp2_with fail
          go_loopw [7, 9] (fun sm st wr => ∃ (K : Nat) (T : Int), st = .int .i64 T ∧ T = (K : Int) - N ∧ K ≤ 2 * N + 1 ∧ Hid (Mets wr w1.heap.size sm (allZ (metB xs vs) (metZ xs vs) N S ++ rowZ (metB xs vs) (metZ xs vs) (N : Int) (S : Int) K)) ∧ Hid (Below w.heap.size w wr) ∧ Hid (w1.heap.size ≤ wr.heap.size)) (fun _ st _ => (N + 1 - intOf st).toNat)
          case atStart => exact ⟨0, _, rfl, by omega, by omega, hid (by rw [show rowZ (metB xs vs) (metZ xs vs) (N : Int) (S : Int) 0 = [] from rfl, List.append_nil]; exact HM.out), HB, HSZ⟩
          case round =>
            obtain ⟨K, T, rfl, hT, hK, HM2, HB2, HSZ2⟩ := hrel
            rename World => wq
            by_cases hlk : T ≤ (N : Int)
            · have hTb : -5 ≤ T ∧ T ≤ 5 := by omega
              have hXb : 0 ≤ X ∧ X ≤ 5 := by have := HXS.out; omega
              have HK1 : Hid (K + 1 ≤ 2 * N + 1) := hid (by omega)
              have HTK := hid hT
              have HROW : Hid (∀ b : Bool, metB xs vs X T = b → rowZ (metB xs vs) (metZ xs vs) (N : Int) (S : Int) (K + 1) = rowZ (metB xs vs) (metZ xs vs) (N : Int) (S : Int) K ++ (if b then [metZ xs vs X T] else [])) := hid (fun b hb => by
                rw [show rowZ (metB xs vs) (metZ xs vs) (N : Int) (S : Int) (K + 1) = rowZ (metB xs vs) (metZ xs vs) (N : Int) (S : Int) K ++ (if metB xs vs (S : Int) ((K : Int) - N) then [metZ xs vs (S : Int) ((K : Int) - N)] else []) from rfl, ← HTK.out, ← HXS.out, hb])
              have HNO : Hid (metB xs vs X T = false → Hid (∀ (sm : Value) (wz : World), Mets wz w1.heap.size sm (allZ (metB xs vs) (metZ xs vs) N S ++ rowZ (metB xs vs) (metZ xs vs) (N : Int) (S : Int) K) → Mets wz w1.heap.size sm (allZ (metB xs vs) (metZ xs vs) N S ++ rowZ (metB xs vs) (metZ xs vs) (N : Int) (S : Int) (K + 1)))) := hid (fun hb => hid (fun sm wz h => by
                rw [HROW.out _ hb]; simpa using h))
              have HL : Hid ((allZ (metB xs vs) (metZ xs vs) N S ++ rowZ (metB xs vs) (metZ xs vs) (N : Int) (S : Int) K).length ≤ 1000) := hid (by
                rw [List.length_append, allZ_len, rowZ_len]
                have h1 := allC_le (metB xs vs) N S
                have h2 := rowC_le (metB xs vs) (N : Int) (S : Int) K
                have h3 : S * (2 * N + 1) ≤ 6 * 11 := Nat.mul_le_mul (by omega) (by omega)
                omega)
              have HNW : Hid (metB xs vs X T = true → metZ xs vs X T ∉ allZ (metB xs vs) (metZ xs vs) N S ++ rowZ (metB xs vs) (metZ xs vs) (N : Int) (S : Int) K) := hid (fun hb => by
                rw [HTK.out, HXS.out] at hb ⊢
                exact HNEW.out S K hb)
              obtain ⟨LS, hLS⟩ : ∃ LS, LS = allZ (metB xs vs) (metZ xs vs) N S ++ rowZ (metB xs vs) (metZ xs vs) (N : Int) (S : Int) K := ⟨_, rfl⟩
              have HLS := hid hLS
              rw [← hLS] at HM2 HL HNW HNO
              clear hT hLS
              by_cases h00 : X = 0 ∧ T = 0
              · obtain ⟨rfl, rfl⟩ := h00
                have HF := (HNO.out (by unfold metB headB; simp))
                clear HNO HNW
                go_wp2_with fail
                go_roundw
                case measure => simp only [intOf]; omega
                case rel => exact ⟨K + 1, _, rfl, by have := HTK.out; omega, HK1.out, hid (HF.out _ _ HM2.out), HB2, HSZ2⟩
              · have HT0 : Hid (((X == 0) = true → (T == 0) = false)) := hid (fun h => by rw [beq_iff_eq] at h; rw [beq_eq_false_iff_ne]; exact fun e => h00 ⟨h, e⟩)
                have H2S := hid (two_some h00)
                have H2V : Hid (Vec11 [X, T]) := hid (fun v hv => by simp only [List.mem_cons, List.not_mem_nil, or_false] at hv; rcases hv with rfl | rfl <;> omega)
                have HHB : Hid (metB xs vs X T = (plainB [X, T] && otherOk xs vs (headL vs X T))) := hid (by unfold metB headB plainB; rw [decide_eq_false h00]; rfl)
                have HLIT : Hid (Rd (wq.alloc (.cells #[.int .i64 X, .int .i64 T] 3)) (.slice (some ⟨wq.heap.size, 0, none⟩) 2 2) [X, T]) := hid (owns_lit (B := wq.heap.size) [X, T] _ rfl (Nat.le_refl _) (by unfold maxLen; simp)).rd
                cases h1 : plainB [X, T] with
                | false =>
                  have HF := (HNO.out (by rw [HHB.out, h1]; rfl))
                  have HP1 := hid h1
                  clear h1 HNO HNW HHB
                  have step : ∀ wp : World, Below wq.heap.size wq wp → Below w.heap.size w wp := fun wp h => HB2.out.trans (h.mono HB2.out.size)
                  by_cases x0 : X = 0
                  · have T1 : (X == 0) = true := by rw [beq_iff_eq]; exact x0
                    have T2 := HT0.out T1
                    clear x0
                    go_wp2_with fail
                    refine (l6kPlain_any _ [X, T] _ HLIT.out (by simp) H2V.out H2S.out).mono ?_
                    rw [HP1.out]
                    rintro e wp ⟨rfl, hbp⟩
                    go_wp2_with fail
                    go_roundw
                    case measure =>
                      simp only [intOf]
                      omega
                    case rel =>
                      have hbq := (below_box2 wq (.cells #[.int .i64 X, .int .i64 T] 3)).trans (hbp.mono (by simp))
                      exact ⟨K + 1, _, rfl, by have := HTK.out; omega, HK1.out, hid (HF.out _ _ (HM2.out.keep hbq)), hid (step _ hbq), hid (Nat.le_trans HSZ2.out hbq.size)⟩
                  · have T1 : (X == 0) = false := by rw [beq_eq_false_iff_ne]; exact x0
                    clear x0
                    go_wp2_with fail
                    refine (l6kPlain_any _ [X, T] _ HLIT.out (by simp) H2V.out H2S.out).mono ?_
                    rw [HP1.out]
                    rintro e wp ⟨rfl, hbp⟩
                    go_wp2_with fail
                    go_roundw
                    case measure =>
                      simp only [intOf]
                      omega
                    case rel =>
                      have hbq := (below_box2 wq (.cells #[.int .i64 X, .int .i64 T] 3)).trans (hbp.mono (by simp))
                      exact ⟨K + 1, _, rfl, by have := HTK.out; omega, HK1.out, hid (HF.out _ _ (HM2.out.keep hbq)), hid (step _ hbq), hid (Nat.le_trans HSZ2.out hbq.size)⟩
                | true =>
                  have HP1 := hid h1
                  cases h2 : otherOk xs vs (headL vs X T) with
                  | false =>
                    have HF := (HNO.out (by rw [HHB.out, h1, h2]; rfl))
                    have HP2 := hid h2
                    clear h1 h2 HNO HNW HHB
                    by_cases x0 : X = 0
                    · have T1 : (X == 0) = true := by rw [beq_iff_eq]; exact x0
                      have T2 := HT0.out T1
                      clear x0
                      go_wp2_with fail
                      refine (l6kPlain_any _ [X, T] _ HLIT.out (by simp) H2V.out H2S.out).mono ?_
                      rw [HP1.out]
                      rintro e wp ⟨rfl, hbp⟩
                      have hbq := (below_box2 wq (.cells #[.int .i64 X, .int .i64 T] 3)).trans (hbp.mono (by simp))
                      have HBP := hid (HB2.out.trans (hbq.mono HB2.out.size))
                      go_wp2_with fail
                      refine (conicAtS_any _ _ xs vs X T _ (HX.out.keep HBP.out) (HV.out.keep HBP.out)).mono ?_
                      unfold OtherPost
                      rw [HP2.out]
                      rintro e wz ⟨z, rfl, hz, hbz⟩
                      go_wp2_with fail
                      go_roundw
                      case measure =>
                        simp only [intOf]
                        omega
                      case rel =>
                        exact ⟨K + 1, _, rfl, by have := HTK.out; omega, HK1.out, hid (HF.out _ _ ((HM2.out.keep hbq).keep hbz)), hid (HBP.out.trans (hbz.mono HBP.out.size)), hid (Nat.le_trans HSZ2.out (Nat.le_trans hbq.size hbz.size))⟩
                    · have T1 : (X == 0) = false := by rw [beq_eq_false_iff_ne]; exact x0
                      clear x0
                      go_wp2_with fail
                      refine (l6kPlain_any _ [X, T] _ HLIT.out (by simp) H2V.out H2S.out).mono ?_
                      rw [HP1.out]
                      rintro e wp ⟨rfl, hbp⟩
                      have hbq := (below_box2 wq (.cells #[.int .i64 X, .int .i64 T] 3)).trans (hbp.mono (by simp))
                      have HBP := hid (HB2.out.trans (hbq.mono HB2.out.size))
                      go_wp2_with fail
                      refine (conicAtS_any _ _ xs vs X T _ (HX.out.keep HBP.out) (HV.out.keep HBP.out)).mono ?_
                      unfold OtherPost
                      rw [HP2.out]
                      rintro e wz ⟨z, rfl, hz, hbz⟩
                      go_wp2_with fail
                      go_roundw
                      case measure =>
                        simp only [intOf]
                        omega
                      case rel =>
                        exact ⟨K + 1, _, rfl, by have := HTK.out; omega, HK1.out, hid (HF.out _ _ ((HM2.out.keep hbq).keep hbz)), hid (HBP.out.trans (hbz.mono HBP.out.size)), hid (Nat.le_trans HSZ2.out (Nat.le_trans hbq.size hbz.size))⟩
                  | true =>
                    have HT9 : Hid (metB xs vs X T = true) := hid (by rw [HHB.out, h1, h2]; rfl)
                    have HP2 := hid h2
                    have HROW1 := hid (HROW.out _ HT9.out)
                    have HNWZ : Hid (otherL xs vs (headL vs X T) ∉ LS) := hid (HNW.out HT9.out)
                    have HS1 := hid hs1
                    have HLT9 : Hid (w1.heap.size ≤ wq.heap.size) := hid HSZ2.out
                    clear h1 h2 HNO HHB HNW
                    by_cases x0 : X = 0
                    · have T1 : (X == 0) = true := by rw [beq_iff_eq]; exact x0
                      have T2 := HT0.out T1
                      clear x0
                      go_wp2_with fail
                      refine (l6kPlain_any _ [X, T] _ HLIT.out (by simp) H2V.out H2S.out).mono ?_
                      rw [HP1.out]
                      rintro e wp ⟨rfl, hbp⟩
                      have hbq := (below_box2 wq (.cells #[.int .i64 X, .int .i64 T] 3)).trans (hbp.mono (by simp))
                      have HBP := hid (HB2.out.trans (hbq.mono HB2.out.size))
                      go_wp2_with fail
                      refine (conicAtS_any _ _ xs vs X T _ (HX.out.keep HBP.out) (HV.out.keep HBP.out)).mono ?_
                      unfold OtherPost
                      rw [HP2.out]
                      rintro e wz ⟨z, rfl, hz, hbz⟩
                      have HBZ := hid (HBP.out.trans (hbz.mono HBP.out.size))
                      have HMZ := hid ((HM2.out.keep hbq).keep hbz)
                      have hzl : (otherL xs vs (headL vs X T)).length = 3 := otherL_len3 HP2.out
                      have hsq := hbq.size
                      have hsz := hbz.size
                      have HZR := hid hz.rd
                      have HROWZ := hid (row_of (base := w1.heap.size) (g := Value.ownBlock _) hz hzl (by have := HLT9.out; omega) (fun k e => Nat.lt_of_lt_of_le (HM2.out.lt k e).2 hsq))
                      clear hz hbz hbp hbq
                      go_wp2_with fail
                      refine (l6kIn_any w1.heap.size _ _ LS _ _ HMZ.out HZR.out hzl HNWZ.out HL.out).mono ?_
                      rintro e wi ⟨rfl, ki, rfl⟩
                      obtain ⟨vals, hvl, hown, hrows⟩ := HMZ.out.own
                      have HOWN := hid hown
                      have HVL := hid hvl
                      have HROWS := hid hrows
                      have hr9 := HROWZ.out
                      obtain ⟨bz, oz, cz, rfl, _, _, _, _, _⟩ := hr9
                      have hlsl := HL.out
                      have hs9 := HBZ.out.size
                      have hw1 := HLT9.out
                      clear hvl hown hrows hzl
                      go_wp2_with (at_builtin; refine wpList_append_own_at _ rfl _ _ 75 rfl w1.heap.size 23 i0 (.slice none 0 0) 1 24 Try.underlying75 hi hz0 hz1 hz2 rfl (by decide) _ _ _ rfl ((show World.ownsRow (wz.drewN ki) _ _ _ _ _ _ from HOWN.out).alloc _) ⟨wz.heap.size, 0, none⟩ 1 1 [.slice (some ⟨bz, oz, none⟩) 3 cz] rfl rfl (cell_one_new _ _ _) (by simp [Value.oneCell']) (by unfold maxLen; omega) (by omega) (by simp; omega) ?_; intro v' w3 hown' hgrow _ hat)
                      go_roundw
                      case measure =>
                        simp only [intOf]
                        omega
                      case rel =>
                        have hm := Mets.snoc (W := wz.drewN ki) HVL.out HROWS.out HROWZ.out hown' hgrow hat
                        refine ⟨K + 1, _, rfl, by have := HTK.out; omega, HK1.out, hid ?_, hid ?_, hid (by have := hgrow.size; simp at this; omega)⟩
                        · rw [HROW1.out, ← List.append_assoc, ← HLS.out]
                          exact hm
                        · exact ((below_drewN HBZ.out ki).alloc (below_drewN HBZ.out ki).size _).grown hgrow (by simp; omega) (fun k e => Nat.le_trans HS1.out (HMZ.out.lt k e).1)
                    · have T1 : (X == 0) = false := by rw [beq_eq_false_iff_ne]; exact x0
                      clear x0
                      go_wp2_with fail
                      refine (l6kPlain_any _ [X, T] _ HLIT.out (by simp) H2V.out H2S.out).mono ?_
                      rw [HP1.out]
                      rintro e wp ⟨rfl, hbp⟩
                      have hbq := (below_box2 wq (.cells #[.int .i64 X, .int .i64 T] 3)).trans (hbp.mono (by simp))
                      have HBP := hid (HB2.out.trans (hbq.mono HB2.out.size))
                      go_wp2_with fail
                      refine (conicAtS_any _ _ xs vs X T _ (HX.out.keep HBP.out) (HV.out.keep HBP.out)).mono ?_
                      unfold OtherPost
                      rw [HP2.out]
                      rintro e wz ⟨z, rfl, hz, hbz⟩
                      have HBZ := hid (HBP.out.trans (hbz.mono HBP.out.size))
                      have HMZ := hid ((HM2.out.keep hbq).keep hbz)
                      have hzl : (otherL xs vs (headL vs X T)).length = 3 := otherL_len3 HP2.out
                      have hsq := hbq.size
                      have hsz := hbz.size
                      have HZR := hid hz.rd
                      have HROWZ := hid (row_of (base := w1.heap.size) (g := Value.ownBlock _) hz hzl (by have := HLT9.out; omega) (fun k e => Nat.lt_of_lt_of_le (HM2.out.lt k e).2 hsq))
                      clear hz hbz hbp hbq
                      go_wp2_with fail
                      refine (l6kIn_any w1.heap.size _ _ LS _ _ HMZ.out HZR.out hzl HNWZ.out HL.out).mono ?_
                      rintro e wi ⟨rfl, ki, rfl⟩
                      obtain ⟨vals, hvl, hown, hrows⟩ := HMZ.out.own
                      have HOWN := hid hown
                      have HVL := hid hvl
                      have HROWS := hid hrows
                      have hr9 := HROWZ.out
                      obtain ⟨bz, oz, cz, rfl, _, _, _, _, _⟩ := hr9
                      have hlsl := HL.out
                      have hs9 := HBZ.out.size
                      have hw1 := HLT9.out
                      clear hvl hown hrows hzl
                      go_wp2_with (at_builtin; refine wpList_append_own_at _ rfl _ _ 75 rfl w1.heap.size 23 i0 (.slice none 0 0) 1 24 Try.underlying75 hi hz0 hz1 hz2 rfl (by decide) _ _ _ rfl ((show World.ownsRow (wz.drewN ki) _ _ _ _ _ _ from HOWN.out).alloc _) ⟨wz.heap.size, 0, none⟩ 1 1 [.slice (some ⟨bz, oz, none⟩) 3 cz] rfl rfl (cell_one_new _ _ _) (by simp [Value.oneCell']) (by unfold maxLen; omega) (by omega) (by simp; omega) ?_; intro v' w3 hown' hgrow _ hat)
                      go_roundw
                      case measure =>
                        simp only [intOf]
                        omega
                      case rel =>
                        have hm := Mets.snoc (W := wz.drewN ki) HVL.out HROWS.out HROWZ.out hown' hgrow hat
                        refine ⟨K + 1, _, rfl, by have := HTK.out; omega, HK1.out, hid ?_, hid ?_, hid (by have := hgrow.size; simp at this; omega)⟩
                        · rw [HROW1.out, ← List.append_assoc, ← HLS.out]
                          exact hm
                        · exact ((below_drewN HBZ.out ki).alloc (below_drewN HBZ.out ki).size _).grown hgrow (by simp; omega) (fun k e => Nat.le_trans HS1.out (HMZ.out.lt k e).1)
            · have hKN : K = 2 * N + 1 := by omega
              go_wp2_with fail
              go_roundw
              case measure => simp only [intOf]; have := HXS.out; omega
              case rel => exact ⟨S + 1, _, rfl, by have := HXS.out; push_cast; omega, by have := HXS.out; omega, hid (by rw [hKN] at HM2; exact HM2.out), HB2, HSZ2⟩
        · have hSN : S = N + 1 := by have := HXS.out; omega
          obtain ⟨am, cm, rfl, _⟩ := HM.out.len
          have HEL : Hid (((allZ (metB xs vs) (metZ xs vs) N S).length : Int) = E) := hid (by rw [hSN, allZ_len, HE.out])
          clear hSN
          go_wp2_with fail
          go_ret
          exact ⟨retI HEL.out, HB.out⟩

end Go.Proofs.Ytfjbdbfeolfcfaa

/-! CpK -/
set_option linter.unusedVariables false
namespace Go.Proofs.Ytfjbdbfeolfcfaa
open Go.RowKit

theorem ptLaid : laidOutB Try.prog = true := by kernel_rfl
theorem ptWide : (match Try.prog.underlying 72 with | some (.array _ _) | some (.struct _) => true | _ => false) = true := by rw [Try.underlying72]
theorem ptRow : (72 : TypeId) < Try.prog.types.size := of_decide_eq_true (by kernel_rfl)
set_option maxRecDepth 100000 in
theorem ptKeyed : Maps.Keyed Try.prog 72 := Maps.Keyed.of_law (deep_law_laid ptLaid (m := 3) (by omega) ptRow (by kernel_rfl) ptWide)
theorem ptKT : Try.prog.keyType 72 = true := by kernel_rfl
theorem ptCells : Try.prog.cellsOf 72 = 3 := by kernel_rfl
theorem hdCells : Try.prog.cellsOf 56 = 2 := by kernel_rfl
theorem inCells : Try.prog.cellsOf 3 = 1 := by kernel_rfl
theorem wf_mild {u : Int} (h1 : -1000000 ≤ u) (h2 : u ≤ 1000000) : (Lit.int .i64 u).wf = true := by simp [Lit.wf, IntKind.min, IntKind.max, IntKind.signed, IntKind.bits]; omega
def keyP (a b c : Int) : Lit := .string (keyBytes [.int .i64 a, .int .i64 b, .int .i64 c])
theorem ptLits (a b c : Int) (ha : (Lit.int .i64 a).wf = true) (hb : (Lit.int .i64 b).wf = true) (hc : (Lit.int .i64 c).wf = true) (m : Nat) : Try.prog.keyLits (m + 1 + 1 + 1) 72 [.int .i64 a, .int .i64 b, .int .i64 c] = some [.int .i64 a, .int .i64 b, .int .i64 c] := by
  unfold Program.keyLits
  simp only [Try.underlying72]
  rw [if_pos ⟨by rw [ptCells]; rfl, by simp⟩]
  simp only [List.mapM_cons, List.mapM_nil]
  simp [Program.keyLits, Try.underlying56, Try.underlying3, ha, hb, hc, hdCells, inCells]
theorem ptSize : ∃ m, Try.prog.types.size = m + 2 := ⟨Try.prog.types.size - 2, by have : 2 ≤ Try.prog.types.size := of_decide_eq_true (by kernel_rfl); omega⟩
theorem key_pt (a b c : Int) (ha : (Lit.int .i64 a).wf = true) (hb : (Lit.int .i64 b).wf = true) (hc : (Lit.int .i64 c).wf = true) : keyOf Try.prog 72 (.agg #[.int .i64 a, .int .i64 b, .int .i64 c]) = some (keyP a b c) := by
  obtain ⟨m, hm⟩ := ptSize
  unfold keyOf keyP
  simp only [Try.underlying72]
  rw [if_pos (by rw [ptKT]; simp [Value.formed, Try.underlying72, ptCells]), hm]
  simp only [Value.cells]
  rw [ptLits _ _ _ ha hb hc]
  rfl
theorem keyP_inj {a b c a' b' c' : Int} (h1 : (Lit.int .i64 a).wf = true ∧ (Lit.int .i64 b).wf = true ∧ (Lit.int .i64 c).wf = true) (h2 : (Lit.int .i64 a').wf = true ∧ (Lit.int .i64 b').wf = true ∧ (Lit.int .i64 c').wf = true) (h : keyP a b c = keyP a' b' c') : a = a' ∧ b = b' ∧ c = c' := by
  have k1 := key_pt a b c h1.1 h1.2.1 h1.2.2
  have k2 := key_pt a' b' c' h2.1 h2.2.1 h2.2.2
  rw [← h] at k2
  have e := ptKeyed.inj k1 k2
  simpa using e

end Go.Proofs.Ytfjbdbfeolfcfaa

/-! Zvec1 -/
set_option linter.unusedVariables false
namespace Go.Proofs.Ytfjbdbfeolfcfaa
open Go.RowKit

set_option maxRecDepth 100000 in
set_option maxHeartbeats 2000000 in
theorem mul64_any (c : Nat) (h1 : 1 ≤ c) (h4 : c ≤ 4) (w : World) : Calls Try.prog 84 #[.int .u64 1, .int .u64 (c : Int)] w fun e w' => e = .returned (.tuple #[.int .u64 0, .int .u64 (c : Int)]) ∧ w = w' := by
  have hc : c = 1 ∨ c = 2 ∨ c = 3 ∨ c = 4 := by omega
  rcases hc with rfl | rfl | rfl | rfl
  all_goals (
    go_enter Try.func84, Try.ntmps84
    go_wp2
    go_ret2
    exact ⟨rfl, rfl⟩)

set_option maxRecDepth 100000 in
set_option maxHeartbeats 2000000 in
theorem mul_any (c : Nat) (h1 : 1 ≤ c) (h4 : c ≤ 4) (w : World) : Calls Try.prog 80 #[.int .u64 1, .int .u64 (c : Int)] w fun e w' => e = .returned (.tuple #[.int .u64 0, .int .u64 (c : Int)]) ∧ w = w' := by
  have HM := hid (fun w => mul64_any c h1 h4 w)
  go_enter Try.func80, Try.ntmps80
  go_wp2_with (go_at_call 84; refine (HM.out _).mono ?_; rintro e w' ⟨rfl, rfl⟩)
  go_ret2
  exact ⟨rfl, rfl⟩

theorem rd_one9 {w : World} {v : Value} {x : Int} (h : Rd w v [x]) : ∃ g o cap, v = .slice (some ⟨g, o, none⟩) 1 cap ∧ w.cell? ⟨g, o, none⟩ = some (.int .i64 x) := by
  obtain ⟨ad, cap, rfl, hform⟩ := h.form
  obtain ⟨g, o, rfl, _, hc⟩ := hform (by simp)
  exact ⟨g, o, cap, rfl, hc 0 (by simp)⟩

theorem made_row (c : Nat) (h1 : 1 ≤ c) (h4 : c ≤ 4) : (madeCells #[.int .i64 0] c : Array Value) = (List.replicate c (.int .i64 0) : List Value).toArray := by
  exact Array.toList_inj.1 (toList_madeCells_one _ _)
theorem one_at {w : World} {a : Addr} {x : Int} (h : w.cell? a = some (.int .i64 x)) : ∀ (j : Nat) (v : Value), [Value.int .i64 x][j]? = some v → w.cell? (a.add j) = some v := by
  intro j v hj
  match j with
  | 0 => simp at hj; subst hj; simpa [Addr.add] using h
  | j + 1 => simp at hj
def rowR (x : Int) (c K : Nat) : List Value := List.replicate K (.int .i64 x) ++ List.replicate (c - K) (.int .i64 0)
theorem rowR_len (x : Int) {c K : Nat} (h : K ≤ c) : (rowR x c K).length = c := by unfold rowR; rw [List.length_append, List.length_replicate, List.length_replicate]; omega
theorem rowR_splice (x : Int) {c K : Nat} (h : K ≤ c) (m : Nat) (hm : K + m ≤ c) : splice (rowR x c K) K (List.replicate m (.int .i64 x)) = rowR x c (K + m) := by
  unfold splice rowR
  rw [List.take_append_of_le_length (by simp), List.take_of_length_le (by simp), List.length_replicate, List.drop_append, List.drop_eq_nil_of_le (by simp), List.nil_append, List.length_replicate, List.drop_replicate, ← List.append_assoc, List.replicate_append_replicate]
  congr 2
  omega
theorem rowR_at (x : Int) {c K j : Nat} (h : j < K) : (rowR x c K)[j]? = some (.int .i64 x) := by
  unfold rowR
  rw [List.getElem?_append_left (by simpa using h), List.getElem?_replicate, if_pos h]
theorem rowR_full (x : Int) (c : Nat) : rowR x c c = (List.replicate c x).map (Value.int .i64) := by
  unfold rowR; rw [Nat.sub_self]; simp

theorem owns_row {W : World} {B g c : Nat} {xs : List Int} (h : W.heap[g]? = some (.cells ((xs).map (Value.int .i64)).toArray 3 (0, 0))) (hB : B ≤ g) (hl : xs.length = c) (hm : c ≤ maxLen) : Owns W B (.slice (some ⟨g, 0, none⟩) c c) xs := by
  subst hl
  refine ⟨by simp, .inr ⟨g, xs.length, _, rfl, hB, h, Nat.le_refl _, hm, by simp, ?_⟩⟩
  rw [List.take_of_length_le (by simp)]

theorem copy_run (wd : World) (g dLen dCap sLen sCap : Nat) (rk : List Value) (hg : wd.heap[g]? = some (.cells rk.toArray 3 (0, 0))) (cs : List Value) {m : Nat} (hl : cs.length = m) (hsrc : ∀ (j : Nat) (v : Value), cs[j]? = some v → wd.cell? ((⟨g, 0, none⟩ : Addr).add j) = some v) {K : Nat} (hfit : K + m ≤ rk.length) (hm : m = min sLen dLen) (h1 : ∀ v ∈ cs, v.oneCell' = true) (hsz : (Try.prog.info? 3).map (·.size) = some 1) :
    (Builtin.copy_ #[23, 23] 3 #[.slice (some ⟨g, K, none⟩) dLen dCap, .slice (some ⟨g, 0, none⟩) sLen sCap]).run Try.prog wd = .ok (goInt m) (wd.setRow g (splice rk K cs).toArray) := by
  have h := run_copy_row (P := Try.prog) wd 23 23 3 3 g K dLen dCap ⟨g, 0, none⟩ sLen sCap rk.toArray 3 cs Try.underlying23 hsz hg (by rw [hl, hm]) hsrc (by simpa [hl] using hfit) h1
  rw [hl] at h
  rw [h]
  unfold splice
  simp [hl]
theorem copy_below {w wd : World} {g : Nat} {rk : List Value} (hb : Below g w wd) (hg : wd.heap[g]? = some (.cells rk.toArray 3 (0, 0))) (l : List Value) : Below g w (wd.setRow g l.toArray) ∧ (wd.setRow g l.toArray).heap[g]? = some (.cells l.toArray 3 (0, 0)) :=
  ⟨below_setRow hb (Nat.le_refl _) _, setRow_heap wd g _ _ 3 _ hg⟩

set_option maxRecDepth 100000 in
set_option maxHeartbeats 400000 in
theorem repeat_any (a : Value) (x : Int) (c : Nat) (h1 : 1 ≤ c) (h4 : c ≤ 4) (w : World) (h : Rd w a [x]) :
    Calls Try.prog 74 #[a, .int .i64 (c : Int)] w fun e w' => e = .returned (.slice (some ⟨w.heap.size, 0, none⟩) c c) ∧ Owns w' w.heap.size (.slice (some ⟨w.heap.size, 0, none⟩) c c) (List.replicate c x) ∧ Below w.heap.size w w' := by
  obtain ⟨i0, hi, hz0, hz1, hz2⟩ := info_parts infoInt
  obtain ⟨g, o, cap, rfl, hcell⟩ := rd_one9 h
  have hg : g < w.heap.size := by
    obtain ⟨ob, ho, _⟩ := cells_of_cell hcell
    exact (Array.getElem?_eq_some_iff.1 ho).1
  have HM := hid (fun w => mul_any c h1 h4 w)
  have HB := hid ((Below.refl w.heap.size w).alloc (Nat.le_refl _) (.cells (rowR x c 0).toArray 3))
  have HR : Hid (((w.alloc (.cells (rowR x c 0).toArray 3))).heap[w.heap.size]? = some (.cells (rowR x c 0).toArray 3 (0, 0))) := hid (World.alloc_heap_new w _)
  have HC : Hid ((w.alloc (.cells (rowR x c 0).toArray 3)).cell? ⟨g, o, none⟩ = some (.int .i64 x)) := hid ((HB.out.cell (p := ⟨g, o, none⟩) hg).trans hcell)
  have HMR : Hid ((madeCells #[.int .i64 0] c : Array Value) = (rowR x c 0).toArray) := hid (made_row c h1 h4)
  clear h
  go_enter Try.func74, Try.ntmps74
  have wr2 : IntKind.i64.wrap 2 = 2 := by decide
  have wr3 : IntKind.i64.wrap 3 = 3 := by decide
  have wr4 : IntKind.i64.wrap 4 = 4 := by decide
  have HSZ : (i0 |> fun i => (Try.prog.info? 3).map (·.size)) = some 1 := by rw [hi]; simp [hz1]
  go_wp2_with (first | (go_at_call 80; refine (HM.out _).mono ?_; rintro e w' ⟨rfl, rfl⟩) | (at_make; refine wpList_make_row _ rfl _ _ 23 rfl 3 i0 (.int .i64 0) Try.underlying23 hi hz0 hz1 rfl .i64 .i64 c rfl rfl (by rw [hz2]; omega) (by omega) ?_; rw [HMR.out]) | (with_reducible refine wpList_copy_splice (o := ⟨some 33, _, _, _, _, _⟩) rfl _ _ 23 23 rfl 3 Try.underlying23 HSZ _ _ _ _ _ _ rfl rfl w.heap.size 0 (rowR x c 0) 3 HR.out [.int .i64 x] (show 1 = min 1 c by omega) (fun _ => ⟨rfl, _, rfl, one_at HC.out⟩) (by rw [rowR_len x (Nat.zero_le _)]; simp; omega) (by simp [Value.oneCell']) w.heap.size w HB.out (Nat.le_refl _) ?_; intro w2 HR2 hb2))
  have hs2 := hb2.size
  have HCW : Hid (∀ wx : World, Below w.heap.size w wx → wx.heap[w.heap.size]? = some (.cells (rowR x c c).toArray 3 (0, 0)) → Owns wx w.heap.size (.slice (some ⟨w.heap.size, 0, none⟩) c c) (List.replicate c x)) := hid (fun wx hb hh => by
    rw [rowR_full] at hh
    exact owns_row hh (Nat.le_refl _) (List.length_replicate ..) (by unfold maxLen; omega))
  have HR3 : Hid (w2.heap[w.heap.size]? = some (.cells (rowR x c 1).toArray 3 (0, 0))) := hid (by
    have h := HR2.out
    rw [show [Value.int .i64 x] = List.replicate 1 (Value.int .i64 x) from rfl, rowR_splice x (Nat.zero_le _) 1 (by omega)] at h
    exact h)
  have HB2 := hid hb2
  clear HR2 hb2 HM HMR HB HR HC hcell hg
  go_loopw [8] (fun si wr => ∃ K : Nat, si = .int .i64 K ∧ 1 ≤ K ∧ K ≤ c ∧ Hid (wr.heap[w.heap.size]? = some (.cells (rowR x c K).toArray 3 (0, 0))) ∧ Hid (Below w.heap.size w wr)) (fun si _ => 10 - (intOf si).toNat)
  case atStart => exact ⟨1, rfl, by omega, h1, HR3, HB2⟩
  case round =>
    obtain ⟨K, rfl, hK1, hKc, HRr, HBr⟩ := hrel
    rename World => wr
    by_cases hlt : K < c
    · obtain ⟨m, hm⟩ : ∃ m, m = min K (c - K) := ⟨_, rfl⟩
      have hm1 : 1 ≤ m := by omega
      have hmK : K + m ≤ c := by omega
      have HM2 := hid hm
      obtain ⟨cs, hcs⟩ : ∃ cs, cs = List.replicate m (Value.int .i64 x) := ⟨_, rfl⟩
      obtain ⟨rk, hrk⟩ : ∃ rk, rk = rowR x c K := ⟨_, rfl⟩
      have HSP : Hid (splice rk K cs = rowR x c (K + m)) := hid (by rw [hrk, hcs]; exact rowR_splice x hKc m hmK)
      have HCL : Hid (cs.length = m) := hid (by rw [hcs, List.length_replicate])
      have HRL : Hid (rk.length = c) := hid (by rw [hrk]; exact rowR_len x hKc)
      have HC1 : Hid (∀ v ∈ cs, v.oneCell' = true) := hid (by intro v hv; rw [hcs] at hv; rw [List.eq_of_mem_replicate hv]; rfl)
      rw [← hrk] at HRr
      have HBD : Hid (Below w.heap.size w wr.drew) := hid ⟨HBr.out.os, HBr.out.tape, HBr.out.output, HBr.out.size, HBr.out.block⟩
      have HRD : Hid (wr.drew.heap[w.heap.size]? = some (.cells rk.toArray 3 (0, 0))) := hid HRr.out
      have HCD : Hid (∀ (j : Nat) (v : Value), cs[j]? = some v → wr.drew.cell? ((⟨w.heap.size, 0, none⟩ : Addr).add j) = some v) := hid (fun j v hj => by
        rw [hcs, List.getElem?_replicate] at hj
        by_cases hjm : j < m
        · rw [if_pos hjm] at hj
          cases hj
          have h := rowR_at x (c := c) (show j < K by omega)
          have e : wr.drew.cell? ⟨w.heap.size, j, none⟩ = rk.toArray[j]? := Go.cell_of_row _ _ _ _ _ _ HRD.out
          have e2 : ((⟨w.heap.size, 0, none⟩ : Addr).add j) = ⟨w.heap.size, j, none⟩ := by
            by_cases h0 : j = 0
            · subst h0; simp [Addr.add]
            · simp [Addr.add, h0]
          rw [e2, e, hrk]
          simpa using h
        · rw [if_neg hjm] at hj; cases hj)
      clear hcs hrk
      have hcK : (c = 2 ∧ K = 1 ∧ m = 1) ∨ (c = 3 ∧ K = 1 ∧ m = 1) ∨ (c = 3 ∧ K = 2 ∧ m = 1) ∨ (c = 4 ∧ K = 1 ∧ m = 1) ∨ (c = 4 ∧ K = 2 ∧ m = 2) ∨ (c = 4 ∧ K = 3 ∧ m = 1) := by omega
      clear hm
      rcases hcK with ⟨rfl, rfl, rfl⟩ | ⟨rfl, rfl, rfl⟩ | ⟨rfl, rfl, rfl⟩ | ⟨rfl, rfl, rfl⟩ | ⟨rfl, rfl, rfl⟩ | ⟨rfl, rfl, rfl⟩
      · have HRUN := copy_run wr.drew w.heap.size 1 1 1 2 rk HRD.out cs HCL.out HCD.out (by rw [HRL.out]; omega) (by omega) HC1.out HSZ
        rw [HSP.out] at HRUN
        have HW4 := hid (copy_below HBD.out HRD.out (rowR x 2 2))
        obtain ⟨w4, hw4⟩ : ∃ w4, w4 = wr.drew.setRow w.heap.size (rowR x 2 2).toArray := ⟨_, rfl⟩
        rw [← hw4] at HRUN HW4
        clear hw4
        go_wp2_with fail
        go_region
        all_goals (
          go_wp2
          go_round
          case measure => simp only [intOf]; omega
          case rel => exact ⟨(2 : Nat), by go_num, by omega, by omega, hid HW4.out.2, hid HW4.out.1⟩)
      · have HRUN := copy_run wr.drew w.heap.size 2 2 1 3 rk HRD.out cs HCL.out HCD.out (by rw [HRL.out]; omega) (by omega) HC1.out HSZ
        rw [HSP.out] at HRUN
        have HW4 := hid (copy_below HBD.out HRD.out (rowR x 3 2))
        obtain ⟨w4, hw4⟩ : ∃ w4, w4 = wr.drew.setRow w.heap.size (rowR x 3 2).toArray := ⟨_, rfl⟩
        rw [← hw4] at HRUN HW4
        clear hw4
        go_wp2_with fail
        go_region
        all_goals (
          go_wp2
          go_round
          case measure => simp only [intOf]; omega
          case rel => exact ⟨(2 : Nat), by go_num, by omega, by omega, hid HW4.out.2, hid HW4.out.1⟩)
      · have HRUN := copy_run wr.drew w.heap.size 1 1 2 3 rk HRD.out cs HCL.out HCD.out (by rw [HRL.out]; omega) (by omega) HC1.out HSZ
        rw [HSP.out] at HRUN
        have HW4 := hid (copy_below HBD.out HRD.out (rowR x 3 3))
        obtain ⟨w4, hw4⟩ : ∃ w4, w4 = wr.drew.setRow w.heap.size (rowR x 3 3).toArray := ⟨_, rfl⟩
        rw [← hw4] at HRUN HW4
        clear hw4
        go_wp2_with fail
        go_region
        all_goals (
          go_wp2
          go_round
          case measure => simp only [intOf]; omega
          case rel => exact ⟨(3 : Nat), by go_num, by omega, by omega, hid HW4.out.2, hid HW4.out.1⟩)
      · have HRUN := copy_run wr.drew w.heap.size 3 3 1 4 rk HRD.out cs HCL.out HCD.out (by rw [HRL.out]; omega) (by omega) HC1.out HSZ
        rw [HSP.out] at HRUN
        have HW4 := hid (copy_below HBD.out HRD.out (rowR x 4 2))
        obtain ⟨w4, hw4⟩ : ∃ w4, w4 = wr.drew.setRow w.heap.size (rowR x 4 2).toArray := ⟨_, rfl⟩
        rw [← hw4] at HRUN HW4
        clear hw4
        go_wp2_with fail
        go_region
        all_goals (
          go_wp2
          go_round
          case measure => simp only [intOf]; omega
          case rel => exact ⟨(2 : Nat), by go_num, by omega, by omega, hid HW4.out.2, hid HW4.out.1⟩)
      · have HRUN := copy_run wr.drew w.heap.size 2 2 2 4 rk HRD.out cs HCL.out HCD.out (by rw [HRL.out]; omega) (by omega) HC1.out HSZ
        rw [HSP.out] at HRUN
        have HW4 := hid (copy_below HBD.out HRD.out (rowR x 4 4))
        obtain ⟨w4, hw4⟩ : ∃ w4, w4 = wr.drew.setRow w.heap.size (rowR x 4 4).toArray := ⟨_, rfl⟩
        rw [← hw4] at HRUN HW4
        clear hw4
        go_wp2_with fail
        go_region
        all_goals (
          go_wp2
          go_round
          case measure => simp only [intOf]; omega
          case rel => exact ⟨(4 : Nat), by go_num, by omega, by omega, hid HW4.out.2, hid HW4.out.1⟩)
      · have HRUN := copy_run wr.drew w.heap.size 1 1 3 4 rk HRD.out cs HCL.out HCD.out (by rw [HRL.out]; omega) (by omega) HC1.out HSZ
        rw [HSP.out] at HRUN
        have HW4 := hid (copy_below HBD.out HRD.out (rowR x 4 4))
        obtain ⟨w4, hw4⟩ : ∃ w4, w4 = wr.drew.setRow w.heap.size (rowR x 4 4).toArray := ⟨_, rfl⟩
        rw [← hw4] at HRUN HW4
        clear hw4
        go_wp2_with fail
        go_region
        all_goals (
          go_wp2
          go_round
          case measure => simp only [intOf]; omega
          case rel => exact ⟨(4 : Nat), by go_num, by omega, by omega, hid HW4.out.2, hid HW4.out.1⟩)
    · obtain rfl : K = c := by omega
      clear hlt
      go_wp2_with fail
      go_ret
      exact ⟨rfl, HCW.out _ HBr.out HRr.out, HBr.out⟩

end Go.Proofs.Ytfjbdbfeolfcfaa

/-! Vecs -/
set_option linter.unusedVariables false
namespace Go.Proofs.Ytfjbdbfeolfcfaa
open Go.RowKit

def dig (b c K j : Nat) : Nat := K / b ^ (c - 1 - j) % b
/-- the K-th vector, its last t integers the least ones -/
def vecPart (lo : Int) (b c K t : Nat) : List Int := (List.range c).map (fun j => if j < c - t then lo + ((dig b c K j : Nat) : Int) else lo)
def vecAt (lo : Int) (b c K : Nat) : List Int := (List.range c).map (fun j => lo + ((dig b c K j : Nat) : Int))
def vecsL (lo : Int) (b c : Nat) : List (List Int) := (List.range (b ^ c)).map (vecAt lo b c)
theorem vecAt_len (lo : Int) (b c K : Nat) : (vecAt lo b c K).length = c := by unfold vecAt; simp
theorem vecPart_len (lo : Int) (b c K t : Nat) : (vecPart lo b c K t).length = c := by unfold vecPart; simp
theorem vecAt_get {lo : Int} {b c K j : Nat} (h : j < (vecAt lo b c K).length) : (vecAt lo b c K)[j] = lo + ((dig b c K j : Nat) : Int) := by
  simp [vecAt]
theorem vecPart_get {lo : Int} {b c K t j : Nat} (h : j < (vecPart lo b c K t).length) : (vecPart lo b c K t)[j] = if j < c - t then lo + ((dig b c K j : Nat) : Int) else lo := by
  simp [vecPart]
theorem vecPart_zero (lo : Int) (b c K : Nat) : vecPart lo b c K 0 = vecAt lo b c K := by
  unfold vecPart vecAt
  refine List.map_congr_left fun j hj => ?_
  have := List.mem_range.1 hj
  rw [if_pos (by omega)]
theorem vecAt_first (lo : Int) (b c : Nat) : vecAt lo b c 0 = List.replicate c lo := by
  unfold vecAt dig
  refine List.eq_replicate_iff.2 ⟨by simp, fun x hx => ?_⟩
  obtain ⟨j, _, rfl⟩ := List.mem_map.1 hx
  simp
theorem vecAt_bd {lo : Int} {b c K : Nat} (hb : 1 ≤ b) : ∀ x ∈ vecAt lo b c K, lo ≤ x ∧ x < lo + b := by
  intro x hx
  obtain ⟨j, _, rfl⟩ := List.mem_map.1 hx
  have : dig b c K j < b := Nat.mod_lt _ (by omega)
  omega
theorem vecPart_at {lo : Int} {b c K t : Nat} (ht : t < c) : (vecPart lo b c K t).getD (c - 1 - t) 0 = lo + ((K / b ^ t % b : Nat) : Int) := by
  rw [getD_at _ _ (by rw [vecPart_len]; omega), vecPart_get, if_pos (by omega)]
  unfold dig
  rw [show c - 1 - (c - 1 - t) = t by omega]
theorem part_lo {lo : Int} {b c K t : Nat} (ht : t < c) : (vecPart lo b c K t).set (c - 1 - t) lo = vecPart lo b c K (t + 1) := by
  refine List.ext_getElem (by rw [List.length_set, vecPart_len, vecPart_len]) fun j h1 h2 => ?_
  have h3 := h2
  rw [vecPart_len] at h3
  rw [List.getElem_set, vecPart_get h2]
  by_cases h : c - 1 - t = j
  · rw [if_pos h, if_neg (by omega)]
  · rw [if_neg h, vecPart_get (by rw [vecPart_len]; exact h3)]
    by_cases h4 : j < c - t
    · rw [if_pos h4, if_pos (by omega)]
    · rw [if_neg h4, if_neg (by omega)]
theorem carry {b K t : Nat} (hb : 1 ≤ b) (h : (K + 1) % b ^ t = 0) (hd : K / b ^ t % b = b - 1) : (K + 1) % b ^ (t + 1) = 0 := by
  have hp : 0 < b ^ t := Nat.pow_pos (by omega)
  have e : (K + 1) / b ^ t = K / b ^ t + 1 := by rw [Nat.succ_div_of_dvd (Nat.dvd_of_mod_eq_zero h)]
  have e2 : (K / b ^ t + 1) % b = 0 := by
    rw [Nat.add_mod, hd]
    by_cases h1 : b = 1
    · subst h1; exact Nat.mod_one _
    · rw [Nat.mod_eq_of_lt (show 1 < b by omega), show b - 1 + 1 = b by omega, Nat.mod_self]
  obtain ⟨m, hm⟩ := Nat.dvd_of_mod_eq_zero h
  rw [hm, Nat.mul_div_cancel_left _ hp] at e
  rw [← e] at e2
  obtain ⟨q, rfl⟩ := Nat.dvd_of_mod_eq_zero e2
  rw [hm, Nat.pow_succ, ← Nat.mul_assoc]
  exact Nat.mul_mod_right _ _
theorem carried {b K c : Nat} (h : (K + 1) % b ^ c = 0) (hK : K < b ^ c) : K + 1 = b ^ c := by
  obtain ⟨m, hm⟩ := Nat.dvd_of_mod_eq_zero h
  have h1 : m ≠ 0 := by rintro rfl; rw [Nat.mul_zero] at hm; omega
  by_cases h2 : m = 1
  · rw [hm, h2, Nat.mul_one]
  · have : b ^ c * 2 ≤ b ^ c * m := Nat.mul_le_mul_left _ (by omega)
    omega
theorem part_next {lo : Int} {b c K t : Nat} (hb : 1 ≤ b) (ht : t < c) (h : (K + 1) % b ^ t = 0) (hd : K / b ^ t % b ≠ b - 1) : (vecPart lo b c K t).set (c - 1 - t) (lo + ((K / b ^ t % b : Nat) : Int) + 1) = vecAt lo b c (K + 1) := by
  have hlt : K / b ^ t % b < b := Nat.mod_lt _ (by omega)
  have e : (K + 1) / b ^ t = K / b ^ t + 1 := by rw [Nat.succ_div_of_dvd (Nat.dvd_of_mod_eq_zero h)]
  have e2 : (K / b ^ t + 1) % b = K / b ^ t % b + 1 := by
    rw [Nat.add_mod, Nat.mod_eq_of_lt (show 1 < b by omega), Nat.mod_eq_of_lt (by omega)]
  refine List.ext_getElem (by rw [List.length_set, vecPart_len, vecAt_len]) fun j h1 h2 => ?_
  have h9 := h2
  rw [vecAt_len] at h9
  rw [List.getElem_set, vecAt_get h2]
  by_cases hj : c - 1 - t = j
  · subst hj
    rw [if_pos rfl]
    unfold dig
    rw [show c - 1 - (c - 1 - t) = t by omega, e, e2]
    push_cast
    omega
  · rw [if_neg hj, vecPart_get (by rw [vecPart_len]; exact h9)]
    by_cases h3 : j < c - t
    · rw [if_pos h3]
      congr 2
      unfold dig
      rw [Nat.succ_div_of_not_dvd]
      intro hdv
      have hd1 : b ^ (t + 1) ∣ K + 1 := Nat.dvd_trans (Nat.pow_dvd_pow b (show t + 1 ≤ c - 1 - j by omega)) hdv
      obtain ⟨m, hm⟩ := hd1
      rw [hm, Nat.pow_succ, Nat.mul_assoc, Nat.mul_div_cancel_left _ (Nat.pow_pos (by omega))] at e
      rw [← e, Nat.mul_mod_right] at e2
      omega
    · rw [if_neg h3]
      have hdv : b ^ (c - 1 - j + 1) ∣ K + 1 := Nat.dvd_trans (Nat.pow_dvd_pow b (show c - 1 - j + 1 ≤ t by omega)) (Nat.dvd_of_mod_eq_zero h)
      obtain ⟨m, hm⟩ := hdv
      unfold dig
      rw [hm, Nat.pow_succ, Nat.mul_assoc, Nat.mul_div_cancel_left _ (Nat.pow_pos (by omega)), Nat.mul_mod_right]
      simp
theorem vecs_len (lo : Int) (b c : Nat) : (vecsL lo b c).length = b ^ c := by unfold vecsL; simp
theorem vecs_take {lo : Int} {b c K : Nat} (h : K < b ^ c) : (vecsL lo b c).take (K + 1) = (vecsL lo b c).take K ++ [vecAt lo b c K] := by
  rw [List.take_add_one, List.getElem?_eq_getElem (by rw [vecs_len]; exact h)]
  unfold vecsL
  simp

end Go.Proofs.Ytfjbdbfeolfcfaa

/-! RangeV -/
set_option linter.unusedVariables false
namespace Go.Proofs.Ytfjbdbfeolfcfaa
open Go.RowKit

/-- whatever lies at B or behind it is left as it lay -/
structure Stay (B : Nat) (W W' : World) : Prop where
  size : W.heap.size ≤ W'.heap.size
  block : ∀ k, B ≤ k → k < W.heap.size → W'.heap[k]? = W.heap[k]?
theorem Stay.refl (B : Nat) (W : World) : Stay B W W := ⟨Nat.le_refl _, fun _ _ _ => rfl⟩
theorem Stay.trans {B : Nat} {X Y Z : World} (h : Stay B X Y) (k : Stay B Y Z) : Stay B X Z :=
  ⟨Nat.le_trans h.size k.size, fun i hB hi => (k.block i hB (Nat.lt_of_lt_of_le hi h.size)).trans (h.block i hB hi)⟩
theorem Stay.mono {B C : Nat} {W W' : World} (h : Stay B W W') (hc : B ≤ C) : Stay C W W' := ⟨h.size, fun k hk hl => h.block k (Nat.le_trans hc hk) hl⟩
theorem Stay.of_below {B : Nat} {W W' : World} (h : Below W.heap.size W W') : Stay B W W' := ⟨h.size, fun k _ hl => h.block k hl⟩
theorem Stay.setCell {B : Nat} {W : World} {a : Addr} (ha : a.block < B) (v : Value) : Stay B W (W.setCell a v) :=
  ⟨by simp [World.setCell], fun k hk _ => Below.heap_setCell _ _ _ k (fun e => by omega)⟩
theorem Stay.drewN (B : Nat) (W : World) (n : Nat) : Stay B W (W.drewN n) := ⟨Nat.le_refl _, fun _ _ _ => rfl⟩
theorem Stay.at_block {B k : Nat} {W W' : World} {o : Obj} (h : Stay B W W') (hk : B ≤ k) (ho : W.heap[k]? = some o) : W'.heap[k]? = some o :=
  (h.block k hk (Array.getElem?_eq_some_iff.1 ho).1).trans ho
/-- these blocks are left as they lay -/
def Hold (B0 B1 : Nat) (W W' : World) : Prop := ∀ k, B0 ≤ k → k < B1 → W'.heap[k]? = W.heap[k]?
theorem Hold.trans {B0 B1 : Nat} {X Y Z : World} (h : Hold B0 B1 X Y) (k : Hold B0 B1 Y Z) : Hold B0 B1 X Z := fun i h1 h2 => (k i h1 h2).trans (h i h1 h2)
theorem Hold.put {B0 B1 k : Nat} (hk : B1 ≤ k) (W : World) (o : Obj) : Hold B0 B1 W (W.putObj k o) := fun i _ h2 => World.putObj_heap_other (by omega)
theorem Stay.hold {B0 B1 : Nat} {W W' : World} (h : Stay B0 W W') (hB : B1 ≤ W.heap.size) : Hold B0 B1 W W' := fun k h1 h2 => h.block k h1 (by omega)
/-- what is said abides new blocks, and the turn of one block at B or behind it -/
def Turns {β : Type} (B : Nat) (J : β → World → Prop) : Prop :=
  ∀ s W W' row, J s W → W.grownBy W' row → (∀ r, row = some r → B ≤ r) → J s W'
theorem Turns.and {β : Type} {B : Nat} {J K : β → World → Prop} (h : Turns B J) (k : Turns B K) : Turns B (fun s W => J s W ∧ K s W) :=
  fun s W W' row hs hg hr => ⟨h s W W' row hs.1 hg hr, k s W W' row hs.2 hg hr⟩
theorem turns_pure {β : Type} (B : Nat) (p : β → Prop) : Turns B (fun s (_ : World) => p s) := fun _ _ _ _ hs _ _ => hs
theorem turns_below {β : Type} {n B : Nat} {w : World} (hn : n ≤ w.heap.size) (hB : n ≤ B) : Turns B (fun (_ : β) W => Below n w W) :=
  fun _ _ _ _ hs hg hr => hs.grown hg (Nat.le_trans hn hs.size) (fun k e => Nat.le_trans hB (hr k e))
theorem turns_block {β : Type} {B k : Nat} (hk : k < B) (f : β → Obj) : Turns B (fun s W => W.heap[k]? = some (f s)) :=
  fun s W W' row hs hg hr => (hg.block k (Array.getElem?_eq_some_iff.1 hs).1 (fun e => by have := hr k e.symm; omega)).trans hs
theorem Turns.put {β : Type} {B : Nat} {J : β → World → Prop} (h : Turns B J) {s : β} {W : World} {k : Nat} (o : Obj) (hs : J s W) (hk : B ≤ k) : J s (W.putObj k o) :=
  h s W _ (some k) hs (grownBy_putObj' W k o) (fun r e => by cases e; exact hk)
theorem Turns.lay {β : Type} {B : Nat} {J : β → World → Prop} (h : Turns B J) {s : β} {W : World} (o : Obj) (hs : J s W) : J s (W.alloc o) :=
  h s W _ none hs (World.grownBy_alloc W o none) (fun r e => by cases e)

/-- the iterator's contract: at each yield, H says what the element is -/
def RoundsV {α : Type} (F : Fence) (n : Nat) (P : Program) (g : Nat) (lb : Array Value) (encs : α → Array Value) (H : Nat → α → World → Prop) (B0 B1 : Nat) (S Sp : List α → Prop) (N : Nat) (w : World) : Prop :=
  ∀ (l : Nat) (J Jx : List α → World → Prop) (W : World), Below w.heap.size w W → Turns W.heap.size J → Turns W.heap.size Jx →
    (∀ pre x V, J pre V → H W.heap.size x V → pre.length < N → YieldAt F (n - 1) P l (encs x) V fun e V' =>
      (e = .returned (.bool true) ∧ J (pre ++ [x]) V' ∧ Stay W.heap.size V V' ∧ Hold B0 B1 V V') ∨ (e = .returned (.bool false) ∧ Jx (pre ++ [x]) V')) →
    J [] W →
    CallsIn F n P g (#[.func (.yield l) #[] #[]] ++ lb) W fun e V => (∃ v, e = .returned v) ∧ ((∃ xs, S xs ∧ J xs V) ∨ (∃ pre, Sp pre ∧ Jx pre V))

/-- the two blocks of a loop: its record, and the block for deferred calls ahead of it -/
def Book (D : Nat) (r : Loop) (W : World) : Prop := W.heap[D]? = some (.deferred (some [])) ∧ W.heap[D + 1]? = some (.loop r)
theorem Book.put {D : Nat} {r : Loop} {W : World} (h : Book D r W) (r' : Loop) : Book D r' (W.putObj (D + 1) (.loop r')) :=
  ⟨(World.putObj_heap_other (by omega)).trans h.1, World.putObj_heap_same (Array.getElem?_eq_some_iff.1 h.2).1⟩
theorem Book.stay {D : Nat} {r : Loop} {W W' : World} (h : Book D r W) (hs : Stay D W W') : Book D r W' :=
  ⟨hs.at_block (Nat.le_refl _) h.1, hs.at_block (by omega) h.2⟩
theorem Book.turns {β : Type} {D B : Nat} (hB : D + 2 ≤ B) (r : β → Loop) : Turns B (fun s W => Book D (r s) W) :=
  Turns.and (turns_block (by omega) fun _ => _) (turns_block (by omega) fun s => .loop (r s))
theorem Book.new (w : World) (r : Loop) : Book w.heap.size r ((w.alloc (.deferred (some []))).alloc (.loop r)) := by
  refine ⟨(Below.heap_alloc _ _ _ (by simp)).trans (World.alloc_heap_new w _), ?_⟩
  have h := World.alloc_heap_new (w.alloc (.deferred (some []))) (.loop r)
  rwa [World.size_alloc] at h
/-- how a round's body is left -/
def endsV {α : Type} (B : Nat) (I : List α → World → Prop) (Ix : Code → List α → World → Prop) (xs : List α) (W : World) : Exit → Act → World → Prop
  | .normal, _, W' => Stay B W W' ∧ I xs W'
  | .ret, _, W' => Stay B W W' ∧ Ix .ret xs W'
  | .exit id, _, W' => Stay B W W' ∧ Ix (.exit id) xs W'
  | .goto t, _, W' => Stay B W W' ∧ Ix (.goto t) xs W'
  | _, _, _ => False

variable {F : Fence} {n : Nat} {P : Program}

/-- one round: what is asked at its end, out of how its body is left -/
theorem roundPost_of {α : Type} {D : Nat} {rec : LoopState → Option Code → Loop} (hrec : ∀ st pe st' pe', { rec st pe with state := st', pending := pe' } = rec st' pe') {I : List α → World → Prop} {Ix : Code → List α → World → Prop} (hI : Turns D I) (hIx : ∀ c, Turns D (Ix c)) {xs : List α} {V W : World} (hb : Book D (rec .busy none) W) (hV : V.heap.size ≤ W.heap.size) (hVW : Stay (D + 2) V W) (hD : D + 2 ≤ V.heap.size) {C : Nat} (hC : D + 2 ≤ C) {B0 B1 : Nat} (hB0 : B0 ≤ D) (hB1 : B1 ≤ D) (hH : Hold B0 B1 V W) :
    ∀ (e : Exit) (a : Act) (W' : World), endsV B0 I Ix xs W e a W' → roundPost P (D + 1) (fun e V' => (e = .returned (.bool true) ∧ (I xs V' ∧ Book D (rec .ready none) V') ∧ Stay C V V' ∧ Hold B0 B1 V V') ∨ (e = .returned (.bool false) ∧ ∃ c, Ix c xs V' ∧ Book D (rec .done (some c)) V')) e a W' := by
  have fin : ∀ (jump : Option Code) (W' : World), Stay D W W' → (Instr.endRound (D + 1) jump).run P W' = .ok (.bool jump.isNone) (W'.putObj (D + 1) (.loop (rec (if jump.isNone then .ready else .done) jump))) ∧ Book D (rec (if jump.isNone then .ready else .done) jump) (W'.putObj (D + 1) (.loop (rec (if jump.isNone then .ready else .done) jump))) := fun jump W' hs => by
    have hb' := hb.stay hs
    have hr := run_endRound (P := P) jump hb'.2
    rw [hrec] at hr
    exact ⟨hr, hb'.put _⟩
  intro e a W' h
  cases e with
  | normal =>
    obtain ⟨hr, hb'⟩ := fin none W' (h.1.mono hB0)
    refine ⟨_, _, hr, .inl ⟨rfl, ⟨hI.put _ h.2 (by omega), hb'⟩, ?_, hH.trans ((h.1.hold (by omega)).trans (Hold.put (by omega) _ _))⟩⟩
    refine (hVW.trans (h.1.mono (by omega))).mono hC |>.trans ⟨by simp, fun k hk _ => World.putObj_heap_other (by omega)⟩
  | ret =>
    obtain ⟨hr, hb'⟩ := fin (some .ret) W' (h.1.mono hB0)
    exact ⟨_, _, hr, .inr ⟨rfl, .ret, (hIx _).put _ h.2 (by omega), hb'⟩⟩
  | exit id =>
    obtain ⟨hr, hb'⟩ := fin (some (.exit id)) W' (h.1.mono hB0)
    exact ⟨_, _, hr, .inr ⟨rfl, .exit id, (hIx _).put _ h.2 (by omega), hb'⟩⟩
  | goto t =>
    obtain ⟨hr, hb'⟩ := fin (some (.goto t)) W' (h.1.mono hB0)
    exact ⟨_, _, hr, .inr ⟨rfl, .goto t, (hIx _).put _ h.2 (by omega), hb'⟩⟩
  | panic ch => exact h.elim
  | outgrown => exact h.elim

/-- a loop over such an iterator -/
theorem wpIn_rangeV {α : Type} {g : Operand} {ps : Array Tmp} {assign body : Code} {Q : Exit → Act → World → Prop} {a : Act} {w : World}
    (hro : F.round = none) (h1 : 1 ≤ n) {gf : Nat} {lb : Array Value} (hg : a.eval g = .func (.func gf) #[] lb) (hFg : F.fn gf) (eg : ∀ args W, (callFunc gf args).run P W = .ok (.enter gf args) W)
    {encs : α → Array Value} {H : Nat → α → World → Prop} {B0 B1 : Nat} (hB0 : B0 ≤ w.heap.size) (hB1 : B1 ≤ w.heap.size) {S Sp : List α → Prop} {N : Nat} {w0 : World} (hseq : RoundsV F (n - 1) P gf lb encs H B0 B1 S Sp N w0) (hb0 : Below w0.heap.size w0 w) (hps : ∀ x, (encs x).size = ps.size)
    (hH : ∀ x W k r o, H (w.heap.size + 2) x W → W.heap[k]? = some (.loop r) → H (w.heap.size + 2) x (W.putObj k o))
    (I : List α → World → Prop) (Ix : Code → List α → World → Prop) (hI : Turns w.heap.size I) (hIx : ∀ c, Turns w.heap.size (Ix c)) (h0 : I [] w) (a₁ : α → Act)
    (hassign : ∀ (l : Nat) (x : α) (W : World) (K : Act → World → Prop), K (a₁ x) W →
      assign.wpIn (F.inRound l) (n - 1 - 1) P (Exit.then K (fun _ _ _ => False)) { tmps := (ps.zip (encs x)).foldl (fun t (p, v) => t.setIfInBounds p v) a.tmps, defers := [] } W)
    (hbody : ∀ (l : Nat) (pre : List α) (x : α) (W : World), I pre W → H (w.heap.size + 2) x W → w.heap.size + 2 ≤ W.heap.size → pre.length < N → body.wpIn (F.inRound l) (n - 1 - 1) P (endsV B0 I Ix (pre ++ [x]) W) (a₁ x) W)
    (hdone : ∀ (xs : List α) (W : World), S xs → I xs W → W.heap[w.heap.size]? = some (.deferred (some [])) → Q .normal { a with defers := { target := .collected w.heap.size, args := #[] } :: a.defers } W)
    (hstop : ∀ (c : Code) (pre : List α) (W : World), Sp pre → Ix c pre W → W.heap[w.heap.size]? = some (.deferred (some [])) → c.wpIn F n P Q { a with defers := { target := .collected w.heap.size, args := #[] } :: a.defers } W) :
    (Code.rangeFunc g ps assign body).wpIn F n P Q a w := by
  refine wpIn_rangeFunc fun fn hfn => ?_
  rw [hro]
  obtain ⟨rec, hrec⟩ : ∃ rec : LoopState → Option Code → Loop, rec = fun st pe => { state := st, pending := pe, fn, tmps := a.tmps, params := ps, assign, body, defers := w.heap.size } := ⟨_, rfl⟩
  have hrr : ∀ st pe st' pe', { rec st pe with state := st', pending := pe' } = rec st' pe' := fun st pe st' pe' => by rw [hrec]
  have hbk := Book.new w (rec .ready none)
  have hI1 := hI.lay (.loop (rec .ready none)) (hI.lay (.deferred (some [])) h0)
  have hbl := hb0.trans ((((Below.refl _ w).alloc (Nat.le_refl _) (.deferred (some []))).alloc (by simp) (.loop (rec .ready none))).mono hb0.size)
  have hen := run_enterLoop_outer (P := P) (w := w) fn a.tmps ps assign body
  have hsz : ((w.alloc (.deferred (some []))).alloc (.loop (rec .ready none))).heap.size = w.heap.size + 2 := by simp
  have hrd : ((w.alloc (.deferred (some []))).alloc (.loop { state := .ready, pending := none, fn, tmps := a.tmps, params := ps, assign, body, defers := w.heap.size })) = ((w.alloc (.deferred (some []))).alloc (.loop (rec .ready none))) := by rw [hrec]
  rw [hrd] at hen
  obtain ⟨W1, hW1⟩ : ∃ W1, W1 = (w.alloc (.deferred (some []))).alloc (.loop (rec .ready none)) := ⟨_, rfl⟩
  rw [← hW1] at hbk hI1 hbl hen hsz
  refine ⟨w.heap.size + 1, [{ target := .collected w.heap.size, args := #[] }], W1, { target := .fn (.func gf) lb, args := #[.func (.yield (w.heap.size + 1)) #[] #[]] }, W1, gf, #[.func (.yield (w.heap.size + 1)) #[] #[]] ++ lb, W1, hen, ?_, ?_, ?_, fun _ => h1, ?_⟩
  · simp only [resolve, hg]
    simp [go_sem]
  · intro f' hf'
    simp [Target.leads] at hf'
    subst hf'
    exact hFg
  · simp [invoke, go_sem, eg]
  · refine (hseq (w.heap.size + 1) (fun pre W => I pre W ∧ Book w.heap.size (rec .ready none) W) (fun pre W => ∃ c, Ix c pre W ∧ Book w.heap.size (rec .done (some c)) W) W1 hbl ?_ ?_ ?_ ⟨hI1, hbk⟩).mono ?_
    · exact Turns.and (fun s A B row hs hgr hr => hI s A B row hs hgr (fun r e => by have := hr r e; omega)) (Book.turns (by omega) fun _ => _)
    · rintro s A B row ⟨c, hc, hbc⟩ hgr hr
      exact ⟨c, hIx c s A B row hc hgr (fun r e => by have := hr r e; omega), Book.turns (β := Unit) (B := W1.heap.size) (by omega) (fun _ => rec .done (some c)) () A B row hbc hgr hr⟩
    · rintro pre x V ⟨hi, hb⟩ hx hlen
      have hlt := (Array.getElem?_eq_some_iff.1 hb.2).1
      have hy := run_yield (P := P) (args := encs x) hb.2 (by rw [hrec]; exact hps x)
      have hbr := run_beginRound (P := P) hb.2 (by rw [hrec])
      rw [show ({ rec .ready none with state := .busy } : Loop) = rec .busy none by rw [hrec]] at hbr
      have hb2 := hb.put (rec .busy none)
      have hx2 := hH x V _ _ (.loop (rec .busy none)) (by rw [← hsz]; exact hx) hb.2
      have hi2 := hI.put (.loop (rec .busy none)) hi (show w.heap.size ≤ w.heap.size + 1 by omega)
      have hst : Stay (w.heap.size + 2) V (V.putObj (w.heap.size + 1) (.loop (rec .busy none))) := ⟨by simp, fun k hk _ => World.putObj_heap_other (by omega)⟩
      rw [hrec] at hy
      refine ⟨fn, _, assign, body, hy, roundIn_of_wpIn hfn (hassign _ x V _ ⟨_, hbr, ?_⟩)⟩
      exact wpIn_mono (hbody _ pre x _ hi2 hx2 (by simp; omega) hlen) (roundPost_of hrr hI hIx hb2 (by simp) hst (by omega) (by omega) hB0 hB1 (Hold.put (by omega) _ _))
    · rintro e W2 ⟨⟨v, rfl⟩, ⟨xs, hS, hi, hb⟩ | ⟨pre, hSp, c, hi, hb⟩⟩
      · have he := run_endLoop (P := P) hb.2 (by rw [hrec]; simp)
        refine ⟨_, _, he, ?_⟩
        rw [hrec] at *
        exact hdone xs _ hS (hI.put _ hi (by omega)) ((World.putObj_heap_other (by omega)).trans hb.1)
      · have he := run_endLoop (P := P) hb.2 (by rw [hrec]; simp)
        refine ⟨_, _, he, ?_⟩
        rw [hrec] at *
        exact hstop c pre _ hSp ((hIx c).put _ hi (by omega)) ((World.putObj_heap_other (by omega)).trans hb.1)

end Go.Proofs.Ytfjbdbfeolfcfaa
