/-
  Contracts of the program's chapter 5: four terms; ZeroFind.
-/
import Derived.Test.YtenibnblibnocacQBun45
import Derived.Test.YtenibnblibnocacQBun46
import Derived.Test.YtenibnblibnocacQBun24
set_option linter.unusedVariables false
namespace Go.Proofs.Ytenibnblibnocac
open Go.RowKit Go.Shelf
attribute [local go_sem] Oper.semAt_some

theorem along_four {a b c d : Int} {x y : Nat} {l : List Int} (ok : Ok4 a b c d) (hx : x ≤ 3) (hy : y ≤ 3) (h0 : ¬ (x = 0 ∧ y = 0)) (h : alongO a b c d x y = some l) : Four a b c d l := by
  obtain ⟨t1, t2⟩ := along_bd ok hx hy
  unfold alongO at h
  by_cases hz : splitV a b x y = 0
  · rw [if_pos hz] at h
    cases h
    exact axis_four hx hy h0 hz
  · rw [if_neg hz] at h
    obtain ⟨v, hv, rfl⟩ := Option.map_eq_some_iff.1 h
    unfold zfindO at hv
    cases hf : fvB [c, d, coreG (splitV a b x y)] with
    | false => rw [hf] at hv; cases hv
    | true =>
      rw [hf, if_pos rfl] at hv
      exact vec4_ok hx hy h0 hz t1 t2 (threeO_ok (ok3_of hf) (show threeO c d (coreG (splitV a b x y)) = some v from hv)).1
theorem fourR_ok {a b c d : Int} {l : List Int} (ok : Ok4 a b c d) (h : fourR a b c d = some l) : l.length ≤ 4 ∧ Vec6 l ∧ ∃ x ∈ l, x ≠ 0 := by
  unfold fourR at h
  obtain ⟨vs, hvs, hv⟩ := List.exists_of_findSome?_eq_some h
  obtain ⟨h1, h2⟩ := vecs_mem (by decide) hvs
  obtain ⟨x, y, rfl⟩ := list_two h1
  have hx := h2 x (by simp)
  have hy := h2 y (by simp)
  unfold fourM at hv
  simp only [List.getD_cons_zero, List.getD_cons_succ] at hv
  by_cases h0 : x = 0 ∧ y = 0
  · rw [if_pos h0] at hv; cases hv
  · rw [if_neg h0] at hv
    have k := along_four ok (by omega) (by omega) (by omega) hv
    obtain ⟨p, q, r, s, e⟩ := k.four
    refine ⟨by rw [e]; exact Nat.le_refl _, fun u hu => by have := k.small u hu; omega, k.some⟩
theorem Owns.stay2 {W W' : World} {B : Nat} {v : Value} {xs : List Int} (h : Owns W B v xs) (hs : Stay B W W') : Owns W' B v xs := by
  obtain ⟨h1, h2⟩ := h
  refine ⟨h1, ?_⟩
  rcases h2 with h2 | ⟨g, cap, cur, hv, hg, hh, r⟩
  · exact .inl h2
  · exact .inr ⟨g, cap, cur, hv, hg, hs.at_block hg hh, r⟩
theorem stay_put {W : World} {B k : Nat} (hk : k < B) (o : Obj) : Stay B W (W.putObj k o) := ⟨by simp, fun j hj _ => World.putObj_heap_other (by omega)⟩
theorem below_put {n k : Nat} {w W : World} (h : Below n w W) (hn : n ≤ k) (o : Obj) : Below n w (W.putObj k o) :=
  ⟨h.os, h.tape, h.output, by simpa using h.size, fun i hi => (World.putObj_heap_other (by omega)).trans (h.block i hi)⟩
theorem boxed_put4 {W : World} {B D : Nat} {t : TypeId} {v : Value} {o : Obj} (h : Boxed W B t v) (hD : D ≠ B) : Boxed (W.putObj D o) B t v := (World.putObj_heap_other (Ne.symm hD)).trans h
theorem boxed_lo4 {W W' : World} {B : Nat} {t : TypeId} {v : Value} (h : Boxed W B t v) (hb : Below W.heap.size W W') : Boxed W' B t v := (hb.block B h.lt).trans h
theorem none_snoc {a b c d : Int} {pre : List VE} {g : Nat} {vs : List Int} (h : ∀ x ∈ pre, fourM a b c d x.2 = none) (h2 : fourM a b c d vs = none) : ∀ x ∈ pre ++ [((g, vs) : VE)], fourM a b c d x.2 = none := by
  intro x hx
  rcases List.mem_append.1 hx with hx | hx
  · exact h x hx
  · rw [List.mem_singleton.1 hx]; exact h2
theorem fourM_at {a b c d : Int} {X Y : Nat} (h0 : ¬ (X = 0 ∧ Y = 0)) : fourM a b c d [(X : Int), (Y : Int)] = alongO a b c d X Y := by
  unfold fourM
  simp only [List.getD_cons_zero, List.getD_cons_succ, Int.toNat_natCast]
  rw [if_neg (by omega)]
/-- what is known when the loop is left early -/
def FourX (a b c d : Int) (B D : Nat) (w : World) (cd : Code) (pre : List VE) (W : World) : Prop :=
  ∃ (front : List VE) (x : VE) (l : List Int) (u : Value), cd = .ret ∧ pre = front ++ [x] ∧ (∀ y ∈ front, fourM a b c d y.2 = none) ∧ fourM a b c d x.2 = some l ∧ Boxed W (B + 1) 23 u ∧ Owns W (D + 2) u l ∧ Boxed W (B + 1 + 1) 4 (.bool true) ∧ Below B w W
theorem FourX.put {a b c d : Int} {B D : Nat} {w W : World} {cd : Code} {pre : List VE} (hD : B + 2 < D) (o : Obj) (h : FourX a b c d B D w cd pre W) : FourX a b c d B D w cd pre (W.putObj (D + 1) o) := by
  obtain ⟨front, x, l, u, h1, h2, h3, h4, h5, h6, h7, h8⟩ := h
  exact ⟨front, x, l, u, h1, h2, h3, h4, boxed_put4 h5 (by omega), h6.stay2 (stay_put (by omega) o), boxed_put4 h7 (by omega), below_put h8 (by omega) o⟩

set_option maxRecDepth 100000 in
set_option maxHeartbeats 8000000 in
theorem zeroOfFour_any (v : Value) (a b c d : Int) (ok : Ok4 a b c d) (w : World) (h : Rd w v [a, b, c, d]) : Calls Try.prog 49 #[v] w (SearchPost (fourR a b c d) w) := by
  have HX0 := hid h
  have HOK := hid ok
  obtain ⟨ad, cap, rfl, _⟩ := h.form
  have HX : Hid (Rd w (.slice ad 4 cap) [a, b, c, d]) := hid HX0.out
  show Calls Try.prog 49 #[.slice ad 4 cap] w (SearchPost (fourR a b c d) w)
  have bF := ((Boxed.new w 23 (.slice ad 4 cap)).alloc (.cells #[.slice none 0 0] 23)).alloc (.cells #[.bool false] 4)
  have bS := (Boxed.new (w.alloc (.cells #[.slice ad 4 cap] 23)) 23 (.slice none 0 0)).alloc (.cells #[.bool false] 4)
  have bR := Boxed.new ((w.alloc (.cells #[.slice ad 4 cap] 23)).alloc (.cells #[.slice none 0 0] 23)) 4 (.bool false)
  simp only [World.size_alloc] at bS bR
  have HB1 := hid (below_three (Below.refl w.heap.size w) (Nat.le_refl _) (.cells #[.slice ad 4 cap] 23) (.cells #[.slice none 0 0] 23) (.cells #[.bool false] 4))
  clear h ok HX0
  refine (callsIn_wide (n := 5)).1 ?_
  refine callsIn_of_wp_marks Try.func49 rfl trivial ?_ rfl
  simp only [Try.ntmps49, List.size_toArray, List.length_cons, List.length_nil, Nat.reduceAdd, Nat.reduceSub, Array.replicate_succ, Array.replicate_zero, List.push_toArray, List.append_toArray, List.nil_append, List.cons_append]
  gi_wp2_with fail
  refine ⟨trivial, ?_⟩
  gi_at_call 55
  refine (callsIn_wide.2 (vectors_make _ _ _ _)).mono ?_
  rintro e w' ⟨rfl, rfl⟩
  have hs4 : (((w.alloc (.cells #[.slice ad 4 cap] 23)).alloc (.cells #[.slice none 0 0] 23)).alloc (.cells #[.bool false] 4)).heap.size = w.heap.size + 3 := by simp
  generalize (((w.alloc (.cells #[.slice ad 4 cap] 23)).alloc (.cells #[.slice none 0 0] 23)).alloc (.cells #[.bool false] 4)) = W4 at *
  have HC := captV_new 0 4 2 W4
  have HC2 : CaptV W4.heap.size 0 4 2 (((W4.alloc (.cells #[.int .i64 2] 3)).alloc (.cells #[.int .i64 0] 3)).alloc (.cells #[.int .i64 3] 3)) := HC
  have bF5 := boxed_three bF (.cells #[.int .i64 2] 3) (.cells #[.int .i64 0] 3) (.cells #[.int .i64 3] 3)
  have bS5 := boxed_three bS (.cells #[.int .i64 2] 3) (.cells #[.int .i64 0] 3) (.cells #[.int .i64 3] 3)
  have bR5 := boxed_three bR (.cells #[.int .i64 2] 3) (.cells #[.int .i64 0] 3) (.cells #[.int .i64 3] 3)
  have HB5 := below_three HB1.out HB1.out.size (.cells #[.int .i64 2] 3) (.cells #[.int .i64 0] 3) (.cells #[.int .i64 3] 3)
  have HS4 := hid hs4
  clear hs4 HC bF bS bR
  gi_wp2_with fail
  have hs4 := HS4.out
  refine wpIn_rangeW rfl (by omega) (gf := 69) (lb := #[.pointer (some ⟨W4.heap.size + 1, 0, none⟩), .pointer (some ⟨W4.heap.size, 0, none⟩), .pointer (some ⟨W4.heap.size + 2, 0, none⟩)]) rfl trivial (enters_of Try.func69 (by kernel_rfl) rfl)
    (B0 := W4.heap.size) (B1 := W4.heap.size + 3) (by simp <;> omega) (by simp <;> omega) (vec_roundsW _ W4.heap.size 0 4 2 (by omega) (by omega) (by omega) (by omega) (by omega) (by omega) _ (by simp) HC2) (Below.refl _ _) (fun _ => rfl) (fun x W k r o h hk => yields_put o h hk)
    (fun (pre : List VE) W => (((∀ x ∈ pre, fourM a b c d x.2 = none) ∧ Boxed W (w.heap.size + 1 + 1) 4 (.bool false)) ∧ (Boxed W w.heap.size 23 (.slice ad 4 cap) ∧ Boxed W (w.heap.size + 1) 23 (.slice none 0 0))) ∧ Below w.heap.size w W)
    (FourX a b c d w.heap.size (W4.heap.size + 3) w)
    (Turns.and (Turns.and (Turns.and (turns_pure _ _) (turns_boxed (by simp <;> omega) _ _)) (Turns.and (turns_boxed (by simp <;> omega) _ _) (turns_boxed (by simp <;> omega) _ _))) (turns_below (Nat.le_refl _) (by simp <;> omega)))
    (fun cd pre W o hx => by
      have e : (((W4.alloc (.cells #[.int .i64 2] 3)).alloc (.cells #[.int .i64 0] 3)).alloc (.cells #[.int .i64 3] 3)).heap.size = W4.heap.size + 3 := by simp
      rw [e]
      exact hx.put (by omega) o)
    ⟨⟨⟨(fun _ h => by cases h), bR5⟩, bF5, bS5⟩, HB5⟩ ?a1 ?assign ?body ?done ?stop
  case assign =>
    intro l x W K hK
    gi_wp2
    exact hK
  case body =>
    rintro l pre ⟨g, vs⟩ W ⟨⟨⟨hno, hbR⟩, hbF, hbS⟩, hB⟩ ⟨ho, hvl, hv⟩ hsz hlt
    dsimp only at ho hvl hv
    simp only [World.size_alloc] at hsz
    obtain ⟨x, y, rfl⟩ := list_two hvl
    have hx := hv x (by simp)
    have hy := hv y (by simp)
    obtain ⟨X, rfl⟩ := Int.eq_ofNat_of_zero_le hx.1
    obtain ⟨Y, rfl⟩ := Int.eq_ofNat_of_zero_le hy.1
    have hX3 : X ≤ 3 := by omega
    have hY3 : Y ≤ 3 := by omega
    have z0 : W.cell? ⟨g, 0, none⟩ = some (.int .i64 (X : Int)) := ho.elem (i := 0) (show 0 < 2 by decide)
    have z1 : W.cell? ⟨g, 1, none⟩ = some (.int .i64 (Y : Int)) := ho.elem (i := 1) (show 1 < 2 by decide)
    have cF := hbF.cell
    have HbF := hid hbF
    have HbS := hid hbS
    have HbR := hid hbR
    have HBB := hid hB
    have HNO := hid hno
    have HXW := hid (HX.out.keep hB)
    have hmx : Try.prog.follows .mixedOrders = true := by kernel_rfl
    have HLO := hid (show w.heap.size + 3 = W4.heap.size by omega)
    have hbd : Below W.heap.size W W.drew := ⟨rfl, rfl, rfl, Nat.le_refl _, fun _ _ => rfl⟩
    have HBD := hid hbd
    have HR5 := hid (boxed_keeps HbR.out HBD.out (by omega))
    have HF5 := hid (boxed_keeps HbF.out HBD.out (by omega))
    have HS5 := hid (boxed_keeps HbS.out HBD.out (by omega))
    have HB9 := hid (HBB.out.trans (HBD.out.mono HBB.out.size))
    clear ho hvl hv hx hy hbF hbS hbR hB hno hlt bF5 bS5 bR5 HB5 HC2 hbd
    by_cases h0 : X = 0 ∧ Y = 0
    · obtain ⟨rfl, rfl⟩ := h0
      have HM : Hid (fourM a b c d [((0 : Nat) : Int), ((0 : Nat) : Int)] = none) := hid (by unfold fourM; rw [if_pos ⟨rfl, rfl⟩])
      clear hX3 hY3
      gi_wp2
      gi_region_with_o (fail)
      all_goals gi_wp2
      all_goals exact ⟨Stay.of_below HBD.out, ⟨⟨none_snoc HNO.out HM.out, HR5.out⟩, HF5.out, HS5.out⟩, HB9.out⟩
    · have HMO := hid (fourM_at (a := a) (b := b) (c := c) (d := d) h0)
      have HZA := hid (zeroAlong_any (.slice ad 4 cap) a b c d X Y HOK.out hX3 hY3 W.drew (HXW.out.keep HBD.out))
      obtain ⟨o, ho⟩ : ∃ o, o = alongO a b c d X Y := ⟨_, rfl⟩
      rw [← ho] at HMO HZA
      clear ho HR5 HF5 HS5 HB9
      by_cases hX0 : X = 0
      · have T1 : ((X : Int) == 0) = true := by rw [beq_iff_eq]; omega
        have T2 : ((Y : Int) == 0) = false := by rw [beq_eq_false_iff_ne]; omega
        clear h0 hX0
        cases o with
        | none =>
          gi_wp2
          gi_region_with_o (fail)
          all_goals (
            gi_wp2_with (refine ⟨trivial, ?_⟩; gi_at_call 66; refine (CallsIn.inRound l (callsIn_wide.2 HZA.out)).mono ?_; rintro e w5 ⟨u, rfl, hu, hb5⟩; have hbx := HBD.out.trans (hb5.mono HBD.out.size))
            exact ⟨Stay.of_below hbx, ⟨⟨none_snoc HNO.out HMO.out, boxed_keeps HbR.out hbx (by omega)⟩, boxed_keeps HbF.out hbx (by omega), boxed_keeps HbS.out hbx (by omega)⟩, HBB.out.trans (hbx.mono HBB.out.size)⟩)
        | some ll =>
          gi_wp2
          gi_region_with_o (fail)
          all_goals (
            gi_wp2_with (refine ⟨trivial, ?_⟩; gi_at_call 66; refine (CallsIn.inRound l (callsIn_wide.2 HZA.out)).mono ?_; rintro e w5 ⟨u, rfl, hu, hb5⟩; have hbx := HBD.out.trans (hb5.mono HBD.out.size); have bS5 := boxed_keeps HbS.out hbx (by omega); have bR5 := boxed_keeps HbR.out hbx (by omega); obtain ⟨ua, ucap, rfl, _⟩ := hu.rd.form; have cS5 := bS5.cell; have fS5 := bS5.frozen; have bR6 := bR5.other (show w.heap.size + 1 + 1 ≠ w.heap.size + 1 by omega) (.slice ua ll.length ucap); have cR6 := bR6.cell; have fR6 := bR6.frozen; have HS6 := hid ((bS5.set (.slice ua ll.length ucap)).other (show w.heap.size + 1 ≠ w.heap.size + 1 + 1 by omega) (.bool true)); have HR6 := hid (bR6.set (.bool true)))
            have hst : Stay (W4.heap.size) w5 ((w5.setCell ⟨w.heap.size + 1, 0, none⟩ (.slice ua ll.length ucap)).setCell ⟨w.heap.size + 1 + 1, 0, none⟩ (.bool true)) := (Stay.setCell (by show w.heap.size + 1 < W4.heap.size; omega) _).trans (Stay.setCell (by show w.heap.size + 1 + 1 < W4.heap.size; omega) _)
            exact ⟨(Stay.of_below hbx).trans hst, pre, (g, [(X : Int), (Y : Int)]), ll, .slice ua ll.length ucap, rfl, rfl, HNO.out, HMO.out, HS6.out, (hu.down (B := W4.heap.size + 3 + 2) (by show W4.heap.size + 3 + 2 ≤ W.heap.size; omega)).stay2 (hst.mono (by omega)), HR6.out, ((HBB.out.trans (hbx.mono HBB.out.size)).setCell (p := ⟨w.heap.size + 1, 0, none⟩) (by show w.heap.size ≤ w.heap.size + 1; omega) _).setCell (p := ⟨w.heap.size + 1 + 1, 0, none⟩) (by show w.heap.size ≤ w.heap.size + 1 + 1; omega) _⟩)

      · have T1 : ((X : Int) == 0) = false := by rw [beq_eq_false_iff_ne]; omega
        clear h0 hX0
        cases o with
        | none =>
          gi_wp2
          gi_region_with_o (fail)
          all_goals (
            gi_wp2_with (refine ⟨trivial, ?_⟩; gi_at_call 66; refine (CallsIn.inRound l (callsIn_wide.2 HZA.out)).mono ?_; rintro e w5 ⟨u, rfl, hu, hb5⟩; have hbx := HBD.out.trans (hb5.mono HBD.out.size))
            exact ⟨Stay.of_below hbx, ⟨⟨none_snoc HNO.out HMO.out, boxed_keeps HbR.out hbx (by omega)⟩, boxed_keeps HbF.out hbx (by omega), boxed_keeps HbS.out hbx (by omega)⟩, HBB.out.trans (hbx.mono HBB.out.size)⟩)
        | some ll =>
          gi_wp2
          gi_region_with_o (fail)
          all_goals (
            gi_wp2_with (refine ⟨trivial, ?_⟩; gi_at_call 66; refine (CallsIn.inRound l (callsIn_wide.2 HZA.out)).mono ?_; rintro e w5 ⟨u, rfl, hu, hb5⟩; have hbx := HBD.out.trans (hb5.mono HBD.out.size); have bS5 := boxed_keeps HbS.out hbx (by omega); have bR5 := boxed_keeps HbR.out hbx (by omega); obtain ⟨ua, ucap, rfl, _⟩ := hu.rd.form; have cS5 := bS5.cell; have fS5 := bS5.frozen; have bR6 := bR5.other (show w.heap.size + 1 + 1 ≠ w.heap.size + 1 by omega) (.slice ua ll.length ucap); have cR6 := bR6.cell; have fR6 := bR6.frozen; have HS6 := hid ((bS5.set (.slice ua ll.length ucap)).other (show w.heap.size + 1 ≠ w.heap.size + 1 + 1 by omega) (.bool true)); have HR6 := hid (bR6.set (.bool true)))
            have hst : Stay (W4.heap.size) w5 ((w5.setCell ⟨w.heap.size + 1, 0, none⟩ (.slice ua ll.length ucap)).setCell ⟨w.heap.size + 1 + 1, 0, none⟩ (.bool true)) := (Stay.setCell (by show w.heap.size + 1 < W4.heap.size; omega) _).trans (Stay.setCell (by show w.heap.size + 1 + 1 < W4.heap.size; omega) _)
            exact ⟨(Stay.of_below hbx).trans hst, pre, (g, [(X : Int), (Y : Int)]), ll, .slice ua ll.length ucap, rfl, rfl, HNO.out, HMO.out, HS6.out, (hu.down (B := W4.heap.size + 3 + 2) (by show W4.heap.size + 3 + 2 ≤ W.heap.size; omega)).stay2 (hst.mono (by omega)), HR6.out, ((HBB.out.trans (hbx.mono HBB.out.size)).setCell (p := ⟨w.heap.size + 1, 0, none⟩) (by show w.heap.size ≤ w.heap.size + 1; omega) _).setCell (p := ⟨w.heap.size + 1 + 1, 0, none⟩) (by show w.heap.size ≤ w.heap.size + 1 + 1; omega) _⟩)

  case done =>
    rintro ys W hS ⟨⟨⟨hno, hbR⟩, _, hbS⟩, hB⟩ hK
    obtain ⟨D, hDe⟩ : ∃ D, D = (((W4.alloc (.cells #[.int .i64 2] 3)).alloc (.cells #[.int .i64 0] 3)).alloc (.cells #[.int .i64 3] 3)).heap.size := ⟨_, rfl⟩
    rw [← hDe] at hK ⊢
    have hDg : w.heap.size + 1 + 1 < D := by rw [hDe]; simp <;> omega
    clear hDe
    have hn : Hid (fourR a b c d = none) := hid (by
      unfold fourR
      rw [← hS, List.findSome?_map, List.findSome?_eq_none_iff]
      intro x hx
      exact hno x hx)
    have hDW : D < W.heap.size := (Array.getElem?_eq_some_iff.1 hK).1
    have hBW := hB.size
    have bS1 := hbS.alloc (.cells #[] 3)
    have bR1 := hbR.alloc (.cells #[] 3)
    have cS1 := bS1.cell
    have fS1 := bS1.frozen
    have bR2 := bR1.other (show w.heap.size + 1 + 1 ≠ w.heap.size + 1 by omega) (.slice (some ⟨W.heap.size, 0, none⟩) 0 0)
    have cR2 := bR2.cell
    have fR2 := bR2.frozen
    have HS3 := hid ((bS1.set (.slice (some ⟨W.heap.size, 0, none⟩) 0 0)).other (show w.heap.size + 1 ≠ w.heap.size + 1 + 1 by omega) (.bool false))
    have HR3 := hid (bR2.set (.bool false))
    have hst : Stay W.heap.size (W.alloc (.cells #[] 3)) (((W.alloc (.cells #[] 3)).setCell ⟨w.heap.size + 1, 0, none⟩ (.slice (some ⟨W.heap.size, 0, none⟩) 0 0)).setCell ⟨w.heap.size + 1 + 1, 0, none⟩ (.bool false)) := (Stay.setCell (by show w.heap.size + 1 < W.heap.size; omega) _).trans (Stay.setCell (by show w.heap.size + 1 + 1 < W.heap.size; omega) _)
    have hK2 : (((W.alloc (.cells #[] 3)).setCell ⟨w.heap.size + 1, 0, none⟩ (.slice (some ⟨W.heap.size, 0, none⟩) 0 0)).setCell ⟨w.heap.size + 1 + 1, 0, none⟩ (.bool false)).heap[D]? = some (.deferred (some [])) := (Below.heap_setCell _ _ _ D (fun e => by have : D = w.heap.size + 1 + 1 := e; omega)).trans ((Below.heap_setCell _ _ _ D (fun e => by have : D = w.heap.size + 1 := e; omega)).trans ((Below.heap_alloc _ _ _ hDW).trans hK))
    have HO : Hid (Owns (((W.alloc (.cells #[] 3)).setCell ⟨w.heap.size + 1, 0, none⟩ (.slice (some ⟨W.heap.size, 0, none⟩) 0 0)).setCell ⟨w.heap.size + 1 + 1, 0, none⟩ (.bool false)) W.heap.size (.slice (some ⟨W.heap.size, 0, none⟩) 0 0) []) := hid ((show Owns (W.alloc (.cells #[] 3)) W.heap.size (.slice (some ⟨W.heap.size, 0, none⟩) 0 0) [] from World.ownsRow_made (size := 1) W #[] 0 (Nat.le_refl _) (by unfold maxLen; omega) rfl).stay2 hst)
    have HBN := hid (((hB.alloc hB.size (.cells #[] 3)).setCell (p := ⟨w.heap.size + 1, 0, none⟩) (by show w.heap.size ≤ w.heap.size + 1; omega) (.slice (some ⟨W.heap.size, 0, none⟩) 0 0)).setCell (p := ⟨w.heap.size + 1 + 1, 0, none⟩) (by show w.heap.size ≤ w.heap.size + 1 + 1; omega) (.bool false))
    gi_wp2
    refine ⟨by simp, .inl ⟨_, _, rfl, run_takeDeferred hK2, ?_⟩⟩
    have hfc1 : ∀ o, ((((W.alloc (.cells #[] 3)).setCell ⟨w.heap.size + 1, 0, none⟩ (.slice (some ⟨W.heap.size, 0, none⟩) 0 0)).setCell ⟨w.heap.size + 1 + 1, 0, none⟩ (.bool false)).putObj D o).cell? ⟨w.heap.size + 1, 0, none⟩ = some (.slice (some ⟨W.heap.size, 0, none⟩) 0 0) := fun o => (boxed_put4 HS3.out (by omega)).cell
    have hfc2 : ∀ o, ((((W.alloc (.cells #[] 3)).setCell ⟨w.heap.size + 1, 0, none⟩ (.slice (some ⟨W.heap.size, 0, none⟩) 0 0)).setCell ⟨w.heap.size + 1 + 1, 0, none⟩ (.bool false)).putObj D o).cell? ⟨w.heap.size + 1 + 1, 0, none⟩ = some (.bool false) := fun o => (boxed_put4 HR3.out (by omega)).cell
    refine ⟨.tuple #[.slice (some ⟨W.heap.size, 0, none⟩) 0 0, .bool false], by simp [results, Try.results49, go_sem, hfc1, hfc2] <;> go_simp, ?_⟩
    exact ⟨_, by rw [hn.out]; rfl, by rw [hn.out]; exact (HO.out.stay2 (stay_put hDW _)).down hBW, below_put HBN.out (by omega) _⟩
  case stop =>
    rintro cd pre W hSp ⟨front, x, l, u, rfl, rfl, h3, h4, h5, h6, h7, h8⟩ hK
    obtain ⟨D, hDe⟩ : ∃ D, D = (((W4.alloc (.cells #[.int .i64 2] 3)).alloc (.cells #[.int .i64 0] 3)).alloc (.cells #[.int .i64 3] 3)).heap.size := ⟨_, rfl⟩
    have hD3 : D = W4.heap.size + 3 := by rw [hDe]; simp
    rw [← hDe] at hK ⊢
    have hDg : w.heap.size + 1 + 1 < D := by omega
    clear hDe
    have hn : Hid (fourR a b c d = some l) := hid (by
      unfold fourR
      rw [List.map_append] at hSp
      exact fs_first (f := fourM a b c d) (x := x.2) hSp (fun y hy => by
        obtain ⟨z, hz, rfl⟩ := List.mem_map.1 hy
        exact h3 z hz) h4)
    gi_wp2
    refine ⟨by simp, .inl ⟨_, _, rfl, run_takeDeferred hK, ?_⟩⟩
    have hfc1 : ∀ o, (W.putObj D o).cell? ⟨w.heap.size + 1, 0, none⟩ = some u := fun o => (boxed_put4 h5 (by omega)).cell
    have hfc2 : ∀ o, (W.putObj D o).cell? ⟨w.heap.size + 1 + 1, 0, none⟩ = some (.bool true) := fun o => (boxed_put4 h7 (by omega)).cell
    refine ⟨.tuple #[u, .bool true], by simp [results, Try.results49, go_sem, hfc1, hfc2] <;> go_simp, ?_⟩
    exact ⟨_, by rw [hn.out]; rfl, by rw [hn.out]; exact (h6.stay2 (stay_put (by omega) _)).down (by omega), below_put h8 (by omega) _⟩

set_option maxRecDepth 100000 in
set_option maxHeartbeats 2000000 in
theorem zeroFind_four (v : Value) (a b c d : Int) (hf : fvB [a, b, c, d] = true) (w : World) (h : Rd w v [a, b, c, d]) : Calls Try.prog 17 #[v] w (SearchPost (zfindO [a, b, c, d]) w) := by
  have HH := hid h
  have HF := hid hf
  have HR : Hid (zfindO [a, b, c, d] = (fourR a b c d).map plainL) := hid (by unfold zfindO; rw [hf, if_pos rfl]; exact four_is (ok4_of hf))
  have HB1 := hid ((Below.refl w.heap.size w).alloc (Nat.le_refl _) (.cells #[] 3))
  have HGD : Hid (∀ l, fourR a b c d = some l → l.length ≤ 4 ∧ Vec6 l ∧ ∃ x ∈ l, x ≠ 0) := hid (fun l hl => fourR_ok (ok4_of HF.out) hl)
  obtain ⟨ad, cap, rfl, _⟩ := h.form
  have HRAW : Hid (Calls Try.prog 49 #[.slice ad [a, b, c, d].length cap] (w.alloc (.cells #[] 3)) (SearchPost (fourR a b c d) (w.alloc (.cells #[] 3)))) := hid (zeroOfFour_any _ a b c d (ok4_of HF.out) _ (h.keep HB1.out))
  obtain ⟨o, ho⟩ : ∃ o, o = fourR a b c d := ⟨_, rfl⟩
  rw [← ho] at HR HRAW HGD
  clear hf h ho
  cases o with
  | none =>
    go_enter Try.func17, Try.ntmps17
    go_wp2_with (first
      | (go_at_call 19; refine (formValidP_any _ _ _ HH.out).mono ?_; rw [HF.out]; rintro e w' ⟨rfl, rfl⟩)
      | (go_at_call 49; refine (HRAW.out).mono ?_; rintro e w2 ⟨u, rfl, hu, hb2⟩; have hbx := HB1.out.trans (hb2.mono HB1.out.size)))
    go_ret2
    exact none_post HR.out hbx
  | some l =>
    obtain ⟨hl4, hv6, hsm⟩ := HGD.out l rfl
    have HPL : Hid (∀ (vv : Value) (wx : World), Rd wx vv l → Calls Try.prog 50 #[vv] wx fun e w' => ∃ u, e = .returned u ∧ Owns w' wx.heap.size u (plainL l) ∧ Below wx.heap.size wx w') := hid (fun vv wx hr => plainOf_any vv l wx hr hl4 hv6 hsm)
    clear hl4 hv6 hsm
    go_enter Try.func17, Try.ntmps17
    go_wp2_with (first
      | (go_at_call 19; refine (formValidP_any _ _ _ HH.out).mono ?_; rw [HF.out]; rintro e w' ⟨rfl, rfl⟩)
      | (go_at_call 50; refine (HPL.out _ _ hu.rd).mono ?_; rintro e w3 ⟨u3, rfl, hu3, hb3⟩)
      | (go_at_call 49; refine (HRAW.out).mono ?_; rintro e w2 ⟨u, rfl, hu, hb2⟩; have hbx := HB1.out.trans (hb2.mono HB1.out.size)))
    go_ret2
    exact some_post HR.out hbx hu3 hb3
theorem zeroFind_any (v : Value) (xs : List Int) (w : World) (h : Rd w v xs) : Calls Try.prog 17 #[v] w (SearchPost (zfindO xs) w) := by
  cases hf : fvB xs with
  | false => exact zeroFind_bad v xs hf w h
  | true =>
    by_cases hl : xs.length ≤ 3
    · exact zeroFind_low v xs hl w h
    · have hb := fvB_iff.1 hf
      obtain ⟨a, b, c, d, rfl⟩ := list_four (show xs.length = 4 by omega)
      exact zeroFind_four v a b c d hf w h

end Go.Proofs.Ytenibnblibnocac
