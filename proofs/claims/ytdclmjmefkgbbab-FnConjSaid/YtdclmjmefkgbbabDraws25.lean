/-
  What the drawing functions of chapter 8 hand out: quaternions.
-/
import Derived.Test.YtdclmjmefkgbbabQBun30
set_option linter.unusedVariables false
namespace Go.Proofs.Ytdclmjmefkgbbab
open Go.RowKit

/-- a list drawn for a quaternion -/
def QuatD (xs : List Int) : Prop := xs.length ≤ 4 ∧ ∀ x ∈ xs, -10001 ≤ x ∧ x ≤ 10001
theorem VecOk.quat {m : Nat} {ys : List Int} (h : VecOk m 6 ys) (hm : m ≤ 4) : QuatD ys := ⟨by rw [h.1]; exact hm, fun y hy => by have := h.2 y hy; omega⟩
theorem QuatD.drop {k : Nat} {ys : List Int} (h : QuatD ys) : QuatD (ys.drop k) := ⟨by rw [List.length_drop]; have := h.1; omega, fun y hy => h.2 y (List.mem_of_mem_drop hy)⟩
theorem QuatD.set0 {ys : List Int} {x : Int} (h : QuatD ys) (h1 : -10001 ≤ x) (h2 : x ≤ 10001) : QuatD (ys.set 0 x) :=
  ⟨by rw [List.length_set]; exact h.1, fun y hy => by
    rcases List.mem_or_eq_of_mem_set hy with h3 | h3
    · exact h.2 y h3
    · subst h3; exact ⟨h1, h2⟩⟩
def QuatPost (w : World) (R : Nat) (e : Ending) (w' : World) : Prop :=
  ∃ (u : Value) (ys : List Int), e = .returned u ∧ QuatD ys ∧ Hid (Rd w' u ys) ∧ Firm u ∧ Hid (Only R w w')
theorem QuatPost.mk {w : World} {R : Nat} {u : Value} {ys : List Int} {w' : World} (h : QuatD ys) (ho : Rd w' u ys) (hf : Firm u) (hn : Only R w w') : QuatPost w R (.returned u) w' :=
  ⟨u, ys, rfl, h, hid ho, hf, hid hn⟩

set_option maxRecDepth 100000 in
set_option maxHeartbeats 4000000 in
theorem quat_any (B R : Nat) (v : Value) (n p : Nat) (hp : p ≤ 700000000000000) (w : World) (HR : Hid (Rdr w B R v n p)) (hB : B ≤ w.heap.size) :
    Calls Try.prog 82 #[.pointer (some ⟨R, 0, none⟩)] w (QuatPost w R) := by
  obtain ⟨i0, hi, hz0, hz1, hz2⟩ := info_parts infoInt
  have hRs := HR.out.lt
  have hBR := HR.out.1
  have HO0 : Hid (Owns (w.alloc (.cells #[] 3)) w.heap.size (.slice (some ⟨w.heap.size, 0, none⟩) 0 0) []) := hid (World.ownsRow_made (size := 1) w #[] 0 (Nat.le_refl _) (by unfold maxLen; omega) rfl)
  have HRA := hid (HR.out.alloc hB (.cells #[] 3))
  have HON := hid ((Only.refl R w).alloc (.cells #[] 3))
  go_enter Try.func82, Try.ntmps82
  go_wp2_with fail
  go_loopw [3, 4] (fun so si wr => ∃ (K r : Nat) (ys : List Int), si = .int .i64 K ∧ K ≤ 4 ∧ r ≤ p + K ∧ Hid (VecOk K 6 ys) ∧ Hid (Owns wr w.heap.size so ys) ∧ Hid (Rdr wr B R v n r) ∧ Hid (Only R w wr)) (fun _ si _ => 10 - (intOf si).toNat)
  case atStart => exact ⟨0, p, [], rfl, by omega, by omega, hid ⟨rfl, fun x hx => by cases hx⟩, HO0, HRA, HON⟩
  case round =>
    obtain ⟨K, r, ys, rfl, hK, hr, HT, HOr, HRr, HNr⟩ := hrel
    rename World => wr
    have hsr := HNr.out.size
    have hyl := HT.out.1
    by_cases hlt : K < 4
    · have hKi : (K : Int) < 4 := by omega
      have hRr := HRr.out.lt
      go_wp2_with (first | (go_at_call 73; refine (pick_any _ _ _ _ r 13 (by omega) (by omega) (by omega) _ HRr.out).mono ?_; rintro e wq ⟨k, s, rfl, hk0, hk1, _, hs, HC, HP⟩; replace hk1 := hk1 (by omega); have HO2 := hid (HOr.out.only HP.out (by omega)); have HN2 := hid (HNr.out.trans HP.out); have hs2 := HN2.out.size) | (at_builtin; refine wpList_append_own_at _ rfl _ _ 27 rfl w.heap.size 3 i0 (.int .i64 0) 1 8 Try.underlying27 hi hz0 hz1 hz2 rfl (by decide) _ _ _ rfl ((show World.ownsRow _ _ _ _ _ _ _ from HO2.out).alloc _) ⟨wq.heap.size, 0, none⟩ 1 1 [.int .i64 (k - 6)] rfl rfl (cell_one_new _ _ _) (by simp [Value.oneCell']) (by unfold maxLen; omega) (by omega) (by simp; omega) ?_; intro v' w3 hown' hgrow _ hat))
      have hsg := hgrow.size
      simp only [World.size_alloc] at hsg
      have HN4 := hid ((HN2.out.alloc (.cells #[.int .i64 (k - 6)] 3)).grown hgrow (fun k e => (HO2.out.ge k e)))
      have HR4 := hid (((HC.out.alloc (by omega) (.cells #[.int .i64 (k - 6)] 3)).kept (((Below.refl w.heap.size _).grown hgrow (by simp; omega) (fun k e => (HO2.out.ge k e)))) (by omega) (by omega)))
      go_roundw
      case measure => simp only [intOf]; omega
      case rel =>
        exact ⟨K + 1, s, ys ++ [k - 6], by go_num, by omega, by omega, hid (HT.out.snoc (by omega) (by omega)), hid (by unfold Owns; simpa using hown'), HR4, HN4⟩
    · obtain rfl : K = 4 := by omega
      have hKi : ¬ ((4 : Nat) : Int) < 4 := by omega
      obtain ⟨g, capv, rfl⟩ := HOr.out.slice_of (by omega)
      have hg := HOr.out.ge g rfl
      have hgl := HOr.out.lt g rfl
      have HVG := hid (HT.out.quat (by omega))
      rw [hyl] at HOr
      clear HT hlt
      go_wp2_with fail
      refine (pick_any _ _ _ _ r 30 (by omega) (by omega) (by omega) _ (HRr.out)).mono ?_
      rintro e wHD ⟨z, s, rfl, hz0, hz1, _, hs, HD, HQ⟩
      replace hz1 := hz1 (by omega)
      have HN3 := hid (HNr.out.trans HQ.out)
      have HOw := hid (HOr.out.only HQ.out (by omega))
      have hs4 := HN3.out.size
      have HRd : Hid (Rd wHD (.slice (some ⟨g, 0, none⟩) 4 capv) ys) := hid HOw.out.rd
      clear HNr HOr HQ
      have HFm : Hid (Firm (.slice (some ⟨g, 0, none⟩) 4 capv)) := hid (.inr ⟨_, _, _, rfl⟩)
      have HOR4 := hid HOw.out.room
      by_cases hz0 : z = 0
      · subst hz0
        go_wp2_with fail
        refine (pick_any _ _ _ _ s 3 (by omega) (by omega) (by omega) _ (HD.out.alloc (by omega) _)).mono ?_
        rintro e wHE ⟨k2, s2, rfl, hk20, hk21, _, hs2, HE, HS⟩
        replace hk21 := hk21 (by omega)
        have HO4 := hid (Owns.only (W' := wHE) (show Owns (wHD.alloc (.cells #[.int .i64 10000, .int .i64 10001, .int .i64 (-10000)] 3)) w.heap.size (.slice (some ⟨g, 0, none⟩) 4 capv) ys from (by have h9 := HOw.out; exact h9.alloc _)) HS.out (by omega))
        have HN4 := hid ((HN3.out.alloc (.cells #[.int .i64 10000, .int .i64 10001, .int .i64 (-10000)] 3)).trans HS.out)
        have hs5 := HN4.out.size
        have hRw := HD.out.lt
        have hk2c : k2 = 0 ∨ k2 = 1 ∨ k2 = 2 := by omega
        have HO5 : Hid (Owns wHE w.heap.size (.slice (some ⟨g, 0, none⟩) ys.length capv) ys) := hid (by rw [hyl]; exact HO4.out)
        have f1 := World.ownsRow.frozenAt HO5.out 0
        have c1 : ∃ x0, wHE.cell? ⟨g, 0, none⟩ = some (.int .i64 x0) := by
          have hK2 : 0 < ys.length := by omega
          refine ⟨ys[0], ?_⟩
          rw [World.ownsRow.cellAt HO5.out 0 (by omega), List.getElem?_map, List.getElem?_eq_getElem hK2]
          rfl
        obtain ⟨x0, c1⟩ := c1
        rcases hk2c with rfl | rfl | rfl
        · have c := lit_cell (fr := (0, 0)) HS.out hRw 0
          simp at c
          have HST := hid (HO5.out.stored0 10000)
          have HZ := hid (HVG.out.set0 (x := 10000) (by omega) (by omega))
          rw [hyl] at HST
          go_wp2
          go_ret
          exact QuatPost.mk HZ.out HST.out.1.rd HST.out.1.firm (HN4.out.grown HST.out.2 (fun k e => by cases e; omega))
        · have c := lit_cell (fr := (0, 0)) HS.out hRw 1
          simp at c
          have HST := hid (HO5.out.stored0 10001)
          have HZ := hid (HVG.out.set0 (x := 10001) (by omega) (by omega))
          rw [hyl] at HST
          go_wp2
          go_ret
          exact QuatPost.mk HZ.out HST.out.1.rd HST.out.1.firm (HN4.out.grown HST.out.2 (fun k e => by cases e; omega))
        · have c := lit_cell (fr := (0, 0)) HS.out hRw 2
          simp at c
          have HST := hid (HO5.out.stored0 (-10000))
          have HZ := hid (HVG.out.set0 (x := (-10000)) (by omega) (by omega))
          rw [hyl] at HST
          go_wp2
          go_ret
          exact QuatPost.mk HZ.out HST.out.1.rd HST.out.1.firm (HN4.out.grown HST.out.2 (fun k e => by cases e; omega))
      · by_cases hz1 : z = 1
        · subst hz1
          have HCut := hid (HRd.out.cut (k := 1) (by omega) hyl (by have := HOR4.out; omega))
          have hcv : ¬ capv = 1 := by have := HOR4.out; omega
          have HC0 := HCut.out
          rw [if_neg hcv] at HC0
          replace HC0 := hid HC0
          clear HCut
          go_wp2
          go_ret
          exact QuatPost.mk (HVG.out.drop (k := 1)) HC0.out (.inr ⟨_, _, _, rfl⟩) HN3.out
        · go_wp2
          go_ret
          exact QuatPost.mk HVG.out HRd.out HFm.out HN3.out

set_option maxRecDepth 100000 in
set_option maxHeartbeats 2000000 in
theorem drawQuatConj_any (v : Value) (n : Nat) (w : World) (h : CodeIn w v n) : Calls Try.prog 52 #[v] w fun e w' => ∃ (u : Value) (ys : List Int), e = .returned u ∧ QuatD ys ∧ Hid (Rd w' u ys) ∧ Firm u ∧ Below w.heap.size w w' := by
  go_enter Try.func52, Try.ntmps52
  go_wp2_with fail
  refine (open_any v n _ h).mono ?_
  rintro e w1 ⟨v1, n1, rfl, HR, HB⟩
  have hsz := HB.size
  go_wp2_with fail
  refine (quat_any _ _ _ _ 0 (by omega) _ HR hsz).mono ?_
  rintro e w2 ⟨u, ys, rfl, HT, HO, HF, HN⟩
  go_wp2
  go_ret
  exact ⟨u, ys, rfl, HT, HO, HF, only_below HB HN.out⟩

end Go.Proofs.Ytdclmjmefkgbbab
