/-
  Contracts of the model's chapter 6: headings, and back from a zero.
-/
import Derived.Test.YtenibnblibnocaaCm2
import Derived.Test.YtenibnblibnocaaRdCut
set_option linter.unusedVariables false
namespace Go.Proofs.Ytenibnblibnocaa
open Go.RowKit

/-- append of a slice to one of the call's own: its run, told ahead -/
theorem append_told {w : World} {base : Nat} {v : Value} {xs : List Int} (hown : Owns w base v xs) {ad : Addr} {n c : Nat} {ys : List Int} (hrd : Rd w (.slice (some ad) n c) ys) (h63 : xs.length + ys.length ≤ 10000000) (hbase : base ≤ w.heap.size) :
    ∃ v' w', (Builtin.append_ #[22, 22] 22 #[v, .slice (some ad) n c]).run Try.prog w = .ok v' w' ∧ Owns w' base v' (xs ++ ys) ∧ w.grownBy w' v.ownBlock := by
  obtain ⟨i0, hi, hz0, hz1, hz2⟩ := info_parts infoInt
  have hn : n = ys.length := by
    rcases hrd with ⟨_, _, e, hy⟩ | ⟨_, _, _, e, _⟩
    · cases e; rw [hy]; rfl
    · cases e; rfl
  have hnews : ∀ j z, (ys.map (Value.int .i64))[j]? = some z → w.cell? (ad.add j) = some z := fun j z hz => by
    rcases hrd with ⟨_, _, _, hy⟩ | ⟨b, off, cap, e, _, _, hc⟩
    · rw [hy] at hz; simp at hz
    · cases e
      rw [List.getElem?_map] at hz
      by_cases hj : j < ys.length
      · rw [List.getElem?_eq_getElem hj] at hz
        simp only [Option.map_some, Option.some.injEq] at hz
        rw [← hz, show (⟨b, off, none⟩ : Addr).add j = ⟨b, off + j, none⟩ by
          by_cases e : j = 0
          · subst e; simp [Addr.add]
          · simp [Addr.add, e], hc j hj, getD_at _ _ hj]
      · rw [List.getElem?_eq_none (by omega)] at hz; cases hz
  obtain ⟨v', w', h1, h2, h3, _, _⟩ := run_append_own_at (P := Try.prog) (w := w) base 22 22 3 i0 (.int .i64 0) 1 8 Try.underlying22 hi hz0 hz1 hz2 rfl (by decide) v xs.length _ hown ad n c (ys.map (Value.int .i64)) (by rw [List.length_map, hn, Nat.mul_one]) hnews (fun z hz => by rw [List.mem_map] at hz; obtain ⟨y, _, rfl⟩ := hz; rfl) (by unfold maxLen; omega) (by omega) hbase
  refine ⟨v', w', h1, ?_, h3⟩
  unfold Owns
  rw [List.length_append, List.map_append, ← hn]
  exact h2
/-- the axis of a point -/
def axisI (vs : List Int) : Int := if vs.getD 0 0 = 0 then 1 else 0
theorem axis_pt {xs vs : List Int} (h : pointB xs vs = true) : vs.length = 3 ∧ (vs.getD 0 0 = 0 → vs.getD 1 0 ≠ 0) ∧ Vec6 vs := by
  obtain ⟨a, b, c, x, y, z, rfl, rfl, hf, P⟩ := point_pt h
  refine ⟨rfl, fun h0 h1 => ?_, (line_facts (ws := [0, 0, 0]) h (vecB_iff.2 ⟨fun v hv => by simp at hv; omega, hf, rfl⟩)).v6⟩
  have := axis_ne P
  unfold atA at this
  rw [if_pos h0] at this
  exact this h1

set_option maxRecDepth 100000 in
set_option maxHeartbeats 1000000 in
theorem l6kAxis_any (v : Value) (vs : List Int) (w : World) (hv : Rd w v vs) (hl : vs.length = 3) (h1 : vs.getD 0 0 = 0 → vs.getD 1 0 ≠ 0) : Calls Try.prog 51 #[v] w fun e w' => e = .returned (.int .i64 (axisI vs)) ∧ w = w' := by
  obtain ⟨a, cap, rfl, hform⟩ := hv.form
  obtain ⟨b, o, rfl, hml, hc⟩ := hform (by omega)
  have c0 := hc 0 (by omega)
  have c1 := hc 1 (by omega)
  rw [Nat.add_zero] at c0
  rw [hl]
  have HA : Hid (axisI vs = if vs.getD 0 0 = 0 then 1 else 0) := hid rfl
  obtain ⟨A, hA⟩ : ∃ A, A = axisI vs := ⟨_, rfl⟩
  rw [← hA] at HA ⊢
  obtain ⟨x, hx⟩ : ∃ x, x = vs.getD 0 0 := ⟨_, rfl⟩
  obtain ⟨y, hy⟩ : ∃ y, y = vs.getD 1 0 := ⟨_, rfl⟩
  rw [← hx] at c0 h1 HA
  rw [← hy] at c1 h1
  have H1 := hid h1
  clear hA hx hy hc hform hv hl h1 hml
  go_enter Try.func51, Try.ntmps51
  go_wp2_with fail
  go_loop [3] (fun sk => ∃ K : Int, sk = .int .i64 K ∧ (K = 0 ∨ (K = 1 ∧ x = 0))) (fun sk => (3 - intOf sk).toNat)
  case atStart => exact ⟨0, rfl, .inl rfl⟩
  case round =>
    obtain ⟨K, rfl, hK⟩ := hrel
    rcases hK with rfl | ⟨rfl, h0⟩
    · by_cases x0 : x = 0
      · have T : (x == 0) = true := by rw [beq_iff_eq]; exact x0
        have HX0 := hid x0
        clear x0
        go_wp2_with fail
        go_round
        case measure => simp [intOf]
        case rel => exact ⟨1, rfl, .inr ⟨rfl, HX0.out⟩⟩
      · have T : (x == 0) = false := by rw [beq_eq_false_iff_ne]; exact x0
        have HE : Hid (A = 0) := hid (by rw [HA.out, if_neg x0])
        clear x0
        go_wp2_with fail
        go_ret
        exact ⟨retI HE.out.symm, rfl⟩
    · have y0 := H1.out h0
      have T : (y == 0) = false := by rw [beq_eq_false_iff_ne]; exact y0
      have HE : Hid (A = 1) := hid (by rw [HA.out, if_pos h0])
      clear h0 y0
      go_wp2_with fail
      go_ret
      exact ⟨retI HE.out.symm, rfl⟩

set_option maxRecDepth 100000 in
set_option maxHeartbeats 1000000 in
theorem l6kAway_any (vs : List Int) (s t : Int) (w : World) : Calls Try.prog 50 #[.int .i64 (axisI vs), .int .i64 s, .int .i64 t] w fun e w' => ∃ u, e = .returned u ∧ Owns w' w.heap.size u (headL vs s t) ∧ Below w.heap.size w w' := by
  by_cases h0 : vs.getD 0 0 = 0
  · have e1 : axisI vs = 1 := by unfold axisI; rw [if_pos h0]
    have HE : Hid (headL vs s t = [s, 0, t]) := hid (by unfold headL; rw [if_pos h0])
    rw [e1]
    clear e1 h0
    go_enter Try.func50, Try.ntmps50
    go_wp2_with fail
    go_ret
    exact ⟨_, rfl, by rw [HE.out]; exact owns_lit [s, 0, t] _ rfl (Nat.le_refl _) (by unfold maxLen; simp), below_box2 _ _⟩
  · have e1 : axisI vs = 0 := by unfold axisI; rw [if_neg h0]
    have HE : Hid (headL vs s t = [0, s, t]) := hid (by unfold headL; rw [if_neg h0])
    rw [e1]
    clear e1 h0
    go_enter Try.func50, Try.ntmps50
    go_wp2_with fail
    go_ret
    exact ⟨_, rfl, by rw [HE.out]; exact owns_lit [0, s, t] _ rfl (Nat.le_refl _) (by unfold maxLen; simp), below_box2 _ _⟩

theorem other_up {xs vs ws : List Int} {w w2 : World} {e : Ending} {w' : World} (h : OtherPost xs vs ws w2 e w') (hb : Below w.heap.size w w2) : OtherPost xs vs ws w e w' := by
  obtain ⟨u, rfl, ho, hb2⟩ := h
  exact ⟨u, rfl, ho.down hb.size, hb.trans (hb2.mono hb.size)⟩
theorem head_zero (vs : List Int) : headL vs 0 0 = [0, 0, 0] := by unfold headL; split <;> rfl
theorem at_zero {xs vs : List Int} : otherOk xs vs (headL vs 0 0) = false := by
  rw [head_zero]
  exact other_no3 (by unfold multB; simp)

set_option maxRecDepth 100000 in
set_option maxHeartbeats 2000000 in
theorem conicAtS_any (vf vv : Value) (xs vs : List Int) (s t : Int) (w : World) (hx : Rd w vf xs) (hv : Rd w vv vs) : Calls Try.prog 22 #[vf, vv, .int .i64 s, .int .i64 t] w (OtherPost xs vs (headL vs s t) w) := by
  have HX := hid hx
  have HV := hid hv
  obtain ⟨a, cap, rfl, _⟩ := hx.form
  obtain ⟨a', cap', rfl, _⟩ := hv.form
  clear hx hv
  cases hp : pointB xs vs with
  | false =>
    have HP := hid hp
    have HN := hid (other_no1 (ws := headL vs s t) hp)
    clear hp
    go_enter Try.func22, Try.ntmps22
    go_wp2_with (go_at_call 14; refine (conicPointS_any _ _ xs vs _ HX.out HV.out).mono ?_; rw [HP.out]; rintro e w1 ⟨rfl, hb1⟩)
    go_ret2
    exact other_empty HN.out hb1
  | true =>
    have HP := hid hp
    obtain ⟨hl, hax, _⟩ := axis_pt hp
    have HL := hid hl
    have HAX := hid hax
    clear hp hl hax
    by_cases s0 : s = 0
    · have T : (s == 0) = true := by rw [beq_iff_eq]; exact s0
      by_cases t0 : t = 0
      · have HN : Hid (otherOk xs vs (headL vs s t) = false) := hid (by rw [s0, t0]; exact at_zero)
        have T2 : (t == 0) = true := by rw [beq_iff_eq]; exact t0
        clear s0 t0
        go_enter Try.func22, Try.ntmps22
        go_wp2_with (go_at_call 14; refine (conicPointS_any _ _ xs vs _ HX.out HV.out).mono ?_; rw [HP.out]; rintro e w1 ⟨rfl, hb1⟩)
        go_ret2
        exact other_empty HN.out hb1
      · have T2 : (t == 0) = false := by rw [beq_eq_false_iff_ne]; exact t0
        clear s0 t0
        go_enter Try.func22, Try.ntmps22
        go_wp2_with (first | (go_at_call 14; refine (conicPointS_any _ _ xs vs _ HX.out HV.out).mono ?_; rw [HP.out]; rintro e w1 ⟨rfl, hb1⟩) | (go_at_call 51; refine (l6kAxis_any _ vs _ (HV.out.keep hb1) HL.out HAX.out).mono ?_; rintro e w' ⟨rfl, rfl⟩))
        refine (l6kAway_any vs s t _).mono ?_
        rintro e w2 ⟨u, rfl, ho, hb2⟩
        have HB2 := hid (hb1.trans (hb2.mono hb1.size))
        have HO := hid ho.rd
        clear hb1 hb2 ho
        go_wp2_with fail
        refine (conicOtherS_any _ _ _ xs vs (headL vs s t) _ (HX.out.keep HB2.out) (HV.out.keep HB2.out) HO.out).mono ?_
        intro e w3 h3
        obtain ⟨u3, rfl, h4, h5⟩ := other_up h3 HB2.out
        have H4 := hid h4
        have H5 := hid h5
        clear h3 h4 h5
        go_wp2_with fail
        go_ret2
        exact ⟨u3, rfl, H4.out, H5.out⟩
    · have T : (s == 0) = false := by rw [beq_eq_false_iff_ne]; exact s0
      clear s0
      go_enter Try.func22, Try.ntmps22
      go_wp2_with (first | (go_at_call 14; refine (conicPointS_any _ _ xs vs _ HX.out HV.out).mono ?_; rw [HP.out]; rintro e w1 ⟨rfl, hb1⟩) | (go_at_call 51; refine (l6kAxis_any _ vs _ (HV.out.keep hb1) HL.out HAX.out).mono ?_; rintro e w' ⟨rfl, rfl⟩))
      refine (l6kAway_any vs s t _).mono ?_
      rintro e w2 ⟨u, rfl, ho, hb2⟩
      have HB2 := hid (hb1.trans (hb2.mono hb1.size))
      have HO := hid ho.rd
      clear hb1 hb2 ho
      go_wp2_with fail
      refine (conicOtherS_any _ _ _ xs vs (headL vs s t) _ (HX.out.keep HB2.out) (HV.out.keep HB2.out) HO.out).mono ?_
      intro e w3 h3
      obtain ⟨u3, rfl, h4, h5⟩ := other_up h3 HB2.out
      have H4 := hid h4
      have H5 := hid h5
      clear h3 h4 h5
      go_wp2_with fail
      go_ret2
      exact ⟨u3, rfl, H4.out, H5.out⟩

theorem two_list {us ws : List Int} (hl : ws.length = 3) : [atB us ws, atC ws] = if us.getD 0 0 = 0 then ws.take 1 ++ ws.drop 2 else ws.drop 1 := by
  obtain ⟨a, b, c, rfl⟩ := len3 hl
  unfold atB atC
  split <;> rfl
set_option maxRecDepth 100000 in
set_option maxHeartbeats 4000000 in
theorem l6kTwo_any (v : Value) (us ws : List Int) (w : World) (hv : Rd w v ws) (hl : ws.length = 3) : Calls Try.prog 53 #[v, .int .i64 (axisI us)] w fun e w' => ∃ u, e = .returned u ∧ Owns w' w.heap.size u [atB us ws, atC ws] ∧ Below w.heap.size w w' := by
  rw [two_list (us := us) hl]
  rcases hv with ⟨_, _, _, rfl⟩ | ⟨b, o, cap, rfl, ⟨_, hcap⟩, hml, hc⟩
  · cases hl
  have hv : Rd w (.slice (some ⟨b, o, none⟩) ws.length cap) ws := .inr ⟨b, o, cap, rfl, ⟨by omega, hcap⟩, hml, hc⟩
  have hb0 := (below_dw (Below.refl w.heap.size w)).alloc (Nat.le_refl _) (.cells #[] 3)
  have HO0 : Owns (w.drew.alloc (.cells #[] 3)) w.heap.size (.slice (some ⟨w.heap.size, 0, none⟩) 0 0) [] := World.ownsRow_made (size := 1) w.drew #[] 0 (Nat.le_refl _) (by unfold maxLen; omega) rfl
  have hs0 : w.heap.size ≤ (w.drew.alloc (.cells #[] 3)).heap.size := by simp
  have hv0 := hv.keep hb0
  have hcap3 : 3 ≤ cap := by omega
  have hcapI : (3 : Int) ≤ (cap : Int) := by omega
  have hcap1 : (1 : Int) ≤ (cap : Int) := by omega
  have hcap2 : ¬ cap = 2 := by omega
  have hcap4 : ¬ cap = 1 := by omega
  have wr1 : IntKind.i64.wrap 1 = 1 := wrapW (by omega) (by omega)
  have wr2 : IntKind.i64.wrap 2 = 2 := wrapW (by omega) (by omega)
  have hcapN : (0 : Int) ≤ (cap : Int) := by omega
  by_cases h0 : us.getD 0 0 = 0
  · have e1 : axisI us = 1 := by unfold axisI; rw [if_pos h0]
    rw [e1, if_pos h0]
    obtain ⟨v1, w1, r1, o1, g1⟩ := append_told HO0 (Rd.take hv0 (k := 1) (by omega) rfl) (by simp; omega) hs0
    have hb1 := hb0.grown g1 hs0 (fun k e => by cases e; exact Nat.le_refl _)
    have hv1 := hv.keep hb1
    have hd := Rd.cut hv1 (k := 2) (by omega) rfl hcap
    rw [if_neg (show ¬ cap = 2 by omega)] at hd
    obtain ⟨v2, w2, r2, o2, g2⟩ := append_told o1 hd (by simp; omega) hb1.size
    have hb2 := hb1.grown g2 hb1.size (fun k e => o1.ge k e)
    have R1 : Hid ((Builtin.append_ #[22, 22] 22 #[.slice (some ⟨w.heap.size, 0, none⟩) 0 0, .slice (some ⟨b, o, none⟩) 1 cap]).run Try.prog ((w.alloc (.cells #[] 3)).drew) = .ok v1 w1) := hid r1
    rw [hl] at r2
    have R2 : Hid ((Builtin.append_ #[22, 22] 22 #[v1, .slice (some ⟨b, o + 2, none⟩) 1 (cap - 2)]).run Try.prog w1 = .ok v2 w2) := hid r2
    have HO2 : Hid (Owns w2 w.heap.size v2 (ws.take 1 ++ ws.drop 2)) := hid (by simpa using o2)
    have HB2 := hid hb2
    have ec : ((cap : Int) - 2) = ((cap - 2 : Nat) : Int) := by omega
    rw [hl]
    clear hb0 HO0 hs0 hv0 e1 h0 r1 o1 g1 hb1 hv1 hd r2 o2 g2 hb2 hv hc
    go_enter Try.func53, Try.ntmps53
    go_wp2_with fail
    go_region_law (first | (refine step_append_told rfl (.tmp 5) (.tmp 8) (.slice (some ⟨w.heap.size, 0, none⟩) 0 0) (.slice (some ⟨b, o, none⟩) 1 cap) v1 rfl rfl rfl rfl R1.out ?_) | (refine step_append_told rfl (.tmp 9) (.tmp 13) v1 (.slice (some ⟨b, o + 2, none⟩) 1 (cap - 2)) v2 rfl rfl rfl rfl R2.out ?_))
    all_goals (
      go_wp2
      go_ret
      exact ⟨_, rfl, HO2.out, HB2.out⟩)
  · have e1 : axisI us = 0 := by unfold axisI; rw [if_neg h0]
    rw [e1, if_neg h0]
    obtain ⟨v1, w1, r1, o1, g1⟩ := append_told HO0 (Rd.take hv0 (k := 0) (by omega) rfl) (by simp) hs0
    have hb1 := hb0.grown g1 hs0 (fun k e => by cases e; exact Nat.le_refl _)
    have hv1 := hv.keep hb1
    have hd := Rd.cut hv1 (k := 1) (by omega) rfl hcap
    rw [if_neg (show ¬ cap = 1 by omega)] at hd
    obtain ⟨v2, w2, r2, o2, g2⟩ := append_told o1 hd (by simp; omega) hb1.size
    have hb2 := hb1.grown g2 hb1.size (fun k e => o1.ge k e)
    have R1 : Hid ((Builtin.append_ #[22, 22] 22 #[.slice (some ⟨w.heap.size, 0, none⟩) 0 0, .slice (some ⟨b, o, none⟩) 0 cap]).run Try.prog ((w.alloc (.cells #[] 3)).drew) = .ok v1 w1) := hid r1
    rw [hl] at r2
    have R2 : Hid ((Builtin.append_ #[22, 22] 22 #[v1, .slice (some ⟨b, o + 1, none⟩) 2 (cap - 1)]).run Try.prog w1 = .ok v2 w2) := hid r2
    have HO2 : Hid (Owns w2 w.heap.size v2 (ws.drop 1)) := hid (by simpa using o2)
    have HB2 := hid hb2
    rw [hl]
    clear hb0 HO0 hs0 hv0 e1 h0 r1 o1 g1 hb1 hv1 hd r2 o2 g2 hb2 hv hc
    go_enter Try.func53, Try.ntmps53
    go_wp2_with fail
    go_region_law (first | (refine step_append_told rfl (.tmp 5) (.tmp 8) (.slice (some ⟨w.heap.size, 0, none⟩) 0 0) (.slice (some ⟨b, o, none⟩) 0 cap) v1 rfl rfl rfl rfl R1.out ?_) | (refine step_append_told rfl (.tmp 9) (.tmp 13) v1 (.slice (some ⟨b, o + 1, none⟩) 2 (cap - 1)) v2 rfl rfl rfl rfl R2.out ?_))
    all_goals (
      go_wp2
      go_ret
      exact ⟨_, rfl, HO2.out, HB2.out⟩)

end Go.Proofs.Ytenibnblibnocaa
