/-
  What the drawing functions of chapter 6 hand out: a point with a direction.
-/
import Derived.Test.YtfjbdbfeolfcfaaQBun47
set_option linter.unusedVariables false
namespace Go.Proofs.Ytfjbdbfeolfcfaa
open Go.RowKit

theorem vecZ_set {ws : List Int} (h : VecZ ws) (x : Int) (hx : -6000 ≤ x ∧ x ≤ 6000) : VecZ (ws.set 0 x) := by
  refine ⟨by rw [List.length_set]; exact h.1, fun y hy => ?_⟩
  rcases List.mem_or_eq_of_mem_set hy with h1 | h1
  · exact h.2 y h1
  · rw [h1]; exact hx
set_option maxRecDepth 100000 in
set_option maxHeartbeats 4000000 in
theorem drawConicOther_any (v : Value) (n : Nat) (w : World) (h : CodeIn w v n) : Calls Try.prog 17 #[v] w (DrewP3 VecZ w) := by
  go_enter Try.func17, Try.ntmps17
  go_wp2_with fail
  refine (open_any v n _ h).mono ?_
  rintro e w1 ⟨v1, n1, rfl, HR, HB⟩
  have hsz := HB.size
  have hlt := HR.out.lt
  go_wp2_with fail
  refine (point_any _ _ _ _ 0 (by omega) _ HR hsz).mono ?_
  rintro e w2 ⟨u, z, xs, vs, q, rfl, HT, HV, HO, HZ, hq, HA, HN⟩
  have HV2 := hid HV
  have HT2 := hid HT
  have hs2 := HN.out.size
  have hx6 := HT.1
  obtain ⟨ax, cx, rfl⟩ := HO.out.reads
  clear HV HT
  go_wp2_with fail
  refine (vector4_any _ _ _ _ q xs.length (by omega) (by omega) ax cx _ HA (by omega)).mono ?_
  rintro e w3 ⟨y, ws, r, rfl, HW, HOy, hr, HC, HP⟩
  have hs3 := HP.out.size
  have HO2 := hid (HO.out.only HP.out (by omega))
  have HZ2 := hid (HZ.out.only HP.out (by omega))
  have HY2 := hid (HOy.out.base (B := w1.heap.size) (by omega))
  have HN2 := hid (HN.out.trans HP.out)
  have HWZ := hid (HW.z hx6)
  have hbl : ∀ k, y.ownBlock = some k → w2.heap.size ≤ k := HOy.out.ge
  have hxo : ∀ k, (Value.slice ax xs.length cx).ownBlock = some k → k < w2.heap.size := HO.out.lt
  have hzo : ∀ k, z.ownBlock = some k → k < w2.heap.size := HZ.out.lt
  have HBL := hid hbl
  have HXO := hid hxo
  have HZOo := hid hzo
  clear HO HZ HOy HP HN HA HW hbl hxo hzo
  by_cases hl : ws.length = 0
  · obtain ⟨ay, cy, rfl⟩ := HY2.out.reads
    have hl0 : ¬ (0 : Int) < (ws.length : Int) := by omega
    clear hl
    go_wp2
    go_ret3
    exact ⟨_, _, _, xs, vs, ws, rfl, HT2.out, HV2.out, HWZ.out, hid (HO2.out.base hsz), hid (HZ2.out.base hsz), hid (HY2.out.base hsz), only_below HB HN2.out⟩
  · obtain ⟨g, cy, rfl, hg1, hg2⟩ := HY2.out.block_of (by omega)
    have hl0 : (0 : Int) < (ws.length : Int) := by omega
    have HLN := hid hl
    clear hl
    go_wp2_with fail
    refine (pick_any _ _ _ _ r 20 (by omega) (by omega) (by omega) _ (HC.out)).mono ?_
    rintro e wHD ⟨k, r2, rfl, hk0, hk1, _, hr2, HD, HQ⟩
    replace hk1 := hk1 (by omega)
    have hs4 := HQ.out.size
    have hgR : g ≠ w.heap.size := by omega
    have HO3 := hid (HO2.out.only HQ.out (by omega))
    have HZ3 := hid (HZ2.out.only HQ.out (by omega))
    have HY3 := hid (HY2.out.only HQ.out (by omega))
    have HB3 := hid (only_below HB (HN2.out.trans HQ.out))
    clear HO2 HZ2 HY2 HN2 HQ
    by_cases h0 : k = 0
    · subst h0
      have hf := HY3.out.thaw 0
      have he : wHD.cell? ⟨g, 0, none⟩ = some (.int .i64 (ws.getD 0 0)) := HY3.out.elem (i := 0) (by have := HLN.out; omega)
      have HSE := hid (HY3.out.storeAt 0 21)
      have hgb := HBL.out g rfl
      go_wp2
      go_ret3
      exact ⟨_, _, _, xs, vs, ws.set 0 21, rfl, HT2.out, HV2.out, vecZ_set HWZ.out 21 (by omega), hid ((HO3.out.other HSE.out.2 (fun k e => by have := HXO.out k e; omega)).base hsz), hid ((HZ3.out.other HSE.out.2 (fun k e => by have := HZOo.out k e; omega)).base hsz), hid (HSE.out.1.base hsz), HB3.out.grown HSE.out.2 HB3.out.size (fun k e => by cases e; omega)⟩
    · have T : (k == 0) = false := by rw [beq_eq_false_iff_ne]; exact h0
      clear h0
      go_wp2
      go_ret3
      exact ⟨_, _, _, xs, vs, ws, rfl, HT2.out, HV2.out, HWZ.out, hid (HO3.out.base hsz), hid (HZ3.out.base hsz), hid (HY3.out.base hsz), HB3.out⟩

end Go.Proofs.Ytfjbdbfeolfcfaa
