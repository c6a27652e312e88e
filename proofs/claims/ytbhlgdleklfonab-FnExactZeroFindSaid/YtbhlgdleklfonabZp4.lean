/-
  Contracts of the program's chapter 5: zeros of two and of three terms.
-/
import Derived.Test.YtbhlgdleklfonabBun43
import Derived.Test.YtbhlgdleklfonabZp3
import Derived.Test.YtbhlgdleklfonabBun19
import Derived.Test.YtbhlgdleklfonabBun20
import Derived.BigQuiet
set_option linter.unusedVariables false
namespace Go.Proofs.Ytbhlgdleklfonab
open Go.RowKit

set_option maxRecDepth 100000 in
set_option maxHeartbeats 4000000 in
theorem zeroOfTwo_any (v : Value) (a b : Int) (a0 : a ≠ 0) (a1 : -30 ≤ a) (a2 : a ≤ 30) (b0 : b ≠ 0) (b1 : -30 ≤ b) (b2 : b ≤ 30) (w : World) (h : Rd w v [a, b]) :
    Calls Try.prog 56 #[v] w fun e w' => ∃ u, e = .returned (.tuple #[u, .bool (decide (coreG a + coreG b = 0))]) ∧ Owns w' w.heap.size u [(rootG b : Int), (rootG a : Int)] ∧ Below w.heap.size w w' := by
  have HH := hid h
  obtain ⟨ca0, _, ca, _, _⟩ := core_small a0
  obtain ⟨cb0, _, cb, _, _⟩ := core_small b0
  have HA := hid a0
  have HB := hid b0
  obtain ⟨ad, cap, rfl, hform⟩ := h.form
  obtain ⟨g, o, rfl, _, hc⟩ := hform (by simp)
  have HK : Hid (∀ W : World, Below w.heap.size w W → W.cell? ⟨g, o, none⟩ = some (.int .i64 a) ∧ W.cell? ⟨g, o + 1, none⟩ = some (.int .i64 b)) := hid (fun W hW => by
    obtain ⟨ad2, cap2, e, hform2⟩ := (HH.out.keep hW).form
    cases e
    obtain ⟨g2, o2, e2, _, hc2⟩ := hform2 (by simp)
    cases e2
    exact ⟨hc2 0 (by simp), hc2 1 (by simp)⟩)
  have k0 : w.cell? ⟨g, o, none⟩ = some (.int .i64 a) := hc 0 (by simp)
  have HD : Hid (decide (coreG a + coreG b = 0) = (coreG a == -coreG b)) := hid (by
    rw [Bool.eq_iff_iff, decide_eq_true_eq, beq_iff_eq]
    omega)
  obtain ⟨A, hA⟩ : ∃ A, A = coreG a := ⟨_, rfl⟩
  obtain ⟨B, hB⟩ : ∃ B, B = coreG b := ⟨_, rfl⟩
  obtain ⟨r, hr⟩ : ∃ r, r = rootG a := ⟨_, rfl⟩
  obtain ⟨s, hs⟩ : ∃ s, s = rootG b := ⟨_, rfl⟩
  have HCA : Hid (∀ W, Calls Try.prog 74 #[.int .i64 a] W fun e w' => e = .returned (.tuple #[.int .i64 A, .int .i64 (r : Nat)]) ∧ Below W.heap.size W w') := hid (fun W => by rw [hA, hr]; exact numCore_any a HA.out (by omega) (by omega) W)
  have HCB : Hid (∀ W, Calls Try.prog 74 #[.int .i64 b] W fun e w' => e = .returned (.tuple #[.int .i64 B, .int .i64 (s : Nat)]) ∧ Below W.heap.size W w') := hid (fun W => by rw [hB, hs]; exact numCore_any b HB.out (by omega) (by omega) W)
  rw [← hA] at ca ca0
  rw [← hB] at cb cb0
  rw [← hA, ← hB] at HD
  rw [← hA, ← hB, ← hr, ← hs]
  rw [HD.out]
  clear hA hB hr hs h hform hc
  go_enter Try.func56, Try.ntmps56
  go_wp2_with (first
    | (have m2 := hb2; go_at_call 74; refine (HCB.out _).mono ?_; rintro e w3 ⟨rfl, hb3⟩; have hb4 := hb2.trans (hb3.mono hb2.size))
    | (go_at_call 74; refine (HCA.out _).mono ?_; rintro e w2 ⟨rfl, hb2⟩; obtain ⟨_, k1⟩ := HK.out w2 hb2))
  go_ret2
  exact ⟨_, rfl, owns_lit (B := w.heap.size) [(s : Int), (r : Int)] _ rfl hb4.size (by unfold maxLen; simp), hb4.alloc hb4.size _⟩

def three0 (a b c : Int) : Option (List Int) := (searchO (nT a b c)).map (vec3 a b c)
theorem three_is (a b c : Int) : threeO a b c = (three0 a b c).map plainL := by
  unfold threeO three0
  cases searchO (nT a b c) <;> rfl
def mix3 (K : Nat) (x y z p q r : Int) : List Int := [if 0 < K then p else x, if 1 < K then q else y, if 2 < K then r else z]
theorem wrap_4 {x : Int} (h1 : -100000 ≤ x) (h2 : x ≤ 100000) : IntKind.wrap .i64 x = x := by rw [IntKind.wrap_i64]; omega

set_option maxRecDepth 100000 in
set_option maxHeartbeats 8000000 in
theorem zeroOfThree_any (v : Value) (a b c : Int) (ok : Ok3 a b c) (w : World) (h : Rd w v [a, b, c]) : Calls Try.prog 57 #[v] w (SearchPost (three0 a b c) w) := by
  have HH := hid h
  have HOK := hid ok
  obtain ⟨ad, cap, rfl, _⟩ := h.form
  have HD := hid (descend_any (nT a b c) (nM a b c) 20 (coreT a b c) (rootM a b c) ok.desc)
  have HC := hid (fun W hW => coreTerms_any (.slice ad [a, b, c].length cap) a b c HOK.out W hW)
  have HIS := hid ok.nrm.is
  have HV3 := hid (fun l hl => vec3_ok (l := l) ok hl)
  generalize hcv : v6 (coreT a b c) (rootM a b c) = cv at HD HC
  have H30 : Hid (three0 a b c = (searchO (nT a b c)).map (vec3 a b c)) := hid rfl
  have HVE : Hid (∀ l, vec3 a b c l = [(nM a b c).a * l.getD 0 0, (nM a b c).b * l.getD 1 0, (nM a b c).c * l.getD 2 0]) := hid (fun _ => rfl)
  obtain ⟨N, hN⟩ : ∃ N, N = nT a b c := ⟨_, rfl⟩
  obtain ⟨M, hM⟩ : ∃ M, M = nM a b c := ⟨_, rfl⟩
  rw [← hN] at HD HIS H30 HV3
  rw [← hM] at HD HVE
  clear hcv hN hM HOK h ok
  obtain ⟨na, nb, nc⟩ := N
  obtain ⟨oa, ob, oc⟩ := M
  have EV : v6 ⟨na, nb, nc⟩ ⟨oa, ob, oc⟩ = .agg #[.int .i64 na, .int .i64 nb, .int .i64 nc, .int .i64 oa, .int .i64 ob, .int .i64 oc] := rfl
  rw [EV] at HD
  clear EV
  have HZS : Hid (∀ (u : Value) (W : World), Rd W u [na, nb, nc] → Calls Try.prog 23 #[u] W (SearchPost (searchO ⟨na, nb, nc⟩) W)) := hid (fun u W hr => by
    have e : zsearchO [na, nb, nc] = searchO ⟨na, nb, nc⟩ := by
      unfold zsearchO
      rw [show nrmB [na, nb, nc] = true from HIS.out, if_pos rfl]
      rfl
    rw [← e]
    exact zeroSearch_any u [na, nb, nc] W hr)
  obtain ⟨o, ho⟩ : ∃ o, o = searchO ⟨na, nb, nc⟩ := ⟨_, rfl⟩
  have HO := hid ho.symm
  rw [← ho] at HZS H30
  clear ho HIS
  go_enter Try.func57, Try.ntmps57
  go_wp2_with (first
    | (go_at_call 45; refine (HC.out _ HH.out).mono ?_; rintro e w2 ⟨rfl, hb2⟩)
    | (go_at_call 46; refine (HD.out _).mono ?_; rintro e w3 ⟨rfl, hb3⟩; have hc3 := hb2.trans (hb3.mono hb2.size); have r0 : Row6 (w3.alloc (.cells #[.int .i64 0, .int .i64 0, .int .i64 0, .int .i64 0, .int .i64 0, .int .i64 0] 45)) w3.heap.size [0, 0, 0, 0, 0, 0] := Row6.new w3 [0, 0, 0, 0, 0, 0]; obtain ⟨c0, f0, c1, f1, c2, f2, c3, f3, c4, f4, c5, f5, HZ6⟩ := store6 r0 na nb nc oa ob oc))
  have hr6 : Row6 (w3.alloc (.cells #[.int .i64 na, .int .i64 nb, .int .i64 nc, .int .i64 oa, .int .i64 ob, .int .i64 oc] 45)) w3.heap.size [na, nb, nc, oa, ob, oc] := Row6.new w3 [na, nb, nc, oa, ob, oc]
  have hb4 : Below w.heap.size w (w3.alloc (.cells #[.int .i64 na, .int .i64 nb, .int .i64 nc, .int .i64 oa, .int .i64 ob, .int .i64 oc] 45)) := hc3.alloc hc3.size _
  have hB : w3.heap.size < (w3.alloc (.cells #[.int .i64 na, .int .i64 nb, .int .i64 nc, .int .i64 oa, .int .i64 ob, .int .i64 oc] 45)).heap.size := hr6.lt
  clear HD HC HH c0 f0 c1 f1 c2 f2 c3 f3 c4 f4 c5 f5 HZ6 r0 hb2 hb3 hc3
  generalize (w3.alloc (.cells #[.int .i64 na, .int .i64 nb, .int .i64 nc, .int .i64 oa, .int .i64 ob, .int .i64 oc] 45)) = W4 at hr6 hb4 hB ⊢
  refine (HZS.out _ _ (hr6.rd0 (by omega))).mono ?_
  rintro e w5 ⟨u, rfl, hu, hb5⟩
  have hr5 := hr6.keep hb5 hB
  have HB5 := hid (hb4.trans (hb5.mono hb4.size))
  have hs4 := hb4.size
  have hs5 := hb5.size
  have HW45 := hid hb5
  clear hr6 HZS hb4
  cases o with
  | none =>
    have HU : Hid (Owns w5 w.heap.size u []) := hid (hu.down hs4)
    obtain ⟨au, ucap, rfl, _⟩ := HU.out.rd.form
    clear hu hr5 hs4 hs5 hB hb5
    go_wp2_with fail
    go_loopw [7, 19] (fun s7 si wr => si = .int .i64 0 ∧ wr = w5) (fun _ si _ => 0)
    case atStart => exact ⟨rfl, rfl⟩
    case round =>
      obtain ⟨rfl, hw⟩ := hrel
      rename World => wr
      obtain rfl : w5 = wr := hw.symm
      go_wp2_with fail
      go_ret2
      exact ⟨_, by rw [H30.out]; rfl, by rw [H30.out]; exact HU.out, HB5.out⟩
  | some l =>
    obtain ⟨x, y, z, rfl, _⟩ := search_found HO.out
    have h3 := (HV3.out _ HO.out).small
    rw [HVE.out] at h3
    have p3 := h3 (oa * (x : Int)) (by simp)
    have q3 := h3 (ob * (y : Int)) (by simp)
    have r3 := h3 (oc * (z : Int)) (by simp)
    have H3V : Hid (three0 a b c = some [oa * (x : Int), ob * (y : Int), oc * (z : Int)]) := hid (by rw [H30.out]; show some (vec3 a b c [(x : Int), (y : Int), (z : Int)]) = _; rw [HVE.out]; rfl)
    obtain ⟨g, zcap, rfl, hg1, hg2⟩ := hu.block_of (Nat.succ_pos _)
    obtain ⟨X, hX⟩ : ∃ X : Int, X = (x : Int) := ⟨_, rfl⟩
    obtain ⟨Y, hY⟩ : ∃ Y : Int, Y = (y : Int) := ⟨_, rfl⟩
    obtain ⟨Z, hZ⟩ : ∃ Z : Int, Z = (z : Int) := ⟨_, rfl⟩
    rw [← hX, ← hY, ← hZ] at hu H3V
    rw [← hX, Int.mul_comm] at p3
    rw [← hY, Int.mul_comm] at q3
    rw [← hZ, Int.mul_comm] at r3
    rw [Int.mul_comm oa, Int.mul_comm ob, Int.mul_comm oc] at H3V
    have wp := wrap_4 (x := X * oa) (by omega) (by omega)
    have wq := wrap_4 (x := Y * ob) (by omega) (by omega)
    have wr := wrap_4 (x := Z * oc) (by omega) (by omega)
    have HO0 : Hid (Owns w5 W4.heap.size (.slice (some ⟨g, 0, none⟩) 3 zcap) (mix3 0 X Y Z (X * oa) (Y * ob) (Z * oc))) := hid hu
    have HR0 := hid hr5
    have hgB : w3.heap.size < g := by omega
    have hgw : w.heap.size ≤ g := by omega
    have hg4 : W4.heap.size ≤ g := hg1
    have HG := hid hs4
    clear hu hr5 hX hY hZ h3 H30 HVE HV3 HO hb5 HW45 hs4 hs5 hg1 hg2 hB
    go_wp2_with fail
    go_loopw [7, 19] (fun s7 si wr => ∃ K : Nat, si = .int .i64 K ∧ K ≤ 3 ∧ Hid (Owns wr W4.heap.size (.slice (some ⟨g, 0, none⟩) 3 zcap) (mix3 K X Y Z (X * oa) (Y * ob) (Z * oc))) ∧ Hid (Row6 wr w3.heap.size [na, nb, nc, oa, ob, oc]) ∧ Hid (Below w.heap.size w wr)) (fun _ si _ => 3 - (intOf si).toNat)
    case atStart => exact ⟨0, rfl, by omega, HO0, HR0, HB5⟩
    case round =>
      obtain ⟨K, rfl, hK, HOW, HRW, HBW⟩ := hrel
      rename World => wr
      clear HO0 HR0 HB5
      rcases (show K = 0 ∨ K = 1 ∨ K = 2 ∨ K = 3 by omega) with rfl | rfl | rfl | rfl
      · have cz : wr.cell? ⟨g, 0, none⟩ = some (.int .i64 X) := HOW.out.elem (i := 0) (show 0 < 3 by decide)
        have fz : wr.frozen? ⟨g, 0, none⟩ = false := HOW.out.thaw 0
        have cm : wr.cell? ⟨w3.heap.size, 3, none⟩ = some (.int .i64 oa) := HRW.out.cell (i := 3) (show 3 < 6 by decide)
        have HSO := hid ((show Owns wr.drew W4.heap.size (.slice (some ⟨g, 0, none⟩) 3 zcap) (mix3 0 X Y Z (X * oa) (Y * ob) (Z * oc)) from HOW.out).storeAt 0 (X * oa)).1
        go_wp2_with fail
        go_region
        all_goals (
          go_wp2
          go_roundw
          case measure => simp only [intOf]; omega
          case rel => exact ⟨1, by go_num, by omega, HSO, hid ((show Row6 wr.drew w3.heap.size [na, nb, nc, oa, ob, oc] from HRW.out).other (by omega) _ _), hid (HBW.out.drew.setCell (p := ⟨g, 0, none⟩) hgw _)⟩)
      · have cz : wr.cell? ⟨g, 1, none⟩ = some (.int .i64 Y) := HOW.out.elem (i := 1) (show 1 < 3 by decide)
        have fz : wr.frozen? ⟨g, 1, none⟩ = false := HOW.out.thaw 1
        have cm : wr.cell? ⟨w3.heap.size, 4, none⟩ = some (.int .i64 ob) := HRW.out.cell (i := 4) (show 4 < 6 by decide)
        have HSO := hid ((show Owns wr.drew W4.heap.size (.slice (some ⟨g, 0, none⟩) 3 zcap) (mix3 1 X Y Z (X * oa) (Y * ob) (Z * oc)) from HOW.out).storeAt 1 (Y * ob)).1
        go_wp2_with fail
        go_region
        all_goals (
          go_wp2
          go_roundw
          case measure => simp only [intOf]; omega
          case rel => exact ⟨2, by go_num, by omega, HSO, hid ((show Row6 wr.drew w3.heap.size [na, nb, nc, oa, ob, oc] from HRW.out).other (by omega) _ _), hid (HBW.out.drew.setCell (p := ⟨g, 1, none⟩) hgw _)⟩)
      · have cz : wr.cell? ⟨g, 2, none⟩ = some (.int .i64 Z) := HOW.out.elem (i := 2) (show 2 < 3 by decide)
        have fz : wr.frozen? ⟨g, 2, none⟩ = false := HOW.out.thaw 2
        have cm : wr.cell? ⟨w3.heap.size, 5, none⟩ = some (.int .i64 oc) := HRW.out.cell (i := 5) (show 5 < 6 by decide)
        have HSO := hid ((show Owns wr.drew W4.heap.size (.slice (some ⟨g, 0, none⟩) 3 zcap) (mix3 2 X Y Z (X * oa) (Y * ob) (Z * oc)) from HOW.out).storeAt 2 (Z * oc)).1
        go_wp2_with fail
        go_region
        all_goals (
          go_wp2
          go_roundw
          case measure => simp only [intOf]; omega
          case rel => exact ⟨3, by go_num, by omega, HSO, hid ((show Row6 wr.drew w3.heap.size [na, nb, nc, oa, ob, oc] from HRW.out).other (by omega) _ _), hid (HBW.out.drew.setCell (p := ⟨g, 2, none⟩) hgw _)⟩)
      · have HUU : Hid (Owns wr w.heap.size (.slice (some ⟨g, 0, none⟩) 3 zcap) [X * oa, Y * ob, Z * oc]) := hid ((show Owns wr W4.heap.size (.slice (some ⟨g, 0, none⟩) 3 zcap) [X * oa, Y * ob, Z * oc] from HOW.out).down HG.out)
        go_wp2_with fail
        go_ret2
        exact ⟨_, by rw [H3V.out]; rfl, by rw [H3V.out]; exact HUU.out, HBW.out⟩

end Go.Proofs.Ytbhlgdleklfonab
