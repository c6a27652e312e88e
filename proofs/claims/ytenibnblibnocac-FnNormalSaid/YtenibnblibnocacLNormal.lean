/-
  Proves: for every code: normal terms are cores without a prime in common, of no greater product, and their zeros, multiplied, are zeros of the form; there is one just where no place is bad.
  Conditions: none beyond the given statement's own.
-/
import Derived.Test.YtenibnblibnocacRows
import Derived.Test.YtenibnblibnocacQBun15
import Derived.Test.YtenibnblibnocacQBun26
import Derived.Test.YtenibnblibnocacQBun18
import Derived.Test.YtenibnblibnocacQBun35
import Derived.Test.YtenibnblibnocacQBun41
import Derived.Test.YtenibnblibnocacQZp3
import Derived.Test.YtenibnblibnocacQBun25
import Derived.Test.YtenibnblibnocacQBun4
import Derived.Test.YtenibnblibnocacQAppOne
import Derived.Test.YtenibnblibnocacQBun13
import Derived.Test.YtenibnblibnocacQBun28
import Derived.Test.YtenibnblibnocacQBun44
import Derived.ProofKit
import Derived.OpenShut
import Derived.ShutString
import Derived.ChangeOld
namespace Go.Proofs.Ytenibnblibnocac.fnNormal
open Go.ChangeShapes Go.WideShapes Go.ChangeAt Go.RowKit
open Go.ChangeMaps (open_string shut_string)
set_option linter.unusedVariables false
theorem norm_no {xs : List Int} {w w' : World} {e : Ending} (hz : z3B xs = false) (h : NormPost xs w e w') : ∃ u z, e = .returned (.tuple #[u, z, .bool false]) ∧ Owns w' w.heap.size u [] ∧ Owns w' w.heap.size z [] ∧ Below w.heap.size w w' := by
  obtain ⟨u, z, h1, h2, h3, _, h5⟩ := h
  have e1 : znT xs = [] := by unfold znT; rw [hz]; rfl
  have e2 : znM xs = [] := by unfold znM; rw [hz]; rfl
  rw [e1] at h2
  rw [e2] at h3
  rw [hz] at h1
  exact ⟨u, z, h1, h2, h3, h5⟩
theorem norm_yes {a b c na nb nc oa ob oc : Int} {w w' : World} {e : Ending} (hz : z3B [a, b, c] = true) (hN : (⟨na, nb, nc⟩ : T3) = nT a b c) (hM : (⟨oa, ob, oc⟩ : T3) = nM a b c) (h : NormPost [a, b, c] w e w') : ∃ u z, e = .returned (.tuple #[u, z, .bool true]) ∧ Owns w' w.heap.size u [na, nb, nc] ∧ Owns w' w.heap.size z [oa, ob, oc] ∧ Below w.heap.size w w' := by
  obtain ⟨u, z, h1, h2, h3, _, h5⟩ := h
  have e1 : znT [a, b, c] = [na, nb, nc] := by unfold znT; rw [hz]; show (nT a b c).toL = _; rw [← hN]; rfl
  have e2 : znM [a, b, c] = [oa, ob, oc] := by unfold znM; rw [hz]; show (nM a b c).toL = _; rw [← hM]; rfl
  rw [e1] at h2
  rw [e2] at h3
  rw [hz] at h1
  exact ⟨u, z, h1, h2, h3, h5⟩
theorem below_drew1 {n : Nat} {w w' : World} (h : Below n w w') : Below n w w'.drew := ⟨h.os, h.tape, h.output, h.size, h.block⟩
theorem z3_list {xs : List Int} (h : z3B xs = true) : fvB xs = true ∧ ∃ a b c, xs = [a, b, c] := by
  unfold z3B at h
  rw [Bool.and_eq_true, decide_eq_true_eq] at h
  exact ⟨h.1, list_three h.2⟩
set_option maxRecDepth 100000 in
set_option maxHeartbeats 4000000 in
theorem walk  (a0 : Option Addr) (len0 cap0 : Nat) (z0 : List Int) (w : World) (w0 : IsRow .u8 w a0 len0 cap0 z0) :
    Calls Try.prog 3 #[.slice a0 len0 cap0] w fun e w' => e = .returned (.bool true) ∧ Below w.heap.size w w' := by
  have HC := hid (codeIn_of w0)
  clear w0
  by_cases hl0 : (1048576 : Int) < (len0 : Int)
  · go_enter Try.func3, Try.ntmps3
    go_wp2
    go_ret
    exact ⟨rfl, Below.refl _ _⟩
  · go_enter Try.func3, Try.ntmps3
    go_wp2_with fail
    refine (drawZeroNormal_any _ len0 _ HC.out).mono ?_
    rintro e d1 ⟨u, xs, rfl, HT, HXo, hb0⟩
    have HB1 := hid hb0
    clear hb0
    have hxl := HT.1
    clear HT
    cases hz : z3B xs with
    | false =>
      go_wp2_with fail
      refine (zeroNormal_any u xs _ HXo.out.rd).mono ?_
      intro e0 w0 hnp2
      obtain ⟨P_o, M_o, rfl, hP2, hM2, hb2⟩ := norm_no hz hnp2
      clear hnp2
      rename World => d2
      have HB2 := hid (HB1.out.trans (hb2.mono HB1.out.size))
      have X_2 := hid (HXo.out.keep HXo.out.lt hb2)
      have P_2 := hid hP2
      have M_2 := hid hM2
      clear hP2 hM2 hb2
      go_wp2_with fail
      refine (zeroNormalS_any u xs _ X_2.out.rd).mono ?_
      intro e0 w0 hnp3
      obtain ⟨Q_o, L_o, rfl, hP3, hM3, hb3⟩ := norm_no hz hnp3
      clear hnp3
      rename World => d3
      have HB3 := hid (HB2.out.trans (hb3.mono HB2.out.size))
      have X_3 := hid (X_2.out.keep X_2.out.lt hb3)
      have P_3 := hid (P_2.out.keep P_2.out.lt hb3)
      have M_3 := hid (M_2.out.keep M_2.out.lt hb3)
      have Q_3 := hid hP3
      have L_3 := hid hM3
      clear hP3 hM3 hb3
      have HD : decide (([] : List Int) = []) = true := by simp
      clear hz
      go_wp2_with fail
      refine (sameInts_any _ _ ([] : List Int) ([] : List Int) _ P_3.out.rd Q_3.out.rd).mono ?_
      rintro e d4 ⟨rfl, k4, hw4⟩
      have hb4 : Below d3.heap.size d3 d4 := by rw [hw4]; exact below_dn (Below.refl _ _)
      have HB4 := hid (HB3.out.trans (hb4.mono HB3.out.size))
      have X_4 := hid (X_3.out.keep X_3.out.lt hb4)
      have P_4 := hid (P_3.out.keep P_3.out.lt hb4)
      have M_4 := hid (M_3.out.keep M_3.out.lt hb4)
      have Q_4 := hid (Q_3.out.keep Q_3.out.lt hb4)
      have L_4 := hid (L_3.out.keep L_3.out.lt hb4)
      clear hw4 hb4
      go_wp2_with fail
      refine (sameInts_any _ _ ([] : List Int) ([] : List Int) _ M_4.out.rd L_4.out.rd).mono ?_
      rintro e d5 ⟨rfl, k5, hw5⟩
      have hb5 : Below d4.heap.size d4 d5 := by rw [hw5]; exact below_dn (Below.refl _ _)
      have HB5 := hid (HB4.out.trans (hb5.mono HB4.out.size))
      have X_5 := hid (X_4.out.keep X_4.out.lt hb5)
      have P_5 := hid (P_4.out.keep P_4.out.lt hb5)
      have M_5 := hid (M_4.out.keep M_4.out.lt hb5)
      have Q_5 := hid (Q_4.out.keep Q_4.out.lt hb5)
      have L_5 := hid (L_4.out.keep L_4.out.lt hb5)
      clear hw5 hb5
      go_wp2_with fail
      refine (sameInts_any _ _ ([] : List Int) ([] : List Int) _ P_5.out.rd Q_5.out.rd).mono ?_
      rintro e d6 ⟨rfl, k6, hw6⟩
      have hb6 : Below d5.heap.size d5 d6 := by rw [hw6]; exact below_dn (Below.refl _ _)
      have HB6 := hid (HB5.out.trans (hb6.mono HB5.out.size))
      have X_6 := hid (X_5.out.keep X_5.out.lt hb6)
      have P_6 := hid (P_5.out.keep P_5.out.lt hb6)
      have M_6 := hid (M_5.out.keep M_5.out.lt hb6)
      have Q_6 := hid (Q_5.out.keep Q_5.out.lt hb6)
      have L_6 := hid (L_5.out.keep L_5.out.lt hb6)
      clear hw6 hb6
      go_wp2_with fail
      refine (sameInts_any _ _ ([] : List Int) ([] : List Int) _ M_6.out.rd L_6.out.rd).mono ?_
      rintro e d7 ⟨rfl, k7, hw7⟩
      have hb7 : Below d6.heap.size d6 d7 := by rw [hw7]; exact below_dn (Below.refl _ _)
      have HB7 := hid (HB6.out.trans (hb7.mono HB6.out.size))
      have X_7 := hid (X_6.out.keep X_6.out.lt hb7)
      have P_7 := hid (P_6.out.keep P_6.out.lt hb7)
      have M_7 := hid (M_6.out.keep M_6.out.lt hb7)
      have Q_7 := hid (Q_6.out.keep Q_6.out.lt hb7)
      have L_7 := hid (L_6.out.keep L_6.out.lt hb7)
      clear hw7 hb7
      go_wp2
      go_ret
      exact ⟨rfl, HB7.out⟩
    | true =>
      obtain ⟨hf, a, b, c, rfl⟩ := z3_list hz
      obtain ⟨N, hN⟩ : ∃ N, N = nT a b c := ⟨_, rfl⟩
      obtain ⟨M, hM⟩ : ∃ M, M = nM a b c := ⟨_, rfl⟩
      obtain ⟨na, nb, nc⟩ := N
      obtain ⟨oa, ob, oc⟩ := M
      have HF3 := hid (norm3_of hf hN hM)
      have HZ3 := hid hz
      have HNE := hid hN
      have HME := hid hM
      clear hf hz hN hM
      go_wp2_with fail
      refine (zeroNormal_any u [a, b, c] _ HXo.out.rd).mono ?_
      intro e0 w0 hnp2
      obtain ⟨P_o, M_o, rfl, hP2, hM2, hb2⟩ := norm_yes HZ3.out HNE.out HME.out hnp2
      clear hnp2
      rename World => d2
      have HB2 := hid (HB1.out.trans (hb2.mono HB1.out.size))
      have X_2 := hid (HXo.out.keep HXo.out.lt hb2)
      have P_2 := hid hP2
      have M_2 := hid hM2
      clear hP2 hM2 hb2
      go_wp2_with fail
      refine (zeroNormalS_any u [a, b, c] _ X_2.out.rd).mono ?_
      intro e0 w0 hnp3
      obtain ⟨Q_o, L_o, rfl, hP3, hM3, hb3⟩ := norm_yes HZ3.out HNE.out HME.out hnp3
      clear hnp3
      rename World => d3
      have HB3 := hid (HB2.out.trans (hb3.mono HB2.out.size))
      have X_3 := hid (X_2.out.keep X_2.out.lt hb3)
      have P_3 := hid (P_2.out.keep P_2.out.lt hb3)
      have M_3 := hid (M_2.out.keep M_2.out.lt hb3)
      have Q_3 := hid hP3
      have L_3 := hid hM3
      clear hP3 hM3 hb3
      have HD1 : decide ([na, nb, nc] = [na, nb, nc]) = true := by simp
      have HD2 : decide ([oa, ob, oc] = [oa, ob, oc]) = true := by simp
      go_wp2_with fail
      refine (sameInts_any _ _ [na, nb, nc] [na, nb, nc] _ P_3.out.rd Q_3.out.rd).mono ?_
      rintro e d4 ⟨rfl, k4, hw4⟩
      have hb4 : Below d3.heap.size d3 d4 := by rw [hw4]; exact below_dn (Below.refl _ _)
      have HB4 := hid (HB3.out.trans (hb4.mono HB3.out.size))
      have X_4 := hid (X_3.out.keep X_3.out.lt hb4)
      have P_4 := hid (P_3.out.keep P_3.out.lt hb4)
      have M_4 := hid (M_3.out.keep M_3.out.lt hb4)
      have Q_4 := hid (Q_3.out.keep Q_3.out.lt hb4)
      have L_4 := hid (L_3.out.keep L_3.out.lt hb4)
      clear hw4 hb4
      go_wp2_with fail
      refine (sameInts_any _ _ [oa, ob, oc] [oa, ob, oc] _ M_4.out.rd L_4.out.rd).mono ?_
      rintro e d5 ⟨rfl, k5, hw5⟩
      have hb5 : Below d4.heap.size d4 d5 := by rw [hw5]; exact below_dn (Below.refl _ _)
      have HB5 := hid (HB4.out.trans (hb5.mono HB4.out.size))
      have X_5 := hid (X_4.out.keep X_4.out.lt hb5)
      have P_5 := hid (P_4.out.keep P_4.out.lt hb5)
      have M_5 := hid (M_4.out.keep M_4.out.lt hb5)
      have Q_5 := hid (Q_4.out.keep Q_4.out.lt hb5)
      have L_5 := hid (L_4.out.keep L_4.out.lt hb5)
      clear hw5 hb5
      obtain ⟨gx, xcap, rfl, _, _⟩ := (X_5.out).block_of (Nat.succ_pos _)
      obtain ⟨gp, pcap, rfl, _, _⟩ := (P_5.out).block_of (Nat.succ_pos _)
      obtain ⟨gm, mcap, rfl, _, _⟩ := (M_5.out).block_of (Nat.succ_pos _)
      have Hcx : Hid (∀ wx : World, Below d5.heap.size d5 wx → wx.cell? ⟨gx, 0, none⟩ = some (.int .i64 a) ∧ wx.cell? ⟨gx, 1, none⟩ = some (.int .i64 b) ∧ wx.cell? ⟨gx, 2, none⟩ = some (.int .i64 c)) := hid (fun wx hb => by have k := (X_5.out).keep (X_5.out).lt hb; exact ⟨k.elem (i := 0) (show 0 < 3 by decide), k.elem (i := 1) (show 1 < 3 by decide), k.elem (i := 2) (show 2 < 3 by decide)⟩)
      have Hcp : Hid (∀ wx : World, Below d5.heap.size d5 wx → wx.cell? ⟨gp, 0, none⟩ = some (.int .i64 na) ∧ wx.cell? ⟨gp, 1, none⟩ = some (.int .i64 nb) ∧ wx.cell? ⟨gp, 2, none⟩ = some (.int .i64 nc)) := hid (fun wx hb => by have k := (P_5.out).keep (P_5.out).lt hb; exact ⟨k.elem (i := 0) (show 0 < 3 by decide), k.elem (i := 1) (show 1 < 3 by decide), k.elem (i := 2) (show 2 < 3 by decide)⟩)
      have Hcm : Hid (∀ wx : World, Below d5.heap.size d5 wx → wx.cell? ⟨gm, 0, none⟩ = some (.int .i64 oa) ∧ wx.cell? ⟨gm, 1, none⟩ = some (.int .i64 ob) ∧ wx.cell? ⟨gm, 2, none⟩ = some (.int .i64 oc)) := hid (fun wx hb => by have k := (M_5.out).keep (M_5.out).lt hb; exact ⟨k.elem (i := 0) (show 0 < 3 by decide), k.elem (i := 1) (show 1 < 3 by decide), k.elem (i := 2) (show 2 < 3 by decide)⟩)
      obtain ⟨x0, x1, x2⟩ := Hcx.out d5 (Below.refl _ _)
      obtain ⟨p0, p1, p2⟩ := Hcp.out d5 (Below.refl _ _)
      have hsz := HF3.out.fle
      obtain ⟨⟨n1, n2⟩, ⟨n3, n4⟩, ⟨n5, n6⟩⟩ := HF3.out.fnb
      obtain ⟨⟨q1, q2⟩, ⟨q3, q4⟩⟩ := HF3.out.fnp
      obtain ⟨⟨r1, r2⟩, ⟨r3, r4⟩⟩ := HF3.out.fop
      have w1 := wrap_9 (x := na * nb) (by omega) (by omega)
      have w2 := wrap_9 (x := na * nb * nc) (by omega) (by omega)
      have w3 := wrap_9 (x := a * b) (by omega) (by omega)
      have w4 := wrap_9 (x := a * b * c) (by omega) (by omega)
      have HQN : Hid (∀ (w : World) (n : Nat), Calls Try.prog 10 #[.int .i64 (na * nb * nc)] (w.drewN n) fun e w'' => e = .returned (.int .i64 ((na * nb * nc).natAbs : Nat)) ∧ ∃ m, w'' = w.drewN m) := hid (fun w n => Calls.quiet_of_same ((sizeOf_any (na * nb * nc) (by omega) (by omega) _).mono fun _ _ h => ⟨h.1, h.2.symm⟩))
      have HQX : Hid (∀ (w : World) (n : Nat), Calls Try.prog 10 #[.int .i64 (a * b * c)] (w.drewN n) fun e w'' => e = .returned (.int .i64 ((a * b * c).natAbs : Nat)) ∧ ∃ m, w'' = w.drewN m) := hid (fun w n => Calls.quiet_of_same ((sizeOf_any (a * b * c) (by omega) (by omega) _).mono fun _ _ h => ⟨h.1, h.2.symm⟩))
      obtain ⟨s1, hs1⟩ : ∃ s1, s1 = (na * nb * nc).natAbs := ⟨_, rfl⟩
      obtain ⟨s2, hs2⟩ : ∃ s2, s2 = (a * b * c).natAbs := ⟨_, rfl⟩
      rw [← hs1] at HQN hsz
      rw [← hs2] at HQX hsz
      have hle : (s1 : Int) ≤ (s2 : Int) := by omega
      clear hs1 hs2 hsz
      go_wp2_with fail
      go_quiet ((go_at_call 10; exact HQN.out _ _))
      go_wp2_with fail
      have hb6 := below_drewN (Below.refl d5.heap.size d5) nq
      obtain ⟨d6, hd6⟩ : ∃ d, d = d5.drewN nq := ⟨_, rfl⟩
      rw [← hd6] at hb6 ⊢
      have HB6 := hid (HB5.out.trans (hb6.mono HB5.out.size))
      have X_6 := hid (X_5.out.keep X_5.out.lt hb6)
      have P_6 := hid (P_5.out.keep P_5.out.lt hb6)
      have M_6 := hid (M_5.out.keep M_5.out.lt hb6)
      have HQ1 := hid hb6
      obtain ⟨x0, x1, x2⟩ := Hcx.out d6 hb6
      clear hd6 hb6
      go_quiet ((go_at_call 10; exact HQX.out _ _))
      go_wp2_with fail
      have hb7 := below_drewN (Below.refl d6.heap.size d6) nq
      obtain ⟨d7, hd7⟩ : ∃ d, d = d6.drewN nq := ⟨_, rfl⟩
      rw [← hd7] at hb7 ⊢
      have HB7 := hid (HB6.out.trans (hb7.mono HB6.out.size))
      have X_7 := hid (X_6.out.keep X_6.out.lt hb7)
      have P_7 := hid (P_6.out.keep P_6.out.lt hb7)
      have M_7 := hid (M_6.out.keep M_6.out.lt hb7)
      have HQ2 := hid (HQ1.out.trans (hb7.mono HQ1.out.size))
      clear hd7 hb7 x0 x1 x2 p0 p1 p2 w1 w2 w3 w4 HQN HQX
      have HZS : Hid (∀ (vv : Value) (wx : World), Rd wx vv [na, nb, nc] → Calls Try.prog 11 #[vv] wx (SearchPost (searchO ⟨na, nb, nc⟩) wx)) := hid (fun vv wx hr => by rw [← HF3.out.fis]; exact zeroSearch_any vv _ wx hr)
      have HNO : Hid (searchO ⟨na, nb, nc⟩ = none → (badL [a, b, c]).length ≠ 0) := hid HF3.out.fnone
      have HSO := hid HF3.out.fsome
      obtain ⟨o, ho⟩ : ∃ o, o = searchO ⟨na, nb, nc⟩ := ⟨_, rfl⟩
      rw [← ho] at HZS HNO HSO
      clear ho
      go_wp2_with fail
      refine (HZS.out _ _ P_7.out.rd).mono ?_
      rintro e d8 ⟨V_o, rfl, hO8, hb8⟩
      have HB8 := hid (HB7.out.trans (hb8.mono HB7.out.size))
      have X_8 := hid (X_7.out.keep X_7.out.lt hb8)
      have P_8 := hid (P_7.out.keep P_7.out.lt hb8)
      have M_8 := hid (M_7.out.keep M_7.out.lt hb8)
      have V_8 := hid hO8
      clear hO8
      clear hb8
      cases o with
      | none =>
        have HBN := hid (HNO.out rfl)
        obtain ⟨av, vcap, rfl⟩ := (V_8.out).reads
        have HB0 := hid ((Below.refl d8.heap.size d8).alloc (Nat.le_refl _) (.cells #[] 3))
        go_wp2_with fail
        go_loopw [14, 15] (fun s14 si wr => si = .int .i64 0 ∧ Hid (Below d8.heap.size d8 wr)) (fun _ si _ => 0)
        case atStart => exact ⟨rfl, HB0⟩
        case round =>
          obtain ⟨rfl, HL⟩ := hrel
          rename World => wr
          have HB9 := hid (HB8.out.trans (HL.out.mono HB8.out.size))
          have X_9 := hid (X_8.out.keep X_8.out.lt HL.out)
          have P_9 := hid (P_8.out.keep P_8.out.lt HL.out)
          have M_9 := hid (M_8.out.keep M_8.out.lt HL.out)
          have HPK : Hid (∀ wx : World, Below wr.heap.size wr wx → wx.cell? ⟨gp, 0, none⟩ = some (.int .i64 na) ∧ wx.cell? ⟨gp, 1, none⟩ = some (.int .i64 nb) ∧ wx.cell? ⟨gp, 2, none⟩ = some (.int .i64 nc)) := hid (fun wx hb => by have k := (P_9.out).keep (P_9.out).lt hb; exact ⟨k.elem (i := 0) (show 0 < 3 by decide), k.elem (i := 1) (show 1 < 3 by decide), k.elem (i := 2) (show 2 < 3 by decide)⟩)
          have HMK : Hid (∀ wx : World, Below wr.heap.size wr wx → wx.cell? ⟨gm, 0, none⟩ = some (.int .i64 oa) ∧ wx.cell? ⟨gm, 1, none⟩ = some (.int .i64 ob) ∧ wx.cell? ⟨gm, 2, none⟩ = some (.int .i64 oc)) := hid (fun wx hb => by have k := (M_9.out).keep (M_9.out).lt hb; exact ⟨k.elem (i := 0) (show 0 < 3 by decide), k.elem (i := 1) (show 1 < 3 by decide), k.elem (i := 2) (show 2 < 3 by decide)⟩)
          have HR0 := hid (Below.refl wr.heap.size wr)
          go_wp2_with fail
          go_loopw [16, 17, 18, 19, 20] (fun s16 s17 s18 s19 s20 wq => ∃ K : Nat, s16 = .int .i64 K ∧ K ≤ 3 ∧ Hid (Below wr.heap.size wr wq)) (fun s16 _ _ _ _ _ => 3 - (intOf s16).toNat)
          case atStart => exact ⟨0, rfl, by omega, HR0⟩
          case round =>
            obtain ⟨K, rfl, hK, HW⟩ := hrel
            rename World => wq
            rcases (show K = 0 ∨ K = 1 ∨ K = 2 ∨ K = 3 by omega) with rfl | rfl | rfl | rfl
            · skip
              obtain ⟨p0, p1, p2⟩ := HPK.out wq HW.out
              obtain ⟨A, R, q, hcv, hq⟩ := core_fine HF3.out.fco.1.1 HF3.out.fco.1.2
              have HCO : Hid (∀ W, Calls Try.prog 12 #[.int .i64 na] W fun e w' => e = .returned (.tuple #[.int .i64 A, .int .i64 R, .bool q]) ∧ Below W.heap.size W w') := hid (fun W => by rw [← hcv]; exact coreOf_any na W)
              have HGQ : Hid (∀ (w : World) (n : Nat), Calls Try.prog 13 #[.int .i64 na, .int .i64 nb] (w.drewN n) fun e w'' => e = .returned (.int .i64 (gcdV na nb)) ∧ ∃ m, w'' = w.drewN m) := hid (fun w n => Calls.quiet_of (gcd_any na nb (w.drewN n)))
              have hg := HF3.out.fgc.1
              have ho := HF3.out.ffa.1.1
              obtain ⟨G, hG⟩ : ∃ G, G = gcdV na nb := ⟨_, rfl⟩
              rw [← hG] at HGQ hg
              have TG : decide ((1 : Int) < G) = false := decide_eq_false (by omega)
              have TM : decide (oa < (1 : Int)) = false := decide_eq_false (by omega)
              have HQI := hid hq
              clear hcv hq hG hg
              go_wp2_with fail
              refine (HCO.out _).mono ?_
              rintro e wc ⟨rfl, hbc⟩
              have HWC := hid (HW.out.trans (hbc.mono HW.out.size))
              obtain ⟨p0, p1, p2⟩ := HPK.out wc HWC.out
              obtain ⟨m0, m1, m2⟩ := HMK.out wc HWC.out
              clear hbc
              cases q with
              | false =>
                go_wp2_with fail
                go_quiet ((go_at_call 13; exact HGQ.out _ _))
                go_wp2_with fail
                go_roundw
                case measure => simp only [intOf]; omega
                case rel => exact ⟨1, by go_num, by omega, hid (below_drewN HWC.out _)⟩
              | true =>
                obtain ⟨hA, hR⟩ := HQI.out rfl
                subst hA
                subst hR
                go_wp2_with fail
                go_quiet ((go_at_call 13; exact HGQ.out _ _))
                go_wp2_with fail
                go_roundw
                case measure => simp only [intOf]; omega
                case rel => exact ⟨1, by go_num, by omega, hid (below_drewN HWC.out _)⟩
            · skip
              obtain ⟨p0, p1, p2⟩ := HPK.out wq HW.out
              obtain ⟨A, R, q, hcv, hq⟩ := core_fine HF3.out.fco.2.1.1 HF3.out.fco.2.1.2
              have HCO : Hid (∀ W, Calls Try.prog 12 #[.int .i64 nb] W fun e w' => e = .returned (.tuple #[.int .i64 A, .int .i64 R, .bool q]) ∧ Below W.heap.size W w') := hid (fun W => by rw [← hcv]; exact coreOf_any nb W)
              have HGQ : Hid (∀ (w : World) (n : Nat), Calls Try.prog 13 #[.int .i64 nb, .int .i64 nc] (w.drewN n) fun e w'' => e = .returned (.int .i64 (gcdV nb nc)) ∧ ∃ m, w'' = w.drewN m) := hid (fun w n => Calls.quiet_of (gcd_any nb nc (w.drewN n)))
              have hg := HF3.out.fgc.2.1
              have ho := HF3.out.ffa.2.1.1
              obtain ⟨G, hG⟩ : ∃ G, G = gcdV nb nc := ⟨_, rfl⟩
              rw [← hG] at HGQ hg
              have TG : decide ((1 : Int) < G) = false := decide_eq_false (by omega)
              have TM : decide (ob < (1 : Int)) = false := decide_eq_false (by omega)
              have HQI := hid hq
              clear hcv hq hG hg
              go_wp2_with fail
              refine (HCO.out _).mono ?_
              rintro e wc ⟨rfl, hbc⟩
              have HWC := hid (HW.out.trans (hbc.mono HW.out.size))
              obtain ⟨p0, p1, p2⟩ := HPK.out wc HWC.out
              obtain ⟨m0, m1, m2⟩ := HMK.out wc HWC.out
              clear hbc
              cases q with
              | false =>
                go_wp2_with fail
                go_quiet ((go_at_call 13; exact HGQ.out _ _))
                go_wp2_with fail
                go_roundw
                case measure => simp only [intOf]; omega
                case rel => exact ⟨2, by go_num, by omega, hid (below_drewN HWC.out _)⟩
              | true =>
                obtain ⟨hA, hR⟩ := HQI.out rfl
                subst hA
                subst hR
                go_wp2_with fail
                go_quiet ((go_at_call 13; exact HGQ.out _ _))
                go_wp2_with fail
                go_roundw
                case measure => simp only [intOf]; omega
                case rel => exact ⟨2, by go_num, by omega, hid (below_drewN HWC.out _)⟩
            · skip
              obtain ⟨p0, p1, p2⟩ := HPK.out wq HW.out
              obtain ⟨A, R, q, hcv, hq⟩ := core_fine HF3.out.fco.2.2.1 HF3.out.fco.2.2.2
              have HCO : Hid (∀ W, Calls Try.prog 12 #[.int .i64 nc] W fun e w' => e = .returned (.tuple #[.int .i64 A, .int .i64 R, .bool q]) ∧ Below W.heap.size W w') := hid (fun W => by rw [← hcv]; exact coreOf_any nc W)
              have HGQ : Hid (∀ (w : World) (n : Nat), Calls Try.prog 13 #[.int .i64 nc, .int .i64 na] (w.drewN n) fun e w'' => e = .returned (.int .i64 (gcdV nc na)) ∧ ∃ m, w'' = w.drewN m) := hid (fun w n => Calls.quiet_of (gcd_any nc na (w.drewN n)))
              have hg := HF3.out.fgc.2.2
              have ho := HF3.out.ffa.2.2.1
              obtain ⟨G, hG⟩ : ∃ G, G = gcdV nc na := ⟨_, rfl⟩
              rw [← hG] at HGQ hg
              have TG : decide ((1 : Int) < G) = false := decide_eq_false (by omega)
              have TM : decide (oc < (1 : Int)) = false := decide_eq_false (by omega)
              have HQI := hid hq
              clear hcv hq hG hg
              go_wp2_with fail
              refine (HCO.out _).mono ?_
              rintro e wc ⟨rfl, hbc⟩
              have HWC := hid (HW.out.trans (hbc.mono HW.out.size))
              obtain ⟨p0, p1, p2⟩ := HPK.out wc HWC.out
              obtain ⟨m0, m1, m2⟩ := HMK.out wc HWC.out
              clear hbc
              cases q with
              | false =>
                go_wp2_with fail
                go_quiet ((go_at_call 13; exact HGQ.out _ _))
                go_wp2_with fail
                go_roundw
                case measure => simp only [intOf]; omega
                case rel => exact ⟨3, by go_num, by omega, hid (below_drewN HWC.out _)⟩
              | true =>
                obtain ⟨hA, hR⟩ := HQI.out rfl
                subst hA
                subst hR
                go_wp2_with fail
                go_quiet ((go_at_call 13; exact HGQ.out _ _))
                go_wp2_with fail
                go_roundw
                case measure => simp only [intOf]; omega
                case rel => exact ⟨3, by go_num, by omega, hid (below_drewN HWC.out _)⟩
            · skip
              have HB10 := hid (HB9.out.trans (HW.out.mono HB9.out.size))
              have X_10 := hid (X_9.out.keep X_9.out.lt HW.out)
              have P_10 := hid (P_9.out.keep P_9.out.lt HW.out)
              have M_10 := hid (M_9.out.keep M_9.out.lt HW.out)
              go_wp2_with fail
              refine (formBad_any _ [a, b, c] _ X_10.out.rd (by simp)).mono ?_
              rintro e d11 ⟨B_o, rfl, hO11, hb11⟩
              have HB11 := hid (HB10.out.trans (hb11.mono HB10.out.size))
              have X_11 := hid (X_10.out.keep X_10.out.lt hb11)
              have P_11 := hid (P_10.out.keep P_10.out.lt hb11)
              have M_11 := hid (M_10.out.keep M_10.out.lt hb11)
              have B_11 := hid hO11
              clear hO11
              clear hb11
              obtain ⟨ba, bcap, rfl⟩ := (B_11.out).reads
              obtain ⟨n, hn⟩ : ∃ n, n = (badL [a, b, c]).length := ⟨_, rfl⟩
              have HNB := hid hn
              rw [← hn]
              clear hn
              have TB : ((n : Int) == 0) = false := by rw [beq_eq_false_iff_ne]; have := HNB.out; have := HBN.out; omega
              go_wp2
              go_ret
              exact ⟨rfl, HB11.out⟩
      | some l =>
        obtain ⟨hb0, x, y, z, rfl, ⟨a1, a2⟩, ⟨b1, b2⟩, ⟨c1, c2⟩, hzz⟩ := HSO.out l rfl
        have HBZ := hid hb0
        have HZZ := hid hzz
        obtain ⟨gv, vcap, hve, _, _⟩ := (V_8.out).block_of (Nat.succ_pos _)
        have hve3 : V_o = .slice (some ⟨gv, 0, none⟩) 3 vcap := hve
        clear hve
        subst hve3
        have w1 := wrap_9 (x := x * oa) (by omega) (by omega)
        have w2 := wrap_9 (x := y * ob) (by omega) (by omega)
        have w3 := wrap_9 (x := z * oc) (by omega) (by omega)
        clear hb0 hzz
        have HVC : Hid (∀ wx : World, Below d8.heap.size d8 wx → wx.cell? ⟨gv, 0, none⟩ = some (.int .i64 x) ∧ wx.cell? ⟨gv, 1, none⟩ = some (.int .i64 y) ∧ wx.cell? ⟨gv, 2, none⟩ = some (.int .i64 z)) := hid (fun wx hb => by have k := (V_8.out).keep (V_8.out).lt hb; exact ⟨k.elem (i := 0) (show 0 < 3 by decide), k.elem (i := 1) (show 1 < 3 by decide), k.elem (i := 2) (show 2 < 3 by decide)⟩)
        have HMC : Hid (∀ wx : World, Below d8.heap.size d8 wx → wx.cell? ⟨gm, 0, none⟩ = some (.int .i64 oa) ∧ wx.cell? ⟨gm, 1, none⟩ = some (.int .i64 ob) ∧ wx.cell? ⟨gm, 2, none⟩ = some (.int .i64 oc)) := hid (fun wx hb => by have k := (M_8.out).keep (M_8.out).lt hb; exact ⟨k.elem (i := 0) (show 0 < 3 by decide), k.elem (i := 1) (show 1 < 3 by decide), k.elem (i := 2) (show 2 < 3 by decide)⟩)
        have HB0 := hid ((Below.refl d8.heap.size d8).alloc (Nat.le_refl _) (.cells #[] 3))
        have HO0 : Hid (Owns (d8.alloc (.cells #[] 3)) d8.heap.size (.slice (some ⟨d8.heap.size, 0, none⟩) 0 0) []) := hid (World.ownsRow_made (size := 1) d8 #[] 0 (Nat.le_refl _) (by unfold maxLen; omega) rfl)
        go_wp2_with fail
        go_loopw [14, 15] (fun so si wr => ∃ (J : Int) (K : Nat), si = .int .i64 J ∧ J = (K : Int) ∧ K ≤ 3 ∧ Hid (Owns wr d8.heap.size so ([x * oa, y * ob, z * oc].take K)) ∧ Hid (Below d8.heap.size d8 wr)) (fun _ si _ => 3 - (intOf si).toNat)
        case atStart => exact ⟨0, 0, rfl, rfl, by omega, hid HO0.out, HB0⟩
        case round =>
          obtain ⟨J, K, rfl, hJK, hK, HO, HL⟩ := hrel
          rename World => wr
          have hbs : d8.heap.size ≤ wr.heap.size := HL.out.size
          rcases (show K = 0 ∨ K = 1 ∨ K = 2 ∨ K = 3 by omega) with rfl | rfl | rfl | rfl
          · skip
            obtain rfl : J = 0 := by omega
            clear hJK
            obtain ⟨v0, v1, v2⟩ := HVC.out wr HL.out
            obtain ⟨m0, m1, m2⟩ := HMC.out wr HL.out
            obtain ⟨v', w3, hrun, hown', hgrow⟩ := append_one (wd := wr.drew) (x * oa) (show Owns wr.drew d8.heap.size _ [] from HO.out) hbs (by simp)
            have HRUN : Hid ((Builtin.append_ #[23, 23] 23 #[u14, .slice (some ⟨wr.heap.size, 0, none⟩) 1 1]).run Try.prog ((wr.alloc (.cells #[.int .i64 (x * oa)] 3)).drew) = .ok v' w3) := hid hrun
            have HBX := hid ((below_drew1 HL.out).alloc hbs (.cells #[.int .i64 (x * oa)] 3))
            have hbz : d8.heap.size ≤ (wr.drew.alloc (.cells #[.int .i64 (x * oa)] 3)).heap.size := HBX.out.size
            have HOW : Hid (Owns w3 d8.heap.size v' [x * oa]) := hid hown'
            have HGR := hid hgrow
            clear hown' hgrow hrun
            go_wp2_with fail
            go_region_law (refine step_append_told rfl (.tmp 106) (.tmp 116) u14 (.slice (some ⟨wr.heap.size, 0, none⟩) 1 1) v' rfl rfl rfl rfl HRUN.out ?_)
            all_goals (
              go_wp2
              go_round
              case measure => simp only [intOf]; omega
              case rel => exact ⟨1, 1, by go_num, by omega, by omega, HOW, hid (HBX.out.grown HGR.out hbz (fun k e => (HO.out.ge k e)))⟩)
          · skip
            obtain rfl : J = 1 := by omega
            clear hJK
            obtain ⟨v0, v1, v2⟩ := HVC.out wr HL.out
            obtain ⟨m0, m1, m2⟩ := HMC.out wr HL.out
            obtain ⟨v', w3, hrun, hown', hgrow⟩ := append_one (wd := wr.drew) (y * ob) (show Owns wr.drew d8.heap.size _ [x * oa] from HO.out) hbs (by simp)
            have HRUN : Hid ((Builtin.append_ #[23, 23] 23 #[u14, .slice (some ⟨wr.heap.size, 0, none⟩) 1 1]).run Try.prog ((wr.alloc (.cells #[.int .i64 (y * ob)] 3)).drew) = .ok v' w3) := hid hrun
            have HBX := hid ((below_drew1 HL.out).alloc hbs (.cells #[.int .i64 (y * ob)] 3))
            have hbz : d8.heap.size ≤ (wr.drew.alloc (.cells #[.int .i64 (y * ob)] 3)).heap.size := HBX.out.size
            have HOW : Hid (Owns w3 d8.heap.size v' [x * oa, y * ob]) := hid hown'
            have HGR := hid hgrow
            clear hown' hgrow hrun
            go_wp2_with fail
            go_region_law (refine step_append_told rfl (.tmp 106) (.tmp 116) u14 (.slice (some ⟨wr.heap.size, 0, none⟩) 1 1) v' rfl rfl rfl rfl HRUN.out ?_)
            all_goals (
              go_wp2
              go_round
              case measure => simp only [intOf]; omega
              case rel => exact ⟨2, 2, by go_num, by omega, by omega, HOW, hid (HBX.out.grown HGR.out hbz (fun k e => (HO.out.ge k e)))⟩)
          · skip
            obtain rfl : J = 2 := by omega
            clear hJK
            obtain ⟨v0, v1, v2⟩ := HVC.out wr HL.out
            obtain ⟨m0, m1, m2⟩ := HMC.out wr HL.out
            obtain ⟨v', w3, hrun, hown', hgrow⟩ := append_one (wd := wr.drew) (z * oc) (show Owns wr.drew d8.heap.size _ [x * oa, y * ob] from HO.out) hbs (by simp)
            have HRUN : Hid ((Builtin.append_ #[23, 23] 23 #[u14, .slice (some ⟨wr.heap.size, 0, none⟩) 1 1]).run Try.prog ((wr.alloc (.cells #[.int .i64 (z * oc)] 3)).drew) = .ok v' w3) := hid hrun
            have HBX := hid ((below_drew1 HL.out).alloc hbs (.cells #[.int .i64 (z * oc)] 3))
            have hbz : d8.heap.size ≤ (wr.drew.alloc (.cells #[.int .i64 (z * oc)] 3)).heap.size := HBX.out.size
            have HOW : Hid (Owns w3 d8.heap.size v' [x * oa, y * ob, z * oc]) := hid hown'
            have HGR := hid hgrow
            clear hown' hgrow hrun
            go_wp2_with fail
            go_region_law (refine step_append_told rfl (.tmp 106) (.tmp 116) u14 (.slice (some ⟨wr.heap.size, 0, none⟩) 1 1) v' rfl rfl rfl rfl HRUN.out ?_)
            all_goals (
              go_wp2
              go_round
              case measure => simp only [intOf]; omega
              case rel => exact ⟨3, 3, by go_num, by omega, by omega, HOW, hid (HBX.out.grown HGR.out hbz (fun k e => (HO.out.ge k e)))⟩)
          · skip
            obtain rfl : J = 3 := by omega
            clear hJK
            have HZO : Hid (Owns wr d8.heap.size _ [x * oa, y * ob, z * oc]) := hid HO.out
            have HB9 := hid (HB8.out.trans (HL.out.mono HB8.out.size))
            have X_9 := hid (X_8.out.keep X_8.out.lt HL.out)
            have P_9 := hid (P_8.out.keep P_8.out.lt HL.out)
            have M_9 := hid (M_8.out.keep M_8.out.lt HL.out)
            have HPK : Hid (∀ wx : World, Below wr.heap.size wr wx → wx.cell? ⟨gp, 0, none⟩ = some (.int .i64 na) ∧ wx.cell? ⟨gp, 1, none⟩ = some (.int .i64 nb) ∧ wx.cell? ⟨gp, 2, none⟩ = some (.int .i64 nc)) := hid (fun wx hb => by have k := (P_9.out).keep (P_9.out).lt hb; exact ⟨k.elem (i := 0) (show 0 < 3 by decide), k.elem (i := 1) (show 1 < 3 by decide), k.elem (i := 2) (show 2 < 3 by decide)⟩)
            have HMK : Hid (∀ wx : World, Below wr.heap.size wr wx → wx.cell? ⟨gm, 0, none⟩ = some (.int .i64 oa) ∧ wx.cell? ⟨gm, 1, none⟩ = some (.int .i64 ob) ∧ wx.cell? ⟨gm, 2, none⟩ = some (.int .i64 oc)) := hid (fun wx hb => by have k := (M_9.out).keep (M_9.out).lt hb; exact ⟨k.elem (i := 0) (show 0 < 3 by decide), k.elem (i := 1) (show 1 < 3 by decide), k.elem (i := 2) (show 2 < 3 by decide)⟩)
            have HR0 := hid (Below.refl wr.heap.size wr)
            go_wp2_with fail
            go_loopw [16, 17, 18, 19, 20] (fun s16 s17 s18 s19 s20 wq => ∃ K : Nat, s16 = .int .i64 K ∧ K ≤ 3 ∧ Hid (Below wr.heap.size wr wq)) (fun s16 _ _ _ _ _ => 3 - (intOf s16).toNat)
            case atStart => exact ⟨0, rfl, by omega, HR0⟩
            case round =>
              obtain ⟨K, rfl, hK, HW⟩ := hrel
              rename World => wq
              rcases (show K = 0 ∨ K = 1 ∨ K = 2 ∨ K = 3 by omega) with rfl | rfl | rfl | rfl
              · skip
                obtain ⟨p0, p1, p2⟩ := HPK.out wq HW.out
                obtain ⟨A, R, q, hcv, hq⟩ := core_fine HF3.out.fco.1.1 HF3.out.fco.1.2
                have HCO : Hid (∀ W, Calls Try.prog 12 #[.int .i64 na] W fun e w' => e = .returned (.tuple #[.int .i64 A, .int .i64 R, .bool q]) ∧ Below W.heap.size W w') := hid (fun W => by rw [← hcv]; exact coreOf_any na W)
                have HGQ : Hid (∀ (w : World) (n : Nat), Calls Try.prog 13 #[.int .i64 na, .int .i64 nb] (w.drewN n) fun e w'' => e = .returned (.int .i64 (gcdV na nb)) ∧ ∃ m, w'' = w.drewN m) := hid (fun w n => Calls.quiet_of (gcd_any na nb (w.drewN n)))
                have hg := HF3.out.fgc.1
                have ho := HF3.out.ffa.1.1
                obtain ⟨G, hG⟩ : ∃ G, G = gcdV na nb := ⟨_, rfl⟩
                rw [← hG] at HGQ hg
                have TG : decide ((1 : Int) < G) = false := decide_eq_false (by omega)
                have TM : decide (oa < (1 : Int)) = false := decide_eq_false (by omega)
                have HQI := hid hq
                clear hcv hq hG hg
                go_wp2_with fail
                refine (HCO.out _).mono ?_
                rintro e wc ⟨rfl, hbc⟩
                have HWC := hid (HW.out.trans (hbc.mono HW.out.size))
                obtain ⟨p0, p1, p2⟩ := HPK.out wc HWC.out
                obtain ⟨m0, m1, m2⟩ := HMK.out wc HWC.out
                clear hbc
                cases q with
                | false =>
                  go_wp2_with fail
                  go_quiet ((go_at_call 13; exact HGQ.out _ _))
                  go_wp2_with fail
                  go_round
                  case measure => simp only [intOf]; omega
                  case rel => exact ⟨1, by go_num, by omega, hid (below_drewN HWC.out _)⟩
                | true =>
                  obtain ⟨hA, hR⟩ := HQI.out rfl
                  subst hA
                  subst hR
                  go_wp2_with fail
                  go_quiet ((go_at_call 13; exact HGQ.out _ _))
                  go_wp2_with fail
                  go_round
                  case measure => simp only [intOf]; omega
                  case rel => exact ⟨1, by go_num, by omega, hid (below_drewN HWC.out _)⟩
              · skip
                obtain ⟨p0, p1, p2⟩ := HPK.out wq HW.out
                obtain ⟨A, R, q, hcv, hq⟩ := core_fine HF3.out.fco.2.1.1 HF3.out.fco.2.1.2
                have HCO : Hid (∀ W, Calls Try.prog 12 #[.int .i64 nb] W fun e w' => e = .returned (.tuple #[.int .i64 A, .int .i64 R, .bool q]) ∧ Below W.heap.size W w') := hid (fun W => by rw [← hcv]; exact coreOf_any nb W)
                have HGQ : Hid (∀ (w : World) (n : Nat), Calls Try.prog 13 #[.int .i64 nb, .int .i64 nc] (w.drewN n) fun e w'' => e = .returned (.int .i64 (gcdV nb nc)) ∧ ∃ m, w'' = w.drewN m) := hid (fun w n => Calls.quiet_of (gcd_any nb nc (w.drewN n)))
                have hg := HF3.out.fgc.2.1
                have ho := HF3.out.ffa.2.1.1
                obtain ⟨G, hG⟩ : ∃ G, G = gcdV nb nc := ⟨_, rfl⟩
                rw [← hG] at HGQ hg
                have TG : decide ((1 : Int) < G) = false := decide_eq_false (by omega)
                have TM : decide (ob < (1 : Int)) = false := decide_eq_false (by omega)
                have HQI := hid hq
                clear hcv hq hG hg
                go_wp2_with fail
                refine (HCO.out _).mono ?_
                rintro e wc ⟨rfl, hbc⟩
                have HWC := hid (HW.out.trans (hbc.mono HW.out.size))
                obtain ⟨p0, p1, p2⟩ := HPK.out wc HWC.out
                obtain ⟨m0, m1, m2⟩ := HMK.out wc HWC.out
                clear hbc
                cases q with
                | false =>
                  go_wp2_with fail
                  go_quiet ((go_at_call 13; exact HGQ.out _ _))
                  go_wp2_with fail
                  go_round
                  case measure => simp only [intOf]; omega
                  case rel => exact ⟨2, by go_num, by omega, hid (below_drewN HWC.out _)⟩
                | true =>
                  obtain ⟨hA, hR⟩ := HQI.out rfl
                  subst hA
                  subst hR
                  go_wp2_with fail
                  go_quiet ((go_at_call 13; exact HGQ.out _ _))
                  go_wp2_with fail
                  go_round
                  case measure => simp only [intOf]; omega
                  case rel => exact ⟨2, by go_num, by omega, hid (below_drewN HWC.out _)⟩
              · skip
                obtain ⟨p0, p1, p2⟩ := HPK.out wq HW.out
                obtain ⟨A, R, q, hcv, hq⟩ := core_fine HF3.out.fco.2.2.1 HF3.out.fco.2.2.2
                have HCO : Hid (∀ W, Calls Try.prog 12 #[.int .i64 nc] W fun e w' => e = .returned (.tuple #[.int .i64 A, .int .i64 R, .bool q]) ∧ Below W.heap.size W w') := hid (fun W => by rw [← hcv]; exact coreOf_any nc W)
                have HGQ : Hid (∀ (w : World) (n : Nat), Calls Try.prog 13 #[.int .i64 nc, .int .i64 na] (w.drewN n) fun e w'' => e = .returned (.int .i64 (gcdV nc na)) ∧ ∃ m, w'' = w.drewN m) := hid (fun w n => Calls.quiet_of (gcd_any nc na (w.drewN n)))
                have hg := HF3.out.fgc.2.2
                have ho := HF3.out.ffa.2.2.1
                obtain ⟨G, hG⟩ : ∃ G, G = gcdV nc na := ⟨_, rfl⟩
                rw [← hG] at HGQ hg
                have TG : decide ((1 : Int) < G) = false := decide_eq_false (by omega)
                have TM : decide (oc < (1 : Int)) = false := decide_eq_false (by omega)
                have HQI := hid hq
                clear hcv hq hG hg
                go_wp2_with fail
                refine (HCO.out _).mono ?_
                rintro e wc ⟨rfl, hbc⟩
                have HWC := hid (HW.out.trans (hbc.mono HW.out.size))
                obtain ⟨p0, p1, p2⟩ := HPK.out wc HWC.out
                obtain ⟨m0, m1, m2⟩ := HMK.out wc HWC.out
                clear hbc
                cases q with
                | false =>
                  go_wp2_with fail
                  go_quiet ((go_at_call 13; exact HGQ.out _ _))
                  go_wp2_with fail
                  go_round
                  case measure => simp only [intOf]; omega
                  case rel => exact ⟨3, by go_num, by omega, hid (below_drewN HWC.out _)⟩
                | true =>
                  obtain ⟨hA, hR⟩ := HQI.out rfl
                  subst hA
                  subst hR
                  go_wp2_with fail
                  go_quiet ((go_at_call 13; exact HGQ.out _ _))
                  go_wp2_with fail
                  go_round
                  case measure => simp only [intOf]; omega
                  case rel => exact ⟨3, by go_num, by omega, hid (below_drewN HWC.out _)⟩
              · skip
                have HB10 := hid (HB9.out.trans (HW.out.mono HB9.out.size))
                have X_10 := hid (X_9.out.keep X_9.out.lt HW.out)
                have P_10 := hid (P_9.out.keep P_9.out.lt HW.out)
                have M_10 := hid (M_9.out.keep M_9.out.lt HW.out)
                have Z_10 := hid (HZO.out.keep HZO.out.lt HW.out)
                go_wp2_with fail
                refine (formBad_any _ [a, b, c] _ X_10.out.rd (by simp)).mono ?_
                rintro e d11 ⟨B_o, rfl, hO11, hb11⟩
                have HB11 := hid (HB10.out.trans (hb11.mono HB10.out.size))
                have X_11 := hid (X_10.out.keep X_10.out.lt hb11)
                have P_11 := hid (P_10.out.keep P_10.out.lt hb11)
                have M_11 := hid (M_10.out.keep M_10.out.lt hb11)
                have Z_11 := hid (Z_10.out.keep Z_10.out.lt hb11)
                have B_11 := hid hO11
                clear hO11
                clear hb11
                obtain ⟨ba, bcap, rfl⟩ := (B_11.out).reads
                obtain ⟨n, hn⟩ : ∃ n, n = (badL [a, b, c]).length := ⟨_, rfl⟩
                have HNB := hid hn
                rw [← hn]
                clear hn
                have TB : ((n : Int) == 0) = true := by rw [beq_iff_eq]; have := HNB.out; have := HBZ.out; omega
                go_wp2_with fail
                refine (zeroIs_any _ _ [a, b, c] _ _ X_11.out.rd Z_11.out.rd).mono ?_
                rw [HZZ.out]
                rintro e d12 ⟨rfl, hb12⟩
                have HB12 := hid (HB11.out.trans (hb12.mono HB11.out.size))
                have X_12 := hid (X_11.out.keep X_11.out.lt hb12)
                have P_12 := hid (P_11.out.keep P_11.out.lt hb12)
                have M_12 := hid (M_11.out.keep M_11.out.lt hb12)
                have Z_12 := hid (Z_11.out.keep Z_11.out.lt hb12)
                clear hb12
                go_wp2
                go_ret
                exact ⟨rfl, HB12.out⟩
theorem own : ownKnob Try.prog.godebug = none := by kernel_rfl
theorem laidOut : laidOutB Try.prog = true := by kernel_rfl
set_option maxRecDepth 100000 in
theorem lifted (os : Os) (started : os.Started) (H : Type) (enc : TypeId × Value → H) :
    ReturnsInHanded {} Try.checked os 3 .any (Rows.fnNormalSpec.pre6 enc Try.prog Try.f3 Rows.fnNormalRow.domain false) (Rows.fnNormalSpec.post enc Try.prog Try.f3 false true false false) := by
  refine returnsInHanded_of_change (C := Try.checked) own started (by kernel_rfl) Try.func3
    (ChangeSpec.witness6 (enc := enc) (C := Try.checked) false ⟨#[], #[.slice none 0 0], []⟩ 8 (by kernel_rfl) (by kernel_rfl) (by kernel_rfl) (by kernel_rfl)) ?_
  intro W base args ds gs before hval0 hW hcnd _
  have hval : ∀ (j : Nat) t v, Try.f3.params[j]? = some t → args[j]? = some v → Value.okWide Try.prog W .any base t v := hval0
  have hW' := hW
  obtain ⟨p, q, hA0, hV, rfl, hfz, hnd⟩ := hW
  have hA : DataW.TrodAll enc Try.prog W 0 (fun _ => true) true Try.f3.params.toList args.toList ds p := hA0
  rw [Try.params3] at hA hval
  obtain ⟨v0, vs0, d0, ds0, p0, q0, hargs, rfl, rfl, h0, r0⟩ := trodAll_cons hA
  obtain ⟨rfl, rfl, rfl⟩ := trodAll_nil r0
  obtain rfl : args = #[v0] := by cases args; simp_all
  obtain ⟨rfl, rfl⟩ := trodVars_none hV
  obtain ⟨a0, len0, cap0, rfl⟩ := okWide_slice Try.underlying22 (hval 0 22 v0 rfl rfl)
  have k0 := h0
  have lt0 : ∀ x ∈ p0, x.block < W.heap.size := by obtain ⟨m, hm⟩ := k0; exact DataW.trod_lt m _ _ _ hm
  obtain ⟨z0, w0⟩ : ∃ zs, IsRow .u8 W a0 len0 cap0 zs := by
    obtain ⟨fuel, hf⟩ := h0
    rcases open_ints Try.underlying22 Try.underlying5 (by kernel_rfl) hf with ⟨hcs, _⟩ | ⟨x, l, c, zs, hcs, _, hl, hm, hz, _, hcell, hwz⟩
    · simp [Value.cells] at hcs
      obtain ⟨rfl, rfl, rfl⟩ := hcs
      exact ⟨[], .inl ⟨rfl, rfl, rfl, rfl⟩⟩
    · simp [Value.cells] at hcs
      obtain ⟨rfl, rfl, rfl⟩ := hcs
      exact ⟨zs, .inr ⟨_, rfl, hl, hm, by simpa using hz, hcell, hwz⟩⟩
  clear hA0 hval0
  refine (walk a0 len0 cap0 z0 W w0).mono fun e W' ⟨he, bel⟩ => ?_
  subst he
  exact ⟨_, rfl, _, _, _, [], _, [], hW', trodAll_mk1 (shut_bool Try.underlying4 _), (trodAll_cons_mk (Below.trod laidOut (by kernel_rfl) (of_decide_eq_true (by kernel_rfl)) k0 bel lt0) trodAll_mk0), rfl, bel.frame _, fun h => by cases h⟩
theorem over : Rows.fnNormalRow.holds Try.pinned (OpenSpec.ofChange Rows.fnNormalSpec) :=
  OpenClaim.holds_of_wide 3 Try.f3 rfl rfl rfl rfl rfl rfl rfl ⟨rfl, rfl, rfl, rfl, rfl⟩ rfl rfl rfl rfl rfl (by kernel_rfl) Try.func3 (by kernel_rfl)
    (of_decide_eq_true (by kernel_rfl)) (by unfold Func.isWrapper; first | (rw [if_pos (by decide +kernel)]; kernel_rfl) | (rw [if_neg (by decide +kernel)]; exact ⟨rfl, rfl⟩))
    (fun os started H enc _ => lifted os started H enc)
theorem proved : Rows.FnNormalSaid := over
end Go.Proofs.Ytenibnblibnocac.fnNormal
