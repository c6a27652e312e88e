/-
  Proves: for every list the program's ZeroNormal answers as the model's, in memory of its own.
  Conditions: none beyond the given statement's own.
-/
import Derived.Test.YtbhlgdleklfonabZp2c4
import Derived.Test.YtbhlgdleklfonabBun14
import Derived.Lib.Walk
import Derived.Lib.SliceRun
import Derived.Test.YtbhlgdleklfonabBun22
import Derived.Deep.RegionWith
import Derived.Test.YtbhlgdleklfonabRows
import Derived.Test.YtbhlgdleklfonabMk2
import Derived.Test.YtbhlgdleklfonabZm5
import Derived.ProofKit
import Derived.OpenShut
import Derived.ShutString
import Derived.ChangeOld
set_option linter.unusedVariables false
namespace Go.Proofs.Ytbhlgdleklfonab
open Go.RowKit

set_option maxRecDepth 100000 in
set_option maxHeartbeats 4000000 in
theorem clone_any (ad : Addr) (n c : Nat) (xs : List Int) (hl : xs.length ≤ 1000) (w : World) (h : Rd w (.slice (some ad) n c) xs) :
    Calls Try.prog 47 #[.slice (some ad) n c] w fun e w' => ∃ u, e = .returned u ∧ Owns w' w.heap.size u xs ∧ Below w.heap.size w w' := by
  have HO0 : Hid (Owns (w.alloc (.cells #[] 3)) w.heap.size (.slice (some ⟨w.heap.size, 0, none⟩) 0 0) []) := hid (World.ownsRow_made (size := 1) w #[] 0 (Nat.le_refl _) (by unfold maxLen; omega) rfl)
  have HB0 := hid ((Below.refl w.heap.size w).alloc (Nat.le_refl _) (.cells #[] 3))
  have HX0 := hid (h.keep HB0.out)
  have FU : Hid (Firm (.slice (some ad) n c)) := hid (.inr ⟨_, _, _, rfl⟩)
  have q22 : ∀ (w : World), (binOp .eql 22 (.slice (some ad) n c) (.slice none 0 0)).run Try.prog w = .ok (.bool false) w := fun w => Lib.run_eql_slice_nil w _ _ (some ad) n c 0 0 Try.underlying22
  clear h
  go_enter Try.func47, Try.ntmps47
  go_wp2_with (at_builtin; refine append_rd rfl _ _ rfl w.heap.size _ [] rfl HO0.out _ xs rfl HX0.out FU.out (by simp; omega) (by simp) ?_; intro v1 w1 o1 g1; have HO1 : Hid (Owns w1 w.heap.size v1 xs) := hid o1; have HB1 := hid (HB0.out.grown g1 (by simp) (fun k e => HO0.out.ge k e)); clear o1 g1)
  go_ret
  exact ⟨_, rfl, HO1.out, HB1.out⟩
end Go.Proofs.Ytbhlgdleklfonab

set_option linter.unusedVariables false
namespace Go.Proofs.Ytbhlgdleklfonab
open Go.RowKit

theorem Row6.rd0 {W : World} {B c' : Nat} {a b c d e f : Int} (h : Row6 W B [a, b, c, d, e, f]) (hc : 3 ≤ c') : Rd W (.slice (some ⟨B, 0, none⟩) 3 c') [a, b, c] := by
  refine .inr ⟨B, 0, c', rfl, ⟨by simp, hc⟩, by simp [maxLen], fun i hi => ?_⟩
  have h3 : i < 3 := hi
  rcases (show i = 0 ∨ i = 1 ∨ i = 2 by omega) with rfl | rfl | rfl
  · exact h.cell (i := 0) (by simp)
  · exact h.cell (i := 1) (by simp)
  · exact h.cell (i := 2) (by simp)
theorem Row6.rd3 {W : World} {B c' : Nat} {a b c d e f : Int} (h : Row6 W B [a, b, c, d, e, f]) (hc : 3 ≤ c') : Rd W (.slice (some ⟨B, 3, none⟩) 3 c') [d, e, f] := by
  refine .inr ⟨B, 3, c', rfl, ⟨by simp, hc⟩, by simp [maxLen], fun i hi => ?_⟩
  have h3 : i < 3 := hi
  rcases (show i = 0 ∨ i = 1 ∨ i = 2 by omega) with rfl | rfl | rfl
  · exact h.cell (i := 3) (by simp)
  · exact h.cell (i := 4) (by simp)
  · exact h.cell (i := 5) (by simp)
theorem norm_done {w W4 w5 w6 : World} {xs ls ms : List Int} {u z : Value} (hz3 : z3B xs = true) (ht : znT xs = ls) (hm : znM xs = ms) (l1 : 0 < ls.length) (l2 : 0 < ms.length) (h4 : Below w.heap.size w W4) (h5 : Below W4.heap.size W4 w5) (hu : Owns w5 W4.heap.size u ls) (h6 : Below w5.heap.size w5 w6) (hz : Owns w6 w5.heap.size z ms) :
    NormPost xs w (.returned (.tuple #[u, z, .bool true])) w6 := by
  obtain ⟨g, c1, hg, g1, g2⟩ := hu.block_of l1
  obtain ⟨k, c2, hk, k1, k2⟩ := hz.block_of l2
  have s4 := h4.size
  have s5 := h5.size
  refine ⟨u, z, by rw [hz3], ?_, ?_, ⟨g, k, by rw [hg]; rfl, by rw [hk]; rfl, by omega⟩, h4.trans ((h5.trans (h6.mono s5)).mono s4)⟩
  · rw [ht]
    exact (hu.keep hu.lt h6).down s4
  · rw [hm]
    exact hz.down (by omega)
set_option maxRecDepth 100000 in
set_option maxHeartbeats 8000000 in
theorem zeroNormal_any (v : Value) (xs : List Int) (w : World) (h : Rd w v xs) : Calls Try.prog 21 #[v] w (NormPost xs w) := by
  have HH := hid h
  have hmx := rd_max h
  obtain ⟨ad, cap, rfl, _⟩ := h.form
  have HE := hid (norm_empty (Below.refl w.heap.size w))
  have hno : z3B xs = false → znT xs = [] ∧ znM xs = [] := fun e => by unfold znT znM; rw [e]; exact ⟨rfl, rfl⟩
  clear h
  cases hf : fvB xs with
  | false =>
    have HF := hid hf
    have hz : z3B xs = false := by unfold z3B; rw [hf]; rfl
    have HZ := hid hz
    have HN := hid (hno hz)
    clear hf hz hno
    go_enter Try.func21, Try.ntmps21
    go_wp2_with (go_at_call 37; refine (formValidP_any _ xs _ HH.out).mono ?_; rw [HF.out]; rintro e w' ⟨rfl, rfl⟩)
    go_ret3
    exact ⟨_, _, by rw [HZ.out]; rfl, by rw [HN.out.1]; exact HE.out.1, by rw [HN.out.2]; exact HE.out.2.1, ⟨w.heap.size, w.heap.size + 1, rfl, rfl, by omega⟩, HE.out.2.2⟩
  | true =>
    have HF := hid hf
    by_cases hl : xs.length = 3
    · have hli : (xs.length : Int) = 3 := by omega
      have T : ((xs.length : Int) != 3) = false := by rw [bne_eq_false_iff_eq]; exact hli
      obtain ⟨a, b, c, rfl⟩ := list_three hl
      have HZ : Hid (z3B [a, b, c] = true) := hid (by unfold z3B; rw [hf]; rfl)
      have HN : Hid (znT [a, b, c] = (nT a b c).toL ∧ znM [a, b, c] = (nM a b c).toL) := hid (by unfold znT znM; rw [HZ.out]; exact ⟨rfl, rfl⟩)
      have HOK := hid (ok3_of hf)
      have HD := hid (descend_any (nT a b c) (nM a b c) 20 (coreT a b c) (rootM a b c) HOK.out.desc)
      have HC := hid (fun W hW => coreTerms_any (.slice ad [a, b, c].length cap) a b c HOK.out W hW)
      generalize hcv : v6 (coreT a b c) (rootM a b c) = cv at HD HC
      obtain ⟨N, hN⟩ : ∃ N, N = nT a b c := ⟨_, rfl⟩
      obtain ⟨M, hM⟩ : ∃ M, M = nM a b c := ⟨_, rfl⟩
      rw [← hN, ← hM] at HN HD
      clear hf hno hl hli HE hcv hN hM HOK
      obtain ⟨na, nb, nc⟩ := N
      obtain ⟨oa, ob, oc⟩ := M
      have EV : v6 ⟨na, nb, nc⟩ ⟨oa, ob, oc⟩ = .agg #[.int .i64 na, .int .i64 nb, .int .i64 nc, .int .i64 oa, .int .i64 ob, .int .i64 oc] := rfl
      rw [EV] at HD
      clear EV
      go_enter Try.func21, Try.ntmps21
      go_wp2_with (first
        | (go_at_call 37; refine (formValidP_any _ _ _ HH.out).mono ?_; rw [HF.out]; rintro e w' ⟨rfl, rfl⟩)
        | (go_at_call 45; refine (HC.out _ HH.out).mono ?_; rintro e w2 ⟨rfl, hb2⟩)
        | (go_at_call 46; refine (HD.out _).mono ?_; rintro e w3 ⟨rfl, hb3⟩; have hc3 := hb2.trans (hb3.mono hb2.size); have r0 : Row6 (w3.alloc (.cells #[.int .i64 0, .int .i64 0, .int .i64 0, .int .i64 0, .int .i64 0, .int .i64 0] 45)) w3.heap.size [0, 0, 0, 0, 0, 0] := Row6.new w3 [0, 0, 0, 0, 0, 0]; obtain ⟨c0, f0, c1, f1, c2, f2, c3, f3, c4, f4, c5, f5, HZ6⟩ := store6 r0 na nb nc oa ob oc))
      have hr6 : Row6 (w3.alloc (.cells #[.int .i64 na, .int .i64 nb, .int .i64 nc, .int .i64 oa, .int .i64 ob, .int .i64 oc] 45)) w3.heap.size [na, nb, nc, oa, ob, oc] := Row6.new w3 [na, nb, nc, oa, ob, oc]
      have hb4 : Below w.heap.size w (w3.alloc (.cells #[.int .i64 na, .int .i64 nb, .int .i64 nc, .int .i64 oa, .int .i64 ob, .int .i64 oc] 45)) := hc3.alloc hc3.size _
      have hB : w3.heap.size < (w3.alloc (.cells #[.int .i64 na, .int .i64 nb, .int .i64 nc, .int .i64 oa, .int .i64 ob, .int .i64 oc] 45)).heap.size := hr6.lt
      clear HD HC HH HF c0 f0 c1 f1 c2 f2 c3 f3 c4 f4 c5 f5 HZ6 r0 hb2 hb3
      generalize (w3.alloc (.cells #[.int .i64 na, .int .i64 nb, .int .i64 nc, .int .i64 oa, .int .i64 ob, .int .i64 oc] 45)) = W4 at hr6 hb4 hB ⊢
      have HC0 : Hid (∀ c W, 3 ≤ c → Below W4.heap.size W4 W → Calls Try.prog 47 #[.slice (some ⟨w3.heap.size, 0, none⟩) 3 c] W fun e w' => ∃ u, e = .returned u ∧ Owns w' W.heap.size u [na, nb, nc] ∧ Below W.heap.size W w') := hid (fun c W hc hW => clone_any _ 3 c [na, nb, nc] (by simp) W ((hr6.keep hW hB).rd0 hc))
      have HC3 : Hid (∀ c W, 3 ≤ c → Below W4.heap.size W4 W → Calls Try.prog 47 #[.slice (some ⟨w3.heap.size, 3, none⟩) 3 c] W fun e w' => ∃ u, e = .returned u ∧ Owns w' W.heap.size u [oa, ob, oc] ∧ Below W.heap.size W w') := hid (fun c W hc hW => clone_any _ 3 c [oa, ob, oc] (by simp) W ((hr6.keep hW hB).rd3 hc))
      have hbd : Below W4.heap.size W4 W4.drew := (Below.refl _ _).drew
      have HFIN : Hid (∀ w5 w6 u z, Below W4.heap.size W4 w5 → Owns w5 W4.heap.size u [na, nb, nc] → Below w5.heap.size w5 w6 → Owns w6 w5.heap.size z [oa, ob, oc] → NormPost [a, b, c] w (.returned (.tuple #[u, z, .bool true])) w6) := hid (fun w5 w6 u z h5 hu h6 hz => norm_done (ls := [na, nb, nc]) (ms := [oa, ob, oc]) HZ.out HN.out.1 HN.out.2 (Nat.succ_pos _) (Nat.succ_pos _) hb4 h5 hu h6 hz)
      clear hr6 hb4
      go_region_with (first
        | (have m5 := hc5; go_at_call 47; refine (HC3.out _ _ (by omega) hc5).mono ?_; rintro e w6 ⟨z, rfl, hz, hb6⟩)
        | (go_at_call 47; refine (HC0.out _ _ (by omega) hbd).mono ?_; rintro e w5 ⟨u, rfl, hu, hb5⟩; have hc5 := hbd.trans (hb5.mono hbd.size)))
      all_goals (
        go_wp2
        go_ret3
        exact HFIN.out _ _ _ _ hc5 hu hb6 hz)
    · have T : ((xs.length : Int) != 3) = true := by rw [bne_iff_ne]; omega
      have hz : z3B xs = false := by unfold z3B; rw [decide_eq_false hl, Bool.and_false]
      have HZ := hid hz
      have HN := hid (hno hz)
      clear hf hz hno hl
      go_enter Try.func21, Try.ntmps21
      go_wp2_with (go_at_call 37; refine (formValidP_any _ xs _ HH.out).mono ?_; rw [HF.out]; rintro e w' ⟨rfl, rfl⟩)
      go_ret3
      exact ⟨_, _, by rw [HZ.out]; rfl, by rw [HN.out.1]; exact HE.out.1, by rw [HN.out.2]; exact HE.out.2.1, ⟨w.heap.size, w.heap.size + 1, rfl, rfl, by omega⟩, HE.out.2.2⟩
end Go.Proofs.Ytbhlgdleklfonab

namespace Go.Proofs.Ytbhlgdleklfonab.fnExactZeroNormal
open Go.ChangeShapes Go.WideShapes Go.ChangeAt Go.RowKit
open Go.ChangeMaps (open_string shut_string)
set_option linter.unusedVariables false
set_option maxRecDepth 100000 in
set_option maxHeartbeats 2000000 in
theorem walk  (a0 : Option Addr) (len0 cap0 : Nat) (z0 : List Int) (w : World) (w0 : IsRow .i64 w a0 len0 cap0 z0) :
    Calls Try.prog 5 #[.slice a0 len0 cap0] w fun e w' => e = .returned (.bool true) ∧ Below w.heap.size w w' := by
  obtain ⟨xs0, hxl0, hrd0⟩ := rd_row w0
  have RA0 := hid hrd0
  have HXL0 := hid hxl0
  clear hrd0 hxl0 w0
  by_cases hl0a : (1048576 : Int) < (len0 : Int)
  · go_enter Try.func5, Try.ntmps5
    go_wp2
    go_ret
    exact ⟨rfl, Below.refl _ _⟩
  have hl0 : xs0.length ≤ 1048576 := by have := HXL0.out; omega
  have HD0 : decide (xs0 = xs0) = true := by simp
  have B0 := hid (Below.refl w.heap.size w)
  obtain ⟨L, hL⟩ : ∃ L, L = znT xs0 := ⟨_, rfl⟩
  obtain ⟨M, hM⟩ : ∃ M, M = znM xs0 := ⟨_, rfl⟩
  obtain ⟨c, hc⟩ : ∃ c : Bool, c = z3B xs0 := ⟨_, rfl⟩
  have hlen : L.length ≤ 1000 := by rw [hL]; unfold znT; split <;> simp [T3.toL]
  have hlen2 : M.length ≤ 1000 := by rw [hM]; unfold znM; split <;> simp [T3.toL]
  have S : Hid (∀ (v : Value) (w : World), Rd w v xs0 → Calls Try.prog 20 #[v] w fun e w' => ∃ u z, e = .returned (.tuple #[u, z, .bool c]) ∧ Owns w' w.heap.size u L ∧ Owns w' w.heap.size z M ∧ (∃ g k, u.ownBlock = some g ∧ z.ownBlock = some k ∧ g ≠ k) ∧ Below w.heap.size w w') := hid (fun v w h0 => by rw [hL, hM, hc]; exact zeroNormalS_any v xs0 w h0)
  have I : Hid (∀ (v : Value) (w : World), Rd w v xs0 → Calls Try.prog 21 #[v] w fun e w' => ∃ u z, e = .returned (.tuple #[u, z, .bool c]) ∧ Owns w' w.heap.size u L ∧ Owns w' w.heap.size z M ∧ (∃ g k, u.ownBlock = some g ∧ z.ownBlock = some k ∧ g ≠ k) ∧ Below w.heap.size w w') := hid (fun v w h0 => by rw [hL, hM, hc]; exact zeroNormal_any v xs0 w h0)
  have HDL : decide (L = L) = true := by simp
  have HDM : decide (M = M) = true := by simp
  have T1 : ((1 + (L.length : Int) + (M.length : Int)) != 1 + L.length + M.length) = false := by simp
  have T2 : ¬ ((1 + (L.length : Int)) < 0) := by omega
  have T3 : ¬ ((1 + (L.length : Int) + (M.length : Int)) < 0) := by omega
  clear hL hM hc
  go_enter Try.func5, Try.ntmps5
  obtain ⟨W0, hW0⟩ : ∃ W0, W0 = w := ⟨_, rfl⟩
  have B0 : Hid (Below w.heap.size w W0) := hid (by rw [hW0]; exact Below.refl _ _)
  rw [← hW0]
  have HW0 := hid hW0
  clear hW0
  go_wp2_with fail
  refine (toIntS_any _ xs0 _ (RA0.out.keep2 B0.out) hl0).mono ?_
  rintro e W1 ⟨u0, rfl, o1, b1, f1⟩
  have Fu0 : Hid (Firm u0) := hid (.inr f1)
  clear f1
  have E1 := hid b1
  have s1 : W0.heap.size ≤ W1.heap.size := E1.out.size
  clear b1
  have B1 := hid (B0.out.trans (E1.out.mono B0.out.size))
  have Ou0_1 := hid o1
  have LTu0 := hid o1.lt
  clear o1
  go_wp2_with fail
  refine (S.out _ _ Ou0_1.out.rd).mono ?_
  rintro e W2 ⟨p0, q0, rfl, oa2, ob2, ne2, b2⟩
  have E2 := hid b2
  have s2 : W1.heap.size ≤ W2.heap.size := E2.out.size
  clear b2
  have B2 := hid (B1.out.trans (E2.out.mono B1.out.size))
  have Ou0_2 := hid (Ou0_1.out.keep Ou0_1.out.lt E2.out)
  have Op0_2 := hid oa2
  have LTp0 := hid oa2.lt
  clear oa2
  have Oq0_2 := hid ob2
  have LTq0 := hid ob2.lt
  clear ob2
  have NEp0 : Hid (p0.ownBlock = none ∨ p0.ownBlock ≠ q0.ownBlock) := hid (by obtain ⟨g, k, h1, h2, h3⟩ := ne2; right; rw [h1, h2]; intro h; exact h3 (Option.some.inj h))
  have NEq0 : Hid (q0.ownBlock = none ∨ q0.ownBlock ≠ p0.ownBlock) := hid (by obtain ⟨g, k, h1, h2, h3⟩ := ne2; right; rw [h1, h2]; intro h; exact h3 (Option.some.inj h).symm)
  clear ne2
  go_wp2_with fail
  refine (toIntS_any _ xs0 _ (RA0.out.keep2 B2.out) hl0).mono ?_
  rintro e W3 ⟨y0, rfl, o3, b3, f3⟩
  have Fy0 : Hid (Firm y0) := hid (.inr f3)
  clear f3
  have E3 := hid b3
  have s3 : W2.heap.size ≤ W3.heap.size := E3.out.size
  clear b3
  have B3 := hid (B2.out.trans (E3.out.mono B2.out.size))
  have Op0_3 := hid (Op0_2.out.keep Op0_2.out.lt E3.out)
  have Oq0_3 := hid (Oq0_2.out.keep Oq0_2.out.lt E3.out)
  have Oy0_3 := hid o3
  have LTy0 := hid o3.lt
  clear o3
  go_wp2_with fail
  refine (I.out _ _ Oy0_3.out.rd).mono ?_
  rintro e W4 ⟨p1, q1, rfl, oa4, ob4, ne4, b4⟩
  have E4 := hid b4
  have s4 : W3.heap.size ≤ W4.heap.size := E4.out.size
  clear b4
  have B4 := hid (B3.out.trans (E4.out.mono B3.out.size))
  have Op0_4 := hid (Op0_3.out.keep Op0_3.out.lt E4.out)
  have Oq0_4 := hid (Oq0_3.out.keep Oq0_3.out.lt E4.out)
  have Oy0_4 := hid (Oy0_3.out.keep Oy0_3.out.lt E4.out)
  have Op1_4 := hid oa4
  have LTp1 := hid oa4.lt
  clear oa4
  have Oq1_4 := hid ob4
  have LTq1 := hid ob4.lt
  clear ob4
  have NEp1 : Hid (p1.ownBlock = none ∨ p1.ownBlock ≠ q1.ownBlock) := hid (by obtain ⟨g, k, h1, h2, h3⟩ := ne4; right; rw [h1, h2]; intro h; exact h3 (Option.some.inj h))
  have NEq1 : Hid (q1.ownBlock = none ∨ q1.ownBlock ≠ p1.ownBlock) := hid (by obtain ⟨g, k, h1, h2, h3⟩ := ne4; right; rw [h1, h2]; intro h; exact h3 (Option.some.inj h).symm)
  clear ne4
  go_wp2_with fail
  refine (eqIntS_any _ _ L L _ Op1_4.out.rd Op0_4.out.rd).mono ?_
  rintro e W5 ⟨rfl, k5, hk5⟩
  have b5 : Below W4.heap.size W4 W5 := by rw [hk5]; exact below_drewN (Below.refl _ _) k5
  clear hk5
  have E5 := hid b5
  have s5 : W4.heap.size ≤ W5.heap.size := E5.out.size
  clear b5
  have B5 := hid (B4.out.trans (E5.out.mono B4.out.size))
  have Op0_5 := hid (Op0_4.out.keep Op0_4.out.lt E5.out)
  have Oq0_5 := hid (Oq0_4.out.keep Oq0_4.out.lt E5.out)
  have Oy0_5 := hid (Oy0_4.out.keep Oy0_4.out.lt E5.out)
  have Op1_5 := hid (Op1_4.out.keep Op1_4.out.lt E5.out)
  have Oq1_5 := hid (Oq1_4.out.keep Oq1_4.out.lt E5.out)
  go_wp2_with fail
  refine (eqIntS_any _ _ M M _ Oq1_5.out.rd Oq0_5.out.rd).mono ?_
  rintro e W6 ⟨rfl, k6, hk6⟩
  have b6 : Below W5.heap.size W5 W6 := by rw [hk6]; exact below_drewN (Below.refl _ _) k6
  clear hk6
  have E6 := hid b6
  have s6 : W5.heap.size ≤ W6.heap.size := E6.out.size
  clear b6
  have B6 := hid (B5.out.trans (E6.out.mono B5.out.size))
  have Op0_6 := hid (Op0_5.out.keep Op0_5.out.lt E6.out)
  have Oq0_6 := hid (Oq0_5.out.keep Oq0_5.out.lt E6.out)
  have Oy0_6 := hid (Oy0_5.out.keep Oy0_5.out.lt E6.out)
  have Op1_6 := hid (Op1_5.out.keep Op1_5.out.lt E6.out)
  have Oq1_6 := hid (Oq1_5.out.keep Oq1_5.out.lt E6.out)
  go_wp2_with fail
  refine (toIntS_any _ xs0 _ (RA0.out.keep2 B6.out) hl0).mono ?_
  rintro e W7 ⟨t0, rfl, o7, b7, f7⟩
  have Ft0 : Hid (Firm t0) := hid (.inr f7)
  clear f7
  have E7 := hid b7
  have s7 : W6.heap.size ≤ W7.heap.size := E7.out.size
  clear b7
  have B7 := hid (B6.out.trans (E7.out.mono B6.out.size))
  have Op0_7 := hid (Op0_6.out.keep Op0_6.out.lt E7.out)
  have Oq0_7 := hid (Oq0_6.out.keep Oq0_6.out.lt E7.out)
  have Oy0_7 := hid (Oy0_6.out.keep Oy0_6.out.lt E7.out)
  have Op1_7 := hid (Op1_6.out.keep Op1_6.out.lt E7.out)
  have Oq1_7 := hid (Oq1_6.out.keep Oq1_6.out.lt E7.out)
  have Ot0_7 := hid o7
  have LTt0 := hid o7.lt
  clear o7
  go_wp2_with fail
  refine (eqIntS_any _ _ xs0 xs0 _ Oy0_7.out.rd Ot0_7.out.rd).mono ?_
  rintro e W8 ⟨rfl, k8, hk8⟩
  have b8 : Below W7.heap.size W7 W8 := by rw [hk8]; exact below_drewN (Below.refl _ _) k8
  clear hk8
  have E8 := hid b8
  have s8 : W7.heap.size ≤ W8.heap.size := E8.out.size
  clear b8
  have B8 := hid (B7.out.trans (E8.out.mono B7.out.size))
  have Op0_8 := hid (Op0_7.out.keep Op0_7.out.lt E8.out)
  have Oq0_8 := hid (Oq0_7.out.keep Oq0_7.out.lt E8.out)
  have Oy0_8 := hid (Oy0_7.out.keep Oy0_7.out.lt E8.out)
  have Op1_8 := hid (Op1_7.out.keep Op1_7.out.lt E8.out)
  have Oq1_8 := hid (Oq1_7.out.keep Oq1_7.out.lt E8.out)
  have Ot0_8 := hid (Ot0_7.out.keep Ot0_7.out.lt E8.out)
  go_wp2_with fail
  refine (markIntS2_any _ xs0 W2.heap.size 1 (by omega) (by omega) (by omega) _ Oy0_8.out).mono ?_
  rintro e W9 ⟨rfl, o9, b9, g9⟩
  have s9 : W8.heap.size ≤ W9.heap.size := b9.size
  have B9 := hid (B8.out.trans (b9.mono B2.out.size))
  have Op0_9 := hid (Op0_8.out.kept g9 (younger_apart (fun g h => Nat.lt_of_lt_of_le (LTp0.out g h) (by omega)) Oy0_8.out))
  have Oq0_9 := hid (Oq0_8.out.kept g9 (younger_apart (fun g h => Nat.lt_of_lt_of_le (LTq0.out g h) (by omega)) Oy0_8.out))
  have Op1_9 := hid (Op1_8.out.kept g9 (elder_apart (fun g h => Nat.lt_of_lt_of_le (LTy0.out g h) (by omega)) Op1_8.out))
  have Oq1_9 := hid (Oq1_8.out.kept g9 (elder_apart (fun g h => Nat.lt_of_lt_of_le (LTy0.out g h) (by omega)) Oq1_8.out))
  have Oy0_9 := hid o9
  clear o9 b9 g9
  have TK : ¬ (1 + (xs0.length : Int) < 0) := by omega
  go_wp2_with fail
  refine (eqIntS_any _ _ L L _ Op1_9.out.rd Op0_9.out.rd).mono ?_
  rintro e W10 ⟨rfl, k10, hk10⟩
  have b10 : Below W9.heap.size W9 W10 := by rw [hk10]; exact below_drewN (Below.refl _ _) k10
  clear hk10
  have E10 := hid b10
  have s10 : W9.heap.size ≤ W10.heap.size := E10.out.size
  clear b10
  have B10 := hid (B9.out.trans (E10.out.mono B9.out.size))
  have Op0_10 := hid (Op0_9.out.keep Op0_9.out.lt E10.out)
  have Oq0_10 := hid (Oq0_9.out.keep Oq0_9.out.lt E10.out)
  have Op1_10 := hid (Op1_9.out.keep Op1_9.out.lt E10.out)
  have Oq1_10 := hid (Oq1_9.out.keep Oq1_9.out.lt E10.out)
  go_wp2_with fail
  refine (eqIntS_any _ _ M M _ Oq1_10.out.rd Oq0_10.out.rd).mono ?_
  rintro e W11 ⟨rfl, k11, hk11⟩
  have b11 : Below W10.heap.size W10 W11 := by rw [hk11]; exact below_drewN (Below.refl _ _) k11
  clear hk11
  have E11 := hid b11
  have s11 : W10.heap.size ≤ W11.heap.size := E11.out.size
  clear b11
  have B11 := hid (B10.out.trans (E11.out.mono B10.out.size))
  have Op0_11 := hid (Op0_10.out.keep Op0_10.out.lt E11.out)
  have Oq0_11 := hid (Oq0_10.out.keep Oq0_10.out.lt E11.out)
  have Op1_11 := hid (Op1_10.out.keep Op1_10.out.lt E11.out)
  have Oq1_11 := hid (Oq1_10.out.keep Oq1_10.out.lt E11.out)
  go_wp2_with fail
  refine (markIntS2_any _ L W3.heap.size 1 (by omega) (by omega) (by omega) _ Op1_11.out).mono ?_
  rintro e W12 ⟨rfl, o12, b12, g12⟩
  have s12 : W11.heap.size ≤ W12.heap.size := b12.size
  have B12 := hid (B11.out.trans (b12.mono B3.out.size))
  have Op0_12 := hid (Op0_11.out.kept g12 (younger_apart (fun g h => Nat.lt_of_lt_of_le (LTp0.out g h) (by omega)) Op1_11.out))
  have Oq0_12 := hid (Oq0_11.out.kept g12 (younger_apart (fun g h => Nat.lt_of_lt_of_le (LTq0.out g h) (by omega)) Op1_11.out))
  have Oq1_12 := hid (Oq1_11.out.kept g12 (NEq1.out))
  have Op1_12 := hid o12
  clear o12 b12 g12
  go_wp2_with fail
  refine (markIntS2_any _ M W3.heap.size (1 + (L.length : Int)) (by omega) (by omega) (by omega) _ Oq1_12.out).mono ?_
  rintro e W13 ⟨rfl, o13, b13, g13⟩
  have s13 : W12.heap.size ≤ W13.heap.size := b13.size
  have B13 := hid (B12.out.trans (b13.mono B3.out.size))
  have Op0_13 := hid (Op0_12.out.kept g13 (younger_apart (fun g h => Nat.lt_of_lt_of_le (LTp0.out g h) (by omega)) Oq1_12.out))
  have Oq0_13 := hid (Oq0_12.out.kept g13 (younger_apart (fun g h => Nat.lt_of_lt_of_le (LTq0.out g h) (by omega)) Oq1_12.out))
  have Op1_13 := hid (Op1_12.out.kept g13 (NEp1.out))
  have Oq1_13 := hid o13
  clear o13 b13 g13
  go_wp2_with fail
  refine (heldIntS_any _ L.length 1 (by omega) (by omega) (by omega) _ Op1_13.out.rd).mono ?_
  rintro e w' ⟨rfl, rfl⟩
  go_wp2_with fail
  refine (heldIntS_any _ M.length (1 + (L.length : Int)) (by omega) (by omega) (by omega) _ Oq1_13.out.rd).mono ?_
  rintro e w' ⟨rfl, rfl⟩
  go_wp2_with fail
  refine (toIntS_any _ xs0 _ (RA0.out.keep2 B13.out) hl0).mono ?_
  rintro e W14 ⟨z0, rfl, o14, b14, f14⟩
  have Fz0 : Hid (Firm z0) := hid (.inr f14)
  clear f14
  have E14 := hid b14
  have s14 : W13.heap.size ≤ W14.heap.size := E14.out.size
  clear b14
  have B14 := hid (B13.out.trans (E14.out.mono B13.out.size))
  have Op0_14 := hid (Op0_13.out.keep Op0_13.out.lt E14.out)
  have Oq0_14 := hid (Oq0_13.out.keep Oq0_13.out.lt E14.out)
  have Op1_14 := hid (Op1_13.out.keep Op1_13.out.lt E14.out)
  have Oq1_14 := hid (Oq1_13.out.keep Oq1_13.out.lt E14.out)
  have Oz0_14 := hid o14
  have LTz0 := hid o14.lt
  clear o14
  go_wp2_with fail
  refine (I.out _ _ Oz0_14.out.rd).mono ?_
  rintro e W15 ⟨p2, q2, rfl, oa15, ob15, ne15, b15⟩
  have E15 := hid b15
  have s15 : W14.heap.size ≤ W15.heap.size := E15.out.size
  clear b15
  have B15 := hid (B14.out.trans (E15.out.mono B14.out.size))
  have Op0_15 := hid (Op0_14.out.keep Op0_14.out.lt E15.out)
  have Oq0_15 := hid (Oq0_14.out.keep Oq0_14.out.lt E15.out)
  have Op1_15 := hid (Op1_14.out.keep Op1_14.out.lt E15.out)
  have Oq1_15 := hid (Oq1_14.out.keep Oq1_14.out.lt E15.out)
  have Oz0_15 := hid (Oz0_14.out.keep Oz0_14.out.lt E15.out)
  have Op2_15 := hid oa15
  have LTp2 := hid oa15.lt
  clear oa15
  have Oq2_15 := hid ob15
  have LTq2 := hid ob15.lt
  clear ob15
  have NEp2 : Hid (p2.ownBlock = none ∨ p2.ownBlock ≠ q2.ownBlock) := hid (by obtain ⟨g, k, h1, h2, h3⟩ := ne15; right; rw [h1, h2]; intro h; exact h3 (Option.some.inj h))
  have NEq2 : Hid (q2.ownBlock = none ∨ q2.ownBlock ≠ p2.ownBlock) := hid (by obtain ⟨g, k, h1, h2, h3⟩ := ne15; right; rw [h1, h2]; intro h; exact h3 (Option.some.inj h).symm)
  clear ne15
  go_wp2_with fail
  refine (eqIntS_any _ _ L L _ Op2_15.out.rd Op0_15.out.rd).mono ?_
  rintro e W16 ⟨rfl, k16, hk16⟩
  have b16 : Below W15.heap.size W15 W16 := by rw [hk16]; exact below_drewN (Below.refl _ _) k16
  clear hk16
  have E16 := hid b16
  have s16 : W15.heap.size ≤ W16.heap.size := E16.out.size
  clear b16
  have B16 := hid (B15.out.trans (E16.out.mono B15.out.size))
  have Op0_16 := hid (Op0_15.out.keep Op0_15.out.lt E16.out)
  have Oq0_16 := hid (Oq0_15.out.keep Oq0_15.out.lt E16.out)
  have Op1_16 := hid (Op1_15.out.keep Op1_15.out.lt E16.out)
  have Oq1_16 := hid (Oq1_15.out.keep Oq1_15.out.lt E16.out)
  have Op2_16 := hid (Op2_15.out.keep Op2_15.out.lt E16.out)
  have Oq2_16 := hid (Oq2_15.out.keep Oq2_15.out.lt E16.out)
  go_wp2_with fail
  refine (eqIntS_any _ _ M M _ Oq2_16.out.rd Oq0_16.out.rd).mono ?_
  rintro e W17 ⟨rfl, k17, hk17⟩
  have b17 : Below W16.heap.size W16 W17 := by rw [hk17]; exact below_drewN (Below.refl _ _) k17
  clear hk17
  have E17 := hid b17
  have s17 : W16.heap.size ≤ W17.heap.size := E17.out.size
  clear b17
  have B17 := hid (B16.out.trans (E17.out.mono B16.out.size))
  have Op0_17 := hid (Op0_16.out.keep Op0_16.out.lt E17.out)
  have Oq0_17 := hid (Oq0_16.out.keep Oq0_16.out.lt E17.out)
  have Op1_17 := hid (Op1_16.out.keep Op1_16.out.lt E17.out)
  have Oq1_17 := hid (Oq1_16.out.keep Oq1_16.out.lt E17.out)
  have Op2_17 := hid (Op2_16.out.keep Op2_16.out.lt E17.out)
  have Oq2_17 := hid (Oq2_16.out.keep Oq2_16.out.lt E17.out)
  go_wp2_with fail
  refine (heldIntS_any _ L.length 1 (by omega) (by omega) (by omega) _ Op1_17.out.rd).mono ?_
  rintro e w' ⟨rfl, rfl⟩
  go_wp2_with fail
  refine (heldIntS_any _ M.length (1 + (L.length : Int)) (by omega) (by omega) (by omega) _ Oq1_17.out.rd).mono ?_
  rintro e w' ⟨rfl, rfl⟩
  go_wp2
  go_ret
  exact ⟨rfl, by have h := B17.out; rw [← HW0.out] at h; exact h⟩
theorem own : ownKnob Try.prog.godebug = none := by kernel_rfl
theorem laidOut : laidOutB Try.prog = true := by kernel_rfl
set_option maxRecDepth 100000 in
theorem lifted (os : Os) (started : os.Started) (H : Type) (enc : TypeId × Value → H) :
    ReturnsInHanded {} Try.checked os 5 .any (Rows.fnExactZeroNormalSpec.pre6 enc Try.prog Try.f5 Rows.fnExactZeroNormalRow.domain false) (Rows.fnExactZeroNormalSpec.post enc Try.prog Try.f5 false true false false) := by
  refine returnsInHanded_of_change (C := Try.checked) own started (by kernel_rfl) Try.func5
    (ChangeSpec.witness6 (enc := enc) (C := Try.checked) false ⟨#[], #[.slice none 0 0], []⟩ 8 (by kernel_rfl) (by kernel_rfl) (by kernel_rfl) (by kernel_rfl)) ?_
  intro W base args ds gs before hval0 hW hcnd _
  have hval : ∀ (j : Nat) t v, Try.f5.params[j]? = some t → args[j]? = some v → Value.okWide Try.prog W .any base t v := hval0
  have hW' := hW
  obtain ⟨p, q, hA0, hV, rfl, hfz, hnd⟩ := hW
  have hA : DataW.TrodAll enc Try.prog W 0 (fun _ => true) true Try.f5.params.toList args.toList ds p := hA0
  rw [Try.params5] at hA hval
  obtain ⟨v0, vs0, d0, ds0, p0, q0, hargs, rfl, rfl, h0, r0⟩ := trodAll_cons hA
  obtain ⟨rfl, rfl, rfl⟩ := trodAll_nil r0
  obtain rfl : args = #[v0] := by cases args; simp_all
  obtain ⟨rfl, rfl⟩ := trodVars_none hV
  obtain ⟨a0, len0, cap0, rfl⟩ := okWide_slice Try.underlying22 (hval 0 22 v0 rfl rfl)
  have k0 := h0
  have lt0 : ∀ x ∈ p0, x.block < W.heap.size := by obtain ⟨m, hm⟩ := k0; exact DataW.trod_lt m _ _ _ hm
  obtain ⟨z0, w0⟩ : ∃ zs, IsRow .i64 W a0 len0 cap0 zs := by
    obtain ⟨fuel, hf⟩ := h0
    rcases open_ints Try.underlying22 Try.underlying3 (by kernel_rfl) hf with ⟨hcs, _⟩ | ⟨x, l, c, zs, hcs, _, hl, hm, hz, _, hcell, hwz⟩
    · simp [Value.cells] at hcs
      obtain ⟨rfl, rfl, rfl⟩ := hcs
      exact ⟨[], .inl ⟨rfl, rfl, rfl, rfl⟩⟩
    · simp [Value.cells] at hcs
      obtain ⟨rfl, rfl, rfl⟩ := hcs
      exact ⟨zs, .inr ⟨_, rfl, hl, hm, by simpa using hz, hcell, hwz⟩⟩
  clear hA0 hval0
  refine (walk a0 len0 cap0 z0 W w0).mono fun e W' ⟨he, bel⟩ => ?_
  subst he
  exact ⟨_, rfl, _, _, _, [], _, [], hW', trodAll_mk1 (shut_bool Try.underlying4 _), (trodAll_cons_mk (Below.trod laidOut (by kernel_rfl) (of_decide_eq_true (by kernel_rfl)) k0 bel lt0) trodAll_mk0), rfl, bel.frame _, fun h => by cases h⟩
theorem over : Rows.fnExactZeroNormalRow.holds Try.pinned (OpenSpec.ofChange Rows.fnExactZeroNormalSpec) :=
  OpenClaim.holds_of_wide 5 Try.f5 rfl rfl rfl rfl rfl rfl rfl ⟨rfl, rfl, rfl, rfl, rfl⟩ rfl rfl rfl rfl rfl (by kernel_rfl) Try.func5 (by kernel_rfl)
    (of_decide_eq_true (by kernel_rfl)) (by unfold Func.isWrapper; first | (rw [if_pos (by decide +kernel)]; kernel_rfl) | (rw [if_neg (by decide +kernel)]; exact ⟨rfl, rfl⟩))
    (fun os started H enc _ => lifted os started H enc)
theorem proved : Rows.FnExactZeroNormalSaid := over
end Go.Proofs.Ytbhlgdleklfonab.fnExactZeroNormal
