/-
  Some texts in one file: Zp2c4 Zp2d Zp2e.
-/
import Derived.Test.YtenibnblibnocacQZp2c0
import Derived.Test.YtenibnblibnocacQZp2c1
import Derived.Test.YtenibnblibnocacQZp2c2
import Derived.Test.YtenibnblibnocacQBun13
import Derived.Lib.Walk
import Derived.Lib.SliceRun
import Derived.Test.YtenibnblibnocacQBun24
import Derived.Deep.RegionWith
/-! Zp2c4 -/
set_option linter.unusedVariables false
namespace Go.Proofs.Ytenibnblibnocac
open Go.RowKit

theorem descend_step (N M t m : T3) (f : Nat) (hD : Desc N M f t m) (ih : ∀ f', f = f' + 1 → ∀ (t m : T3), Desc N M f' t m → ∀ w : World, Calls Try.prog 30 #[v6 t m] w fun e w' => e = .returned (v6 N M) ∧ Below w.heap.size w w') (w : World) :
    Calls Try.prog 30 #[v6 t m] w fun e w' => e = .returned (v6 N M) ∧ Below w.heap.size w w' := by
  by_cases c0 : 1 < Nat.gcd t.a.natAbs t.b.natAbs
  · exact descend_k0 N M t m f c0 hD ih w
  · by_cases c1 : 1 < Nat.gcd t.a.natAbs t.c.natAbs
    · exact descend_k1 N M t m f c0 c1 hD ih w
    · by_cases c2 : 1 < Nat.gcd t.b.natAbs t.c.natAbs
      · exact descend_k2 N M t m f c0 c1 c2 hD ih w
      · exact descend_k3 N M t m f c0 c1 c2 hD ih w
theorem descend_any (N M : T3) : ∀ (f : Nat) (t m : T3), Desc N M f t m → ∀ w : World, Calls Try.prog 30 #[v6 t m] w fun e w' => e = .returned (v6 N M) ∧ Below w.heap.size w w'
  | 0, t, m, h, w => descend_step N M t m 0 h (fun f' e => by cases e) w
  | f + 1, t, m, h, w => descend_step N M t m (f + 1) h (fun f' e => by cases e; exact descend_any N M f) w

end Go.Proofs.Ytenibnblibnocac

/-! Zp2d -/
set_option linter.unusedVariables false
namespace Go.Proofs.Ytenibnblibnocac
open Go.RowKit

set_option maxRecDepth 100000 in
set_option maxHeartbeats 4000000 in
theorem clone_any (ad : Addr) (n c : Nat) (xs : List Int) (hl : xs.length ≤ 1000) (w : World) (h : Rd w (.slice (some ad) n c) xs) :
    Calls Try.prog 31 #[.slice (some ad) n c] w fun e w' => ∃ u, e = .returned u ∧ Owns w' w.heap.size u xs ∧ Below w.heap.size w w' := by
  have HO0 : Hid (Owns (w.alloc (.cells #[] 3)) w.heap.size (.slice (some ⟨w.heap.size, 0, none⟩) 0 0) []) := hid (World.ownsRow_made (size := 1) w #[] 0 (Nat.le_refl _) (by unfold maxLen; omega) rfl)
  have HB0 := hid ((Below.refl w.heap.size w).alloc (Nat.le_refl _) (.cells #[] 3))
  have HX0 := hid (h.keep HB0.out)
  have FU : Hid (Firm (.slice (some ad) n c)) := hid (.inr ⟨_, _, _, rfl⟩)
  have q22 : ∀ (w : World), (binOp .eql 23 (.slice (some ad) n c) (.slice none 0 0)).run Try.prog w = .ok (.bool false) w := fun w => Lib.run_eql_slice_nil w _ _ (some ad) n c 0 0 Try.underlying23
  clear h
  go_enter Try.func31, Try.ntmps31
  go_wp2_with (at_builtin; refine append_rd rfl _ _ rfl w.heap.size _ [] rfl HO0.out _ xs rfl HX0.out FU.out (by simp; omega) (by simp) ?_; intro v1 w1 o1 g1; have HO1 : Hid (Owns w1 w.heap.size v1 xs) := hid o1; have HB1 := hid (HB0.out.grown g1 (by simp) (fun k e => HO0.out.ge k e)); clear o1 g1)
  go_ret
  exact ⟨_, rfl, HO1.out, HB1.out⟩
end Go.Proofs.Ytenibnblibnocac

/-! Zp2e -/
set_option linter.unusedVariables false
namespace Go.Proofs.Ytenibnblibnocac
open Go.RowKit

theorem Row6.rd0 {W : World} {B c' : Nat} {a b c d e f : Int} (h : Row6 W B [a, b, c, d, e, f]) (hc : 3 ≤ c') : Rd W (.slice (some ⟨B, 0, none⟩) 3 c') [a, b, c] := by
  refine .inr ⟨B, 0, c', rfl, ⟨by simp, hc⟩, by simp [maxLen], fun i hi => ?_⟩
  have h3 : i < 3 := hi
  rcases (show i = 0 ∨ i = 1 ∨ i = 2 by omega) with rfl | rfl | rfl
  · exact h.cell (i := 0) (by simp)
  · exact h.cell (i := 1) (by simp)
  · exact h.cell (i := 2) (by simp)
theorem Row6.rd3 {W : World} {B c' : Nat} {a b c d e f : Int} (h : Row6 W B [a, b, c, d, e, f]) (hc : 3 ≤ c') : Rd W (.slice (some ⟨B, 3, none⟩) 3 c') [d, e, f] := by
  refine .inr ⟨B, 3, c', rfl, ⟨by simp, hc⟩, by simp [maxLen], fun i hi => ?_⟩
  have h3 : i < 3 := hi
  rcases (show i = 0 ∨ i = 1 ∨ i = 2 by omega) with rfl | rfl | rfl
  · exact h.cell (i := 3) (by simp)
  · exact h.cell (i := 4) (by simp)
  · exact h.cell (i := 5) (by simp)
theorem norm_done {w W4 w5 w6 : World} {xs ls ms : List Int} {u z : Value} (hz3 : z3B xs = true) (ht : znT xs = ls) (hm : znM xs = ms) (l1 : 0 < ls.length) (l2 : 0 < ms.length) (h4 : Below w.heap.size w W4) (h5 : Below W4.heap.size W4 w5) (hu : Owns w5 W4.heap.size u ls) (h6 : Below w5.heap.size w5 w6) (hz : Owns w6 w5.heap.size z ms) :
    NormPost xs w (.returned (.tuple #[u, z, .bool true])) w6 := by
  obtain ⟨g, c1, hg, g1, g2⟩ := hu.block_of l1
  obtain ⟨k, c2, hk, k1, k2⟩ := hz.block_of l2
  have s4 := h4.size
  have s5 := h5.size
  refine ⟨u, z, by rw [hz3], ?_, ?_, ⟨g, k, by rw [hg]; rfl, by rw [hk]; rfl, by omega⟩, h4.trans ((h5.trans (h6.mono s5)).mono s4)⟩
  · rw [ht]
    exact (hu.keep hu.lt h6).down s4
  · rw [hm]
    exact hz.down (by omega)
set_option maxRecDepth 100000 in
set_option maxHeartbeats 8000000 in
theorem zeroNormal_any (v : Value) (xs : List Int) (w : World) (h : Rd w v xs) : Calls Try.prog 7 #[v] w (NormPost xs w) := by
  have HH := hid h
  have hmx := rd_max h
  obtain ⟨ad, cap, rfl, _⟩ := h.form
  have HE := hid (norm_empty (Below.refl w.heap.size w))
  have hno : z3B xs = false → znT xs = [] ∧ znM xs = [] := fun e => by unfold znT znM; rw [e]; exact ⟨rfl, rfl⟩
  clear h
  cases hf : fvB xs with
  | false =>
    have HF := hid hf
    have hz : z3B xs = false := by unfold z3B; rw [hf]; rfl
    have HZ := hid hz
    have HN := hid (hno hz)
    clear hf hz hno
    go_enter Try.func7, Try.ntmps7
    go_wp2_with (go_at_call 19; refine (formValidP_any _ xs _ HH.out).mono ?_; rw [HF.out]; rintro e w' ⟨rfl, rfl⟩)
    go_ret3
    exact ⟨_, _, by rw [HZ.out]; rfl, by rw [HN.out.1]; exact HE.out.1, by rw [HN.out.2]; exact HE.out.2.1, ⟨w.heap.size, w.heap.size + 1, rfl, rfl, by omega⟩, HE.out.2.2⟩
  | true =>
    have HF := hid hf
    by_cases hl : xs.length = 3
    · have hli : (xs.length : Int) = 3 := by omega
      have T : ((xs.length : Int) != 3) = false := by rw [bne_eq_false_iff_eq]; exact hli
      obtain ⟨a, b, c, rfl⟩ := list_three hl
      have HZ : Hid (z3B [a, b, c] = true) := hid (by unfold z3B; rw [hf]; rfl)
      have HN : Hid (znT [a, b, c] = (nT a b c).toL ∧ znM [a, b, c] = (nM a b c).toL) := hid (by unfold znT znM; rw [HZ.out]; exact ⟨rfl, rfl⟩)
      have HOK := hid (ok3_of hf)
      have HD := hid (descend_any (nT a b c) (nM a b c) 20 (coreT a b c) (rootM a b c) HOK.out.desc)
      have HC := hid (fun W hW => coreTerms_any (.slice ad [a, b, c].length cap) a b c HOK.out W hW)
      generalize hcv : v6 (coreT a b c) (rootM a b c) = cv at HD HC
      obtain ⟨N, hN⟩ : ∃ N, N = nT a b c := ⟨_, rfl⟩
      obtain ⟨M, hM⟩ : ∃ M, M = nM a b c := ⟨_, rfl⟩
      rw [← hN, ← hM] at HN HD
      clear hf hno hl hli HE hcv hN hM HOK
      obtain ⟨na, nb, nc⟩ := N
      obtain ⟨oa, ob, oc⟩ := M
      have EV : v6 ⟨na, nb, nc⟩ ⟨oa, ob, oc⟩ = .agg #[.int .i64 na, .int .i64 nb, .int .i64 nc, .int .i64 oa, .int .i64 ob, .int .i64 oc] := rfl
      rw [EV] at HD
      clear EV
      go_enter Try.func7, Try.ntmps7
      go_wp2_with (first
        | (go_at_call 19; refine (formValidP_any _ _ _ HH.out).mono ?_; rw [HF.out]; rintro e w' ⟨rfl, rfl⟩)
        | (go_at_call 29; refine (HC.out _ HH.out).mono ?_; rintro e w2 ⟨rfl, hb2⟩)
        | (go_at_call 30; refine (HD.out _).mono ?_; rintro e w3 ⟨rfl, hb3⟩; have hc3 := hb2.trans (hb3.mono hb2.size); have r0 : Row6 (w3.alloc (.cells #[.int .i64 0, .int .i64 0, .int .i64 0, .int .i64 0, .int .i64 0, .int .i64 0] 47)) w3.heap.size [0, 0, 0, 0, 0, 0] := Row6.new w3 [0, 0, 0, 0, 0, 0]; obtain ⟨c0, f0, c1, f1, c2, f2, c3, f3, c4, f4, c5, f5, HZ6⟩ := store6 r0 na nb nc oa ob oc))
      have hr6 : Row6 (w3.alloc (.cells #[.int .i64 na, .int .i64 nb, .int .i64 nc, .int .i64 oa, .int .i64 ob, .int .i64 oc] 47)) w3.heap.size [na, nb, nc, oa, ob, oc] := Row6.new w3 [na, nb, nc, oa, ob, oc]
      have hb4 : Below w.heap.size w (w3.alloc (.cells #[.int .i64 na, .int .i64 nb, .int .i64 nc, .int .i64 oa, .int .i64 ob, .int .i64 oc] 47)) := hc3.alloc hc3.size _
      have hB : w3.heap.size < (w3.alloc (.cells #[.int .i64 na, .int .i64 nb, .int .i64 nc, .int .i64 oa, .int .i64 ob, .int .i64 oc] 47)).heap.size := hr6.lt
      clear HD HC HH HF c0 f0 c1 f1 c2 f2 c3 f3 c4 f4 c5 f5 HZ6 r0 hb2 hb3
      generalize (w3.alloc (.cells #[.int .i64 na, .int .i64 nb, .int .i64 nc, .int .i64 oa, .int .i64 ob, .int .i64 oc] 47)) = W4 at hr6 hb4 hB ⊢
      have HC0 : Hid (∀ c W, 3 ≤ c → Below W4.heap.size W4 W → Calls Try.prog 31 #[.slice (some ⟨w3.heap.size, 0, none⟩) 3 c] W fun e w' => ∃ u, e = .returned u ∧ Owns w' W.heap.size u [na, nb, nc] ∧ Below W.heap.size W w') := hid (fun c W hc hW => clone_any _ 3 c [na, nb, nc] (by simp) W ((hr6.keep hW hB).rd0 hc))
      have HC3 : Hid (∀ c W, 3 ≤ c → Below W4.heap.size W4 W → Calls Try.prog 31 #[.slice (some ⟨w3.heap.size, 3, none⟩) 3 c] W fun e w' => ∃ u, e = .returned u ∧ Owns w' W.heap.size u [oa, ob, oc] ∧ Below W.heap.size W w') := hid (fun c W hc hW => clone_any _ 3 c [oa, ob, oc] (by simp) W ((hr6.keep hW hB).rd3 hc))
      have hbd : Below W4.heap.size W4 W4.drew := (Below.refl _ _).drew
      have HFIN : Hid (∀ w5 w6 u z, Below W4.heap.size W4 w5 → Owns w5 W4.heap.size u [na, nb, nc] → Below w5.heap.size w5 w6 → Owns w6 w5.heap.size z [oa, ob, oc] → NormPost [a, b, c] w (.returned (.tuple #[u, z, .bool true])) w6) := hid (fun w5 w6 u z h5 hu h6 hz => norm_done (ls := [na, nb, nc]) (ms := [oa, ob, oc]) HZ.out HN.out.1 HN.out.2 (Nat.succ_pos _) (Nat.succ_pos _) hb4 h5 hu h6 hz)
      clear hr6 hb4
      go_region_with (first
        | (have m5 := hc5; go_at_call 31; refine (HC3.out _ _ (by omega) hc5).mono ?_; rintro e w6 ⟨z, rfl, hz, hb6⟩)
        | (go_at_call 31; refine (HC0.out _ _ (by omega) hbd).mono ?_; rintro e w5 ⟨u, rfl, hu, hb5⟩; have hc5 := hbd.trans (hb5.mono hbd.size)))
      all_goals (
        go_wp2
        go_ret3
        exact HFIN.out _ _ _ _ hc5 hu hb6 hz)
    · have T : ((xs.length : Int) != 3) = true := by rw [bne_iff_ne]; omega
      have hz : z3B xs = false := by unfold z3B; rw [decide_eq_false hl, Bool.and_false]
      have HZ := hid hz
      have HN := hid (hno hz)
      clear hf hz hno hl
      go_enter Try.func7, Try.ntmps7
      go_wp2_with (go_at_call 19; refine (formValidP_any _ xs _ HH.out).mono ?_; rw [HF.out]; rintro e w' ⟨rfl, rfl⟩)
      go_ret3
      exact ⟨_, _, by rw [HZ.out]; rfl, by rw [HN.out.1]; exact HE.out.1, by rw [HN.out.2]; exact HE.out.2.1, ⟨w.heap.size, w.heap.size + 1, rfl, rfl, by omega⟩, HE.out.2.2⟩
end Go.Proofs.Ytenibnblibnocac
