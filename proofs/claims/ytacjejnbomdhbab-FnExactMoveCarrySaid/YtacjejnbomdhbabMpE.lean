/-
  Contracts of the program's chapter 7: the sum of the products of a row and fractions.
-/
import Derived.Test.YtacjejnbomdhbabMpD
set_option linter.unusedVariables false
namespace Go.Proofs.Ytacjejnbomdhbab
open Go.RowKit

theorem b14_prod {x y : Int} (h1 : -1000000 ≤ x ∧ x ≤ 1000000) (h2 : -1000000 ≤ y ∧ y ≤ 1000000) : -1000000000000 ≤ x * y ∧ x * y ≤ 1000000000000 := mul_bd12 h1 h2
theorem on_bd {f g : Nat → Int} {n : Nat} (hn : n ≤ 3) (hf : ∀ k, k < n → -1000000 ≤ f k ∧ f k ≤ 1000000) (hg : ∀ k, k < n → -1000000 ≤ g k ∧ g k ≤ 1000000) {K : Nat} (hK : K ≤ n) : -3000000000000 ≤ sumF (fun k => f k * g k) K ∧ sumF (fun k => f k * g k) K ≤ 3000000000000 := by
  have := sum_bd (f := fun k => f k * g k) (m := 1000000000000) (by omega) K (fun r hr => mul_bd12 (hf r (by omega)) (hg r (by omega)))
  have h3 : (K : Int) ≤ 3 := by omega
  omega
set_option maxRecDepth 100000 in
set_option maxHeartbeats 8000000 in
theorem on_any (bm : Nat) (va vl : Value) (R : List (List Int)) (l : List (Int × Int)) (Ns : List Int) (d E : Int) (n i : Nat) (w : World) (hm : MvAt w bm va d) (hR : RdM w va R) (hs : Sq n R) (hi : i < n) (hn : n ≤ 3) (hb : ∀ k, k < n → -1000000 ≤ at2 R i k ∧ at2 R i k ≤ 1000000) (d1 : 1 ≤ d) (d2 : d ≤ 10000)
    (hv : RdF w vl l) (hl : l.length = n) (hf : Frs l Ns E) (e1 : 1 ≤ E) (e2 : E ≤ 10000) (hN : ∀ k, k < n → -1000000 ≤ Ns.getD k 0 ∧ Ns.getD k 0 ≤ 1000000) :
    Calls Try.prog 69 #[.pointer (some ⟨bm, 0, none⟩), .int .i64 (i : Int), vl] w fun e w' => ∃ p q, e = .returned (frV p q) ∧ Fr p q (sumF (fun k => at2 R i k * Ns.getD k 0) n) (d * E) ∧ Below w.heap.size w w' := by
  subst hl
  obtain ⟨DE, hDE⟩ : ∃ DE, DE = d * E := ⟨_, rfl⟩
  have hde1 : 1 ≤ DE := by rw [hDE]; exact Int.mul_pos (by omega) (by omega)
  have hde2 : DE ≤ 100000000 := by
    rw [hDE]
    have := Int.mul_le_mul d2 e2 (by omega) (by omega)
    omega
  have HDE := hid hDE
  rw [← hDE]
  have HAT : Hid (∀ (w' : World) (k : Nat), Below w.heap.size w w' → k < l.length → Calls Try.prog 67 #[.pointer (some ⟨bm, 0, none⟩), .int .i64 (i : Int), .int .i64 (k : Int)] w' fun e w'' => e = .returned (frV (numF (at2 R i k) d) (denF (at2 R i k) d)) ∧ Below w'.heap.size w' w'') := hid (fun w' k h1 hk => mvAt_any bm va R d l.length i k w' (hm.keep h1) (hR.keep h1) hs hi hk (by omega) (by have := hb k hk; unfold B15; omega) d1 d2)
  have HFR : Hid (∀ k, k < l.length → Fr (l.getD k (0, 0)).1 (l.getD k (0, 0)).2 (Ns.getD k 0) E) := hid (fun k hk => hf.2 k (by omega))
  have HBD := hid (fun K => on_bd (f := at2 R i) (g := fun k => Ns.getD k 0) hn hb hN (K := K))
  have HB1 := hid hb
  have HN1 := hid hN
  have HV := hid hv
  obtain ⟨gl, cl, rfl, hlm, _, _⟩ := hv
  have hbl : Below w.heap.size w ((w.alloc (.cells #[.int .i64 0, .int .i64 0] 65)).alloc (.cells #[.int .i64 0, .int .i64 1] 65)) := (below_box2 _ _).alloc (by simp) _
  have HR0 : Hid (((w.alloc (.cells #[.int .i64 0, .int .i64 0] 65)).alloc (.cells #[.int .i64 0, .int .i64 1] 65)).heap[w.heap.size]? = some (.cells #[.int .i64 0, .int .i64 0] 65 (0, 0))) := hid (heap_up (heap_new rfl))
  have HS0 : Hid (((w.alloc (.cells #[.int .i64 0, .int .i64 0] 65)).alloc (.cells #[.int .i64 0, .int .i64 1] 65)).heap[w.heap.size + 1]? = some (.cells #[.int .i64 0, .int .i64 1] 65 (0, 0))) := hid (heap_new (by simp))
  have HBL := hid hbl
  have HF0 : Fr 0 1 (sumF (fun k => at2 R i k * Ns.getD k 0) 0) DE := ⟨by omega, by decide, by rw [show sumF (fun k => at2 R i k * Ns.getD k 0) 0 = 0 from rfl]; omega⟩
  have HFF := hid HF0
  clear hm hR hs hb hf hN hDE hbl HF0
  go_enter Try.func69, Try.ntmps69
  go_wp2_with fail
  go_loopw [13] (fun si wr => ∃ (K : Nat) (s t : Int), si = .int .i64 K ∧ K ≤ l.length ∧ Hid (Fr s t (sumF (fun k => at2 R i k * Ns.getD k 0) K) DE) ∧ Hid (wr.heap[w.heap.size]? = some (.cells #[.int .i64 0, .int .i64 0] 65 (0, 0))) ∧ Hid (wr.heap[w.heap.size + 1]? = some (.cells #[.int .i64 s, .int .i64 t] 65 (0, 0))) ∧ Hid (Below w.heap.size w wr)) (fun si _ => l.length - (intOf si).toNat)
  case atStart => exact ⟨0, 0, 1, rfl, by omega, HFF, HR0, HS0, HBL⟩
  case round =>
    obtain ⟨K, s, t, rfl, hK, HFS, HR1, HS1, HB⟩ := hrel
    rename World => wr
    by_cases hlt : K < l.length
    · obtain ⟨gl', cl', e', _, hgl, hc⟩ := HV.out.keep HB.out
      cases e'
      obtain ⟨c0, c1⟩ := hc K hlt
      have hfr := HFR.out K hlt
      have hb1 := HB1.out K hlt
      have hn1 := HN1.out K hlt
      have hsb := HBD.out K (by omega)
      have hsb2 := HBD.out (K + 1) (by omega)
      have hsu : sumF (fun k => at2 R i k * Ns.getD k 0) (K + 1) = sumF (fun k => at2 R i k * Ns.getD k 0) K + at2 R i K * Ns.getD K 0 := rfl
      have hpb := mul_bd12 hb1 hn1
      have hfx := fr_of (n := at2 R i K) (d := d) (by omega)
      have HATK := hid (fun w' h => HAT.out w' K h hlt)
      obtain ⟨fa, hfa⟩ : ∃ fa, fa = (l.getD K (0, 0)).1 := ⟨_, rfl⟩
      obtain ⟨fb, hfb⟩ : ∃ fb, fb = (l.getD K (0, 0)).2 := ⟨_, rfl⟩
      rw [← hfa] at c0 hfr
      rw [← hfb] at c1 hfr
      generalize at2 R i K = x at *
      generalize Ns.getD K 0 = y at *
      generalize sumF (fun k => at2 R i k * Ns.getD k 0) K = P at *
      obtain ⟨a1, ha1⟩ : ∃ a1, a1 = numF x d := ⟨_, rfl⟩
      obtain ⟨b1, hbb1⟩ : ∃ b1, b1 = denF x d := ⟨_, rfl⟩
      rw [← ha1, ← hbb1] at HATK hfx
      have p1 := hfx.pos
      have p2 := hfr.pos
      have q1 := hfx.num_bd (m := 1000000) (by omega) (by omega) hb1.1 hb1.2
      have q2 := hfr.num_bd (m := 1000000) (by omega) (by omega) hn1.1 hn1.2
      have q3 := hfx.den_bd (m := 10000) (by omega) (by omega) (by omega)
      have q4 := hfr.den_bd (m := 10000) (by omega) (by omega) (by omega)
      have m1 := mul_bd12 q1 q2
      have m2 := mul_bd12 (x := b1) (y := fb) (by omega) (by omega)
      have HTM := hid (fun w => frTimes_any a1 b1 fa fb p1 p2 (by unfold B15; omega) (by unfold B15; omega) w)
      have hft := fr_times hfx hfr (fr_of (n := a1 * fa) (d := b1 * fb) (Int.mul_ne_zero (by omega) (by omega)))
      rw [← HDE.out] at hft
      generalize numF (a1 * fa) (b1 * fb) = a2 at *
      generalize denF (a1 * fa) (b1 * fb) = b2 at *
      have HPL := hid (fun w => frPlus_any s t P a2 b2 (x * y) DE HFS.out hft (by omega) (by unfold B14; omega) (by unfold B14; omega) (by unfold B14; omega) w)
      have HFN := hid (plus_is HFS.out hft (by omega))
      rw [← hsu] at HFN
      generalize plusN s t a2 b2 = a3 at *
      generalize plusD s t a2 b2 = b3 at *
      have hKi : (K : Int) < (l.length : Int) := by omega
      have HLT := hid hlt
      clear hc hfa hfb hfr hb1 hn1 hsb hsb2 hsu hpb hfx ha1 hbb1 p1 p2 q1 q2 q3 q4 m1 m2 hft hlt
      go_wp2_with fail
      obtain ⟨W, hW⟩ : ∃ W, W = (wr.alloc (.cells #[.int .i64 fa, .int .i64 fb] 65)).drew := ⟨_, rfl⟩
      have HR : Hid (W.heap[w.heap.size]? = some (.cells #[.int .i64 0, .int .i64 0] 65 (0, 0))) := hid (by rw [hW]; exact heap_up HR1.out)
      have HS : Hid (W.heap[w.heap.size + 1]? = some (.cells #[.int .i64 s, .int .i64 t] 65 (0, 0))) := hid (by rw [hW]; exact heap_up HS1.out)
      have HFC : Hid (W.heap[wr.heap.size]? = some (.cells #[.int .i64 fa, .int .i64 fb] 65 (0, 0))) := hid (by rw [hW]; exact heap_new rfl)
      have HBW0 : Hid (Below w.heap.size w W) := hid (by rw [hW]; exact below_drewN (HB.out.trans ((below_box2 _ _).mono HB.out.size)) 1)
      have HLR := hid (Array.getElem?_eq_some_iff.1 HR.out).1
      have HLS := hid (Array.getElem?_eq_some_iff.1 HS.out).1
      have HLF := hid (Array.getElem?_eq_some_iff.1 HFC.out).1
      refine region_inv (by kernel_rfl) (fun LB act wx => ∃ (s18 s19 s20 s21 s22 s23 s24 s25 : Value), act = ({ tmps := #[.pointer (some ⟨bm, 0, none⟩), .int .i64 (i : Int), .slice (some ⟨gl, 0, none⟩) l.length cl, undef, undef, undef, .pointer (some ⟨w.heap.size, 0, none⟩), .pointer (some ⟨w.heap.size + 1, 0, none⟩), .int .i64 (K : Int), .pointer (some ⟨wr.heap.size, 0, none⟩), .agg #[.int .i64 0, .int .i64 1], .slice (some ⟨gl, 0, none⟩) l.length cl, .int .i64 (l.length : Int), .int .i64 (K : Int), .bool true, .int .i64 (K : Int), .pointer (some ⟨gl, K * 2, none⟩), .agg #[.int .i64 fa, .int .i64 fb], s18, s19, s20, s21, s22, s23, s24, s25, u26, undef], defers := [] } : Act) ∧ RegI 9 [[], [], [], [], [1, 2, 3], [], [4, 5], [0, 6], [7]] (W) (fun wy => (wy.setCell ⟨w.heap.size + 1, 0, none⟩ (.int .i64 a3)).setCell ⟨w.heap.size + 1, 1, none⟩ (.int .i64 b3)) [.agg #[.int .i64 s, .int .i64 t], .pointer (some ⟨bm, 0, none⟩), .int .i64 (i : Int), .int .i64 (K : Int), .agg #[.int .i64 a1, .int .i64 b1], .agg #[.int .i64 fa, .int .i64 fb], .agg #[.int .i64 a2, .int .i64 b2], .agg #[.int .i64 a3, .int .i64 b3], undef] LB wx [s18, s19, s20, s21, s22, s23, s24, s25, undef]) ?h0R ?hendR ?hstepR
      case h0R => exact ⟨_, _, _, _, _, _, _, _, rfl, RegI.start rfl rfl hW.symm⟩
      case hstepR =>
        rintro LB act wx i ⟨s18, s19, s20, s21, s22, s23, s24, s25, rfl, I⟩ hi
        obtain ⟨hi1, hf, hdep⟩ := ready_mem hi
        have hi2 : i < 9 := hi1
        have hbw := I.open (by decide) hf hi2
        have hsz := hbw.size
        have HI := hid I
        have HF := hid hf
        have hqHS := (hbw.block _ HLS.out).trans HS.out
        have cHS0 := cellB (i := 0) hqHS
        have cHS1 := cellB (i := 1) hqHS
        have HQHS := hid hqHS
        clear hqHS
        have hqHFC := (hbw.block _ HLF.out).trans HFC.out
        have cHFC0 := cellB (i := 0) hqHFC
        have cHFC1 := cellB (i := 1) hqHFC
        have HQHFC := hid hqHFC
        clear hqHFC
        have y0 := frozenB (i := 0) HQHS.out
        have y1 := frozenB (i := 1) HQHS.out
        have HBW := hid hbw
        clear hi hi1 I hf hbw
        have hc : i = 0 ∨ i = 1 ∨ i = 2 ∨ i = 3 ∨ i = 4 ∨ i = 5 ∨ i = 6 ∨ i = 7 ∨ i = 8 := by omega
        clear hi2
        rcases hc with rfl | rfl | rfl | rfl | rfl | rfl | rfl | rfl | rfl
        · skip
          have hq : ∀ j ∈ ([] : List Nat), dn LB j := fun _ h => absurd h List.not_mem_nil
          clear hdep
          refine wpOp_step rfl (fun K hK => ?_)
          go_simp
          exact hK _ _ ⟨_, _, _, _, _, _, _, _, rfl, HI.out.step HF.out (by decide) hq HBW.out rfl (by decide)⟩
        · skip
          have hq : ∀ j ∈ ([] : List Nat), dn LB j := fun _ h => absurd h List.not_mem_nil
          clear hdep
          refine wpOp_step rfl (fun K hK => ?_)
          go_simp
          exact hK _ _ ⟨_, _, _, _, _, _, _, _, rfl, HI.out.step HF.out (by decide) hq HBW.out rfl (by decide)⟩
        · skip
          have hq : ∀ j ∈ ([] : List Nat), dn LB j := fun _ h => absurd h List.not_mem_nil
          clear hdep
          refine wpOp_step rfl (fun K hK => ?_)
          go_simp
          exact hK _ _ ⟨_, _, _, _, _, _, _, _, rfl, HI.out.step HF.out (by decide) hq HBW.out rfl (by decide)⟩
        · skip
          have hq : ∀ j ∈ ([] : List Nat), dn LB j := fun _ h => absurd h List.not_mem_nil
          clear hdep
          refine wpOp_step rfl (fun K hK => ?_)
          go_simp
          exact hK _ _ ⟨_, _, _, _, _, _, _, _, rfl, HI.out.step HF.out (by decide) hq HBW.out rfl (by decide)⟩
        · skip
          have q1 : dn LB 1 := hdep _ rfl { on := 1, ground := .data } (by simp) rfl
          have q2 : dn LB 2 := hdep _ rfl { on := 2, ground := .data } (by simp) rfl
          have q3 : dn LB 3 := hdep _ rfl { on := 3, ground := .data } (by simp) rfl
          have hq : ∀ j ∈ ([1, 2, 3] : List Nat), dn LB j := List.forall_mem_cons.2 ⟨q1, List.forall_mem_cons.2 ⟨q2, List.forall_mem_cons.2 ⟨q3, fun _ h => absurd h List.not_mem_nil⟩⟩⟩
          clear hdep
          obtain rfl : s19 = .pointer (some ⟨bm, 0, none⟩) := HI.out.val 1 q1
          obtain rfl : s20 = .int .i64 (i : Int) := HI.out.val 2 q2
          obtain rfl : s21 = .int .i64 (K : Int) := HI.out.val 3 q3
          refine wpOp_step rfl (fun K hK => ?_)
          go_simp
          go_at_call 67
          refine (HATK.out _ (HBW0.out.trans (HBW.out.mono HBW0.out.size))).mono ?_
          rintro e wP ⟨rfl, hbk⟩
          exact hK _ _ ⟨_, _, _, _, _, _, _, _, rfl, HI.out.step HF.out (by decide) hq (HBW.out.trans (hbk.mono hsz)) rfl (by decide)⟩
        · skip
          have hq : ∀ j ∈ ([] : List Nat), dn LB j := fun _ h => absurd h List.not_mem_nil
          clear hdep
          refine wpOp_step rfl (fun K hK => ?_)
          go_simp
          exact hK _ _ ⟨_, _, _, _, _, _, _, _, rfl, HI.out.step HF.out (by decide) hq HBW.out rfl (by decide)⟩
        · skip
          have q4 : dn LB 4 := hdep _ rfl { on := 4, ground := .data } (by simp) rfl
          have q5 : dn LB 5 := hdep _ rfl { on := 5, ground := .data } (by simp) rfl
          have hq : ∀ j ∈ ([4, 5] : List Nat), dn LB j := List.forall_mem_cons.2 ⟨q4, List.forall_mem_cons.2 ⟨q5, fun _ h => absurd h List.not_mem_nil⟩⟩
          clear hdep
          obtain rfl : s22 = .agg #[.int .i64 a1, .int .i64 b1] := HI.out.val 4 q4
          obtain rfl : s23 = .agg #[.int .i64 fa, .int .i64 fb] := HI.out.val 5 q5
          refine wpOp_step rfl (fun K hK => ?_)
          go_simp
          go_at_call 66
          refine (HTM.out _).mono ?_
          rintro e wP ⟨rfl, hbk⟩
          exact hK _ _ ⟨_, _, _, _, _, _, _, _, rfl, HI.out.step HF.out (by decide) hq (HBW.out.trans (hbk.mono hsz)) rfl (by decide)⟩
        · skip
          have q0 : dn LB 0 := hdep _ rfl { on := 0, ground := .data } (by simp) rfl
          have q6 : dn LB 6 := hdep _ rfl { on := 6, ground := .data } (by simp) rfl
          have hq : ∀ j ∈ ([0, 6] : List Nat), dn LB j := List.forall_mem_cons.2 ⟨q0, List.forall_mem_cons.2 ⟨q6, fun _ h => absurd h List.not_mem_nil⟩⟩
          clear hdep
          obtain rfl : s18 = .agg #[.int .i64 s, .int .i64 t] := HI.out.val 0 q0
          obtain rfl : s24 = .agg #[.int .i64 a2, .int .i64 b2] := HI.out.val 6 q6
          refine wpOp_step rfl (fun K hK => ?_)
          go_simp
          go_at_call 60
          refine (HPL.out _).mono ?_
          rintro e wP ⟨rfl, hbk⟩
          exact hK _ _ ⟨_, _, _, _, _, _, _, _, rfl, HI.out.step HF.out (by decide) hq (HBW.out.trans (hbk.mono hsz)) rfl (by decide)⟩
        · skip
          have q7 : dn LB 7 := hdep _ rfl { on := 7, ground := .data } (by simp) rfl
          have hq : ∀ j ∈ ([7] : List Nat), dn LB j := List.forall_mem_cons.2 ⟨q7, fun _ h => absurd h List.not_mem_nil⟩
          clear hdep
          obtain rfl : s25 = .agg #[.int .i64 a3, .int .i64 b3] := HI.out.val 7 q7
          refine wpOp_step rfl (fun K hK => ?_)
          go_simp
          exact hK _ _ ⟨_, _, _, _, _, _, _, _, rfl, HI.out.last HF.out rfl (by decide) hq HBW.out rfl rfl⟩
      case hendR =>
        rintro LB act wx ⟨s18, s19, s20, s21, s22, s23, s24, s25, rfl, I⟩ hrd
        have D := all_done2 I.hs (by kernel_rfl) hrd
        obtain ⟨wy, hby, rfl⟩ := I.he (D 8 (by decide))
        have hqs := (hby.block _ HLS.out).trans HS.out
        have hqr := (hby.block _ HLR.out).trans HR.out
        have HBF := hid (HBW0.out.trans (hby.mono HBW0.out.size))
        clear I D hrd
        have hr2 : ((wy.setCell ⟨w.heap.size + 1, 0, none⟩ (.int .i64 a3)).setCell ⟨w.heap.size + 1, 1, none⟩ (.int .i64 b3)).heap[w.heap.size]? = some (.cells #[.int .i64 0, .int .i64 0] 65 (0, 0)) := by
          rw [heap_setCell_other _ _ _ _ (by simp), heap_setCell_other _ _ _ _ (by simp)]; exact hqr
        have hs2 : ((wy.setCell ⟨w.heap.size + 1, 0, none⟩ (.int .i64 a3)).setCell ⟨w.heap.size + 1, 1, none⟩ (.int .i64 b3)).heap[w.heap.size + 1]? = some (.cells #[.int .i64 a3, .int .i64 b3] 65 (0, 0)) := heap_two1 (heap_two0 hqs)
        have hbe : Below w.heap.size w ((wy.setCell ⟨w.heap.size + 1, 0, none⟩ (.int .i64 a3)).setCell ⟨w.heap.size + 1, 1, none⟩ (.int .i64 b3)) := (HBF.out.setCell (by simp) _).setCell (by simp) _
        have HR2 := hid hr2
        have HS2 := hid hs2
        have HBE := hid hbe
        clear hr2 hs2 hbe hqs hqr hby
        go_wp2_with fail
        go_roundw
        case measure => simp only [intOf]; have := HLT.out; omega
        case rel => exact ⟨K + 1, a3, b3, by go_num, by have := HLT.out; omega, HFN, HR2, HS2, HBE⟩
    · obtain rfl : K = l.length := by omega
      have z0 := cellB (i := 0) HS1.out
      have z1 := cellB (i := 1) HS1.out
      have y0 := cellB (i := 0) HR1.out
      have y1 := cellB (i := 1) HR1.out
      have x0 := frozenB (i := 0) HR1.out
      have x1 := frozenB (i := 1) HR1.out
      clear hlt
      go_wp2_with fail
      refine bodyPost_ret (results_cell_row rfl _ _ w.heap.size 65 #[_, _] (0, 0) _ rfl (heap_two1 (heap_two0 HR1.out)) Try.underlying65 rfl (by kernel_rfl)) rfl ?_
      exact ⟨s, t, rfl, HFS.out, (HB.out.setCell (Nat.le_refl _) _).setCell (Nat.le_refl _) _⟩

end Go.Proofs.Ytacjejnbomdhbab
