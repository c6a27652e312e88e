/-
  Contracts of the program's chapter 2: the least root by a power of a prime.
-/
import Derived.Test.YtamdjgcnjgiflaaImpC
import Derived.Test.YtamdjgcnjgiflaaLift2
import Derived.Deep.LoopGhost
import Derived.WalkSmall
set_option linter.unusedVariables false
namespace Go.Proofs.Ytamdjgcnjgiflaa
open Go.RowKit

theorem infoLR : (Try.prog.info? 67).map (fun i => (i.zero, i.size, i.bytes)) = some (some (.agg #[.int .i64 0, .int .i64 0]), 2, 16) := by kernel_rfl
theorem cellsLR : Try.prog.cellsOf 67 = 2 := by kernel_rfl

def pwOk (P : Nat) (k : Int) : Bool := decide (1 ≤ k) && decide (P ^ k.toNat ≤ 5000)
theorem pow12 {P i : Nat} (hP : 2 ≤ P) (h : P ^ i ≤ 5000) : i ≤ 12 := by
  rcases Nat.lt_or_ge 12 i with hi | hi
  · have h1 : 2 ^ 13 ≤ P ^ 13 := Nat.pow_le_pow_left hP 13
    have h2 : P ^ 13 ≤ P ^ i := Nat.pow_le_pow_right (by omega) hi
    omega
  · exact hi

theorem powerWithin_any (P : Nat) (k : Int) (hP : 2 ≤ P) (hP5 : P ≤ 5000) (w : World) :
    Calls Try.prog 63 #[.int .i64 P, .int .i64 k, .int .i64 5000] w fun e w' => (∃ x : Int, e = .returned (.tuple #[.int .i64 x, .bool (pwOk P k)]) ∧ (pwOk P k = true → x = ((P ^ k.toNat : Nat) : Int))) ∧ w = w' := by
  by_cases hk : 1 ≤ k
  · obtain ⟨K, rfl⟩ := Int.eq_ofNat_of_zero_le (show 0 ≤ k by omega)
    have HO : Hid (pwOk P (K : Int) = decide (P ^ K ≤ 5000)) := hid (by unfold pwOk; rw [decide_eq_true hk, Int.toNat_natCast, Bool.true_and])
    go_enter Try.func63, Try.ntmps63
    go_wp2_with fail
    go_loop [8, 10] (fun sp si => ∃ i A : Nat, si = .int .i64 i ∧ sp = .int .i64 A ∧ A ≤ 5000 ∧ i ≤ 12 ∧ i ≤ K ∧ Hid (A = P ^ i)) (fun _ si => 13 - (intOf si).toNat)
    case atStart => exact ⟨0, 1, rfl, rfl, by omega, by omega, by omega, hid rfl⟩
    case round =>
      obtain ⟨i, A, rfl, rfl, hA, hi12, hiK, HA⟩ := hrel
      by_cases hlt : i < K
      · have hi0 : (i : Int) < (K : Int) := by omega
        have hAP := Nat.mul_le_mul hA hP5
        have eAP : (A : Int) * (P : Int) = ((A * P : Nat) : Int) := by push_cast; rfl
        have ap1 : 0 ≤ (A : Int) * (P : Int) := by rw [eAP]; omega
        have ap2 : (A : Int) * (P : Int) ≤ 25000000 := by rw [eAP]; omega
        have HS : Hid (A * P = P ^ (i + 1)) := hid (by rw [HA.out, Nat.pow_succ])
        have HE := hid eAP
        by_cases hle : A * P ≤ 5000
        · have h12 := pow12 (i := i + 1) hP (by rw [← HS.out]; exact hle)
          have hng : ¬ (5000 : Int) < (A : Int) * (P : Int) := by rw [eAP]; omega
          clear eAP
          go_wp2_with fail
          go_round
          case measure => simp only [intOf]; omega
          case rel => exact ⟨i + 1, A * P, by go_num, vI HE.out, hle, by omega, by omega, HS⟩
        · have hg : (5000 : Int) < (A : Int) * (P : Int) := by rw [eAP]; omega
          have HN : Hid (pwOk P (K : Int) = false) := hid (by
            rw [HO.out]
            refine decide_eq_false fun h => hle ?_
            rw [HS.out]
            exact Nat.le_trans (Nat.pow_le_pow_right (by omega) hlt) h)
          clear eAP
          go_wp2_with fail
          go_ret2
          rw [HN.out]
          exact ⟨⟨0, rfl, fun h => by cases h⟩, rfl⟩
      · obtain rfl : i = K := by omega
        have HY : Hid (pwOk P (i : Int) = true) := hid (by rw [HO.out, ← HA.out]; exact decide_eq_true hA)
        clear hlt
        go_wp2_with fail
        go_ret2
        rw [HY.out]
        exact ⟨⟨A, rfl, fun _ => by rw [HA.out]; simp⟩, rfl⟩
  · have HN : Hid (pwOk P k = false) := hid (by unfold pwOk; rw [decide_eq_false hk, Bool.false_and])
    have hk0 : ¬ (0 : Int) < k := by omega
    go_enter Try.func63, Try.ntmps63
    go_wp2_with fail
    go_loop [8, 10] (fun sp si => sp = .int .i64 1 ∧ si = .int .i64 0) (fun _ _ => 0)
    case atStart => exact ⟨rfl, rfl⟩
    case round =>
      obtain ⟨rfl, rfl⟩ := hrel
      go_wp2_with fail
      go_ret2
      rw [HN.out]
      refine ⟨⟨1, ?_, fun h => by cases h⟩, rfl⟩
      show Ending.returned (.tuple #[.int .i64 1, .bool (decide (1 ≤ k))]) = _
      rw [decide_eq_false (show ¬ 1 ≤ k by omega)]

theorem cell_row {w : World} {b : Nat} {x y : Value} {t : TypeId} (h : w.heap[b]? = some (.cells #[x, y] t (0, 0))) : w.cell? ⟨b, 0, none⟩ = some x ∧ w.cell? ⟨b, 1, none⟩ = some y := by
  constructor <;> simp [World.cell?, h]

theorem wt_top {M : Nat} (h : 1 ≤ M) : wt1 M M = 1 := by unfold wt1; rw [Nat.div_self (by omega)]

/-- what the outer loop hands on -/
def LeastRel (n : Int) (P k M : Nat) (w : World) (gk : Nat) (sl sf ss : Value) (wr : World) : Prop :=
  ∃ (S : List (Nat × Nat)) (L : Nat) (f : Bool) (g cap : Nat), gk = wtS M S ∧ gk ≤ 10000 ∧ sl = .int .i64 L ∧ sf = .bool f ∧ ss = .slice (some ⟨g, 0, none⟩) S.length cap ∧ L ≤ 5000 ∧
    Hid (StackOk n P k S f L) ∧ Hid (wr.ownsRow w.heap.size 67 2 (.slice (some ⟨g, 0, none⟩) S.length cap) S.length (encS S)) ∧ Hid (Below w.heap.size w wr)

set_option maxRecDepth 100000 in
set_option maxHeartbeats 2000000 in
theorem leastLifted_any (n : Int) (h1 : -5000 ≤ n) (h2 : n ≤ 5000) (P k : Nat) (hP : 2 ≤ P) (hP5 : P ≤ 5000) (hm : P ^ k ≤ 5000) (w : World) :
    Calls Try.prog 64 #[.int .i64 n, .int .i64 P, .int .i64 ((P ^ k : Nat) : Int)] w fun e w' => e = .returned (rootT (rootF (n % ((P ^ k : Nat) : Int)).toNat (P ^ k))) ∧ Below w.heap.size w w' := by
  obtain ⟨i0, hi, hz0, hz1, hz2⟩ := info_parts infoLR
  have c24 := cellsLR
  have HEND : Hid (∀ (f : Bool) (L : Nat), StackOk n P k [] f L → rootT (rootF (n % ((P ^ k : Nat) : Int)).toNat (P ^ k)) = .tuple #[.int .i64 (L : Int), .bool f]) := hid (fun f L h => stack_end hP h)
  obtain ⟨V, hV⟩ : ∃ V, V = rootT (rootF (n % ((P ^ k : Nat) : Int)).toNat (P ^ k)) := ⟨_, rfl⟩
  rw [← hV] at HEND ⊢
  obtain ⟨M, hM⟩ : ∃ M, M = P ^ k := ⟨_, rfl⟩
  have HM := hid hM
  rw [← hM] at hm ⊢
  have hM1 : 1 ≤ M := by rw [hM]; exact Nat.pow_pos (by omega)
  clear hV hM
  go_enter Try.func64, Try.ntmps64
  go_wp2_with fail
  go_loopg [8, 9, 10] (wtS M [(0, 1)]) (LeastRel n P k M w)
  case atStart =>
    refine ⟨[(0, 1)], 0, false, w.heap.size, 1, rfl, ?_, rfl, rfl, rfl, by omega, hid (stack_start n P k hP), hid ?_, hid ((Below.refl _ _).alloc (Nat.le_refl _) _)⟩
    · rw [wtS_one]; unfold wt1; rw [Nat.div_one]; omega
    · exact World.ownsRow_lit w #[.int .i64 0, .int .i64 1] 1 (Nat.le_refl _) (by unfold maxLen; omega) rfl
  case round =>
    obtain ⟨S, L, f, g, cap, rfl, hgk, rfl, rfl, rfl, hL, HS, HO, HB⟩ := hrel
    rename World => wA
    rcases List.eq_nil_or_concat S with rfl | ⟨S', ⟨x, m⟩, rfl⟩
    · simp only [List.length_nil]
      have HR := hid (HEND.out f L HS.out)
      go_wp2_with fail
      go_ret2
      exact ⟨retV HR.out.symm, HB.out⟩
    · rw [List.concat_eq_append] at hgk HS HO ⊢
      have hlen : (S' ++ [(x, m)]).length = S'.length + 1 := by simp
      rw [hlen] at HO ⊢
      obtain ⟨j, hj, hmj, hxr⟩ := HS.out.each (x, m) (by simp)
      simp only at hmj hxr
      have hx := hxr.1
      have hm5 : m ≤ M := by rw [hmj, HM.out]; exact Nat.pow_le_pow_right (by omega) hj
      have hm0 : 1 ≤ m := by rw [hmj]; exact Nat.pow_pos (by omega)
      have hSl := stack_len hP _ HS.out.each
      rw [hlen, ← HM.out] at hSl
      have ct0 := (HO.out.cellAt (S'.length * 2) (by omega)).trans (encS_fst S' (x, m))
      have ct1 := (HO.out.cellAt (S'.length * 2 + 1) (by omega)).trans (encS_snd S' (x, m))
      simp only at ct0 ct1
      have hpop := ownsRow_pop (xs := encS S') (last := [.int .i64 (x : Int), .int .i64 (m : Int)]) (encS_len S') (by rw [← encS_snoc S' (x, m)]; exact HO.out)
      have hglt := (HO.out.lt g rfl)
      have hcaps : S'.length + 1 ≤ cap ∧ cap ≤ maxLen := by
        rcases HO.out.2 with ⟨h, _⟩ | ⟨g', cap', cur, hv, _, _, hncap, hcapm, _, _⟩
        · cases h
        · cases hv; exact ⟨hncap, hcapm⟩
      unfold maxLen at hcaps
      have hcap1 := hcaps.1
      have hcap2 := hcaps.2
      have HWT : Hid (wtS M (S' ++ [(x, m)]) = wtS M S' + wt1 M m) := hid (by rw [wtS_app, wtS_one])
      have HPOP := hid hpop
      have HXR := hid hxr
      have HMJ := hid hmj
      obtain ⟨N, hN⟩ : ∃ N, N = S'.length := ⟨_, rfl⟩
      have HN := hid hN
      rw [← hN] at ct0 ct1 hSl hcap1 ⊢
      have hbs : w.heap.size ≤ wA.heap.size := HB.out.size
      have hwr : IntKind.i64.wrap (N : Int) = (N : Int) := by rw [IntKind.wrap_i64]; omega
      have hix1 : (N : Int) < (N : Int) + 1 := by omega
      have hix3 : N < N + 1 := by omega
      have hix0 : (0 : Int) ≤ (N : Int) := by omega
      have hgt : (0 : Int) < (N : Int) + 1 := by omega
      clear hlen hmj hxr hpop hcaps hN HO
      by_cases hmM : m = M
      · subst hmM
        have HW1 := hid (wt_top hm0)
        have HST := hid (stack_at (x := x) (by have h := HS.out; rw [HM.out] at h; exact h))
        have HBA := hid (HB.out.alloc hbs (.cells #[.int .i64 (x : Int), .int .i64 (m : Int)] 67))
        cases f with
        | false =>
          have HS2 : Hid (StackOk n P k S' true x) := hid (by have h := HST.out; rw [if_neg (by simp)] at h; exact h)
          go_wp2_with fail
          go_roundg (wtS m S')
          case measure => (try rw [List.concat_eq_append]); rw [HWT.out, HW1.out]; omega
          case rel => exact ⟨S', x, true, g, cap, rfl, by have := HWT.out; omega, rfl, rfl, by rw [HN.out], by omega, HS2, hid (HPOP.out.alloc _), HBA⟩
        | true =>
          by_cases hxl : x < L
          · have hxl' : (x : Int) < (L : Int) := by omega
            have HS2 : Hid (StackOk n P k S' true x) := hid (by have h := HST.out; rw [if_neg (by omega)] at h; exact h)
            clear hxl
            go_wp2_with fail
            go_roundg (wtS m S')
            case measure => (try rw [List.concat_eq_append]); rw [HWT.out, HW1.out]; omega
            case rel => exact ⟨S', x, true, g, cap, rfl, by have := HWT.out; omega, rfl, rfl, by rw [HN.out], by omega, HS2, hid (HPOP.out.alloc _), HBA⟩
          · have hxl' : ¬ (x : Int) < (L : Int) := by omega
            have HS2 : Hid (StackOk n P k S' true L) := hid (by have h := HST.out; rw [if_pos ⟨rfl, by omega⟩] at h; exact h)
            clear hxl
            go_wp2_with fail
            go_roundg (wtS m S')
            case measure => (try rw [List.concat_eq_append]); rw [HWT.out, HW1.out]; omega
            case rel => exact ⟨S', L, true, g, cap, rfl, by have := HWT.out; omega, rfl, rfl, by rw [HN.out], hL, HS2, hid (HPOP.out.alloc _), HBA⟩
      · have hne : ((m : Int) == (M : Int)) = false := by rw [beq_eq_false_iff_ne]; omega
        have hjk : j < k := by
          rcases Nat.lt_or_ge j k with h | h
          · exact h
          · exfalso; apply hmM; rw [HMJ.out, HM.out, show j = k by omega]
        have hnx : m * P ≤ M := by
          rw [HMJ.out, HM.out, ← Nat.pow_succ]; exact Nat.pow_le_pow_right (by omega) hjk
        have hnx1 : m ≤ m * P := Nat.le_mul_of_pos_right m (by omega)
        have HSW : Hid (P * wt1 M (m * P) + 1 ≤ wt1 M m) := hid (by have := step_wt hP hjk; rw [HMJ.out, HM.out]; exact this)
        have HST : Hid (StackOk n P k (S' ++ pushL n P m x P) f L) := hid (by
          have := stack_step hP hjk (by have h := HS.out; rw [HMJ.out] at h; exact h)
          rw [HMJ.out]; exact this)
        obtain ⟨NX, hNX⟩ : ∃ NX, NX = m * P := ⟨_, rfl⟩
        have eNX : (m : Int) * (P : Int) = (NX : Int) := by rw [hNX]; push_cast; rfl
        rw [← hNX] at hnx hnx1
        have HNX := hid hNX
        have HBA := hid (HB.out.alloc hbs (.cells #[.int .i64 (x : Int), .int .i64 (m : Int)] 67))
        have HPA := hid (HPOP.out.alloc (.cells #[.int .i64 (x : Int), .int .i64 (m : Int)] 67))
        have HRB : Hid ((wA.alloc (.cells #[.int .i64 (x : Int), .int .i64 (m : Int)] 67)).heap[wA.heap.size]? = some (.cells #[.int .i64 (x : Int), .int .i64 (m : Int)] 67 (0, 0))) := hid (World.alloc_heap_new _ _)
        have hg2 : g ≠ wA.heap.size := by omega
        clear hNX hmM
        go_wp2_with fail
        go_loopw [10, 13] (fun ss sx wx => ∃ (d X g' cap' q : Nat), sx = .int .i64 (X : Int) ∧ X = x + d * m ∧ d ≤ P ∧ X ≤ 10000 ∧ q ≤ 20000 ∧ ss = .slice (some ⟨g', 0, none⟩) q cap' ∧ g' ≠ wA.heap.size ∧ wA.heap.size < wx.heap.size ∧
            Hid (q = (S' ++ pushL n P m x d).length) ∧ Hid (wx.ownsRow w.heap.size 67 2 (.slice (some ⟨g', 0, none⟩) q cap') q (encS (S' ++ pushL n P m x d))) ∧
            Hid (wx.heap[wA.heap.size]? = some (.cells #[.int .i64 (x : Int), .int .i64 (m : Int)] 67 (0, 0))) ∧ Hid (Below w.heap.size w wx)) (fun _ sx _ => (20000 - intOf sx).toNat)
        case atStart =>
          refine ⟨0, x, g, cap, N, rfl, by omega, by omega, by omega, by omega, rfl, hg2, by simp, hid ?_, hid ?_, HRB, HBA⟩
          · rw [show pushL n P m x 0 = [] from rfl, List.append_nil]; exact HN.out
          · rw [show pushL n P m x 0 = [] from rfl, List.append_nil, HN.out]; exact HPA.out
        case round =>
          obtain ⟨d, X, g', cap', q, rfl, hXe, hd, hX, hq, rfl, hg3, hsz, HQ, HOx, HRx, HBx⟩ := hrel
          rename World => wx
          have c01 := cell_row HRx.out
          have c0 := c01.1
          have c1 := c01.2
          have HXE := hid hXe
          by_cases hlt : d < P
          · have hXlt : X < NX := by
              rw [hXe, HNX.out]
              have h1 := Nat.mul_le_mul_right m (show d + 1 ≤ P by omega)
              rw [Nat.succ_mul, Nat.mul_comm P] at h1
              omega
            have hXi : (X : Int) < (NX : Int) := by omega
            have hXn : X + m = x + (d + 1) * m := by rw [hXe, Nat.succ_mul]; omega
            have HXN := hid hXn
            have xx1 : 0 ≤ (X : Int) * (X : Int) := Int.mul_nonneg (by omega) (by omega)
            have xx2 : (X : Int) * (X : Int) ≤ 5000 * 5000 := Int.le_trans (Int.mul_le_mul_of_nonneg_right (show (X : Int) ≤ 5000 by omega) (by omega)) (Int.mul_le_mul_of_nonneg_left (show (X : Int) ≤ 5000 by omega) (by omega))
            have hNX0 : ((NX : Int) == 0) = false := by rw [beq_eq_false_iff_ne]; omega
            have HT : Hid ((((X : Int) * (X : Int) - n).tmod (NX : Int) == 0) = rootB n (m * P) (x + d * m)) := hid (by
              rw [← HNX.out, ← hXe]
              unfold rootB
              rw [Bool.eq_iff_iff, beq_iff_eq, beq_iff_eq]
              exact ⟨fun h => Int.emod_eq_zero_of_dvd (Int.dvd_of_tmod_eq_zero h), fun h => Int.tmod_eq_zero_of_dvd (Int.dvd_of_emod_eq_zero h)⟩)
            clear hXe hXn hXlt c01
            cases hb : rootB n (m * P) (x + d * m) with
            | false =>
              have T := HT.out
              rw [hb] at T
              have HE : Hid (pushL n P m x (d + 1) = pushL n P m x d) := hid (pushL_no hb)
              clear hb
              go_wp2_with fail
              go_roundw
              case measure => simp only [intOf]; omega
              case rel => exact ⟨d + 1, X + m, g', cap', q, by go_num, HXN.out, by omega, by omega, hq, rfl, hg3, hsz, hid (by rw [HE.out]; exact HQ.out), hid (by rw [HE.out]; exact HOx.out), HRx, HBx⟩
            | true =>
              have T := HT.out
              rw [hb] at T
              have HE : Hid (S' ++ pushL n P m x (d + 1) = (S' ++ pushL n P m x d) ++ [(X, NX)]) := hid (by rw [pushL_yes hb, List.append_assoc, HXE.out, HNX.out])
              have hq2 : q ≤ 15000 := by
                have h1 := HQ.out
                have h2 := pushL_len n P m x d
                rw [List.length_append, ← HN.out] at h1
                omega
              have hbx : w.heap.size ≤ wx.heap.size := HBx.out.size
              clear hb
              have hoy := HOx.out.alloc (.cells #[.int .i64 (X : Int), .int .i64 (NX : Int)] 67)
              have HN1 : Hid (∀ u ∈ [Value.int .i64 (X : Int), .int .i64 (NX : Int)], u.oneCell' = true) := hid (fun u hu => by
                rcases List.mem_cons.1 hu with rfl | hu
                · rfl
                · rw [List.mem_singleton] at hu; rw [hu]; rfl)
              have hr2 := (Below.heap_alloc wx (.cells #[.int .i64 (X : Int), .int .i64 (NX : Int)] 67) _ hsz).trans HRx.out
              have HR2 := hid hr2
              have HOY := hid hoy
              clear hr2 hoy
              go_wp2_with (at_builtin; refine wpList_append_own_at _ rfl _ _ 68 rfl w.heap.size 67 i0 (.agg #[.int .i64 0, .int .i64 0]) 2 16 Try.underlying68 hi hz0 hz1 hz2 rfl (by decide) _ _ _ rfl HOY.out ⟨wx.heap.size, 0, none⟩ 1 1 [.int .i64 X, .int .i64 NX] rfl rfl (cell_two_new _ _ _ _) HN1.out (by unfold maxLen; omega) (by omega) (by simp; omega) ?_; intro v' w3 hown' hgrow _ hat; have hr3 : w3.heap[wA.heap.size]? = _ := (hgrow.block wA.heap.size (by simp; omega) (by intro h; exact hg3 (Option.some.inj h).symm)).trans HR2.out; have c3 := (cell_row hr3).2; obtain ⟨g3, cap3, rfl⟩ := ownsRow_succ hown')
              have hsg := hgrow.size
              simp only [World.size_alloc] at hsg
              go_roundw
              case measure => simp only [intOf]; omega
              case rel =>
                refine ⟨d + 1, X + m, g3, cap3, q + 1, by go_num, HXN.out, by omega, by omega, by omega, rfl, ?_, by omega, hid ?_, hid ?_, hid hr3, hid (HBx.out.alloc hbx _ |>.grown hgrow (by simp; omega) (fun k e => (HOx.out.lt k e).1))⟩
                · rcases hat with e | e
                  · have e2 : g3 = g' := Option.some.inj e
                    rw [e2]; exact hg3
                  · have e2 := Option.some.inj e
                    simp only [World.size_alloc] at e2
                    omega
                · rw [HE.out, List.length_append, ← HQ.out]; rfl
                · rw [HE.out, encS_snoc]; exact hown'
          · obtain rfl : d = P := by omega
            have hXge : ¬ (X : Int) < (NX : Int) := by
              rw [hXe, HNX.out, Nat.mul_comm d]; omega
            have HWL : Hid (wtS M (S' ++ pushL n d m x d) < wtS M (S' ++ [(x, m)])) := hid (by
              rw [HWT.out, wtS_app]
              have h1 := push_wt n d m x M d
              have h2 := HSW.out
              omega)
            clear hlt hXe c01
            go_wp2_with fail
            go_roundg (wtS M (S' ++ pushL n d m x d))
            case measure => (try rw [List.concat_eq_append]); exact HWL.out
            case rel => exact ⟨S' ++ pushL n d m x d, L, f, g', cap', rfl, by have := HWL.out; omega, rfl, rfl, by rw [HQ.out], hL, HST, hid (by rw [← HQ.out]; exact HOx.out), HBx⟩

theorem lrootOk_pw {n p k : Int} (hO : okN n = true) (hp : primeI p = true) : lrootOk n p k = pwOk p.toNat k := by
  unfold lrootOk pwOk
  rw [hO, hp, Bool.true_and, Bool.true_and, Bool.eq_iff_iff, Bool.and_eq_true, Bool.and_eq_true, decide_eq_true_eq, decide_eq_true_eq]
  have hb := primeI_bd hp
  constructor
  · rintro ⟨h1, h2⟩
    unfold inR at h1
    simp only [Bool.and_eq_true, decide_eq_true_eq] at h1
    exact ⟨by omega, h2⟩
  · rintro ⟨h1, h2⟩
    refine ⟨?_, h2⟩
    have := pow12 (P := p.toNat) (by omega) h2
    unfold inR
    simp only [Bool.and_eq_true, decide_eq_true_eq]
    omega

theorem localRoot_any (n p k : Int) (w : World) :
    Calls Try.prog 19 #[.int .i64 n, .int .i64 p, .int .i64 k] w fun e w' => e = .returned (lrootV n p k) ∧ Below w.heap.size w w' := by
  cases O : okN n with
  | false =>
    have HK := hid (lrootV_no (show lrootOk n p k = false by unfold lrootOk; rw [O]; rfl))
    have HO := hid O
    clear O
    go_enter Try.func19, Try.ntmps19
    go_wp2_with (go_at_call 61; refine (valid_any _ _).mono ?_; rw [HO.out]; rintro e w' ⟨rfl, rfl⟩)
    go_ret2
    exact ⟨retV HK.out.symm, Below.refl _ _⟩
  | true =>
    have hn := okN_iff.1 O
    have hn1 := hn.1
    have hn2 := hn.2
    cases hp : primeI p with
    | false =>
      have HK := hid (lrootV_no (show lrootOk n p k = false by unfold lrootOk; rw [hp, Bool.false_and, Bool.and_false]))
      have HO := hid O
      have HP := hid hp
      clear O hp hn
      go_enter Try.func19, Try.ntmps19
      go_wp2_with (first | (go_at_call 61; refine (valid_any _ _).mono ?_; rw [HO.out]; rintro e w' ⟨rfl, rfl⟩) | (go_at_call 62; refine (prime_any _ _).mono ?_; rw [HP.out]; rintro e w1 ⟨rfl, hb1⟩))
      go_ret2
      exact ⟨retV HK.out.symm, hb1⟩
    | true =>
      have hbd := primeI_bd hp
      have hpw := lrootOk_pw (k := k) O hp
      obtain ⟨P, rfl⟩ := Int.eq_ofNat_of_zero_le (show 0 ≤ p by omega)
      rw [Int.toNat_natCast] at hpw
      have hP2 : 2 ≤ P := by omega
      have hP5 : P ≤ 5000 := by omega
      have HO := hid O
      have HP := hid hp
      cases hok : pwOk P k with
      | false =>
        have HK := hid (lrootV_no (n := n) (p := (P : Int)) (k := k) (by rw [hpw, hok]))
        have HOK := hid hok
        clear O hp hn hbd hpw hok
        go_enter Try.func19, Try.ntmps19
        go_wp2_with (first | (go_at_call 61; refine (valid_any _ _).mono ?_; rw [HO.out]; rintro e w' ⟨rfl, rfl⟩) | (go_at_call 62; refine (prime_any _ _).mono ?_; rw [HP.out]; rintro e w1 ⟨rfl, hb1⟩) | (go_at_call 63; refine (powerWithin_any _ _ hP2 hP5 _).mono ?_; rw [HOK.out]; rintro e w2 ⟨⟨x, rfl, _⟩, rfl⟩))
        go_ret2
        exact ⟨retV HK.out.symm, hb1⟩
      | true =>
        have hok2 := hok
        unfold pwOk at hok2
        rw [Bool.and_eq_true, decide_eq_true_eq, decide_eq_true_eq] at hok2
        obtain ⟨K, rfl⟩ := Int.eq_ofNat_of_zero_le (show 0 ≤ k by omega)
        rw [Int.toNat_natCast] at hok2
        have HM := hid hok2.2
        have HK : Hid (rootT (rootF (n % ((P ^ K : Nat) : Int)).toNat (P ^ K)) = lrootV n (P : Int) (K : Int)) := hid (by
          unfold lrootV
          rw [if_pos (by rw [hpw, hok]), Int.toNat_natCast, Int.toNat_natCast])
        have HOK := hid hok
        obtain ⟨A, hA⟩ : ∃ A : Int, A = ((P ^ K : Nat) : Int) := ⟨_, rfl⟩
        have HA := hid hA
        obtain ⟨x, b, hxb⟩ : ∃ (x : Int) (b : Bool), lrootV n (P : Int) (K : Int) = .tuple #[.int .i64 x, .bool b] := by
          rw [← HK.out]
          cases rootF (n % ((P ^ K : Nat) : Int)).toNat (P ^ K) with
          | none => exact ⟨_, _, rfl⟩
          | some y => exact ⟨_, _, rfl⟩
        have HXB := hid hxb
        clear O hp hn hbd hpw hok hok2 hA hxb
        go_enter Try.func19, Try.ntmps19
        go_wp2_with (first | (go_at_call 61; refine (valid_any _ _).mono ?_; rw [HO.out]; rintro e w' ⟨rfl, rfl⟩) | (go_at_call 62; refine (prime_any _ _).mono ?_; rw [HP.out]; rintro e w1 ⟨rfl, hb1⟩) | (go_at_call 63; refine (powerWithin_any _ _ hP2 hP5 _).mono ?_; rw [HOK.out]; rintro e w2 ⟨⟨y, rfl, hy⟩, rfl⟩; have HY : Hid (y = ((P ^ K : Nat) : Int)) := hid (by rw [hy (by first | rfl | trivial), Int.toNat_natCast]); clear hy))
        go_wp2_with fail
        go_at_call 64
        rw [HY.out]
        refine (leastLifted_any _ hn1 hn2 _ _ hP2 hP5 HM.out _).mono ?_
        rw [HK.out, HXB.out]
        rintro e w3 ⟨rfl, hb3⟩
        go_wp2_with fail
        go_ret2
        exact ⟨retV HXB.out.symm, hb1.trans (hb3.mono hb1.size)⟩

end Go.Proofs.Ytamdjgcnjgiflaa
