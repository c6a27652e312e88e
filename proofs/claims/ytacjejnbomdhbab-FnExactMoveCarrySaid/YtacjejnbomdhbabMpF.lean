/-
  slices.Chunk at a list of numbers, a square number of them: its contract for every loop body.
-/
import Derived.Test.YtacjejnbomdhbabRangeV
import Derived.Test.YtacjejnbomdhbabMpD
import Derived.RangeFuncNested
import Derived.RangeFuncBound
import Derived.RangeFuncCalls
import Derived.RangeFuncLeaves
import Derived.Shelf.Abstract
import Derived.Shelf.RegionOpen
import Derived.OwnWalkIn
import Derived.TacticsInMore
import Derived.LoopNIn
import Derived.LoopIn
import Derived.OrdersIn
import Derived.Sort.BigQuietIn
set_option linter.unusedVariables false
namespace Go.Proofs.Ytacjejnbomdhbab
open Go.RowKit Go.Shelf
attribute [local go_sem] Oper.semAt_some

abbrev encC (g n : Nat) (x : Fin n) : Array Value := #[.slice (some ⟨g, x.1 * n, none⟩) n n]
/-- what Chunk has captured -/
def ChunkAt (b g n cap : Nat) (W : World) : Prop := Boxed W b 22 (.slice (some ⟨g, 0, none⟩) (n * n) cap) ∧ Boxed W (b + 1) 3 (.int .i64 (n : Int))
theorem ChunkAt.hold {b g n cap : Nat} {W W' : World} (h : ChunkAt b g n cap W) (hk : Hold b (b + 2) W W') : ChunkAt b g n cap W' :=
  ⟨(hk b (Nat.le_refl _) (by omega)).trans h.1, (hk (b + 1) (by omega) (by omega)).trans h.2⟩
theorem chunk_make (v : Value) (n : Nat) (hn : 1 ≤ n) (hn3 : n ≤ 3) (w : World) (hv : ∃ a k c, v = .slice a k c) :
    Calls Try.prog 90 #[v, .int .i64 (n : Int)] w fun e w' => e = .returned (.func (.func 100) #[] #[.pointer (some ⟨w.heap.size, 0, none⟩), .pointer (some ⟨w.heap.size + 1, 0, none⟩)]) ∧ w' = (w.alloc (.cells #[v] 22)).alloc (.cells #[.int .i64 (n : Int)] 3) := by
  obtain ⟨a, k, c, rfl⟩ := hv
  have h1 : ¬ (n : Int) < 1 := by omega
  go_enter Try.func90, Try.ntmps90
  go_wp2
  go_ret
  exact ⟨rfl, rfl⟩

set_option maxRecDepth 100000 in
set_option maxHeartbeats 4000000 in
theorem chunk_in (nd l b g n cap : Nat) (hn : n = 1 ∨ n = 2 ∨ n = 3) (hc : n * n ≤ cap) (hc2 : cap ≤ 9223372036854775807) (J Jx : List (Fin n) → World → Prop) (W : World)
    (hY : ∀ pre x V, J pre V → pre.length < n → YieldAt Fence.wide (nd - 1) Try.prog l (encC g n x) V fun e V' =>
      (e = .returned (.bool true) ∧ J (pre ++ [x]) V' ∧ Hold b (b + 2) V V') ∨ (e = .returned (.bool false) ∧ Jx (pre ++ [x]) V'))
    (hC : ChunkAt b g n cap W) (hJ0 : J [] W) (hJt : ∀ pre V k, J pre V → J pre (V.drewN k)) :
    CallsIn Fence.wide nd Try.prog 100 #[.func (.yield l) #[] #[], .pointer (some ⟨b, 0, none⟩), .pointer (some ⟨b + 1, 0, none⟩)] W fun e V => (∃ v, e = .returned v) ∧
      ((∃ xs : List (Fin n), xs.map (·.1) = List.range n ∧ J xs V) ∨ (∃ pre : List (Fin n), True ∧ Jx pre V)) := by
  have HYY := hid hY
  have HC0 := hid hC
  have HJ0 := hid hJ0
  have HJT := hid hJt
  clear hY hC hJ0 hJt
  refine callsIn_of_wp Try.func100 rfl trivial ?_ rfl
  simp only [Try.ntmps100, List.size_toArray, List.length_cons, List.length_nil, Nat.reduceAdd, Nat.reduceSub, Array.replicate_succ, Array.replicate_zero, List.push_toArray, List.append_toArray, List.nil_append, List.cons_append]
  gi_wp2
  gi_loopw [4] (fun si wr => ∃ (K : Nat) (J0 : Int) (pre : List (Fin n)), si = .int .i64 J0 ∧ J0 = ((K * n : Nat) : Int) ∧ K ≤ n ∧ Hid (pre.map (·.1) = List.range K) ∧ Hid (J pre wr) ∧ Hid (ChunkAt b g n cap wr)) (fun si _ => (n * n + 1 - intOf si).toNat)
  case atStart => exact ⟨0, 0, [], rfl, by simp, by omega, hid rfl, HJ0, HC0⟩
  case round =>
    obtain ⟨K, J0, pre, rfl, hJ0, hK, HP, HJ, HC⟩ := hrel
    rename World => wr
    have hpl : pre.length = K := by
      have h := congrArg List.length HP.out
      rwa [List.length_map, List.length_range] at h
    have c0 := HC.out.1.cell
    have c1 := HC.out.2.cell
    by_cases hlt : K < n
    · have hfin : (n = 1 ∧ K = 0) ∨ (n = 2 ∧ K = 0) ∨ (n = 2 ∧ K = 1) ∨ (n = 3 ∧ K = 0) ∨ (n = 3 ∧ K = 1) ∨ (n = 3 ∧ K = 2) := by omega
      have HYK := hid (fun k => HYY.out pre ⟨K, hlt⟩ (wr.drewN k) (HJT.out _ _ _ HJ.out) (by omega))
      have HP2 : Hid ((pre ++ [(⟨K, hlt⟩ : Fin n)]).map (·.1) = List.range (K + 1)) := hid (by rw [List.map_append, HP.out, List.range_succ]; rfl)
      obtain ⟨pre2, hpre2⟩ : ∃ pre2, pre2 = pre ++ [(⟨K, hlt⟩ : Fin n)] := ⟨_, rfl⟩
      rw [← hpre2] at HP2 HYK
      clear hpre2
      rcases hfin with ⟨rfl, rfl⟩ | ⟨rfl, rfl⟩ | ⟨rfl, rfl⟩ | ⟨rfl, rfl⟩ | ⟨rfl, rfl⟩ | ⟨rfl, rfl⟩
      · obtain rfl : J0 = 0 := by simpa using hJ0
        clear hn hJ0 hK
        gi_wp2
        gi_big_quiet_th (fail)
        obtain ⟨fn, tmps, assign, body, hy, hR⟩ := HYK.out nq
        simp only [encC, Nat.reduceMul] at hy
        gi_wp2
        refine ⟨wide_depth nd, hR.mono ?_⟩
        rintro e w3 (⟨rfl, hJ', hH⟩ | ⟨rfl, hJx'⟩)
        · have HC3 := hid (HC.out.hold (W := wr.drewN nq) hH)
          have HJ3 := hid hJ'
          have c30 := HC3.out.1.cell
          have c31 := HC3.out.2.cell
          clear hJ' hH hy hR
          gi_wp2
          go_roundw
          case measure => simp only [intOf]; omega
          case rel => exact ⟨1, 1, pre2, rfl, by simp, by omega, HP2, HJ3, HC3⟩
        · have HJX := hid hJx'
          clear hJx' hR hy
          gi_wp2
          refine bodyPost_ret (results_none rfl _ _ _) rfl ?_
          exact ⟨⟨_, rfl⟩, .inr ⟨pre2, trivial, HJX.out⟩⟩
      · obtain rfl : J0 = 0 := by simpa using hJ0
        clear hn hJ0 hK
        gi_wp2
        gi_big_quiet_th (fail)
        obtain ⟨fn, tmps, assign, body, hy, hR⟩ := HYK.out nq
        simp only [encC, Nat.reduceMul] at hy
        gi_wp2
        refine ⟨wide_depth nd, hR.mono ?_⟩
        rintro e w3 (⟨rfl, hJ', hH⟩ | ⟨rfl, hJx'⟩)
        · have HC3 := hid (HC.out.hold (W := wr.drewN nq) hH)
          have HJ3 := hid hJ'
          have c30 := HC3.out.1.cell
          have c31 := HC3.out.2.cell
          clear hJ' hH hy hR
          gi_wp2
          go_roundw
          case measure => simp only [intOf]; omega
          case rel => exact ⟨1, 2, pre2, rfl, by simp, by omega, HP2, HJ3, HC3⟩
        · have HJX := hid hJx'
          clear hJx' hR hy
          gi_wp2
          refine bodyPost_ret (results_none rfl _ _ _) rfl ?_
          exact ⟨⟨_, rfl⟩, .inr ⟨pre2, trivial, HJX.out⟩⟩
      · obtain rfl : J0 = 2 := by simpa using hJ0
        clear hn hJ0 hK
        gi_wp2
        gi_big_quiet_th (fail)
        obtain ⟨fn, tmps, assign, body, hy, hR⟩ := HYK.out nq
        simp only [encC, Nat.reduceMul] at hy
        gi_wp2
        refine ⟨wide_depth nd, hR.mono ?_⟩
        rintro e w3 (⟨rfl, hJ', hH⟩ | ⟨rfl, hJx'⟩)
        · have HC3 := hid (HC.out.hold (W := wr.drewN nq) hH)
          have HJ3 := hid hJ'
          have c30 := HC3.out.1.cell
          have c31 := HC3.out.2.cell
          clear hJ' hH hy hR
          gi_wp2
          go_roundw
          case measure => simp only [intOf]; omega
          case rel => exact ⟨2, 4, pre2, rfl, by simp, by omega, HP2, HJ3, HC3⟩
        · have HJX := hid hJx'
          clear hJx' hR hy
          gi_wp2
          refine bodyPost_ret (results_none rfl _ _ _) rfl ?_
          exact ⟨⟨_, rfl⟩, .inr ⟨pre2, trivial, HJX.out⟩⟩
      · obtain rfl : J0 = 0 := by simpa using hJ0
        clear hn hJ0 hK
        gi_wp2
        gi_big_quiet_th (fail)
        obtain ⟨fn, tmps, assign, body, hy, hR⟩ := HYK.out nq
        simp only [encC, Nat.reduceMul] at hy
        gi_wp2
        refine ⟨wide_depth nd, hR.mono ?_⟩
        rintro e w3 (⟨rfl, hJ', hH⟩ | ⟨rfl, hJx'⟩)
        · have HC3 := hid (HC.out.hold (W := wr.drewN nq) hH)
          have HJ3 := hid hJ'
          have c30 := HC3.out.1.cell
          have c31 := HC3.out.2.cell
          clear hJ' hH hy hR
          gi_wp2
          go_roundw
          case measure => simp only [intOf]; omega
          case rel => exact ⟨1, 3, pre2, rfl, by simp, by omega, HP2, HJ3, HC3⟩
        · have HJX := hid hJx'
          clear hJx' hR hy
          gi_wp2
          refine bodyPost_ret (results_none rfl _ _ _) rfl ?_
          exact ⟨⟨_, rfl⟩, .inr ⟨pre2, trivial, HJX.out⟩⟩
      · obtain rfl : J0 = 3 := by simpa using hJ0
        clear hn hJ0 hK
        gi_wp2
        gi_big_quiet_th (fail)
        obtain ⟨fn, tmps, assign, body, hy, hR⟩ := HYK.out nq
        simp only [encC, Nat.reduceMul] at hy
        gi_wp2
        refine ⟨wide_depth nd, hR.mono ?_⟩
        rintro e w3 (⟨rfl, hJ', hH⟩ | ⟨rfl, hJx'⟩)
        · have HC3 := hid (HC.out.hold (W := wr.drewN nq) hH)
          have HJ3 := hid hJ'
          have c30 := HC3.out.1.cell
          have c31 := HC3.out.2.cell
          clear hJ' hH hy hR
          gi_wp2
          go_roundw
          case measure => simp only [intOf]; omega
          case rel => exact ⟨2, 6, pre2, rfl, by simp, by omega, HP2, HJ3, HC3⟩
        · have HJX := hid hJx'
          clear hJx' hR hy
          gi_wp2
          refine bodyPost_ret (results_none rfl _ _ _) rfl ?_
          exact ⟨⟨_, rfl⟩, .inr ⟨pre2, trivial, HJX.out⟩⟩
      · obtain rfl : J0 = 6 := by simpa using hJ0
        clear hn hJ0 hK
        gi_wp2
        gi_big_quiet_th (fail)
        obtain ⟨fn, tmps, assign, body, hy, hR⟩ := HYK.out nq
        simp only [encC, Nat.reduceMul] at hy
        gi_wp2
        refine ⟨wide_depth nd, hR.mono ?_⟩
        rintro e w3 (⟨rfl, hJ', hH⟩ | ⟨rfl, hJx'⟩)
        · have HC3 := hid (HC.out.hold (W := wr.drewN nq) hH)
          have HJ3 := hid hJ'
          have c30 := HC3.out.1.cell
          have c31 := HC3.out.2.cell
          clear hJ' hH hy hR
          gi_wp2
          go_roundw
          case measure => simp only [intOf]; omega
          case rel => exact ⟨3, 9, pre2, rfl, by simp, by omega, HP2, HJ3, HC3⟩
        · have HJX := hid hJx'
          clear hJx' hR hy
          gi_wp2
          refine bodyPost_ret (results_none rfl _ _ _) rfl ?_
          exact ⟨⟨_, rfl⟩, .inr ⟨pre2, trivial, HJX.out⟩⟩
    · obtain rfl : K = n := by omega
      have HE : Hid (pre.map (·.1) = List.range K) := HP
      have hfin : (K = 1 ∧ J0 = 1) ∨ (K = 2 ∧ J0 = 4) ∨ (K = 3 ∧ J0 = 9) := by
        rcases hn with rfl | rfl | rfl <;> simp at hJ0 <;> omega
      rcases hfin with ⟨rfl, rfl⟩ | ⟨rfl, rfl⟩ | ⟨rfl, rfl⟩
      · clear hn hJ0 hK hlt
        gi_wp2
        go_end0
        exact ⟨⟨_, rfl⟩, .inl ⟨pre, HE.out, HJ.out⟩⟩
      · clear hn hJ0 hK hlt
        gi_wp2
        go_end0
        exact ⟨⟨_, rfl⟩, .inl ⟨pre, HE.out, HJ.out⟩⟩
      · clear hn hJ0 hK hlt
        gi_wp2
        go_end0
        exact ⟨⟨_, rfl⟩, .inl ⟨pre, HE.out, HJ.out⟩⟩
theorem chunk_stops (nd b g n cap : Nat) (hn : n = 1 ∨ n = 2 ∨ n = 3) (hc : n * n ≤ cap) (hc2 : cap ≤ 9223372036854775807) (w : World) (hb : b + 2 ≤ w.heap.size) (hC : ChunkAt b g n cap w) :
    SeqStopsK Fence.wide nd Try.prog 100 #[.pointer (some ⟨b, 0, none⟩), .pointer (some ⟨b + 1, 0, none⟩)] (encC g n) (Hold b (b + 2)) (fun xs => xs.map (·.1) = List.range n) (fun _ => True) n w := fun l J Jx W hW hJ _ hY hJ0 =>
  chunk_in nd l b g n cap hn hc hc2 J Jx W hY (hC.hold (fun k _ h2 => hW.block k (by omega))) hJ0 (fun pre V k h => hJ pre V (V.drewN k) none h ⟨rfl, rfl, rfl, Nat.le_refl _, fun _ _ _ => rfl⟩ (fun r e => by cases e))

end Go.Proofs.Ytacjejnbomdhbab
