/-
  Some texts in one file: MpF Pl.
-/
import Derived.Test.YtjabklpnohfjpabQBun28
import Derived.Test.YtjabklpnohfjpabQBun29
import Derived.RangeFuncNested
import Derived.RangeFuncBound
import Derived.RangeFuncCalls
import Derived.RangeFuncLeaves
import Derived.Shelf.Abstract
import Derived.Shelf.RegionOpen
import Derived.OwnWalkIn
import Derived.TacticsInMore
import Derived.LoopNIn
import Derived.LoopIn
import Derived.OrdersIn
import Derived.Sort.BigQuietIn
import Derived.Test.YtjabklpnohfjpabQZm1
import Derived.Test.YtjabklpnohfjpabQBun2
/-! MpF -/
set_option linter.unusedVariables false
namespace Go.Proofs.Ytjabklpnohfjpab
open Go.RowKit Go.Shelf
attribute [local go_sem] Oper.semAt_some

abbrev encC (g n : Nat) (x : Fin n) : Array Value := #[.slice (some ⟨g, x.1 * n, none⟩) n n]
/-- what Chunk has captured -/
def ChunkAt (b g n cap : Nat) (W : World) : Prop := Boxed W b 22 (.slice (some ⟨g, 0, none⟩) (n * n) cap) ∧ Boxed W (b + 1) 3 (.int .i64 (n : Int))
theorem ChunkAt.hold {b g n cap : Nat} {W W' : World} (h : ChunkAt b g n cap W) (hk : Hold b (b + 2) W W') : ChunkAt b g n cap W' :=
  ⟨(hk b (Nat.le_refl _) (by omega)).trans h.1, (hk (b + 1) (by omega) (by omega)).trans h.2⟩
theorem chunk_make (v : Value) (n : Nat) (hn : 1 ≤ n) (hn3 : n ≤ 3) (w : World) (hv : ∃ a k c, v = .slice a k c) :
    Calls Try.prog 90 #[v, .int .i64 (n : Int)] w fun e w' => e = .returned (.func (.func 100) #[] #[.pointer (some ⟨w.heap.size, 0, none⟩), .pointer (some ⟨w.heap.size + 1, 0, none⟩)]) ∧ w' = (w.alloc (.cells #[v] 22)).alloc (.cells #[.int .i64 (n : Int)] 3) := by
  obtain ⟨a, k, c, rfl⟩ := hv
  have h1 : ¬ (n : Int) < 1 := by omega
  go_enter Try.func90, Try.ntmps90
  go_wp2
  go_ret
  exact ⟨rfl, rfl⟩

set_option maxRecDepth 100000 in
set_option maxHeartbeats 4000000 in
theorem chunk_in (nd l b g n cap : Nat) (hn : n = 1 ∨ n = 2 ∨ n = 3) (hc : n * n ≤ cap) (hc2 : cap ≤ 9223372036854775807) (J Jx : List (Fin n) → World → Prop) (W : World)
    (hY : ∀ pre x V, J pre V → pre.length < n → YieldAt Fence.wide (nd - 1) Try.prog l (encC g n x) V fun e V' =>
      (e = .returned (.bool true) ∧ J (pre ++ [x]) V' ∧ Hold b (b + 2) V V') ∨ (e = .returned (.bool false) ∧ Jx (pre ++ [x]) V'))
    (hC : ChunkAt b g n cap W) (hJ0 : J [] W) (hJt : ∀ pre V k, J pre V → J pre (V.drewN k)) :
    CallsIn Fence.wide nd Try.prog 100 #[.func (.yield l) #[] #[], .pointer (some ⟨b, 0, none⟩), .pointer (some ⟨b + 1, 0, none⟩)] W fun e V => (∃ v, e = .returned v) ∧
      ((∃ xs : List (Fin n), xs.map (·.1) = List.range n ∧ J xs V) ∨ (∃ pre : List (Fin n), True ∧ Jx pre V)) := by
  have HYY := hid hY
  have HC0 := hid hC
  have HJ0 := hid hJ0
  have HJT := hid hJt
  clear hY hC hJ0 hJt
  refine callsIn_of_wp Try.func100 rfl trivial ?_ rfl
  simp only [Try.ntmps100, List.size_toArray, List.length_cons, List.length_nil, Nat.reduceAdd, Nat.reduceSub, Array.replicate_succ, Array.replicate_zero, List.push_toArray, List.append_toArray, List.nil_append, List.cons_append]
  gi_wp2
  gi_loopw [4] (fun si wr => ∃ (K : Nat) (J0 : Int) (pre : List (Fin n)), si = .int .i64 J0 ∧ J0 = ((K * n : Nat) : Int) ∧ K ≤ n ∧ Hid (pre.map (·.1) = List.range K) ∧ Hid (J pre wr) ∧ Hid (ChunkAt b g n cap wr)) (fun si _ => (n * n + 1 - intOf si).toNat)
  case atStart => exact ⟨0, 0, [], rfl, by simp, by omega, hid rfl, HJ0, HC0⟩
  case round =>
    obtain ⟨K, J0, pre, rfl, hJ0, hK, HP, HJ, HC⟩ := hrel
    rename World => wr
    have hpl : pre.length = K := by
      have h := congrArg List.length HP.out
      rwa [List.length_map, List.length_range] at h
    have c0 := HC.out.1.cell
    have c1 := HC.out.2.cell
    by_cases hlt : K < n
    · have hfin : (n = 1 ∧ K = 0) ∨ (n = 2 ∧ K = 0) ∨ (n = 2 ∧ K = 1) ∨ (n = 3 ∧ K = 0) ∨ (n = 3 ∧ K = 1) ∨ (n = 3 ∧ K = 2) := by omega
      have HYK := hid (fun k => HYY.out pre ⟨K, hlt⟩ (wr.drewN k) (HJT.out _ _ _ HJ.out) (by omega))
      have HP2 : Hid ((pre ++ [(⟨K, hlt⟩ : Fin n)]).map (·.1) = List.range (K + 1)) := hid (by rw [List.map_append, HP.out, List.range_succ]; rfl)
      obtain ⟨pre2, hpre2⟩ : ∃ pre2, pre2 = pre ++ [(⟨K, hlt⟩ : Fin n)] := ⟨_, rfl⟩
      rw [← hpre2] at HP2 HYK
      clear hpre2
      rcases hfin with ⟨rfl, rfl⟩ | ⟨rfl, rfl⟩ | ⟨rfl, rfl⟩ | ⟨rfl, rfl⟩ | ⟨rfl, rfl⟩ | ⟨rfl, rfl⟩
      · obtain rfl : J0 = 0 := by simpa using hJ0
        clear hn hJ0 hK
        gi_wp2
        gi_big_quiet_th (fail)
        obtain ⟨fn, tmps, assign, body, hy, hR⟩ := HYK.out nq
        simp only [encC, Nat.reduceMul] at hy
        gi_wp2
        refine ⟨wide_depth nd, hR.mono ?_⟩
        rintro e w3 (⟨rfl, hJ', hH⟩ | ⟨rfl, hJx'⟩)
        · have HC3 := hid (HC.out.hold (W := wr.drewN nq) hH)
          have HJ3 := hid hJ'
          have c30 := HC3.out.1.cell
          have c31 := HC3.out.2.cell
          clear hJ' hH hy hR
          gi_wp2
          go_roundw
          case measure => simp only [intOf]; omega
          case rel => exact ⟨1, 1, pre2, rfl, by simp, by omega, HP2, HJ3, HC3⟩
        · have HJX := hid hJx'
          clear hJx' hR hy
          gi_wp2
          refine bodyPost_ret (results_none rfl _ _ _) rfl ?_
          exact ⟨⟨_, rfl⟩, .inr ⟨pre2, trivial, HJX.out⟩⟩
      · obtain rfl : J0 = 0 := by simpa using hJ0
        clear hn hJ0 hK
        gi_wp2
        gi_big_quiet_th (fail)
        obtain ⟨fn, tmps, assign, body, hy, hR⟩ := HYK.out nq
        simp only [encC, Nat.reduceMul] at hy
        gi_wp2
        refine ⟨wide_depth nd, hR.mono ?_⟩
        rintro e w3 (⟨rfl, hJ', hH⟩ | ⟨rfl, hJx'⟩)
        · have HC3 := hid (HC.out.hold (W := wr.drewN nq) hH)
          have HJ3 := hid hJ'
          have c30 := HC3.out.1.cell
          have c31 := HC3.out.2.cell
          clear hJ' hH hy hR
          gi_wp2
          go_roundw
          case measure => simp only [intOf]; omega
          case rel => exact ⟨1, 2, pre2, rfl, by simp, by omega, HP2, HJ3, HC3⟩
        · have HJX := hid hJx'
          clear hJx' hR hy
          gi_wp2
          refine bodyPost_ret (results_none rfl _ _ _) rfl ?_
          exact ⟨⟨_, rfl⟩, .inr ⟨pre2, trivial, HJX.out⟩⟩
      · obtain rfl : J0 = 2 := by simpa using hJ0
        clear hn hJ0 hK
        gi_wp2
        gi_big_quiet_th (fail)
        obtain ⟨fn, tmps, assign, body, hy, hR⟩ := HYK.out nq
        simp only [encC, Nat.reduceMul] at hy
        gi_wp2
        refine ⟨wide_depth nd, hR.mono ?_⟩
        rintro e w3 (⟨rfl, hJ', hH⟩ | ⟨rfl, hJx'⟩)
        · have HC3 := hid (HC.out.hold (W := wr.drewN nq) hH)
          have HJ3 := hid hJ'
          have c30 := HC3.out.1.cell
          have c31 := HC3.out.2.cell
          clear hJ' hH hy hR
          gi_wp2
          go_roundw
          case measure => simp only [intOf]; omega
          case rel => exact ⟨2, 4, pre2, rfl, by simp, by omega, HP2, HJ3, HC3⟩
        · have HJX := hid hJx'
          clear hJx' hR hy
          gi_wp2
          refine bodyPost_ret (results_none rfl _ _ _) rfl ?_
          exact ⟨⟨_, rfl⟩, .inr ⟨pre2, trivial, HJX.out⟩⟩
      · obtain rfl : J0 = 0 := by simpa using hJ0
        clear hn hJ0 hK
        gi_wp2
        gi_big_quiet_th (fail)
        obtain ⟨fn, tmps, assign, body, hy, hR⟩ := HYK.out nq
        simp only [encC, Nat.reduceMul] at hy
        gi_wp2
        refine ⟨wide_depth nd, hR.mono ?_⟩
        rintro e w3 (⟨rfl, hJ', hH⟩ | ⟨rfl, hJx'⟩)
        · have HC3 := hid (HC.out.hold (W := wr.drewN nq) hH)
          have HJ3 := hid hJ'
          have c30 := HC3.out.1.cell
          have c31 := HC3.out.2.cell
          clear hJ' hH hy hR
          gi_wp2
          go_roundw
          case measure => simp only [intOf]; omega
          case rel => exact ⟨1, 3, pre2, rfl, by simp, by omega, HP2, HJ3, HC3⟩
        · have HJX := hid hJx'
          clear hJx' hR hy
          gi_wp2
          refine bodyPost_ret (results_none rfl _ _ _) rfl ?_
          exact ⟨⟨_, rfl⟩, .inr ⟨pre2, trivial, HJX.out⟩⟩
      · obtain rfl : J0 = 3 := by simpa using hJ0
        clear hn hJ0 hK
        gi_wp2
        gi_big_quiet_th (fail)
        obtain ⟨fn, tmps, assign, body, hy, hR⟩ := HYK.out nq
        simp only [encC, Nat.reduceMul] at hy
        gi_wp2
        refine ⟨wide_depth nd, hR.mono ?_⟩
        rintro e w3 (⟨rfl, hJ', hH⟩ | ⟨rfl, hJx'⟩)
        · have HC3 := hid (HC.out.hold (W := wr.drewN nq) hH)
          have HJ3 := hid hJ'
          have c30 := HC3.out.1.cell
          have c31 := HC3.out.2.cell
          clear hJ' hH hy hR
          gi_wp2
          go_roundw
          case measure => simp only [intOf]; omega
          case rel => exact ⟨2, 6, pre2, rfl, by simp, by omega, HP2, HJ3, HC3⟩
        · have HJX := hid hJx'
          clear hJx' hR hy
          gi_wp2
          refine bodyPost_ret (results_none rfl _ _ _) rfl ?_
          exact ⟨⟨_, rfl⟩, .inr ⟨pre2, trivial, HJX.out⟩⟩
      · obtain rfl : J0 = 6 := by simpa using hJ0
        clear hn hJ0 hK
        gi_wp2
        gi_big_quiet_th (fail)
        obtain ⟨fn, tmps, assign, body, hy, hR⟩ := HYK.out nq
        simp only [encC, Nat.reduceMul] at hy
        gi_wp2
        refine ⟨wide_depth nd, hR.mono ?_⟩
        rintro e w3 (⟨rfl, hJ', hH⟩ | ⟨rfl, hJx'⟩)
        · have HC3 := hid (HC.out.hold (W := wr.drewN nq) hH)
          have HJ3 := hid hJ'
          have c30 := HC3.out.1.cell
          have c31 := HC3.out.2.cell
          clear hJ' hH hy hR
          gi_wp2
          go_roundw
          case measure => simp only [intOf]; omega
          case rel => exact ⟨3, 9, pre2, rfl, by simp, by omega, HP2, HJ3, HC3⟩
        · have HJX := hid hJx'
          clear hJx' hR hy
          gi_wp2
          refine bodyPost_ret (results_none rfl _ _ _) rfl ?_
          exact ⟨⟨_, rfl⟩, .inr ⟨pre2, trivial, HJX.out⟩⟩
    · obtain rfl : K = n := by omega
      have HE : Hid (pre.map (·.1) = List.range K) := HP
      have hfin : (K = 1 ∧ J0 = 1) ∨ (K = 2 ∧ J0 = 4) ∨ (K = 3 ∧ J0 = 9) := by
        rcases hn with rfl | rfl | rfl <;> simp at hJ0 <;> omega
      rcases hfin with ⟨rfl, rfl⟩ | ⟨rfl, rfl⟩ | ⟨rfl, rfl⟩
      · clear hn hJ0 hK hlt
        gi_wp2
        go_end0
        exact ⟨⟨_, rfl⟩, .inl ⟨pre, HE.out, HJ.out⟩⟩
      · clear hn hJ0 hK hlt
        gi_wp2
        go_end0
        exact ⟨⟨_, rfl⟩, .inl ⟨pre, HE.out, HJ.out⟩⟩
      · clear hn hJ0 hK hlt
        gi_wp2
        go_end0
        exact ⟨⟨_, rfl⟩, .inl ⟨pre, HE.out, HJ.out⟩⟩
theorem chunk_stops (nd b g n cap : Nat) (hn : n = 1 ∨ n = 2 ∨ n = 3) (hc : n * n ≤ cap) (hc2 : cap ≤ 9223372036854775807) (w : World) (hb : b + 2 ≤ w.heap.size) (hC : ChunkAt b g n cap w) :
    SeqStopsK Fence.wide nd Try.prog 100 #[.pointer (some ⟨b, 0, none⟩), .pointer (some ⟨b + 1, 0, none⟩)] (encC g n) (Hold b (b + 2)) (fun xs => xs.map (·.1) = List.range n) (fun _ => True) n w := fun l J Jx W hW hJ _ hY hJ0 =>
  chunk_in nd l b g n cap hn hc hc2 J Jx W hY (hC.hold (fun k _ h2 => hW.block k (by omega))) hJ0 (fun pre V k h => hJ pre V (V.drewN k) none h ⟨rfl, rfl, rfl, Nat.le_refl _, fun _ _ _ => rfl⟩ (fun r e => by cases e))

end Go.Proofs.Ytjabklpnohfjpab

/-! Pl -/
set_option linter.unusedVariables false
namespace Go.Proofs.Ytjabklpnohfjpab
open Go.RowKit

theorem below_dr {n : Nat} (w : World) (k : Nat) : Below n w (w.drewN k) := ⟨rfl, rfl, rfl, Nat.le_refl _, fun _ _ => rfl⟩
/-- the first that is not 0 -/
def firstL (vs : List Int) : Int := vs.foldl (fun f v => if f = 0 then v else f) 0
theorem first_snoc (vs : List Int) (v : Int) : firstL (vs ++ [v]) = if firstL vs = 0 then v else firstL vs := by unfold firstL; rw [List.foldl_append]; rfl
theorem first_go : ∀ (vs : List Int) (f : Int), f ≠ 0 → vs.foldl (fun f v => if f = 0 then v else f) f = f
  | [], _, _ => rfl
  | v :: vs, f, h => by rw [List.foldl_cons, if_neg h]; exact first_go vs f h
theorem first_sign : ∀ vs : List Int, signL vs = if firstL vs < 0 then -1 else 1
  | [] => rfl
  | v :: vs => by
    unfold signL
    by_cases h : v = 0
    · rw [if_pos h, first_sign vs]
      have : firstL (v :: vs) = firstL vs := by unfold firstL; rw [List.foldl_cons, if_pos rfl, h]
      rw [this]
    · have : firstL (v :: vs) = v := by unfold firstL; rw [List.foldl_cons, if_pos rfl, first_go vs v h]
      rw [if_neg h, this]
theorem first_abs {m : Nat} : ∀ (vs : List Int) (f : Int), f.natAbs ≤ m → (∀ v ∈ vs, v.natAbs ≤ m) → (vs.foldl (fun f v => if f = 0 then v else f) f).natAbs ≤ m
  | [], _, h, _ => h
  | v :: vs, f, h, hv => by
    rw [List.foldl_cons]
    refine first_abs vs _ ?_ fun x hx => hv x (List.mem_cons_of_mem _ hx)
    split
    · exact hv v (List.mem_cons_self ..)
    · exact h
theorem tdiv_sign {s x : Int} {g : Int} (hs : s = 1 ∨ s = -1) : (s * x).tdiv g = x.tdiv (s * g) := by
  rcases hs with rfl | rfl
  · rw [Int.one_mul, Int.one_mul]
  · rw [show (-1 : Int) * x = -x by omega, show (-1 : Int) * g = -g by omega, Int.neg_tdiv, Int.tdiv_neg]

set_option maxRecDepth 100000 in
set_option maxHeartbeats 1000000 in
theorem heightOfG_any (v : Value) (vs : List Int) (w : World) (hv : Rd w v vs) (hl : vs.length ≤ 9) (h6 : ∀ x ∈ vs, -100000000000000 ≤ x ∧ x ≤ 100000000000000) : Calls Try.prog 89 #[v] w fun e w' => e = .returned (.int .i64 (hgtL vs : Nat)) ∧ w = w' := by
  obtain ⟨a', cap', rfl, hform⟩ := hv.form
  have HFM := hid hform
  have H6 := hid h6
  clear hv hform h6
  go_enter Try.func89, Try.ntmps89
  go_wp2_with fail
  go_loop [3, 8] (fun sm si => ∃ K m : Nat, si = .int .i64 K ∧ K ≤ vs.length ∧ sm = .int .i64 m ∧ m ≤ 100000000000000 ∧ Hid (m = hgtL (vs.take K))) (fun _ si => vs.length - (intOf si).toNat)
  case atStart => exact ⟨0, 0, rfl, by omega, rfl, by omega, hid rfl⟩
  case round =>
    obtain ⟨K, m, rfl, hK, rfl, hm, HM⟩ := hrel
    by_cases hlt : K < vs.length
    · obtain ⟨b, o, rfl, hml, hc⟩ := HFM.out (by omega)
      have hcell := hc K hlt
      have hx6 := H6.out (vs.getD K 0) (by rw [getD_at _ _ hlt]; exact List.getElem_mem _)
      have HN : Hid (hgtL (vs.take (K + 1)) = max m (vs.getD K 0).natAbs) := hid (by rw [takeD_snoc hlt, hgt_snoc, ← HM.out])
      obtain ⟨x, hx⟩ : ∃ x, x = vs.getD K 0 := ⟨_, rfl⟩
      rw [← hx] at hcell hx6 HN
      have x1 := hx6.1
      have x2 := hx6.2
      have hKi : (K : Int) < (vs.length : Int) := by omega
      have HLT := hid hlt
      clear hx hc hml hlt hx6
      go_wp2_with (go_at_call 99; refine (size_any _ (by omega) (by omega) _).mono ?_; rintro e w' ⟨rfl, rfl⟩)
      go_round
      case measure => simp only [intOf]; have := HLT.out; omega
      case rel => exact ⟨K + 1, max m x.natAbs, by go_num, by have := HLT.out; omega, vI (by omega), by omega, hid HN.out.symm⟩
    · obtain rfl : K = vs.length := by omega
      have HE : Hid ((m : Int) = (hgtL vs : Nat)) := hid (by rw [HM.out, List.take_length])
      clear hlt
      go_wp2_with fail
      go_ret
      exact ⟨retI HE.out, rfl⟩
theorem heightOfW_any (v : Value) (vs : List Int) (w : World) (hv : Rd w v vs) (hl : vs.length ≤ 4) (h6 : Vec11 vs) : Calls Try.prog 89 #[v] w fun e w' => e = .returned (.int .i64 (hgtL vs : Nat)) ∧ w = w' := heightOfG_any v vs w hv (by omega) fun x hx => by have := h6 x hx; omega
theorem heightOf_any (v : Value) (vs : List Int) (w : World) (hv : Rd w v vs) (hl : vs.length ≤ 4) (h6 : Vec6 vs) : Calls Try.prog 89 #[v] w fun e w' => e = .returned (.int .i64 (hgtL vs : Nat)) ∧ w = w' := heightOfW_any v vs w hv hl (vec11 h6)

set_option maxRecDepth 100000 in
set_option maxHeartbeats 4000000 in
theorem plainOfW_any (v : Value) (xs : List Int) (w : World) (h : Rd w v xs) (hl : xs.length ≤ 4) (h6 : Vec11 xs) (hs : ∃ x ∈ xs, x ≠ 0) : Calls Try.prog 98 #[v] w fun e w' => ∃ u, e = .returned u ∧ Owns w' w.heap.size u (plainL xs) ∧ Below w.heap.size w w' := by
  obtain ⟨i0, hi, hz0, hz1, hz2⟩ := info_parts infoInt
  have HH := hid h
  obtain ⟨ad, cap, rfl, hform⟩ := h.form
  have HFM := hid hform
  have H6 := hid h6
  have HSM := hid hs
  have htk : ∀ K, K ≤ xs.length → gcdL (xs.take K) ≤ 100000000000 := fun K _ => gcdL_leM fun x hx => by
    have := h6 x (List.mem_of_mem_take hx)
    omega
  have hft : ∀ K, K ≤ xs.length → (firstL (xs.take K)).natAbs ≤ 100000000000 := fun K _ => first_abs _ _ (by simp) fun x hx => by
    have := h6 x (List.mem_of_mem_take hx)
    omega
  have HTK := hid htk
  have HFT := hid hft
  clear h h6 hs htk hform hft
  go_enter Try.func98, Try.ntmps98
  go_wp2_with fail
  go_loopw [3, 4, 12] (fun sg ss si wr => ∃ (K g k : Nat) (s : Int), si = .int .i64 K ∧ K ≤ xs.length ∧ sg = .int .i64 g ∧ g ≤ 100000000000 ∧ ss = .int .i64 s ∧ -100000000000 ≤ s ∧ s ≤ 100000000000 ∧ Hid (g = gcdL (xs.take K)) ∧ Hid (s = firstL (xs.take K)) ∧ wr = w.drewN k) (fun _ _ si _ => xs.length - (intOf si).toNat)
  case atStart => exact ⟨0, 0, 0, 0, rfl, by omega, rfl, by omega, rfl, by omega, by omega, hid rfl, hid rfl, rfl⟩
  case round =>
    obtain ⟨K, g, k, s, rfl, hK, rfl, hg, rfl, s1, s2, HG, HS, rfl⟩ := hrel
    by_cases hlt : K < xs.length
    · obtain ⟨b, o, rfl, hml, hc⟩ := HFM.out (by omega)
      have hcell := hc K hlt
      have hx6 := H6.out (xs.getD K 0) (by rw [getD_at _ _ hlt]; exact List.getElem_mem _)
      have hg2 := HTK.out (K + 1) hlt
      obtain ⟨x, hx⟩ : ∃ x, x = xs.getD K 0 := ⟨_, rfl⟩
      have hG : gcdL (xs.take (K + 1)) = Nat.gcd g x.natAbs := by rw [takeD_snoc hlt, gcdL_snoc, ← HG.out, ← hx]
      have hS : firstL (xs.take (K + 1)) = if s = 0 then x else s := by rw [takeD_snoc hlt, first_snoc, ← HS.out, ← hx]
      rw [← hx] at hcell hx6
      have x1 := hx6.1
      have x2 := hx6.2
      rw [hG] at hg2
      have HGN := hid hG
      have HLT := hid hlt
      have hKi : (K : Int) < (xs.length : Int) := by omega
      have eg : ((g : Int).natAbs) = g := Int.natAbs_natCast g
      clear hx hc hml hlt hx6 hG
      by_cases s0 : s = 0
      · have T : (s == 0) = true := by rw [beq_iff_eq]; exact s0
        rw [if_pos s0] at hS
        have HS2 := hid hS
        clear hS s0
        go_wp2_with (go_at_call 94; refine (common_any _ _ (by omega) (by omega) (by omega) (by omega) _).mono ?_; rw [eg]; rintro e w' ⟨rfl, k2, rfl⟩)
        go_roundw
        case measure => simp only [intOf]; have := HLT.out; omega
        case rel => exact ⟨K + 1, _, _, x, by go_num, by have := HLT.out; omega, rfl, hg2, rfl, x1, x2, hid HGN.out.symm, hid HS2.out.symm, by first | rfl | exact World.drewN_drewN ..⟩
      · have T : (s == 0) = false := by rw [beq_eq_false_iff_ne]; exact s0
        rw [if_neg s0] at hS
        have HS2 := hid hS
        clear hS s0
        go_wp2_with (go_at_call 94; refine (common_any _ _ (by omega) (by omega) (by omega) (by omega) _).mono ?_; rw [eg]; rintro e w' ⟨rfl, k2, rfl⟩)
        go_roundw
        case measure => simp only [intOf]; have := HLT.out; omega
        case rel => exact ⟨K + 1, _, _, s, by go_num, by have := HLT.out; omega, rfl, hg2, rfl, s1, s2, hid HGN.out.symm, hid HS2.out.symm, by first | rfl | exact World.drewN_drewN ..⟩
    · obtain rfl : K = xs.length := by omega
      have hsg := signL_pm xs
      have hgp := gcdL_pos HSM.out
      have eG : g = gcdL xs := by rw [HG.out, List.take_length]
      have eS : signL xs = if s < 0 then -1 else 1 := by rw [first_sign, HS.out, List.take_length]
      rw [← eG] at hgp
      obtain ⟨d, hd⟩ : ∃ d, d = signL xs * (g : Int) := ⟨_, rfl⟩
      have HPL : Hid (plainL xs = xs.map (fun x => x.tdiv d)) := hid (by
        unfold plainL
        rw [hd, ← eG]
        exact List.map_congr_left fun x _ => tdiv_sign hsg)
      have hBD : Below w.heap.size w (w.drewN k) := below_dr _ _
      have HB0 := hid (hBD.alloc (Nat.le_refl _) (.cells #[] 3))
      have HO0 : Hid (Owns ((w.drewN k).alloc (.cells #[] 3)) w.heap.size (.slice (some ⟨w.heap.size, 0, none⟩) 0 0) []) := hid (World.ownsRow_made (size := 1) (w.drewN k) #[] 0 (Nat.le_refl _) (by unfold maxLen; omega) rfl)
      have hdd : d = if s < 0 then -(g : Int) else (g : Int) := by
        rw [hd, eS]
        by_cases h : s < 0
        · rw [if_pos h, if_pos h]; omega
        · rw [if_neg h, if_neg h]; omega
      have d1 : -100000000000 ≤ d := by rw [hdd]; split <;> omega
      have d2 : d ≤ 100000000000 := by rw [hdd]; split <;> omega
      have d0 : d ≠ 0 := by rw [hdd]; split <;> omega
      have Td : (d == 0) = false := beq_eq_false_iff_ne.2 d0
      have Tg : ((g : Int) == 0) = false := beq_eq_false_iff_ne.2 (by omega)
      have hbody : ∀ (x : Int), -100000000000 ≤ x → x ≤ 100000000000 → -100000000000 ≤ x.tdiv d ∧ x.tdiv d ≤ 100000000000 := fun x h1 h2 => by
        have : (x.tdiv d).natAbs ≤ 100000000000 := by
          rw [Int.natAbs_tdiv]
          exact Nat.le_trans (Nat.div_le_self _ _) (by omega)
        omega
      have HBD := hid hbody
      clear hlt hsg eG eS HG HS hd hbody
      by_cases hs0 : s < 0
      · rw [if_pos hs0] at hdd
        subst hdd
        have HPN : Hid (plainL xs = xs.map (fun x => -(x.tdiv (g : Int)))) := hid (by rw [HPL.out]; exact List.map_congr_left fun x _ => Int.tdiv_neg ..)
        go_wp2_with fail
        go_loopw [7, 30] (fun so si wr => ∃ K : Nat, si = .int .i64 K ∧ K ≤ xs.length ∧ Hid (Owns wr w.heap.size so ((xs.take K).map (fun x => -(x.tdiv (g : Int))))) ∧ Hid (Below w.heap.size w wr)) (fun _ si _ => xs.length - (intOf si).toNat)
        case atStart => exact ⟨0, rfl, by omega, hid (by simpa using HO0.out), HB0⟩
        case round =>
          obtain ⟨K, rfl, hK, HO, HB⟩ := hrel
          rename World => wr
          by_cases hlt : K < xs.length
          · obtain ⟨a2, cap2, e2, hform⟩ := (HH.out.keep HB.out).form
            cases e2
            obtain ⟨bb, o, rfl, hml, hc⟩ := hform (by omega)
            have hcell := hc K hlt
            have hx6 := H6.out (xs.getD K 0) (by rw [getD_at _ _ hlt]; exact List.getElem_mem _)
            have HSN : Hid ((xs.take (K + 1)).map (fun x => -(x.tdiv (g : Int))) = (xs.take K).map (fun x => -(x.tdiv (g : Int))) ++ [-((xs.getD K 0).tdiv (g : Int))]) := hid (map_snoc hlt)
            obtain ⟨x, hx⟩ : ∃ x, x = xs.getD K 0 := ⟨_, rfl⟩
            rw [← hx] at hcell hx6 HSN
            have hbd := HBD.out x hx6.1 hx6.2
            rw [Int.tdiv_neg] at hbd
            have q1 := hbd.1
            have q2 := hbd.2
            have x1 := hx6.1
            have x2 := hx6.2
            obtain ⟨pre, hpre⟩ : ∃ pre, pre = (xs.take K).map (fun x => -(x.tdiv (g : Int))) := ⟨_, rfl⟩
            have hprel : pre.length ≤ 4 := by rw [hpre, List.length_map, List.length_take]; omega
            rw [← hpre] at HO HSN
            have hi0 : (K : Int) < (xs.length : Int) := by omega
            have HLT := hid hlt
            have hbs : w.heap.size ≤ wr.heap.size := HB.out.size
            unfold maxLen at hml
            clear hform hc hx hlt hpre hbd hx6
            go_wp2_with (at_builtin; refine wpList_append_own_at _ rfl _ _ 22 rfl w.heap.size 3 i0 (.int .i64 0) 1 8 Try.underlying22 hi hz0 hz1 hz2 rfl (by decide) _ _ _ rfl ((show World.ownsRow _ _ _ _ _ _ _ from HO.out).alloc _) ⟨wr.heap.size, 0, none⟩ 1 1 [.int .i64 (-(x.tdiv (g : Int)))] rfl rfl (cell_one_new _ _ _) (by simp [Value.oneCell']) (by unfold maxLen; omega) (by omega) (by simp; omega) ?_; intro v' w3 hown' hgrow _ hat)
            have hsg := hgrow.size
            simp only [World.size_alloc] at hsg
            go_roundw
            case measure => simp only [intOf]; have := HLT.out; omega
            case rel =>
              refine ⟨K + 1, by go_num, by have := HLT.out; omega, hid ?_, hid (HB.out.alloc hbs _ |>.grown hgrow (by simp; omega) (fun k e => (HO.out.ge k e)))⟩
              rw [HSN.out]
              unfold Owns
              simpa using hown'
          · obtain rfl : K = xs.length := by omega
            have HE : Hid (plainL xs = (xs.take xs.length).map (fun x => -(x.tdiv (g : Int)))) := hid (by rw [List.take_length]; exact HPN.out)
            clear hlt
            go_wp2_with fail
            go_ret
            exact ⟨_, rfl, by rw [HE.out]; exact HO.out, HB.out⟩
      · rw [if_neg hs0] at hdd
        subst hdd
        go_wp2_with fail
        go_loopw [7, 30] (fun so si wr => ∃ K : Nat, si = .int .i64 K ∧ K ≤ xs.length ∧ Hid (Owns wr w.heap.size so ((xs.take K).map (fun x => x.tdiv (g : Int)))) ∧ Hid (Below w.heap.size w wr)) (fun _ si _ => xs.length - (intOf si).toNat)
        case atStart => exact ⟨0, rfl, by omega, hid (by simpa using HO0.out), HB0⟩
        case round =>
          obtain ⟨K, rfl, hK, HO, HB⟩ := hrel
          rename World => wr
          by_cases hlt : K < xs.length
          · obtain ⟨a2, cap2, e2, hform⟩ := (HH.out.keep HB.out).form
            cases e2
            obtain ⟨bb, o, rfl, hml, hc⟩ := hform (by omega)
            have hcell := hc K hlt
            have hx6 := H6.out (xs.getD K 0) (by rw [getD_at _ _ hlt]; exact List.getElem_mem _)
            have HSN : Hid ((xs.take (K + 1)).map (fun x => x.tdiv (g : Int)) = (xs.take K).map (fun x => x.tdiv (g : Int)) ++ [(xs.getD K 0).tdiv (g : Int)]) := hid (map_snoc hlt)
            obtain ⟨x, hx⟩ : ∃ x, x = xs.getD K 0 := ⟨_, rfl⟩
            rw [← hx] at hcell hx6 HSN
            have hbd := HBD.out x hx6.1 hx6.2
            have q1 := hbd.1
            have q2 := hbd.2
            have x1 := hx6.1
            have x2 := hx6.2
            obtain ⟨pre, hpre⟩ : ∃ pre, pre = (xs.take K).map (fun x => x.tdiv (g : Int)) := ⟨_, rfl⟩
            have hprel : pre.length ≤ 4 := by rw [hpre, List.length_map, List.length_take]; omega
            rw [← hpre] at HO HSN
            have hi0 : (K : Int) < (xs.length : Int) := by omega
            have HLT := hid hlt
            have hbs : w.heap.size ≤ wr.heap.size := HB.out.size
            unfold maxLen at hml
            clear hform hc hx hlt hpre hbd hx6
            go_wp2_with (at_builtin; refine wpList_append_own_at _ rfl _ _ 22 rfl w.heap.size 3 i0 (.int .i64 0) 1 8 Try.underlying22 hi hz0 hz1 hz2 rfl (by decide) _ _ _ rfl ((show World.ownsRow _ _ _ _ _ _ _ from HO.out).alloc _) ⟨wr.heap.size, 0, none⟩ 1 1 [.int .i64 (x.tdiv (g : Int))] rfl rfl (cell_one_new _ _ _) (by simp [Value.oneCell']) (by unfold maxLen; omega) (by omega) (by simp; omega) ?_; intro v' w3 hown' hgrow _ hat)
            have hsg := hgrow.size
            simp only [World.size_alloc] at hsg
            go_roundw
            case measure => simp only [intOf]; have := HLT.out; omega
            case rel =>
              refine ⟨K + 1, by go_num, by have := HLT.out; omega, hid ?_, hid (HB.out.alloc hbs _ |>.grown hgrow (by simp; omega) (fun k e => (HO.out.ge k e)))⟩
              rw [HSN.out]
              unfold Owns
              simpa using hown'
          · obtain rfl : K = xs.length := by omega
            have HE : Hid (plainL xs = (xs.take xs.length).map (fun x => x.tdiv (g : Int))) := hid (by rw [List.take_length]; exact HPL.out)
            clear hlt
            go_wp2_with fail
            go_ret
            exact ⟨_, rfl, by rw [HE.out]; exact HO.out, HB.out⟩
theorem plainOf_any (v : Value) (xs : List Int) (w : World) (h : Rd w v xs) (hl : xs.length ≤ 4) (h6 : Vec6 xs) (hs : ∃ x ∈ xs, x ≠ 0) : Calls Try.prog 98 #[v] w fun e w' => ∃ u, e = .returned u ∧ Owns w' w.heap.size u (plainL xs) ∧ Below w.heap.size w w' := plainOfW_any v xs w h hl (vec11 h6) hs

end Go.Proofs.Ytjabklpnohfjpab
