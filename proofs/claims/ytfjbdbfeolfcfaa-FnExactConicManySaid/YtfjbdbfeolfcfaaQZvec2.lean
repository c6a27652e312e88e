/-
  The program's vectors of so many integers from a least to a greatest one, all in one block of the iterator's: its contract for every loop body.
-/
import Derived.Test.YtfjbdbfeolfcfaaQBun49
import Derived.Test.YtfjbdbfeolfcfaaQBun24
import Derived.Sort.LoopGhostIn
import Derived.Sort.BigQuietIn
set_option linter.unusedVariables false
namespace Go.Proofs.Ytfjbdbfeolfcfaa
open Go.RowKit Go.Shelf
attribute [local go_sem] Oper.semAt_some

abbrev VE := Nat × List Int
abbrev encV (x : VE) : Array Value := #[.slice (some ⟨x.1, 0, none⟩) x.2.length x.2.length]
/-- what a yield hands out -/
def YieldsV (lo : Int) (b c B : Nat) (x : VE) (W : World) : Prop := Owns W B (.slice (some ⟨x.1, 0, none⟩) x.2.length x.2.length) x.2 ∧ x.2.length = c ∧ ∀ v ∈ x.2, lo ≤ v ∧ v < lo + b
/-- the captured variables -/
def CaptV (B0 : Nat) (lo : Int) (b c : Nat) (W : World) : Prop := Boxed W B0 3 (.int .i64 (c : Int)) ∧ Boxed W (B0 + 1) 3 (.int .i64 lo) ∧ Boxed W (B0 + 2) 3 (.int .i64 (lo + b - 1))
theorem CaptV.hold {B0 : Nat} {lo : Int} {b c : Nat} {W W' : World} (h : CaptV B0 lo b c W) (hk : Hold B0 (B0 + 3) W W') : CaptV B0 lo b c W' :=
  ⟨(hk B0 (Nat.le_refl _) (by omega)).trans h.1, (hk (B0 + 1) (by omega) (by omega)).trans h.2.1, (hk (B0 + 2) (by omega) (by omega)).trans h.2.2⟩
theorem CaptV.below {B0 n : Nat} {lo : Int} {b c : Nat} {W W' : World} (h : CaptV B0 lo b c W) (hk : Below n W W') (hn : B0 + 3 ≤ n) : CaptV B0 lo b c W' := h.hold (fun k _ h2 => hk.block k (by omega))
theorem CaptV.grown {B0 g : Nat} {lo : Int} {b c : Nat} {W W' : World} (h : CaptV B0 lo b c W) (hg : W.grownBy W' (some g)) (hB : B0 + 3 ≤ g) : CaptV B0 lo b c W' :=
  ⟨h.1.kept hg (by intro e; cases e; omega), h.2.1.kept hg (by intro e; cases e; omega), h.2.2.kept hg (by intro e; cases e; omega)⟩
theorem grows_of {W W' : World} (h : Below W.heap.size W W') : W.grownBy W' none := ⟨h.os, h.tape, h.output, h.size, fun k hk _ => h.block k hk⟩
theorem grows_drewN (W : World) (k : Nat) : W.grownBy (W.drewN k) none := ⟨rfl, rfl, rfl, Nat.le_refl _, fun _ _ _ => rfl⟩
theorem Owns.stay {W W' : World} {B C : Nat} {g n cap : Nat} {xs : List Int} (h : Owns W B (.slice (some ⟨g, 0, none⟩) n cap) xs) (hs : Stay C W W') (hC : C ≤ g) : Owns W' B (.slice (some ⟨g, 0, none⟩) n cap) xs := by
  obtain ⟨h1, h2⟩ := h
  refine ⟨h1, ?_⟩
  rcases h2 with h2 | ⟨g', cap', cur, hv, hg, hh, r⟩
  · exact .inl h2
  · cases hv
    exact .inr ⟨_, _, cur, rfl, hg, hs.at_block hC hh, r⟩
theorem vec_last {b c t K : Nat} (hb : 1 ≤ b) (ht : t < c) (h : (K + 1) % b ^ t = 0) (hd : K / b ^ t % b ≠ b - 1) (hK : K < b ^ c) : K + 1 < b ^ c := by
  refine Classical.byContradiction fun hn => hd ?_
  have e0 : K + 1 = b ^ c := by omega
  have e : (K + 1) / b ^ t = K / b ^ t + 1 := by rw [Nat.succ_div_of_dvd (Nat.dvd_of_mod_eq_zero h)]
  have e1 : b ^ c = b ^ t * (b * b ^ (c - 1 - t)) := by rw [← Nat.pow_succ', ← Nat.pow_add]; congr 1; omega
  rw [e0, e1, Nat.mul_div_cancel_left _ (Nat.pow_pos (by omega))] at e
  have hp : 0 < b ^ (c - 1 - t) := Nat.pow_pos (by omega)
  obtain ⟨m, hm⟩ : ∃ m, b ^ (c - 1 - t) = m + 1 := ⟨b ^ (c - 1 - t) - 1, by omega⟩
  rw [hm, Nat.mul_succ] at e
  rw [show K / b ^ t = b - 1 + b * m by omega, Nat.add_mul_mod_self_left, Nat.mod_eq_of_lt (by omega)]

theorem vectors_make (c lo hi : Int) (w : World) :
    Calls Try.prog 54 #[.int .i64 c, .int .i64 lo, .int .i64 hi] w fun e w' => e = .returned (.func (.func 73) #[] #[.pointer (some ⟨w.heap.size + 1, 0, none⟩), .pointer (some ⟨w.heap.size, 0, none⟩), .pointer (some ⟨w.heap.size + 2, 0, none⟩)]) ∧
      w' = ((w.alloc (.cells #[.int .i64 c] 3)).alloc (.cells #[.int .i64 lo] 3)).alloc (.cells #[.int .i64 hi] 3) := by
  go_enter Try.func54, Try.ntmps54
  go_wp2
  go_ret
  exact ⟨rfl, rfl⟩

set_option maxRecDepth 100000 in
set_option maxHeartbeats 4000000 in
theorem vec_in (n l B0 : Nat) (lo : Int) (b c : Nat) (hl1 : -32 ≤ lo) (hl2 : lo ≤ 32) (hb1 : 1 ≤ b) (hb2 : b ≤ 64) (hc1 : 1 ≤ c) (hc4 : c ≤ 4) (J Jx : List VE → World → Prop) (W : World) (hJ : Turns W.heap.size J)
    (hY : ∀ pre x V, J pre V → YieldsV lo b c W.heap.size x V → pre.length < b ^ c → YieldAt Fence.wide (n - 1) Try.prog l (encV x) V fun e V' =>
      (e = .returned (.bool true) ∧ J (pre ++ [x]) V' ∧ Stay W.heap.size V V' ∧ Hold B0 (B0 + 3) V V') ∨ (e = .returned (.bool false) ∧ Jx (pre ++ [x]) V'))
    (hC : CaptV B0 lo b c W) (hB : B0 + 3 ≤ W.heap.size) (hJ0 : J [] W) :
    CallsIn Fence.wide n Try.prog 73 #[.func (.yield l) #[] #[], .pointer (some ⟨B0 + 1, 0, none⟩), .pointer (some ⟨B0, 0, none⟩), .pointer (some ⟨B0 + 2, 0, none⟩)] W fun e V => (∃ v, e = .returned v) ∧
      ((∃ xs : List VE, xs.map (·.2) = vecsL lo b c ∧ J xs V) ∨ (∃ pre : List VE, pre.map (·.2) <+: vecsL lo b c ∧ Jx pre V)) := by
  have HYY := hid hY
  have HJT := hid hJ
  have HC0 := hid hC
  have HJ0 := hid hJ0
  have HRD : Hid (Rd (W.alloc (.cells #[.int .i64 lo] 3)) (.slice (some ⟨W.heap.size, 0, none⟩) 1 1) [lo]) := hid (owns_lit (B := W.heap.size) [lo] _ rfl (Nat.le_refl _) (by unfold maxLen; simp)).rd
  have cm0 := hC.1.cell
  have cm1 := hC.2.1.cell
  have ca0 : (W.alloc (.cells #[.int .i64 lo] 3)).cell? ⟨B0, 0, none⟩ = some (.int .i64 (c : Int)) := (hC.1.alloc _).cell
  clear hY hJ hC hJ0
  refine callsIn_of_wp Try.func73 rfl trivial ?_ rfl
  simp only [Try.ntmps73, List.size_toArray, List.length_cons, List.length_nil, Nat.reduceAdd, Nat.reduceSub, Array.replicate_succ, Array.replicate_zero, List.push_toArray, List.append_toArray, List.nil_append, List.cons_append]
  gi_wp2_with (refine ⟨trivial, wide_depth n, ?_⟩; gi_at_call 74; refine (callsIn_wide.2 (repeat_any _ lo c hc1 hc4 _ HRD.out)).mono ?_; rintro e w2 ⟨rfl, hO, hb⟩)
  have hbW : Below W.heap.size W w2 := ((Below.refl W.heap.size W).alloc (Nat.le_refl _) (.cells #[.int .i64 lo] 3)).trans (hb.mono (by simp))
  simp only [World.size_alloc] at hO
  have HO2 : Hid (Owns w2 W.heap.size (.slice (some ⟨W.heap.size + 1, 0, none⟩) c c) (vecAt lo b c 0)) := hid (by rw [vecAt_first]; exact hO.down (by omega))
  have HJ2 := hid (HJT.out _ _ _ none HJ0.out (grows_of hbW) (fun r e => by cases e))
  have HC2 := hid (HC0.out.below hbW hB)
  have hp0 : 0 < b ^ c := Nat.pow_pos (by omega)
  clear hO hb hbW HJ0 HC0 HRD cm0 cm1 ca0
  gi_loopg [6] (b ^ c) (fun k si wr => ∃ (K : Nat) (pre : List VE), k + K = b ^ c ∧ K < b ^ c ∧ Hid (pre.map (·.2) = (vecsL lo b c).take K) ∧ Hid (Owns wr W.heap.size (.slice (some ⟨W.heap.size + 1, 0, none⟩) c c) (vecAt lo b c K)) ∧ Hid (J pre wr) ∧ Hid (CaptV B0 lo b c wr))
  case atStart => exact ⟨0, [], rfl, hp0, hid rfl, HO2, HJ2, HC2⟩
  case round =>
    obtain ⟨K, pre, hkK, hK, HP, HO, HJr, HCr⟩ := hrel
    rename World => wr
    have hpl : pre.length = K := by
      have h := congrArg List.length HP.out
      rw [List.length_map, List.length_take, vecs_len] at h
      omega
    obtain ⟨fn, tmps, assign, body, hy, hR⟩ := HYY.out pre (W.heap.size + 1, vecAt lo b c K) wr HJr.out ⟨by simp only [vecAt_len]; exact HO.out, vecAt_len lo b c K, vecAt_bd hb1⟩ (by omega)
    dsimp only [encV] at hy
    rw [vecAt_len] at hy
    have HP2 : Hid ((pre ++ [(W.heap.size + 1, vecAt lo b c K)]).map (·.2) = (vecsL lo b c).take (K + 1)) := hid (by rw [vecs_take hK, List.map_append, HP.out]; rfl)
    obtain ⟨pre2, hpre2⟩ : ∃ pre2, pre2 = pre ++ [((W.heap.size + 1, vecAt lo b c K) : VE)] := ⟨_, rfl⟩
    rw [← hpre2] at HP2 hR
    clear hpre2 HP HJr
    gi_wp2
    refine ⟨wide_depth n, hR.mono ?_⟩
    rintro e w3 (⟨rfl, hJ', hS, hH⟩ | ⟨rfl, hJx'⟩)
    · have HJ3 := hid hJ'
      have HO3 : Hid (Owns w3 W.heap.size (.slice (some ⟨W.heap.size + 1, 0, none⟩) c c) (vecPart lo b c K 0)) := hid (by rw [vecPart_zero]; exact HO.out.stay hS (by omega))
      have HC3 := hid (HCr.out.hold hH)
      have cm3 := HC3.out.1.cell
      clear hJ' hS hH HO HCr hy hR
      gi_wp2
      gi_loopw [6] (fun si wr => ∃ t : Nat, si = .int .i64 ((c : Int) - 1 - (t : Int)) ∧ t ≤ c ∧ Hid ((K + 1) % b ^ t = 0) ∧ Hid (Owns wr W.heap.size (.slice (some ⟨W.heap.size + 1, 0, none⟩) c c) (vecPart lo b c K t)) ∧ Hid (J pre2 wr) ∧ Hid (CaptV B0 lo b c wr)) (fun si _ => (intOf si + 1).toNat)
      case atStart => exact ⟨0, by go_num, by omega, hid (Nat.mod_one _), HO3, HJ3, HC3⟩
      case round =>
        obtain ⟨t, rfl, ht, HD, HOt, HJt, HCt⟩ := hrel
        rename World => wt
        by_cases htc : t < c
        · obtain ⟨i, hi⟩ : ∃ i : Nat, i + t + 1 = c := ⟨c - 1 - t, by omega⟩
          have hie : (c : Int) - 1 - (t : Int) = (i : Int) := by omega
          have hie2 : c - 1 - t = i := by omega
          rw [hie]
          have h0i : (0 : Int) ≤ (i : Int) := by omega
          have hic : (i : Int) < (c : Int) := by omega
          have hg1 := HOt.out.elem (i := i) (by rw [vecPart_len]; omega)
          have hg2 := vecPart_at (lo := lo) (b := b) (c := c) (K := K) (t := t) htc
          rw [hie2] at hg2
          rw [hg2] at hg1
          have hf1 := HOt.out.thaw i
          have cb2 := HCt.out.2.2.cell
          have cb1 := HCt.out.2.1.cell
          have hq : K / b ^ t % b < b := Nat.mod_lt _ (by omega)
          have HNX : Hid (K / b ^ t % b ≠ b - 1 → (vecPart lo b c K t).set i (lo + ((K / b ^ t % b : Nat) : Int) + 1) = vecAt lo b c (K + 1) ∧ K + 1 < b ^ c) := hid (fun h => ⟨by rw [← hie2]; exact part_next hb1 htc HD.out h, vec_last hb1 htc HD.out h hK⟩)
          have HST : Hid (K / b ^ t % b = b - 1 → (K + 1) % b ^ (t + 1) = 0) := hid (fun h => carry hb1 HD.out h)
          have HLO : Hid ((vecPart lo b c K t).set i lo = vecPart lo b c K (t + 1)) := hid (by rw [← hie2]; exact part_lo htc)
          obtain ⟨q, hqe⟩ : ∃ q, q = K / b ^ t % b := ⟨_, rfl⟩
          rw [← hqe] at hg1 hq HNX HST
          clear hg2 hqe
          by_cases hqb : q = b - 1
          · have T : ((lo + (q : Int)) == (lo + (b : Int) - 1)) = true := by rw [beq_iff_eq]; omega
            have HD2 := hid (HST.out hqb)
            clear HNX HST hqb
            gi_wp2
            gi_big_quiet_th (fail)
            gi_wp2
            have HSE := hid ((HOt.out.drewN nq).storeAt i lo)
            have HJS := hid (HJT.out _ _ _ (some (W.heap.size + 1)) (HJT.out _ _ _ none HJt.out (grows_drewN wt nq) (fun r e => by cases e)) HSE.out.2 (fun r e => by cases e; omega))
            have HCS := hid (CaptV.grown (W := wt.drewN nq) HCt.out HSE.out.2 (by omega))
            go_roundw
            case measure => simp only [intOf]; omega
            case rel => exact ⟨t + 1, by go_num, by omega, HD2, hid (by have h := HSE.out.1; rw [HLO.out] at h; exact h), HJS, HCS⟩
          · have T : ((lo + (q : Int)) == (lo + (b : Int) - 1)) = false := by rw [beq_eq_false_iff_ne]; omega
            obtain ⟨hnx, hKn⟩ := HNX.out hqb
            have HNX2 := hid hnx
            clear HNX HST hqb hnx
            gi_wp2
            gi_big_quiet_th (fail)
            gi_wp2
            have HSE := hid ((HOt.out.drewN nq).storeAt i (lo + (q : Int) + 1))
            have HJS := hid (HJT.out _ _ _ (some (W.heap.size + 1)) (HJT.out _ _ _ none HJt.out (grows_drewN wt nq) (fun r e => by cases e)) HSE.out.2 (fun r e => by cases e; omega))
            have HCS := hid (CaptV.grown (W := wt.drewN nq) HCt.out HSE.out.2 (by omega))
            gi_roundg (gk - 1)
            case measure => omega
            case rel => exact ⟨K + 1, pre2, by omega, hKn, HP2, hid (by have h := HSE.out.1; rw [HNX2.out] at h; exact h), HJS, HCS⟩
        · obtain rfl : t = c := by omega
          have hm1 : ((t : Int) - 1 - (t : Int)) = -1 := by omega
          rw [hm1]
          have hfull := carried HD.out hK
          have HXS : Hid (pre2.map (·.2) = vecsL lo b t) := hid (by rw [HP2.out, hfull, ← vecs_len lo b t, List.take_length])
          clear hm1 htc
          gi_wp2
          gi_big_quiet_th (fail)
          gi_wp2
          refine bodyPost_ret (results_none rfl _ _ _) rfl ?_
          exact ⟨⟨_, rfl⟩, .inl ⟨pre2, HXS.out, HJT.out _ _ _ none HJt.out (grows_drewN wt nq) (fun r e => by cases e)⟩⟩
    · have HJX := hid hJx'
      clear hJx' hR hy
      gi_wp2
      go_end0
      exact ⟨⟨_, rfl⟩, .inr ⟨pre2, by rw [HP2.out]; exact List.take_prefix _ _, HJX.out⟩⟩

theorem vec_rounds (n B0 : Nat) (lo : Int) (b c : Nat) (hl1 : -32 ≤ lo) (hl2 : lo ≤ 32) (hb1 : 1 ≤ b) (hb2 : b ≤ 64) (hc1 : 1 ≤ c) (hc4 : c ≤ 4) (w : World) (hB : B0 + 3 ≤ w.heap.size) (hc : CaptV B0 lo b c w) :
    RoundsV Fence.wide n Try.prog 73 #[.pointer (some ⟨B0 + 1, 0, none⟩), .pointer (some ⟨B0, 0, none⟩), .pointer (some ⟨B0 + 2, 0, none⟩)] encV (YieldsV lo b c) B0 (B0 + 3) (fun xs => xs.map (·.2) = vecsL lo b c) (fun pre => pre.map (·.2) <+: vecsL lo b c) (b ^ c) w :=
  fun l J Jx W hW hJ _ hY hJ0 => vec_in n l B0 lo b c hl1 hl2 hb1 hb2 hc1 hc4 J Jx W hJ hY (hc.below hW hB) (Nat.le_trans hB hW.size) hJ0

theorem yields_put {lo : Int} {b c B k : Nat} {x : VE} {W : World} {r : Loop} (o : Obj) (h : YieldsV lo b c B x W) (hk : W.heap[k]? = some (.loop r)) : YieldsV lo b c B x (W.putObj k o) := by
  obtain ⟨⟨h1, h2⟩, h3⟩ := h
  refine ⟨⟨h1, ?_⟩, h3⟩
  rcases h2 with h2 | ⟨g, cap, cur, hv, hg, hh, r⟩
  · exact .inl h2
  · refine .inr ⟨g, cap, cur, hv, hg, (World.putObj_heap_other ?_).trans hh, r⟩
    rintro rfl
    rw [hh] at hk
    cases hk

end Go.Proofs.Ytfjbdbfeolfcfaa
