/-
  Contracts of the program's chapter 5: ZeroMany.
-/
import Derived.Test.YtenibnblibnocabZvec2
import Derived.Test.YtenibnblibnocabBun45
import Derived.Test.YtenibnblibnocabZp1
import Derived.Test.YtenibnblibnocabBun43
set_option linter.unusedVariables false
namespace Go.Proofs.Ytenibnblibnocab
open Go.RowKit Go.Shelf
attribute [local go_sem] Oper.semAt_some

theorem good_zero {xs vs : List Int} (hf : fvB xs = true) (hl : vs.length = xs.length) (hb : ∀ v ∈ vs, -1000000 ≤ v ∧ v ≤ 1000000) : goodB xs vs = (zeroB xs vs && decide (plainL vs = vs)) := by
  rw [Bool.eq_iff_iff]
  unfold goodB
  rw [Bool.and_eq_true, Bool.and_eq_true, Bool.and_eq_true, zeroB_iff, someB_iff, decide_eq_true_eq, decide_eq_true_eq, hl]
  constructor
  · rintro ⟨h1, h2, h3⟩
    exact ⟨⟨hb, hf, rfl, h1, h2⟩, h3⟩
  · rintro ⟨⟨_, _, _, h1, h2⟩, h3⟩
    exact ⟨h1, h2, h3⟩
/-- a variable of a slice's type, in a block of its own -/
theorem below_three {n : Nat} {w0 w : World} (h : Below n w0 w) (hn : n ≤ w.heap.size) (o1 o2 o3 : Obj) : Below n w0 (((w.alloc o1).alloc o2).alloc o3) :=
  ((h.alloc hn _).alloc (by simp; omega) _).alloc (by simp; omega) _
theorem boxed_three {w : World} {B : Nat} {t : TypeId} {v : Value} (h : Boxed w B t v) (o1 o2 o3 : Obj) : Boxed (((w.alloc o1).alloc o2).alloc o3) B t v := ((h.alloc o1).alloc o2).alloc o3
theorem captV_new (lo : Int) (b c : Nat) (w : World) : CaptV w.heap.size lo b c (((w.alloc (.cells #[.int .i64 (c : Int)] 3)).alloc (.cells #[.int .i64 lo] 3)).alloc (.cells #[.int .i64 (lo + b - 1)] 3)) := by
  have c1 := ((Boxed.new w 3 (.int .i64 (c : Int))).alloc (.cells #[.int .i64 lo] 3)).alloc (.cells #[.int .i64 (lo + b - 1)] 3)
  have c2 := (Boxed.new (w.alloc (.cells #[.int .i64 (c : Int)] 3)) 3 (.int .i64 lo)).alloc (.cells #[.int .i64 (lo + b - 1)] 3)
  have c3 := Boxed.new ((w.alloc (.cells #[.int .i64 (c : Int)] 3)).alloc (.cells #[.int .i64 lo] 3)) 3 (.int .i64 (lo + b - 1))
  simp only [World.size_alloc] at c2 c3
  exact ⟨c1, c2, c3⟩
theorem turns_boxed {β : Type} {B k : Nat} (hk : k < B) (t : TypeId) (f : β → Value) : Turns B (fun s W => Boxed W k t (f s)) := turns_block hk fun s => .cells #[f s] t (0, 0)
theorem boxed_keeps {W W' : World} {B n : Nat} {t : TypeId} {v : Value} (h : Boxed W B t v) (hb : Below n W W') (hn : B < n) : Boxed W' B t v := (hb.block B hn).trans h

set_option maxRecDepth 100000 in
set_option maxHeartbeats 1000000 in
theorem zeroMany_main (vf : Value) (xs : List Int) (N : Nat) (hN1 : 1 ≤ N) (hN6 : N ≤ 6) (hf : fvB xs = true) (w : World) (hx : Rd w vf xs) :
    Calls Try.prog 52 #[vf, .int .i64 (N : Int)] w fun e w' => e = .returned (.int .i64 (manyR xs (N : Int) xs.length [])) ∧ Below w.heap.size w w' := by
  have hl1 := (fvB_iff.1 hf).2
  have HF := hid hf
  have HX := hid hx
  obtain ⟨a, cap, rfl, _⟩ := hx.form
  have bF := Boxed.new w 23 (.slice a xs.length cap)
  have cF := bF.cell
  have HB1 := hid ((Below.refl w.heap.size w).alloc (Nat.le_refl _) (.cells #[.slice a xs.length cap] 23))
  have HX1 := hid (HX.out.keep HB1.out)
  clear hx hf
  refine (callsIn_wide (n := 5)).1 ?_
  refine callsIn_of_wp_marks Try.func52 rfl trivial ?_ rfl
  simp only [Try.ntmps52, List.size_toArray, List.length_cons, List.length_nil, Nat.reduceAdd, Nat.reduceSub, Array.replicate_succ, Array.replicate_zero, List.push_toArray, List.append_toArray, List.nil_append, List.cons_append]
  gi_wp2_with (first | (refine ⟨trivial, ?_⟩; gi_at_call 93; refine (callsIn_wide.2 (formValidP_any _ xs _ HX1.out)).mono ?_; rw [HF.out]; rintro e w' ⟨rfl, rfl⟩))
  refine ⟨trivial, ?_⟩
  gi_at_call 77
  refine (callsIn_wide.2 (vectors_make _ _ _ _)).mono ?_
  rintro e w' ⟨rfl, rfl⟩
  simp only [World.size_alloc]
  have hpw : (2 * N + 1) ^ xs.length ≤ 28561 := Nat.le_trans (Nat.pow_le_pow_left (show 2 * N + 1 ≤ 13 by omega) _) (Nat.pow_le_pow_right (show 0 < 13 by omega) (show xs.length ≤ 4 by omega))
  have eN : -(N : Int) + ((2 * N + 1 : Nat) : Int) - 1 = (N : Int) := by omega
  have HC := captV_new (-(N : Int)) (2 * N + 1) xs.length ((w.alloc (.cells #[.slice a xs.length cap] 23)).alloc (.cells #[.int .i64 0] 3))
  rw [eN] at HC
  simp only [World.size_alloc] at HC
  have HB2 := hid (HB1.out.alloc (by simp) (.cells #[.int .i64 0] 3))
  have HB4 := below_three HB2.out (by simp; omega) (.cells #[.int .i64 (xs.length : Int)] 3) (.cells #[.int .i64 (-(N : Int))] 3) (.cells #[.int .i64 (N : Int)] 3)
  have bF4 := boxed_three (bF.alloc (.cells #[.int .i64 0] 3)) (.cells #[.int .i64 (xs.length : Int)] 3) (.cells #[.int .i64 (-(N : Int))] 3) (.cells #[.int .i64 (N : Int)] 3)
  have bC4 := boxed_three (Boxed.new (w.alloc (.cells #[.slice a xs.length cap] 23)) 3 (.int .i64 0)) (.cells #[.int .i64 (xs.length : Int)] 3) (.cells #[.int .i64 (-(N : Int))] 3) (.cells #[.int .i64 (N : Int)] 3)
  simp only [World.size_alloc] at bC4
  have HMV := hid (many_vecs xs (N : Int) (by omega) xs.length [])
  have e2N : (2 * (N : Int) + 1).toNat = 2 * N + 1 := by omega
  rw [e2N] at HMV
  simp only [List.nil_append] at HMV
  clear bF cF eN e2N
  gi_wp2_with fail
  refine wpIn_rangeV rfl (by omega) (gf := 106) (lb := #[.pointer (some ⟨w.heap.size + 1 + 1 + 1, 0, none⟩), .pointer (some ⟨w.heap.size + 1 + 1, 0, none⟩), .pointer (some ⟨w.heap.size + 1 + 1 + 2, 0, none⟩)]) rfl trivial (enters_of Try.func106 (by kernel_rfl) rfl)
    (B0 := w.heap.size + 1 + 1) (B1 := w.heap.size + 1 + 1 + 3) (by simp <;> omega) (by simp) (vec_rounds _ (w.heap.size + 1 + 1) (-(N : Int)) (2 * N + 1) xs.length (by omega) (by omega) (by omega) (by omega) hl1.1 hl1.2 _ (by simp) HC) (Below.refl _ _) (fun _ => rfl) (fun x W k r o h hk => yields_put o h hk)
    (fun (pre : List VE) W => (Boxed W w.heap.size 23 (.slice a xs.length cap) ∧ Boxed W (w.heap.size + 1) 3 (.int .i64 (((pre.map (·.2)).countP (goodB xs) : Nat) : Int))) ∧ Below w.heap.size w W)
    (fun _ _ _ => False)
    (Turns.and (Turns.and (turns_boxed (by simp <;> omega) _ _) (turns_boxed (by simp <;> omega) _ _)) (turns_below (Nat.le_refl _) (by simp <;> omega)))
    (fun _ _ _ _ _ hs _ _ => hs)
    ⟨⟨bF4, bC4⟩, HB4⟩ ?a1 ?assign ?body ?done ?stop
  case assign =>
    intro l x W K hK
    gi_wp2
    exact hK
  case body =>
    rintro l pre ⟨g, vs⟩ W ⟨⟨hFx, hCx⟩, hB⟩ ⟨ho, hvl, hv⟩ hsz hlt
    dsimp only at ho hvl hv
    simp only [World.size_alloc] at hsz
    rw [hvl] at ho
    have HV := hid ho.rd
    have HXW := hid (HX.out.keep hB)
    have hcF := hFx.cell
    have HFX := hid hFx
    have HCX := hid hCx
    have HBX := hid hB
    have hcnt := List.countP_le_length (p := goodB xs) (l := pre.map (·.2))
    rw [List.length_map] at hcnt
    have HG := hid (good_zero HF.out hvl (fun v hm => by have := hv v hm; omega))
    have HNX : Hid (((pre ++ [((g, vs) : VE)]).map (·.2)).countP (goodB xs) = (pre.map (·.2)).countP (goodB xs) + if goodB xs vs then 1 else 0) := hid (by
      rw [List.map_append, List.countP_append]
      simp [List.countP_cons])
    obtain ⟨k, hk⟩ : ∃ k, k = (pre.map (·.2)).countP (goodB xs) := ⟨_, rfl⟩
    rw [← hk] at HCX HNX hcnt
    have hk9 : k ≤ 28561 := by omega
    have hv6 : Vec6 vs := fun v hm => by have := hv v hm; omega
    have H6 := hid hv6
    clear hk hFx hCx hB hv hlt hcnt hv6 ho
    cases hz : zeroB xs vs with
    | false =>
      have HZ := hid hz
      have HGF : Hid (goodB xs vs = false) := hid (by rw [HG.out, hz]; rfl)
      clear hz
      gi_wp2_with (refine ⟨trivial, ?_⟩; gi_at_call 60; refine (CallsIn.inRound l (callsIn_wide.2 (zeroIs_any _ _ xs vs _ HXW.out HV.out))).mono ?_; rw [HZ.out]; rintro e w2 ⟨rfl, hb2⟩)
      refine ⟨trivial, ?_⟩
      gi_wp2_with fail
      refine ⟨Stay.of_below hb2, ⟨boxed_keeps HFX.out hb2 (by omega), ?_⟩, HBX.out.trans (hb2.mono HBX.out.size)⟩
      rw [HNX.out, HGF.out]
      exact boxed_keeps HCX.out hb2 (by omega)
    | true =>
      have HZ := hid hz
      have hsm : ∃ v ∈ vs, v ≠ 0 := (zeroB_iff.1 hz).2.2.2.1
      have HSM := hid hsm
      have HGT : Hid (goodB xs vs = decide (plainL vs = vs)) := hid (by rw [HG.out, hz]; rfl)
      obtain ⟨D, hD⟩ : ∃ D, D = decide (plainL vs = vs) := ⟨_, rfl⟩
      have HPI : Hid (∀ (vv : Value) (wx : World), Rd wx vv vs → Calls Try.prog 94 #[vv] wx fun e w' => e = .returned (.bool D) ∧ Below wx.heap.size wx w') := hid (fun vv wx hr => by
        have hc := plainIs_any vv vs wx hr (by omega) (vec11 H6.out)
        rw [someB_iff.2 HSM.out] at hc
        rw [hD]
        exact hc)
      rw [← hD] at HGT
      clear hz hsm hD
      gi_wp2_with (refine ⟨trivial, ?_⟩; gi_at_call 60; refine (CallsIn.inRound l (callsIn_wide.2 (zeroIs_any _ _ xs vs _ HXW.out HV.out))).mono ?_; rw [HZ.out]; rintro e w2 ⟨rfl, hb2⟩; have HV2 := hid (HV.out.keep hb2))
      refine ⟨trivial, ?_⟩
      gi_at_call 94
      refine (CallsIn.inRound l (callsIn_wide.2 (HPI.out _ _ HV2.out))).mono ?_
      rintro e w4 ⟨rfl, hb4⟩
      have hbx : Below W.heap.size W w4 := hb2.trans (hb4.mono hb2.size)
      have HF4 := hid (boxed_keeps HFX.out hbx (by omega))
      have HC4 := hid (boxed_keeps HCX.out hbx (by omega))
      have c4 := HC4.out.cell
      have f4 := HC4.out.frozen
      have HB9 := hid (HBX.out.trans (hbx.mono HBX.out.size))
      have HBX4 := hid hbx
      clear hbx
      cases D with
      | false =>
        gi_wp2
        refine ⟨Stay.of_below HBX4.out, ⟨HF4.out, ?_⟩, HB9.out⟩
        rw [HNX.out, HGT.out]
        exact HC4.out
      | true =>
        have HS4 := hid (HC4.out.set (.int .i64 ((k : Int) + 1)))
        gi_wp2
        refine ⟨(Stay.of_below HBX4.out).trans (Stay.setCell (by show w.heap.size + 1 < w.heap.size + 1 + 1; omega) _), ⟨HF4.out.other (by omega) _, ?_⟩, HB9.out.setCell (p := ⟨w.heap.size + 1, 0, none⟩) (by show w.heap.size ≤ w.heap.size + 1; omega) _⟩
        rw [HNX.out, HGT.out, if_pos rfl]
        push_cast
        exact HS4.out
  case done =>
    rintro ys W hS ⟨⟨hFx, hCx⟩, hB⟩ hK
    rw [hS] at hCx
    have hc := hCx.cell
    gi_wp2
    refine ⟨by simp, .inl ⟨_, _, rfl, run_takeDeferred hK, ?_⟩⟩
    refine ⟨_, results_tmp rfl _ _ _, ?_⟩
    exact ⟨retI (by rw [HMV.out]), hB.trans (belowK_b (w := w) (Nat.le_refl _) W _ _ _ (by simp <;> omega) hK rfl rfl)⟩
  case stop =>
    rintro c pre W _ h _
    exact h.elim

set_option maxRecDepth 100000 in
set_option maxHeartbeats 1000000 in
theorem zeroMany_any (vf : Value) (xs : List Int) (n : Int) (w : World) (hx : Rd w vf xs) : Calls Try.prog 52 #[vf, .int .i64 n] w fun e w' => e = .returned (.int .i64 (zmanyV xs n)) ∧ Below w.heap.size w w' := by
  by_cases hok : zmanyOk xs n = true
  · have hf : fvB xs = true ∧ inR n 1 6 = true := by unfold zmanyOk at hok; rwa [Bool.and_eq_true] at hok
    have hn : 1 ≤ n ∧ n ≤ 6 := by
      have h := hf.2
      unfold inR at h
      rw [Bool.and_eq_true, decide_eq_true_eq, decide_eq_true_eq] at h
      exact h
    obtain ⟨N, rfl⟩ := Int.eq_ofNat_of_zero_le (show 0 ≤ n by omega)
    have e : zmanyV xs (N : Int) = manyR xs (N : Int) xs.length [] := by unfold zmanyV; rw [hok, if_pos rfl]
    rw [e]
    exact zeroMany_main vf xs N (by omega) (by omega) hf.1 w hx
  · have hok : zmanyOk xs n = false := by simpa using hok
    have HV : Hid (zmanyV xs n = -1) := hid (by unfold zmanyV; rw [hok]; rfl)
    have HX := hid hx
    obtain ⟨a, cap, rfl, _⟩ := hx.form
    have bF := Boxed.new w 23 (.slice a xs.length cap)
    have cF := bF.cell
    have HB1 := hid ((Below.refl w.heap.size w).alloc (Nat.le_refl _) (.cells #[.slice a xs.length cap] 23))
    have HX1 := hid (HX.out.keep HB1.out)
    clear hx
    cases hf : fvB xs with
    | false =>
      have HF := hid hf
      clear hf hok
      go_enter Try.func52, Try.ntmps52
      go_wp2_with (go_at_call 93; refine (formValidP_any _ xs _ HX1.out).mono ?_; rw [HF.out]; rintro e w' ⟨rfl, rfl⟩)
      go_ret
      exact ⟨retI HV.out.symm, HB1.out⟩
    | true =>
      have HF := hid hf
      have hn : n < 1 ∨ 6 < n := by
        refine Classical.byContradiction fun hc => ?_
        have : inR n 1 6 = true := by unfold inR; rw [decide_eq_true (show 1 ≤ n by omega), decide_eq_true (show n ≤ 6 by omega)]; rfl
        unfold zmanyOk at hok
        rw [hf, this] at hok
        cases hok
      clear hf hok
      rcases hn with hn | hn
      · go_enter Try.func52, Try.ntmps52
        go_wp2_with (go_at_call 93; refine (formValidP_any _ xs _ HX1.out).mono ?_; rw [HF.out]; rintro e w' ⟨rfl, rfl⟩)
        go_ret
        exact ⟨retI HV.out.symm, HB1.out⟩
      · have hn1 : ¬ n < 1 := by omega
        go_enter Try.func52, Try.ntmps52
        go_wp2_with (go_at_call 93; refine (formValidP_any _ xs _ HX1.out).mono ?_; rw [HF.out]; rintro e w' ⟨rfl, rfl⟩)
        go_ret
        exact ⟨retI HV.out.symm, HB1.out⟩

end Go.Proofs.Ytenibnblibnocab
