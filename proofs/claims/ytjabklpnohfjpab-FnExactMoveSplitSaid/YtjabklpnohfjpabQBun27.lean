/-
  Some texts in one file: MxD MxC MxE MxF MxG.
-/
import Derived.Test.YtjabklpnohfjpabQBun25
import Derived.Test.YtjabklpnohfjpabQBun26
import Derived.Test.YtjabklpnohfjpabQBun20
/-! MxD -/
set_option linter.unusedVariables false
namespace Go.Proofs.Ytjabklpnohfjpab
open Go.RowKit

def OnPost (o : Option (List Int × Int)) (w : World) (e : Ending) (w' : World) : Prop := ∃ u, e = .returned (.tuple #[u, .int .i64 (o.elim 0 (·.2)), .bool o.isSome]) ∧ Owns w' w.heap.size u (o.elim [] (·.1)) ∧ Below w.heap.size w w'
theorem OwnM.one {W : World} {B : Nat} {ex : Option Nat} {v : Value} {R : List (List Int)} (h : OwnM W B ex v R) {i : Nat} (hi : i < R.length) : ∃ g cap z, v = .slice (some ⟨g, 0, none⟩) R.length cap ∧ W.cell? ⟨g, i, none⟩ = some z ∧ Owns W B z (R.getD i []) := by
  obtain ⟨vals, hl, ⟨h1, h2⟩, _, hr, _⟩ := h.own
  rcases h2 with ⟨rfl, hn⟩ | ⟨g, cap, cur, rfl, _, hg, hc2, hm, hs, ht⟩
  · have hn : R.length = 0 := hn
    omega
  · refine ⟨g, cap, vals.getD i undef, rfl, ?_, (hr i hi).1⟩
    have hcur : cur[i]? = some (vals.getD i undef) := by
      rw [← Array.getElem?_toList]
      have hv : vals[i]? = some (vals.getD i undef) := by
        rw [List.getElem?_eq_getElem (by omega)]
        simp [List.getD, List.getElem?_eq_getElem (show i < vals.length by omega)]
      rw [← hv, ← ht, List.getElem?_take_of_lt (by omega)]
    rw [Go.cell_of_row _ _ _ _ _ _ hg, hcur]
/-- one list of numbers in a list -/
theorem rdM_one {W : World} {v : Value} {xs : List Int} (h : Rd W v xs) : RdM (W.alloc (.cells #[v] 22)) (.slice (some ⟨W.heap.size, 0, none⟩) 1 1) [xs] := by
  refine ⟨_, _, [v], rfl, rfl, fun _ => ⟨_, _, rfl, by unfold maxLen; simp, fun i hi => ?_⟩, fun i hi => ?_⟩
  · have hi0 : i = 0 := by simpa using hi
    subst hi0
    rw [cellB (heap_alloc_new W _)]; rfl
  · have hi0 : i = 0 := by simpa using hi
    subst hi0
    exact h.keep (below_box2 _ _)

/-- what holds within MoveOn's region -/
structure OnI (W : World) (bx : Nat) (C V : Value) (a : Int) (ys : List Int) (R2 : List (List Int)) (d2 : Int) (L : Array Bool) (wx : World) (ex : Option Nat) (s9 s21 s22 s23 s24 s25 s26 s27 : Value) : Prop where
  hs : L.size = 9
  hb : Below W.heap.size W wx
  h0 : dn L 0 → s21 = C
  h1 : dn L 1 → s22 = V
  h2 : dn L 2 → (∃ a c, s23 = .slice a ys.length c) ∧ (¬ dn L 6 → Rd wx s23 ys)
  h3 : dn L 3 → ¬ dn L 6 → RdM wx s24 [ys]
  h4 : dn L 4 → s25 = .pointer (some ⟨bx, 1, none⟩)
  h5 : dn L 5 → s26 = .int .i64 a
  h6 : dn L 6 → ∃ u, s27 = .agg #[u, .int .i64 d2] ∧ OwnM wx W.heap.size ex u R2
  h7 : dn L 7 → ∃ b c0 c1, ex = some b ∧ s9 = .pointer (some ⟨b, 0, none⟩) ∧ W.heap.size ≤ b ∧ b < wx.heap.size ∧ wx.heap[b]? = some (.cells #[c0, c1] 29 (0, 0)) ∧ (dn L 8 → s27 = .agg #[c0, c1])
  hx : ¬ dn L 7 → ex = none
  d8 : dn L 8 → dn L 7 ∧ dn L 6
theorem dn_self {L : Array Bool} {i : Nat} (h : L[i]? = some false) : dn (L.setIfInBounds i true) i := by
  unfold dn
  have hl : i < L.size := by
    rcases Nat.lt_or_ge i L.size with hl | hl
    · exact hl
    · rw [Array.getElem?_eq_none hl] at h; cases h
  rw [Array.getElem?_setIfInBounds_self_of_lt hl]
set_option maxRecDepth 100000 in
set_option maxHeartbeats 8000000 in
theorem moveOnS_any (vf va vv : Value) (xs vs : List Int) (A : List (List Int)) (a : Int) (w : World) (hx : Rd w vf xs) (hA : RdM w va A) (hv : Rd w vv vs) : Calls Try.prog 31 #[vf, .agg #[va, .int .i64 a], vv] w (OnPost (onV xs A a vs) w) := by
  obtain ⟨ax, cx, rfl, _⟩ := hx.form
  obtain ⟨aa, ca, rfl⟩ := hA.form
  obtain ⟨av, cv, rfl, _⟩ := hv.form
  have hB0 := below_box2 w (.cells #[.slice aa A.length ca, .int .i64 a] 29)
  have h0 := heap_alloc_new w (.cells #[.slice aa A.length ca, .int .i64 a] 29)
  have x0 := cellB (i := 0) h0
  have x1 := cellB (i := 1) h0
  have HX := hid (hx.keep hB0)
  have HA := hid (hA.keep hB0)
  have HV := hid (hv.keep hB0)
  have HB := hid hB0
  have H0 := hid h0
  clear hx hv hA hB0 h0
  have HVA := hid (fun (wx : World) (h1 : Rd wx (.slice ax xs.length cx) xs) (h2 : RdM wx (.slice aa A.length ca) A) => moveValidS_any (.slice ax xs.length cx) (.slice aa A.length ca) xs A a wx h1 h2)
  have HVV := hid (fun (wx : World) (h1 : Rd wx (.slice ax xs.length cx) xs) (h2 : Rd wx (.slice av vs.length cv) vs) => l4Vector_any _ _ xs vs 1000 (by decide) (by decide) wx h1 h2)
  cases hva : moveB xs A a with
  | false =>
    have HE : Hid (onV xs A a vs = none) := hid (by unfold onV; rw [hva]; rfl)
    rw [hva] at HVA
    clear hva
    go_enter Try.func31, Try.ntmps31
    go_wp2_with fail
    refine (HVA.out _ HX.out HA.out).mono ?_
    rintro e w2 ⟨rfl, hb2⟩
    have HB2 := hid (HB.out.trans (hb2.mono HB.out.size))
    have HN0 : Hid (Owns (w2.alloc (.cells #[] 3)) w2.heap.size (.slice (some ⟨w2.heap.size, 0, none⟩) 0 0) []) := hid (World.ownsRow_made (size := 1) w2 #[] 0 (Nat.le_refl _) (by unfold maxLen; omega) rfl)
    clear hb2
    go_wp2_with fail
    refine bodyPost_ret (v := .tuple #[.slice (some ⟨w2.heap.size, 0, none⟩) 0 0, .int .i64 0, .bool false]) (by simp [results, Try.results31, go_sem]) rfl ?_
    rw [HE.out]
    exact ⟨_, rfl, HN0.out.down HB2.out.size, HB2.out.alloc HB2.out.size _⟩
  | true =>
    have hMA := moveB_iff.1 hva
    rw [hva] at HVA
    cases hvb : vecB xs vs 1000 with
    | false =>
      have HE : Hid (onV xs A a vs = none) := hid (by unfold onV; rw [hva, hvb]; rfl)
      rw [hvb] at HVV
      clear hva hvb hMA
      go_enter Try.func31, Try.ntmps31
      go_wp2_with fail
      refine (HVA.out _ HX.out HA.out).mono ?_
      rintro e w2 ⟨rfl, hb2⟩
      have HB2 := hid (HB.out.trans (hb2.mono HB.out.size))
      have HX2 := hid (HX.out.keep hb2)
      have HV2 := hid (HV.out.keep hb2)
      have HN0 : Hid (Owns (w2.alloc (.cells #[] 3)) w2.heap.size (.slice (some ⟨w2.heap.size, 0, none⟩) 0 0) []) := hid (World.ownsRow_made (size := 1) w2 #[] 0 (Nat.le_refl _) (by unfold maxLen; omega) rfl)
      clear hb2
      go_wp2_with fail
      refine (HVV.out _ HX2.out HV2.out).mono ?_
      rintro e w' ⟨rfl, rfl⟩
      go_wp2_with fail
      refine bodyPost_ret (v := .tuple #[.slice (some ⟨w2.heap.size, 0, none⟩) 0 0, .int .i64 0, .bool false]) (by simp [results, Try.results31, go_sem]) rfl ?_
      rw [HE.out]
      exact ⟨_, rfl, HN0.out.down HB2.out.size, HB2.out.alloc HB2.out.size _⟩
    | true =>
      have hn1 := (fvB_iff.1 hMA.form).2.1
      have hn3 := hMA.l3
      have hvl := (vecB_iff.1 hvb).2.2
      have hvw := (vecB_iff.1 hvb).1
      have hwb : ∀ i, -1000 ≤ fF vs i ∧ fF vs i ≤ 1000 := fun i => by
        unfold fF
        by_cases hi : i < vs.length
        · rw [List.getD_eq_getElem?_getD, List.getElem?_eq_getElem hi]; exact hvw _ (List.getElem_mem _)
        · rw [List.getD_eq_getElem?_getD, List.getElem?_eq_none (by omega)]
          show -1000 ≤ (0 : Int) ∧ (0 : Int) ≤ 1000
          omega
      have hsq : Sq vs.length A := by rw [hvl]; exact hMA.sq
      obtain ⟨ys, hys⟩ : ∃ ys, ys = rowL vs.length (apF (at2 A) vs.length (fF vs)) := ⟨_, rfl⟩
      obtain ⟨R2, hR2⟩ : ∃ R2, R2 = lowR [ys] a := ⟨_, rfl⟩
      obtain ⟨d2, hd2⟩ : ∃ d2, d2 = lowD [ys] a := ⟨_, rfl⟩
      have hyl : ys.length = vs.length := by rw [hys, row_len]
      have hyb : ∀ i k, -1000000000000000 ≤ at2 [ys] i k ∧ at2 [ys] i k ≤ 1000000000000000 := fun i k => by
        have e : at2 [ys] i k = if i = 0 then fF ys k else 0 := by
          cases i with
          | zero => rfl
          | succ i => rfl
        rw [e]
        by_cases hi : i = 0
        · rw [if_pos hi]
          by_cases hk : k < vs.length
          · rw [hys, row_at hk]
            have := sum_bd (f := fun r => at2 A k r * fF vs r) (m := 1000000000) (by omega) vs.length fun r _ => mul_bd9 (hMA.at_bd k r) (hwb r)
            unfold apF
            omega
          · unfold fF
            rw [List.getD_eq_getElem?_getD, List.getElem?_eq_none (by omega)]
            show -1000000000000000 ≤ (0 : Int) ∧ (0 : Int) ≤ 1000000000000000
            omega
        · rw [if_neg hi]; omega
      have HE : Hid (onV xs A a vs = some (R2.getD 0 [], d2)) := hid (by
        unfold onV
        rw [hva, hvb, Bool.and_self, if_pos rfl, hR2, hd2, hys, hvl]
        rfl)
      have HR1 : Hid (R2.length = 1) := hid (by rw [hR2]; rfl)
      obtain ⟨da1, da2⟩ := hMA.den
      have HON := hid (fun (wx : World) (h1 : RdM wx (.slice aa A.length ca) A) (h2 : Rd wx (.slice av vs.length cv) vs) => l7On_any (.slice aa A.length ca) (.slice av vs.length cv) A a vs wx h1 h2 hsq (by omega) (by omega) hMA.at_bd hwb)
      have HLW := hid (fun (wx : World) (v : Value) (h : RdM wx v [ys]) => l7Low_any v [ys] a wx h (by omega) (by omega) (by omega) (by simp) (by simp) (fun i hi => by
        have hi0 : i = 0 := by simpa using hi
        subst hi0
        show 1 ≤ ys.length ∧ ys.length ≤ 4
        omega) hyb)
      rw [← hR2, ← hd2] at HLW
      rw [← hys] at HON
      rw [hvb] at HVV
      clear hva hvb hMA hn1 hn3 hvl hvw hwb hsq hys hR2 hd2 hyl hyb da1 da2
      go_enter Try.func31, Try.ntmps31
      go_wp2_with fail
      refine (HVA.out _ HX.out HA.out).mono ?_
      rintro e w2 ⟨rfl, hb2⟩
      have HB2 := hid (HB.out.trans (hb2.mono HB.out.size))
      have HX2 := hid (HX.out.keep hb2)
      have HV2 := hid (HV.out.keep hb2)
      have HA2 := hid (HA.out.keep hb2)
      have HC2 := hid ((hb2.block _ (Array.getElem?_eq_some_iff.1 H0.out).1).trans H0.out)
      have HLT0 := hid (Array.getElem?_eq_some_iff.1 HC2.out).1
      clear hb2
      go_wp2_with fail
      refine (HVV.out _ HX2.out HV2.out).mono ?_
      rintro e w' ⟨rfl, rfl⟩
      have HON2 : Hid (∀ wx : World, Below w2.heap.size w2 wx → Calls Try.prog 68 #[.agg #[.slice aa A.length ca, .int .i64 a], .slice av vs.length cv] wx fun e w' => ∃ u, e = .returned u ∧ Rd w' u ys ∧ Below wx.heap.size wx w') := hid (fun wx h => by
        refine (HON.out wx (HA2.out.keep h) (HV2.out.keep h)).mono ?_
        rintro e w' ⟨u, rfl, h1, h2⟩
        exact ⟨u, rfl, h1.rd, h2⟩)
      have hr : Below w2.heap.size w2 w2.drew := below_dw (Below.refl _ _)
      go_wp2_with fail
      refine region_inv (by kernel_rfl) (fun L act wx => ∃ (ex : Option Nat) (s9 s21 s22 s23 s24 s25 s26 s27 : Value), act = ({ tmps := #[.slice ax xs.length cx, .agg #[.slice aa A.length ca, .int .i64 a], .slice av vs.length cv, undef, .pointer (some ⟨w.heap.size, 0, none⟩), undef, .slice none 0 0, .int .i64 0, .bool false, s9, .slice ax xs.length cx, .agg #[.slice aa A.length ca, .int .i64 a], .bool true, .bool false, .bool false, .slice ax xs.length cx, .slice av vs.length cv, .bool true, .bool false, .bool false, undef, s21, s22, s23, s24, s25, s26, s27, undef, undef, undef, undef, undef, undef], defers := [] } : Act) ∧ OnI w2 w.heap.size (.agg #[.slice aa A.length ca, .int .i64 a]) (.slice av vs.length cv) a ys R2 d2 L wx ex s9 s21 s22 s23 s24 s25 s26 s27) ?h0 ?hend ?hstep
      case h0 => exact ⟨none, undef, undef, undef, undef, undef, undef, undef, undef, rfl, ⟨rfl, hr, fun h => (dn_new h).elim, fun h => (dn_new h).elim, fun h => (dn_new h).elim, fun h _ => (dn_new h).elim, fun h => (dn_new h).elim, fun h => (dn_new h).elim, fun h => (dn_new h).elim, fun h => (dn_new h).elim, fun _ => rfl, fun h => (dn_new h).elim⟩⟩
      case hstep =>
        rintro L act wx i ⟨ex, s9, s21, s22, s23, s24, s25, s26, s27, rfl, I⟩ hi
        obtain ⟨hi1, hf, hdep⟩ := ready_mem hi
        have hi2 : i < 9 := hi1
        have HI := hid I
        have HF := hid hf
        have hbw := I.hb
        have hsz := hbw.size
        have hb0 := (hbw.block w.heap.size HLT0.out).trans HC2.out
        have d0 := cellB (i := 0) hb0
        have d1 := cellB (i := 1) hb0
        clear hi hi1 I hf hb0
        have hc : i = 0 ∨ i = 1 ∨ i = 2 ∨ i = 3 ∨ i = 4 ∨ i = 5 ∨ i = 6 ∨ i = 7 ∨ i = 8 := by omega
        clear hi2
        rcases hc with rfl | rfl | rfl | rfl | rfl | rfl | rfl | rfl | rfl
        · skip
          clear hdep
          refine wpOp_step rfl (fun K hK => ?_)
          go_simp
          exact hK _ _ ⟨ex, _, _, _, _, _, _, _, _, rfl, ⟨(by rw [Array.size_setIfInBounds]; exact HI.out.hs), HI.out.hb, fun _ => rfl, fun h => HI.out.h1 (dn_old h (by decide)), fun h => ⟨(HI.out.h2 (dn_old h (by decide))).1, fun h' => (HI.out.h2 (dn_old h (by decide))).2 (fun q => h' (dn_keep q))⟩, fun h h' => HI.out.h3 (dn_old h (by decide)) (fun q => h' (dn_keep q)), fun h => HI.out.h4 (dn_old h (by decide)), fun h => HI.out.h5 (dn_old h (by decide)), fun h => HI.out.h6 (dn_old h (by decide)), fun h => by
            obtain ⟨b, c0, c1, k1, k2, k3, k4, k5, k6⟩ := HI.out.h7 (dn_old h (by decide))
            exact ⟨b, c0, c1, k1, k2, k3, k4, k5, fun h => k6 (dn_old h (by decide))⟩, fun h => HI.out.hx (fun q => h (dn_keep q)), fun h => ⟨dn_keep (HI.out.d8 (dn_old h (by decide))).1, dn_keep (HI.out.d8 (dn_old h (by decide))).2⟩⟩⟩
        · skip
          clear hdep
          refine wpOp_step rfl (fun K hK => ?_)
          go_simp
          exact hK _ _ ⟨ex, _, _, _, _, _, _, _, _, rfl, ⟨(by rw [Array.size_setIfInBounds]; exact HI.out.hs), HI.out.hb, fun h => HI.out.h0 (dn_old h (by decide)), fun _ => rfl, fun h => ⟨(HI.out.h2 (dn_old h (by decide))).1, fun h' => (HI.out.h2 (dn_old h (by decide))).2 (fun q => h' (dn_keep q))⟩, fun h h' => HI.out.h3 (dn_old h (by decide)) (fun q => h' (dn_keep q)), fun h => HI.out.h4 (dn_old h (by decide)), fun h => HI.out.h5 (dn_old h (by decide)), fun h => HI.out.h6 (dn_old h (by decide)), fun h => by
            obtain ⟨b, c0, c1, k1, k2, k3, k4, k5, k6⟩ := HI.out.h7 (dn_old h (by decide))
            exact ⟨b, c0, c1, k1, k2, k3, k4, k5, fun h => k6 (dn_old h (by decide))⟩, fun h => HI.out.hx (fun q => h (dn_keep q)), fun h => ⟨dn_keep (HI.out.d8 (dn_old h (by decide))).1, dn_keep (HI.out.d8 (dn_old h (by decide))).2⟩⟩⟩
        · skip
          have q0 : dn L 0 := hdep _ rfl { on := 0, ground := .data } (by simp) rfl
          have q1 : dn L 1 := hdep _ rfl { on := 1, ground := .data } (by simp) rfl
          clear hdep
          obtain rfl := HI.out.h0 q0
          obtain rfl := HI.out.h1 q1
          refine wpOp_step rfl (fun K hK => ?_)
          go_simp
          go_at_call 68
          refine (HON2.out _ hbw).mono ?_
          rintro e wP ⟨uP, rfl, hrd, hbk⟩
          exact hK _ _ ⟨ex, _, _, _, _, _, _, _, _, rfl, ⟨(by rw [Array.size_setIfInBounds]; exact HI.out.hs), hbw.trans (hbk.mono hsz), fun h => HI.out.h0 (dn_old h (by decide)), fun h => HI.out.h1 (dn_old h (by decide)), fun _ => ⟨hrd.form.imp fun _ h => h.imp fun _ h => h.1, fun _ => hrd⟩, fun h h' => (HI.out.h3 (dn_old h (by decide)) (fun q => h' (dn_keep q))).keep hbk, fun h => HI.out.h4 (dn_old h (by decide)), fun h => HI.out.h5 (dn_old h (by decide)), fun h => by
            obtain ⟨u, k1, k2⟩ := HI.out.h6 (dn_old h (by decide))
            exact ⟨u, k1, k2.keep hbk⟩, fun h => by
            obtain ⟨b, c0, c1, k1, k2, k3, k4, k5, k6⟩ := HI.out.h7 (dn_old h (by decide))
            exact ⟨b, c0, c1, k1, k2, k3, Nat.lt_of_lt_of_le k4 hbk.size, (hbk.block b k4).trans k5, fun h => k6 (dn_old h (by decide))⟩, fun h => HI.out.hx (fun q => h (dn_keep q)), fun h => ⟨dn_keep (HI.out.d8 (dn_old h (by decide))).1, dn_keep (HI.out.d8 (dn_old h (by decide))).2⟩⟩⟩
        · skip
          have q2 : dn L 2 := hdep _ rfl { on := 2, ground := .data } (by simp) rfl
          clear hdep
          obtain ⟨a23, c23, rfl⟩ := (HI.out.h2 q2).1
          refine wpOp_step rfl (fun K hK => ?_)
          go_simp
          have hbk : Below wx.heap.size wx (wx.alloc (.cells #[.slice a23 ys.length c23] 22)) := below_box2 _ _
          exact hK _ _ ⟨ex, _, _, _, _, _, _, _, _, rfl, ⟨(by rw [Array.size_setIfInBounds]; exact HI.out.hs), hbw.trans (hbk.mono hsz), fun h => HI.out.h0 (dn_old h (by decide)), fun h => HI.out.h1 (dn_old h (by decide)), fun h => ⟨(HI.out.h2 (dn_old h (by decide))).1, fun h' => ((HI.out.h2 (dn_old h (by decide))).2 (fun q => h' (dn_keep q))).keep hbk⟩, fun _ h' => rdM_one ((HI.out.h2 q2).2 (fun q => h' (dn_keep q))), fun h => HI.out.h4 (dn_old h (by decide)), fun h => HI.out.h5 (dn_old h (by decide)), fun h => by
            obtain ⟨u, k1, k2⟩ := HI.out.h6 (dn_old h (by decide))
            exact ⟨u, k1, k2.keep hbk⟩, fun h => by
            obtain ⟨b, c0, c1, k1, k2, k3, k4, k5, k6⟩ := HI.out.h7 (dn_old h (by decide))
            exact ⟨b, c0, c1, k1, k2, k3, Nat.lt_of_lt_of_le k4 hbk.size, (hbk.block b k4).trans k5, fun h => k6 (dn_old h (by decide))⟩, fun h => HI.out.hx (fun q => h (dn_keep q)), fun h => ⟨dn_keep (HI.out.d8 (dn_old h (by decide))).1, dn_keep (HI.out.d8 (dn_old h (by decide))).2⟩⟩⟩
        · skip
          clear hdep
          refine wpOp_step rfl (fun K hK => ?_)
          go_simp
          exact hK _ _ ⟨ex, _, _, _, _, _, _, _, _, rfl, ⟨(by rw [Array.size_setIfInBounds]; exact HI.out.hs), HI.out.hb, fun h => HI.out.h0 (dn_old h (by decide)), fun h => HI.out.h1 (dn_old h (by decide)), fun h => ⟨(HI.out.h2 (dn_old h (by decide))).1, fun h' => (HI.out.h2 (dn_old h (by decide))).2 (fun q => h' (dn_keep q))⟩, fun h h' => HI.out.h3 (dn_old h (by decide)) (fun q => h' (dn_keep q)), fun _ => rfl, fun h => HI.out.h5 (dn_old h (by decide)), fun h => HI.out.h6 (dn_old h (by decide)), fun h => by
            obtain ⟨b, c0, c1, k1, k2, k3, k4, k5, k6⟩ := HI.out.h7 (dn_old h (by decide))
            exact ⟨b, c0, c1, k1, k2, k3, k4, k5, fun h => k6 (dn_old h (by decide))⟩, fun h => HI.out.hx (fun q => h (dn_keep q)), fun h => ⟨dn_keep (HI.out.d8 (dn_old h (by decide))).1, dn_keep (HI.out.d8 (dn_old h (by decide))).2⟩⟩⟩
        · skip
          have q4 : dn L 4 := hdep _ rfl { on := 4, ground := .data } (by simp) rfl
          clear hdep
          obtain rfl := HI.out.h4 q4
          refine wpOp_step rfl (fun K hK => ?_)
          go_simp
          exact hK _ _ ⟨ex, _, _, _, _, _, _, _, _, rfl, ⟨(by rw [Array.size_setIfInBounds]; exact HI.out.hs), HI.out.hb, fun h => HI.out.h0 (dn_old h (by decide)), fun h => HI.out.h1 (dn_old h (by decide)), fun h => ⟨(HI.out.h2 (dn_old h (by decide))).1, fun h' => (HI.out.h2 (dn_old h (by decide))).2 (fun q => h' (dn_keep q))⟩, fun h h' => HI.out.h3 (dn_old h (by decide)) (fun q => h' (dn_keep q)), fun h => HI.out.h4 (dn_old h (by decide)), fun _ => rfl, fun h => HI.out.h6 (dn_old h (by decide)), fun h => by
            obtain ⟨b, c0, c1, k1, k2, k3, k4, k5, k6⟩ := HI.out.h7 (dn_old h (by decide))
            exact ⟨b, c0, c1, k1, k2, k3, k4, k5, fun h => k6 (dn_old h (by decide))⟩, fun h => HI.out.hx (fun q => h (dn_keep q)), fun h => ⟨dn_keep (HI.out.d8 (dn_old h (by decide))).1, dn_keep (HI.out.d8 (dn_old h (by decide))).2⟩⟩⟩
        · skip
          have q3 : dn L 3 := hdep _ rfl { on := 3, ground := .data } (by simp) rfl
          have q5 : dn L 5 := hdep _ rfl { on := 5, ground := .data } (by simp) rfl
          clear hdep
          have hrm := HI.out.h3 q3 (dn_not HF.out)
          obtain rfl := HI.out.h5 q5
          refine wpOp_step rfl (fun K hK => ?_)
          go_simp
          go_at_call 56
          refine (HLW.out _ _ hrm).mono ?_
          rintro e wP ⟨uP, rfl, hop, hbk⟩
          have hoq : OwnM wP w2.heap.size ex uP R2 := by
            by_cases h7 : dn L 7
            · obtain ⟨b, _, _, rfl, _, _, hlt, _⟩ := HI.out.h7 h7
              exact (hop.exOf (.inl hlt)).down hsz
            · rw [HI.out.hx h7]; exact hop.down hsz
          exact hK _ _ ⟨ex, _, _, _, _, _, _, _, _, rfl, ⟨(by rw [Array.size_setIfInBounds]; exact HI.out.hs), hbw.trans (hbk.mono hsz), fun h => HI.out.h0 (dn_old h (by decide)), fun h => HI.out.h1 (dn_old h (by decide)), fun h => ⟨(HI.out.h2 (dn_old h (by decide))).1, fun h' => absurd (dn_self HF.out) h'⟩, fun _ h' => absurd (dn_self HF.out) h', fun h => HI.out.h4 (dn_old h (by decide)), fun h => HI.out.h5 (dn_old h (by decide)), fun _ => ⟨uP, rfl, hoq⟩, fun h => by
            obtain ⟨b, c0, c1, k1, k2, k3, k4, k5, k6⟩ := HI.out.h7 (dn_old h (by decide))
            exact ⟨b, c0, c1, k1, k2, k3, Nat.lt_of_lt_of_le k4 hbk.size, (hbk.block b k4).trans k5, fun h => (dn_not HF.out (HI.out.d8 (dn_old h (by decide))).2).elim⟩, fun h => HI.out.hx (fun q => h (dn_keep q)), fun h => (dn_not HF.out (HI.out.d8 (dn_old h (by decide))).2).elim⟩⟩
        · skip
          clear hdep
          refine wpOp_step rfl (fun K hK => ?_)
          go_simp
          have hbk : Below wx.heap.size wx (wx.alloc (.cells #[.slice none 0 0, .int .i64 0] 29)) := below_box2 _ _
          exact hK _ _ ⟨(some wx.heap.size), _, _, _, _, _, _, _, _, rfl, ⟨(by rw [Array.size_setIfInBounds]; exact HI.out.hs), hbw.trans (hbk.mono hsz), fun h => HI.out.h0 (dn_old h (by decide)), fun h => HI.out.h1 (dn_old h (by decide)), fun h => ⟨(HI.out.h2 (dn_old h (by decide))).1, fun h' => ((HI.out.h2 (dn_old h (by decide))).2 (fun q => h' (dn_keep q))).keep hbk⟩, fun h h' => (HI.out.h3 (dn_old h (by decide)) (fun q => h' (dn_keep q))).keep hbk, fun h => HI.out.h4 (dn_old h (by decide)), fun h => HI.out.h5 (dn_old h (by decide)), fun h => by
            obtain ⟨u, k1, k2⟩ := HI.out.h6 (dn_old h (by decide))
            rw [HI.out.hx (dn_not HF.out)] at k2
            exact ⟨u, k1, (k2.exOf (.inr (Nat.le_refl _))).keep hbk⟩, fun _ => ⟨wx.heap.size, _, _, rfl, rfl, hsz, by simp, heap_alloc_new _ _, fun h => (dn_not HF.out (HI.out.d8 (dn_old h (by decide))).1).elim⟩, fun h => absurd (dn_self HF.out) h, fun h => (dn_not HF.out (HI.out.d8 (dn_old h (by decide))).1).elim⟩⟩
        · skip
          have q7 : dn L 7 := hdep _ rfl { on := 7, ground := .data } (by simp) rfl
          have q6 : dn L 6 := hdep _ rfl { on := 6, ground := .data } (by simp) rfl
          clear hdep
          obtain ⟨b, c0, c1, rfl, rfl, k3, k4, k5, _⟩ := HI.out.h7 q7
          obtain ⟨u, rfl, ho⟩ := HI.out.h6 q6
          obtain ⟨ua, uc, rfl⟩ := ho.rd.form
          have y0 := cellB (i := 0) k5
          have y1 := cellB (i := 1) k5
          have z0 := frozenB (i := 0) k5
          have z1 := frozenB (i := 1) k5
          refine wpOp_step rfl (fun K hK => ?_)
          go_simp
          exact hK _ _ ⟨(some b), _, _, _, _, _, _, _, _, rfl, ⟨(by rw [Array.size_setIfInBounds]; exact HI.out.hs), (hbw.setCell k3 _).setCell k3 _, fun h => HI.out.h0 (dn_old h (by decide)), fun h => HI.out.h1 (dn_old h (by decide)), fun h => ⟨(HI.out.h2 (dn_old h (by decide))).1, fun h' => absurd (dn_keep q6) h'⟩, fun _ h' => absurd (dn_keep q6) h', fun h => HI.out.h4 (dn_old h (by decide)), fun h => HI.out.h5 (dn_old h (by decide)), fun _ => ⟨_, rfl, (ho.setLow (a := ⟨b, 0, none⟩) (.inr rfl) _).setLow (a := ⟨b, 1, none⟩) (.inr rfl) _⟩, fun _ => ⟨b, _, _, rfl, rfl, k3, (by simpa using k4), heap_cells2 k5, fun _ => rfl⟩, fun h => absurd (dn_keep q7) h, fun _ => ⟨dn_keep q7, dn_keep q6⟩⟩⟩
      case hend =>
        rintro L act wx ⟨ex, s9, s21, s22, s23, s24, s25, s26, s27, rfl, I⟩ hrd
        have D := all_done2 I.hs (by kernel_rfl) hrd
        obtain ⟨u, rfl, ho⟩ := I.h6 (D 6 (by decide))
        obtain ⟨b, c0, c1, rfl, rfl, k3, k4, k5, k6⟩ := I.h7 (D 7 (by decide))
        have k7 := k6 (D 8 (by decide))
        simp only [Value.agg.injEq, Array.mk.injEq, List.cons.injEq, and_true] at k7
        obtain ⟨rfl, rfl⟩ := k7
        obtain ⟨g, cap, z, rfl, hz1, hz2⟩ := ho.one (i := 0) (by rw [HR1.out]; omega)
        have hl1 : (0 : Int) < (R2.length : Int) := by rw [HR1.out]; decide
        obtain ⟨az, cz, rfl⟩ := hz2.reads
        have y0 := cellB (i := 0) k5
        have y1 := cellB (i := 1) k5
        have HO := hid (hz2.down HB2.out.size)
        have HBX := hid (HB2.out.trans (I.hb.mono HB2.out.size))
        clear I D hrd k3 k4 k5 k6 hz2 ho
        go_wp2_with fail
        go_quiet (fail)
        go_wp2_with fail
        refine bodyPost_ret (v := .tuple #[.slice az (R2.getD 0 []).length cz, .int .i64 d2, .bool true]) (by simp [results, Try.results31, go_sem]) rfl ?_
        rw [HE.out]
        exact ⟨_, rfl, HO.out, below_drewN HBX.out _⟩

end Go.Proofs.Ytjabklpnohfjpab

/-! MxC -/
set_option linter.unusedVariables false
namespace Go.Proofs.Ytjabklpnohfjpab
open Go.RowKit

def sumV (us vs : List Int) (c : Int) : Nat → Int := fun i => fF us i + c * fF vs i

set_option maxRecDepth 100000 in
set_option maxHeartbeats 4000000 in
theorem l7Mix_any (vu vv : Value) (us vs : List Int) (c : Int) (w : World) (hu : Rd w vu us) (hv : Rd w vv vs) (hl : us.length = vs.length) (hn1 : 1 ≤ vs.length) (hn3 : vs.length ≤ 3) (hc : -1 ≤ c ∧ c ≤ 1) (hbu : ∀ i, -1000000000000 ≤ fF us i ∧ fF us i ≤ 1000000000000) (hbv : ∀ i, -1000000000000 ≤ fF vs i ∧ fF vs i ≤ 1000000000000) :
    Calls Try.prog 75 #[vu, vv, .int .i64 c] w fun e w' => ∃ u, e = .returned u ∧ Owns w' w.heap.size u (rowL vs.length (sumV us vs c)) ∧ Below w.heap.size w w' := by
  obtain ⟨i0, hi0, hz0, hz1, hz2⟩ := info_parts infoInt
  obtain ⟨au, cu, rfl, hfu⟩ := hu.form
  obtain ⟨av, cv, rfl, hfv⟩ := hv.form
  rw [hl] at hfu
  obtain ⟨bu, ou, rfl, _, huc⟩ := hfu (by omega)
  obtain ⟨bv, ov, rfl, _, hvc⟩ := hfv (by omega)
  have HU := hid hu
  have HV := hid hv
  have HBU := hid hbu
  have HBV := hid hbv
  have HL := hid hl
  rw [hl]
  rw [hl] at HU
  have HR0 : Hid (Owns (w.alloc (.cells #[] 3)) w.heap.size (.slice (some ⟨w.heap.size, 0, none⟩) 0 0) []) := hid (World.ownsRow_made (size := 1) w #[] 0 (Nat.le_refl _) (by unfold maxLen; omega) rfl)
  have HB0 := hid ((Below.refl w.heap.size w).alloc (Nat.le_refl _) (.cells #[] 3))
  clear hu hv hl hfu hfv huc hvc hbu hbv
  go_enter Try.func75, Try.ntmps75
  go_wp2_with fail
  go_loopw [7, 8] (fun so si wr => ∃ i : Nat, si = .int .i64 i ∧ i ≤ vs.length ∧ Hid (Owns wr w.heap.size so ((rowL vs.length (sumV us vs c)).take i)) ∧ Hid (Below w.heap.size w wr)) (fun _ si _ => vs.length - (intOf si).toNat)
  case atStart => exact ⟨0, rfl, by omega, hid (by simpa using HR0.out), HB0⟩
  case round =>
    obtain ⟨i, rfl, hi, HO, HBW⟩ := hrel
    rename World => wr
    by_cases hlt : i < vs.length
    · have hu2 := HU.out.keep HBW.out
      obtain ⟨au2, cu2, eu, hfu2⟩ := hu2.form
      simp only [Value.slice.injEq] at eu
      obtain ⟨rfl, hle, rfl⟩ := eu
      rw [← hle] at hfu2
      obtain ⟨bu2, ou2, eu2, _, huc⟩ := hfu2 (by omega)
      simp only [Option.some.injEq, Addr.mk.injEq, and_true] at eu2
      obtain ⟨rfl, rfl⟩ := eu2
      have hv2 := HV.out.keep HBW.out
      obtain ⟨av2, cv2, ev, hfv2⟩ := hv2.form
      simp only [Value.slice.injEq, true_and] at ev
      obtain ⟨rfl, rfl⟩ := ev
      obtain ⟨bv2, ov2, ev2, _, hvc⟩ := hfv2 (by omega)
      simp only [Option.some.injEq, Addr.mk.injEq, and_true] at ev2
      obtain ⟨rfl, rfl⟩ := ev2
      have e1 := huc i hlt
      have e2 := hvc i hlt
      have hli : (i : Int) < (vs.length : Int) := by omega
      have b1 := HBU.out i
      have b2 := HBV.out i
      have HTK := hid (rowL_take vs.length (sumV us vs c) hlt)
      have hS : sumV us vs c i = us.getD i 0 + c * vs.getD i 0 := rfl
      have h1 : fF us i = us.getD i 0 := rfl
      have h2 : fF vs i = vs.getD i 0 := rfl
      rw [h1] at b1
      rw [h2] at b2
      obtain ⟨x, hxe⟩ : ∃ x, x = us.getD i 0 := ⟨_, rfl⟩
      obtain ⟨y, hye⟩ : ∃ y, y = vs.getD i 0 := ⟨_, rfl⟩
      rw [← hxe] at e1 b1 hS
      rw [← hye] at e2 b2 hS
      rw [hS] at HTK
      have hcy : -1000000000000 ≤ c * y ∧ c * y ≤ 1000000000000 := by
        have h : c = -1 ∨ c = 0 ∨ c = 1 := by omega
        rcases h with rfl | rfl | rfl <;> omega
      have f1 := wrapW (x := c * y) (by omega) (by omega)
      have f2 := wrapW (x := x + c * y) (by omega) (by omega)
      obtain ⟨pre, hpre⟩ : ∃ pre, pre = (rowL vs.length (sumV us vs c)).take i := ⟨_, rfl⟩
      have hprel : pre.length ≤ 4 := by rw [hpre, List.length_take, row_len]; omega
      rw [← hpre] at HO HTK
      have hbs : w.heap.size ≤ wr.heap.size := HBW.out.size
      obtain ⟨v', w5, hrun, hown', hgrow⟩ := append_one (wd := wr.drew) (x + c * y) (show Owns wr.drew w.heap.size _ pre from HO.out) hbs (by omega)
      have HRUN : Hid ((Builtin.append_ #[22, 22] 22 #[u7, .slice (some ⟨wr.heap.size, 0, none⟩) 1 1]).run Try.prog ((wr.alloc (.cells #[.int .i64 (x + c * y)] 3)).drew) = .ok v' w5) := hid hrun
      have HBX := hid ((below_dw HBW.out).alloc hbs (.cells #[.int .i64 (x + c * y)] 3))
      have hbz : w.heap.size ≤ (wr.drew.alloc (.cells #[.int .i64 (x + c * y)] 3)).heap.size := HBX.out.size
      have HOWN := hid hown'
      have HGR := hid hgrow
      have HLT := hid hlt
      clear hlt hi hu2 hv2 hfu2 hfv2 huc hvc hxe hye hS h1 h2 hpre hrun hown' hgrow hle hc
      go_wp2_with fail
      go_region_law (refine step_append_told rfl (.tmp 16) (.tmp 28) u7 (.slice (some ⟨wr.heap.size, 0, none⟩) 1 1) v' rfl rfl rfl rfl HRUN.out ?_)
      all_goals (
        go_wp2
        go_roundw
        case measure => simp only [intOf]; have := HLT.out; omega
        case rel => exact ⟨i + 1, by go_num, by have := HLT.out; omega, hid (by rw [HTK.out]; exact HOWN.out), hid (HBX.out.grown HGR.out hbz (fun k e => (HO.out.ge k e)))⟩)
    · have hie : i = vs.length := by omega
      have HOF := HO.out
      rw [List.take_of_length_le (by rw [row_len]; omega)] at HOF
      have hge : ¬ (i : Int) < (vs.length : Int) := by omega
      have HOF2 := hid HOF
      clear hlt hie HOF
      go_wp2_with fail
      go_ret
      exact ⟨_, rfl, HOF2.out, HBW.out⟩

end Go.Proofs.Ytjabklpnohfjpab

/-! MxE -/
set_option linter.unusedVariables false
namespace Go.Proofs.Ytjabklpnohfjpab
open Go.RowKit

theorem termW_bd {x v : Int} (h1 : -30 ≤ x) (h2 : x ≤ 30) (h3 : -2000000 ≤ v) (h4 : v ≤ 2000000) : -60000000 ≤ x * v ∧ x * v ≤ 60000000 ∧ -120000000000000 ≤ x * v * v ∧ x * v * v ≤ 120000000000000 := by
  have e1 : (x * v).natAbs ≤ 30 * 2000000 := by rw [Int.natAbs_mul]; exact Nat.mul_le_mul (by omega) (by omega)
  have e2 : (x * v * v).natAbs ≤ 30 * 2000000 * 2000000 := by rw [Int.natAbs_mul]; exact Nat.mul_le_mul e1 (by omega)
  omega
theorem valW_bd {xs vs : List Int} (h : fvB xs = true) (hv : ∀ v ∈ vs, -2000000 ≤ v ∧ v ≤ 2000000) (hl : vs.length = xs.length) : ∀ i, i ≤ xs.length → -120000000000000 * (i : Int) ≤ valI xs vs i ∧ valI xs vs i ≤ 120000000000000 * (i : Int)
  | 0, _ => by simp [valI]
  | i + 1, hi => by
    have ih := valW_bd h hv hl i (by omega)
    have ht := fv_at h (show i < xs.length by omega)
    have hvv := hv (vs.getD i 0) (by rw [getD_at _ _ (by omega)]; exact List.getElem_mem _)
    have hb := termW_bd ht.2.1 ht.2.2 hvv.1 hvv.2
    unfold valI
    push_cast
    omega
theorem ownM_lit1 {W : World} {B : Nat} {v : Value} {xs : List Int} (h : Owns W B v xs) (hB : B ≤ W.heap.size) : OwnM (W.alloc (.cells #[v] 22)) B none (.slice (some ⟨W.heap.size, 0, none⟩) 1 1) [xs] := by
  refine ⟨[v], rfl, ⟨rfl, .inr ⟨W.heap.size, 1, #[v], rfl, hB, heap_alloc_new W _, Nat.le_refl _, by unfold maxLen; omega, rfl, rfl⟩⟩, fun k e => (by simp), fun i hi => ?_, fun i j k hij hj => ?_⟩
  · have hi0 : i = 0 := by simpa using hi
    subst hi0
    exact ⟨h.at_block fun g e => Below.heap_alloc _ _ _ (h.lt g e), fun k e => ⟨fun e2 => by
      have := h.lt k e
      have e3 : W.heap.size = k := by simpa [Value.ownBlock] using e2
      omega, by simp⟩⟩
  · have hj0 : j < 1 := by simpa using hj
    omega
theorem ownM_lit2 {W : World} {B : Nat} {v u : Value} {xs ys : List Int} (h : Owns W B v xs) (h2 : Owns W B u ys) (hne : ∀ k, v.ownBlock = some k → u.ownBlock ≠ some k) (hB : B ≤ W.heap.size) : OwnM (W.alloc (.cells #[v, u] 22)) B none (.slice (some ⟨W.heap.size, 0, none⟩) 2 2) [xs, ys] := by
  have key : ∀ {x : Value} {zs : List Int}, Owns W B x zs → Owns (W.alloc (.cells #[v, u] 22)) B x zs ∧ ∀ k, x.ownBlock = some k → (Value.slice (some ⟨W.heap.size, 0, none⟩) 2 2).ownBlock ≠ some k ∧ (none : Option Nat) ≠ some k := fun {x zs} h => ⟨h.at_block fun g e => Below.heap_alloc _ _ _ (h.lt g e), fun k e => ⟨fun e2 => by
      have := h.lt k e
      have e3 : W.heap.size = k := by simpa [Value.ownBlock] using e2
      omega, by simp⟩⟩
  refine ⟨[v, u], rfl, ⟨rfl, .inr ⟨W.heap.size, 2, #[v, u], rfl, hB, heap_alloc_new W _, Nat.le_refl _, by unfold maxLen; omega, rfl, rfl⟩⟩, fun k e => (by simp), fun i hi => ?_, fun i j k hij hj e => ?_⟩
  · have hi0 : i = 0 ∨ i = 1 := by
      have : i < 2 := by simpa using hi
      omega
    rcases hi0 with rfl | rfl
    · exact key h
    · exact key h2
  · have hj0 : j < 2 := by simpa using hj
    have hi0 : i = 0 := by omega
    have hj1 : j = 1 := by omega
    subst hi0; subst hj1
    exact hne k e

set_option maxRecDepth 100000 in
set_option maxHeartbeats 1000000 in
theorem l4ValueW_any (vf vv : Value) (xs vs : List Int) (w : World) (hx : Rd w vf xs) (hv : Rd w vv vs) (hf : fvB xs = true) (hb : ∀ v ∈ vs, -2000000 ≤ v ∧ v ≤ 2000000) (hl : vs.length = xs.length) :
    Calls Try.prog 55 #[vf, vv] w fun e w' => e = .returned (.int .i64 (valI xs vs xs.length)) ∧ ∃ k, w' = w.drewN k := by
  obtain ⟨a, cap, rfl, hform⟩ := hx.form
  obtain ⟨a', cap', rfl, hform'⟩ := hv.form
  have HFM := hid hform
  have HFV := hid hform'
  have HF := hid hf
  have HVB := hid hb
  have HL := hid hl
  have hl4 := (fvB_iff.1 hf).2.2
  clear hform hform' hx hv hf hb hl
  go_enter Try.func55, Try.ntmps55
  go_wp2_with fail
  go_loopw [5, 6] (fun so si wr => ∃ K k : Nat, si = .int .i64 K ∧ K ≤ xs.length ∧ so = .int .i64 (valI xs vs K) ∧ wr = w.drewN k) (fun _ si _ => xs.length - (intOf si).toNat)
  case atStart => exact ⟨0, 0, rfl, by omega, rfl, rfl⟩
  case round =>
    obtain ⟨K, k, rfl, hK, rfl, rfl⟩ := hrel
    by_cases hlt : K < xs.length
    · obtain ⟨b, o, rfl, hml, hc⟩ := HFM.out (by omega)
      obtain ⟨b', o', rfl, hml', hc'⟩ := HFV.out (by have := HL.out; omega)
      have hcell := hc K hlt
      have hcell' := hc' K (by have := HL.out; omega)
      have ht := fv_at HF.out hlt
      have hv1 := HVB.out (vs.getD K 0) (by rw [getD_at _ _ (by have := HL.out; omega)]; exact List.getElem_mem _)
      have hbd := termW_bd ht.2.1 ht.2.2 hv1.1 hv1.2
      have hvb := valW_bd HF.out HVB.out HL.out K (by omega)
      have hst : valI xs vs (K + 1) = valI xs vs K + xs.getD K 0 * vs.getD K 0 * vs.getD K 0 := rfl
      obtain ⟨x, hx⟩ : ∃ x, x = xs.getD K 0 := ⟨_, rfl⟩
      obtain ⟨y, hy⟩ : ∃ y, y = vs.getD K 0 := ⟨_, rfl⟩
      obtain ⟨s, hs⟩ : ∃ s, s = valI xs vs K := ⟨_, rfl⟩
      rw [← hx] at hcell hst hbd
      rw [← hy] at hcell' hst hbd
      rw [← hs] at hst hvb ⊢
      have hKi : (K : Int) < (xs.length : Int) := by omega
      have hKj : (K : Int) < (vs.length : Int) := by have := HL.out; omega
      have HLT := hid hlt
      have HST := hid hst
      have b1 := hbd.1
      have b2 := hbd.2.1
      have b3 := hbd.2.2.1
      have b4 := hbd.2.2.2
      have s1 := hvb.1
      have s2 := hvb.2
      clear hx hy hs hc hc' hml hml' hlt hbd hvb hst ht hv1
      go_wp2_with fail
      go_quiet (fail)
      go_wp2_with fail
      go_roundw
      case measure => simp only [intOf]; have := HLT.out; omega
      case rel => exact ⟨K + 1, _, by go_num, by have := HLT.out; omega, vI HST.out.symm, by first | rfl | exact World.drewN_drewN ..⟩
    · obtain rfl : K = xs.length := by omega
      clear hlt
      go_wp2_with fail
      go_ret
      exact ⟨rfl, k, rfl⟩

end Go.Proofs.Ytjabklpnohfjpab

/-! MxF -/
set_option linter.unusedVariables false
namespace Go.Proofs.Ytjabklpnohfjpab
open Go.RowKit

theorem carry_facts {xs us vs : List Int} (h : carryOk xs us vs = true) : frm3B xs = true ∧ vecB xs us 500 = true ∧ vecB xs vs 500 = true ∧ valI xs us xs.length ≠ 0 ∧ valI xs us xs.length = valI xs vs xs.length := by
  unfold carryOk at h
  rw [Bool.and_eq_true, Bool.and_eq_true, Bool.and_eq_true, Bool.and_eq_true, decide_eq_true_eq, Bool.not_eq_true', decide_eq_false_iff_not] at h
  exact h
theorem carry_sum {xs us vs : List Int} (h : carryOk xs us vs = true) (hz : valI xs (diffL us vs 1 xs.length) xs.length = 0) : ∃ v ∈ diffL us vs (-1) xs.length, v ≠ 0 := by
  obtain ⟨_, h1, h2, h3, h4⟩ := carry_facts h
  refine Classical.byContradiction fun hc => h3 ?_
  have hz2 : ∀ r, r < xs.length → fF (diffL us vs (-1) xs.length) r = 0 := fun r hr => by
    unfold fF
    by_cases hl : r < (diffL us vs (-1) xs.length).length
    · rw [List.getD_eq_getElem?_getD, List.getElem?_eq_getElem hl]
      exact Classical.byContradiction fun h => hc ⟨_, List.getElem_mem hl, h⟩
    · rw [List.getD_eq_getElem?_getD, List.getElem?_eq_none (by omega)]; rfl
  have hu : ∀ r, r < xs.length → fF (diffL us vs 1 xs.length) r = 2 * fF us r := fun r hr => by
    have e := hz2 r hr
    rw [diff_at hr] at e ⊢
    omega
  rw [val_pr, pr_congr hu hu, pr_scale, pr_comm, pr_scale] at hz
  rw [val_pr]
  omega
theorem carry_some {xs us vs : List Int} (h : carryOk xs us vs = true) : ∃ v ∈ vs, v ≠ 0 := by
  obtain ⟨_, h1, h2, h3, h4⟩ := carry_facts h
  refine Classical.byContradiction fun hc => h3 ?_
  have lv := (vecB_iff.1 h2).2.2
  rw [h4, val_pr]
  have hz2 : ∀ r, r < xs.length → fF vs r = 0 := fun r hr => by
    unfold fF
    rw [List.getD_eq_getElem?_getD, List.getElem?_eq_getElem (by omega)]
    exact Classical.byContradiction fun h => hc ⟨_, List.getElem_mem _, h⟩
  rw [pr_congr hz2 hz2]
  have : prF (fF xs) xs.length (fun _ => 0) (fun _ => 0) = sumF (fun _ => 0) xs.length := sumF_congr fun r _ => by show fF xs r * 0 * 0 = 0; rw [Int.mul_zero]
  rw [this, sumF_zero]
theorem diff_sum {us vs : List Int} {n : Nat} (hl : vs.length = n) {c d : Int} (h : d = -c) : rowL vs.length (sumV us vs d) = diffL us vs c n := by
  subst h
  unfold diffL
  rw [hl]
  congr 1
  funext i
  show fF us i + -c * fF vs i = fF us i - c * fF vs i
  rw [Int.neg_mul]; omega
theorem fF_bd {us : List Int} {m : Int} (hm : 0 ≤ m) (h : ∀ v ∈ us, -m ≤ v ∧ v ≤ m) (i : Nat) : -m ≤ fF us i ∧ fF us i ≤ m := by
  unfold fF
  by_cases hi : i < us.length
  · rw [List.getD_eq_getElem?_getD, List.getElem?_eq_getElem hi]; exact h _ (List.getElem_mem _)
  · rw [List.getD_eq_getElem?_getD, List.getElem?_eq_none (by omega)]
    show -m ≤ (0 : Int) ∧ (0 : Int) ≤ m
    omega
theorem diff_bd {us vs : List Int} {n : Nat} {c m : Int} (hm : 0 ≤ m) (hc : c = 1 ∨ c = -1) (h : ∀ v ∈ us, -m ≤ v ∧ v ≤ m) (h2 : ∀ v ∈ vs, -m ≤ v ∧ v ≤ m) : ∀ v ∈ diffL us vs c n, -(2 * m) ≤ v ∧ v ≤ 2 * m := fun v hv => by
  unfold diffL rowL at hv
  rw [List.mem_map] at hv
  obtain ⟨i, _, rfl⟩ := hv
  have a := fF_bd hm h i
  have b := fF_bd hm h2 i
  rcases hc with rfl | rfl <;> omega
def ListPost (ok : Bool) (R : List (List Int)) (w : World) (e : Ending) (w' : World) : Prop := ∃ u, e = .returned (.tuple #[u, .bool ok]) ∧ OwnM w' w.heap.size none u R ∧ Below w.heap.size w w'
theorem listPost_nil {w W : World} {ok : Bool} (hb : Below w.heap.size w W) : ListPost ok [] w (.returned (.tuple #[.slice (some ⟨W.heap.size, 0, none⟩) 0 0, .bool ok])) (W.alloc (.cells #[] 22)) :=
  ⟨_, rfl, (ownM_none W none (by simp)).down hb.size, hb.alloc hb.size _⟩

set_option maxRecDepth 100000 in
set_option maxHeartbeats 8000000 in
theorem moveCarryS_any (vf vu vv : Value) (xs us vs : List Int) (w : World) (hx : Rd w vf xs) (hu : Rd w vu us) (hv : Rd w vv vs) : Calls Try.prog 45 #[vf, vu, vv] w (ListPost (carryOk xs us vs) (if carryOk xs us vs then carryL xs us vs else []) w) := by
  obtain ⟨ax, cx, rfl, _⟩ := hx.form
  obtain ⟨au, cu, rfl, _⟩ := hu.form
  obtain ⟨av, cv, rfl, _⟩ := hv.form
  have HX := hid hx
  have HU := hid hu
  have HV := hid hv
  have HVU := hid (fun (wx : World) (h1 : Rd wx (.slice ax xs.length cx) xs) (h2 : Rd wx (.slice au us.length cu) us) => l4Vector_any _ _ xs us 500 (by decide) (by decide) wx h1 h2)
  have HVV := hid (fun (wx : World) (h1 : Rd wx (.slice ax xs.length cx) xs) (h2 : Rd wx (.slice av vs.length cv) vs) => l4Vector_any _ _ xs vs 500 (by decide) (by decide) wx h1 h2)
  clear hx hu hv
  cases hf : frm3B xs with
  | false =>
    have HF := hid hf
    have HE : Hid (carryOk xs us vs = false) := hid (by unfold carryOk; rw [hf]; rfl)
    clear hf
    rw [HE.out]
    go_enter Try.func45, Try.ntmps45
    go_wp2_with (go_at_call 49; refine (l7Form_any _ xs _ HX.out).mono ?_; rw [HF.out]; rintro e w' ⟨rfl, rfl⟩)
    refine bodyPost_ret (v := .tuple #[.slice (some ⟨w.heap.size, 0, none⟩) 0 0, .bool false]) (by simp [results, Try.results45, go_sem]) rfl ?_
    exact listPost_nil (Below.refl _ _)
  | true =>
    have HF := hid hf
    cases hu5 : vecB xs us 500 with
    | false =>
      have HE : Hid (carryOk xs us vs = false) := hid (by unfold carryOk; rw [hf, hu5]; rfl)
      rw [hu5] at HVU
      clear hf hu5
      rw [HE.out]
      go_enter Try.func45, Try.ntmps45
      go_wp2_with (go_at_call 49; refine (l7Form_any _ xs _ HX.out).mono ?_; rw [HF.out]; rintro e w' ⟨rfl, rfl⟩)
      refine (HVU.out _ HX.out HU.out).mono ?_
      rintro e w' ⟨rfl, rfl⟩
      go_wp2_with fail
      refine bodyPost_ret (v := .tuple #[.slice (some ⟨w.heap.size, 0, none⟩) 0 0, .bool false]) (by simp [results, Try.results45, go_sem]) rfl ?_
      exact listPost_nil (Below.refl _ _)
    | true =>
      rw [hu5] at HVU
      cases hv5 : vecB xs vs 500 with
      | false =>
        have HE : Hid (carryOk xs us vs = false) := hid (by unfold carryOk; rw [hf, hu5, hv5]; rfl)
        rw [hv5] at HVV
        clear hf hu5 hv5
        rw [HE.out]
        go_enter Try.func45, Try.ntmps45
        go_wp2_with (go_at_call 49; refine (l7Form_any _ xs _ HX.out).mono ?_; rw [HF.out]; rintro e w' ⟨rfl, rfl⟩)
        refine (HVU.out _ HX.out HU.out).mono ?_
        rintro e w' ⟨rfl, rfl⟩
        go_wp2_with fail
        refine (HVV.out _ HX.out HV.out).mono ?_
        rintro e w' ⟨rfl, rfl⟩
        go_wp2_with fail
        refine bodyPost_ret (v := .tuple #[.slice (some ⟨w.heap.size, 0, none⟩) 0 0, .bool false]) (by simp [results, Try.results45, go_sem]) rfl ?_
        exact listPost_nil (Below.refl _ _)
      | true =>
        rw [hv5] at HVV
        have hfv : fvB xs = true := by unfold frm3B at hf; rw [Bool.and_eq_true] at hf; exact hf.1
        have hn3 : xs.length ≤ 3 := by unfold frm3B at hf; rw [Bool.and_eq_true, decide_eq_true_eq] at hf; exact hf.2
        have hn1 := (fvB_iff.1 hfv).2.1
        obtain ⟨hub, _, hul⟩ := vecB_iff.1 hu5
        obtain ⟨hvb, _, hvl⟩ := vecB_iff.1 hv5
        have HQ : Hid (∀ (ws : List Int) (wx : World) (vw : Value), Rd wx (.slice ax xs.length cx) xs → Rd wx vw ws → (∀ v ∈ ws, -2000000 ≤ v ∧ v ≤ 2000000) → ws.length = xs.length → Calls Try.prog 55 #[.slice ax xs.length cx, vw] wx fun e w' => e = .returned (.int .i64 (valI xs ws xs.length)) ∧ Below wx.heap.size wx w') := hid (fun ws wx vw h1 h2 h3 h4 => by
          refine (l4ValueW_any _ _ xs ws wx h1 h2 hfv h3 h4).mono ?_
          rintro e w' ⟨rfl, k, rfl⟩
          exact ⟨rfl, below_drewN (Below.refl _ _) k⟩)
        have HQU := hid (fun (wx : World) (h1 : Rd wx (.slice ax xs.length cx) xs) (h2 : Rd wx (.slice au us.length cu) us) => HQ.out us wx _ h1 h2 (fun v hv => by have := hub v hv; omega) hul)
        have HQV := hid (fun (wx : World) (h1 : Rd wx (.slice ax xs.length cx) xs) (h2 : Rd wx (.slice av vs.length cv) vs) => HQ.out vs wx _ h1 h2 (fun v hv => by have := hvb v hv; omega) hvl)
        have hq1 := valW_bd hfv (fun v hv => by have := hub v hv; omega) hul xs.length (Nat.le_refl _)
        have hq2 := valW_bd hfv (fun v hv => by have := hvb v hv; omega) hvl xs.length (Nat.le_refl _)
        obtain ⟨q, hq⟩ : ∃ q, q = valI xs us xs.length := ⟨_, rfl⟩
        obtain ⟨r, hr⟩ : ∃ r, r = valI xs vs xs.length := ⟨_, rfl⟩
        rw [← hq] at hq1 HQU
        rw [← hr] at hq2 HQV
        by_cases hq0 : q = 0
        · have HE : Hid (carryOk xs us vs = false) := hid (by unfold carryOk; rw [← hq, hq0, hf, hu5, hv5]; rfl)
          rw [hq0] at HQU
          clear hf hu5 hv5 hfv hub hvb hul hvl hq hr hq0 hq1 hq2
          rw [HE.out]
          go_enter Try.func45, Try.ntmps45
          go_wp2_with (go_at_call 49; refine (l7Form_any _ xs _ HX.out).mono ?_; rw [HF.out]; rintro e w' ⟨rfl, rfl⟩)
          refine (HVU.out _ HX.out HU.out).mono ?_
          rintro e w' ⟨rfl, rfl⟩
          go_wp2_with fail
          refine (HVV.out _ HX.out HV.out).mono ?_
          rintro e w' ⟨rfl, rfl⟩
          go_wp2_with fail
          refine (HQU.out _ HX.out HU.out).mono ?_
          rintro e w2 ⟨rfl, hb2⟩
          have HB2 := hid hb2
          have HX2 := hid (HX.out.keep hb2)
          have HU2 := hid (HU.out.keep hb2)
          clear hb2
          go_wp2_with fail
          refine bodyPost_ret (v := .tuple #[.slice (some ⟨w2.heap.size, 0, none⟩) 0 0, .bool false]) (by simp [results, Try.results45, go_sem]) rfl ?_
          exact listPost_nil HB2.out
        · have Q0 : (q == 0) = false := by rw [beq_eq_false_iff_ne]; exact hq0
          by_cases hqr : q = r
          · skip
            have hok : carryOk xs us vs = true := by unfold carryOk; rw [← hq, ← hr, hf, hu5, hv5, ← hqr, decide_eq_false hq0, decide_eq_true rfl]; rfl
            have HOK := hid hok
            rw [hok, if_pos rfl]
            rw [← hqr] at HQV
            have hll : us.length = vs.length := by omega
            have HMX := hid (fun (c d : Int) (hc : d = -c) (hc1 : c = 1 ∨ c = -1) (wx : World) (h1 : Rd wx (.slice au us.length cu) us) (h2 : Rd wx (.slice av vs.length cv) vs) => l7Mix_any _ _ us vs d wx h1 h2 hll (by omega) (by omega) (by omega) (fun i => by have := fF_bd (by omega) hub i; omega) (fun i => by have := fF_bd (by omega) hvb i; omega))
            have HM1 : Hid (∀ wx : World, Rd wx (.slice au us.length cu) us → Rd wx (.slice av vs.length cv) vs → Calls Try.prog 75 #[.slice au us.length cu, .slice av vs.length cv, .int .i64 (-1)] wx fun e w' => ∃ u, e = .returned u ∧ Owns w' wx.heap.size u (diffL us vs 1 xs.length) ∧ Below wx.heap.size wx w') := hid (fun wx h1 h2 => by
              have h := HMX.out 1 (-1) rfl (.inl rfl) wx h1 h2
              rw [diff_sum hvl (c := 1) (d := -1) (by decide)] at h
              exact h)
            have HM2 : Hid (∀ wx : World, Rd wx (.slice au us.length cu) us → Rd wx (.slice av vs.length cv) vs → Calls Try.prog 75 #[.slice au us.length cu, .slice av vs.length cv, .int .i64 1] wx fun e w' => ∃ u, e = .returned u ∧ Owns w' wx.heap.size u (diffL us vs (-1) xs.length) ∧ Below wx.heap.size wx w') := hid (fun wx h1 h2 => by
              have h := HMX.out (-1) 1 rfl (.inr rfl) wx h1 h2
              rw [diff_sum hvl (c := -1) (d := 1) (by decide)] at h
              exact h)
            have HDB := hid (diff_bd (n := xs.length) (c := 1) (by omega) (.inl rfl) hub hvb)
            have HSB := hid (diff_bd (n := xs.length) (c := -1) (by omega) (.inr rfl) hub hvb)
            have HVB := hid hvb
            have HVL := hid hvl
            have HCL : Hid (carryL xs us vs = if someB (diffL us vs 1 xs.length) = false then [] else if valI xs (diffL us vs 1 xs.length) xs.length = 0 then [plainL (diffL us vs (-1) xs.length), plainL vs] else [plainL (diffL us vs 1 xs.length)]) := hid rfl
            have HDL : Hid ((diffL us vs 1 xs.length).length = xs.length) := hid (row_len _ _)
            have HSL : Hid ((diffL us vs (-1) xs.length).length = xs.length) := hid (row_len _ _)
            have HS2 := hid (carry_sum hok)
            have HS3 := hid (carry_some hok)
            have HN3 := hid hn3
            have HDV := hid (valW_bd (vs := diffL us vs 1 xs.length) hfv (fun v hv => by have := HDB.out v hv; omega) HDL.out xs.length (Nat.le_refl _))
            obtain ⟨D, hD⟩ : ∃ D, D = diffL us vs 1 xs.length := ⟨_, rfl⟩
            obtain ⟨S, hS⟩ : ∃ S, S = diffL us vs (-1) xs.length := ⟨_, rfl⟩
            simp only [← hD, ← hS] at HM1 HM2 HDB HSB HCL HDL HSL HS2 HDV
            clear hf hu5 hv5 hfv hub hvb hul hvl hq hr hok hll hD hS HMX hqr hq2
            cases hs : someB D with
            | false =>
              have HSO := hid hs
              rw [HCL.out, hs, if_pos rfl]
              clear hs
              go_enter Try.func45, Try.ntmps45
              go_wp2_with (go_at_call 49; refine (l7Form_any _ xs _ HX.out).mono ?_; rw [HF.out]; rintro e w' ⟨rfl, rfl⟩)
              refine (HVU.out _ HX.out HU.out).mono ?_
              rintro e w' ⟨rfl, rfl⟩
              go_wp2_with fail
              refine (HVV.out _ HX.out HV.out).mono ?_
              rintro e w' ⟨rfl, rfl⟩
              go_wp2_with fail
              refine (HQU.out _ HX.out HU.out).mono ?_
              rintro e w2 ⟨rfl, hb2⟩
              have HB2 := hid hb2
              have HX2 := hid (HX.out.keep hb2)
              have HU2 := hid (HU.out.keep hb2)
              clear hb2
              go_wp2_with fail
              refine (HQU.out _ HX2.out HU2.out).mono ?_
              rintro e w3 ⟨rfl, hb3⟩
              have HB3 := hid (HB2.out.trans (hb3.mono HB2.out.size))
              have HX3 := hid (HX.out.keep HB3.out)
              have HV3 := hid (HV.out.keep HB3.out)
              clear hb3
              go_wp2_with fail
              refine (HQV.out _ HX3.out HV3.out).mono ?_
              rintro e w4 ⟨rfl, hb4⟩
              have HB4 := hid (HB3.out.trans (hb4.mono HB3.out.size))
              clear hb4
              have HX4 := hid (HX.out.keep HB4.out)
              have HU4 := hid (HU.out.keep HB4.out)
              have HV4 := hid (HV.out.keep HB4.out)
              go_wp2_with fail
              refine (HM1.out _ HU4.out HV4.out).mono ?_
              rintro e w5 ⟨u5, rfl, ho5, hb5⟩
              have HB5 := hid (HB4.out.trans (hb5.mono HB4.out.size))
              have HX5 := hid (HX4.out.keep hb5)
              have HO5 := hid ho5
              clear ho5 hb5
              go_wp2_with (go_at_call 76; refine (l5Some_any _ D _ HO5.out.rd (by rw [HDL.out]; have := HN3.out; omega)).mono ?_; rw [HSO.out]; rintro e w' ⟨rfl, rfl⟩)
              refine bodyPost_ret (v := .tuple #[.slice (some ⟨w5.heap.size, 0, none⟩) 0 0, .bool true]) (by simp [results, Try.results45, go_sem]) rfl ?_
              exact listPost_nil HB5.out
            | true =>
              have HSO := hid hs
              have HS1 := hid (someB_iff.1 hs)
              obtain ⟨dv, hdv⟩ : ∃ dv, dv = valI xs D xs.length := ⟨_, rfl⟩
              rw [HCL.out, hs, if_neg (by simp), ← hdv]
              rw [← hdv] at HDV HS2
              obtain ⟨dv1, dv2⟩ := HDV.out
              have HQD : Hid (∀ (wx : World) (vw : Value), Rd wx (.slice ax xs.length cx) xs → Rd wx vw D → Calls Try.prog 55 #[.slice ax xs.length cx, vw] wx fun e w' => e = .returned (.int .i64 dv) ∧ Below wx.heap.size wx w') := hid (fun wx vw h1 h2 => by rw [hdv]; exact HQ.out D wx vw h1 h2 (fun v hv => by have := HDB.out v hv; omega) HDL.out)
              have HPD := hid (fun (wx : World) (vw : Value) (h : Rd wx vw D) => l5PlainW_any vw D wx h (by rw [HDL.out]; have := HN3.out; omega) (fun v hv => by have := HDB.out v hv; omega) HS1.out)
              clear hs hdv
              by_cases hd0 : dv = 0
              · have HPS := hid (fun (wx : World) (vw : Value) (h : Rd wx vw S) => l5PlainW_any vw S wx h (by rw [HSL.out]; have := HN3.out; omega) (fun v hv => by have := HSB.out v hv; omega) (HS2.out hd0))
                have HPV := hid (fun (wx : World) (h : Rd wx (.slice av vs.length cv) vs) => l5PlainW_any _ vs wx h (by rw [HVL.out]; have := HN3.out; omega) (fun v hv => by have := HVB.out v hv; omega) HS3.out)
                subst hd0
                rw [if_pos rfl]
                go_enter Try.func45, Try.ntmps45
                go_wp2_with (go_at_call 49; refine (l7Form_any _ xs _ HX.out).mono ?_; rw [HF.out]; rintro e w' ⟨rfl, rfl⟩)
                refine (HVU.out _ HX.out HU.out).mono ?_
                rintro e w' ⟨rfl, rfl⟩
                go_wp2_with fail
                refine (HVV.out _ HX.out HV.out).mono ?_
                rintro e w' ⟨rfl, rfl⟩
                go_wp2_with fail
                refine (HQU.out _ HX.out HU.out).mono ?_
                rintro e w2 ⟨rfl, hb2⟩
                have HB2 := hid hb2
                have HX2 := hid (HX.out.keep hb2)
                have HU2 := hid (HU.out.keep hb2)
                clear hb2
                go_wp2_with fail
                refine (HQU.out _ HX2.out HU2.out).mono ?_
                rintro e w3 ⟨rfl, hb3⟩
                have HB3 := hid (HB2.out.trans (hb3.mono HB2.out.size))
                have HX3 := hid (HX.out.keep HB3.out)
                have HV3 := hid (HV.out.keep HB3.out)
                clear hb3
                go_wp2_with fail
                refine (HQV.out _ HX3.out HV3.out).mono ?_
                rintro e w4 ⟨rfl, hb4⟩
                have HB4 := hid (HB3.out.trans (hb4.mono HB3.out.size))
                clear hb4
                have HX4 := hid (HX.out.keep HB4.out)
                have HU4 := hid (HU.out.keep HB4.out)
                have HV4 := hid (HV.out.keep HB4.out)
                go_wp2_with fail
                refine (HM1.out _ HU4.out HV4.out).mono ?_
                rintro e w5 ⟨u5, rfl, ho5, hb5⟩
                have HB5 := hid (HB4.out.trans (hb5.mono HB4.out.size))
                have HX5 := hid (HX4.out.keep hb5)
                have HO5 := hid ho5
                clear ho5 hb5
                go_wp2_with (go_at_call 76; refine (l5Some_any _ D _ HO5.out.rd (by rw [HDL.out]; have := HN3.out; omega)).mono ?_; rw [HSO.out]; rintro e w' ⟨rfl, rfl⟩)
                refine (HQD.out _ _ HX5.out HO5.out.rd).mono ?_
                rintro e w6 ⟨rfl, hb6⟩
                have HB6 := hid (HB5.out.trans (hb6.mono HB5.out.size))
                have HU6 := hid (HU.out.keep HB6.out)
                have HV6 := hid (HV.out.keep HB6.out)
                clear hb6
                go_wp2_with fail
                refine (HM2.out _ HU6.out HV6.out).mono ?_
                rintro e w7 ⟨u7, rfl, ho7, hb7⟩
                have HB7 := hid (HB6.out.trans (hb7.mono HB6.out.size))
                have HO7 := hid ho7
                clear ho7 hb7
                go_wp2_with fail
                refine (HPS.out _ _ HO7.out.rd).mono ?_
                rintro e w8 ⟨u8, rfl, ho8, hb8⟩
                have HB8 := hid (HB7.out.trans (hb8.mono HB7.out.size))
                have HV8 := hid (HV.out.keep HB8.out)
                have HO8 := hid ho8
                clear ho8 hb8
                go_wp2_with fail
                refine (HPV.out _ HV8.out).mono ?_
                rintro e w9 ⟨u9, rfl, ho9, hb9⟩
                have HB9 := hid (HB8.out.trans (hb9.mono HB8.out.size))
                have HL2 := hid (ownM_lit2 ((HO8.out.keep HO8.out.lt hb9).down (B := w.heap.size) (by have := HB7.out.size; omega)) (ho9.down (B := w.heap.size) HB8.out.size) (fun k e e2 => by have h1 := HO8.out.lt k e; have h2 := ho9.ge k e2; omega) HB9.out.size)
                obtain ⟨a8, c8, rfl⟩ := HO8.out.reads
                obtain ⟨a9, c9, rfl⟩ := ho9.reads
                clear ho9 hb9
                go_wp2_with fail
                refine bodyPost_ret (v := .tuple #[.slice (some ⟨w9.heap.size, 0, none⟩) 2 2, .bool true]) (by simp [results, Try.results45, go_sem]) rfl ?_
                exact ⟨_, rfl, HL2.out, HB9.out.alloc HB9.out.size _⟩
              · have D0 : (dv == 0) = false := by rw [beq_eq_false_iff_ne]; exact hd0
                rw [if_neg hd0]
                go_enter Try.func45, Try.ntmps45
                go_wp2_with (go_at_call 49; refine (l7Form_any _ xs _ HX.out).mono ?_; rw [HF.out]; rintro e w' ⟨rfl, rfl⟩)
                refine (HVU.out _ HX.out HU.out).mono ?_
                rintro e w' ⟨rfl, rfl⟩
                go_wp2_with fail
                refine (HVV.out _ HX.out HV.out).mono ?_
                rintro e w' ⟨rfl, rfl⟩
                go_wp2_with fail
                refine (HQU.out _ HX.out HU.out).mono ?_
                rintro e w2 ⟨rfl, hb2⟩
                have HB2 := hid hb2
                have HX2 := hid (HX.out.keep hb2)
                have HU2 := hid (HU.out.keep hb2)
                clear hb2
                go_wp2_with fail
                refine (HQU.out _ HX2.out HU2.out).mono ?_
                rintro e w3 ⟨rfl, hb3⟩
                have HB3 := hid (HB2.out.trans (hb3.mono HB2.out.size))
                have HX3 := hid (HX.out.keep HB3.out)
                have HV3 := hid (HV.out.keep HB3.out)
                clear hb3
                go_wp2_with fail
                refine (HQV.out _ HX3.out HV3.out).mono ?_
                rintro e w4 ⟨rfl, hb4⟩
                have HB4 := hid (HB3.out.trans (hb4.mono HB3.out.size))
                clear hb4
                have HX4 := hid (HX.out.keep HB4.out)
                have HU4 := hid (HU.out.keep HB4.out)
                have HV4 := hid (HV.out.keep HB4.out)
                go_wp2_with fail
                refine (HM1.out _ HU4.out HV4.out).mono ?_
                rintro e w5 ⟨u5, rfl, ho5, hb5⟩
                have HB5 := hid (HB4.out.trans (hb5.mono HB4.out.size))
                have HX5 := hid (HX4.out.keep hb5)
                have HO5 := hid ho5
                clear ho5 hb5
                go_wp2_with (go_at_call 76; refine (l5Some_any _ D _ HO5.out.rd (by rw [HDL.out]; have := HN3.out; omega)).mono ?_; rw [HSO.out]; rintro e w' ⟨rfl, rfl⟩)
                refine (HQD.out _ _ HX5.out HO5.out.rd).mono ?_
                rintro e w6 ⟨rfl, hb6⟩
                have HB6 := hid (HB5.out.trans (hb6.mono HB5.out.size))
                have HO6 := hid (HO5.out.keep HO5.out.lt hb6)
                clear hb6
                go_wp2_with fail
                refine (HPD.out _ _ HO6.out.rd).mono ?_
                rintro e w8 ⟨u8, rfl, ho8, hb8⟩
                have HB8 := hid (HB6.out.trans (hb8.mono HB6.out.size))
                have HL1 := hid (ownM_lit1 (ho8.down (B := w.heap.size) HB6.out.size) HB8.out.size)
                obtain ⟨a8, c8, rfl⟩ := ho8.reads
                clear ho8 hb8
                go_wp2_with fail
                refine bodyPost_ret (v := .tuple #[.slice (some ⟨w8.heap.size, 0, none⟩) 1 1, .bool true]) (by simp [results, Try.results45, go_sem]) rfl ?_
                exact ⟨_, rfl, HL1.out, HB8.out.alloc HB8.out.size _⟩
          · have QR : (q == r) = false := by rw [beq_eq_false_iff_ne]; exact hqr
            have HE : Hid (carryOk xs us vs = false) := hid (by unfold carryOk; rw [← hq, ← hr, hf, hu5, hv5, decide_eq_false hqr, decide_eq_false hq0]; rfl)
            clear hf hu5 hv5 hfv hub hvb hul hvl hq hr
            rw [HE.out]
            go_enter Try.func45, Try.ntmps45
            go_wp2_with (go_at_call 49; refine (l7Form_any _ xs _ HX.out).mono ?_; rw [HF.out]; rintro e w' ⟨rfl, rfl⟩)
            refine (HVU.out _ HX.out HU.out).mono ?_
            rintro e w' ⟨rfl, rfl⟩
            go_wp2_with fail
            refine (HVV.out _ HX.out HV.out).mono ?_
            rintro e w' ⟨rfl, rfl⟩
            go_wp2_with fail
            refine (HQU.out _ HX.out HU.out).mono ?_
            rintro e w2 ⟨rfl, hb2⟩
            have HB2 := hid hb2
            have HX2 := hid (HX.out.keep hb2)
            have HU2 := hid (HU.out.keep hb2)
            clear hb2
            go_wp2_with fail
            refine (HQU.out _ HX2.out HU2.out).mono ?_
            rintro e w3 ⟨rfl, hb3⟩
            have HB3 := hid (HB2.out.trans (hb3.mono HB2.out.size))
            have HX3 := hid (HX.out.keep HB3.out)
            have HV3 := hid (HV.out.keep HB3.out)
            clear hb3
            go_wp2_with fail
            refine (HQV.out _ HX3.out HV3.out).mono ?_
            rintro e w4 ⟨rfl, hb4⟩
            have HB4 := hid (HB3.out.trans (hb4.mono HB3.out.size))
            clear hb4
            go_wp2_with fail
            refine bodyPost_ret (v := .tuple #[.slice (some ⟨w4.heap.size, 0, none⟩) 0 0, .bool false]) (by simp [results, Try.results45, go_sem]) rfl ?_
            exact listPost_nil HB4.out

end Go.Proofs.Ytjabklpnohfjpab

/-! MxG -/
set_option linter.unusedVariables false
namespace Go.Proofs.Ytjabklpnohfjpab
open Go.RowKit

theorem cell_block {W W' : World} {b o : Nat} {x : Value} (h : W.cell? ⟨b, o, none⟩ = some x) (hb : ∀ g, g < W.heap.size → W'.heap[g]? = W.heap[g]?) : W'.cell? ⟨b, o, none⟩ = some x := by
  have hl : b < W.heap.size := by
    rcases Nat.lt_or_ge b W.heap.size with hl | hl
    · exact hl
    · unfold World.cell? at h
      simp [Array.getElem?_eq_none hl] at h
  unfold World.cell? at h ⊢
  simp only [hb b hl] at h ⊢
  exact h
theorem Rd.at_blocks {W W' : World} {v : Value} {xs : List Int} (h : Rd W v xs) (hb : ∀ g, g < W.heap.size → W'.heap[g]? = W.heap[g]?) : Rd W' v xs := by
  unfold Rd at h ⊢
  rcases h with h | ⟨b, o, cap, e, h0, hm, hc⟩
  · exact .inl h
  · exact .inr ⟨b, o, cap, e, h0, hm, fun i hi => cell_block (hc i hi) hb⟩
theorem RdM.at_blocks {W W' : World} {v : Value} {R : List (List Int)} (h : RdM W v R) (hb : ∀ g, g < W.heap.size → W'.heap[g]? = W.heap[g]?) : RdM W' v R := by
  obtain ⟨a, cap, vals, h1, h2, h3, h4⟩ := h
  refine ⟨a, cap, vals, h1, h2, fun h0 => ?_, fun i hi => (h4 i hi).at_blocks hb⟩
  obtain ⟨b, o, e, hm, hc⟩ := h3 h0
  exact ⟨b, o, e, hm, fun i hi => cell_block (hc i hi) hb⟩
/-- a list of lists to be read, wherever the blocks in S are as they are now -/
def RdS (W : World) (S : Nat → Prop) (v : Value) (R : List (List Int)) : Prop := ∀ W' : World, (∀ g, g < W.heap.size → S g → W'.heap[g]? = W.heap[g]?) → RdM W' v R
theorem RdS.rd {W : World} {S : Nat → Prop} {v : Value} {R : List (List Int)} (h : RdS W S v R) : RdM W v R := h W fun _ _ _ => rfl
theorem RdS.to {W W' : World} {S S' : Nat → Prop} {v : Value} {R : List (List Int)} (h : RdS W S v R) (hs : W.heap.size ≤ W'.heap.size) (hS : ∀ g, g < W.heap.size → S g → S' g ∧ W'.heap[g]? = W.heap[g]?) : RdS W' S' v R := fun W'' h2 => h W'' fun g hg hSg => (h2 g (Nat.lt_of_lt_of_le hg hs) (hS g hg hSg).1).trans (hS g hg hSg).2
theorem RdS.keep {W W' : World} {S : Nat → Prop} {v : Value} {R : List (List Int)} (h : RdS W S v R) (hb : Below W.heap.size W W') : RdS W' S v R := h.to hb.size fun g hg hS => ⟨hS, hb.block g hg⟩
theorem OwnM.rdS {W : World} {B : Nat} {ex : Option Nat} {v : Value} {R : List (List Int)} (h : OwnM W B ex v R) : RdS W (fun g => B ≤ g ∧ ex ≠ some g) v R := fun W' hb => (h.at_blocks fun g h1 h2 h3 => hb g h2 ⟨h1, h3⟩).rd
theorem RdM.rdS {W : World} {v : Value} {R : List (List Int)} (h : RdM W v R) : RdS W (fun _ => True) v R := fun W' hb => h.at_blocks fun g hg => hb g hg trivial
/-- one more row, where blocks below B may have been written -/
theorem ownM_snoc2 {W0 W : World} {B : Nat} {ex : Option Nat} {v zv : Value} {R : List (List Int)} {zs : List Int} (h : OwnM W0 B ex v R) (hb : ∀ g, B ≤ g → g < W0.heap.size → W.heap[g]? = W0.heap[g]?) (hs : W0.heap.size ≤ W.heap.size) (hB : B ≤ W0.heap.size) (hz : Owns W W0.heap.size zv zs) (hex : ∀ k, ex = some k → k < W0.heap.size) : ∃ vals, SnocM W B ex v R zv zs vals := by
  obtain ⟨vals, hl, ho, hx, hr, hd⟩ := (h.at_blocks fun g h1 h2 _ => hb g h1 h2).own
  obtain ⟨vals0, hl0, ho0, _, hr0, _⟩ := h.own
  obtain ⟨vals, hl, ho, hx, hr, hd, hlo⟩ : ∃ vals : List Value, vals.length = R.length ∧ World.ownsRow W B 22 1 v R.length vals ∧ (∀ k, v.ownBlock = some k → ex ≠ some k) ∧ (∀ i, i < R.length → Owns W B (vals.getD i undef) (R.getD i []) ∧ ∀ k, (vals.getD i undef).ownBlock = some k → v.ownBlock ≠ some k ∧ ex ≠ some k) ∧ (∀ i j k, i < j → j < R.length → (vals.getD i undef).ownBlock = some k → (vals.getD j undef).ownBlock ≠ some k) ∧ ∀ i k, i < R.length → (vals.getD i undef).ownBlock = some k → k < W0.heap.size := by
    obtain ⟨vals, hl, ho, hx, hr, hd⟩ := h.own
    refine ⟨vals, hl, row_at_block ho fun g e => hb g (World.ownsRow.lt ho g e).1 (World.ownsRow.lt ho g e).2, hx, fun i hi => ⟨(hr i hi).1.at_block fun g e => hb g ((hr i hi).1.ge g e) ((hr i hi).1.lt g e), (hr i hi).2⟩, hd, fun i k hi e => (hr i hi).1.lt k e⟩
  have hvlt : ∀ k, v.ownBlock = some k → k < W0.heap.size := fun k e => (h.lt k e).2.1
  refine ⟨vals, ho, fun W' v' o hown hg hat => ?_⟩
  have key : ∀ {x : Value} {ys : List Int}, Owns W B x ys → (∀ k, x.ownBlock = some k → v.ownBlock ≠ some k) → Owns W' B x ys ∧ ∀ k, x.ownBlock = some k → v'.ownBlock ≠ some k := by
    intro x ys hx hne
    refine ⟨hx.at_block fun g e => ?_, fun k e => ?_⟩
    · have hlt := hx.lt g e
      have e1 : W'.heap[g]? = (W.alloc o).heap[g]? := hg.block g (by simp; omega) (fun e2 => hne g e e2.symm)
      exact e1.trans (Below.heap_alloc _ _ _ hlt)
    · rcases hat with h | h
      · rw [h]; exact hne k e
      · rw [h]
        intro e2
        have := hx.lt k e
        simp only [World.size_alloc, Option.some.injEq] at e2
        omega
  have hzge : ∀ k, zv.ownBlock = some k → W0.heap.size ≤ k := fun k e => hz.ge k e
  have hz2 := key (hz.down hB) fun k e e2 => by have := hzge k e; have := hvlt k e2; omega
  refine ⟨vals ++ [zv], by rw [List.length_append, List.length_append, hl]; rfl, by rw [List.length_append]; exact hown, fun k e => ?_, fun i hi => ?_, fun i j k hij hj => ?_⟩
  · rcases hat with h | h
    · rw [h] at e; exact hx k e
    · rw [h] at e
      intro e2
      have := hex k e2
      simp only [World.size_alloc, Option.some.injEq] at e
      omega
  · rw [List.length_append] at hi
    simp only [List.length_cons, List.length_nil] at hi
    by_cases e : i < R.length
    · rw [getD_snoc_old _ _ _ (by omega), getD_snoc_old _ _ _ e]
      have hk := key (hr i e).1 fun k e2 => ((hr i e).2 k e2).1
      exact ⟨hk.1, fun k e2 => ⟨hk.2 k e2, ((hr i e).2 k e2).2⟩⟩
    · obtain rfl : i = R.length := by omega
      rw [getD_snoc_new, ← hl, getD_snoc_new]
      exact ⟨hz2.1, fun k e2 => ⟨hz2.2 k e2, fun e3 => by have := hex k e3; have := hzge k e2; omega⟩⟩
  · rw [List.length_append] at hj
    simp only [List.length_cons, List.length_nil] at hj
    rw [getD_snoc_old _ _ _ (by omega)]
    by_cases e : j < R.length
    · rw [getD_snoc_old _ _ _ (by omega)]
      exact hd i j k hij e
    · obtain rfl : j = R.length := by omega
      rw [show (vals ++ [zv]).getD R.length undef = zv by rw [← hl, getD_snoc_new]]
      intro e2 e3
      have := hlo i k (by omega) e2
      have := hzge k e3
      omega


def putAll (xs : List Int) (st : SplitSt) (l : List (List Int)) : Option SplitSt := l.foldl (fun o w => o.bind fun st => splitPut xs st (plainL w)) (some st)
theorem put_fold_none (xs : List Int) (l : List (List Int)) : l.foldl (fun (o : Option SplitSt) w => o.bind fun st => splitPut xs st (plainL w)) none = none := by
  induction l with
  | nil => rfl
  | cons a l ih => rw [List.foldl_cons]; exact ih
theorem putAll_next {xs : List Int} {st : SplitSt} {l : List (List Int)} {k : Nat} (hk : k < l.length) : putAll xs st (l.take (k + 1)) = (putAll xs st (l.take k)).bind fun st => splitPut xs st (plainL (l.getD k [])) := by
  unfold putAll
  rw [List.take_add_one, List.getElem?_eq_getElem hk, List.foldl_append, List.getD_eq_getElem?_getD, List.getElem?_eq_getElem hk]
  rfl
theorem putAll_none {xs : List Int} {st : SplitSt} {l : List (List Int)} {k : Nat} (h : putAll xs st (l.take k) = none) : putAll xs st l = none := by
  rw [← List.take_append_drop k l]
  unfold putAll at *
  rw [List.foldl_append, h, put_fold_none]
theorem splitN_none {xs : List Int} {st : SplitSt} {i : Nat} (h : splitN xs st i = none) : ∀ n, i ≤ n → splitN xs st n = none
  | 0, hn => by rw [show i = 0 by omega] at h; exact h
  | n + 1, hn => by
    by_cases e : i = n + 1
    · rw [← e]; exact h
    · show (splitN xs st n).bind _ = none
      rw [splitN_none h n (by omega)]; rfl
theorem split_skip {xs : List Int} {st : SplitSt} {i : Nat} (h : someB (mixL xs.length st.1 st.2.1 1 i) = false) : splitAt xs st i = some st := by unfold splitAt; rw [if_pos h]
theorem split_two {xs : List Int} {st : SplitSt} {i : Nat} (h : someB (mixL xs.length st.1 st.2.1 1 i) = true) (h0 : valI xs (mixL xs.length st.1 st.2.1 1 i) xs.length = 0) : splitAt xs st i = putAll xs st [mixL xs.length st.1 st.2.1 (-1) i, unL xs.length i] := by
  unfold splitAt
  rw [if_neg (by rw [h]; simp), if_pos h0]
  rfl
theorem split_one {xs : List Int} {st : SplitSt} {i : Nat} (h : someB (mixL xs.length st.1 st.2.1 1 i) = true) (h0 : valI xs (mixL xs.length st.1 st.2.1 1 i) xs.length ≠ 0) : splitAt xs st i = putAll xs st [mixL xs.length st.1 st.2.1 1 i] := by
  unfold splitAt
  rw [if_neg (by rw [h]; simp), if_neg h0]
  rfl
theorem put_ok {xs : List Int} {st st' : SplitSt} {ws : List Int} (h : splitPut xs st ws = some st') : MoveOk xs st'.1 st'.2.1 := by
  unfold splitPut at h
  cases hm : mirV xs ws with
  | none => rw [hm] at h; cases h
  | some M =>
    rw [hm] at h
    have h : (mulV xs M.1 M.2 st.1 st.2.1).map (fun m => (m.1, m.2, st.2.2 ++ [ws])) = some st' := h
    cases hmul : mulV xs M.1 M.2 st.1 st.2.1 with
    | none => rw [hmul] at h; cases h
    | some R1 =>
      rw [hmul] at h
      simp only [Option.map_some, Option.some.injEq] at h
      subst h
      exact (mul_some (R := R1.1) (d := R1.2) hmul).2.2.1
theorem putAll_ok {xs : List Int} {st : SplitSt} {l : List (List Int)} (h0 : MoveOk xs st.1 st.2.1) : ∀ k, k ≤ l.length → ∀ st', putAll xs st (l.take k) = some st' → MoveOk xs st'.1 st'.2.1
  | 0, _, st', h => by
    rw [List.take_zero] at h
    have h : some st = some st' := h
    cases h
    exact h0
  | k + 1, hk, st', h => by
    rw [putAll_next (by omega)] at h
    cases hp : putAll xs st (l.take k) with
    | none => rw [hp] at h; cases h
    | some s => rw [hp] at h; exact put_ok h
theorem mix_back {xs : List Int} {R : List (List Int)} {d : Int} (hR : MoveOk xs R d) {i : Nat} (hi : i < xs.length) (h0 : valI xs (mixL xs.length R d 1 i) xs.length = 0) : ∃ v ∈ mixL xs.length R d (-1) i, v ≠ 0 := by
  refine Classical.byContradiction fun hc => ?_
  have hz : ∀ r, r < xs.length → fF (mixL xs.length R d (-1) i) r = 0 := fun r hr => by
    refine Classical.byContradiction fun h => hc ⟨_, ?_, h⟩
    unfold fF mixL
    rw [List.getD_eq_getElem?_getD, List.getElem?_eq_getElem (by rw [row_len]; exact hr)]
    exact List.getElem_mem _
  have hu : ∀ r, r < xs.length → fF (mixL xs.length R d 1 i) r = -2 * (if r = i then d else 0) := fun r hr => by
    have e := hz r hr
    unfold mixL at e ⊢
    rw [row_at hr] at e ⊢
    omega
  rw [val_pr, pr_fix _ _ hi (-2) d hu, hu i hi, if_pos rfl] at h0
  have h1 := term_ne hR.form hi
  have h2 := hR.d0
  have h3 : 4 * (d * d * fF xs i) = 0 := by rw [← h0]; grind
  have h4 : d * d * fF xs i ≠ 0 := Int.mul_ne_zero (Int.mul_ne_zero h2 h2) h1
  omega
theorem mix_bd {xs : List Int} {R : List (List Int)} {d c : Int} (hR : MoveOk xs R d) (hc : c = 1 ∨ c = -1) {i : Nat} : ∀ v ∈ mixL xs.length R d c i, -2000000 ≤ v ∧ v ≤ 2000000 := fun v hv => by
  unfold mixL rowL at hv
  rw [List.mem_map] at hv
  obtain ⟨r, _, rfl⟩ := hv
  have h1 := hR.at_bd r i
  obtain ⟨h2, h3⟩ := hR.den
  split <;> rcases hc with rfl | rfl <;> omega
/-- the column that a unit vector takes out -/
theorem on_unit {n i : Nat} (M : Nat → Nat → Int) (hi : i < n) : rowL n (apF M n (fF (unL n i))) = rowL n (fun r => M r i) := by
  refine list_ext (n := n) (row_len _ _) (row_len _ _) fun r hr => ?_
  rw [row_at hr, row_at hr]
  have e : apF M n (fF (unL n i)) r = apF M n (unF i) r := ap_congr (fun _ _ => rfl) fun k hk => un_at hk
  rw [e, ap_unit M hi]
theorem mix_sum {n i : Nat} {R : List (List Int)} {d c e : Int} (h : e = -c) (hn : (rowL n (fun k => if k = i then d else 0)).length = n) : rowL (rowL n (fun k => if k = i then d else 0)).length (sumV (rowL n (fun r => at2 R r i)) (rowL n (fun k => if k = i then d else 0)) e) = mixL n R d c i := by
  subst h
  rw [hn]
  unfold mixL
  refine list_ext (n := n) (row_len _ _) (row_len _ _) fun r hr => ?_
  rw [row_at hr, row_at hr]
  unfold sumV
  rw [row_at hr, row_at hr, Int.neg_mul]; omega
theorem un_row {n i : Nat} : rowL n (fun k => if k = i then (1 : Int) else 0) = unL n i := rfl

end Go.Proofs.Ytjabklpnohfjpab
