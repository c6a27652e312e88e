/-
  Some texts in one file: MpY MpZ MqA RowWord.
-/
import Derived.Test.YtjabklpnohfjpabQBun37
import Derived.Test.YtjabklpnohfjpabQBun28
import Derived.Below
/-! MpY -/
set_option linter.unusedVariables false
namespace Go.Proofs.Ytjabklpnohfjpab
open Go.RowKit

set_option maxRecDepth 100000 in
set_option maxHeartbeats 8000000 in
theorem moveCarry_any (vf vu vv : Value) (xs us vs : List Int) (w : World) (hx : Rd w vf xs) (hu : Rd w vu us) (hv : Rd w vv vs) : Calls Try.prog 46 #[vf, vu, vv] w (ListPost (carryOk xs us vs) (if carryOk xs us vs then carryL xs us vs else []) w) := by
  obtain ⟨ax, cx, rfl, _⟩ := hx.form
  obtain ⟨au, cu, rfl, _⟩ := hu.form
  obtain ⟨av, cv, rfl, _⟩ := hv.form
  have HX := hid hx
  have HU := hid hu
  have HV := hid hv
  have HMO := hid (movable_any _ xs w hx)
  have HVU := hid (vectorWithin_any _ us (xs.length : Int) 500 (by omega) (by omega) w hu)
  have HVV := hid (vectorWithin_any _ vs (xs.length : Int) 500 (by omega) (by omega) w hv)
  clear hx hu hv
  cases hf : frm3B xs with
  | false =>
    have HE : Hid (carryOk xs us vs = false) := hid (by unfold carryOk; rw [hf]; rfl)
    rw [hf] at HMO
    clear hf
    rw [HE.out]
    go_enter Try.func46, Try.ntmps46
    go_wp2_with fail
    refine HMO.out.mono ?_
    rintro e w' ⟨rfl, rfl⟩
    go_wp2_with fail
    refine bodyPost_ret (v := .tuple #[.slice (some ⟨w.heap.size, 0, none⟩) 0 0, .bool false]) (by simp [results, Try.results46, go_sem]) rfl ?_
    exact listPost_nil (Below.refl _ _)
  | true =>
    rw [hf] at HMO
    have hfv : fvB xs = true := by unfold frm3B at hf; rw [Bool.and_eq_true] at hf; exact hf.1
    have hn3 : xs.length ≤ 3 := by unfold frm3B at hf; rw [Bool.and_eq_true, decide_eq_true_eq] at hf; exact hf.2
    cases hu5 : vecB xs us 500 with
    | false =>
      have HE : Hid (carryOk xs us vs = false) := hid (by unfold carryOk; rw [hf, hu5]; rfl)
      rw [vec_is hfv] at hu5
      rw [hu5] at HVU
      clear hf hfv hu5
      rw [HE.out]
      go_enter Try.func46, Try.ntmps46
      go_wp2_with fail
      refine HMO.out.mono ?_
      rintro e w' ⟨rfl, rfl⟩
      go_wp2_with fail
      refine HVU.out.mono ?_
      rintro e w' ⟨rfl, rfl⟩
      go_wp2_with fail
      refine bodyPost_ret (v := .tuple #[.slice (some ⟨w.heap.size, 0, none⟩) 0 0, .bool false]) (by simp [results, Try.results46, go_sem]) rfl ?_
      exact listPost_nil (Below.refl _ _)
    | true =>
      rw [← vec_is hfv, hu5] at HVU
      cases hv5 : vecB xs vs 500 with
      | false =>
        have HE : Hid (carryOk xs us vs = false) := hid (by unfold carryOk; rw [hf, hu5, hv5]; rfl)
        rw [vec_is hfv] at hv5
        rw [hv5] at HVV
        clear hf hfv hu5 hv5
        rw [HE.out]
        go_enter Try.func46, Try.ntmps46
        go_wp2_with fail
        refine HMO.out.mono ?_
        rintro e w' ⟨rfl, rfl⟩
        go_wp2_with fail
        refine HVU.out.mono ?_
        rintro e w' ⟨rfl, rfl⟩
        go_wp2_with fail
        refine HVV.out.mono ?_
        rintro e w' ⟨rfl, rfl⟩
        go_wp2_with fail
        refine bodyPost_ret (v := .tuple #[.slice (some ⟨w.heap.size, 0, none⟩) 0 0, .bool false]) (by simp [results, Try.results46, go_sem]) rfl ?_
        exact listPost_nil (Below.refl _ _)
      | true =>
        rw [← vec_is hfv, hv5] at HVV
        obtain ⟨hub, _, hul⟩ := vecB_iff.1 hu5
        obtain ⟨hvb, _, hvl⟩ := vecB_iff.1 hv5
        have HPV : Hid (Calls Try.prog 58 #[.slice ax xs.length cx, .slice av vs.length cv, .slice av vs.length cv] w fun e w' => e = .returned (.int .i64 (valI xs vs xs.length)) ∧ Below w.heap.size w w') := hid (by
          refine (pairAtW_any _ _ _ xs vs vs w HX.out HV.out HV.out hfv (fun v hv => by have := hvb v hv; omega) (fun v hv => by have := hvb v hv; omega) hvl hvl).mono ?_
          rintro e w' ⟨rfl, k, rfl⟩
          exact ⟨by rw [pair_self], below_drewN (Below.refl _ _) k⟩)
        have HPU : Hid (∀ wx : World, Rd wx (.slice ax xs.length cx) xs → Rd wx (.slice au us.length cu) us → Calls Try.prog 58 #[.slice ax xs.length cx, .slice au us.length cu, .slice au us.length cu] wx fun e w' => e = .returned (.int .i64 (valI xs us xs.length)) ∧ Below wx.heap.size wx w') := hid (fun wx h1 h2 => by
          refine (pairAtW_any _ _ _ xs us us wx h1 h2 h2 hfv (fun v hv => by have := hub v hv; omega) (fun v hv => by have := hub v hv; omega) hul hul).mono ?_
          rintro e w' ⟨rfl, k, rfl⟩
          exact ⟨by rw [pair_self], below_drewN (Below.refl _ _) k⟩)
        have hq1 := pairW_bd hfv (fun v hv => by have := hub v hv; omega) (fun v hv => by have := hub v hv; omega) hul hul xs.length (Nat.le_refl _)
        have hq2 := pairW_bd hfv (fun v hv => by have := hvb v hv; omega) (fun v hv => by have := hvb v hv; omega) hvl hvl xs.length (Nat.le_refl _)
        rw [pair_self] at hq1 hq2
        obtain ⟨q, hq⟩ : ∃ q, q = valI xs us xs.length := ⟨_, rfl⟩
        obtain ⟨r, hr⟩ : ∃ r, r = valI xs vs xs.length := ⟨_, rfl⟩
        rw [← hq] at hq1 HPU
        rw [← hr] at hq2 HPV
        have hok : carryOk xs us vs = (!decide (q = 0) && decide (q = r)) := by unfold carryOk; rw [← hq, ← hr, hf, hu5, hv5]; rfl
        have HOI := hid (fun h : carryOk xs us vs = true => And.intro (carry_sum h) (carry_some h))
        have HB := hid (fun (wx : World) (h1 : Rd wx (.slice ax xs.length cx) xs) (h2 : Rd wx (.slice au us.length cu) us) (h3 : Rd wx (.slice av vs.length cv) vs) (h4 : carryOk xs us vs = true) => between_any _ _ _ xs us vs wx h1 h2 h3 hf (fun v hv => by have := hub v hv; omega) (fun v hv => by have := hvb v hv; omega) hul hvl (carry_sum h4) (carry_some h4))
        by_cases hr0 : r = 0
        · subst hr0
          have HE : Hid (carryOk xs us vs = false) := hid (by rw [hok]; by_cases h : q = 0; (· rw [decide_eq_true h]; rfl); (· rw [decide_eq_false h]; rfl))
          clear hf hfv hu5 hv5 hub hvb hul hvl hq hr hok hq1 hq2
          rw [HE.out]
          go_enter Try.func46, Try.ntmps46
          go_wp2_with fail
          refine HMO.out.mono ?_
          rintro e w' ⟨rfl, rfl⟩
          go_wp2_with fail
          refine HVU.out.mono ?_
          rintro e w' ⟨rfl, rfl⟩
          go_wp2_with fail
          refine HVV.out.mono ?_
          rintro e w' ⟨rfl, rfl⟩
          go_wp2_with fail
          refine HPV.out.mono ?_
          rintro e w2 ⟨rfl, hb2⟩
          have HB2 := hid hb2
          have HX2 := hid (HX.out.keep hb2)
          have HU2 := hid (HU.out.keep hb2)
          clear hb2
          go_wp2_with fail
          refine bodyPost_ret (v := .tuple #[.slice (some ⟨w2.heap.size, 0, none⟩) 0 0, .bool false]) (by simp [results, Try.results46, go_sem]) rfl ?_
          exact listPost_nil HB2.out
        · have R0 : (r == 0) = false := by rw [beq_eq_false_iff_ne]; exact hr0
          by_cases hqr : q = r
          · subst hqr
            have hOK : carryOk xs us vs = true := by rw [hok, decide_eq_false hr0]; simp
            have HOK := hid hOK
            have Q1 : (q != q) = false := by simp
            rw [hOK, if_pos rfl]
            clear hf hfv hu5 hv5 hub hvb hul hvl hq hr hok hr0 hOK hq1 hq2
            go_enter Try.func46, Try.ntmps46
            go_wp2_with fail
            refine HMO.out.mono ?_
            rintro e w' ⟨rfl, rfl⟩
            go_wp2_with fail
            refine HVU.out.mono ?_
            rintro e w' ⟨rfl, rfl⟩
            go_wp2_with fail
            refine HVV.out.mono ?_
            rintro e w' ⟨rfl, rfl⟩
            go_wp2_with fail
            refine HPV.out.mono ?_
            rintro e w2 ⟨rfl, hb2⟩
            have HB2 := hid hb2
            have HX2 := hid (HX.out.keep hb2)
            have HU2 := hid (HU.out.keep hb2)
            clear hb2
            go_wp2_with fail
            refine (HPU.out _ HX2.out HU2.out).mono ?_
            rintro e w3 ⟨rfl, hb3⟩
            have HB3 := hid (HB2.out.trans (hb3.mono HB2.out.size))
            clear hb3
            go_wp2_with fail
            refine (HB.out _ (HX.out.keep HB3.out) (HU.out.keep HB3.out) (HV.out.keep HB3.out) HOK.out).mono ?_
            rintro e w4 ⟨u, rfl, ho, hb4⟩
            have HB4 := hid (HB3.out.trans (hb4.mono HB3.out.size))
            have HO := hid (ho.down HB3.out.size)
            obtain ⟨ay, cy, rfl⟩ := ho.rd.form
            clear ho hb4
            go_wp2_with fail
            refine bodyPost_ret (v := .tuple #[.slice ay (carryL xs us vs).length cy, .bool true]) (by simp [results, Try.results46, go_sem]) rfl ?_
            exact ⟨_, rfl, HO.out, HB4.out⟩
          · have Q1 : (q != r) = true := by rw [bne_iff_ne]; exact hqr
            have HE : Hid (carryOk xs us vs = false) := hid (by rw [hok, decide_eq_false hqr]; simp)
            rw [HE.out]
            clear hf hfv hu5 hv5 hub hvb hul hvl hq hr hok hr0 hqr hq1 hq2
            go_enter Try.func46, Try.ntmps46
            go_wp2_with fail
            refine HMO.out.mono ?_
            rintro e w' ⟨rfl, rfl⟩
            go_wp2_with fail
            refine HVU.out.mono ?_
            rintro e w' ⟨rfl, rfl⟩
            go_wp2_with fail
            refine HVV.out.mono ?_
            rintro e w' ⟨rfl, rfl⟩
            go_wp2_with fail
            refine HPV.out.mono ?_
            rintro e w2 ⟨rfl, hb2⟩
            have HB2 := hid hb2
            have HX2 := hid (HX.out.keep hb2)
            have HU2 := hid (HU.out.keep hb2)
            clear hb2
            go_wp2_with fail
            refine (HPU.out _ HX2.out HU2.out).mono ?_
            rintro e w3 ⟨rfl, hb3⟩
            have HB3 := hid (HB2.out.trans (hb3.mono HB2.out.size))
            clear hb3
            go_wp2_with fail
            refine bodyPost_ret (v := .tuple #[.slice (some ⟨w3.heap.size, 0, none⟩) 0 0, .bool false]) (by simp [results, Try.results46, go_sem]) rfl ?_
            exact listPost_nil HB3.out

end Go.Proofs.Ytjabklpnohfjpab

/-! MpZ -/
set_option linter.unusedVariables false
namespace Go.Proofs.Ytjabklpnohfjpab
open Go.RowKit

def putS (xs : List Int) (st : SplitSt) (l : List (List Int)) : Option SplitSt := l.foldl (fun o w => o.bind fun st => splitPut xs st w) (some st)
theorem putS_fold_none (xs : List Int) (l : List (List Int)) : l.foldl (fun (o : Option SplitSt) w => o.bind fun st => splitPut xs st w) none = none := by
  induction l with
  | nil => rfl
  | cons a l ih => rw [List.foldl_cons]; exact ih
theorem putS_next {xs : List Int} {st : SplitSt} {l : List (List Int)} {k : Nat} (hk : k < l.length) : putS xs st (l.take (k + 1)) = (putS xs st (l.take k)).bind fun st => splitPut xs st (l.getD k []) := by
  unfold putS
  rw [List.take_add_one, List.getElem?_eq_getElem hk, List.foldl_append, List.getD_eq_getElem?_getD, List.getElem?_eq_getElem hk]
  rfl
theorem putS_none {xs : List Int} {st : SplitSt} {l : List (List Int)} {k : Nat} (h : putS xs st (l.take k) = none) : putS xs st l = none := by
  rw [← List.take_append_drop k l]
  unfold putS at *
  rw [List.foldl_append, h, putS_fold_none]
theorem plain_axis {n i : Nat} {d : Int} (hi : i < n) (hd : d ≠ 0) : plainL (rowL n (fun r => if r = i then d else 0)) = plainL (unL n i) := by
  rw [← plain_scale hd (un_some hi)]
  congr 1
  unfold unL rowL
  rw [List.map_map]
  refine List.map_congr_left fun r _ => ?_
  show (if r = i then d else 0) = d * unF i r
  unfold unF
  split <;> simp
theorem diff_mix {n i : Nat} {R : List (List Int)} {d c : Int} : diffL (rowL n (fun r => at2 R r i)) (rowL n (fun r => if r = i then d else 0)) c n = mixL n R d c i := by
  refine list_ext (n := n) (by unfold diffL; exact row_len _ _) (by unfold mixL; exact row_len _ _) fun r hr => ?_
  rw [diff_at hr]
  unfold mixL
  rw [row_at hr, row_at hr, row_at hr]
/-- what is done at one place -/
theorem split_carry {xs : List Int} {st : SplitSt} {i : Nat} (hi : i < xs.length) (hd : st.2.1 ≠ 0) : splitAt xs st i = putS xs st (carryL xs (rowL xs.length (fun r => at2 st.1 r i)) (rowL xs.length (fun r => if r = i then st.2.1 else 0))) := by
  unfold carryL splitAt
  rw [diff_mix, diff_mix, plain_axis hi hd]
  split
  · rfl
  · split
    · rfl
    · rfl
theorem splitS_fail {xs : List Int} {A : List (List Int)} {a : Int} {st : SplitSt} {LS : List (List Int)} {i k : Nat} (h : splitN xs (A, a, []) i = some st) (h2 : splitAt xs st i = putS xs st LS) (h3 : putS xs st (LS.take k) = none) (hi : i < xs.length) : splitV xs A a = none := by
  have e : splitN xs (A, a, []) (i + 1) = none := by
    show (splitN xs (A, a, []) i).bind (fun st => splitAt xs st i) = none
    rw [h]
    show splitAt xs st i = none
    rw [h2]
    exact putS_none h3
  unfold splitV
  split
  · rw [splitN_none e xs.length hi]; rfl
  · rfl
theorem put_map {xs ws : List Int} {R : List (List Int)} {d : Int} {L : List (List Int)} {O : Option (List (List Int) × Int)} (h : O = (mirV xs ws).bind fun M => mulV xs M.1 M.2 R d) : splitPut xs (R, d, L) ws = O.map (fun m => (m.1, m.2, L ++ [ws])) := by
  subst h
  unfold splitPut
  cases mirV xs ws with
  | none => rfl
  | some M => rfl

/-- a list of lists of one's own: its own block is none of S, no row's is one of T -/
def OwnA (W : World) (B : Nat) (S T : Nat → Prop) (v : Value) (R : List (List Int)) : Prop := ∃ vals : List Value, vals.length = R.length ∧ World.ownsRow W B 22 1 v R.length vals ∧ (∀ k, v.ownBlock = some k → ¬ S k) ∧ (∀ i, i < R.length → Owns W B (vals.getD i undef) (R.getD i []) ∧ ∀ k, (vals.getD i undef).ownBlock = some k → v.ownBlock ≠ some k ∧ ¬ T k) ∧ ∀ i j k, i < j → j < R.length → (vals.getD i undef).ownBlock = some k → (vals.getD j undef).ownBlock ≠ some k
theorem OwnA.at_blocks {W W' : World} {B : Nat} {S T : Nat → Prop} {v : Value} {R : List (List Int)} (h : OwnA W B S T v R) (hb : ∀ g, B ≤ g → g < W.heap.size → W'.heap[g]? = W.heap[g]?) : OwnA W' B S T v R := by
  obtain ⟨vals, hl, ho, hx, hr, hd⟩ := h
  refine ⟨vals, hl, row_at_block ho fun g e => ?_, hx, fun i hi => ⟨(hr i hi).1.at_block fun g e => ?_, (hr i hi).2⟩, hd⟩
  · have := World.ownsRow.lt ho g e
    exact hb g this.1 this.2
  · exact hb g ((hr i hi).1.ge g e) ((hr i hi).1.lt g e)
theorem OwnA.ownM {W : World} {B : Nat} {S T : Nat → Prop} {v : Value} {R : List (List Int)} (h : OwnA W B S T v R) : OwnM W B none v R := by
  obtain ⟨vals, hl, ho, hx, hr, hd⟩ := h
  exact ⟨vals, hl, ho, fun _ _ => by simp, fun i hi => ⟨(hr i hi).1, fun k e => ⟨((hr i hi).2 k e).1, by simp⟩⟩, hd⟩
theorem OwnM.ownA {W : World} {B : Nat} {ex : Option Nat} {S T : Nat → Prop} {v : Value} {R : List (List Int)} (h : OwnM W B ex v R) (hS : ∀ k, k < W.heap.size → ¬ S k) (hT : ∀ k, k < W.heap.size → ¬ T k) : OwnA W B S T v R := by
  obtain ⟨vals, hl, ho, hx, hr, hd⟩ := h.own
  exact ⟨vals, hl, ho, fun k e => hS k (World.ownsRow.lt ho k e).2, fun i hi => ⟨(hr i hi).1, fun k e => ⟨((hr i hi).2 k e).1, hT k ((hr i hi).1.lt k e)⟩⟩, hd⟩
theorem OwnA.lt {W : World} {B : Nat} {S T : Nat → Prop} {v : Value} {R : List (List Int)} (h : OwnA W B S T v R) : ∀ k, v.ownBlock = some k → B ≤ k ∧ k < W.heap.size ∧ ¬ S k := by
  obtain ⟨vals, _, ho, hx, _⟩ := h
  exact fun k e => ⟨(World.ownsRow.lt ho k e).1, (World.ownsRow.lt ho k e).2, hx k e⟩
structure SnocA (W : World) (B : Nat) (S T : Nat → Prop) (v : Value) (R : List (List Int)) (zv : Value) (zs : List Int) (vals : List Value) : Prop where
  row : World.ownsRow W B 22 1 v R.length vals
  fin : ∀ (W' : World) (v' : Value) (o : Obj), World.ownsRow W' B 22 1 v' (R.length + 1) (vals ++ [zv]) → (W.alloc o).grownBy W' v.ownBlock → (v'.ownBlock = v.ownBlock ∨ v'.ownBlock = some (W.alloc o).heap.size) → OwnA W' B S T v' (R ++ [zs])
/-- one more row, whose block lies in S and T, and not in T' -/
theorem ownA_snoc {W : World} {B : Nat} {S T T' : Nat → Prop} {v zv : Value} {R : List (List Int)} {zs : List Int} (h : OwnA W B S T v R) (hz : Owns W B zv zs) (hzT : ∀ k, zv.ownBlock = some k → S k ∧ T k ∧ ¬ T' k) (hTT : ∀ k, T' k → T k) (hS : ∀ k, S k → k < W.heap.size) : ∃ vals, SnocA W B S T' v R zv zs vals := by
  obtain ⟨vals, hl, ho, hx, hr, hd⟩ := h
  refine ⟨vals, ho, fun W' v' o hown hg hat => ?_⟩
  have key : ∀ {x : Value} {ys : List Int}, Owns W B x ys → (∀ k, x.ownBlock = some k → v.ownBlock ≠ some k) → Owns W' B x ys ∧ ∀ k, x.ownBlock = some k → v'.ownBlock ≠ some k := by
    intro x ys hx hne
    refine ⟨hx.at_block fun g e => ?_, fun k e => ?_⟩
    · have hlt := hx.lt g e
      have e1 : W'.heap[g]? = (W.alloc o).heap[g]? := hg.block g (by simp; omega) (fun e2 => hne g e e2.symm)
      exact e1.trans (Below.heap_alloc _ _ _ hlt)
    · rcases hat with h | h
      · rw [h]; exact hne k e
      · rw [h]
        intro e2
        have := hx.lt k e
        simp only [World.size_alloc, Option.some.injEq] at e2
        omega
  have hz2 := key hz fun k e e2 => hx k e2 (hzT k e).1
  refine ⟨vals ++ [zv], by rw [List.length_append, List.length_append, hl]; rfl, by rw [List.length_append]; exact hown, fun k e hs => ?_, fun i hi => ?_, fun i j k hij hj => ?_⟩
  · rcases hat with h | h
    · rw [h] at e; exact hx k e hs
    · rw [h] at e
      have := hS k hs
      simp only [World.size_alloc, Option.some.injEq] at e
      omega
  · rw [List.length_append] at hi
    simp only [List.length_cons, List.length_nil] at hi
    by_cases e : i < R.length
    · rw [getD_snoc_old _ _ _ (by omega), getD_snoc_old _ _ _ e]
      have hk := key (hr i e).1 fun k e2 => ((hr i e).2 k e2).1
      exact ⟨hk.1, fun k e2 => ⟨hk.2 k e2, fun e3 => ((hr i e).2 k e2).2 (hTT k e3)⟩⟩
    · obtain rfl : i = R.length := by omega
      rw [getD_snoc_new, ← hl, getD_snoc_new]
      exact ⟨hz2.1, fun k e2 => ⟨hz2.2 k e2, (hzT k e2).2.2⟩⟩
  · rw [List.length_append] at hj
    simp only [List.length_cons, List.length_nil] at hj
    rw [getD_snoc_old _ _ _ (by omega)]
    by_cases e : j < R.length
    · rw [getD_snoc_old _ _ _ (by omega)]
      exact hd i j k hij e
    · obtain rfl : j = R.length := by omega
      rw [show (vals ++ [zv]).getD R.length undef = zv by rw [← hl, getD_snoc_new]]
      intro e2 e3
      exact ((hr i (by omega)).2 k e2).2 (hzT k e3).2.1
/-- blocks that lie between two sizes, and are none of the first rows' -/
def Left (a b : Nat) (vals : List Value) (k : Nat) : Nat → Prop := fun g => a ≤ g ∧ g < b ∧ ∀ j, j < k → (vals.getD j undef).ownBlock ≠ some g
/-- a list that has just been made, row by row -/
structure Made (W : World) (B : Nat) (v : Value) (R : List (List Int)) (vals : List Value) : Prop where
  len : vals.length = R.length
  cell : ∀ k, k < R.length → ∃ g cap, v = .slice (some ⟨g, 0, none⟩) R.length cap ∧ B ≤ g ∧ g < W.heap.size ∧ W.cell? ⟨g, k, none⟩ = some (vals.getD k undef)
  row : ∀ k, k < R.length → Owns W B (vals.getD k undef) (R.getD k [])
  left : ∀ k, k < R.length → ∀ g, (vals.getD k undef).ownBlock = some g → Left B W.heap.size vals 0 g ∧ Left B W.heap.size vals k g ∧ ¬ Left B W.heap.size vals (k + 1) g
theorem OwnM.made {W : World} {B : Nat} {v : Value} {R : List (List Int)} (h : OwnM W B none v R) : ∃ vals, Made W B v R vals := by
  obtain ⟨vals, hl, ho, hx, hr, hd⟩ := h.own
  refine ⟨vals, hl, fun k hk => ?_, fun k hk => (hr k hk).1, fun k hk g e => ?_⟩
  · rcases ho.2 with ⟨h3, h4⟩ | ⟨g, cap, cur, h3, hg, hh, _⟩
    · have h4 : R.length = 0 := h4
      omega
    · subst h3
      refine ⟨g, cap, rfl, hg, (Array.getElem?_eq_some_iff.1 hh).1, ?_⟩
      rw [World.ownsRow.cellAt ho k (by omega), List.getElem?_eq_getElem (by omega)]
      simp [List.getD, List.getElem?_eq_getElem (show k < vals.length by omega)]
  · have h1 := (hr k hk).1.ge g e
    have h2 := (hr k hk).1.lt g e
    exact ⟨⟨h1, h2, fun j hj => by omega⟩, ⟨h1, h2, fun j hj e2 => hd j k g hj hk e2 e⟩, fun h3 => h3.2.2 k (Nat.lt_succ_self k) e⟩
theorem left_less {a b k g : Nat} {vals : List Value} (h : Left a b vals (k + 1) g) : Left a b vals k g := ⟨h.1, h.2.1, fun j hj => h.2.2 j (by omega)⟩

end Go.Proofs.Ytjabklpnohfjpab

/-! MqA -/
set_option linter.unusedVariables false
namespace Go.Proofs.Ytjabklpnohfjpab
open Go.RowKit

theorem col_bd {xs : List Int} {R : List (List Int)} {d : Int} (h : MoveOk xs R d) (i : Nat) : ∀ v ∈ rowL xs.length (fun r => at2 R r i), -1000000 ≤ v ∧ v ≤ 1000000 := fun v hv => by
  unfold rowL at hv
  obtain ⟨j, _, rfl⟩ := List.mem_map.1 hv
  exact h.at_bd j i
theorem axis_bd {xs : List Int} {R : List (List Int)} {d : Int} (h : MoveOk xs R d) (i : Nat) : ∀ v ∈ rowL xs.length (fun r => if r = i then d else 0), -1000000 ≤ v ∧ v ≤ 1000000 := fun v hv => by
  unfold rowL at hv
  obtain ⟨j, _, rfl⟩ := List.mem_map.1 hv
  have := h.den
  split <;> omega
theorem axis_some {n i : Nat} {d : Int} (hi : i < n) (hd : d ≠ 0) : ∃ v ∈ rowL n (fun r => if r = i then d else 0), v ≠ 0 := ⟨d, List.mem_map.2 ⟨i, List.mem_range.2 hi, by rw [if_pos rfl]⟩, hd⟩

set_option maxRecDepth 100000 in
set_option maxHeartbeats 16000000 in
theorem moveSplit_any (vf va : Value) (xs : List Int) (A : List (List Int)) (a : Int) (w : World) (hx : Rd w vf xs) (hA : RdM w va A) : Calls Try.prog 43 #[vf, .agg #[va, .int .i64 a]] w (ListPost (splitV xs A a).isSome ((splitV xs A a).getD []) w) := by
  obtain ⟨i1, hi1, hy0, hy1, hy2⟩ := info_parts infoRow
  obtain ⟨ax, cx, rfl, _⟩ := hx.form
  obtain ⟨aa, ca, rfl⟩ := hA.form
  have hb1 : Below w.heap.size w (w.alloc (.cells #[.slice aa A.length ca, .int .i64 a] 29)) := below_box2 w _
  have h01 : (w.alloc (.cells #[.slice aa A.length ca, .int .i64 a] 29)).heap[w.heap.size]? = some (.cells #[.slice aa A.length ca, .int .i64 a] 29 (0, 0)) := World.alloc_heap_new w _
  have hr1 : RdS (w.alloc (.cells #[.slice aa A.length ca, .int .i64 a] 29)) (fun g => g ≠ w.heap.size) (.slice aa A.length ca) A := hA.rdS.to hb1.size fun g hg _ => ⟨by omega, hb1.block g hg⟩
  have HX := hid hx
  have HB1 := hid hb1
  have H01 := hid h01
  have HR1 := hid hr1
  have HVA := hid (valid9_any w.heap.size _ _ xs A a _ h01 hr1.rd (hx.keep hb1))
  clear hx hA hb1 h01 hr1
  cases hva : moveB xs A a with
  | false =>
    have HE : Hid (splitV xs A a = none) := hid (by unfold splitV; rw [hva]; rfl)
    rw [hva] at HVA
    clear hva
    go_enter Try.func43, Try.ntmps43
    go_wp2_with fail
    refine HVA.out.mono ?_
    rintro e w2 ⟨rfl, hb2⟩
    have HB2 := hid (HB1.out.trans (hb2.mono HB1.out.size))
    clear hb2
    go_wp2_with fail
    refine bodyPost_ret (v := .tuple #[.slice (some ⟨w2.heap.size, 0, none⟩) 0 0, .bool false]) (by simp [results, Try.results43, go_sem]) rfl ?_
    rw [HE.out]
    exact listPost_nil HB2.out
  | true =>
    have hMA := moveB_iff.1 hva
    have HVT := hid hva
    rw [hva] at HVA
    have hn3 := hMA.l3
    have HMA := hid hMA
    have HF3 : Hid (frm3B xs = true) := hid (by unfold frm3B; rw [hMA.form, decide_eq_true hMA.l3]; rfl)
    clear hva hMA
    go_enter Try.func43, Try.ntmps43
    go_wp2_with fail
    refine HVA.out.mono ?_
    rintro e w2 ⟨rfl, hb2⟩
    have HB2 := hid (HB1.out.trans (hb2.mono HB1.out.size))
    have hl1 : w.heap.size < w2.heap.size := by have := hb2.size; simp at this; omega
    have hb3 : Below w2.heap.size w2 (w2.alloc (.cells #[] 22)) := (Below.refl _ _).alloc (Nat.le_refl _) _
    have HB3 := hid (HB2.out.trans (hb3.mono HB2.out.size))
    have HR3 := hid ((HR1.out.keep hb2).keep hb3)
    have H03 := hid ((hb3.block _ hl1).trans ((hb2.block _ (Array.getElem?_eq_some_iff.1 H01.out).1).trans H01.out))
    have HO3 := hid ((ownM_none w2 none (by simp)).down (B := w.heap.size + 1) hl1)
    clear hb2 hb3 hl1 HR1 H01 HVA
    go_wp2_with fail
    go_loopw [6, 7, 9, 17] (fun so _ _ si wr => ∃ (i : Nat) (u : Value) (R : List (List Int)) (d : Int) (L : List (List Int)), si = .int .i64 i ∧ i ≤ xs.length ∧ Hid (splitN xs (A, a, []) i = some (R, d, L)) ∧ Hid (MoveOk xs R d) ∧ Hid (OwnM wr (w.heap.size + 1) none so L) ∧ Hid (RdS wr (fun g => g ≠ w.heap.size) u R) ∧ Hid (wr.heap[w.heap.size]? = some (.cells #[u, .int .i64 d] 29 (0, 0))) ∧ Hid (L.length ≤ 2 * i) ∧ Hid (Below w.heap.size w wr)) (fun _ _ _ si _ => xs.length - (intOf si).toNat)
    case atStart => exact ⟨0, _, _, _, _, rfl, by omega, hid rfl, HMA, HO3, HR3, H03, hid (Nat.le_refl _), HB3⟩
    case round =>
      obtain ⟨i, u, R, d, L, rfl, hi, HN, HOK, HO, HRS, HBX, HLN, HBW⟩ := hrel
      rename World => wr
      clear HB1 HB2 HB3 HR3 H03 HO3
      by_cases hlt : i < xs.length
      · have hlti : (i : Int) < (xs.length : Int) := by omega
        have HLT := hid hlt
        have HBL := hid (Array.getElem?_eq_some_iff.1 HBX.out).1
        have HIM := hid (image_any w.heap.size xs.length i u R d wr HBX.out HRS.out.rd HOK.out.sq hlt hn3)
        have HAX := hid (fun (wx : World) (h1 : Below wr.heap.size wr wx) => axis_any w.heap.size xs.length i u R d wx (heap_below h1 HBX.out) (HRS.out.keep h1).rd HOK.out.sq HLT.out hn3)
        obtain ⟨col, hcol⟩ : ∃ col, col = rowL xs.length (fun r => at2 R r i) := ⟨_, rfl⟩
        obtain ⟨axs, haxs⟩ : ∃ axs, axs = rowL xs.length (fun r => if r = i then d else 0) := ⟨_, rfl⟩
        have HBT := hid (fun (wx : World) (vu vv : Value) (h1 : Rd wx (.slice ax xs.length cx) xs) (h2 : Rd wx vu col) (h3 : Rd wx vv axs) => between_any _ _ _ xs col axs wx h1 h2 h3 HF3.out (by rw [hcol]; exact col_bd HOK.out i) (by rw [haxs]; exact axis_bd HOK.out i) (by rw [hcol]; exact row_len _ _) (by rw [haxs]; exact row_len _ _) (by rw [hcol, haxs, diff_mix, diff_mix]; exact mix_back HOK.out HLT.out) (by rw [haxs]; exact axis_some HLT.out HOK.out.d0))
        have HSC := hid (split_carry (st := (R, d, L)) hlt HOK.out.d0)
        have HLS2 := hid (carry_len xs col axs)
        simp only [← hcol, ← haxs] at HIM HAX HSC
        obtain ⟨LS, hLS⟩ : ∃ LS, LS = carryL xs col axs := ⟨_, rfl⟩
        rw [← hLS] at HSC HLS2 HBT
        clear hcol haxs hLS hlt
        go_wp2_with fail
        refine HIM.out.mono ?_
        rintro e w4 ⟨u4, rfl, ho4, hb4⟩
        have HB4 := hid hb4
        have HO4 := hid ho4
        have HAX4 := hid (HAX.out w4 hb4)
        clear ho4 hb4 HAX HIM
        go_wp2_with fail
        refine HAX4.out.mono ?_
        rintro e w5 ⟨u5, rfl, ho5, hb5⟩
        have HB5 := hid (HB4.out.trans (hb5.mono HB4.out.size))
        have HBW5 := hid (HBW.out.trans (HB5.out.mono HBW.out.size))
        have HT5 := hid (HBT.out w5 u4 u5 (HX.out.keep HBW5.out) (HO4.out.keep HO4.out.lt hb5).rd ho5.rd)
        clear ho5 hb5 HAX4 HO4 HBT
        go_wp2_with fail
        refine HT5.out.mono ?_
        rintro e we ⟨lv, rfl, hol, hbe⟩
        obtain ⟨vals, hmd⟩ := hol.made
        have HMD := hid hmd
        obtain ⟨al, cl, rfl⟩ := hol.rd.form
        have HBE := hid (HB5.out.trans (hbe.mono HB5.out.size))
        have hs5 := HB5.out.size
        have HOA := hid ((HO.out.ownA (S := Left w5.heap.size we.heap.size vals 0) (T := Left w5.heap.size we.heap.size vals 0) (fun k h1 h2 => by have := h2.1; omega) (fun k h1 h2 => by have := h2.1; omega)).at_blocks fun g _ h2 => HBE.out.block g h2)
        have HRE := hid (HRS.out.keep HBE.out)
        have HXE := hid (heap_below HBE.out HBX.out)
        have HBWE := hid (HBW.out.trans (HBE.out.mono HBW.out.size))
        have hll := HLS2.out
        have HS5 := hid hs5
        clear hmd hol hbe hs5 HT5
        go_wp2_with fail
        go_loopw [6, 9, 27] (fun so _ sk wi => ∃ (k : Nat) (u' : Value) (R' : List (List Int)) (d' : Int) (L' : List (List Int)), sk = .int .i64 k ∧ k ≤ LS.length ∧ Hid (putS xs (R, d, L) (LS.take k) = some (R', d', L')) ∧ Hid (MoveOk xs R' d') ∧ Hid (OwnA wi (w.heap.size + 1) (Left w5.heap.size we.heap.size vals 0) (Left w5.heap.size we.heap.size vals k) so L') ∧ Hid (RdS wi (fun g => g ≠ w.heap.size) u' R') ∧ Hid (wi.heap[w.heap.size]? = some (.cells #[u', .int .i64 d'] 29 (0, 0))) ∧ Hid (L'.length ≤ 2 * i + k) ∧ Hid (∀ g, w5.heap.size ≤ g → g < we.heap.size → wi.heap[g]? = we.heap[g]?) ∧ Hid (we.heap.size ≤ wi.heap.size) ∧ Hid (Below w.heap.size w wi)) (fun _ _ sk _ => LS.length - (intOf sk).toNat)
        case atStart => exact ⟨0, _, _, _, _, rfl, by omega, hid rfl, HOK, HOA, HRE, HXE, HLN, hid (fun g _ _ => rfl), hid (Nat.le_refl _), HBWE⟩
        case round =>
          obtain ⟨k, u', R', d', L', rfl, hk, HP, HOK2, HOA2, HR2, HX2, HL2, HKP, HSZ, HBW2⟩ := hrel
          rename World => wi
          by_cases hkl : k < LS.length
          · have hki : (k : Int) < (LS.length : Int) := by omega
            have HKL := hid hkl
            obtain ⟨g, cap, hv, hg1, hg2, hc⟩ := HMD.out.cell k hkl
            simp only [Value.slice.injEq, true_and] at hv
            obtain ⟨rfl, rfl⟩ := hv
            have hc2 : wi.cell? ⟨g, k, none⟩ = some (vals.getD k undef) := (World.cell?_of_block (HKP.out g hg1 hg2)).trans hc
            obtain ⟨zs, hzs⟩ : ∃ zs, zs = LS.getD k [] := ⟨_, rfl⟩
            have hz := (HMD.out.row k hkl).at_block fun g e => HKP.out g ((HMD.out.row k hkl).ge g e) ((HMD.out.row k hkl).lt g e)
            rw [← hzs] at hz
            have hzl := HMD.out.left k hkl
            obtain ⟨zv, hzv⟩ : ∃ zv, zv = vals.getD k undef := ⟨_, rfl⟩
            rw [← hzv] at hc2 hz hzl
            have HZL := hid hzl
            have HZ := hid hz
            obtain ⟨az, cz, rfl⟩ := hz.reads
            obtain ⟨OO, hOO⟩ : ∃ OO, OO = (mirV xs zs).bind fun M => mulV xs M.1 M.2 R' d' := ⟨_, rfl⟩
            have HFO := hid (follow_any w.heap.size (.slice ax xs.length cx) (.slice az zs.length cz) u' xs zs R' d' wi HX2.out HR2.out.rd (HX.out.keep HBW2.out) HZ.out.rd HOK2.out)
            rw [← hOO] at HFO
            have HPN := hid (putS_next (xs := xs) (st := (R, d, L)) hkl)
            rw [HP.out, ← hzs] at HPN
            have HPM := hid (put_map (L := L') hOO)
            have HPUT : Hid (putS xs (R, d, L) (LS.take (k + 1)) = OO.map (fun m => (m.1, m.2, L' ++ [zs]))) := hid (by rw [HPN.out]; exact HPM.out)
            have HPOK := hid (fun (R7 : List (List Int)) (d7 : Int) (h : OO = some (R7, d7)) => (put_ok (st' := (R7, d7, L' ++ [zs])) (HPM.out.trans (by rw [h]; rfl)) : MoveOk xs R7 d7))
            clear hc hz hzl hzs hzv hOO hkl HPN HPM
            go_wp2_with fail
            refine HFO.out.mono ?_
            rintro e w7 ⟨rfl, wy, hby, hw7, hst⟩
            have hbm := HBL.out
            have hbl : w.heap.size < wi.heap.size := (Array.getElem?_eq_some_iff.1 HX2.out).1
            have hbw : Below w.heap.size w w7 := by
              have h1 := HBW2.out.trans (hby.mono HBW2.out.size)
              rcases hw7 with rfl | ⟨v0, v1, rfl⟩
              · exact h1
              · exact (h1.setCell (Nat.le_refl _) _).setCell (Nat.le_refl _) _
            have hkp : ∀ g, g < wi.heap.size → g ≠ w.heap.size → w7.heap[g]? = wi.heap[g]? := fun g h1 h2 => by
              have h3 := hby.block g h1
              rcases hw7 with rfl | ⟨v0, v1, rfl⟩
              · exact h3
              · rw [heap_setCell_other _ _ _ _ h2, heap_setCell_other _ _ _ _ h2]; exact h3
            have hs7 : wi.heap.size ≤ w7.heap.size := by
              rcases hw7 with rfl | ⟨v0, v1, rfl⟩
              · exact hby.size
              · simpa using hby.size
            have HBW7 := hid hbw
            have HKP7 := hid hkp
            have HS7 := hid hs7
            cases OO with
            | none =>
              have HE : Hid (splitV xs A a = none) := hid (splitS_fail HN.out HSC.out HPUT.out HLT.out)
              clear hbw hkp hs7 hby hw7 hst hbm hbl
              simp only [Option.isSome_none]
              go_wp2_with fail
              refine bodyPost_ret (v := .tuple #[.slice (some ⟨w7.heap.size, 0, none⟩) 0 0, .bool false]) (by simp [results, Try.results43, go_sem]) rfl ?_
              rw [HE.out]
              exact listPost_nil HBW7.out
            | some p =>
              obtain ⟨R7, d7⟩ := p
              obtain ⟨u7, hm7, ho7⟩ := hst R7 d7 rfl
              have HM7 := hid hm7
              have HO7 := hid ho7
              have hoa := HOA2.out.at_blocks (W' := w7) fun g h1 h2 => hkp g h2 (by omega)
              have hz7 := HZ.out.at_block (W' := w7) fun g e => hkp g (HZ.out.lt g e) (by have := HZ.out.ge g e; have := HS5.out; omega)
              obtain ⟨vals2, SN⟩ := ownA_snoc (T' := Left w5.heap.size we.heap.size vals (k + 1)) hoa (hz7.down (B := w.heap.size + 1) (by have := HS5.out; omega)) HZL.out (fun g h => left_less h) (fun g h => by have := h.2.1; have := HSZ.out; omega)
              have HSN := hid SN
              have HROW := hid SN.row
              have HLS := hid (fun g (e : u6.ownBlock = some g) => hoa.lt g e)
              have hll2 := HL2.out
              have hb7 : w.heap.size + 1 ≤ w7.heap.size := by omega
              clear hbw hkp hs7 hby hw7 hst hm7 ho7 hoa hz7 SN hbl hbm
              simp only [Option.isSome_some]
              go_wp2_with (at_builtin; refine wpList_append_own_at _ rfl _ _ 23 rfl (w.heap.size + 1) 22 i1 (.slice none 0 0) 1 24 Try.underlying23 hi1 hy0 hy1 hy2 rfl (by decide) _ _ _ rfl ((show World.ownsRow w7 _ _ _ _ _ _ from HROW.out).alloc _) ⟨w7.heap.size, 0, none⟩ 1 1 [.slice az zs.length cz] rfl rfl (cell_one_new _ _ _) (by simp [Value.oneCell']) (by unfold maxLen; omega) (by omega) (by simp; omega) ?_; intro v' wg hown' hgrow _ hat; have hsn := HSN.out.fin _ _ _ hown' hgrow hat; have HSG := hid hgrow; have HSN3 := hid hsn; clear hown' hat hsn hgrow)
              have hgs := HSG.out.size
              have hblk : ∀ g, g < w7.heap.size → u6.ownBlock ≠ some g → wg.heap[g]? = w7.heap[g]? := fun g h1 h2 => (HSG.out.block g (by simp; omega) (fun e => h2 e.symm)).trans (Below.heap_alloc _ _ _ h1)
              have HBK := hid hblk
              have hgs2 : w7.heap.size ≤ wg.heap.size := by simp at hgs; omega
              have HGS := hid hgs2
              clear hgs hblk hgs2
              go_roundw
              case measure => simp only [intOf]; have := HKL.out; omega
              case rel =>
                have hbl : w.heap.size < wi.heap.size := (Array.getElem?_eq_some_iff.1 HX2.out).1
                have h7 := HS7.out
                have hgs2 := HGS.out
                refine ⟨k + 1, u7, R7, d7, L' ++ [zs], by go_num, HKL.out, hid HPUT.out, hid (HPOK.out R7 d7 rfl), HSN3, hid (HO7.out.rdS.to hgs2 fun g h1 h2 => ⟨by have h9 := h2.1; omega, HBK.out g h1 fun e => by have h8 := (HOA2.out.lt g e).2.1; have h9 := h2.1; omega⟩), hid ((HBK.out _ (by omega) fun e => by have := (HLS.out _ e).1; omega).trans HM7.out), hid (by rw [List.length_append]; show L'.length + 1 ≤ _; omega), hid (fun g h1 h2 => ?_), hid (by have := HSZ.out; omega), hid ?_⟩
                · rw [HBK.out g (by have := HSZ.out; omega) (fun e => (HLS.out g e).2.2 ⟨h1, h2, fun j hj => by omega⟩), HKP7.out g (by have := HSZ.out; omega) (by have := HS5.out; have := HBL.out; omega), HKP.out g h1 h2]
                · exact (HBW7.out.alloc HBW7.out.size _).grown HSG.out (by simp; omega) (fun g e => by have := (HLS.out g e).1; omega)
          · obtain rfl : k = LS.length := by omega
            have HNX := hid (split_go HN.out (HSC.out.trans (by rw [List.take_length] at HP; exact HP.out)))
            have HOM := hid HOA2.out.ownM
            clear hkl
            go_wp2_with fail
            go_roundw
            case measure => simp only [intOf]; have := HLT.out; omega
            case rel => exact ⟨i + 1, u', R', d', L', by go_num, HLT.out, HNX, HOK2, HOM, HR2, HX2, hid (by have := HL2.out; omega), HBW2⟩
      · obtain rfl : i = xs.length := by omega
        have HE : Hid (splitV xs A a = some L) := hid (by unfold splitV; rw [HVT.out, if_pos rfl, HN.out]; rfl)
        obtain ⟨al, cl, rfl⟩ := HO.out.rd.form
        clear hlt
        go_wp2_with fail
        refine bodyPost_ret (v := .tuple #[.slice al L.length cl, .bool true]) (by simp [results, Try.results43, go_sem]) rfl ?_
        rw [HE.out]
        exact ⟨_, rfl, HO.out.down (Nat.le_succ _), HBW.out⟩

end Go.Proofs.Ytjabklpnohfjpab

/-! RowWord -/
namespace Go.Proofs.Ytjabklpnohfjpab
open Go.RowKit
/-- it is nil; or it leads to a row of 'cap' cells, the numbers 'zs' (the first 'len' are its elements), each fitting its kind -/
def IsRow (k : IntKind) (w : World) (a : Option Addr) (len cap : Nat) (zs : List Int) : Prop :=
  (a = none ∧ len = 0 ∧ cap = 0 ∧ zs = []) ∨
  ∃ x, a = some x ∧ len ≤ cap ∧ cap ≤ maxLen ∧ zs.length = cap ∧ (∀ i, i < zs.length → w.cell? (x.add i) = some (.int k (zs.getD i 0))) ∧ ∀ n ∈ zs, (Lit.int k n).wf = true
end Go.Proofs.Ytjabklpnohfjpab
