/-
  Contracts of the program's chapter 7: where a move takes a vector.
-/
import Derived.Test.YtacjejnbomdhbabMpQ
set_option linter.unusedVariables false
namespace Go.Proofs.Ytacjejnbomdhbab
open Go.RowKit

theorem fr_int (x : Int) : Fr x 1 x 1 := ⟨by omega, Nat.gcd_one_right _, rfl⟩
theorem onPost_none {w W : World} (hb : Below w.heap.size w W) : OnPost none w (.returned (.tuple #[.slice (some ⟨W.heap.size, 0, none⟩) 0 0, .int .i64 0, .bool false])) (W.alloc (.cells #[] 3)) :=
  ⟨_, rfl, World.ownsRow_made (size := 1) W #[] 0 hb.size (by unfold maxLen; omega) rfl, hb.alloc hb.size _⟩
theorem row9_at {W W' : World} {B : Nat} {v : Value} {l : List (Int × Int)} (h : OwnF W B v l) (hb : ∀ g, v.ownBlock = some g → W'.heap[g]? = W.heap[g]?) : OwnF W' B v l := by
  obtain ⟨h1, h2⟩ := h
  refine ⟨h1, ?_⟩
  rcases h2 with h2 | ⟨g, cap, cur, hv, hB, hh, r⟩
  · exact .inl h2
  · exact .inr ⟨g, cap, cur, hv, hB, (hb g (by rw [hv]; rfl)).trans hh, r⟩
theorem frs_take {l : List (Int × Int)} {Ns : List Int} {D : Int} {K : Nat} (h : Frs l (Ns.take K) D) (hK : K ≤ Ns.length) : l.length = K := by
  have := h.1
  rw [List.length_take] at this
  omega
set_option maxRecDepth 100000 in
set_option maxHeartbeats 8000000 in
theorem moveOn_any (vf va vv : Value) (xs vs : List Int) (A : List (List Int)) (a : Int) (w : World) (hx : Rd w vf xs) (hA : RdM w va A) (hv : Rd w vv vs) : Calls Try.prog 32 #[vf, .agg #[va, .int .i64 a], vv] w (OnPost (onV xs A a vs) w) := by
  obtain ⟨ax, cx, rfl, _⟩ := hx.form
  obtain ⟨aa, ca, rfl⟩ := hA.form
  have hbl : Below w.heap.size w (w.alloc (.cells #[.slice aa A.length ca, .int .i64 a] 29)) := below_box2 _ _
  have HX := hid (hx.keep hbl)
  have HA := hid (hA.keep hbl)
  have HVV := hid (hv.keep hbl)
  obtain ⟨av, cv, rfl, _⟩ := hv.form
  have HB := hid hbl
  have H1 : Hid (MvAt (w.alloc (.cells #[.slice aa A.length ca, .int .i64 a] 29)) w.heap.size (.slice aa A.length ca) a) := hid (heap_new rfl)
  have HV := hid (valid9_any w.heap.size _ _ xs A a _ H1.out HA.out HX.out)
  clear hx hA hv hbl
  cases hva : moveB xs A a with
  | false =>
    rw [hva] at HV
    have HE : Hid (onV xs A a vs = none) := hid (by unfold onV; rw [hva]; rfl)
    clear hva
    go_enter Try.func32, Try.ntmps32
    go_wp2_with fail
    refine HV.out.mono ?_
    rintro e w2 ⟨rfl, hb2⟩
    have HB2 := hid (HB.out.trans (hb2.mono HB.out.size))
    clear hb2
    go_wp2_with fail
    refine bodyPost_ret (v := .tuple #[.slice (some ⟨w2.heap.size, 0, none⟩) 0 0, .int .i64 0, .bool false]) (by simp [results, Try.results32, go_sem]) rfl ?_
    rw [HE.out]
    exact onPost_none HB2.out
  | true =>
    have oA := moveB_iff.1 hva
    have hvi := vec_is (vs := vs) (m := 1000) oA.form
    rw [hva] at HV
    cases hvc : vecB xs vs 1000 with
    | false =>
      have HE : Hid (onV xs A a vs = none) := hid (by unfold onV; rw [hva, hvc]; rfl)
      rw [hvc] at hvi
      have HVC := hid hvi.symm
      clear hva hvc hvi oA
      go_enter Try.func32, Try.ntmps32
      go_wp2_with fail
      refine HV.out.mono ?_
      rintro e w2 ⟨rfl, hb2⟩
      have HB2 := hid (HB.out.trans (hb2.mono HB.out.size))
      have HV2 := hid (HVV.out.keep hb2)
      clear hb2
      go_wp2_with (go_at_call 57; refine (vectorWithin_any _ vs _ _ (by omega) (by omega) _ HV2.out).mono ?_; rw [HVC.out]; rintro e w' ⟨rfl, rfl⟩)
      refine bodyPost_ret (v := .tuple #[.slice (some ⟨w2.heap.size, 0, none⟩) 0 0, .int .i64 0, .bool false]) (by simp [results, Try.results32, go_sem]) rfl ?_
      rw [HE.out]
      exact onPost_none HB2.out
    | true =>
      have hvb := vecB_iff.1 hvc
      have hl := hvb.2.2
      have hvbd : ∀ k, -1000 ≤ fF vs k ∧ fF vs k ≤ 1000 := fun k => fF_bd (m := 1000) (by omega) (fun v h => hvb.1 v h) k
      rw [hvc] at hvi
      have HVC := hid hvi.symm
      obtain ⟨row, hrow⟩ : ∃ row, row = rowL xs.length (apF (at2 A) xs.length (fF vs)) := ⟨_, rfl⟩
      have HE : Hid (onV xs A a vs = some (row.map (fun x => x.tdiv (gM [row] a)), lowD [row] a)) := hid (by unfold onV; rw [hva, hvc, hrow]; rfl)
      have hrl : row.length = xs.length := by rw [hrow, row_len]
      have hrbd : ∀ k, B14 (row.getD k 0) := fun k => by
        have hz : B14 0 := by unfold B14; omega
        rcases Nat.lt_or_ge k row.length with hk | hk
        · have e : row.getD k 0 = apF (at2 A) xs.length (fF vs) k := by rw [hrow]; exact row_at (by omega)
          rw [e]
          have := sum_bd (f := fun r => at2 A k r * fF vs r) (m := 1000000000) (by omega) xs.length (fun r _ => mul_bd9 (oA.at_bd k r) (hvbd r))
          have h3 : (xs.length : Int) ≤ 3 := by have := oA.l3; omega
          have e2 : apF (at2 A) xs.length (fF vs) k = sumF (fun r => at2 A k r * fF vs r) xs.length := rfl
          rw [e2]
          unfold B14
          omega
        · rw [List.getD_eq_getElem?_getD, List.getElem?_eq_none hk]; exact hz
      have HROW : Hid (∀ k, k < xs.length → row.take (k + 1) = row.take k ++ [sumF (fun r => at2 A k r * vs.getD r 0) xs.length]) := hid (fun k hk => by rw [hrow]; exact rowL_take _ _ hk)
      have HON := hid (fun (k : Nat) (hk : k < xs.length) (vl : Value) (l : List (Int × Int)) (w' : World) (h : MvAt w' w.heap.size (.slice aa A.length ca) a) (h2 : RdM w' (.slice aa A.length ca) A) (h3 : RdF w' vl l) (h4 : Frs l vs 1) => on_any w.heap.size _ vl A l vs a 1 xs.length k w' h h2 oA.sq hk oA.l3 (fun j _ => oA.at_bd k j) oA.den.1 oA.den.2 h3 (by rw [h4.1, hl]) h4 (by omega) (by omega) (fun j _ => by
        have := hvbd j
        have e : vs.getD j 0 = fF vs j := rfl
        rw [e]; omega))
      have HTG := hid (fun (v : Value) (l : List (Int × Int)) (w' : World) (h : RdF w' v l) (h2 : Frs l row a) => together_any v l row a w' h (by rw [h2.1, hrl]; have := oA.l3; omega) h2 oA.d0 (by have := oA.den; unfold B14; omega) (fun k _ => hrbd k))
      have HLW : Hid (∀ l, Frs l row a → lcmL l = lowD [row] a ∧ numsL l (lcmL l) = row.map (fun x => x.tdiv (gM [row] a))) := hid (fun l h => by
        obtain ⟨e1, e2⟩ := together_low (R := [row]) (D := a) (l := l) (by rw [one_flat]; exact h) oA.d0
        exact ⟨e1, e2.trans (by unfold lowR mapM; rw [List.map_cons, List.map_nil, one_flat])⟩)
      obtain ⟨OUT, hOUT⟩ : ∃ OUT, OUT = row.map (fun x => x.tdiv (gM [row] a)) := ⟨_, rfl⟩
      obtain ⟨LD, hLD⟩ : ∃ LD, LD = lowD [row] a := ⟨_, rfl⟩
      rw [← hOUT, ← hLD] at HE HLW
      obtain ⟨iF, hF, hz0, hz1, hz2⟩ := info_parts infoFr
      have hn3 := oA.l3
      have hn1 := (fvB_iff.1 oA.form).2.1
      have HL := hid hl
      have HRLN := hid hrl
      have hvl3 : vs.length ≤ 3 := by omega
      clear hva hvc hvi oA hvb hvbd hrow hrbd hl hrl hOUT hLD
      go_enter Try.func32, Try.ntmps32
      go_wp2_with fail
      refine HV.out.mono ?_
      rintro e w2 ⟨rfl, hb2⟩
      have HB2 := hid (HB.out.trans (hb2.mono HB.out.size))
      have HV2 := hid (HVV.out.keep hb2)
      have HM2 := hid (H1.out.keep hb2)
      have HA2 := hid (HA.out.keep hb2)
      have HX2 := hid hb2
      clear hb2
      have HO0 : Hid (OwnF ((w2.alloc (.cells #[] 65)).alloc (.cells #[] 65)) w2.heap.size (.slice (some ⟨w2.heap.size, 0, none⟩) 0 0) []) := hid ((World.ownsRow_made (base := w2.heap.size) (size := 2) (e := 65) w2 #[] 0 (Nat.le_refl _) (by unfold maxLen; omega) rfl).alloc _)
      have HT0 : Hid (((w2.alloc (.cells #[] 65)).alloc (.cells #[] 65)).heap[w2.heap.size + 1]? = some (.cells #[] 65 (0, 0))) := hid (heap_new (by simp))
      have HK0 : Hid (Below w2.heap.size w2 ((w2.alloc (.cells #[] 65)).alloc (.cells #[] 65))) := hid ((below_box2 _ _).alloc (by simp) _)
      go_wp2_with (go_at_call 57; refine (vectorWithin_any _ vs _ _ (by omega) (by omega) _ HV2.out).mono ?_; rw [HVC.out]; rintro e w' ⟨rfl, rfl⟩)
      go_loopw [9, 31] (fun so si wr => ∃ (K : Nat) (l : List (Int × Int)), si = .int .i64 (K : Int) ∧ K ≤ vs.length ∧ Hid (Frs l (vs.take K) 1) ∧ Hid (OwnF wr w2.heap.size so l) ∧ Hid (∀ k, so.ownBlock = some k → k ≠ w2.heap.size + 1) ∧ Hid (Below w2.heap.size w2 wr) ∧ Hid (wr.heap[w2.heap.size + 1]? = some (.cells #[] 65 (0, 0)))) (fun _ si _ => vs.length - (intOf si).toNat)
      case atStart => exact ⟨0, [], rfl, by omega, hid ⟨rfl, fun i hi => absurd hi (by simp)⟩, HO0, hid (fun k e => by have h9 : w2.heap.size = k := (by simpa [Value.ownBlock] using e); omega), HK0, HT0⟩
      case round =>
        obtain ⟨K, l, rfl, hK, HFS, HO, HNE, HBK, HT⟩ := hrel
        rename World => wr
        have hll := frs_take HFS.out hK
        by_cases hlt : K < vs.length
        · obtain ⟨bv, ov, c, e, hc⟩ := rd_cells (HV2.out.keep HBK.out) (by omega)
          cases e
          have c2 := hc K hlt
          have HTK := hid (takeD_snoc hlt)
          obtain ⟨x, hxe⟩ : ∃ x, x = vs.getD K 0 := ⟨_, rfl⟩
          rw [← hxe] at c2 HTK
          have hKi : (K : Int) < (vs.length : Int) := by omega
          have HLT := hid hlt
          have hbs := HBK.out.size
          have hl4 : l.length ≤ 4 := by omega
          have hrl := (Array.getElem?_eq_some_iff.1 HT.out).1
          clear hc hxe hlt hll
          go_wp2_with (at_builtin; refine wpList_append_own_at _ rfl _ _ 72 rfl w2.heap.size 65 iF (.agg #[.int .i64 0, .int .i64 0]) 2 16 Try.underlying72 hF hz0 hz1 hz2 rfl (by decide) _ _ _ rfl ((show World.ownsRow _ _ _ _ _ _ _ from HO.out).alloc _) ⟨wr.heap.size, 0, none⟩ 1 1 [.int .i64 x, .int .i64 1] rfl rfl (cell_two_new _ _ _ _) (by simp [Value.oneCell']) (by unfold maxLen; omega) (by omega) (by simp; omega) ?_; intro v' w3 hown' hgrow _ hat; have HG := hid hgrow; have HW := hid hown'; have HAT := hid hat; clear hown' hgrow hat)
          have hsg := HG.out.size
          simp only [World.size_alloc] at hsg
          have hr3 := (HG.out.block (w2.heap.size + 1) (by simp; omega) (fun e => HNE.out _ e.symm rfl)).trans (heap_up HT.out)
          have HT3 := hid hr3
          clear hr3
          go_roundw
          case measure => simp only [intOf]; have := HLT.out; omega
          case rel =>
            refine ⟨K + 1, l ++ [(x, 1)], by go_num, HLT.out, hid (by rw [HTK.out]; exact frs_snoc HFS.out (fr_int x)), hid ?_, hid (fun k e => ?_), hid ((HBK.out.alloc hbs _).grown HG.out (by simp; omega) (fun k e => (HO.out.lt2 k e).1)), HT3⟩
            · unfold OwnF
              rw [List.length_append, encF_snoc]
              exact HW.out
            · rcases HAT.out with h | h
              · exact HNE.out k (h.symm.trans e)
              · have := h.symm.trans e
                simp only [World.size_alloc, Option.some.injEq] at this
                omega
        · obtain rfl : K = vs.length := by omega
          have hfs := HFS.out
          rw [List.take_length] at hfs
          have hv := HO.out.rd2 (by have := HL.out; omega)
          obtain ⟨gl, cl, rfl, hlm, _, _⟩ := hv
          have HF1 := hid hfs
          have HOF := HO
          have hglt := (HO.out.lt2 gl rfl).2
          have hgne := HNE.out gl rfl
          have HG1 := hid hgne
          have HTO : Hid (OwnF wr (w2.heap.size + 1) (.slice (some ⟨w2.heap.size + 1, 0, none⟩) 0 0) []) := hid ⟨rfl, .inr ⟨_, _, #[], rfl, Nat.le_refl _, HT.out, by simp, by unfold maxLen; omega, rfl, rfl⟩⟩
          have HBR : Hid (Below w2.heap.size w2 wr) := HBK
          have HL1 := hid hll
          have HTS := hid (Array.getElem?_eq_some_iff.1 HT.out).1
          obtain ⟨og, hog⟩ : ∃ og, wr.heap[gl]? = some og := ⟨_, Array.getElem?_eq_getElem hglt⟩
          have HOG := hid hog
          clear hfs hlt hlm hglt hgne hog hll HFS HNE HT HBK
          go_wp2_with fail
          go_loopw [10, 43] (fun so si wq => ∃ (K : Nat) (l2 : List (Int × Int)), si = .int .i64 (K : Int) ∧ K ≤ xs.length ∧ Hid (Frs l2 (row.take K) a) ∧ Hid (OwnF wq (w2.heap.size + 1) so l2) ∧ Hid (∀ k, so.ownBlock = some k → k ≠ gl) ∧ Hid (Below w2.heap.size w2 wq) ∧ Hid (wq.heap[gl]? = some og) ∧ w2.heap.size + 1 ≤ wq.heap.size) (fun _ si _ => xs.length - (intOf si).toNat)
          case atStart => exact ⟨0, [], rfl, by omega, hid ⟨rfl, fun i hi => absurd hi (by simp)⟩, HTO, hid (fun k e => by have h9 : w2.heap.size + 1 = k := (by simpa [Value.ownBlock] using e); have := HG1.out; omega), HBR, HOG, by have := HTS.out; omega⟩
          case round =>
            obtain ⟨K, l2, rfl, hK, HFS, HO2, HNE, HBK, HGQ, hwq⟩ := hrel
            rename World => wq
            have hll2 := frs_take HFS.out (by rw [HRLN.out]; exact hK)
            have hrdf : RdF wq (.slice (some ⟨gl, 0, none⟩) l.length cl) l := (row9_at HOF.out (fun g e => by
              have : gl = g := by simpa [Value.ownBlock] using e
              subst this
              exact HGQ.out.trans HOG.out.symm)).rd2 (by have := HL1.out; have := HL.out; omega)
            by_cases hlt : K < xs.length
            · have HC := hid (HON.out K hlt _ l wq (HM2.out.keep HBK.out) (HA2.out.keep HBK.out) hrdf HF1.out)
              have HTK := hid (HROW.out K hlt)
              have hKi : (K : Int) < (xs.length : Int) := by omega
              have HLT := hid hlt
              have hl4 : l2.length ≤ 4 := by omega
              clear hrdf hlt hll2
              go_wp2_with fail
              refine HC.out.mono ?_
              rintro e w5 ⟨p, q, rfl, hfr, hb5⟩
              rw [Int.mul_one] at hfr
              have HFX := hid hfr
              have HO5 := hid (row2_keep HO2.out hb5)
              have HB5 := hid (HBK.out.trans (hb5.mono HBK.out.size))
              have HG5 := hid (heap_below hb5 HGQ.out)
              have hbs := HB5.out.size
              have hrl := (Array.getElem?_eq_some_iff.1 HG5.out).1
              have hbs2 : w2.heap.size + 1 ≤ w5.heap.size := Nat.le_trans hwq hb5.size
              clear hfr hb5
              go_wp2_with (at_builtin; refine wpList_append_own_at _ rfl _ _ 72 rfl (w2.heap.size + 1) 65 iF (.agg #[.int .i64 0, .int .i64 0]) 2 16 Try.underlying72 hF hz0 hz1 hz2 rfl (by decide) _ _ _ rfl ((show World.ownsRow _ _ _ _ _ _ _ from HO5.out).alloc _) ⟨w5.heap.size, 0, none⟩ 1 1 [.int .i64 p, .int .i64 q] rfl rfl (cell_two_new _ _ _ _) (by simp [Value.oneCell']) (by unfold maxLen; omega) (by omega) (by simp; omega) ?_; intro v' w3 hown' hgrow _ hat; have HG := hid hgrow; have HW := hid hown'; have HAT := hid hat; clear hown' hgrow hat)
              have hsg := HG.out.size
              simp only [World.size_alloc] at hsg
              have hr3 := (HG.out.block gl (by simp; omega) (fun e => HNE.out _ e.symm rfl)).trans (heap_up HG5.out)
              have HG3 := hid hr3
              clear hr3
              go_roundw
              case measure => simp only [intOf]; have := HLT.out; omega
              case rel =>
                refine ⟨K + 1, l2 ++ [(p, q)], by go_num, HLT.out, hid (by rw [HTK.out]; exact frs_snoc HFS.out HFX.out), hid ?_, hid (fun k e => ?_), hid ((HB5.out.alloc hbs _).grown HG.out (by simp; omega) (fun k e => by have := (HO5.out.lt2 k e).1; omega)), HG3, by omega⟩
                · unfold OwnF
                  rw [List.length_append, encF_snoc]
                  exact HW.out
                · rcases HAT.out with h | h
                  · exact HNE.out k (h.symm.trans e)
                  · have := h.symm.trans e
                    simp only [World.size_alloc, Option.some.injEq] at this
                    omega
            · obtain rfl : K = xs.length := by omega
              have hfs := HFS.out
              rw [List.take_of_length_le (by rw [HRLN.out]; exact Nat.le_refl _)] at hfs
              have hv := HO2.out.rd2 (by omega)
              have HC := hid (HTG.out _ l2 wq hv hfs)
              obtain ⟨e1, e2⟩ := HLW.out l2 hfs
              rw [e2, e1] at HC
              obtain ⟨g2, c2, rfl, _⟩ := hv
              clear hfs hll2 hrdf e1 e2 hlt
              go_wp2_with fail
              refine HC.out.mono ?_
              rintro e w6 ⟨u, rfl, ho, hb6⟩
              have HO6 := hid (ho.down HBK.out.size)
              have HB6 := hid (HB2.out.trans ((HBK.out.trans (hb6.mono HBK.out.size)).mono HB2.out.size))
              obtain ⟨au, cu, rfl⟩ := ho.reads
              clear ho hb6
              go_wp2_with fail
              refine bodyPost_ret (v := .tuple #[.slice au OUT.length cu, .int .i64 LD, .bool true]) (by simp [results, Try.results32, go_sem]) rfl ?_
              rw [HE.out]
              exact ⟨_, rfl, HO6.out.down HB2.out.size, HB6.out⟩

end Go.Proofs.Ytacjejnbomdhbab
