/-
  What the drawing functions of chapter 5 hand out: forms that often have a zero.
-/
import Derived.Test.YtbhlgdleklfonaaDraws14
import Derived.Test.YtbhlgdleklfonaaOwn2
import Derived.Deep.LoopGhost
import Derived.Deep.RegionHeld3
set_option linter.unusedVariables false
namespace Go.Proofs.Ytbhlgdleklfonaa
open Go.RowKit

def Form5 (m : Nat) (w : World) (B R : Nat) (v : Value) (n p : Nat) (e : Ending) (w' : World) : Prop :=
  ∃ (u : Value) (xs : List Int) (q : Nat), e = .returned u ∧ Hid (TermsOk xs ∧ xs.length ≤ m) ∧ Hid (Owns w' w.heap.size u xs) ∧ q ≤ p + 300000000 ∧ Hid (Rdr w' B R v n q) ∧ Hid (Only R w w')
theorem Form5.mk {m : Nat} {w : World} {B R : Nat} {v : Value} {n p q : Nat} {u : Value} {xs : List Int} {w' : World} (h : TermsOk xs) (hm : xs.length ≤ m) (ho : Hid (Owns w' w.heap.size u xs)) (hq : q ≤ p + 300000000) (hr : Hid (Rdr w' B R v n q)) (hn : Hid (Only R w w')) : Form5 m w B R v n p (.returned u) w' :=
  ⟨u, xs, q, rfl, hid ⟨h, hm⟩, ho, hq, hr, hn⟩
theorem TermsOk.app {xs ys : List Int} (h : TermsOk xs) (k : TermsOk ys) (hl : xs.length + ys.length ≤ 6) : TermsOk (xs ++ ys) :=
  ⟨by rw [List.length_append]; exact hl, fun y hy => (List.mem_append.1 hy).elim (h.2 y) (k.2 y)⟩
theorem TermsOk.setAt {xs : List Int} {x : Int} (i : Nat) (h : TermsOk xs) (h1 : -31 ≤ x) (h2 : x ≤ 31) : TermsOk (xs.set i x) :=
  ⟨by rw [List.length_set]; exact h.1, fun y hy => by
    rcases List.mem_or_eq_of_mem_set hy with h3 | h3
    · exact h.2 y h3
    · omega⟩
/-- how many rounds are left: the form's terms, and the draws that hand out nothing -/
def FormLeft (f : Nat → Nat) (n p m g0 g L r : Nat) : Prop := ∃ i, g = (m - L) * 9000000 + i ∧ i ≤ 8500000 ∧ pickV f n (r + 4 * i + 3) 40 ≠ 1 ∧ r + 5 * g ≤ p + 5 * g0
theorem FormLeft.none {f : Nat → Nat} {n p m g0 g L r : Nat} (h : FormLeft f n p m g0 g L r) (he : pickV f n (r + 3) 40 = 1) : ∃ g', g' < g ∧ FormLeft f n p m g0 g' L (r + 4) := by
  obtain ⟨i, h1, h2, h3, h4⟩ := h
  have hi : i ≠ 0 := by
    rintro rfl
    exact h3 (by rw [Nat.mul_zero, Nat.add_zero]; exact he)
  refine ⟨g - 1, by omega, i - 1, by omega, by omega, ?_, by omega⟩
  rw [show r + 4 + 4 * (i - 1) + 3 = r + 4 * i + 3 by omega]
  exact h3
theorem FormLeft.more {f : Nat → Nat} {n p m g0 g L r q : Nat} (h : FormLeft f n p m g0 g L r) (hn : n ≤ 2000) (hL : L < m) (hq : q ≤ r + 5) : ∃ g', g' < g ∧ FormLeft f n p m g0 g' (L + 1) q := by
  obtain ⟨i, h1, h2, h3, h4⟩ := h
  obtain ⟨j, hj, hne⟩ := pick_run f hn q
  have e : (m - L) * 9000000 = (m - (L + 1)) * 9000000 + 9000000 := by
    rw [show m - L = (m - (L + 1)) + 1 by omega, Nat.succ_mul]
  exact ⟨(m - (L + 1)) * 9000000 + j, by omega, j, rfl, hj, hne, by omega⟩
def FormRel (f : Nat → Nat) (n p m g0 : Nat) (w : World) (B R : Nat) (v : Value) (g : Nat) (so : Value) (wr : World) : Prop :=
  ∃ (xs : List Int) (r : Nat), Hid (FormLeft f n p m g0 g xs.length r) ∧ xs.length ≤ m ∧ Hid (TermsOk xs) ∧ Hid (Owns wr w.heap.size so xs) ∧ r ≤ p + 5 * g0 ∧ Hid (RdX f wr B R v n r) ∧ Hid (Only R w wr)
theorem wrap_9 {x : Int} (h1 : -1000000000 ≤ x) (h2 : x ≤ 1000000000) : IntKind.i64.wrap x = x := by rw [IntKind.wrap_i64]; omega
theorem mul12 {a k : Int} (h1 : -30 ≤ a) (h2 : a ≤ 30) (h3 : 0 ≤ k) (h4 : k < 2) : -60 ≤ a * (1 + k) ∧ a * (1 + k) ≤ 60 := by
  have : k = 0 ∨ k = 1 := by omega
  rcases this with rfl | rfl <;> omega
theorem three_of {xs : List Int} (h : xs.length = 3) : ∃ a b c, xs = [a, b, c] := by
  match xs, h with
  | [a, b, c], _ => exact ⟨a, b, c, rfl⟩

set_option maxRecDepth 100000 in
set_option maxHeartbeats 4000000 in
theorem form5_any (B R : Nat) (v : Value) (n p m : Nat) (hp : p ≤ 1000000000) (hm1 : 1 ≤ m) (hm2 : m ≤ 4) (w : World) (HR : Hid (Rdr w B R v n p)) (hB : B ≤ w.heap.size) :
    Calls Try.prog 69 #[.pointer (some ⟨R, 0, none⟩), .int .i64 (m : Int)] w (Form5 m w B R v n p) := by
  obtain ⟨f, hrx⟩ := rdX_of HR.out
  have HX := hid hrx
  have hn := hrx.len
  have hRs := HR.out.lt
  have hBR := HR.out.1
  clear hrx
  go_enter Try.func69, Try.ntmps69
  go_wp2_with fail
  refine (formOne_any f _ _ _ _ p (by omega) _ HX hB).mono ?_
  rintro e wA ⟨u, xs, q, rfl, HT, HQ, HO, HA, HN⟩
  have hsA := HN.out.size
  obtain ⟨i, hi, hne⟩ := pick_run f hn q
  have hxl : xs.length ≤ 1 := by rcases HQ.out with h | h <;> omega
  have hq5 : q ≤ p + 5 := by rcases HQ.out with h | h <;> omega
  obtain ⟨g0, hg0⟩ : ∃ g0, g0 = (m - xs.length) * 9000000 + i := ⟨_, rfl⟩
  have hg4 : g0 ≤ 44500000 := by
    have : (m - xs.length) * 9000000 ≤ 4 * 9000000 := Nat.mul_le_mul_right _ (by omega)
    omega
  have HL : Hid (FormLeft f n q m g0 g0 xs.length q) := hid ⟨i, hg0, hi, hne, by omega⟩
  clear hi hne hg0 HQ HX HR
  go_wp2_with fail
  go_loopg [5] g0 (FormRel f n q m g0 w B R v)
  case atStart => exact ⟨xs, q, HL, by omega, HT, HO, by omega, HA, HN⟩
  case round =>
    obtain ⟨ys, r, HLr, hyl, HTr, HOr, hr, HRr, HNr⟩ := hrel
    rename World => wr
    have hsr := HNr.out.size
    obtain ⟨ao, co, rfl⟩ := HOr.out.reads
    have hr9 : r ≤ 2000000000 := by omega
    by_cases h0 : ys.length = 0
    · have T0 : ¬ (0 : Int) < (ys.length : Int) := by omega
      have TM : (ys.length : Int) < (m : Int) := by omega
      have T3 : ((ys.length : Int) == 3) = false := by rw [beq_eq_false_iff_ne]; omega
      clear h0
      go_wp2_with fail
      go_ret
      exact Form5.mk HTr.out hyl HOr (by omega) (hid HRr.out.1) HNr
    · have T0 : (0 : Int) < (ys.length : Int) := by omega
      by_cases hlt : ys.length < m
      · have TM : (ys.length : Int) < (m : Int) := by omega
        have HF := hid HOr.out.firm
        clear h0 hlt
        go_wp2_with (first | (have m5 := hc5; at_builtin; refine append_rd rfl _ _ rfl w.heap.size _ ys rfl HO2.out _ zs rfl HOz.out.rd HOz.out.firm (by omega) (by omega) ?_; intro v2 w2 o2 g2; have HO3 := hid o2; have HG3 := hid g2; clear o2 g2) | (go_at_call 68; refine (formOne_any f _ _ _ _ r (by omega) _ HRr (by omega)).mono ?_; rintro e wB ⟨u2, zs, q2, rfl, HTz, HQz, HOz, HRz, HNz⟩; have hc5 : True := trivial; have hsB := HNz.out.size; have HO2 := hid (HOr.out.only HNz.out (by omega)); have hzl : zs.length ≤ 1 := by (rcases HQz.out with h | h <;> omega)))
        have hown : ∀ k, (Value.slice ao ys.length co).ownBlock = some k → w.heap.size ≤ k := fun k e => HO2.out.ge k e
        have HR3 := hid (HRz.out.kept ((Below.refl w.heap.size _).grown HG3.out (by omega) hown) (by omega) (by omega))
        have HN3 := hid ((HNr.out.trans HNz.out).grown HG3.out hown)
        have hst : ∃ g', g' < gk ∧ FormLeft f n q m g0 g' (ys ++ zs).length q2 ∧ (ys ++ zs).length ≤ m := by
          rw [List.length_append]
          rcases HQz.out with ⟨h1, h2⟩ | ⟨h1, h2, h3⟩
          · obtain ⟨g', hg', hl⟩ := HLr.out.more hn (by omega) h2
            exact ⟨g', hg', by rw [h1]; exact hl, by omega⟩
          · obtain ⟨g', hg', hl⟩ := HLr.out.none h3
            exact ⟨g', hg', by rw [h1, h2]; exact hl, by omega⟩
        obtain ⟨g', hg', hl', hlm⟩ := hst
        have hl2 := hl'
        obtain ⟨_, _, _, _, hq2⟩ := hl2
        go_roundg g'
        case measure => exact hg'
        case rel => exact ⟨ys ++ zs, q2, hid hl', hlm, hid (HTr.out.app HTz.out (by omega)), HO3, by omega, HR3, HN3⟩
      · have TM : ¬ (ys.length : Int) < (m : Int) := by omega
        clear h0 hlt
        by_cases h3 : ys.length = 3
        · have T3 : ((ys.length : Int) == 3) = true := by rw [beq_iff_eq]; omega
          obtain ⟨a, b, c, rfl⟩ := three_of h3
          clear h3
          have hnl : ([a, b, c] : List Int).length = 3 := rfl
          obtain ⟨g, cap2, hv2⟩ := HOr.out.slice_of (by simp)
          simp only [Value.slice.injEq, true_and] at hv2
          obtain ⟨rfl, rfl⟩ := hv2
          go_wp2_with fail
          refine (pick_any _ _ _ _ r 2 (by omega) (by omega) (by omega) _ (HRr.out.1)).mono ?_
          rintro e wHC ⟨k, s, rfl, hk0, hk1, _, hs, HC, HP⟩
          replace hk1 := hk1 (by omega)
          have HN2 := hid (HNr.out.trans HP.out)
          have HO2 := hid (HOr.out.only HP.out (by omega))
          have hs2 := HN2.out.size
          clear HOr HNr HP
          by_cases hk : k = 0
          · subst hk
            cases hf : fvB [a, b, c] with
            | false =>
              have HF := hid hf
              clear hf
              go_wp2_with (go_at_call 73; refine (formValidS_any _ [a, b, c] _ HO2.out.rd).mono ?_; rw [HF.out]; rintro e w' ⟨rfl, rfl⟩)
              go_ret
              exact Form5.mk HTr.out hyl HO2 (by omega) HC HN2
            | true =>
              have HF := hid hf
              obtain ⟨ha0, ha1, ha2⟩ := (fvB_iff.1 hf).1 a (by simp)
              obtain ⟨hb0, hb1, hb2⟩ := (fvB_iff.1 hf).1 b (by simp)
              have c0 : wHC.cell? ⟨g, 0, none⟩ = some (.int .i64 a) := HO2.out.elem (i := 0) (by simp)
              have c1 : wHC.cell? ⟨g, 1, none⟩ = some (.int .i64 b) := HO2.out.elem (i := 1) (by simp)
              clear hf
              go_wp2_with (go_at_call 73; refine (formValidS_any _ [a, b, c] _ HO2.out.rd).mono ?_; rw [HF.out]; rintro e w' ⟨rfl, rfl⟩)
              go_region_held3 (fun wx => wx.cell? ⟨g, 0, none⟩ = some (.int .i64 a) ∧ wx.cell? ⟨g, 1, none⟩ = some (.int .i64 b)) (first | exact ⟨d0, d1⟩ | exact ⟨c0, c1⟩)
                (first | (go_at_call 67; refine (pick_any _ _ _ _ s 2 (by omega) (by omega) (by omega) _ HC.out.drew').mono ?_; rintro e wD ⟨k2, s2, rfl, hk20, hk21, _, hs2, HD, HQ⟩; replace hk21 := hk21 (by omega); have HQ2 := hid HQ.out.of_drew'; have HO3 := hid (HO2.out.only HQ2.out (by omega)); have d0 : wD.cell? ⟨g, 0, none⟩ = some (.int .i64 a) := HO3.out.elem (i := 0) (by simp); have d1 : wD.cell? ⟨g, 1, none⟩ = some (.int .i64 b) := HO3.out.elem (i := 1) (by simp); obtain ⟨m1, m2⟩ := mul12 ha1 ha2 hk20 hk21))
              have e1 := wrap_9 (x := 1 + k2) (by omega) (by omega)
              have e2 := wrap_9 (x := a * (1 + k2)) (by omega) (by omega)
              have e3 := wrap_9 (x := -(a * (1 + k2))) (by omega) (by omega)
              have e4 := wrap_9 (x := -(a * (1 + k2)) - b) (by omega) (by omega)
              rw [e1, e2, e3, e4]
              obtain ⟨T, hT⟩ : ∃ T, T = -(a * (1 + k2)) - b := ⟨_, rfl⟩
              have t1 : -90 ≤ T := by omega
              have t2 : T ≤ 90 := by omega
              rw [← hT]
              have hs3 := HQ2.out.size
              have HN3 := hid (HN2.out.trans HQ2.out)
              clear e1 e2 e3 e4 m1 m2 c0 c1 d0 d1 hT HO2
              by_cases h0 : T = 0
              · subst h0
                go_wp2_with fail
                go_ret
                exact Form5.mk HTr.out hyl HO3 (by omega) HD HN3
              · have TZ : (T != 0) = true := by rw [bne_iff_ne]; exact h0
                by_cases h30 : T.natAbs ≤ 30
                · have h30i : (T.natAbs : Int) ≤ 30 := by omega
                  have hf2 := HO3.out.thaw 2
                  have d2 : wD.cell? ⟨g, 2, none⟩ = some (.int .i64 c) := HO3.out.elem (i := 2) (by simp)
                  have HSE := hid (HO3.out.storeAt 2 T)
                  have hT1 : -31 ≤ T := by omega
                  have hT2 : T ≤ 31 := by omega
                  have HTS := hid (HTr.out.setAt 2 hT1 hT2)
                  clear h0
                  go_wp2_with (go_at_call 98; refine (l1Size_any T (by omega) (by omega) _).mono ?_; rintro e w' ⟨rfl, rfl⟩)
                  go_ret
                  exact Form5.mk HTS.out (by rw [List.length_set]; exact hyl) (hid HSE.out.1) (by omega) (hid (HD.out.kept ((Below.refl w.heap.size _).grown HSE.out.2 (by omega) (fun k e => by cases e; exact HO3.out.ge g rfl)) (by omega) (by omega))) (hid (HN3.out.grown HSE.out.2 (fun k e => by cases e; exact HO3.out.ge g rfl)))
                · have h30i : ¬ (T.natAbs : Int) ≤ 30 := by omega
                  clear h0
                  go_wp2_with (go_at_call 98; refine (l1Size_any T (by omega) (by omega) _).mono ?_; rintro e w' ⟨rfl, rfl⟩)
                  go_ret
                  exact Form5.mk HTr.out hyl HO3 (by omega) HD HN3
          · go_wp2_with fail
            go_ret
            exact Form5.mk HTr.out hyl HO2 (by omega) HC HN2
        · have T3 : ((ys.length : Int) == 3) = false := by rw [beq_eq_false_iff_ne]; omega
          clear h3
          go_wp2_with fail
          go_ret
          exact Form5.mk HTr.out hyl HOr (by omega) (hid HRr.out.1) HNr

end Go.Proofs.Ytbhlgdleklfonaa
