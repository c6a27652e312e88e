/-
  What the drawing functions of chapter 4 hand out: two forms.
-/
import Derived.Test.YtciajpimpjpnfaaDraws12
set_option linter.unusedVariables false
namespace Go.Proofs.Ytciajpimpjpnfaa
open Go.RowKit

def TwoPost (w : World) (B R : Nat) (v : Value) (n p : Nat) (e : Ending) (w' : World) : Prop :=
  ∃ (u u2 : Value) (xs ys : List Int), e = .returned (.tuple #[u, u2]) ∧ TermsOk xs ∧ TermsOk ys ∧ Hid (Owns w' w.heap.size u xs) ∧ Hid (Rd w' u2 ys) ∧ Firm u2 ∧ Hid (Only R w w')
theorem TwoPost.mk {w : World} {B R : Nat} {v : Value} {n p : Nat} {u u2 : Value} {xs ys : List Int} {w' : World} (h : TermsOk xs) (h2 : TermsOk ys) (ho : Owns w' w.heap.size u xs) (hr : Rd w' u2 ys) (hf : Firm u2) (hn : Only R w w') : TwoPost w B R v n p (.returned (.tuple #[u, u2])) w' :=
  ⟨u, u2, xs, ys, rfl, h, h2, hid ho, hid hr, hf, hid hn⟩

set_option maxRecDepth 100000 in
set_option maxHeartbeats 4000000 in
theorem two_any (B R : Nat) (v : Value) (n p : Nat) (hp : p ≤ 60000) (w : World) (HR : Hid (Rdr w B R v n p)) (hB : B ≤ w.heap.size) :
    Calls Try.prog 92 #[.pointer (some ⟨R, 0, none⟩)] w (TwoPost w B R v n p) := by
  have hRs := HR.out.lt
  have hBR := HR.out.1
  go_enter Try.func92, Try.ntmps92
  go_wp2_with fail
  refine (formDraw_any _ _ _ _ p 4 (by omega) (by omega) (by omega) _ HR hB).mono ?_
  rintro e w2 ⟨u, xs, q, rfl, HT, HO, hq, HA, HN⟩
  have hs2 := HN.out.size
  have hfm := HO.out.firm
  go_wp2_with fail
  refine (pick_any _ _ _ _ q 3 (by omega) (by omega) (by omega) _ (HA.out)).mono ?_
  rintro e wHC ⟨z, r, rfl, hz0, hz1, _, hr, HC, HP⟩
  replace hz1 := hz1 (by omega)
  have hs3 := HP.out.size
  have HN2 := hid (HN.out.trans HP.out)
  have HO2 := hid (HO.out.only HP.out hRs)
  clear HN HO HP
  have HRd := hid HO2.out.rd
  have HFm := hid hfm
  have HTT := hid HT
  clear hfm HT
  by_cases hz : z > 0
  · cases hv : fvB xs with
    | true =>
      have HV := hid hv
      clear hv
      go_wp2_with fail
      refine (formValidS_any _ _ _ HRd.out).mono ?_
      rw [HV.out]
      rintro e w' ⟨rfl, rfl⟩
      go_wp2_with fail
      refine (drawSame_any _ _ _ _ r (by omega) _ HC (by omega) _ xs HRd HFm.out HV.out).mono ?_
      rintro e w4 ⟨u4, ys, r2, rfl, hy, HOy, hr2, HD, HQ⟩
      have HY := hid hy
      have hs4 := HQ.out.size
      have HFy := hid HOy.out.firm
      have HRy := hid HOy.out.rd
      clear hy
      go_wp2_with fail
      refine (drawSame_any _ _ _ _ r2 (by omega) _ HD (by omega) _ ys HRy HFy.out HY.out).mono ?_
      rintro e w5 ⟨u5, zs, r3, rfl, hz2, HOz, hr3, HE, HS⟩
      have HZ := hid hz2
      clear hz2
      go_wp2
      go_ret2
      exact TwoPost.mk HTT.out (fv_terms HZ.out) ((HO2.out.only HQ.out hRs).only HS.out hRs) HOz.out.rd HOz.out.firm ((HN2.out.trans HQ.out).trans HS.out)
    | false =>
      have HV := hid hv
      clear hv
      go_wp2_with fail
      refine (formValidS_any _ _ _ HRd.out).mono ?_
      rw [HV.out]
      rintro e w' ⟨rfl, rfl⟩
      go_wp2_with fail
      refine (formDraw_any _ _ _ _ r 4 (by omega) (by omega) (by omega) _ HC (by omega)).mono ?_
      rintro e w4 ⟨u4, ys, r2, rfl, hy, HOy, hr2, HD, HQ⟩
      have HY := hid hy
      clear hy
      go_wp2
      go_ret2
      exact TwoPost.mk HTT.out HY.out (HO2.out.only HQ.out hRs) HOy.out.rd HOy.out.firm (HN2.out.trans HQ.out)
  · go_wp2_with fail
    refine (formDraw_any _ _ _ _ r 4 (by omega) (by omega) (by omega) _ HC (by omega)).mono ?_
    rintro e w4 ⟨u4, ys, r2, rfl, hy, HOy, hr2, HD, HQ⟩
    have HY := hid hy
    clear hy
    go_wp2
    go_ret2
    exact TwoPost.mk HTT.out HY.out (HO2.out.only HQ.out hRs) HOy.out.rd HOy.out.firm (HN2.out.trans HQ.out)

set_option maxRecDepth 100000 in
set_option maxHeartbeats 2000000 in
theorem drawFormSame_any (v : Value) (n : Nat) (w : World) (h : CodeIn w v n) : Calls Try.prog 54 #[v] w (DrewFF (fun xs ys => TermsOk xs ∧ TermsOk ys) w) := by
  go_enter Try.func54, Try.ntmps54
  go_wp2_with fail
  refine (open_any v n _ h).mono ?_
  rintro e w1 ⟨v1, n1, rfl, HR, HB⟩
  have hsz := HB.size
  go_wp2_with fail
  refine (two_any _ _ _ _ 0 (by omega) _ HR hsz).mono ?_
  rintro e w2 ⟨u, u2, xs, ys, rfl, HT, HT2, HO, HO2, hf, HN⟩
  go_wp2
  go_ret2
  exact DrewFF.mk ⟨HT, HT2⟩ (HO.out.base hsz) HO2.out hf (only_below HB HN.out)

end Go.Proofs.Ytciajpimpjpnfaa
