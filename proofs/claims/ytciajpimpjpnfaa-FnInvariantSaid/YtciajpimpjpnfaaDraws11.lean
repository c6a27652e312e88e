/-
  What the drawing functions of chapter 4 hand out: a form and a place.
-/
import Derived.Test.YtciajpimpjpnfaaBun21
import Derived.Test.YtciajpimpjpnfaaBun22
set_option linter.unusedVariables false
namespace Go.Proofs.Ytciajpimpjpnfaa
open Go.RowKit

def atOk (xs : List Int) (y : Int) : Prop := TermsOk xs ∧ (prOk y ∨ y ∈ fplL xs)
def AtPost (w : World) (B R : Nat) (v : Value) (n p : Nat) (e : Ending) (w' : World) : Prop :=
  ∃ (u : Value) (xs : List Int) (y : Int), e = .returned (.tuple #[u, .int .i64 y]) ∧ atOk xs y ∧ Hid (Owns w' w.heap.size u xs) ∧ Hid (Only R w w')
theorem AtPost.mk {w : World} {B R : Nat} {v : Value} {n p : Nat} {u : Value} {xs : List Int} {y : Int} {w' : World} (h : atOk xs y) (ho : Owns w' w.heap.size u xs) (hn : Only R w w') : AtPost w B R v n p (.returned (.tuple #[u, .int .i64 y])) w' :=
  ⟨u, xs, y, rfl, h, hid ho, hid hn⟩
theorem Only.of_below {R : Nat} {w w' : World} (h : Below w.heap.size w w') : Only R w w' := ⟨h.os, h.tape, h.output, h.size, fun k hk _ => h.block k hk⟩
theorem Owns.at {W : World} {B g cap n : Nat} {xs : List Int} (h : Owns W B (.slice (some ⟨g, 0, none⟩) n cap) xs) {i : Nat} (hi : i < xs.length) : W.cell? ⟨g, i, none⟩ = some (.int .i64 (xs[i])) := by
  have hn : n = xs.length := by
    rcases h.2 with ⟨h3, _⟩ | ⟨g', cap', cur, h3, _⟩
    · cases h3
    · simp only [Value.slice.injEq] at h3; exact h3.2.1
  subst hn
  rw [World.ownsRow.cellAt h i (by omega), List.getElem?_map, List.getElem?_eq_getElem hi]
  rfl
theorem pickAt (B R : Nat) (v : Value) (n p : Nat) (hp : p ≤ 100000) (w2 : World) (HA : Hid (Rdr w2 B R v n p)) (C g cap : Nat) (xs : List Int) (HO : Hid (Owns w2 C (.slice (some ⟨g, 0, none⟩) xs.length cap) xs)) (hRC : R < C) (hl : 0 < xs.length) (hl2 : xs.length ≤ 1000) :
    Calls Try.prog 69 #[.pointer (some ⟨R, 0, none⟩), .int .i64 xs.length] w2.drew fun e w' => ∃ (y pv : Int), e = .returned (.int .i64 y) ∧ 0 ≤ y ∧ y < xs.length ∧ w'.cell? ⟨g, y.toNat, none⟩ = some (.int .i64 pv) ∧ pv ∈ xs ∧ Hid (Only R w2 w') := by
  refine (pick_any _ _ _ _ p (xs.length : Int) (by omega) (by omega) (by omega) _ HA.out.drew').mono ?_
  rintro e w3 ⟨y, r, rfl, hy0, hy1, _, hr, HC, HP⟩
  replace hy1 := hy1 (by omega)
  have HQ := HP.out.of_drew'
  have hi : y.toNat < xs.length := by omega
  exact ⟨y, xs[y.toNat], rfl, hy0, hy1, (HO.out.only HQ hRC).at hi, List.getElem_mem hi, hid HQ⟩

set_option maxRecDepth 100000 in
set_option maxHeartbeats 4000000 in
theorem at_any (B R : Nat) (v : Value) (n p : Nat) (hp : p ≤ 70000) (w : World) (HR : Hid (Rdr w B R v n p)) (hB : B ≤ w.heap.size) :
    Calls Try.prog 80 #[.pointer (some ⟨R, 0, none⟩)] w (AtPost w B R v n p) := by
  have hRs := HR.out.lt
  have hBR := HR.out.1
  go_enter Try.func80, Try.ntmps80
  go_wp2_with fail
  refine (formDraw_any _ _ _ _ p 4 (by omega) (by omega) (by omega) _ HR hB).mono ?_
  rintro e w2 ⟨u, xs, q, rfl, HT, HO, hq, HA, HN⟩
  have hs2 := HN.out.size
  go_wp2_with fail
  refine (formPlacesS_any _ xs _ HO.out.rd).mono ?_
  rintro e w3 ⟨up, rfl, hop, hbp⟩
  have hs3 := hbp.size
  have HOP := hid hop
  have HN2 := hid (HN.out.trans (Only.of_below (R := R) hbp))
  have HO2 := hid (HO.out.keep HO.out.lt hbp)
  have HA2 := hid (HA.out.kept hbp (by have := HA.out.lt; omega) (by omega))
  clear hop hbp HO HN
  have hpl := fpl_len xs
  obtain ⟨ap, cp, rfl⟩ := HOP.out.reads
  by_cases h0 : (fplL xs).length = 0
  · have h0i : ¬ (((fplL xs).length : Nat) : Int) > 0 := by omega
    go_wp2_with fail
    refine (place_any _ _ _ _ q (by omega) _ HA2 (by omega)).mono ?_
    rintro e w4 ⟨y, r, rfl, hy, hr, HC, HP⟩
    have HY := hid hy
    clear hy
    go_wp2
    go_ret2
    exact AtPost.mk ⟨HT, .inl HY.out⟩ (HO2.out.only HP.out hRs) (HN2.out.trans HP.out)
  · have h0i : (((fplL xs).length : Nat) : Int) > 0 := by omega
    obtain ⟨g, cap2, hv2⟩ := HOP.out.slice_of (by omega)
    simp only [Value.slice.injEq, true_and] at hv2
    obtain ⟨rfl, rfl⟩ := hv2
    go_wp2_with fail
    refine (pick_any _ _ _ _ q 2 (by omega) (by omega) (by omega) _ (HA2.out)).mono ?_
    rintro e wHC ⟨z, r, rfl, hz0, hz1, _, hr, HC, HP⟩
    replace hz1 := hz1 (by omega)
    have hs4 := HP.out.size
    have HN3 := hid (HN2.out.trans HP.out)
    have HO3 := hid (HO2.out.only HP.out hRs)
    have HOP3 := hid (HOP.out.only HP.out (by omega))
    clear HN2 HO2 HOP HP
    by_cases hz : z = 0
    · subst hz
      go_wp2_with fail
      have HC1 := hid (pickAt _ _ _ _ r (by omega) wHC HC _ _ _ _ HOP3 (by omega) (by omega) hpl)
      go_region_with (go_at_call 69; refine (HC1.out).mono ?_; rintro e w5 ⟨y, pv, rfl, hy0, hy1, hcell, hpm, HP⟩)
      all_goals (
        have HM := hid hpm
        clear hpm
        go_wp2
        go_ret2
        exact AtPost.mk ⟨HT, .inr HM.out⟩ (HO3.out.only HP.out hRs) (HN3.out.trans HP.out))
    · go_wp2_with fail
      refine (place_any _ _ _ _ r (by omega) _ HC (by omega)).mono ?_
      rintro e w4 ⟨y, r2, rfl, hy, hr, HC2, HP⟩
      have HY := hid hy
      clear hy
      go_wp2
      go_ret2
      exact AtPost.mk ⟨HT, .inl HY.out⟩ (HO3.out.only HP.out hRs) (HN3.out.trans HP.out)

set_option maxRecDepth 100000 in
set_option maxHeartbeats 2000000 in
theorem drawFormInvariant_any (v : Value) (n : Nat) (w : World) (h : CodeIn w v n) : Calls Try.prog 35 #[v] w (DrewFI atOk w) := by
  go_enter Try.func35, Try.ntmps35
  go_wp2_with fail
  refine (open_any v n _ h).mono ?_
  rintro e w1 ⟨v1, n1, rfl, HR, HB⟩
  have hsz := HB.size
  go_wp2_with fail
  refine (at_any _ _ _ _ 0 (by omega) _ HR hsz).mono ?_
  rintro e w2 ⟨u, xs, y, rfl, HT, HO, HN⟩
  go_wp2
  go_ret2
  exact DrewFI.mk HT (HO.out.base hsz) (only_below HB HN.out)

set_option maxRecDepth 100000 in
set_option maxHeartbeats 2000000 in
theorem drawFormVanishes_any (v : Value) (n : Nat) (w : World) (h : CodeIn w v n) : Calls Try.prog 46 #[v] w (DrewFI atOk w) := by
  go_enter Try.func46, Try.ntmps46
  go_wp2_with fail
  refine (open_any v n _ h).mono ?_
  rintro e w1 ⟨v1, n1, rfl, HR, HB⟩
  have hsz := HB.size
  go_wp2_with fail
  refine (at_any _ _ _ _ 0 (by omega) _ HR hsz).mono ?_
  rintro e w2 ⟨u, xs, y, rfl, HT, HO, HN⟩
  go_wp2
  go_ret2
  exact DrewFI.mk HT (HO.out.base hsz) (only_below HB HN.out)

end Go.Proofs.Ytciajpimpjpnfaa
