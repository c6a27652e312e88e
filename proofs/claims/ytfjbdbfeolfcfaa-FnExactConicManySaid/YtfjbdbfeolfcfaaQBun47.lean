/-
  Some texts in one file: Draws17 Draws21 Res4 Draws22 Marks Same LawKit Draws12.
-/
import Derived.Test.YtfjbdbfeolfcfaaQBun44
import Derived.Test.YtfjbdbfeolfcfaaQZm7
import Derived.Test.YtfjbdbfeolfcfaaQBun0
import Derived.Test.YtfjbdbfeolfcfaaQBun17
import Derived.Test.YtfjbdbfeolfcfaaQOwn2
import Derived.Test.YtfjbdbfeolfcfaaQBun4
import Derived.BigQuiet
import Derived.Maps.AppendAt
import Derived.Test.YtfjbdbfeolfcfaaQBun32
/-! Draws17 -/
set_option linter.unusedVariables false
namespace Go.Proofs.Ytfjbdbfeolfcfaa
open Go.RowKit

def VecZ (ys : List Int) : Prop := ys.length ≤ 6 ∧ ∀ y ∈ ys, -6000 ≤ y ∧ y ≤ 6000
def VecP4 (m : Nat) (w : World) (B R : Nat) (v : Value) (n p : Nat) (e : Ending) (w' : World) : Prop :=
  ∃ (u : Value) (ys : List Int) (q : Nat), e = .returned u ∧ VecOk m 4 ys ∧ Hid (Owns w' w.heap.size u ys) ∧ q ≤ p + m ∧ Hid (Rdr w' B R v n q) ∧ Hid (Only R w w')
theorem VecP4.mk {m : Nat} {w : World} {B R : Nat} {v : Value} {n p q : Nat} {u : Value} {ys : List Int} {w' : World} (h : VecOk m 4 ys) (ho : Hid (Owns w' w.heap.size u ys)) (hq : q ≤ p + m) (hr : Hid (Rdr w' B R v n q)) (hn : Hid (Only R w w')) : VecP4 m w B R v n p (.returned u) w' :=
  ⟨u, ys, q, rfl, h, ho, hq, hr, hn⟩
theorem VecOk.z {m : Nat} {ys : List Int} (h : VecOk m 4 ys) (hm : m ≤ 6) : VecZ ys := ⟨by rw [h.1]; exact hm, fun y hy => by have := h.2 y hy; omega⟩
def litK : Array Value := #[.int .i64 1, .int .i64 2, .int .i64 (-1), .int .i64 (-3), .int .i64 1]
theorem litK_at {y : Int} (h0 : 0 ≤ y) (h1 : y < 5) : ∃ p : Int, litK[y.toNat]? = some (.int .i64 p) ∧ -3 ≤ p ∧ p ≤ 2 := by
  have : y = 0 ∨ y = 1 ∨ y = 2 ∨ y = 3 ∨ y = 4 := by omega
  rcases this with rfl | rfl | rfl | rfl | rfl
  all_goals exact ⟨_, rfl, by omega, by omega⟩
theorem mul_k {k u : Int} (h1 : -3 ≤ k) (h2 : k ≤ 2) (h3 : -2000 ≤ u) (h4 : u ≤ 2000) : -6000 ≤ k * u ∧ k * u ≤ 6000 := by
  have : k = -3 ∨ k = -2 ∨ k = -1 ∨ k = 0 ∨ k = 1 ∨ k = 2 := by omega
  rcases this with rfl | rfl | rfl | rfl | rfl | rfl <;> omega

set_option maxRecDepth 100000 in
set_option maxHeartbeats 4000000 in
theorem vector4_any (B R : Nat) (v : Value) (n p m : Nat) (hp : p ≤ 700000000000000) (hm2 : m ≤ 6) (a : Option Addr) (cap : Nat) (w : World) (HR : Hid (Rdr w B R v n p)) (hB : B ≤ w.heap.size) :
    Calls Try.prog 42 #[.pointer (some ⟨R, 0, none⟩), .slice a m cap, .int .i64 4] w (VecP4 m w B R v n p) := by
  obtain ⟨i0, hi, hz0, hz1, hz2⟩ := info_parts infoInt
  have hRs := HR.out.lt
  have hBR := HR.out.1
  have HO0 : Hid (Owns (w.alloc (.cells #[] 3)) w.heap.size (.slice (some ⟨w.heap.size, 0, none⟩) 0 0) []) := hid (World.ownsRow_made (size := 1) w #[] 0 (Nat.le_refl _) (by unfold maxLen; omega) rfl)
  have HRA := hid (HR.out.alloc hB (.cells #[] 3))
  have HON := hid ((Only.refl R w).alloc (.cells #[] 3))
  go_enter Try.func42, Try.ntmps42
  go_wp2_with fail
  go_loopw [7, 8] (fun so si wr => ∃ (K r : Nat) (ys : List Int), si = .int .i64 K ∧ K ≤ m ∧ r ≤ p + K ∧ Hid (VecOk K 4 ys) ∧ Hid (Owns wr w.heap.size so ys) ∧ Hid (Rdr wr B R v n r) ∧ Hid (Only R w wr)) (fun _ si _ => 10 - (intOf si).toNat)
  case atStart => exact ⟨0, p, [], rfl, by omega, by omega, hid ⟨rfl, fun x hx => by cases hx⟩, HO0, HRA, HON⟩
  case round =>
    obtain ⟨K, r, ys, rfl, hK, hr, HT, HOr, HRr, HNr⟩ := hrel
    rename World => wr
    have hsr := HNr.out.size
    have hyl := HT.out.1
    by_cases hlt : K < m
    · have hKi : (K : Int) < (m : Int) := by omega
      have hRr := HRr.out.lt
      go_wp2_with (first | (go_at_call 43; refine (pick_any _ _ _ _ r 9 (by omega) (by omega) (by omega) _ HRr.out).mono ?_; rintro e wq ⟨k, s, rfl, hk0, hk1, _, hs, HC, HP⟩; replace hk1 := hk1 (by omega); have HO2 := hid (HOr.out.only HP.out (by omega)); have HN2 := hid (HNr.out.trans HP.out); have hs2 := HN2.out.size) | (at_builtin; refine wpList_append_own_at _ rfl _ _ 23 rfl w.heap.size 3 i0 (.int .i64 0) 1 8 Try.underlying23 hi hz0 hz1 hz2 rfl (by decide) _ _ _ rfl ((show World.ownsRow _ _ _ _ _ _ _ from HO2.out).alloc _) ⟨wq.heap.size, 0, none⟩ 1 1 [.int .i64 (k - 4)] rfl rfl (cell_one_new _ _ _) (by simp [Value.oneCell']) (by unfold maxLen; omega) (by omega) (by simp; omega) ?_; intro v' w3 hown' hgrow _ hat))
      have hsg := hgrow.size
      simp only [World.size_alloc] at hsg
      have HN4 := hid ((HN2.out.alloc (.cells #[.int .i64 (k - 4)] 3)).grown hgrow (fun k e => (HO2.out.ge k e)))
      have HR4 := hid (((HC.out.alloc (by omega) (.cells #[.int .i64 (k - 4)] 3)).kept (((Below.refl w.heap.size _).grown hgrow (by simp; omega) (fun k e => (HO2.out.ge k e)))) (by omega) (by omega)))
      go_roundw
      case measure => simp only [intOf]; omega
      case rel =>
        exact ⟨K + 1, s, ys ++ [k - 4], by go_num, by omega, by omega, hid (HT.out.snoc (by omega) (by omega)), hid (by unfold Owns; simpa using hown'), HR4, HN4⟩
    · obtain rfl : K = m := by omega
      go_wp2
      go_ret
      exact VecP4.mk HT.out HOr (by omega) HRr HNr

def ZeroPost (w : World) (R : Nat) (e : Ending) (w' : World) : Prop :=
  ∃ (u z : Value) (xs vs : List Int), e = .returned (.tuple #[u, z]) ∧ TermsOk xs ∧ VecZ vs ∧ Hid (Owns w' w.heap.size u xs) ∧ Hid (Owns w' w.heap.size z vs) ∧ Hid (Only R w w')
theorem ZeroPost.mk {w : World} {R : Nat} {u z : Value} {xs vs : List Int} {w' : World} (h : TermsOk xs) (hv : VecZ vs) (ho : Owns w' w.heap.size u xs) (hz : Owns w' w.heap.size z vs) (hn : Only R w w') : ZeroPost w R (.returned (.tuple #[u, z])) w' := ⟨u, z, xs, vs, rfl, h, hv, hid ho, hid hz, hid hn⟩


def DrewZ (w : World) (e : Ending) (w' : World) : Prop := ∃ (u z : Value) (xs vs : List Int), e = .returned (.tuple #[u, z]) ∧ TermsOk xs ∧ VecZ vs ∧ Hid (Owns w' w.heap.size u xs) ∧ Hid (Owns w' w.heap.size z vs) ∧ Below w.heap.size w w'




end Go.Proofs.Ytfjbdbfeolfcfaa

/-! Draws21 -/
set_option linter.unusedVariables false
namespace Go.Proofs.Ytfjbdbfeolfcfaa
open Go.RowKit

set_option maxRecDepth 100000 in
set_option maxHeartbeats 4000000 in
theorem vector3_any (B R : Nat) (v : Value) (n p m : Nat) (hp : p ≤ 700000000000000) (hm2 : m ≤ 6) (a : Option Addr) (cap : Nat) (w : World) (HR : Hid (Rdr w B R v n p)) (hB : B ≤ w.heap.size) :
    Calls Try.prog 42 #[.pointer (some ⟨R, 0, none⟩), .slice a m cap, .int .i64 3] w (VecP4 m w B R v n p) := by
  obtain ⟨i0, hi, hz0, hz1, hz2⟩ := info_parts infoInt
  have hRs := HR.out.lt
  have hBR := HR.out.1
  have HO0 : Hid (Owns (w.alloc (.cells #[] 3)) w.heap.size (.slice (some ⟨w.heap.size, 0, none⟩) 0 0) []) := hid (World.ownsRow_made (size := 1) w #[] 0 (Nat.le_refl _) (by unfold maxLen; omega) rfl)
  have HRA := hid (HR.out.alloc hB (.cells #[] 3))
  have HON := hid ((Only.refl R w).alloc (.cells #[] 3))
  go_enter Try.func42, Try.ntmps42
  go_wp2_with fail
  go_loopw [7, 8] (fun so si wr => ∃ (K r : Nat) (ys : List Int), si = .int .i64 K ∧ K ≤ m ∧ r ≤ p + K ∧ Hid (VecOk K 4 ys) ∧ Hid (Owns wr w.heap.size so ys) ∧ Hid (Rdr wr B R v n r) ∧ Hid (Only R w wr)) (fun _ si _ => 10 - (intOf si).toNat)
  case atStart => exact ⟨0, p, [], rfl, by omega, by omega, hid ⟨rfl, fun x hx => by cases hx⟩, HO0, HRA, HON⟩
  case round =>
    obtain ⟨K, r, ys, rfl, hK, hr, HT, HOr, HRr, HNr⟩ := hrel
    rename World => wr
    have hsr := HNr.out.size
    have hyl := HT.out.1
    by_cases hlt : K < m
    · have hKi : (K : Int) < (m : Int) := by omega
      have hRr := HRr.out.lt
      go_wp2_with (first | (go_at_call 43; refine (pick_any _ _ _ _ r 7 (by omega) (by omega) (by omega) _ HRr.out).mono ?_; rintro e wq ⟨k, s, rfl, hk0, hk1, _, hs, HC, HP⟩; replace hk1 := hk1 (by omega); have HO2 := hid (HOr.out.only HP.out (by omega)); have HN2 := hid (HNr.out.trans HP.out); have hs2 := HN2.out.size) | (at_builtin; refine wpList_append_own_at _ rfl _ _ 23 rfl w.heap.size 3 i0 (.int .i64 0) 1 8 Try.underlying23 hi hz0 hz1 hz2 rfl (by decide) _ _ _ rfl ((show World.ownsRow _ _ _ _ _ _ _ from HO2.out).alloc _) ⟨wq.heap.size, 0, none⟩ 1 1 [.int .i64 (k - 3)] rfl rfl (cell_one_new _ _ _) (by simp [Value.oneCell']) (by unfold maxLen; omega) (by omega) (by simp; omega) ?_; intro v' w3 hown' hgrow _ hat))
      have hsg := hgrow.size
      simp only [World.size_alloc] at hsg
      have HN4 := hid ((HN2.out.alloc (.cells #[.int .i64 (k - 3)] 3)).grown hgrow (fun k e => (HO2.out.ge k e)))
      have HR4 := hid (((HC.out.alloc (by omega) (.cells #[.int .i64 (k - 3)] 3)).kept (((Below.refl w.heap.size _).grown hgrow (by simp; omega) (fun k e => (HO2.out.ge k e)))) (by omega) (by omega)))
      go_roundw
      case measure => simp only [intOf]; omega
      case rel =>
        exact ⟨K + 1, s, ys ++ [k - 3], by go_num, by omega, by omega, hid (HT.out.snoc (by omega) (by omega)), hid (by unfold Owns; simpa using hown'), HR4, HN4⟩
    · obtain rfl : K = m := by omega
      go_wp2
      go_ret
      exact VecP4.mk HT.out HOr (by omega) HRr HNr

def PointPost (w : World) (B R : Nat) (v : Value) (n p : Nat) (e : Ending) (w' : World) : Prop :=
  ∃ (u z : Value) (xs vs : List Int) (q : Nat), e = .returned (.tuple #[u, z]) ∧ TermsOk xs ∧ VecZ vs ∧ Hid (Owns w' w.heap.size u xs) ∧ Hid (Owns w' w.heap.size z vs) ∧ q ≤ p + 400000000 ∧ Hid (Rdr w' B R v n q) ∧ Hid (Only R w w')
theorem PointPost.mk {w : World} {B R : Nat} {v : Value} {n p q : Nat} {u z : Value} {xs vs : List Int} {w' : World} (h : TermsOk xs) (hv : VecZ vs) (ho : Owns w' w.heap.size u xs) (hz : Owns w' w.heap.size z vs) (hq : q ≤ p + 400000000) (hr : Rdr w' B R v n q) (hn : Only R w w') : PointPost w B R v n p (.returned (.tuple #[u, z])) w' := ⟨u, z, xs, vs, q, rfl, h, hv, hid ho, hid hz, hq, hid hr, hid hn⟩
theorem got_z {xs l : List Int} (h : Got xs l) : VecZ l := ⟨by have h1 := (zeroB_iff.1 h.zero).2.2.1; have h2 := fvB_iff.1 (zeroB_iff.1 h.zero).2.1; omega, fun y hy => by have := h.small y hy; omega⟩
theorem terms11 : TermsOk [1, 1, -1] := ⟨by simp, fun x hx => by simp only [List.mem_cons, List.not_mem_nil, or_false] at hx; rcases hx with rfl | rfl | rfl <;> omega⟩

set_option maxRecDepth 100000 in
set_option maxHeartbeats 4000000 in
theorem point_any (B R : Nat) (v : Value) (n p : Nat) (hp : p ≤ 100000000) (w : World) (HR : Hid (Rdr w B R v n p)) (hB : B ≤ w.heap.size) :
    Calls Try.prog 31 #[.pointer (some ⟨R, 0, none⟩)] w (PointPost w B R v n p) := by
  have hRs := HR.out.lt
  go_enter Try.func31, Try.ntmps31
  go_wp2_with fail
  refine (form5_any _ _ _ _ p 3 (by omega) (by omega) (by omega) _ HR hB).mono ?_
  rintro e w2 ⟨u, xs0, q, rfl, HT, HO, hq, HA, HN⟩
  have hs2 := HN.out.size
  have HT0 := hid HT.out.1
  go_wp2_with fail
  refine (pick_any _ _ _ _ q 4 (by omega) (by omega) (by omega) _ (HA.out)).mono ?_
  rintro e wHC ⟨k, r, rfl, hk0, hk1, _, hr, HC, HP⟩
  replace hk1 := hk1 (by omega)
  have hs3 := HP.out.size
  have HO1 := hid (HO.out.only HP.out (by omega))
  have HN1 := hid (HN.out.trans HP.out)
  clear HT HO HN HP HA
  by_cases h0 : k = 0
  · subst h0
    have HOF : Hid (Owns (wHC.alloc (.cells #[.int .i64 1, .int .i64 1, .int .i64 (-1)] 3)) w.heap.size (.slice (some ⟨wHC.heap.size, 0, none⟩) 3 3) [1, 1, -1]) := hid (owns_lit [1, 1, -1] _ rfl (by omega) (by unfold maxLen; simp))
    have HRF := hid (HC.out.alloc (by omega) (.cells #[.int .i64 1, .int .i64 1, .int .i64 (-1)] 3))
    have HNF := hid (HN1.out.alloc (.cells #[.int .i64 1, .int .i64 1, .int .i64 (-1)] 3))
    have hxl : ([1, 1, -1] : List Int).length ≤ 6 := by simp
    have hsF : w.heap.size ≤ (wHC.alloc (.cells #[.int .i64 1, .int .i64 1, .int .i64 (-1)] 3)).heap.size := by simp; omega
    have HTF := hid terms11
    clear HC HO1 HN1 HT0
    go_wp2_with fail
    refine (zeroFindS_any _ [1, 1, -1] _ HOF.out.rd).mono ?_
    rintro e w3 ⟨uv, rfl, hov, hb3⟩
    have hs4 := hb3.size
    have HO3 := hid (HOF.out.keep HOF.out.lt hb3)
    have HN3 := hid (HNF.out.trans (Only.of_below (R := R) hb3))
    have HR3 := hid (HRF.out.kept hb3 (by have := HRF.out.lt; omega) (by have := HRF.out.1; have := HRF.out.lt; omega))
    have HV3 := hid hov
    have hs5 := HN3.out.size
    clear hov hb3 HOF HNF HRF
    cases hz : zfindO [1, 1, -1] with
    | none =>
      go_wp2_with fail
      refine (vector3_any _ _ _ _ r 3 (by omega) (by omega) _ 3 _ HR3 (by omega)).mono ?_
      rintro e w4 ⟨uz, ys, s, rfl, HV, HOz, hs, HD, HQ⟩
      go_wp2
      go_ret2
      exact PointPost.mk HTF.out (HV.z (by omega)) (HO3.out.only HQ.out (by omega)) (HOz.out.base (by omega)) (by omega) HD.out (HN3.out.trans HQ.out)
    | some l =>
      have HG := hid (got_z (find_got hz))
      rw [hz] at HV3
      simp only [Option.getD_some] at HV3
      clear hz
      go_wp2_with fail
      refine (pick_any _ _ _ _ r 16 (by omega) (by omega) (by omega) _ (HR3.out)).mono ?_
      rintro e wHD ⟨k2, s, rfl, hk20, hk21, _, hs, HD, HQ⟩
      replace hk21 := hk21 (by omega)
      have HO4 := hid (HO3.out.only HQ.out (by omega))
      have HV4 := hid (HV3.out.only HQ.out (by omega))
      have HN4 := hid (HN3.out.trans HQ.out)
      have hs6 := HQ.out.size
      clear HO3 HV3 HN3 HQ
      by_cases hk2 : k2 > 0
      · go_wp2
        go_ret2
        exact PointPost.mk HTF.out HG.out HO4.out (HV4.out.base (by omega)) (by omega) HD.out HN4.out
      · go_wp2_with fail
        refine (vector3_any _ _ _ _ s 3 (by omega) (by omega) _ 3 _ HD (by omega)).mono ?_
        rintro e w4 ⟨uz, ys, s2, rfl, HV, HOz, hs, HD2, HQ⟩
        go_wp2
        go_ret2
        exact PointPost.mk HTF.out (HV.z (by omega)) (HO4.out.only HQ.out (by omega)) (HOz.out.base (by omega)) (by omega) HD2.out (HN4.out.trans HQ.out)
  · have T : (k == 0) = false := by rw [beq_eq_false_iff_ne]; exact h0
    obtain ⟨ax, cx, rfl⟩ := HO1.out.reads
    have hxl := HT0.out.1
    have hsF : w.heap.size ≤ wHC.heap.size := by omega
    clear h0
    go_wp2_with fail
    refine (zeroFindS_any _ xs0 _ HO1.out.rd).mono ?_
    rintro e w3 ⟨uv, rfl, hov, hb3⟩
    have hs4 := hb3.size
    have HO3 := hid (HO1.out.keep HO1.out.lt hb3)
    have HN3 := hid (HN1.out.trans (Only.of_below (R := R) hb3))
    have HR3 := hid (HC.out.kept hb3 (by have := HC.out.lt; omega) (by have := HC.out.1; have := HC.out.lt; omega))
    have HV3 := hid hov
    have hs5 := HN3.out.size
    clear hov hb3 HO1 HN1 HC
    cases hz : zfindO xs0 with
    | none =>
      go_wp2_with fail
      refine (vector3_any _ _ _ _ r xs0.length (by omega) (by omega) ax cx _ HR3 (by omega)).mono ?_
      rintro e w4 ⟨uz, ys, s, rfl, HV, HOz, hs, HD, HQ⟩
      go_wp2
      go_ret2
      exact PointPost.mk HT0.out (HV.z (by omega)) (HO3.out.only HQ.out (by omega)) (HOz.out.base (by omega)) (by omega) HD.out (HN3.out.trans HQ.out)
    | some l =>
      have HG := hid (got_z (find_got hz))
      rw [hz] at HV3
      simp only [Option.getD_some] at HV3
      clear hz
      go_wp2_with fail
      refine (pick_any _ _ _ _ r 16 (by omega) (by omega) (by omega) _ (HR3.out)).mono ?_
      rintro e wHD ⟨k2, s, rfl, hk20, hk21, _, hs, HD, HQ⟩
      replace hk21 := hk21 (by omega)
      have HO4 := hid (HO3.out.only HQ.out (by omega))
      have HV4 := hid (HV3.out.only HQ.out (by omega))
      have HN4 := hid (HN3.out.trans HQ.out)
      have hs6 := HQ.out.size
      clear HO3 HV3 HN3 HQ
      by_cases hk2 : k2 > 0
      · go_wp2
        go_ret2
        exact PointPost.mk HT0.out HG.out HO4.out (HV4.out.base (by omega)) (by omega) HD.out HN4.out
      · go_wp2_with fail
        refine (vector3_any _ _ _ _ s xs0.length (by omega) (by omega) ax cx _ HD (by omega)).mono ?_
        rintro e w4 ⟨uz, ys, s2, rfl, HV, HOz, hs, HD2, HQ⟩
        go_wp2
        go_ret2
        exact PointPost.mk HT0.out (HV.z (by omega)) (HO4.out.only HQ.out (by omega)) (HOz.out.base (by omega)) (by omega) HD2.out (HN4.out.trans HQ.out)

end Go.Proofs.Ytfjbdbfeolfcfaa

/-! Res4 -/
set_option linter.unusedVariables false
namespace Go.Proofs.Ytfjbdbfeolfcfaa
open Go.RowKit

theorem results_tmp4 {fn : Func} {t u v x : Tmp} (h : fn.results = #[.tmp t, .tmp u, .tmp v, .tmp x]) (tmps : Array Value) (P : Program) (w : World) :
    (results fn tmps).run P w = .ok (.tuple #[tmps.getD t undef, tmps.getD u undef, tmps.getD v undef, tmps.getD x undef]) w := by
  simp [results, h]
theorem results_tmp5 {fn : Func} {t u v x y : Tmp} (h : fn.results = #[.tmp t, .tmp u, .tmp v, .tmp x, .tmp y]) (tmps : Array Value) (P : Program) (w : World) :
    (results fn tmps).run P w = .ok (.tuple #[tmps.getD t undef, tmps.getD u undef, tmps.getD v undef, tmps.getD x undef, tmps.getD y undef]) w := by
  simp [results, h]

end Go.Proofs.Ytfjbdbfeolfcfaa

/-! Draws22 -/
set_option linter.unusedVariables false
namespace Go.Proofs.Ytfjbdbfeolfcfaa
open Go.RowKit

def DrewP3 (P : List Int → Prop) (w : World) (e : Ending) (w' : World) : Prop := ∃ (u z y : Value) (xs vs ws : List Int), e = .returned (.tuple #[u, z, y]) ∧ TermsOk xs ∧ VecZ vs ∧ P ws ∧ Hid (Owns w' w.heap.size u xs) ∧ Hid (Owns w' w.heap.size z vs) ∧ Hid (Owns w' w.heap.size y ws) ∧ Below w.heap.size w w'
def DrewPI (w : World) (e : Ending) (w' : World) : Prop := ∃ (u z : Value) (xs vs : List Int) (n : Int), e = .returned (.tuple #[u, z, .int .i64 n]) ∧ TermsOk xs ∧ VecZ vs ∧ (-10 ≤ n ∧ n ≤ 20) ∧ Hid (Owns w' w.heap.size u xs) ∧ Hid (Owns w' w.heap.size z vs) ∧ Below w.heap.size w w'
def DrewPII (w : World) (e : Ending) (w' : World) : Prop := ∃ (u z : Value) (xs vs : List Int) (s t : Int), e = .returned (.tuple #[u, z, .int .i64 s, .int .i64 t]) ∧ TermsOk xs ∧ VecZ vs ∧ (-10 ≤ s ∧ s ≤ 10) ∧ (-10 ≤ t ∧ t ≤ 10) ∧ Hid (Owns w' w.heap.size u xs) ∧ Hid (Owns w' w.heap.size z vs) ∧ Below w.heap.size w w'

set_option maxRecDepth 100000 in
set_option maxHeartbeats 2000000 in
theorem drawConicPoint_any (v : Value) (n : Nat) (w : World) (h : CodeIn w v n) : Calls Try.prog 9 #[v] w (DrewZ w) := by
  go_enter Try.func9, Try.ntmps9
  go_wp2_with fail
  refine (open_any v n _ h).mono ?_
  rintro e w1 ⟨v1, n1, rfl, HR, HB⟩
  have hsz := HB.size
  go_wp2_with fail
  refine (point_any _ _ _ _ 0 (by omega) _ HR hsz).mono ?_
  rintro e w2 ⟨u, z, xs, vs, q, rfl, HT, HV, HO, HZ, hq, HA, HN⟩
  have HV2 := hid HV
  have HT2 := hid HT
  clear HV HT
  go_wp2
  go_ret2
  exact ⟨u, z, xs, vs, rfl, HT2.out, HV2.out, hid (HO.out.base hsz), hid (HZ.out.base hsz), only_below HB HN.out⟩

set_option maxRecDepth 100000 in
set_option maxHeartbeats 2000000 in
theorem drawConicAt_any (v : Value) (n : Nat) (w : World) (h : CodeIn w v n) : Calls Try.prog 21 #[v] w (DrewPII w) := by
  go_enter Try.func21, Try.ntmps21
  go_wp2_with fail
  refine (open_any v n _ h).mono ?_
  rintro e w1 ⟨v1, n1, rfl, HR, HB⟩
  have hsz := HB.size
  have hlt := HR.out.lt
  go_wp2_with fail
  refine (point_any _ _ _ _ 0 (by omega) _ HR hsz).mono ?_
  rintro e w2 ⟨u, z, xs, vs, q, rfl, HT, HV, HO, HZ, hq, HA, HN⟩
  have HV2 := hid HV
  have HT2 := hid HT
  have hs2 := HN.out.size
  clear HV HT
  go_wp2_with fail
  refine (pick_any _ _ _ _ q 11 (by omega) (by omega) (by omega) _ (HA.out)).mono ?_
  rintro e wHC ⟨s, r, rfl, hs0, hs1, _, hr, HC, HP⟩
  replace hs1 := hs1 (by omega)
  have hs3 := HP.out.size
  go_wp2_with fail
  refine (pick_any _ _ _ _ r 9 (by omega) (by omega) (by omega) _ (HC.out)).mono ?_
  rintro e wHD ⟨t, r2, rfl, ht0, ht1, _, hr2, HD, HQ⟩
  replace ht1 := ht1 (by omega)
  have HPQ := hid (HP.out.trans HQ.out)
  go_wp2
  refine bodyPost_ret (results_tmp4 rfl _ _ _) rfl ?_
  exact ⟨u, z, xs, vs, s - 5, t - 4, rfl, HT2.out, HV2.out, by omega, by omega, hid ((HO.out.only HPQ.out (by omega)).base hsz), hid ((HZ.out.only HPQ.out (by omega)).base hsz), only_below HB (HN.out.trans HPQ.out)⟩

set_option maxRecDepth 100000 in
set_option maxHeartbeats 2000000 in
theorem drawConicMany_any (v : Value) (n : Nat) (w : World) (h : CodeIn w v n) : Calls Try.prog 26 #[v] w (DrewPI w) := by
  go_enter Try.func26, Try.ntmps26
  go_wp2_with fail
  refine (open_any v n _ h).mono ?_
  rintro e w1 ⟨v1, n1, rfl, HR, HB⟩
  have hsz := HB.size
  have hlt := HR.out.lt
  go_wp2_with fail
  refine (point_any _ _ _ _ 0 (by omega) _ HR hsz).mono ?_
  rintro e w2 ⟨u, z, xs, vs, q, rfl, HT, HV, HO, HZ, hq, HA, HN⟩
  have HV2 := hid HV
  have HT2 := hid HT
  have hs2 := HN.out.size
  clear HV HT
  go_wp2_with fail
  refine (pick_any _ _ _ _ q 3 (by omega) (by omega) (by omega) _ (HA.out)).mono ?_
  rintro e wHC ⟨s, r, rfl, hs0, hs1, _, hr, HC, HP⟩
  replace hs1 := hs1 (by omega)
  have hs3 := HP.out.size
  go_wp2_with fail
  refine (pick_any _ _ _ _ r 20 (by omega) (by omega) (by omega) _ (HC.out)).mono ?_
  rintro e wHD ⟨t, r2, rfl, ht0, ht1, _, hr2, HD, HQ⟩
  replace ht1 := ht1 (by omega)
  have hs4 := HQ.out.size
  have ht2 := Int.ediv_nonneg ht0 (show (0 : Int) ≤ 19 by decide)
  have ht3 : t / 19 ≤ 1 := by omega
  go_wp2_with fail
  refine (pick_any _ _ _ _ r2 20 (by omega) (by omega) (by omega) _ (HD.out)).mono ?_
  rintro e wHE ⟨k, r3, rfl, hk0, hk1, _, hr3, HE, HS⟩
  replace hk1 := hk1 (by omega)
  have hk2 := Int.ediv_nonneg hk0 (show (0 : Int) ≤ 19 by decide)
  have hk3 : k / 19 ≤ 1 := by omega
  have HPQ := hid ((HP.out.trans HQ.out).trans HS.out)
  obtain ⟨a, ha⟩ : ∃ a, a = t / 19 := ⟨_, rfl⟩
  obtain ⟨b, hb⟩ : ∃ b, b = k / 19 := ⟨_, rfl⟩
  rw [← ha] at ht2 ht3
  rw [← hb] at hk2 hk3
  go_wp2
  go_ret3
  exact ⟨u, z, xs, vs, _, rfl, HT2.out, HV2.out, by omega, hid ((HO.out.only HPQ.out (by omega)).base hsz), hid ((HZ.out.only HPQ.out (by omega)).base hsz), only_below HB (HN.out.trans HPQ.out)⟩

set_option maxRecDepth 100000 in
set_option maxHeartbeats 4000000 in
theorem drawConicBack_any (v : Value) (n : Nat) (w : World) (h : CodeIn w v n) : Calls Try.prog 24 #[v] w (DrewP3 (fun _ => True) w) := by
  go_enter Try.func24, Try.ntmps24
  go_wp2_with fail
  refine (open_any v n _ h).mono ?_
  rintro e w1 ⟨v1, n1, rfl, HR, HB⟩
  have hsz := HB.size
  have hlt := HR.out.lt
  go_wp2_with fail
  refine (point_any _ _ _ _ 0 (by omega) _ HR hsz).mono ?_
  rintro e w2 ⟨u, z, xs, vs, q, rfl, HT, HV, HO, HZ, hq, HA, HN⟩
  have HV2 := hid HV
  have HT2 := hid HT
  have hs2 := HN.out.size
  have hv6 := HV.1
  clear HV HT
  go_wp2_with fail
  refine (pick_any _ _ _ _ q 9 (by omega) (by omega) (by omega) _ (HA.out)).mono ?_
  rintro e wHC ⟨s, r, rfl, hs0, hs1, _, hr, HC, HP⟩
  replace hs1 := hs1 (by omega)
  have hs3 := HP.out.size
  go_wp2_with fail
  refine (pick_any _ _ _ _ r 9 (by omega) (by omega) (by omega) _ (HC.out)).mono ?_
  rintro e wHD ⟨t, r2, rfl, ht0, ht1, _, hr2, HD, HQ⟩
  replace ht1 := ht1 (by omega)
  have hs4 := HQ.out.size
  have HPQ := hid (HP.out.trans HQ.out)
  have HO2 := hid (HO.out.only HPQ.out (by omega))
  have HZ2 := hid (HZ.out.only HPQ.out (by omega))
  have HN2 := hid (HN.out.trans HPQ.out)
  clear HO HZ HP HQ HPQ HC HA HN
  obtain ⟨k, hk⟩ : ∃ k, k = s - 4 := ⟨_, rfl⟩
  obtain ⟨l, hl⟩ : ∃ l, l = t - 4 := ⟨_, rfl⟩
  go_wp2_with fail
  refine (conicAtS_any _ _ xs vs _ _ _ HO2.out.rd HZ2.out.rd).mono ?_
  obtain ⟨ok, hok⟩ : ∃ ok, ok = otherOk xs vs (headL vs (s - 4) (t - 4)) := ⟨_, rfl⟩
  rintro e w3 ⟨y, rfl, hoy, hb3⟩
  rw [← hok]
  have hs5 := hb3.size
  have hBX := (only_below HB HN2.out).trans (hb3.mono (only_below HB HN2.out).size)
  have HBX := hid hBX
  have HO3 := hid (HO2.out.keep HO2.out.lt hb3)
  have HZ3 := hid (HZ2.out.keep HZ2.out.lt hb3)
  have HR3 := hid (HD.out.kept hb3 HD.out.lt (by have := HD.out.1; have := HD.out.lt; omega))
  have HY := hid hoy
  have hsx := hBX.size
  clear hoy hb3 HO2 HZ2 HN2 HD hok hBX hk hl
  cases ok with
  | false =>
    have HO0 : Hid (Owns (w3.alloc (.cells #[] 3)) w3.heap.size (.slice (some ⟨w3.heap.size, 0, none⟩) 0 0) []) := hid (World.ownsRow_made (size := 1) w3 #[] 0 (Nat.le_refl _) (by unfold maxLen; omega) rfl)
    have HBA := (Below.refl w3.heap.size w3).alloc (Nat.le_refl _) (.cells #[] 3)
    have HZA := hid (HZ3.out.rd.keep HBA)
    have HZF := HZ3.out.firm
    go_wp2_with (at_builtin; refine append_rd rfl _ _ rfl w3.heap.size _ [] rfl HO0.out _ vs rfl HZA.out HZF (by simp; omega) (by simp) ?_; intro v5 w5 o5 g5; have HO5 : Hid (Owns w5 w3.heap.size v5 vs) := hid o5; have hb5 := HBA.grown g5 (by simp) (fun k e => HO0.out.ge k e))
    go_ret3
    exact ⟨_, _, _, xs, vs, vs, rfl, HT2.out, HV2.out, trivial, hid ((HO3.out.keep HO3.out.lt hb5).base (by omega)), hid ((HZ3.out.keep HZ3.out.lt hb5).base (by omega)), hid (HO5.out.base (by omega)), HBX.out.trans (hb5.mono HBX.out.size)⟩
  | true =>
    go_wp2_with fail
    refine (pick_any _ _ _ _ r2 5 (by omega) (by omega) (by omega) _ (HR3.out)).mono ?_
    rintro e wHE ⟨k3, r3, rfl, hk30, hk31, _, hr3, HE, HS⟩
    replace hk31 := hk31 (by omega)
    have hs6 := HS.out.size
    have HO4 := hid (HO3.out.only HS.out (by omega))
    have HZ4 := hid (HZ3.out.only HS.out (by omega))
    have HY4 := hid (HY.out.only HS.out (by omega))
    have HB4 := hid (only_below HBX.out HS.out)
    clear HO3 HZ3 HY HS HBX
    by_cases h3 : 0 < k3
    · go_wp2
      go_ret3
      exact ⟨_, _, _, xs, vs, _, rfl, HT2.out, HV2.out, trivial, hid (HO4.out.base (by omega)), hid (HZ4.out.base (by omega)), hid (HY4.out.base (by omega)), HB4.out⟩
    · obtain rfl : k3 = 0 := by omega
      clear h3
      have HO0 : Hid (Owns (wHE.alloc (.cells #[] 3)) wHE.heap.size (.slice (some ⟨wHE.heap.size, 0, none⟩) 0 0) []) := hid (World.ownsRow_made (size := 1) wHE #[] 0 (Nat.le_refl _) (by unfold maxLen; omega) rfl)
      have HBA := (Below.refl wHE.heap.size wHE).alloc (Nat.le_refl _) (.cells #[] 3)
      have HZA := hid (HZ4.out.rd.keep HBA)
      have HZF := HZ4.out.firm
      go_wp2_with (at_builtin; refine append_rd rfl _ _ rfl wHE.heap.size _ [] rfl HO0.out _ vs rfl HZA.out HZF (by simp; omega) (by simp) ?_; intro v5 w5 o5 g5; have HO5 : Hid (Owns w5 wHE.heap.size v5 vs) := hid o5; have hb5 := HBA.grown g5 (by simp) (fun k e => HO0.out.ge k e))
      go_ret3
      exact ⟨_, _, _, xs, vs, vs, rfl, HT2.out, HV2.out, trivial, hid ((HO4.out.keep HO4.out.lt hb5).base (by omega)), hid ((HZ4.out.keep HZ4.out.lt hb5).base (by omega)), hid (HO5.out.base (by omega)), HB4.out.trans (hb5.mono HB4.out.size)⟩

end Go.Proofs.Ytfjbdbfeolfcfaa

/-! Marks -/
set_option linter.unusedVariables false
namespace Go.Proofs.Ytfjbdbfeolfcfaa
open Go.RowKit

theorem all_eq_of {xs ys : List Int} (hl : xs.length = ys.length) (h : ∀ j, j < xs.length → xs.getD j 0 = ys.getD j 0) : xs = ys := by
  refine List.ext_getElem hl fun j h1 h2 => ?_
  have := h j h1
  simpa [List.getD, List.getElem?_eq_getElem h1, List.getElem?_eq_getElem h2] using this

theorem eqs_len {a b : Int} (h : a ≠ b) : (a != b) = true := by rw [bne_iff_ne]; exact h
theorem eqs_same {a b : Int} (h : a = b) : (a != b) = false := by rw [h]; simp

set_option maxHeartbeats 1000000 in
theorem eqIntS_any (v u : Value) (xs ys : List Int) (w : World) (hx : Rd w v xs) (hy : Rd w u ys) :
    Calls Try.prog 30 #[v, u] w fun e w' => e = .returned (.bool (decide (xs = ys))) ∧ ∃ k, w' = w.drewN k := by
  have form : ∀ {z : Value} {zs : List Int}, Rd w z zs → ∃ a cap, z = .slice a zs.length cap ∧ zs.length ≤ maxLen := by
    rintro z zs (⟨a, cap, rfl, rfl⟩ | ⟨b, o, cap, rfl, _, hm, _⟩)
    · exact ⟨a, cap, rfl, by simp⟩
    · exact ⟨_, _, rfl, hm⟩
  by_cases hl : xs.length = ys.length
  · rcases hx with ⟨a, cap, rfl, rfl⟩ | ⟨b, o, cap, rfl, hp, hm, hcx⟩
    · obtain ⟨a', cap', rfl, _⟩ := form hy
      have e : ys = [] := List.length_eq_zero_iff.1 hl.symm
      have HD : Hid (decide (([] : List Int) = ys) = true) := by show _ = _; rw [e]; rfl
      have HL : ys.length = 0 := hl.symm
      rw [HL]
      clear e hl HL hy
      go_enter Try.func30, Try.ntmps30
      go_wp2
      go_loop [5] (fun i => i = .int .i64 0) (fun _ => 0)
      case atStart => rfl
      case round =>
        obtain rfl := hrel
        go_wp2
        go_ret
        exact ⟨retB (by first | exact HD.out.symm | (rw [eq_comm]; exact HD.out.symm) | (have h := HD.out; simp at h; simp [← h])), 0, rfl⟩
    · rcases hy with ⟨a', cap', rfl, rfl⟩ | ⟨b', o', cap', rfl, _, _, hcy⟩
      · exact absurd hl (by simp; intro e; rw [e] at hp; simp at hp)
      · have T : ((xs.length : Int) != ys.length) = false := eqs_same (by omega)
        unfold maxLen at hm
        have HX := hid hcx
        have HY := hid hcy
        have HL := hid hl
        clear hcx hcy
        go_enter Try.func30, Try.ntmps30
        rw [← hl] at T ⊢
        clear hl
        go_wp2
        go_loopw [5] (fun i wr => ∃ K k : Nat, i = .int .i64 K ∧ K ≤ xs.length ∧ Hid (∀ j, j < K → xs.getD j 0 = ys.getD j 0) ∧ wr = w.drewN k) (fun i _ => xs.length - (intOf i).toNat)
        case atStart => exact ⟨0, 0, rfl, by omega, hid (by omega), rfl⟩
        case round =>
          obtain ⟨K, k, rfl, hK, HE, rfl⟩ := hrel
          by_cases hlt : K < xs.length
          · obtain ⟨x, hx⟩ : ∃ x, x = xs.getD K 0 := ⟨_, rfl⟩
            obtain ⟨y, hy⟩ : ∃ y, y = ys.getD K 0 := ⟨_, rfl⟩
            have c1 := HX.out K hlt
            have c2 := HY.out K (by have := HL.out; omega)
            rw [← hx] at c1
            rw [← hy] at c2
            have Hx := hid hx
            have Hy := hid hy
            clear hx hy
            have hi : (K : Int) < (xs.length : Int) := by omega
            by_cases hxy : x = y
            · have T2 : (x != y) = false := eqs_same hxy
              have HXY := hid hxy
              clear hxy
              go_wp2
              go_quiet (fail)
              go_wp2
              go_roundw
              case rel =>
                exact ⟨K + 1, _, by go_num, by omega, hid (by intro j hj; by_cases e : j = K; (· rw [e, ← Hx.out, ← Hy.out, HXY.out]); (· exact HE.out j (by omega))), by first | rfl | exact World.drewN_drewN ..⟩
              case measure => simp only [intOf]; omega
            · have T2 : (x != y) = true := eqs_len hxy
              have HXY := hid hxy
              clear hxy
              go_wp2
              go_quiet (fail)
              go_wp2
              go_ret
              refine ⟨retB (decide_eq_false fun e => HXY.out ?_).symm, _, by first | rfl | exact World.drewN_drewN ..⟩
              rw [Hx.out, Hy.out, e]
          · go_wp2
            go_ret
            refine ⟨retB (decide_eq_true (all_eq_of HL.out fun j hj => HE.out j (by omega))).symm, _, rfl⟩
  · obtain ⟨a, cap, rfl, m1⟩ := form hx
    obtain ⟨a', cap', rfl, m2⟩ := form hy
    have T : ((xs.length : Int) != ys.length) = true := eqs_len (by omega)
    have HD : Hid (decide (xs = ys) = false) := hid (decide_eq_false fun e => hl (by rw [e]))
    clear hl hx hy
    go_enter Try.func30, Try.ntmps30
    go_wp2
    go_ret
    exact ⟨retB HD.out.symm, 0, rfl⟩

/-- k, k + 1, .. -/
def marksL (k : Int) (n : Nat) : List Int := (List.range n).map (fun (i : Nat) => k + (i : Int))
theorem marksL_len (k : Int) (n : Nat) : (marksL k n).length = n := by simp [marksL]
theorem marksL_get (k : Int) (n i : Nat) (h : i < n) : (marksL k n).getD i 0 = k + i := by simp [marksL, List.getD, h]

/-- the first i numbers are marked -/
def halfL (k : Int) (i : Nat) (xs : List Int) : List Int := marksL k i ++ xs.drop i
theorem halfL_len (k : Int) (i : Nat) (xs : List Int) (h : i ≤ xs.length) : (halfL k i xs).length = xs.length := by simp [halfL, marksL_len]; omega
theorem halfL_step (k : Int) (i : Nat) (xs : List Int) (h : i < xs.length) : (halfL k i xs).set i (k + i) = halfL k (i + 1) xs := by
  unfold halfL
  rw [List.set_append_right _ _ (by simp [marksL_len]), marksL_len, Nat.sub_self, List.drop_eq_getElem_cons h, List.set_cons_zero]
  simp [marksL, List.range_succ]
theorem halfL_end (k : Int) (xs : List Int) : halfL k xs.length xs = marksL k xs.length := by simp [halfL]

end Go.Proofs.Ytfjbdbfeolfcfaa

/-! Same -/
set_option linter.unusedVariables false
namespace Go.Proofs.Ytfjbdbfeolfcfaa
open Go.RowKit

set_option maxHeartbeats 1000000 in
theorem sameInts_any (v u : Value) (xs ys : List Int) (w : World) (hx : Rd w v xs) (hy : Rd w u ys) :
    Calls Try.prog 16 #[v, u] w fun e w' => e = .returned (.bool (decide (xs = ys))) ∧ ∃ k, w' = w.drewN k := by
  have form : ∀ {z : Value} {zs : List Int}, Rd w z zs → ∃ a cap, z = .slice a zs.length cap ∧ zs.length ≤ maxLen := by
    rintro z zs (⟨a, cap, rfl, rfl⟩ | ⟨b, o, cap, rfl, _, hm, _⟩)
    · exact ⟨a, cap, rfl, by simp⟩
    · exact ⟨_, _, rfl, hm⟩
  by_cases hl : xs.length = ys.length
  · rcases hx with ⟨a, cap, rfl, rfl⟩ | ⟨b, o, cap, rfl, hp, hm, hcx⟩
    · obtain ⟨a', cap', rfl, _⟩ := form hy
      have e : ys = [] := List.length_eq_zero_iff.1 hl.symm
      have HD : Hid (decide (([] : List Int) = ys) = true) := by show _ = _; rw [e]; rfl
      have HL : ys.length = 0 := hl.symm
      rw [HL]
      clear e hl HL hy
      go_enter Try.func16, Try.ntmps16
      go_wp2
      go_loop [5] (fun i => i = .int .i64 0) (fun _ => 0)
      case atStart => rfl
      case round =>
        obtain rfl := hrel
        go_wp2
        go_ret
        exact ⟨retB (by first | exact HD.out.symm | (rw [eq_comm]; exact HD.out.symm) | (have h := HD.out; simp at h; simp [← h])), 0, rfl⟩
    · rcases hy with ⟨a', cap', rfl, rfl⟩ | ⟨b', o', cap', rfl, _, _, hcy⟩
      · exact absurd hl (by simp; intro e; rw [e] at hp; simp at hp)
      · have T : ((xs.length : Int) != ys.length) = false := eqs_same (by omega)
        unfold maxLen at hm
        have HX := hid hcx
        have HY := hid hcy
        have HL := hid hl
        clear hcx hcy
        go_enter Try.func16, Try.ntmps16
        rw [← hl] at T ⊢
        clear hl
        go_wp2
        go_loopw [5] (fun i wr => ∃ K k : Nat, i = .int .i64 K ∧ K ≤ xs.length ∧ Hid (∀ j, j < K → xs.getD j 0 = ys.getD j 0) ∧ wr = w.drewN k) (fun i _ => xs.length - (intOf i).toNat)
        case atStart => exact ⟨0, 0, rfl, by omega, hid (by omega), rfl⟩
        case round =>
          obtain ⟨K, k, rfl, hK, HE, rfl⟩ := hrel
          by_cases hlt : K < xs.length
          · obtain ⟨x, hx⟩ : ∃ x, x = xs.getD K 0 := ⟨_, rfl⟩
            obtain ⟨y, hy⟩ : ∃ y, y = ys.getD K 0 := ⟨_, rfl⟩
            have c1 := HX.out K hlt
            have c2 := HY.out K (by have := HL.out; omega)
            rw [← hx] at c1
            rw [← hy] at c2
            have Hx := hid hx
            have Hy := hid hy
            clear hx hy
            have hi : (K : Int) < (xs.length : Int) := by omega
            by_cases hxy : x = y
            · have T2 : (x != y) = false := eqs_same hxy
              have HXY := hid hxy
              clear hxy
              go_wp2
              go_quiet (fail)
              go_wp2
              go_roundw
              case rel =>
                exact ⟨K + 1, _, by go_num, by omega, hid (by intro j hj; by_cases e : j = K; (· rw [e, ← Hx.out, ← Hy.out, HXY.out]); (· exact HE.out j (by omega))), by first | rfl | exact World.drewN_drewN ..⟩
              case measure => simp only [intOf]; omega
            · have T2 : (x != y) = true := eqs_len hxy
              have HXY := hid hxy
              clear hxy
              go_wp2
              go_quiet (fail)
              go_wp2
              go_ret
              refine ⟨retB (decide_eq_false fun e => HXY.out ?_).symm, _, by first | rfl | exact World.drewN_drewN ..⟩
              rw [Hx.out, Hy.out, e]
          · go_wp2
            go_ret
            refine ⟨retB (decide_eq_true (all_eq_of HL.out fun j hj => HE.out j (by omega))).symm, _, rfl⟩
  · obtain ⟨a, cap, rfl, m1⟩ := form hx
    obtain ⟨a', cap', rfl, m2⟩ := form hy
    have T : ((xs.length : Int) != ys.length) = true := eqs_len (by omega)
    have HD : Hid (decide (xs = ys) = false) := hid (decide_eq_false fun e => hl (by rw [e]))
    clear hl hx hy
    go_enter Try.func16, Try.ntmps16
    go_wp2
    go_ret
    exact ⟨retB HD.out.symm, 0, rfl⟩

theorem rd_one {w : World} {k : Nat} (x : Int) (h : w.cell? ⟨k, 0, none⟩ = some (.int .i64 x)) : Rd w (.slice (some ⟨k, 0, none⟩) 1 1) [x] := by
  right
  refine ⟨k, 0, 1, rfl, by simp, by unfold maxLen; simp, fun i hi => ?_⟩
  obtain rfl : i = 0 := by simp at hi; exact hi
  simpa using h

end Go.Proofs.Ytfjbdbfeolfcfaa

/-! LawKit -/
set_option linter.unusedVariables false
namespace Go.Proofs.Ytfjbdbfeolfcfaa
open Go.RowKit

theorem sizeOf_any (n : Int) (h1 : -1000000000000000 ≤ n) (h2 : n ≤ 1000000000000000) (w : World) : Calls Try.prog 14 #[.int .i64 n] w fun e w' => e = .returned (.int .i64 (n.natAbs : Nat)) ∧ w = w' := by
  by_cases h : n < 0
  · have hm : max n (-n) = ((n.natAbs : Nat) : Int) := by omega
    have hm2 : max n (0 - n) = ((n.natAbs : Nat) : Int) := by omega
    go_enter Try.func14, Try.ntmps14
    go_wp2
    go_ret
    exact ⟨retI (by omega), rfl⟩
  · go_enter Try.func14, Try.ntmps14
    go_wp2
    go_ret
    exact ⟨retI (by omega), rfl⟩

end Go.Proofs.Ytfjbdbfeolfcfaa

/-! Draws12 -/
set_option linter.unusedVariables false
namespace Go.Proofs.Ytfjbdbfeolfcfaa
open Go.RowKit

theorem Owns.storedAt {W : World} {B g cap n : Nat} {xs : List Int} (h : Owns W B (.slice (some ⟨g, 0, none⟩) n cap) xs) (j : Nat) (x : Int) :
    Owns (W.setCell ⟨g, j, none⟩ (.int .i64 x)) B (.slice (some ⟨g, 0, none⟩) n cap) (xs.set j x) ∧ W.grownBy (W.setCell ⟨g, j, none⟩ (.int .i64 x)) (some g) := by
  have hn : n = xs.length := by
    rcases h.2 with ⟨h3, _⟩ | ⟨g', cap', cur, h3, _⟩
    · cases h3
    · simp only [Value.slice.injEq] at h3; exact h3.2.1
  subst hn
  have h2 := World.ownsRow.stored h j (.int .i64 x)
  refine ⟨?_, h2.2⟩
  unfold Owns
  rw [List.length_set, List.map_set]
  exact h2.1
theorem Owns.frozenAt' {W : World} {B g cap n : Nat} {xs : List Int} (h : Owns W B (.slice (some ⟨g, 0, none⟩) n cap) xs) (j : Nat) : W.frozen? ⟨g, j, none⟩ = false := by
  have hn : n = xs.length := by
    rcases h.2 with ⟨h3, _⟩ | ⟨g', cap', cur, h3, _⟩
    · cases h3
    · simp only [Value.slice.injEq] at h3; exact h3.2.1
  subst hn
  exact World.ownsRow.frozenAt h j
theorem fv_set {xs : List Int} {x : Int} (h : fvB xs = true) (j : Nat) (h0 : x ≠ 0) (h1 : -30 ≤ x) (h2 : x ≤ 30) : fvB (xs.set j x) = true := by
  obtain ⟨a1, a2, a3⟩ := fvB_iff.1 h
  refine fvB_iff.2 ⟨fun y hy => ?_, by rw [List.length_set]; exact a2, by rw [List.length_set]; exact a3⟩
  rcases List.mem_or_eq_of_mem_set hy with h3 | h3
  · exact a1 y h3
  · rw [h3]; exact ⟨h0, h1, h2⟩
theorem fv_terms {xs : List Int} (h : fvB xs = true) : TermsOk xs := by
  obtain ⟨a1, a2, a3⟩ := fvB_iff.1 h
  exact ⟨by omega, fun x hx => by have := a1 x hx; omega⟩
theorem core_bd {n : Int} (hn : n ≠ 0) : coreG n ≠ 0 ∧ (coreG n).natAbs ≤ n.natAbs := by
  have hc := core_is hn
  refine ⟨hc.ne hn, ?_⟩
  have e : n.natAbs = (coreG n).natAbs * (rootG n * rootG n) := by
    conv => lhs; rw [← hc.eq]
    rw [Int.natAbs_mul, Int.natAbs_mul, Int.natAbs_natCast]
  have := Nat.le_mul_of_pos_right (coreG n).natAbs (Nat.mul_pos hc.pos hc.pos)
  omega
def SamePost (w : World) (B R : Nat) (v : Value) (n p : Nat) (e : Ending) (w' : World) : Prop :=
  ∃ (u : Value) (ys : List Int) (q : Nat), e = .returned u ∧ fvB ys = true ∧ Hid (Owns w' w.heap.size u ys) ∧ q ≤ p + 4 ∧ Hid (Rdr w' B R v n q) ∧ Hid (Only R w w')
theorem SamePost.mk {w : World} {B R : Nat} {v : Value} {n p q : Nat} {u : Value} {ys : List Int} {w' : World} (h : fvB ys = true) (ho : Owns w' w.heap.size u ys) (hq : q ≤ p + 4) (hr : Rdr w' B R v n q) (hn : Only R w w') : SamePost w B R v n p (.returned u) w' :=
  ⟨u, ys, q, rfl, h, hid ho, hq, hid hr, hid hn⟩


end Go.Proofs.Ytfjbdbfeolfcfaa
