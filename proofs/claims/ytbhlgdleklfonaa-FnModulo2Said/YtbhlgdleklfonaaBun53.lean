/-
  Some texts in one file: Draws1 Draws2 Draws6 Jac2 Region.
-/
import Derived.Test.YtbhlgdleklfonaaDraws
import Derived.Maps.AppendAt
import Derived.Test.YtbhlgdleklfonaaBun5
import Derived.Deep.RegionWith
import Derived.Deep.RegionHeld3
import Derived.IntWalk
import Derived.Laws.AppendOwnNone
/-! Draws1 -/
set_option linter.unusedVariables false
namespace Go.Proofs.Ytbhlgdleklfonaa
open Go.RowKit

def Drew1 (P : Int → Prop) (w : World) (e : Ending) (w' : World) : Prop := ∃ x : Int, e = .returned (.int .i64 x) ∧ P x ∧ Below w.heap.size w w'
def Drew2 (P : Int → Int → Prop) (w : World) (e : Ending) (w' : World) : Prop := ∃ x y : Int, e = .returned (.tuple #[.int .i64 x, .int .i64 y]) ∧ P x y ∧ Below w.heap.size w w'
def Drew3 (P : Int → Int → Int → Prop) (w : World) (e : Ending) (w' : World) : Prop := ∃ x y z : Int, e = .returned (.tuple #[.int .i64 x, .int .i64 y, .int .i64 z]) ∧ P x y z ∧ Below w.heap.size w w'
theorem Drew1.mk {P : Int → Prop} {w w' : World} {x : Int} (h : P x) (hb : Below w.heap.size w w') : Drew1 P w (.returned (.int .i64 x)) w' := ⟨x, rfl, h, hb⟩
theorem Drew2.mk {P : Int → Int → Prop} {w w' : World} {x y : Int} (h : P x y) (hb : Below w.heap.size w w') : Drew2 P w (.returned (.tuple #[.int .i64 x, .int .i64 y])) w' := ⟨x, y, rfl, h, hb⟩
theorem Drew3.mk {P : Int → Int → Int → Prop} {w w' : World} {x y z : Int} (h : P x y z) (hb : Below w.heap.size w w') : Drew3 P w (.returned (.tuple #[.int .i64 x, .int .i64 y, .int .i64 z])) w' := ⟨x, y, z, rfl, h, hb⟩
theorem only_below {w w1 w2 : World} (hb : Below w.heap.size w w1) (ho : Only w.heap.size w1 w2) : Below w.heap.size w w2 := hb.trans (ho.below (Nat.le_refl _) hb.size)

/-- ranges -/
def smallI (x : Int) : Prop := -6000 ≤ x ∧ x ≤ 6000
theorem numOk_small {x : Int} (h : numOk x) : -5001 ≤ x ∧ x ≤ 5001 := by unfold numOk at h; omega
theorem prOk_small {x : Int} (h : prOk x) : -3 ≤ x ∧ x ≤ 97 := by unfold prOk at h; omega

end Go.Proofs.Ytbhlgdleklfonaa

/-! Draws2 -/
set_option linter.unusedVariables false
namespace Go.Proofs.Ytbhlgdleklfonaa
open Go.RowKit

/-- the numbers of l91Local -/
def locOk (x : Int) : Prop := numOk x ∨ ∃ a k : Int, 1 ≤ a ∧ a ≤ 9 ∧ 0 ≤ k ∧ k ≤ 2 ∧ x = a * a * (1 + k * 8)
theorem locOk_small {x : Int} (h : locOk x) : -5001 ≤ x ∧ x ≤ 5001 := by
  rcases h with h | ⟨a, k, a1, a9, k0, k2, rfl⟩
  · exact numOk_small h
  · have h1 : a = 1 ∨ a = 2 ∨ a = 3 ∨ a = 4 ∨ a = 5 ∨ a = 6 ∨ a = 7 ∨ a = 8 ∨ a = 9 := by omega
    rcases h1 with rfl | rfl | rfl | rfl | rfl | rfl | rfl | rfl | rfl <;> omega
/-- the second number of l91Pair -/
def parOk (a b : Int) : Prop := numOk b ∨ ∃ x : Int, 1 ≤ x ∧ x ≤ 8 ∧ b = a * x * x
theorem parOk_small {a b : Int} (ha : numOk a) (h : parOk a b) : -320064 ≤ b ∧ b ≤ 320064 := by
  rcases h with h | ⟨x, x1, x8, rfl⟩
  · have := numOk_small h; omega
  · have := numOk_small ha
    have h1 : x = 1 ∨ x = 2 ∨ x = 3 ∨ x = 4 ∨ x = 5 ∨ x = 6 ∨ x = 7 ∨ x = 8 := by omega
    rcases h1 with rfl | rfl | rfl | rfl | rfl | rfl | rfl | rfl <;> omega

end Go.Proofs.Ytbhlgdleklfonaa

/-! Draws6 -/
set_option linter.unusedVariables false
namespace Go.Proofs.Ytbhlgdleklfonaa
open Go.RowKit

theorem Owns.only {W W' : World} {B R : Nat} {v : Value} {xs : List Int} (h : Owns W B v xs) (ho : Only R W W') (hR : R < B) : Owns W' B v xs := by
  obtain ⟨h1, h2⟩ := h
  refine ⟨h1, ?_⟩
  rcases h2 with h2 | ⟨g, cap, cur, hv, hg, hh, r⟩
  · exact .inl h2
  · exact .inr ⟨g, cap, cur, hv, hg, by rw [ho.block g (Array.getElem?_eq_some_iff.1 hh).1 (by omega)]; exact hh, r⟩
theorem Only.grown {R : Nat} {a w w' : World} {row : Option Nat} (h : Only R a w) (hg : w.grownBy w' row) (hr : ∀ k, row = some k → a.heap.size ≤ k) : Only R a w' :=
  ⟨hg.os.trans h.os, hg.tape.trans h.tape, hg.output.trans h.output, Nat.le_trans h.size hg.size, fun k hk hne => (hg.block k (Nat.lt_of_lt_of_le hk h.size) (fun e => by have := hr k e.symm; omega)).trans (h.block k hk hne)⟩
/-- a list whose numbers are small -/
def TermsOk (xs : List Int) : Prop := xs.length ≤ 6 ∧ ∀ x ∈ xs, -31 ≤ x ∧ x ≤ 31
theorem TermsOk.snoc {xs : List Int} {x : Int} (h : TermsOk xs) (hl : xs.length ≤ 5) (h1 : -31 ≤ x) (h2 : x ≤ 31) : TermsOk (xs ++ [x]) :=
  ⟨by rw [List.length_append]; simp; omega, fun y hy => by
    rcases List.mem_append.1 hy with h3 | h3
    · exact h.2 y h3
    · rw [List.mem_singleton] at h3; omega⟩
theorem Owns.slice_of {W : World} {B : Nat} {v : Value} {xs : List Int} (h : Owns W B v xs) (hl : 0 < xs.length) : ∃ g cap, v = .slice (some ⟨g, 0, none⟩) xs.length cap := by
  rcases h.2 with ⟨_, h3⟩ | ⟨g, cap, cur, h3, _⟩
  · cases xs with
    | nil => simp at hl
    | cons x xs => simp at h3
  · exact ⟨g, cap, h3⟩
theorem Owns.stored0 {W : World} {B g cap : Nat} {xs : List Int} (h : Owns W B (.slice (some ⟨g, 0, none⟩) xs.length cap) xs) (x : Int) :
    Owns (W.setCell ⟨g, 0, none⟩ (.int .i64 x)) B (.slice (some ⟨g, 0, none⟩) xs.length cap) (xs.set 0 x) ∧ W.grownBy (W.setCell ⟨g, 0, none⟩ (.int .i64 x)) (some g) := by
  have h2 := World.ownsRow.stored h 0 (.int .i64 x)
  refine ⟨?_, h2.2⟩
  unfold Owns
  rw [List.length_set, List.map_set]
  exact h2.1
def FormPost (c : Nat) (w : World) (B R : Nat) (v : Value) (n p : Nat) (e : Ending) (w' : World) : Prop :=
  ∃ (u : Value) (xs : List Int) (q : Nat), e = .returned u ∧ TermsOk xs ∧ Hid (Owns w' w.heap.size u xs) ∧ q ≤ p + c ∧ Hid (Rdr w' B R v n q) ∧ Hid (Only R w w')
theorem FormPost.mk {c : Nat} {w : World} {B R : Nat} {v : Value} {n p q : Nat} {u : Value} {xs : List Int} {w' : World} (h : TermsOk xs) (ho : Hid (Owns w' w.heap.size u xs)) (hq : q ≤ p + c) (hr : Hid (Rdr w' B R v n q)) (hn : Hid (Only R w w')) : FormPost c w B R v n p (.returned u) w' :=
  ⟨u, xs, q, rfl, h, ho, hq, hr, hn⟩
def litT : Array Value := #[.int .i64 1, .int .i64 2, .int .i64 3, .int .i64 5, .int .i64 6, .int .i64 7, .int .i64 1, .int .i64 10, .int .i64 12, .int .i64 3, .int .i64 15, .int .i64 4, .int .i64 21, .int .i64 1, .int .i64 30, .int .i64 8]
theorem litT_at {y : Int} (h0 : 0 ≤ y) (h1 : y < 16) : ∃ p : Int, litT[y.toNat]? = some (.int .i64 p) ∧ 1 ≤ p ∧ p ≤ 30 := by
  have hall : ∀ i : Nat, i < 16 → ∃ p : Int, litT[i]? = some (.int .i64 p) ∧ 1 ≤ p ∧ p ≤ 30 := fun i hi => by
    have : i = 0 ∨ i = 1 ∨ i = 2 ∨ i = 3 ∨ i = 4 ∨ i = 5 ∨ i = 6 ∨ i = 7 ∨ i = 8 ∨ i = 9 ∨ i = 10 ∨ i = 11 ∨ i = 12 ∨ i = 13 ∨ i = 14 ∨ i = 15 := by omega
    rcases this with rfl | rfl | rfl | rfl | rfl | rfl | rfl | rfl | rfl | rfl | rfl | rfl | rfl | rfl | rfl | rfl
    all_goals exact ⟨_, rfl, by omega, by omega⟩
  exact hall y.toNat (by omega)
theorem TermsOk.set0 {xs : List Int} {x : Int} (h : TermsOk xs) (h1 : -31 ≤ x) (h2 : x ≤ 31) : TermsOk (xs.set 0 x) :=
  ⟨by rw [List.length_set]; exact h.1, fun y hy => by
    rcases List.mem_or_eq_of_mem_set hy with h3 | h3
    · exact h.2 y h3
    · omega⟩

set_option maxRecDepth 100000 in
set_option maxHeartbeats 4000000 in
theorem formDraw_any (B R : Nat) (v : Value) (n p m : Nat) (hp : p ≤ 700000000000000) (hm1 : 1 ≤ m) (hm2 : m ≤ 5) (w : World) (HR : Hid (Rdr w B R v n p)) (hB : B ≤ w.heap.size) :
    Calls Try.prog 68 #[.pointer (some ⟨R, 0, none⟩), .int .i64 m] w (FormPost 20 w B R v n p) := by
  obtain ⟨i0, hi, hz0, hz1, hz2⟩ := info_parts infoInt
  have hRs := HR.out.lt
  have hBR := HR.out.1
  have HO0 : Hid (Owns (w.alloc (.cells #[] 3)) w.heap.size (.slice (some ⟨w.heap.size, 0, none⟩) 0 0) []) := hid (World.ownsRow_made (size := 1) w #[] 0 (Nat.le_refl _) (by unfold maxLen; omega) rfl)
  go_enter Try.func68, Try.ntmps68
  go_wp2_with fail
  refine (pick_any _ _ _ _ p (m : Int) (by omega) (by omega) (by omega) _ (HR.out.alloc (by omega) _)).mono ?_
  rintro e wHA ⟨y, q, rfl, hy0, hy1, _, hq, HA, HO⟩
  replace hy1 := hy1 (by omega)
  have HON := hid (((Only.refl R w).alloc (.cells #[] 3)).trans HO.out)
  have HOW := hid (HO0.out.only HO.out hRs)
  have hs1 := HON.out.size
  have hy5 : y ≤ 4 := by omega
  obtain ⟨N, rfl⟩ := Int.eq_ofNat_of_zero_le hy0
  clear HO0 HO
  go_wp2_with fail
  go_loopw [5, 7] (fun so si wr => ∃ (K r : Nat) (xs : List Int), si = .int .i64 K ∧ K ≤ N + 1 ∧ r ≤ p + 1 + 2 * K ∧ xs.length = K ∧ Hid (TermsOk xs) ∧ Hid (Owns wr w.heap.size so xs) ∧ Hid (Rdr wr B R v n r) ∧ Hid (Only R w wr)) (fun _ si _ => 10 - (intOf si).toNat)
  case atStart => exact ⟨0, q, [], rfl, by omega, by omega, rfl, hid ⟨by simp, fun x hx => by cases hx⟩, HOW, HA, HON⟩
  case round =>
    obtain ⟨K, r, xs, rfl, hK, hr, hxl, HT, HOr, HRr, HNr⟩ := hrel
    rename World => wr
    have hsr := HNr.out.size
    by_cases hlt : K < N + 1
    · have hKi : (K : Int) < 1 + (N : Int) := by omega
      have hRr := HRr.out.lt
      go_wp2_with fail
      refine (pick_any _ _ _ _ r 16 (by omega) (by omega) (by omega) _ (HRr.out.alloc (by omega) _)).mono ?_
      rintro e wHC ⟨k, s, rfl, hk0, hk1, _, hs, HC, HP⟩
      replace hk1 := hk1 (by omega)
      obtain ⟨x, hx, hx1, hx2⟩ := litT_at hk0 hk1
      have c := lit_cell (fr := (0, 0)) HP.out hRr k.toNat
      have hc : wHC.cell? ⟨wr.heap.size, k.toNat, none⟩ = some (.int .i64 x) := c.trans hx
      have HN2 := hid ((HNr.out.alloc (.cells litT 3)).trans HP.out)
      have HO2 := hid ((Owns.only (W' := wHC) (show Owns (wr.alloc (.cells litT 3)) w.heap.size u5 xs from HOr.out.alloc _) HP.out (by omega)))
      have hs2 := HN2.out.size
      clear HOr HRr HNr HP hx c
      go_wp2_with fail
      refine (pick_any _ _ _ _ s 5 (by omega) (by omega) (by omega) _ (HC.out)).mono ?_
      rintro e wHD ⟨k2, s2, rfl, hk20, hk21, _, hs2, HD, HQ⟩
      replace hk21 := hk21 (by omega)
      have HN3 := hid (HN2.out.trans HQ.out)
      have HO3 := hid (HO2.out.only HQ.out (by omega))
      have hs3 := HN3.out.size
      clear HO2 HN2 HQ HC hc
      obtain ⟨z, hz⟩ : ∃ z : Int, z = 0 - x := ⟨_, rfl⟩
      by_cases hneg : k2 < 2
      · skip
        go_wp2_with (at_builtin; refine wpList_append_own_at _ rfl _ _ 23 rfl w.heap.size 3 i0 (.int .i64 0) 1 8 Try.underlying23 hi hz0 hz1 hz2 rfl (by decide) _ _ _ rfl ((show World.ownsRow _ _ _ _ _ _ _ from HO3.out).alloc _) ⟨wHD.heap.size, 0, none⟩ 1 1 [.int .i64 (-x)] rfl rfl (cell_one_new _ _ _) (by simp [Value.oneCell']) (by unfold maxLen; omega) (by omega) (by simp; omega) ?_; intro v' w3 hown' hgrow _ hat)
        have hsg := hgrow.size
        simp only [World.size_alloc] at hsg
        have HN4 := hid ((HN3.out.alloc (.cells #[.int .i64 (-x)] 3)).grown hgrow (fun k e => (HO3.out.ge k e)))
        have HR4 := hid (((HD.out.alloc (by omega) (.cells #[.int .i64 (-x)] 3)).kept (((Below.refl w.heap.size _).grown hgrow (by simp; omega) (fun k e => (HO3.out.ge k e)))) (by omega) (by omega)))
        go_roundw
        case measure => simp only [intOf]; omega
        case rel =>
          exact ⟨K + 1, s2, xs ++ [-x], by go_num, by omega, by omega, by rw [List.length_append]; simp; exact hxl, hid (HT.out.snoc (by omega) (by omega) (by omega)), hid (by unfold Owns; simpa using hown'), HR4, HN4⟩
      · skip
        go_wp2_with (at_builtin; refine wpList_append_own_at _ rfl _ _ 23 rfl w.heap.size 3 i0 (.int .i64 0) 1 8 Try.underlying23 hi hz0 hz1 hz2 rfl (by decide) _ _ _ rfl ((show World.ownsRow _ _ _ _ _ _ _ from HO3.out).alloc _) ⟨wHD.heap.size, 0, none⟩ 1 1 [.int .i64 x] rfl rfl (cell_one_new _ _ _) (by simp [Value.oneCell']) (by unfold maxLen; omega) (by omega) (by simp; omega) ?_; intro v' w3 hown' hgrow _ hat)
        have hsg := hgrow.size
        simp only [World.size_alloc] at hsg
        have HN4 := hid ((HN3.out.alloc (.cells #[.int .i64 x] 3)).grown hgrow (fun k e => (HO3.out.ge k e)))
        have HR4 := hid (((HD.out.alloc (by omega) (.cells #[.int .i64 x] 3)).kept (((Below.refl w.heap.size _).grown hgrow (by simp; omega) (fun k e => (HO3.out.ge k e)))) (by omega) (by omega)))
        go_roundw
        case measure => simp only [intOf]; omega
        case rel =>
          exact ⟨K + 1, s2, xs ++ [x], by go_num, by omega, by omega, by rw [List.length_append]; simp; exact hxl, hid (HT.out.snoc (by omega) (by omega) (by omega)), hid (by unfold Owns; simpa using hown'), HR4, HN4⟩
    · obtain rfl : K = N + 1 := by omega
      have hKi : ¬ ((N + 1 : Nat) : Int) < 1 + (N : Int) := by omega
      go_wp2_with fail
      refine (pick_any _ _ _ _ r 40 (by omega) (by omega) (by omega) _ (HRr.out)).mono ?_
      rintro e wHC ⟨k, s, rfl, hk0, hk1, _, hs, HC, HP⟩
      replace hk1 := hk1 (by omega)
      have HN2 := hid (HNr.out.trans HP.out)
      have HO2 := hid (HOr.out.only HP.out (by omega))
      have hs2 := HN2.out.size
      clear HOr HNr HP
      by_cases hk : k = 0
      · subst hk
        obtain ⟨g, cap, rfl⟩ := HO2.out.slice_of (by omega)
        have hg := HO2.out.ge g rfl
        have hgl := HO2.out.lt g rfl
        have hRw := HC.out.lt
        go_wp2_with fail
        refine (pick_any _ _ _ _ s 2 (by omega) (by omega) (by omega) _ (HC.out.alloc (by omega) _)).mono ?_
        rintro e wHD ⟨k2, s2, rfl, hk20, hk21, _, hs2, HD, HQ⟩
        replace hk21 := hk21 (by omega)
        have HO3 := hid (Owns.only (W' := wHD) (show Owns (wHC.alloc (.cells #[.int .i64 0, .int .i64 31] 3)) w.heap.size (.slice (some ⟨g, 0, none⟩) xs.length cap) xs from HO2.out.alloc _) HQ.out (by omega))
        have HN3 := hid ((HN2.out.alloc (.cells #[.int .i64 0, .int .i64 31] 3)).trans HQ.out)
        have hs3 := HN3.out.size
        have hk2c : k2 = 0 ∨ k2 = 1 := by omega
        have f1 := World.ownsRow.frozenAt HO3.out 0
        have hlen : xs.length = N + 1 := hxl
        have c1 : ∃ x0, wHD.cell? ⟨g, 0, none⟩ = some (.int .i64 x0) := by
          have hK2 : 0 < xs.length := by omega
          refine ⟨xs[0], ?_⟩
          rw [World.ownsRow.cellAt HO3.out 0 (by omega), List.getElem?_map, List.getElem?_eq_getElem hK2]
          rfl
        obtain ⟨x0, c1⟩ := c1
        rcases hk2c with rfl | rfl
        · have c := lit_cell (fr := (0, 0)) HQ.out hRw 0
          simp at c
          have HS := hid (HO3.out.stored0 0)
          have HZ := hid (HT.out.set0 (x := 0) (by omega) (by omega))
          have hi0 : (0 : Int) < (xs.length : Int) := by omega
          go_wp2
          go_ret
          have HS1 := HS.out.1
          rw [hlen] at HS1
          exact FormPost.mk HZ.out (hid HS1) (by omega) (hid (HD.out.kept ((Below.refl w.heap.size _).grown HS.out.2 hs3 (fun k e => by cases e; exact hg)) (by omega) (by omega))) (hid (HN3.out.grown HS.out.2 (fun k e => by cases e; exact hg)))
        · have c := lit_cell (fr := (0, 0)) HQ.out hRw 1
          simp at c
          have HS := hid (HO3.out.stored0 31)
          have HZ := hid (HT.out.set0 (x := 31) (by omega) (by omega))
          have hi0 : (0 : Int) < (xs.length : Int) := by omega
          go_wp2
          go_ret
          have HS1 := HS.out.1
          rw [hlen] at HS1
          exact FormPost.mk HZ.out (hid HS1) (by omega) (hid (HD.out.kept ((Below.refl w.heap.size _).grown HS.out.2 hs3 (fun k e => by cases e; exact hg)) (by omega) (by omega))) (hid (HN3.out.grown HS.out.2 (fun k e => by cases e; exact hg)))
      · by_cases hk : k = 1
        · subst hk
          go_wp2
          go_ret
          exact FormPost.mk (xs := []) ⟨by simp, fun x hx => by cases hx⟩ (hid (World.ownsRow_made (size := 1) wHC #[] 0 (by omega) (by unfold maxLen; omega) rfl)) (by omega) (hid (HC.out.alloc (by omega) _)) (hid (HN2.out.alloc _))
        · go_wp2
          go_ret
          exact FormPost.mk HT.out HO2 (by omega) HC HN2

end Go.Proofs.Ytbhlgdleklfonaa

/-! Jac2 -/
set_option linter.unusedVariables false
namespace Go.Proofs.Ytbhlgdleklfonaa
open Go.RowKit Go.Shelf
attribute [local go_sem] Oper.semAt_some

theorem others_of_below {W W' : World} (h : Below W.heap.size W W') : KeepsOthers W W' := ⟨h.size, fun k o hk _ => by
  rw [h.block k (Array.getElem?_eq_some_iff.1 hk).1]; exact hk⟩
theorem below_of_drew {W W' : World} (h : Below W.drew.heap.size W.drew W') : Below W.heap.size W W' := ⟨h.os, h.tape, h.output, h.size, h.block⟩
theorem boxed_below {W W' : World} {B : Nat} {t : TypeId} {v : Value} (h : Boxed W B t v) (hb : Below W.heap.size W W') : Boxed W' B t v := (hb.block B h.lt).trans h

def jacP (n : Int) (l : List PP) : Int := jacW n (l.map (·.1))
theorem jacP_snoc (n : Int) (l : List PP) (x : PP) : jacP n (l ++ [x]) = jmW (jacP n l) (resV n (x.1.1 : Int)) x.1.2 := by
  unfold jacP; rw [List.map_append]; exact jacW_step n _ _

end Go.Proofs.Ytbhlgdleklfonaa

/-! Region -/
set_option linter.unusedVariables false
namespace Go.Proofs.Ytbhlgdleklfonaa
open Go.RowKit

theorem pred_nat (J : Nat) (h : J ≤ 1000) : IntKind.i64.wrap (((J + 1 : Nat) : Int) - 1) = (J : Int) := by
  rw [IntWalk.i64_in _ (by omega)]; omega

section
variable {P : Program} {ops : Array Oper} {Q : Exit → Act → World → Prop} {md : Region.Mode} {S : World → Prop}
theorem h_take (oi : Oper) {i : Nat} {d : Option Tmp} {v : Value} {fuel : Nat} {listed : Array Bool} {a : Act} {w : World} (hi : ops[i]? = some oi) (hd : oi.dst = d)
    (hs : Region.noSelect ops = true) (hf : Region.free md ops listed i = true) (hr : (Region.ready md ops listed).contains i = true)
    (hQ : ∀ c a w, Q (.panic c) (a.put d v) w → Q (.panic c) a w) (hw : Region.wanted oi (yielded ops a.tmps) = true)
    (hy : ∀ w, S w → (execOp a.eval oi).run P w = .ok (.value v) w) (hS : S w)
    (h : wpAnyH P md ops Q S fuel (listed.setIfInBounds i true) (a.put d v) w) : wpAnyH P md ops Q S (fuel + 1) listed a w := by
  subst hd; exact wpAnyH_take hi hs hf hr hQ (.inl ⟨hw, hy⟩) hS h
theorem h_skip (oi : Oper) {i : Nat} {d : Option Tmp} {fuel : Nat} {listed : Array Bool} {a : Act} {w : World} (hi : ops[i]? = some oi) (hd : oi.dst = d)
    (hs : Region.noSelect ops = true) (hf : Region.free md ops listed i = true) (hr : (Region.ready md ops listed).contains i = true)
    (hQ : ∀ c a w, Q (.panic c) (a.put d undef) w → Q (.panic c) a w) (hw : Region.wanted oi (yielded ops a.tmps) = false) (hS : S w)
    (h : wpAnyH P md ops Q S fuel (listed.setIfInBounds i true) (a.put d undef) w) : wpAnyH P md ops Q S (fuel + 1) listed a w := by
  subst hd; exact wpAnyH_take hi hs hf hr hQ (.inr ⟨hw, rfl⟩) hS h
end

end Go.Proofs.Ytbhlgdleklfonaa
