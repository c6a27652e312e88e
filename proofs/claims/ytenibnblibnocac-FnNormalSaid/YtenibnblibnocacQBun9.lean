/-
  Some texts in one file: Draws1 Draws2 Draws6 Jac2 Region LawMath2 Cls Vals Loc.
-/
import Derived.Test.YtenibnblibnocacQDraws
import Derived.Maps.AppendAt
import Derived.Test.YtenibnblibnocacQBun6
import Derived.Deep.RegionWith
import Derived.Deep.RegionHeld3
import Derived.IntWalk
import Derived.Laws.AppendOwnNone
import Derived.Test.YtenibnblibnocacQLawMath
/-! Draws1 -/
set_option linter.unusedVariables false
namespace Go.Proofs.Ytenibnblibnocac
open Go.RowKit

def Drew1 (P : Int → Prop) (w : World) (e : Ending) (w' : World) : Prop := ∃ x : Int, e = .returned (.int .i64 x) ∧ P x ∧ Below w.heap.size w w'
def Drew2 (P : Int → Int → Prop) (w : World) (e : Ending) (w' : World) : Prop := ∃ x y : Int, e = .returned (.tuple #[.int .i64 x, .int .i64 y]) ∧ P x y ∧ Below w.heap.size w w'
def Drew3 (P : Int → Int → Int → Prop) (w : World) (e : Ending) (w' : World) : Prop := ∃ x y z : Int, e = .returned (.tuple #[.int .i64 x, .int .i64 y, .int .i64 z]) ∧ P x y z ∧ Below w.heap.size w w'
theorem Drew1.mk {P : Int → Prop} {w w' : World} {x : Int} (h : P x) (hb : Below w.heap.size w w') : Drew1 P w (.returned (.int .i64 x)) w' := ⟨x, rfl, h, hb⟩
theorem Drew2.mk {P : Int → Int → Prop} {w w' : World} {x y : Int} (h : P x y) (hb : Below w.heap.size w w') : Drew2 P w (.returned (.tuple #[.int .i64 x, .int .i64 y])) w' := ⟨x, y, rfl, h, hb⟩
theorem Drew3.mk {P : Int → Int → Int → Prop} {w w' : World} {x y z : Int} (h : P x y z) (hb : Below w.heap.size w w') : Drew3 P w (.returned (.tuple #[.int .i64 x, .int .i64 y, .int .i64 z])) w' := ⟨x, y, z, rfl, h, hb⟩
theorem only_below {w w1 w2 : World} (hb : Below w.heap.size w w1) (ho : Only w.heap.size w1 w2) : Below w.heap.size w w2 := hb.trans (ho.below (Nat.le_refl _) hb.size)

/-- ranges -/
def smallI (x : Int) : Prop := -6000 ≤ x ∧ x ≤ 6000
theorem numOk_small {x : Int} (h : numOk x) : -5001 ≤ x ∧ x ≤ 5001 := by unfold numOk at h; omega
theorem prOk_small {x : Int} (h : prOk x) : -3 ≤ x ∧ x ≤ 97 := by unfold prOk at h; omega

end Go.Proofs.Ytenibnblibnocac

/-! Draws2 -/
set_option linter.unusedVariables false
namespace Go.Proofs.Ytenibnblibnocac
open Go.RowKit

/-- the numbers of l91Local -/
def locOk (x : Int) : Prop := numOk x ∨ ∃ a k : Int, 1 ≤ a ∧ a ≤ 9 ∧ 0 ≤ k ∧ k ≤ 2 ∧ x = a * a * (1 + k * 8)
theorem locOk_small {x : Int} (h : locOk x) : -5001 ≤ x ∧ x ≤ 5001 := by
  rcases h with h | ⟨a, k, a1, a9, k0, k2, rfl⟩
  · exact numOk_small h
  · have h1 : a = 1 ∨ a = 2 ∨ a = 3 ∨ a = 4 ∨ a = 5 ∨ a = 6 ∨ a = 7 ∨ a = 8 ∨ a = 9 := by omega
    rcases h1 with rfl | rfl | rfl | rfl | rfl | rfl | rfl | rfl | rfl <;> omega
/-- the second number of l91Pair -/
def parOk (a b : Int) : Prop := numOk b ∨ ∃ x : Int, 1 ≤ x ∧ x ≤ 8 ∧ b = a * x * x
theorem parOk_small {a b : Int} (ha : numOk a) (h : parOk a b) : -320064 ≤ b ∧ b ≤ 320064 := by
  rcases h with h | ⟨x, x1, x8, rfl⟩
  · have := numOk_small h; omega
  · have := numOk_small ha
    have h1 : x = 1 ∨ x = 2 ∨ x = 3 ∨ x = 4 ∨ x = 5 ∨ x = 6 ∨ x = 7 ∨ x = 8 := by omega
    rcases h1 with rfl | rfl | rfl | rfl | rfl | rfl | rfl | rfl <;> omega

end Go.Proofs.Ytenibnblibnocac

/-! Draws6 -/
set_option linter.unusedVariables false
namespace Go.Proofs.Ytenibnblibnocac
open Go.RowKit

theorem Owns.only {W W' : World} {B R : Nat} {v : Value} {xs : List Int} (h : Owns W B v xs) (ho : Only R W W') (hR : R < B) : Owns W' B v xs := by
  obtain ⟨h1, h2⟩ := h
  refine ⟨h1, ?_⟩
  rcases h2 with h2 | ⟨g, cap, cur, hv, hg, hh, r⟩
  · exact .inl h2
  · exact .inr ⟨g, cap, cur, hv, hg, by rw [ho.block g (Array.getElem?_eq_some_iff.1 hh).1 (by omega)]; exact hh, r⟩
theorem Only.grown {R : Nat} {a w w' : World} {row : Option Nat} (h : Only R a w) (hg : w.grownBy w' row) (hr : ∀ k, row = some k → a.heap.size ≤ k) : Only R a w' :=
  ⟨hg.os.trans h.os, hg.tape.trans h.tape, hg.output.trans h.output, Nat.le_trans h.size hg.size, fun k hk hne => (hg.block k (Nat.lt_of_lt_of_le hk h.size) (fun e => by have := hr k e.symm; omega)).trans (h.block k hk hne)⟩
/-- a list whose numbers are small -/
def TermsOk (xs : List Int) : Prop := xs.length ≤ 6 ∧ ∀ x ∈ xs, -31 ≤ x ∧ x ≤ 31
theorem TermsOk.snoc {xs : List Int} {x : Int} (h : TermsOk xs) (hl : xs.length ≤ 5) (h1 : -31 ≤ x) (h2 : x ≤ 31) : TermsOk (xs ++ [x]) :=
  ⟨by rw [List.length_append]; simp; omega, fun y hy => by
    rcases List.mem_append.1 hy with h3 | h3
    · exact h.2 y h3
    · rw [List.mem_singleton] at h3; omega⟩
theorem Owns.slice_of {W : World} {B : Nat} {v : Value} {xs : List Int} (h : Owns W B v xs) (hl : 0 < xs.length) : ∃ g cap, v = .slice (some ⟨g, 0, none⟩) xs.length cap := by
  rcases h.2 with ⟨_, h3⟩ | ⟨g, cap, cur, h3, _⟩
  · cases xs with
    | nil => simp at hl
    | cons x xs => simp at h3
  · exact ⟨g, cap, h3⟩
theorem Owns.stored0 {W : World} {B g cap : Nat} {xs : List Int} (h : Owns W B (.slice (some ⟨g, 0, none⟩) xs.length cap) xs) (x : Int) :
    Owns (W.setCell ⟨g, 0, none⟩ (.int .i64 x)) B (.slice (some ⟨g, 0, none⟩) xs.length cap) (xs.set 0 x) ∧ W.grownBy (W.setCell ⟨g, 0, none⟩ (.int .i64 x)) (some g) := by
  have h2 := World.ownsRow.stored h 0 (.int .i64 x)
  refine ⟨?_, h2.2⟩
  unfold Owns
  rw [List.length_set, List.map_set]
  exact h2.1
def FormPost (c : Nat) (w : World) (B R : Nat) (v : Value) (n p : Nat) (e : Ending) (w' : World) : Prop :=
  ∃ (u : Value) (xs : List Int) (q : Nat), e = .returned u ∧ TermsOk xs ∧ Hid (Owns w' w.heap.size u xs) ∧ q ≤ p + c ∧ Hid (Rdr w' B R v n q) ∧ Hid (Only R w w')
theorem FormPost.mk {c : Nat} {w : World} {B R : Nat} {v : Value} {n p q : Nat} {u : Value} {xs : List Int} {w' : World} (h : TermsOk xs) (ho : Hid (Owns w' w.heap.size u xs)) (hq : q ≤ p + c) (hr : Hid (Rdr w' B R v n q)) (hn : Hid (Only R w w')) : FormPost c w B R v n p (.returned u) w' :=
  ⟨u, xs, q, rfl, h, ho, hq, hr, hn⟩
def litT : Array Value := #[.int .i64 1, .int .i64 2, .int .i64 3, .int .i64 5, .int .i64 6, .int .i64 7, .int .i64 1, .int .i64 10, .int .i64 12, .int .i64 3, .int .i64 15, .int .i64 4, .int .i64 21, .int .i64 1, .int .i64 30, .int .i64 8]
theorem litT_at {y : Int} (h0 : 0 ≤ y) (h1 : y < 16) : ∃ p : Int, litT[y.toNat]? = some (.int .i64 p) ∧ 1 ≤ p ∧ p ≤ 30 := by
  have hall : ∀ i : Nat, i < 16 → ∃ p : Int, litT[i]? = some (.int .i64 p) ∧ 1 ≤ p ∧ p ≤ 30 := fun i hi => by
    have : i = 0 ∨ i = 1 ∨ i = 2 ∨ i = 3 ∨ i = 4 ∨ i = 5 ∨ i = 6 ∨ i = 7 ∨ i = 8 ∨ i = 9 ∨ i = 10 ∨ i = 11 ∨ i = 12 ∨ i = 13 ∨ i = 14 ∨ i = 15 := by omega
    rcases this with rfl | rfl | rfl | rfl | rfl | rfl | rfl | rfl | rfl | rfl | rfl | rfl | rfl | rfl | rfl | rfl
    all_goals exact ⟨_, rfl, by omega, by omega⟩
  exact hall y.toNat (by omega)
theorem TermsOk.set0 {xs : List Int} {x : Int} (h : TermsOk xs) (h1 : -31 ≤ x) (h2 : x ≤ 31) : TermsOk (xs.set 0 x) :=
  ⟨by rw [List.length_set]; exact h.1, fun y hy => by
    rcases List.mem_or_eq_of_mem_set hy with h3 | h3
    · exact h.2 y h3
    · omega⟩

set_option maxRecDepth 100000 in
set_option maxHeartbeats 4000000 in
theorem formDraw_any (B R : Nat) (v : Value) (n p m : Nat) (hp : p ≤ 700000000000000) (hm1 : 1 ≤ m) (hm2 : m ≤ 5) (w : World) (HR : Hid (Rdr w B R v n p)) (hB : B ≤ w.heap.size) :
    Calls Try.prog 27 #[.pointer (some ⟨R, 0, none⟩), .int .i64 m] w (FormPost 20 w B R v n p) := by
  obtain ⟨i0, hi, hz0, hz1, hz2⟩ := info_parts infoInt
  have hRs := HR.out.lt
  have hBR := HR.out.1
  have HO0 : Hid (Owns (w.alloc (.cells #[] 3)) w.heap.size (.slice (some ⟨w.heap.size, 0, none⟩) 0 0) []) := hid (World.ownsRow_made (size := 1) w #[] 0 (Nat.le_refl _) (by unfold maxLen; omega) rfl)
  go_enter Try.func27, Try.ntmps27
  go_wp2_with fail
  refine (pick_any _ _ _ _ p (m : Int) (by omega) (by omega) (by omega) _ (HR.out.alloc (by omega) _)).mono ?_
  rintro e wHA ⟨y, q, rfl, hy0, hy1, _, hq, HA, HO⟩
  replace hy1 := hy1 (by omega)
  have HON := hid (((Only.refl R w).alloc (.cells #[] 3)).trans HO.out)
  have HOW := hid (HO0.out.only HO.out hRs)
  have hs1 := HON.out.size
  have hy5 : y ≤ 4 := by omega
  obtain ⟨N, rfl⟩ := Int.eq_ofNat_of_zero_le hy0
  clear HO0 HO
  go_wp2_with fail
  go_loopw [5, 7] (fun so si wr => ∃ (K r : Nat) (xs : List Int), si = .int .i64 K ∧ K ≤ N + 1 ∧ r ≤ p + 1 + 2 * K ∧ xs.length = K ∧ Hid (TermsOk xs) ∧ Hid (Owns wr w.heap.size so xs) ∧ Hid (Rdr wr B R v n r) ∧ Hid (Only R w wr)) (fun _ si _ => 10 - (intOf si).toNat)
  case atStart => exact ⟨0, q, [], rfl, by omega, by omega, rfl, hid ⟨by simp, fun x hx => by cases hx⟩, HOW, HA, HON⟩
  case round =>
    obtain ⟨K, r, xs, rfl, hK, hr, hxl, HT, HOr, HRr, HNr⟩ := hrel
    rename World => wr
    have hsr := HNr.out.size
    by_cases hlt : K < N + 1
    · have hKi : (K : Int) < 1 + (N : Int) := by omega
      have hRr := HRr.out.lt
      go_wp2_with fail
      refine (pick_any _ _ _ _ r 16 (by omega) (by omega) (by omega) _ (HRr.out.alloc (by omega) _)).mono ?_
      rintro e wHC ⟨k, s, rfl, hk0, hk1, _, hs, HC, HP⟩
      replace hk1 := hk1 (by omega)
      obtain ⟨x, hx, hx1, hx2⟩ := litT_at hk0 hk1
      have c := lit_cell (fr := (0, 0)) HP.out hRr k.toNat
      have hc : wHC.cell? ⟨wr.heap.size, k.toNat, none⟩ = some (.int .i64 x) := c.trans hx
      have HN2 := hid ((HNr.out.alloc (.cells litT 3)).trans HP.out)
      have HO2 := hid ((Owns.only (W' := wHC) (show Owns (wr.alloc (.cells litT 3)) w.heap.size u5 xs from HOr.out.alloc _) HP.out (by omega)))
      have hs2 := HN2.out.size
      clear HOr HRr HNr HP hx c
      go_wp2_with fail
      refine (pick_any _ _ _ _ s 5 (by omega) (by omega) (by omega) _ (HC.out)).mono ?_
      rintro e wHD ⟨k2, s2, rfl, hk20, hk21, _, hs2, HD, HQ⟩
      replace hk21 := hk21 (by omega)
      have HN3 := hid (HN2.out.trans HQ.out)
      have HO3 := hid (HO2.out.only HQ.out (by omega))
      have hs3 := HN3.out.size
      clear HO2 HN2 HQ HC hc
      obtain ⟨z, hz⟩ : ∃ z : Int, z = 0 - x := ⟨_, rfl⟩
      by_cases hneg : k2 < 2
      · skip
        go_wp2_with (at_builtin; refine wpList_append_own_at _ rfl _ _ 23 rfl w.heap.size 3 i0 (.int .i64 0) 1 8 Try.underlying23 hi hz0 hz1 hz2 rfl (by decide) _ _ _ rfl ((show World.ownsRow _ _ _ _ _ _ _ from HO3.out).alloc _) ⟨wHD.heap.size, 0, none⟩ 1 1 [.int .i64 (-x)] rfl rfl (cell_one_new _ _ _) (by simp [Value.oneCell']) (by unfold maxLen; omega) (by omega) (by simp; omega) ?_; intro v' w3 hown' hgrow _ hat)
        have hsg := hgrow.size
        simp only [World.size_alloc] at hsg
        have HN4 := hid ((HN3.out.alloc (.cells #[.int .i64 (-x)] 3)).grown hgrow (fun k e => (HO3.out.ge k e)))
        have HR4 := hid (((HD.out.alloc (by omega) (.cells #[.int .i64 (-x)] 3)).kept (((Below.refl w.heap.size _).grown hgrow (by simp; omega) (fun k e => (HO3.out.ge k e)))) (by omega) (by omega)))
        go_roundw
        case measure => simp only [intOf]; omega
        case rel =>
          exact ⟨K + 1, s2, xs ++ [-x], by go_num, by omega, by omega, by rw [List.length_append]; simp; exact hxl, hid (HT.out.snoc (by omega) (by omega) (by omega)), hid (by unfold Owns; simpa using hown'), HR4, HN4⟩
      · skip
        go_wp2_with (at_builtin; refine wpList_append_own_at _ rfl _ _ 23 rfl w.heap.size 3 i0 (.int .i64 0) 1 8 Try.underlying23 hi hz0 hz1 hz2 rfl (by decide) _ _ _ rfl ((show World.ownsRow _ _ _ _ _ _ _ from HO3.out).alloc _) ⟨wHD.heap.size, 0, none⟩ 1 1 [.int .i64 x] rfl rfl (cell_one_new _ _ _) (by simp [Value.oneCell']) (by unfold maxLen; omega) (by omega) (by simp; omega) ?_; intro v' w3 hown' hgrow _ hat)
        have hsg := hgrow.size
        simp only [World.size_alloc] at hsg
        have HN4 := hid ((HN3.out.alloc (.cells #[.int .i64 x] 3)).grown hgrow (fun k e => (HO3.out.ge k e)))
        have HR4 := hid (((HD.out.alloc (by omega) (.cells #[.int .i64 x] 3)).kept (((Below.refl w.heap.size _).grown hgrow (by simp; omega) (fun k e => (HO3.out.ge k e)))) (by omega) (by omega)))
        go_roundw
        case measure => simp only [intOf]; omega
        case rel =>
          exact ⟨K + 1, s2, xs ++ [x], by go_num, by omega, by omega, by rw [List.length_append]; simp; exact hxl, hid (HT.out.snoc (by omega) (by omega) (by omega)), hid (by unfold Owns; simpa using hown'), HR4, HN4⟩
    · obtain rfl : K = N + 1 := by omega
      have hKi : ¬ ((N + 1 : Nat) : Int) < 1 + (N : Int) := by omega
      go_wp2_with fail
      refine (pick_any _ _ _ _ r 40 (by omega) (by omega) (by omega) _ (HRr.out)).mono ?_
      rintro e wHC ⟨k, s, rfl, hk0, hk1, _, hs, HC, HP⟩
      replace hk1 := hk1 (by omega)
      have HN2 := hid (HNr.out.trans HP.out)
      have HO2 := hid (HOr.out.only HP.out (by omega))
      have hs2 := HN2.out.size
      clear HOr HNr HP
      by_cases hk : k = 0
      · subst hk
        obtain ⟨g, cap, rfl⟩ := HO2.out.slice_of (by omega)
        have hg := HO2.out.ge g rfl
        have hgl := HO2.out.lt g rfl
        have hRw := HC.out.lt
        go_wp2_with fail
        refine (pick_any _ _ _ _ s 2 (by omega) (by omega) (by omega) _ (HC.out.alloc (by omega) _)).mono ?_
        rintro e wHD ⟨k2, s2, rfl, hk20, hk21, _, hs2, HD, HQ⟩
        replace hk21 := hk21 (by omega)
        have HO3 := hid (Owns.only (W' := wHD) (show Owns (wHC.alloc (.cells #[.int .i64 0, .int .i64 31] 3)) w.heap.size (.slice (some ⟨g, 0, none⟩) xs.length cap) xs from HO2.out.alloc _) HQ.out (by omega))
        have HN3 := hid ((HN2.out.alloc (.cells #[.int .i64 0, .int .i64 31] 3)).trans HQ.out)
        have hs3 := HN3.out.size
        have hk2c : k2 = 0 ∨ k2 = 1 := by omega
        have f1 := World.ownsRow.frozenAt HO3.out 0
        have hlen : xs.length = N + 1 := hxl
        have c1 : ∃ x0, wHD.cell? ⟨g, 0, none⟩ = some (.int .i64 x0) := by
          have hK2 : 0 < xs.length := by omega
          refine ⟨xs[0], ?_⟩
          rw [World.ownsRow.cellAt HO3.out 0 (by omega), List.getElem?_map, List.getElem?_eq_getElem hK2]
          rfl
        obtain ⟨x0, c1⟩ := c1
        rcases hk2c with rfl | rfl
        · have c := lit_cell (fr := (0, 0)) HQ.out hRw 0
          simp at c
          have HS := hid (HO3.out.stored0 0)
          have HZ := hid (HT.out.set0 (x := 0) (by omega) (by omega))
          have hi0 : (0 : Int) < (xs.length : Int) := by omega
          go_wp2
          go_ret
          have HS1 := HS.out.1
          rw [hlen] at HS1
          exact FormPost.mk HZ.out (hid HS1) (by omega) (hid (HD.out.kept ((Below.refl w.heap.size _).grown HS.out.2 hs3 (fun k e => by cases e; exact hg)) (by omega) (by omega))) (hid (HN3.out.grown HS.out.2 (fun k e => by cases e; exact hg)))
        · have c := lit_cell (fr := (0, 0)) HQ.out hRw 1
          simp at c
          have HS := hid (HO3.out.stored0 31)
          have HZ := hid (HT.out.set0 (x := 31) (by omega) (by omega))
          have hi0 : (0 : Int) < (xs.length : Int) := by omega
          go_wp2
          go_ret
          have HS1 := HS.out.1
          rw [hlen] at HS1
          exact FormPost.mk HZ.out (hid HS1) (by omega) (hid (HD.out.kept ((Below.refl w.heap.size _).grown HS.out.2 hs3 (fun k e => by cases e; exact hg)) (by omega) (by omega))) (hid (HN3.out.grown HS.out.2 (fun k e => by cases e; exact hg)))
      · by_cases hk : k = 1
        · subst hk
          go_wp2
          go_ret
          exact FormPost.mk (xs := []) ⟨by simp, fun x hx => by cases hx⟩ (hid (World.ownsRow_made (size := 1) wHC #[] 0 (by omega) (by unfold maxLen; omega) rfl)) (by omega) (hid (HC.out.alloc (by omega) _)) (hid (HN2.out.alloc _))
        · go_wp2
          go_ret
          exact FormPost.mk HT.out HO2 (by omega) HC HN2

end Go.Proofs.Ytenibnblibnocac

/-! Jac2 -/
set_option linter.unusedVariables false
namespace Go.Proofs.Ytenibnblibnocac
open Go.RowKit Go.Shelf
attribute [local go_sem] Oper.semAt_some

theorem others_of_below {W W' : World} (h : Below W.heap.size W W') : KeepsOthers W W' := ⟨h.size, fun k o hk _ => by
  rw [h.block k (Array.getElem?_eq_some_iff.1 hk).1]; exact hk⟩
theorem below_of_drew {W W' : World} (h : Below W.drew.heap.size W.drew W') : Below W.heap.size W W' := ⟨h.os, h.tape, h.output, h.size, h.block⟩
theorem boxed_below {W W' : World} {B : Nat} {t : TypeId} {v : Value} (h : Boxed W B t v) (hb : Below W.heap.size W W') : Boxed W' B t v := (hb.block B h.lt).trans h

def jacP (n : Int) (l : List PP) : Int := jacW n (l.map (·.1))
theorem jacP_snoc (n : Int) (l : List PP) (x : PP) : jacP n (l ++ [x]) = jmW (jacP n l) (resV n (x.1.1 : Int)) x.1.2 := by
  unfold jacP; rw [List.map_append]; exact jacW_step n _ _

end Go.Proofs.Ytenibnblibnocac

/-! Region -/
set_option linter.unusedVariables false
namespace Go.Proofs.Ytenibnblibnocac
open Go.RowKit

theorem pred_nat (J : Nat) (h : J ≤ 1000) : IntKind.i64.wrap (((J + 1 : Nat) : Int) - 1) = (J : Int) := by
  rw [IntWalk.i64_in _ (by omega)]; omega

section
variable {P : Program} {ops : Array Oper} {Q : Exit → Act → World → Prop} {md : Region.Mode} {S : World → Prop}
theorem h_take (oi : Oper) {i : Nat} {d : Option Tmp} {v : Value} {fuel : Nat} {listed : Array Bool} {a : Act} {w : World} (hi : ops[i]? = some oi) (hd : oi.dst = d)
    (hs : Region.noSelect ops = true) (hf : Region.free md ops listed i = true) (hr : (Region.ready md ops listed).contains i = true)
    (hQ : ∀ c a w, Q (.panic c) (a.put d v) w → Q (.panic c) a w) (hw : Region.wanted oi (yielded ops a.tmps) = true)
    (hy : ∀ w, S w → (execOp a.eval oi).run P w = .ok (.value v) w) (hS : S w)
    (h : wpAnyH P md ops Q S fuel (listed.setIfInBounds i true) (a.put d v) w) : wpAnyH P md ops Q S (fuel + 1) listed a w := by
  subst hd; exact wpAnyH_take hi hs hf hr hQ (.inl ⟨hw, hy⟩) hS h
theorem h_skip (oi : Oper) {i : Nat} {d : Option Tmp} {fuel : Nat} {listed : Array Bool} {a : Act} {w : World} (hi : ops[i]? = some oi) (hd : oi.dst = d)
    (hs : Region.noSelect ops = true) (hf : Region.free md ops listed i = true) (hr : (Region.ready md ops listed).contains i = true)
    (hQ : ∀ c a w, Q (.panic c) (a.put d undef) w → Q (.panic c) a w) (hw : Region.wanted oi (yielded ops a.tmps) = false) (hS : S w)
    (h : wpAnyH P md ops Q S fuel (listed.setIfInBounds i true) (a.put d undef) w) : wpAnyH P md ops Q S (fuel + 1) listed a w := by
  subst hd; exact wpAnyH_take hi hs hf hr hQ (.inr ⟨hw, rfl⟩) hS h
end

end Go.Proofs.Ytenibnblibnocac

/-! LawMath2 -/
set_option linter.unusedVariables false
namespace Go.Proofs.Ytenibnblibnocac
open Go.RowKit

theorem emod_toNat_mul (n k : Int) (p : Nat) (hp : 0 < p) : (n * k % (p : Int)).toNat = (n % (p : Int)).toNat * (k % (p : Int)).toNat % p := by
  have h1 := Int.emod_nonneg n (show (p : Int) ≠ 0 by omega)
  have h2 := Int.emod_nonneg k (show (p : Int) ≠ 0 by omega)
  obtain ⟨a, ha⟩ := Int.eq_ofNat_of_zero_le h1
  obtain ⟨b, hb⟩ := Int.eq_ofNat_of_zero_le h2
  rw [Int.mul_emod, ha, hb]
  have e : ((a : Int) * (b : Int)) % (p : Int) = ((a * b % p : Nat) : Int) := by push_cast; rfl
  rw [e]
  simp only [Int.toNat_natCast]
theorem resN_mulI {p : Nat} (h : primeN p = true) (h3 : 3 ≤ p) (n k : Int) : resN (n * k % (p : Int)).toNat p = resN (n % (p : Int)).toNat p * resN (k % (p : Int)).toNat p := by
  have lt : ∀ x : Int, (x % (p : Int)).toNat < p := fun x => by
    have := Int.emod_lt_of_pos x (show (0 : Int) < p by omega)
    have := Int.emod_nonneg x (show (p : Int) ≠ 0 by omega)
    omega
  rw [emod_toNat_mul n k p (by omega), resN_mul h h3, Nat.mod_eq_of_lt (lt n), Nat.mod_eq_of_lt (lt k)]

theorem jm_mul (a b r s : Int) : ∀ k, jm (a * b) (r * s) k = jm a r k * jm b s k
  | 0 => rfl
  | k + 1 => by
    unfold jm
    rw [jm_mul a b r s k, Int.mul_assoc, Int.mul_assoc, Int.mul_left_comm (jm b s k) r s]
theorem jac_fold_mul (n k : Int) : ∀ l : List (Nat × Nat), (∀ x ∈ l, primeN x.1 = true ∧ 3 ≤ x.1) → ∀ a b : Int,
    l.foldl (fun a x => jm a (resN (n * k % (x.1 : Int)).toNat x.1) x.2) (a * b) = l.foldl (fun a x => jm a (resN (n % (x.1 : Int)).toNat x.1) x.2) a * l.foldl (fun a x => jm a (resN (k % (x.1 : Int)).toNat x.1) x.2) b
  | [], _, a, b => rfl
  | x :: l, hl, a, b => by
    obtain ⟨hp, h3⟩ := hl x (by simp)
    simp only [List.foldl_cons]
    rw [resN_mulI hp h3, jm_mul]
    exact jac_fold_mul n k l (fun y hy => hl y (by simp [hy])) _ _
theorem jac_mul {m : Nat} (h1 : 1 ≤ m) (h2 : m ≤ 5000) (ho : m % 2 = 1) (n k : Int) : jacF (n * k) (ppow m) = jacF n (ppow m) * jacF k (ppow m) := by
  have := jac_fold_mul n k (ppow m) (odd_pp h1 h2 ho) 1 1
  rw [Int.mul_one] at this
  exact this
theorem jac_fold_period (n m : Int) : ∀ l : List (Nat × Nat), (∀ x ∈ l, (x.1 : Int) ∣ m) → ∀ a : Int,
    l.foldl (fun a x => jm a (resN ((n + m) % (x.1 : Int)).toNat x.1) x.2) a = l.foldl (fun a x => jm a (resN (n % (x.1 : Int)).toNat x.1) x.2) a
  | [], _, a => rfl
  | x :: l, hl, a => by
    simp only [List.foldl_cons]
    have e : (n + m) % (x.1 : Int) = n % (x.1 : Int) := by
      obtain ⟨c, hc⟩ := hl x (by simp)
      rw [hc, Int.add_mul_emod_self_left]
    rw [e]
    exact jac_fold_period n m l (fun y hy => hl y (by simp [hy])) _
theorem jac_period {m : Nat} (h1 : 1 ≤ m) (h2 : m ≤ 5000) (n : Int) : jacF (n + m) (ppow m) = jacF n (ppow m) :=
  jac_fold_period n m _ (fun x hx => by
    have := (pp_mem h1 h2 hx).2.2.2
    exact Int.natCast_dvd_natCast.2 (Nat.dvd_of_mod_eq_zero this)) 1

def suppOk (m : Nat) : Bool := decide (m % 2 = 0) || (((jacF (-1) (ppow m) == 1) == decide (m % 4 = 1)) && ((jacF 2 (ppow m) == 1) == (decide (m % 8 = 1) || decide (m % 8 = 7))))
theorem suppOk_all : (List.range 120).all suppOk = true := by decide +kernel
theorem supp {m : Nat} (h : m ≤ 119) (ho : m % 2 = 1) : (jacF (-1) (ppow m) == 1) = decide (m % 4 = 1) ∧ (jacF 2 (ppow m) == 1) = (decide (m % 8 = 1) || decide (m % 8 = 7)) := by
  have := List.all_eq_true.1 suppOk_all m (List.mem_range.2 (by omega))
  unfold suppOk at this
  rw [decide_eq_false (by omega)] at this
  simp only [Bool.false_or, Bool.and_eq_true, beq_iff_eq] at this
  exact ⟨this.1, this.2⟩

def eulerOk (p : Nat) : Bool := (List.range p).all (fun r => ((rootF r p).isSome == (resN r p != -1)) && ((resN r p == 0) == decide (r = 0)))
theorem eulerOk_all : [3, 5, 7, 11, 13, 97].all eulerOk = true := by decide +kernel
theorem euler_small {p r : Nat} (hp : p = 3 ∨ p = 5 ∨ p = 7 ∨ p = 11 ∨ p = 13 ∨ p = 97) (hr : r < p) : (rootF r p).isSome = (resN r p != -1) ∧ (resN r p == 0) = decide (r = 0) := by
  have := List.all_eq_true.1 eulerOk_all p (by simp; omega)
  have := List.all_eq_true.1 this r (List.mem_range.2 hr)
  simp only [Bool.and_eq_true, beq_iff_eq] at this
  exact this
theorem odd_drawn {p : Int} (h : prOk p) (ho : oddP p = true) : p = 3 ∨ p = 5 ∨ p = 7 ∨ p = 11 ∨ p = 13 ∨ p = 97 := by
  unfold prOk at h
  rcases h with rfl | rfl | rfl | rfl | rfl | rfl | rfl | rfl | rfl | rfl | rfl | rfl
  all_goals first | omega | (exact absurd ho (by decide))

end Go.Proofs.Ytenibnblibnocac

/-! Cls -/
set_option linter.unusedVariables false
namespace Go.Proofs.Ytenibnblibnocac
open Go.RowKit

/-- is it a place? -/
def plI (q : Int) : Bool := decide (q = 0) || primeI q
theorem plI_cases {q : Int} (h : plI q = true) : q = 0 ∨ q = 2 ∨ ∃ P : Nat, q = (P : Int) ∧ primeN P = true ∧ 3 ≤ P ∧ P ≤ 5000 := by
  unfold plI at h
  rcases Bool.or_eq_true _ _ ▸ h with h | h
  · exact .inl (of_decide_eq_true h)
  · have hb := primeI_bd h
    by_cases h2 : q = 2
    · exact .inr (.inl h2)
    · exact .inr (.inr ⟨q.toNat, by omega, h, by omega, by omega⟩)
theorem plI_bd {q : Int} (h : plI q = true) : 0 ≤ q ∧ q ≤ 5000 := by
  rcases plI_cases h with rfl | rfl | ⟨P, rfl, _, h3, h5⟩ <;> omega

/-- what is left behind dividing by p -/
def unitI (n p : Int) : Int := n.tdiv (p ^ val n.natAbs p.toNat)
theorem unit_eq {n : Int} {P : Nat} (h : primeN P = true) (hn : n ≠ 0) : unitI n (P : Int) * (P : Int) ^ val n.natAbs P = n := by
  unfold unitI
  rw [Int.toNat_natCast]
  refine Int.tdiv_mul_cancel ?_
  have := val_dvd P (primeN_bd h).1 n.natAbs n.natAbs (Nat.le_refl _) (by omega)
  have e : ((P : Int) ^ val n.natAbs P) = ((P ^ val n.natAbs P : Nat) : Int) := by push_cast; rfl
  rw [e]
  exact Int.ofNat_dvd_left.2 this
theorem unit_ne {n : Int} {P : Nat} (h : primeN P = true) (hn : n ≠ 0) : unitI n (P : Int) ≠ 0 := by
  intro e
  have := unit_eq h hn
  rw [e, Int.zero_mul] at this
  exact hn this.symm
theorem val_pow {P : Nat} (h : primeN P = true) : ∀ k, val (P ^ k) P = k
  | 0 => by
    have := (primeN_bd h).1
    rw [Nat.pow_zero]
    exact val_stop (by rw [Nat.mod_eq_of_lt (by omega)]; omega)
  | k + 1 => by
    have := (primeN_bd h).1
    rw [Nat.pow_succ, val_mul h _ _ _ (Nat.le_refl _) (Nat.pow_pos (by omega)) (by omega), val_pow h k, val_self h]
theorem unit_val {n : Int} {P : Nat} (h : primeN P = true) (hn : n ≠ 0) : val (unitI n (P : Int)).natAbs P = 0 := by
  have h2 := (primeN_bd h).1
  have hu := unit_ne h hn
  have e : n.natAbs = (unitI n (P : Int)).natAbs * P ^ val n.natAbs P := by
    conv => lhs; rw [← unit_eq h hn]
    rw [Int.natAbs_mul, Int.natAbs_pow, Int.natAbs_natCast]
  have hv := val_mul h _ (unitI n (P : Int)).natAbs (P ^ val n.natAbs P) (Nat.le_refl _) (by omega) (Nat.pow_pos (by omega))
  rw [← e, val_pow h] at hv
  omega
theorem unit_dvd {n : Int} {P : Nat} (h : primeN P = true) (hn : n ≠ 0) : ¬ P ∣ (unitI n (P : Int)).natAbs := by
  intro hd
  have h2 := (primeN_bd h).1
  have hu := unit_ne h hn
  have := val_step h2 (show 0 < (unitI n (P : Int)).natAbs by omega) (Nat.mod_eq_zero_of_dvd hd)
  rw [unit_val h hn] at this
  omega
theorem val_mulI {a b : Int} {P : Nat} (h : primeN P = true) (ha : a ≠ 0) (hb : b ≠ 0) : val (a * b).natAbs P = val a.natAbs P + val b.natAbs P := by
  rw [Int.natAbs_mul]
  exact val_mul h _ _ _ (Nat.le_refl _) (by omega) (by omega)
theorem unit_mul {a b : Int} {P : Nat} (h : primeN P = true) (ha : a ≠ 0) (hb : b ≠ 0) : unitI (a * b) (P : Int) = unitI a P * unitI b P := by
  have h2 := (primeN_bd h).1
  have hab : a * b ≠ 0 := Int.mul_ne_zero ha hb
  have e1 := unit_eq h hab
  have e2 := unit_eq h ha
  have e3 := unit_eq h hb
  rw [val_mulI h ha hb, Int.pow_add] at e1
  have hp : (0 : Int) < (P : Int) ^ val a.natAbs P * (P : Int) ^ val b.natAbs P := Int.mul_pos (Int.pow_pos (by omega)) (Int.pow_pos (by omega))
  refine Int.eq_of_mul_eq_mul_right (show (P : Int) ^ val a.natAbs P * (P : Int) ^ val b.natAbs P ≠ 0 by omega) ?_
  rw [e1]
  conv => lhs; rw [← e2, ← e3]
  rw [Int.mul_assoc, Int.mul_assoc]
  congr 1
  rw [← Int.mul_assoc, Int.mul_comm _ (unitI b (P : Int)), Int.mul_assoc]

/-- a power of what p doesn't divide is not divided -/
theorem pow_ndvd {P r : Nat} (h : primeN P = true) (hr : ¬ P ∣ r) : ∀ k, ¬ P ∣ r ^ k
  | 0 => by
    have := (primeN_bd h).1
    rw [Nat.pow_zero, Nat.dvd_one]
    omega
  | k + 1 => by
    rw [Nat.pow_succ]
    intro hd
    rcases prime_mul h hd with hd | hd
    · exact pow_ndvd h hr k hd
    · exact hr hd
theorem res_unit {P r : Nat} (h : primeN P = true) (h3 : 3 ≤ P) (hr : ¬ P ∣ r) : resN r P = 1 ∨ resN r P = -1 := by
  unfold resN
  rcases euler_three h h3 r with e | e | e
  · exact absurd (Nat.dvd_of_mod_eq_zero e) (pow_ndvd h hr _)
  · rw [e, if_neg (by omega)]; exact .inl rfl
  · rw [e, if_pos rfl]; exact .inr rfl
theorem emod_ndvd {P : Nat} {n : Int} (hP : 0 < P) (h : ¬ P ∣ n.natAbs) : ¬ P ∣ (n % (P : Int)).toNat := by
  intro hd
  apply h
  have h1 := Int.emod_nonneg n (show (P : Int) ≠ 0 by omega)
  have h2 : (P : Int) ∣ n % (P : Int) := by
    obtain ⟨k, hk⟩ := hd
    exact ⟨(k : Int), by have : ((n % (P : Int)).toNat : Int) = n % (P : Int) := Int.toNat_of_nonneg h1
                         rw [← this, hk]; push_cast; rfl⟩
  have h3 : (P : Int) ∣ n := by
    rw [← Int.emod_add_mul_ediv n P]
    exact Int.dvd_add h2 (Int.dvd_mul_right _ _)
  exact Int.ofNat_dvd_left.1 h3

/-- the class of a number that is not 0 at a place -/
def cls (n q : Int) : Nat × Int := if q = 0 then (0, if 0 < n then 1 else -1) else (val n.natAbs q.toNat % 2, if q = 2 then unitI n 2 % 8 else resN (unitI n q % q).toNat q.toNat)
def comb (q : Int) (a b : Nat × Int) : Nat × Int := ((a.1 + b.1) % 2, if q = 2 then a.2 * b.2 % 8 else a.2 * b.2)
def clsList (q : Int) : List (Nat × Int) := if q = 0 then [(0, 1), (0, -1)] else if q = 2 then [(0, 1), (0, 3), (0, 5), (0, 7), (1, 1), (1, 3), (1, 5), (1, 7)] else [(0, 1), (0, -1), (1, 1), (1, -1)]
def sqAt (n q : Int) : Bool := cls n q == (0, 1)

theorem prime2 : primeN 2 = true := rfl
theorem cls_zero (n : Int) : cls n 0 = (0, if 0 < n then 1 else -1) := rfl
theorem cls_two (n : Int) : cls n 2 = (val n.natAbs 2 % 2, unitI n 2 % 8) := rfl
theorem cls_odd {P : Nat} (h3 : 3 ≤ P) (n : Int) : cls n (P : Int) = (val n.natAbs P % 2, resN (unitI n P % (P : Int)).toNat P) := by
  unfold cls
  rw [if_neg (by omega), if_neg (by omega), Int.toNat_natCast]

theorem cls_mem {n q : Int} (hn : n ≠ 0) (hq : plI q = true) : cls n q ∈ clsList q := by
  rcases plI_cases hq with rfl | rfl | ⟨P, rfl, hP, h3, h5⟩
  · rw [cls_zero]
    by_cases h : 0 < n
    · rw [if_pos h]; simp [clsList]
    · rw [if_neg h]; simp [clsList]
  · rw [cls_two]
    have h1 : val n.natAbs 2 % 2 = 0 ∨ val n.natAbs 2 % 2 = 1 := by omega
    have hu : ¬ 2 ∣ (unitI n 2).natAbs := unit_dvd prime2 hn
    have h2 : unitI n 2 % 8 = 1 ∨ unitI n 2 % 8 = 3 ∨ unitI n 2 % 8 = 5 ∨ unitI n 2 % 8 = 7 := by omega
    rcases h1 with h1 | h1 <;> rcases h2 with h2 | h2 | h2 | h2 <;> rw [h1, h2] <;> simp [clsList]
  · rw [cls_odd h3]
    have h1 : val n.natAbs P % 2 = 0 ∨ val n.natAbs P % 2 = 1 := by omega
    have h2 := res_unit hP h3 (emod_ndvd (by omega) (unit_dvd hP hn))
    rcases h1 with h1 | h1 <;> rcases h2 with h2 | h2 <;> rw [h1, h2] <;> (unfold clsList; rw [if_neg (by omega), if_neg (by omega)]; decide)

theorem cls_mul {a b q : Int} (ha : a ≠ 0) (hb : b ≠ 0) (hq : plI q = true) : cls (a * b) q = comb q (cls a q) (cls b q) := by
  rcases plI_cases hq with rfl | rfl | ⟨P, rfl, hP, h3, h5⟩
  · rw [cls_zero, cls_zero, cls_zero]
    unfold comb
    have hs : (0 < a * b) ↔ ((0 < a) = (0 < b)) := by
      rcases Int.lt_or_gt_of_ne ha with h1 | h1 <;> rcases Int.lt_or_gt_of_ne hb with h2 | h2
      · have := Int.mul_pos_of_neg_of_neg h1 h2
        simp [this, show ¬ 0 < a by omega, show ¬ 0 < b by omega]
      · have := Int.mul_neg_of_neg_of_pos h1 h2
        simp [show ¬ 0 < a * b by omega, show ¬ 0 < a by omega, show 0 < b by omega]
      · have := Int.mul_neg_of_pos_of_neg h1 h2
        simp [show ¬ 0 < a * b by omega, show 0 < a by omega, show ¬ 0 < b by omega]
      · have := Int.mul_pos h1 h2
        simp [this, show 0 < a by omega, show 0 < b by omega]
    by_cases h1 : 0 < a <;> by_cases h2 : 0 < b <;> simp [hs, h1, h2]
  · rw [cls_two, cls_two, cls_two, show (2 : Int) = ((2 : Nat) : Int) from rfl, val_mulI prime2 ha hb, unit_mul prime2 ha hb]
    unfold comb
    simp only [Prod.mk.injEq]
    exact ⟨by omega, by simp [Int.mul_emod]⟩
  · rw [cls_odd h3, cls_odd h3, cls_odd h3, val_mulI hP ha hb, unit_mul hP ha hb, resN_mulI hP h3]
    unfold comb
    rw [if_neg (by omega)]
    simp only [Prod.mk.injEq]
    exact ⟨by omega, trivial⟩

theorem comb_one {q : Int} (hq : plI q = true) {c d : Nat × Int} (hc : c ∈ clsList q) (hd : d ∈ clsList q) : comb q c d = (0, 1) ↔ c = d := by
  rcases plI_cases hq with rfl | rfl | ⟨P, rfl, hP, h3, h5⟩
  · exact (show ∀ c ∈ clsList 0, ∀ d ∈ clsList 0, (comb 0 c d = (0, 1) ↔ c = d) by decide) c hc d hd
  · exact (show ∀ c ∈ clsList 2, ∀ d ∈ clsList 2, (comb 2 c d = (0, 1) ↔ c = d) by decide) c hc d hd
  · have e0 : ¬ ((P : Int) = 0) := by omega
    have e2 : ¬ ((P : Int) = 2) := by omega
    unfold clsList at hc hd
    rw [if_neg e0, if_neg e2] at hc hd
    unfold comb
    rw [if_neg e2]
    exact (show ∀ c ∈ [((0 : Nat), (1 : Int)), (0, -1), (1, 1), (1, -1)], ∀ d ∈ [((0 : Nat), (1 : Int)), (0, -1), (1, 1), (1, -1)], (((c.1 + d.1) % 2, c.2 * d.2) = ((0 : Nat), (1 : Int)) ↔ c = d) by decide) c hc d hd

theorem getD_at {α : Type} (l : List α) (i : Nat) (h : i < l.length) (d : α) : l.getD i d = l[i] := by simp [List.getD, h]

/-- the names at a place -/
def namesOf (q : Int) : List Int := if q = 0 then [1, -1] else if q = 2 then [1, 3, 5, 7, 2, 6, 10, 14] else [1, ((noneF q.toNat : Nat) : Int), q, q * ((noneF q.toNat : Nat) : Int)]
theorem names_zero : namesOf 0 = [1, -1] := rfl
theorem names_two : namesOf 2 = [1, 3, 5, 7, 2, 6, 10, 14] := rfl
theorem names_odd {P : Nat} (h3 : 3 ≤ P) : namesOf (P : Int) = [1, ((noneF P : Nat) : Int), (P : Int), (P : Int) * ((noneF P : Nat) : Int)] := by
  unfold namesOf
  rw [if_neg (by omega), if_neg (by omega), Int.toNat_natCast]

theorem unit_self {P : Nat} (h : primeN P = true) {n : Int} (hn : ¬ P ∣ n.natAbs) (h0 : n ≠ 0) : val n.natAbs P = 0 ∧ unitI n (P : Int) = n := by
  have e : val n.natAbs P = 0 := val_stop (fun he => hn (Nat.dvd_of_mod_eq_zero he))
  refine ⟨e, ?_⟩
  have := unit_eq h h0
  rw [e, Int.pow_zero, Int.mul_one] at this
  exact this
theorem unit_p {P : Nat} (h : primeN P = true) : val (P : Int).natAbs P = 1 ∧ unitI (P : Int) (P : Int) = 1 := by
  have h2 := (primeN_bd h).1
  have e : val (P : Int).natAbs P = 1 := by rw [Int.natAbs_natCast]; exact val_self h
  refine ⟨e, ?_⟩
  have := unit_eq h (show (P : Int) ≠ 0 by omega)
  rw [e, Int.pow_one] at this
  exact Int.eq_of_mul_eq_mul_right (show (P : Int) ≠ 0 by omega) (by rw [this, Int.one_mul])
theorem pw_one (e : Nat) {P : Nat} (h : 2 ≤ P) : pw 1 e P = 1 := by
  unfold pw; rw [Nat.one_pow, Nat.mod_eq_of_lt (by omega)]
theorem resN_one {P : Nat} (h3 : 3 ≤ P) : resN 1 P = 1 := by
  unfold resN
  rw [pw_one _ (by omega), if_neg (by omega)]
  rfl

theorem names_cls {q : Int} (hq : plI q = true) : (namesOf q).map (fun m => cls m q) = clsList q := by
  rcases plI_cases hq with rfl | rfl | ⟨P, rfl, hP, h3, h5⟩
  · decide
  · decide +kernel
  · obtain ⟨s1, s2, s3, s4, _⟩ := noneF_spec hP h3
    rw [names_odd h3]
    have c1 : cls 1 (P : Int) = (0, 1) := by
      have hd : ¬ P ∣ (1 : Int).natAbs := by
        intro hd
        have := Nat.le_of_dvd (by decide) hd
        have : (1 : Int).natAbs = 1 := rfl
        omega
      obtain ⟨a, b⟩ := unit_self hP hd (by decide)
      rw [cls_odd h3, a, b, show ((1 : Int) % (P : Int)).toNat = 1 by rw [Int.emod_eq_of_lt (by omega) (by omega)]; rfl, resN_one h3]
    have cu : cls ((noneF P : Nat) : Int) (P : Int) = (0, -1) := by
      have hd : ¬ P ∣ ((noneF P : Nat) : Int).natAbs := by
        intro hd
        rw [Int.natAbs_natCast] at hd
        have := Nat.le_of_dvd (by omega) hd
        omega
      obtain ⟨a, b⟩ := unit_self hP hd (by omega)
      rw [cls_odd h3, a, b, show (((noneF P : Nat) : Int) % (P : Int)).toNat = noneF P % P by rw [← Int.natCast_emod, Int.toNat_natCast], s4]
    have cp : cls (P : Int) (P : Int) = (1, 1) := by
      obtain ⟨a, b⟩ := unit_p hP
      rw [cls_odd h3, a, b, show ((1 : Int) % (P : Int)).toNat = 1 by rw [Int.emod_eq_of_lt (by omega) (by omega)]; rfl, resN_one h3]
    have cpu : cls ((P : Int) * (noneF P : Nat)) (P : Int) = (1, -1) := by
      rw [cls_mul (by omega) (by omega) hq, cp, cu]
      unfold comb
      rw [if_neg (by omega)]
      decide
    simp only [List.map_cons, List.map_nil, c1, cu, cp, cpu]
    unfold clsList
    rw [if_neg (by omega), if_neg (by omega)]

theorem cls_nodup (q : Int) : (clsList q).Nodup := by
  unfold clsList
  split
  · decide
  · split <;> decide
theorem names_len {q : Int} (hq : plI q = true) : (namesOf q).length = (clsList q).length := by
  rw [← names_cls hq, List.length_map]
theorem names_ne {q : Int} (hq : plI q = true) : ∀ m ∈ namesOf q, m ≠ 0 := by
  rcases plI_cases hq with rfl | rfl | ⟨P, rfl, hP, h3, h5⟩
  · decide
  · decide
  · obtain ⟨s1, s2, s3, s4, _⟩ := noneF_spec hP h3
    rw [names_odd h3]
    intro m hm
    simp only [List.mem_cons, List.mem_nil_iff, or_false] at hm
    rcases hm with rfl | rfl | rfl | rfl
    · decide
    · omega
    · omega
    · exact Int.mul_ne_zero (by omega) (by omega)
theorem names_bd {q : Int} (hq : plI q = true) : ∀ m ∈ namesOf q, -1 ≤ m ∧ m ≤ 315000 := by
  rcases plI_cases hq with rfl | rfl | ⟨P, rfl, hP, h3, h5⟩
  · decide
  · decide
  · obtain ⟨s1, s2, s3, s4, _⟩ := noneF_spec hP h3
    rw [names_odd h3]
    intro m hm
    simp only [List.mem_cons, List.mem_nil_iff, or_false] at hm
    rcases hm with rfl | rfl | rfl | rfl
    · omega
    · omega
    · omega
    · have := Nat.mul_le_mul h5 (show noneF P ≤ 63 by omega)
      have e : (P : Int) * (noneF P : Nat) = ((P * noneF P : Nat) : Int) := by push_cast; rfl
      rw [e]; omega

/-- the place of a class among the classes -/
def clsIdx (n q : Int) : Nat := (clsList q).idxOf (cls n q)
/-- the name of a number's class -/
def nameOf (n q : Int) : Int := (namesOf q).getD (clsIdx n q) 0
theorem clsIdx_lt {n q : Int} (hn : n ≠ 0) (hq : plI q = true) : clsIdx n q < (namesOf q).length := by
  rw [names_len hq]; exact List.idxOf_lt_length_iff.2 (cls_mem hn hq)
theorem cls_at {q : Int} (hq : plI q = true) (i : Nat) (h : i < (namesOf q).length) : cls ((namesOf q).getD i 0) q = (clsList q).getD i (0, 0) := by
  have hl := names_len hq
  rw [getD_at _ _ h, getD_at _ _ (by omega)]
  have := congrArg (fun l => l[i]?) (names_cls hq)
  simp only [List.getElem?_map, List.getElem?_eq_getElem h, List.getElem?_eq_getElem (show i < (clsList q).length by omega), Option.map_some, Option.some.injEq] at this
  exact this
theorem idx_at {n q : Int} (hn : n ≠ 0) (hq : plI q = true) : (clsList q).getD (clsIdx n q) (0, 0) = cls n q := by
  have h := List.idxOf_lt_length_iff.2 (cls_mem hn hq)
  unfold clsIdx
  rw [getD_at _ _ h]
  exact List.getElem_idxOf h
theorem idx_uniq {n q : Int} (hn : n ≠ 0) (hq : plI q = true) {i : Nat} (h : i < (namesOf q).length) (e : (clsList q).getD i (0, 0) = cls n q) : i = clsIdx n q := by
  have hl := names_len hq
  have h2 := clsIdx_lt hn hq
  have e2 := idx_at hn hq
  rw [getD_at _ _ (by omega)] at e e2
  have hnd := List.pairwise_iff_getElem.1 (cls_nodup q)
  rcases Nat.lt_trichotomy i (clsIdx n q) with hlt | he | hlt
  · exact absurd (by rw [e, e2]) (hnd _ _ (by omega) (by omega) hlt)
  · exact he
  · exact absurd (by rw [e, e2]) (hnd _ _ (by omega) (by omega) hlt)
theorem cls_name {n q : Int} (hn : n ≠ 0) (hq : plI q = true) : cls (nameOf n q) q = cls n q := by
  unfold nameOf
  rw [cls_at hq _ (clsIdx_lt hn hq), idx_at hn hq]
theorem name_mem {n q : Int} (hn : n ≠ 0) (hq : plI q = true) : nameOf n q ∈ namesOf q := by
  unfold nameOf
  rw [getD_at _ _ (clsIdx_lt hn hq)]
  exact List.getElem_mem _
theorem name_ne {n q : Int} (hn : n ≠ 0) (hq : plI q = true) : nameOf n q ≠ 0 := names_ne hq _ (name_mem hn hq)
theorem name_congr {a b q : Int} (h : cls a q = cls b q) : nameOf a q = nameOf b q := by unfold nameOf clsIdx; rw [h]
/-- the test with the name number i -/
theorem sq_name {n q : Int} (hn : n ≠ 0) (hq : plI q = true) {i : Nat} (h : i < (namesOf q).length) : sqAt (n * (namesOf q).getD i 0) q = decide (i = clsIdx n q) := by
  have hm : (namesOf q).getD i 0 ∈ namesOf q := by rw [getD_at _ _ h]; exact List.getElem_mem _
  have h0 := names_ne hq _ hm
  unfold sqAt
  rw [cls_mul hn h0 hq]
  by_cases e : i = clsIdx n q
  · rw [decide_eq_true e, beq_iff_eq, comb_one hq (cls_mem hn hq) (cls_mem h0 hq), cls_at hq i h, e, idx_at hn hq]
  · rw [decide_eq_false e, beq_eq_false_iff_ne]
    intro he
    rw [comb_one hq (cls_mem hn hq) (cls_mem h0 hq), cls_at hq i h] at he
    exact e (idx_uniq hn hq h he.symm)
theorem sq_mul {a b q : Int} (ha : a ≠ 0) (hb : b ≠ 0) (hq : plI q = true) : sqAt (a * b) q = decide (cls a q = cls b q) := by
  unfold sqAt
  rw [cls_mul ha hb hq]
  by_cases e : cls a q = cls b q
  · rw [decide_eq_true e, beq_iff_eq, comb_one hq (cls_mem ha hq) (cls_mem hb hq), e]
  · rw [decide_eq_false e, beq_eq_false_iff_ne]
    intro he
    exact e ((comb_one hq (cls_mem ha hq) (cls_mem hb hq)).1 he)

theorem mul_bdI {a b : Int} (h1 : -5000 ≤ a) (h2 : a ≤ 5000) (h3 : -5000 ≤ b) (h4 : b ≤ 5000) : -25000000 ≤ a * b ∧ a * b ≤ 25000000 := by
  have h : (a * b).natAbs ≤ 25000000 := by
    rw [Int.natAbs_mul]
    exact Nat.le_trans (Nat.mul_le_mul (show a.natAbs ≤ 5000 by omega) (show b.natAbs ≤ 5000 by omega)) (by decide)
  omega

end Go.Proofs.Ytenibnblibnocac

/-! Vals -/
set_option linter.unusedVariables false
namespace Go.Proofs.Ytenibnblibnocac
open Go.RowKit

def okAt (n q : Int) : Bool := factB n && plI q
theorem okAt_cases (n q : Int) : (-5000 ≤ n ∧ n ≤ 5000 ∧ n ≠ 0 ∧ plI q = true ∧ okAt n q = true) ∨ okAt n q = false := by
  unfold okAt
  rcases factB_cases n with ⟨h1, h2, h0, O, hF⟩ | ⟨rfl, hF⟩ | ⟨h0, O, hF⟩
  · cases h : plI q
    · right; simp
    · left; exact ⟨h1, h2, h0, rfl, by rw [hF]; rfl⟩
  · right; rw [hF]; rfl
  · right; rw [hF]; rfl
def lsV (n q : Int) : Bool := okAt n q && sqAt n q
def lsameV (a b q : Int) : Bool := okAt a q && (okAt b q && decide (cls a q = cls b q))
def lnamesL (q : Int) : List Int := if plI q then namesOf q else []
def lnameV (n q : Int) : Value := if okAt n q then .tuple #[.int .i64 (nameOf n q), .bool true] else .tuple #[.int .i64 0, .bool false]
theorem lnameV_yes {n q : Int} (h : okAt n q = true) : lnameV n q = .tuple #[.int .i64 (nameOf n q), .bool true] := by unfold lnameV; rw [if_pos h]
theorem lnameV_no {n q : Int} (h : okAt n q = false) : lnameV n q = .tuple #[.int .i64 0, .bool false] := by unfold lnameV; rw [if_neg (by rw [h]; decide)]
def lmulV (a b q : Int) : Value := if okAt a q && okAt b q then .tuple #[.int .i64 (nameOf (a * b) q), .bool true] else .tuple #[.int .i64 0, .bool false]
def lunitV (n p : Int) : Value := if factB n && primeI p then .tuple #[.int .i64 (unitI n p), .bool true] else .tuple #[.int .i64 0, .bool false]
/-- the odd primes of a number behind 0 and 2 -/
def placesOf (n : Int) : List Int := [0, 2] ++ (natsI (plist n.natAbs)).filter (fun x => decide (2 < x))
theorem natsI_get {l : List Nat} {i : Nat} (h : i < (natsI l).length) : ∃ x : Nat, (natsI l).getD i 0 = (x : Int) ∧ x ∈ l := by
  unfold natsI at h ⊢
  rw [List.length_map] at h
  exact ⟨l[i], by rw [getD_at _ _ (by rw [List.length_map]; exact h)]; simp, List.getElem_mem h⟩
def plistOk (N : Nat) : Bool := (plist N).all (fun x => primeN x && decide (N = 0 ∨ N % x = 0)) && decide ((plist N).length ≤ 70)
theorem plistOk_all : (List.range 5001).all plistOk = true := by decide +kernel
theorem plist_ok {N : Nat} (h2 : N ≤ 5000) : (plist N).length ≤ 70 ∧ ∀ x ∈ plist N, primeN x = true ∧ (N = 0 ∨ N % x = 0) := by
  have := List.all_eq_true.1 plistOk_all N (List.mem_range.2 (by omega))
  unfold plistOk at this
  rw [Bool.and_eq_true] at this
  refine ⟨of_decide_eq_true this.2, fun x hx => ?_⟩
  have := List.all_eq_true.1 this.1 x hx
  rw [Bool.and_eq_true] at this
  exact ⟨this.1, of_decide_eq_true this.2⟩
theorem placesOf_ok {n : Int} (h0 : n ≠ 0) (h1 : -5000 ≤ n) (h2 : n ≤ 5000) : (placesOf n).length ≤ 72 ∧ ∀ q ∈ placesOf n, plI q = true := by
  obtain ⟨hl, hp⟩ := plist_ok (show n.natAbs ≤ 5000 by omega)
  unfold placesOf
  constructor
  · have h3 := List.length_filter_le (fun x : Int => decide (2 < x)) (natsI (plist n.natAbs))
    have h4 : (natsI (plist n.natAbs)).length = (plist n.natAbs).length := by unfold natsI; rw [List.length_map]
    rw [List.length_append]
    simp only [List.length_cons, List.length_nil]
    omega
  · intro q hq
    simp only [List.cons_append, List.nil_append, List.mem_cons] at hq
    rcases hq with rfl | rfl | hq
    · rfl
    · rfl
    · have hm := (List.mem_filter.1 hq).1
      unfold natsI at hm
      rw [List.mem_map] at hm
      obtain ⟨x, hx, rfl⟩ := hm
      have := (hp x hx).1
      unfold plI
      rw [show primeI (x : Int) = true from this, Bool.or_true]
def lplacesL (n : Int) : List Int := if factB n then (placesOf n).filter (fun q => !sqAt n q) else []
def lrootOk (n p k : Int) : Bool := okN n && (primeI p && (inR k 1 12 && decide (p.toNat ^ k.toNat ≤ 5000)))
def rootT (o : Option Nat) : Value := match o with | some x => .tuple #[.int .i64 (x : Nat), .bool true] | none => .tuple #[.int .i64 0, .bool false]
def lrootV (n p k : Int) : Value := if lrootOk n p k then rootT (rootF (n % ((p.toNat ^ k.toNat : Nat) : Int)).toNat (p.toNat ^ k.toNat)) else .tuple #[.int .i64 0, .bool false]
theorem lrootV_no {n p k : Int} (h : lrootOk n p k = false) : lrootV n p k = .tuple #[.int .i64 0, .bool false] := by unfold lrootV; rw [if_neg (by rw [h]; decide)]
theorem cap_step {P A i : Nat} (hP : 1 ≤ P) (h : A = min (P ^ i) 5001) : min (A * P) 5001 = min (P ^ (i + 1)) 5001 := by
  rw [Nat.pow_succ]
  have h1 : 1 ≤ P ^ i := Nat.pow_pos (by omega)
  by_cases hc : P ^ i ≤ 5001
  · rw [h, Nat.min_eq_left hc]
  · have e : min (P ^ i) 5001 = 5001 := Nat.min_eq_right (by omega)
    rw [h, e]
    have h2 := Nat.mul_le_mul_left 5001 hP
    have h3 := Nat.mul_le_mul_left (P ^ i) hP
    omega

end Go.Proofs.Ytenibnblibnocac

/-! Loc -/
set_option linter.unusedVariables false
namespace Go.Proofs.Ytenibnblibnocac
open Go.RowKit

theorem owns_lit {W : World} {B : Nat} (xs : List Int) (cur : Array Value) (hc : cur = (xs.map (Value.int .i64)).toArray) (hB : B ≤ W.heap.size) (hm : xs.length ≤ maxLen) :
    Owns (W.alloc (.cells cur 3)) B (.slice (some ⟨W.heap.size, 0, none⟩) xs.length xs.length) xs := by
  subst hc
  refine ⟨by simp, .inr ⟨W.heap.size, xs.length, _, rfl, hB, heap_alloc_new W _, Nat.le_refl _, hm, by simp, ?_⟩⟩
  rw [List.take_of_length_le (by simp)]

theorem unit_bd (n p : Int) : (unitI n p).natAbs ≤ n.natAbs := by
  unfold unitI
  rw [Int.natAbs_tdiv]
  exact Nat.div_le_self _ _









end Go.Proofs.Ytenibnblibnocac
