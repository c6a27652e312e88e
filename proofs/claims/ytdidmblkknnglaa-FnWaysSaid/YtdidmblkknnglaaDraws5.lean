/-
  What the drawing functions of chapter 3 hand out: two numbers and a prime.
-/
import Derived.Test.YtdidmblkknnglaaDraws4
import Derived.Test.YtdidmblkknnglaaRegion
set_option linter.unusedVariables false
namespace Go.Proofs.Ytdidmblkknnglaa
open Go.RowKit

theorem Rdr.drew {W : World} {B R : Nat} {v : Value} {n p : Nat} (h : Rdr W B R v n p) : Rdr W.drew B R v n p := h
theorem Only.of_drew {R : Nat} {W W' : World} (h : Only R W.drew W') : Only R W W' := ⟨h.os, h.tape, h.output, h.size, h.block⟩
theorem ways_lit {y : Int} (h0 : 0 ≤ y) (h1 : y < 7) : ∃ p : Int, (#[.int .i64 2, .int .i64 3, .int .i64 5, .int .i64 7, .int .i64 11, .int .i64 4, .int .i64 37] : Array Value)[y.toNat]? = some (.int .i64 p) ∧ (p = 2 ∨ p = 3 ∨ p = 5 ∨ p = 7 ∨ p = 11 ∨ p = 4 ∨ p = 37) := by
  have hyc : y = 0 ∨ y = 1 ∨ y = 2 ∨ y = 3 ∨ y = 4 ∨ y = 5 ∨ y = 6 := by omega
  rcases hyc with rfl | rfl | rfl | rfl | rfl | rfl | rfl
  all_goals exact ⟨_, rfl, by omega⟩

def litW : Array Value := #[.int .i64 2, .int .i64 3, .int .i64 5, .int .i64 7, .int .i64 11, .int .i64 4, .int .i64 37]
theorem pick7 (B R : Nat) (v : Value) (n p : Nat) (hp : p ≤ 100000) (w2 : World) (HA : Hid (Rdr w2 B R v n p)) (hB : B ≤ w2.heap.size) :
    Calls Try.prog 68 #[.pointer (some ⟨R, 0, none⟩), .int .i64 7] ((w2.alloc (.cells litW 3)).drew) fun e w' => ∃ (y pv : Int), e = .returned (.int .i64 y) ∧ 0 ≤ y ∧ y < 7 ∧ w'.cell? ⟨w2.heap.size, y.toNat, none⟩ = some (.int .i64 pv) ∧ (pv = 2 ∨ pv = 3 ∨ pv = 5 ∨ pv = 7 ∨ pv = 11 ∨ pv = 4 ∨ pv = 37) ∧ Hid (Only R w2 w') := by
  have hR := HA.out.lt
  refine (pick_any _ _ _ _ p 7 (by omega) (by omega) (by omega) _ ((HA.out.alloc (by omega) _).drew)).mono ?_
  rintro e w3 ⟨y, r, rfl, hy0, hy1, _, hr, HC, HP⟩
  replace hy1 := hy1 (by omega)
  obtain ⟨pv, hpv, hpl⟩ := ways_lit hy0 hy1
  have HQ := HP.out.of_drew
  have c := lit_cell (fr := (0, 0)) HQ hR y.toNat
  exact ⟨y, pv, rfl, hy0, hy1, c.trans hpv, hpl, hid (((Only.refl _ _).alloc _).trans HQ)⟩

theorem pick7b (B R : Nat) (v : Value) (n p : Nat) (hp : p ≤ 100000) (w2 : World) (HA : Hid (Rdr w2 B R v n p)) (hB : B ≤ w2.heap.size) :
    Calls Try.prog 68 #[.pointer (some ⟨R, 0, none⟩), .int .i64 7] w2.drew fun e w' => ∃ (y pv : Int), e = .returned (.int .i64 y) ∧ 0 ≤ y ∧ y < 7 ∧ (w'.alloc (.cells litW 3)).cell? ⟨w'.heap.size, y.toNat, none⟩ = some (.int .i64 pv) ∧ (pv = 2 ∨ pv = 3 ∨ pv = 5 ∨ pv = 7 ∨ pv = 11 ∨ pv = 4 ∨ pv = 37) ∧ Hid (Only R w2 w') := by
  refine (pick_any _ _ _ _ p 7 (by omega) (by omega) (by omega) _ HA.out.drew).mono ?_
  rintro e w3 ⟨y, r, rfl, hy0, hy1, _, hr, HC, HP⟩
  replace hy1 := hy1 (by omega)
  obtain ⟨pv, hpv, hpl⟩ := ways_lit hy0 hy1
  refine ⟨y, pv, rfl, hy0, hy1, ?_, hpl, hid HP.out.of_drew⟩
  rw [cell_of_row _ _ _ _ _ _ (World.alloc_heap_new w3 _)]
  exact hpv

set_option maxRecDepth 100000 in
set_option maxHeartbeats 2000000 in
theorem drawSymbolWays_any (v : Value) (n : Nat) (w : World) (h : CodeIn w v n) : Calls Try.prog 38 #[v] w (Drew3 (fun a b p => smallI a ∧ mildI b ∧ (p = 2 ∨ p = 3 ∨ p = 5 ∨ p = 7 ∨ p = 11 ∨ p = 4 ∨ p = 37)) w) := by
  go_enter Try.func38, Try.ntmps38
  go_wp2_with fail
  refine (open_any v n _ h).mono ?_
  rintro e w1 ⟨v1, n1, rfl, HR, HB⟩
  have hsz := HB.size
  go_wp2_with fail
  refine (pair_any _ _ _ _ 0 (by omega) _ HR (by omega)).mono ?_
  rintro e w2 ⟨a, b, y0, q, rfl, hx, hq, HA, HO⟩
  have hs2 := HO.out.size
  have ha := numOk_small hx.1
  have hb := parOk_small hx.1 hx.2.1
  clear hx
  have hR := HA.out.lt
  go_wp2_with fail
  have hc := pick7 _ _ _ _ q (by omega) w2 HA (by omega)
  have hc2 := pick7b _ _ _ _ q (by omega) w2 HA (by omega)
  unfold litW at hc hc2
  have HC1 := hid hc
  have HC2 := hid hc2
  clear hc hc2
  go_region_with (first | (go_at_call 68; refine (HC1.out).mono ?_; rintro e w3 ⟨y, pv, rfl, hy0, hy1, hcell, hpl, HP⟩) | (go_at_call 68; refine (HC2.out).mono ?_; rintro e w3 ⟨y, pv, rfl, hy0, hy1, hcell, hpl, HP⟩))
  all_goals (
    have hB2 := only_below HB (HO.out.trans HP.out)
    go_wp2
    go_ret3
    first
      | exact Drew3.mk ⟨by unfold smallI; omega, by unfold mildI; omega, hpl⟩ hB2
      | exact Drew3.mk ⟨by unfold smallI; omega, by unfold mildI; omega, hpl⟩ (hB2.alloc hB2.size _))

end Go.Proofs.Ytdidmblkknnglaa
