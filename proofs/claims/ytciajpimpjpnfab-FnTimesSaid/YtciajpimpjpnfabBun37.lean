/-
  Some texts in one file: Draws7 Draws8 Draws9 Draws10 Lift.
-/
import Derived.Test.YtciajpimpjpnfabBun36
import Derived.Test.YtciajpimpjpnfabBun14
import Derived.Test.YtciajpimpjpnfabBun8
/-! Draws7 -/
set_option linter.unusedVariables false
namespace Go.Proofs.Ytciajpimpjpnfab
open Go.RowKit

theorem Owns.base {W : World} {B C : Nat} {v : Value} {xs : List Int} (h : Owns W C v xs) (hb : B ≤ C) : Owns W B v xs := by
  obtain ⟨h1, h2⟩ := h
  refine ⟨h1, ?_⟩
  rcases h2 with h2 | ⟨g, cap, cur, hv, hg, r⟩
  · exact .inl h2
  · exact .inr ⟨g, cap, cur, hv, Nat.le_trans hb hg, r⟩
def DrewF (P : List Int → Prop) (w : World) (e : Ending) (w' : World) : Prop := ∃ (u : Value) (xs : List Int), e = .returned u ∧ P xs ∧ Hid (Owns w' w.heap.size u xs) ∧ Below w.heap.size w w'
def DrewFF (P : List Int → List Int → Prop) (w : World) (e : Ending) (w' : World) : Prop := ∃ (u v : Value) (xs ys : List Int), e = .returned (.tuple #[u, v]) ∧ P xs ys ∧ Hid (Owns w' w.heap.size u xs) ∧ Hid (Rd w' v ys) ∧ Firm v ∧ Below w.heap.size w w'
def DrewFI (P : List Int → Int → Prop) (w : World) (e : Ending) (w' : World) : Prop := ∃ (u : Value) (xs : List Int) (y : Int), e = .returned (.tuple #[u, .int .i64 y]) ∧ P xs y ∧ Hid (Owns w' w.heap.size u xs) ∧ Below w.heap.size w w'
theorem DrewF.mk {P : List Int → Prop} {w w' : World} {u : Value} {xs : List Int} (h : P xs) (ho : Owns w' w.heap.size u xs) (hb : Below w.heap.size w w') : DrewF P w (.returned u) w' := ⟨u, xs, rfl, h, hid ho, hb⟩
theorem DrewFF.mk {P : List Int → List Int → Prop} {w w' : World} {u v : Value} {xs ys : List Int} (h : P xs ys) (ho : Owns w' w.heap.size u xs) (hr : Rd w' v ys) (hf : Firm v) (hb : Below w.heap.size w w') : DrewFF P w (.returned (.tuple #[u, v])) w' := ⟨u, v, xs, ys, rfl, h, hid ho, hid hr, hf, hb⟩
theorem DrewFI.mk {P : List Int → Int → Prop} {w w' : World} {u : Value} {xs : List Int} {y : Int} (h : P xs y) (ho : Owns w' w.heap.size u xs) (hb : Below w.heap.size w w') : DrewFI P w (.returned (.tuple #[u, .int .i64 y])) w' := ⟨u, xs, y, rfl, h, hid ho, hb⟩





set_option maxRecDepth 100000 in
set_option maxHeartbeats 2000000 in
theorem drawFormCores_any (v : Value) (n : Nat) (w : World) (h : CodeIn w v n) : Calls Try.prog 27 #[v] w (DrewF TermsOk w) := by
  go_enter Try.func27, Try.ntmps27
  go_wp2_with fail
  refine (open_any v n _ h).mono ?_
  rintro e w1 ⟨v1, n1, rfl, HR, HB⟩
  have hsz := HB.size
  go_wp2_with fail
  refine (formDraw_any _ _ _ _ 0 4 (by omega) (by omega) (by omega) _ HR hsz).mono ?_
  rintro e w2 ⟨u, xs, q, rfl, HT, HO, hq, HA, HN⟩
  go_wp2
  go_ret
  exact DrewF.mk HT (HO.out.base hsz) (only_below HB HN.out)


set_option maxRecDepth 100000 in
set_option maxHeartbeats 2000000 in
theorem drawFormJoin_any (v : Value) (n : Nat) (w : World) (h : CodeIn w v n) : Calls Try.prog 15 #[v] w (DrewFF (fun xs ys => TermsOk xs ∧ TermsOk ys) w) := by
  go_enter Try.func15, Try.ntmps15
  go_wp2_with fail
  refine (open_any v n _ h).mono ?_
  rintro e w1 ⟨v1, n1, rfl, HR, HB⟩
  have hsz := HB.size
  go_wp2_with fail
  refine (formDraw_any _ _ _ _ 0 3 (by omega) (by omega) (by omega) _ HR hsz).mono ?_
  rintro e w2 ⟨u, xs, q, rfl, HT, HO, hq, HA, HN⟩
  have hs2 := HN.out.size
  have hlt := HR.out.lt
  go_wp2_with fail
  refine (formDraw_any _ _ _ _ q 2 (by omega) (by omega) (by omega) _ HA (by omega)).mono ?_
  rintro e w3 ⟨u', ys, q', rfl, HT', HO', hq', HA', HN'⟩
  go_wp2
  go_ret2
  exact DrewFF.mk ⟨HT, HT'⟩ ((HO.out.only HN'.out hlt).base hsz) HO'.out.rd HO'.out.firm (only_below HB (HN.out.trans HN'.out))

end Go.Proofs.Ytciajpimpjpnfab

/-! Draws8 -/
set_option linter.unusedVariables false
namespace Go.Proofs.Ytciajpimpjpnfab
open Go.RowKit

theorem Rdr.drew' {W : World} {B R : Nat} {v : Value} {n p : Nat} (h : Rdr W B R v n p) : Rdr W.drew B R v n p := h
theorem Only.of_drew' {R : Nat} {W W' : World} (h : Only R W.drew W') : Only R W W' := ⟨h.os, h.tape, h.output, h.size, h.block⟩
theorem pickLit (cs : Array Value) (m : Int) (P : Int → Prop) (hm : 1 ≤ m) (hm2 : m ≤ 1000) (hl : ∀ y : Int, 0 ≤ y → y < m → ∃ pv, cs[y.toNat]? = some (.int .i64 pv) ∧ P pv) (B R : Nat) (v : Value) (n p : Nat) (hp : p ≤ 100000) (w2 : World) (HA : Hid (Rdr w2 B R v n p)) (hB : B ≤ w2.heap.size) :
    Calls Try.prog 56 #[.pointer (some ⟨R, 0, none⟩), .int .i64 m] ((w2.alloc (.cells cs 3)).drew) fun e w' => ∃ (y pv : Int), e = .returned (.int .i64 y) ∧ 0 ≤ y ∧ y < m ∧ w'.cell? ⟨w2.heap.size, y.toNat, none⟩ = some (.int .i64 pv) ∧ P pv ∧ Hid (Only R w2 w') := by
  have hR := HA.out.lt
  refine (pick_any _ _ _ _ p m (by omega) (by omega) (by omega) _ ((HA.out.alloc (by omega) _).drew')).mono ?_
  rintro e w3 ⟨y, r, rfl, hy0, hy1, _, hr, HC, HP⟩
  replace hy1 := hy1 (by omega)
  obtain ⟨pv, hpv, hpl⟩ := hl y hy0 hy1
  have HQ := HP.out.of_drew'
  have c := lit_cell (fr := (0, 0)) HQ hR y.toNat
  exact ⟨y, pv, rfl, hy0, hy1, c.trans hpv, hpl, hid (((Only.refl _ _).alloc _).trans HQ)⟩
theorem pickLit2 (cs : Array Value) (m : Int) (P : Int → Prop) (hm : 1 ≤ m) (hm2 : m ≤ 1000) (hl : ∀ y : Int, 0 ≤ y → y < m → ∃ pv, cs[y.toNat]? = some (.int .i64 pv) ∧ P pv) (B R : Nat) (v : Value) (n p : Nat) (hp : p ≤ 100000) (w2 : World) (HA : Hid (Rdr w2 B R v n p)) (hB : B ≤ w2.heap.size) :
    Calls Try.prog 56 #[.pointer (some ⟨R, 0, none⟩), .int .i64 m] w2.drew fun e w' => ∃ (y pv : Int), e = .returned (.int .i64 y) ∧ 0 ≤ y ∧ y < m ∧ (w'.alloc (.cells cs 3)).cell? ⟨w'.heap.size, y.toNat, none⟩ = some (.int .i64 pv) ∧ P pv ∧ Hid (Only R w2 w') := by
  refine (pick_any _ _ _ _ p m (by omega) (by omega) (by omega) _ HA.out.drew').mono ?_
  rintro e w3 ⟨y, r, rfl, hy0, hy1, _, hr, HC, HP⟩
  replace hy1 := hy1 (by omega)
  obtain ⟨pv, hpv, hpl⟩ := hl y hy0 hy1
  refine ⟨y, pv, rfl, hy0, hy1, ?_, hpl, hid HP.out.of_drew'⟩
  rw [Go.cell_of_row _ _ _ _ _ _ (World.alloc_heap_new w3 _)]
  exact hpv

def facOk (y : Int) : Prop := (-3 ≤ y ∧ y ≤ 5) ∨ y = 5001
theorem fac2 : ∀ y : Int, 0 ≤ y → y < 2 → ∃ pv, (#[.int .i64 0, .int .i64 5001] : Array Value)[y.toNat]? = some (.int .i64 pv) ∧ facOk pv := by
  intro y h0 h1
  have : y = 0 ∨ y = 1 := by omega
  rcases this with rfl | rfl
  all_goals exact ⟨_, rfl, by unfold facOk; omega⟩
theorem fac8 : ∀ y : Int, 0 ≤ y → y < 8 → ∃ pv, (#[.int .i64 1, .int .i64 (-1), .int .i64 2, .int .i64 3, .int .i64 (-2), .int .i64 4, .int .i64 5, .int .i64 (-3)] : Array Value)[y.toNat]? = some (.int .i64 pv) ∧ facOk pv := by
  intro y h0 h1
  have : y = 0 ∨ y = 1 ∨ y = 2 ∨ y = 3 ∨ y = 4 ∨ y = 5 ∨ y = 6 ∨ y = 7 := by omega
  rcases this with rfl | rfl | rfl | rfl | rfl | rfl | rfl | rfl
  all_goals exact ⟨_, rfl, by unfold facOk; omega⟩

set_option maxRecDepth 100000 in
set_option maxHeartbeats 2000000 in
theorem drawFormTimes_any (v : Value) (n : Nat) (w : World) (h : CodeIn w v n) : Calls Try.prog 22 #[v] w (DrewFI (fun xs y => TermsOk xs ∧ facOk y) w) := by
  go_enter Try.func22, Try.ntmps22
  go_wp2_with fail
  refine (open_any v n _ h).mono ?_
  rintro e w1 ⟨v1, n1, rfl, HR, HB⟩
  have hsz := HB.size
  go_wp2_with fail
  refine (formDraw_any _ _ _ _ 0 4 (by omega) (by omega) (by omega) _ HR hsz).mono ?_
  rintro e w2 ⟨u, xs, q, rfl, HT, HO, hq, HA, HN⟩
  have hs2 := HN.out.size
  have hlt := HR.out.lt
  go_wp2_with fail
  refine (pick_any _ _ _ _ q 16 (by omega) (by omega) (by omega) _ (HA.out)).mono ?_
  rintro e wHC ⟨z, r, rfl, hz0, hz1, _, hr, HC, HP⟩
  replace hz1 := hz1 (by omega)
  have hs3 := HP.out.size
  have HO2 := hid (HO.out.only HP.out hlt)
  have HN2 := hid (HN.out.trans HP.out)
  clear HO HN HP
  by_cases hz : z = 0
  · subst hz
    go_wp2_with fail
    have HC1 := hid (pickLit _ 2 facOk (by omega) (by omega) fac2 _ _ _ _ r (by omega) wHC HC (by omega))
    have HC2 := hid (pickLit2 _ 2 facOk (by omega) (by omega) fac2 _ _ _ _ r (by omega) wHC HC (by omega))
    go_region_with (first | (go_at_call 56; refine (HC1.out).mono ?_; rintro e w3 ⟨y, pv, rfl, hy0, hy1, hcell, hpl, HP⟩) | (go_at_call 56; refine (HC2.out).mono ?_; rintro e w3 ⟨y, pv, rfl, hy0, hy1, hcell, hpl, HP⟩))
    all_goals (
      have hB2 := only_below HB (HN2.out.trans HP.out)
      have HO3 := HO2.out.only HP.out hlt
      have hfl := hid hpl
      clear hpl
      go_wp2
      go_ret2
      first
        | exact DrewFI.mk ⟨HT, hfl.out⟩ (HO3.base hsz) hB2
        | exact DrewFI.mk ⟨HT, hfl.out⟩ ((show Owns _ w1.heap.size u xs from HO3.alloc _).base hsz) (hB2.alloc hB2.size _))
  · go_wp2_with fail
    have HC1 := hid (pickLit _ 8 facOk (by omega) (by omega) fac8 _ _ _ _ r (by omega) wHC HC (by omega))
    have HC2 := hid (pickLit2 _ 8 facOk (by omega) (by omega) fac8 _ _ _ _ r (by omega) wHC HC (by omega))
    go_region_with (first | (go_at_call 56; refine (HC1.out).mono ?_; rintro e w3 ⟨y, pv, rfl, hy0, hy1, hcell, hpl, HP⟩) | (go_at_call 56; refine (HC2.out).mono ?_; rintro e w3 ⟨y, pv, rfl, hy0, hy1, hcell, hpl, HP⟩))
    all_goals (
      have hB2 := only_below HB (HN2.out.trans HP.out)
      have HO3 := HO2.out.only HP.out hlt
      have hfl := hid hpl
      clear hpl
      go_wp2
      go_ret2
      first
        | exact DrewFI.mk ⟨HT, hfl.out⟩ (HO3.base hsz) hB2
        | exact DrewFI.mk ⟨HT, hfl.out⟩ ((show Owns _ w1.heap.size u xs from HO3.alloc _).base hsz) (hB2.alloc hB2.size _))

end Go.Proofs.Ytciajpimpjpnfab

/-! Draws9 -/
set_option linter.unusedVariables false
namespace Go.Proofs.Ytciajpimpjpnfab
open Go.RowKit

def VecOk (m : Nat) (k : Int) (ys : List Int) : Prop := ys.length = m ∧ ∀ y ∈ ys, -k ≤ y ∧ y ≤ k
theorem VecOk.snoc {m : Nat} {k : Int} {ys : List Int} {x : Int} (h : VecOk m k ys) (h1 : -k ≤ x) (h2 : x ≤ k) : VecOk (m + 1) k (ys ++ [x]) :=
  ⟨by rw [List.length_append, h.1]; rfl, fun y hy => by
    rcases List.mem_append.1 hy with h3 | h3
    · exact h.2 y h3
    · rw [List.mem_singleton] at h3; subst h3; exact ⟨h1, h2⟩⟩
def VecPost (m : Nat) (w : World) (B R : Nat) (v : Value) (n p : Nat) (e : Ending) (w' : World) : Prop :=
  ∃ (u : Value) (ys : List Int) (q : Nat), e = .returned u ∧ VecOk m 9 ys ∧ Hid (Owns w' w.heap.size u ys) ∧ q ≤ p + m ∧ Hid (Rdr w' B R v n q) ∧ Hid (Only R w w')
theorem VecPost.mk {m : Nat} {w : World} {B R : Nat} {v : Value} {n p q : Nat} {u : Value} {ys : List Int} {w' : World} (h : VecOk m 9 ys) (ho : Hid (Owns w' w.heap.size u ys)) (hq : q ≤ p + m) (hr : Hid (Rdr w' B R v n q)) (hn : Hid (Only R w w')) : VecPost m w B R v n p (.returned u) w' :=
  ⟨u, ys, q, rfl, h, ho, hq, hr, hn⟩


end Go.Proofs.Ytciajpimpjpnfab

/-! Draws10 -/
set_option linter.unusedVariables false
namespace Go.Proofs.Ytciajpimpjpnfab
open Go.RowKit

theorem Owns.reads {W : World} {B : Nat} {v : Value} {xs : List Int} (h : Owns W B v xs) : ∃ a cap, v = .slice a xs.length cap := by
  rcases h.2 with ⟨h3, h4⟩ | ⟨g, cap, cur, h3, _⟩
  · have h5 : xs.length = 0 := h4
    exact ⟨none, 0, by rw [h3, h5]⟩
  · exact ⟨_, cap, h3⟩
theorem Owns.room {W : World} {B g cap n : Nat} {xs : List Int} (h : Owns W B (.slice (some ⟨g, 0, none⟩) n cap) xs) : xs.length ≤ cap := by
  rcases h.2 with ⟨h3, h4⟩ | ⟨g, cap, cur, h3, _, _, h4, _⟩
  · cases h3
  · simp only [Value.slice.injEq] at h3
    omega
/-- a slice cut at its head -/
theorem Rd.drop {W : World} {g o n cap k : Nat} {xs : List Int} (h : Rd W (.slice (some ⟨g, o, none⟩) n cap) xs) (hk : k ≤ n) (hn : xs.length = n) : Rd W (.slice (some ⟨g, o + k, none⟩) (n - k) (cap - k)) (xs.drop k) := by
  subst hn
  by_cases h0 : xs.length = k
  · exact .inl ⟨_, _, by rw [h0, Nat.sub_self], List.drop_eq_nil_of_le (by omega)⟩
  · rcases h with ⟨a, c, hv, hx⟩ | ⟨b, o', c, hv, hl, hm, hc⟩
    · subst hx; have e : ([] : List Int).length = 0 := rfl; omega
    · simp only [Value.slice.injEq, Option.some.injEq, Addr.mk.injEq, and_true, true_and] at hv
      obtain ⟨⟨rfl, rfl⟩, rfl⟩ := hv
      refine .inr ⟨g, o + k, cap - k, by rw [List.length_drop], by rw [List.length_drop]; omega, by rw [List.length_drop]; omega, fun i hi => ?_⟩
      rw [List.length_drop] at hi
      have := hc (k + i) (by omega)
      rw [show o + k + i = o + (k + i) by omega, this]
      simp [List.getD]
theorem Rd.cut {W : World} {g o n cap k : Nat} {xs : List Int} (h : Rd W (.slice (some ⟨g, o, none⟩) n cap) xs) (hk : k ≤ n) (hn : xs.length = n) (hc : n ≤ cap) : Rd W (.slice (if cap = k then some ⟨g, o, none⟩ else some ⟨g, o + k, none⟩) (n - k) (cap - k)) (xs.drop k) := by
  by_cases e : cap = k
  · exact .inl ⟨_, _, by rw [show n - k = 0 by omega], List.drop_eq_nil_of_le (by omega)⟩
  · rw [if_neg e]
    exact h.drop hk hn
theorem Rd.take {W : World} {g o n cap k c : Nat} {xs : List Int} (h : Rd W (.slice (some ⟨g, o, none⟩) n cap) xs) (hk : k ≤ n) (hn : xs.length = n) (hcc : cap ≤ c := by exact Nat.le_refl _) : Rd W (.slice (some ⟨g, o, none⟩) k c) (xs.take k) := by
  subst hn
  by_cases h0 : k = 0
  · exact .inl ⟨_, _, by rw [h0], by rw [h0]; rfl⟩
  · rcases h with ⟨a, c, hv, hx⟩ | ⟨b, o', c', hv, hl, hm, hc⟩
    · subst hx; simp at hk; omega
    · simp only [Value.slice.injEq, Option.some.injEq, Addr.mk.injEq, and_true, true_and] at hv
      obtain ⟨⟨rfl, rfl⟩, rfl⟩ := hv
      have e : (xs.take k).length = k := by rw [List.length_take]; omega
      refine .inr ⟨g, o, c, by rw [e], by omega, by omega, fun i hi => ?_⟩
      rw [e] at hi
      rw [hc i (by omega)]
      simp [List.getD, hi]
theorem firm_cut (c : Prop) [Decidable c] (x y : Addr) (n k : Nat) : Firm (.slice (if c then some x else some y) n k) := by
  by_cases h : c
  · rw [if_pos h]; exact .inr ⟨_, _, _, rfl⟩
  · rw [if_neg h]; exact .inr ⟨_, _, _, rfl⟩
theorem Owns.kept0 {W W' : World} {B : Nat} {v : Value} {xs : List Int} {g : Nat} (h : Owns W B v xs) (hg : W.grownBy W' (some g)) (hne : ∀ k, v.ownBlock = some k → k < g) : Owns W' B v xs :=
  World.ownsRow.kept h hg (by
    cases e : v.ownBlock with
    | none => exact .inl rfl
    | some k => exact .inr (fun e2 => by have := hne k e; cases e2; omega))
def VecGood (m : Nat) (ys : List Int) : Prop := ys.length ≤ m ∧ ∀ y ∈ ys, -1001 ≤ y ∧ y ≤ 1001
theorem VecOk.good {m : Nat} {ys : List Int} (h : VecOk m 9 ys) : VecGood m ys := ⟨by rw [h.1]; exact Nat.le_refl _, fun y hy => by have := h.2 y hy; omega⟩
theorem VecGood.drop {m k : Nat} {ys : List Int} (h : VecGood m ys) : VecGood m (ys.drop k) := ⟨by rw [List.length_drop]; have := h.1; omega, fun y hy => h.2 y (List.mem_of_mem_drop hy)⟩
theorem VecGood.set0 {m : Nat} {ys : List Int} {x : Int} (h : VecGood m ys) (h1 : -1001 ≤ x) (h2 : x ≤ 1001) : VecGood m (ys.set 0 x) :=
  ⟨by rw [List.length_set]; exact h.1, fun y hy => by
    rcases List.mem_or_eq_of_mem_set hy with h3 | h3
    · exact h.2 y h3
    · subst h3; exact ⟨h1, h2⟩⟩


end Go.Proofs.Ytciajpimpjpnfab

/-! Lift -/
set_option linter.unusedVariables false
namespace Go.Proofs.Ytciajpimpjpnfab
open Go.RowKit

def liftF (n : Int) (M : Nat) (x : Int) : Bool := (x * x - n) % (M : Int) == 0
def liftBlk (n : Int) (P m : Nat) (R : List Int) (d : Nat) : List Int := (R.map (fun r => r + (d : Int) * (m : Int))).filter (liftF n (m * P))
def liftPre (n : Int) (P m : Nat) (R : List Int) (d : Nat) : List Int := (List.range d).flatMap (liftBlk n P m R)
def liftL (n : Int) (P : Nat) : Nat → List Int
  | 0 => [0]
  | i + 1 => liftPre n P (P ^ i) (liftL n P i) P

theorem liftPre_succ (n : Int) (P m : Nat) (R : List Int) (d : Nat) : liftPre n P m R (d + 1) = liftPre n P m R d ++ liftBlk n P m R d := by
  unfold liftPre
  rw [List.range_succ, List.flatMap_append]
  simp
theorem liftPre_zero (n : Int) (P m : Nat) (R : List Int) : liftPre n P m R 0 = [] := rfl
theorem liftBlk_len (n : Int) (P m : Nat) (R : List Int) (d : Nat) : (liftBlk n P m R d).length ≤ R.length := by
  unfold liftBlk
  exact Nat.le_trans (List.length_filter_le _ _) (by rw [List.length_map]; exact Nat.le_refl _)
theorem liftPre_len (n : Int) (P m : Nat) (R : List Int) : ∀ d, (liftPre n P m R d).length ≤ d * R.length
  | 0 => by rw [liftPre_zero]; simp
  | d + 1 => by
    rw [liftPre_succ, List.length_append, Nat.succ_mul]
    have := liftPre_len n P m R d
    have := liftBlk_len n P m R d
    omega
theorem lift_len (n : Int) (P : Nat) : ∀ i, (liftL n P i).length ≤ P ^ i
  | 0 => by simp [liftL]
  | i + 1 => by
    have h1 := liftPre_len n P (P ^ i) (liftL n P i) P
    have h2 := Nat.mul_le_mul_left P (lift_len n P i)
    show (liftPre n P (P ^ i) (liftL n P i) P).length ≤ P ^ (i + 1)
    rw [Nat.pow_succ, Nat.mul_comm (P ^ i)]
    exact Nat.le_trans h1 h2
theorem mem_blk {n : Int} {P m : Nat} {R : List Int} {d : Nat} {x : Int} : x ∈ liftBlk n P m R d ↔ ∃ r ∈ R, x = r + (d : Int) * (m : Int) ∧ (x * x - n) % ((m * P : Nat) : Int) = 0 := by
  unfold liftBlk liftF
  rw [List.mem_filter, List.mem_map]
  constructor
  · rintro ⟨⟨r, hr, rfl⟩, h⟩
    exact ⟨r, hr, rfl, by simpa using h⟩
  · rintro ⟨r, hr, rfl, h⟩
    exact ⟨⟨r, hr, rfl⟩, by simpa using h⟩
theorem mem_pre {n : Int} {P m : Nat} {R : List Int} {d : Nat} {x : Int} : x ∈ liftPre n P m R d ↔ ∃ c, c < d ∧ x ∈ liftBlk n P m R c := by
  unfold liftPre
  rw [List.mem_flatMap]
  simp only [List.mem_range]

theorem mem_lift {n : Int} {P : Nat} (hP : 1 ≤ P) : ∀ i x, x ∈ liftL n P i ↔ 0 ≤ x ∧ x < ((P ^ i : Nat) : Int) ∧ (x * x - n) % ((P ^ i : Nat) : Int) = 0
  | 0, x => by
    simp only [liftL, List.mem_singleton, Nat.pow_zero]
    constructor
    · rintro rfl
      exact ⟨by omega, by simp, by simp⟩
    · rintro ⟨h1, h2, _⟩
      have : ((1 : Nat) : Int) = 1 := rfl
      omega
  | i + 1, x => by
    have hm : 1 ≤ P ^ i := Nat.pow_pos (by omega)
    show x ∈ liftPre n P (P ^ i) (liftL n P i) P ↔ _
    rw [mem_pre]
    obtain ⟨m, hme⟩ : ∃ m, m = P ^ i := ⟨_, rfl⟩
    have e1 : P ^ (i + 1) = m * P := by rw [Nat.pow_succ, hme]
    rw [← hme] at hm
    rw [e1, ← hme]
    have ih := mem_lift (n := n) hP i
    rw [← hme] at ih
    constructor
    · rintro ⟨c, hc, hx⟩
      obtain ⟨r, hr, rfl, h⟩ := mem_blk.1 hx
      obtain ⟨r1, r2, _⟩ := (ih r).1 hr
      have hcm : (0 : Int) ≤ (c : Int) * (m : Int) := Int.mul_nonneg (by omega) (by omega)
      have hup : (c : Int) * (m : Int) + (m : Int) ≤ ((m * P : Nat) : Int) := by
        have := Nat.mul_le_mul_right m (show c + 1 ≤ P by omega)
        rw [Nat.succ_mul, Nat.mul_comm P m] at this
        have e2 : (c : Int) * (m : Int) = ((c * m : Nat) : Int) := by push_cast; rfl
        rw [e2]
        omega
      exact ⟨by omega, by omega, h⟩
    · rintro ⟨h1, h2, h3⟩
      obtain ⟨X, rfl⟩ := Int.eq_ofNat_of_zero_le h1
      have hX : X < m * P := by omega
      refine ⟨X / m, (Nat.div_lt_iff_lt_mul (by omega)).2 (by rw [Nat.mul_comm]; exact hX), mem_blk.2 ⟨((X % m : Nat) : Int), (ih _).2 ⟨by omega, by have := Nat.mod_lt X (show 0 < m by omega); omega, ?_⟩, ?_, h3⟩⟩
      · have hd : (m : Int) ∣ (X : Int) * X - n := by
          refine Int.dvd_trans ?_ (Int.dvd_of_emod_eq_zero h3)
          exact ⟨(P : Int), by push_cast; rfl⟩
        have e3 : ((X % m : Nat) : Int) * ((X % m : Nat) : Int) - n = ((X : Int) * X - n) - (m : Int) * ((X / m : Nat) : Int) * ((X : Int) + ((X % m : Nat) : Int)) := by
          have e4 : (X : Int) = (m : Int) * ((X / m : Nat) : Int) + ((X % m : Nat) : Int) := by
            have := Nat.div_add_mod X m
            exact_mod_cast this.symm
          obtain ⟨a, ha⟩ : ∃ a, a = (m : Int) * ((X / m : Nat) : Int) := ⟨_, rfl⟩
          obtain ⟨b, hb⟩ : ∃ b, b = ((X % m : Nat) : Int) := ⟨_, rfl⟩
          rw [← ha, ← hb] at e4
          rw [← ha, ← hb, e4]
          simp only [Int.mul_add, Int.add_mul, Int.mul_comm b a]
          omega
        rw [e3]
        exact Int.emod_eq_zero_of_dvd (Int.dvd_sub hd (Int.dvd_mul_of_dvd_left (Int.dvd_mul_right _ _)))
      · have := Nat.div_add_mod X m
        rw [Nat.mul_comm] at this
        have : (((X / m * m + X % m : Nat)) : Int) = (X : Int) := by rw [this]
        push_cast at this ⊢
        omega

theorem root_rest {n : Int} {M : Nat} (hM : 1 ≤ M) {x : Nat} : ((x : Int) * x - n) % (M : Int) = 0 ↔ x * x % M = (n % (M : Int)).toNat := by
  have h1 := Int.emod_nonneg n (show (M : Int) ≠ 0 by omega)
  have h2 : ((n % (M : Int)).toNat : Int) = n % (M : Int) := Int.toNat_of_nonneg h1
  have e : ((x * x % M : Nat) : Int) = (x : Int) * x % (M : Int) := by push_cast; rfl
  rw [← Int.emod_eq_emod_iff_emod_sub_eq_zero, ← e, ← h2]
  exact Int.ofNat_inj

/-- the least of the lifted roots is the least root by trial -/
theorem lift_root {n : Int} {P k : Nat} (hP : 1 ≤ P) {x : Int} (hx : x ∈ liftL n P k) (hmin : ∀ y ∈ liftL n P k, x ≤ y) : rootF (n % ((P ^ k : Nat) : Int)).toNat (P ^ k) = some x.toNat ∧ 0 ≤ x ∧ x < ((P ^ k : Nat) : Int) := by
  have hm : 1 ≤ P ^ k := Nat.pow_pos (by omega)
  obtain ⟨h1, h2, h3⟩ := (mem_lift hP k x).1 hx
  obtain ⟨X, rfl⟩ := Int.eq_ofNat_of_zero_le h1
  refine ⟨?_, h1, h2⟩
  rw [Int.toNat_natCast]
  refine find_at (by omega) (by rw [beq_iff_eq]; exact (root_rest hm).1 h3) fun j hj => ?_
  rw [beq_eq_false_iff_ne]
  intro e
  have := hmin (j : Int) ((mem_lift hP k _).2 ⟨by omega, by omega, (root_rest hm).2 e⟩)
  omega
theorem lift_none {n : Int} {P k : Nat} (hP : 1 ≤ P) (h : liftL n P k = []) : rootF (n % ((P ^ k : Nat) : Int)).toNat (P ^ k) = none := by
  have hm : 1 ≤ P ^ k := Nat.pow_pos (by omega)
  refine find_none fun j hj => ?_
  rw [beq_eq_false_iff_ne]
  intro e
  have := (mem_lift (n := n) hP k (j : Int)).2 ⟨by omega, by omega, (root_rest hm).2 e⟩
  rw [h] at this
  cases this

end Go.Proofs.Ytciajpimpjpnfab
