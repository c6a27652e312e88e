/-
  Some texts in one file: Fm6 Draws7 Draws8 Draws9 Draws10.
-/
import Derived.Test.YtciajpimpjpnfaaFm5
import Derived.Test.YtciajpimpjpnfaaBun20
/-! Fm6 -/
set_option linter.unusedVariables false
namespace Go.Proofs.Ytciajpimpjpnfaa
open Go.RowKit

/-- a slice with an address, or nil -/
def Firm (v : Value) : Prop := v = .slice none 0 0 ∨ ∃ ad n c, v = .slice (some ad) n c
theorem Owns.firm {W : World} {B : Nat} {v : Value} {xs : List Int} (h : Owns W B v xs) : Firm v := by
  rcases h.2 with ⟨rfl, _⟩ | ⟨g, cap, cur, rfl, _⟩
  · exact .inl rfl
  · exact .inr ⟨_, _, _, rfl⟩
theorem grownBy_refl (w : World) (r : Option Nat) : w.grownBy w r := ⟨rfl, rfl, rfl, Nat.le_refl _, fun _ _ _ => rfl⟩
/-- append(s, xs...) where s is the call's own and xs is any slice that reads as numbers -/
theorem append_rd {w : World} {ops : Array Oper} {rest : List Oper} {o : Oper} {a : Act} {Q : Exit → Act → World → Prop} (hgd : o.guard = none) (s x : Operand)
    (ho : o.op = .call { callee := .builtin .append, args := #[s, x], argTypes := #[25, 25] })
    (base : Nat) (v : Value) (xs : List Int) (hs : a.eval s = v) (hown : Owns w base v xs) (u : Value) (ys : List Int) (hx : a.eval x = u) (hrd : Rd w u ys) (hf : Firm u)
    (h63 : xs.length + ys.length ≤ 10000000) (hbase : base ≤ w.heap.size)
    (h : ∀ v' w', Owns w' base v' (xs ++ ys) → w.grownBy w' v.ownBlock → wpList Try.prog ops Q rest (a.put o.dst v') w') :
    wpList Try.prog ops Q (o :: rest) a w := by
  obtain ⟨i0, hi, hz0, hz1, hz2⟩ := info_parts infoInt
  rcases hf with rfl | ⟨ad, n, c, rfl⟩
  · have hy : ys = [] := by
      rcases hrd with ⟨_, _, _, hy⟩ | ⟨_, _, _, e, _⟩
      · exact hy
      · cases e
    subst hy
    exact wpList_append_own_none hgd s x 25 ho base 3 i0 1 Try.underlying25 hi v _ _ hs hown hx (h v w (by rw [List.append_nil]; exact hown) (grownBy_refl w _))
  · have hn : n = ys.length := by
      rcases hrd with ⟨_, _, e, hy⟩ | ⟨_, _, _, e, _⟩
      · cases e; rw [hy]; rfl
      · cases e; rfl
    have hnews : ∀ j z, (ys.map (Value.int .i64))[j]? = some z → w.cell? (ad.add j) = some z := fun j z hz => by
      rcases hrd with ⟨_, _, _, hy⟩ | ⟨b, off, cap, e, _, _, hc⟩
      · rw [hy] at hz; simp at hz
      · cases e
        rw [List.getElem?_map] at hz
        by_cases hj : j < ys.length
        · rw [List.getElem?_eq_getElem hj] at hz
          simp only [Option.map_some, Option.some.injEq] at hz
          rw [← hz, show (⟨b, off, none⟩ : Addr).add j = ⟨b, off + j, none⟩ by
            by_cases e : j = 0
            · subst e; simp [Addr.add]
            · simp [Addr.add, e], hc j hj, getD_at _ _ hj]
        · rw [List.getElem?_eq_none (by omega)] at hz; cases hz
    refine wpList_append_own_at w hgd s x 25 ho base 3 i0 (.int .i64 0) 1 8 Try.underlying25 hi hz0 hz1 hz2 rfl (by decide) v _ _ hs hown ad n c (ys.map (Value.int .i64)) hx (by rw [List.length_map, hn, Nat.mul_one]) hnews
      (fun z hz => by rw [List.mem_map] at hz; obtain ⟨y, _, rfl⟩ := hz; rfl) (by unfold maxLen; omega) (by omega) hbase ?_
    intro v' w' hown' hgrow _ _
    refine h v' w' ?_ hgrow
    unfold Owns
    rw [List.length_append, List.map_append, ← hn]
    exact hown'


end Go.Proofs.Ytciajpimpjpnfaa

/-! Draws7 -/
set_option linter.unusedVariables false
namespace Go.Proofs.Ytciajpimpjpnfaa
open Go.RowKit

theorem Owns.base {W : World} {B C : Nat} {v : Value} {xs : List Int} (h : Owns W C v xs) (hb : B ≤ C) : Owns W B v xs := by
  obtain ⟨h1, h2⟩ := h
  refine ⟨h1, ?_⟩
  rcases h2 with h2 | ⟨g, cap, cur, hv, hg, r⟩
  · exact .inl h2
  · exact .inr ⟨g, cap, cur, hv, Nat.le_trans hb hg, r⟩
def DrewF (P : List Int → Prop) (w : World) (e : Ending) (w' : World) : Prop := ∃ (u : Value) (xs : List Int), e = .returned u ∧ P xs ∧ Hid (Owns w' w.heap.size u xs) ∧ Below w.heap.size w w'
def DrewFF (P : List Int → List Int → Prop) (w : World) (e : Ending) (w' : World) : Prop := ∃ (u v : Value) (xs ys : List Int), e = .returned (.tuple #[u, v]) ∧ P xs ys ∧ Hid (Owns w' w.heap.size u xs) ∧ Hid (Rd w' v ys) ∧ Firm v ∧ Below w.heap.size w w'
def DrewFI (P : List Int → Int → Prop) (w : World) (e : Ending) (w' : World) : Prop := ∃ (u : Value) (xs : List Int) (y : Int), e = .returned (.tuple #[u, .int .i64 y]) ∧ P xs y ∧ Hid (Owns w' w.heap.size u xs) ∧ Below w.heap.size w w'
theorem DrewF.mk {P : List Int → Prop} {w w' : World} {u : Value} {xs : List Int} (h : P xs) (ho : Owns w' w.heap.size u xs) (hb : Below w.heap.size w w') : DrewF P w (.returned u) w' := ⟨u, xs, rfl, h, hid ho, hb⟩
theorem DrewFF.mk {P : List Int → List Int → Prop} {w w' : World} {u v : Value} {xs ys : List Int} (h : P xs ys) (ho : Owns w' w.heap.size u xs) (hr : Rd w' v ys) (hf : Firm v) (hb : Below w.heap.size w w') : DrewFF P w (.returned (.tuple #[u, v])) w' := ⟨u, v, xs, ys, rfl, h, hid ho, hid hr, hf, hb⟩
theorem DrewFI.mk {P : List Int → Int → Prop} {w w' : World} {u : Value} {xs : List Int} {y : Int} (h : P xs y) (ho : Owns w' w.heap.size u xs) (hb : Below w.heap.size w w') : DrewFI P w (.returned (.tuple #[u, .int .i64 y])) w' := ⟨u, xs, y, rfl, h, hid ho, hb⟩

set_option maxRecDepth 100000 in
set_option maxHeartbeats 2000000 in
theorem drawFormDisc_any (v : Value) (n : Nat) (w : World) (h : CodeIn w v n) : Calls Try.prog 25 #[v] w (DrewF TermsOk w) := by
  go_enter Try.func25, Try.ntmps25
  go_wp2_with fail
  refine (open_any v n _ h).mono ?_
  rintro e w1 ⟨v1, n1, rfl, HR, HB⟩
  have hsz := HB.size
  go_wp2_with fail
  refine (formDraw_any _ _ _ _ 0 4 (by omega) (by omega) (by omega) _ HR hsz).mono ?_
  rintro e w2 ⟨u, xs, q, rfl, HT, HO, hq, HA, HN⟩
  go_wp2
  go_ret
  exact DrewF.mk HT (HO.out.base hsz) (only_below HB HN.out)

set_option maxRecDepth 100000 in
set_option maxHeartbeats 2000000 in
theorem drawFormSigns_any (v : Value) (n : Nat) (w : World) (h : CodeIn w v n) : Calls Try.prog 32 #[v] w (DrewF TermsOk w) := by
  go_enter Try.func32, Try.ntmps32
  go_wp2_with fail
  refine (open_any v n _ h).mono ?_
  rintro e w1 ⟨v1, n1, rfl, HR, HB⟩
  have hsz := HB.size
  go_wp2_with fail
  refine (formDraw_any _ _ _ _ 0 4 (by omega) (by omega) (by omega) _ HR hsz).mono ?_
  rintro e w2 ⟨u, xs, q, rfl, HT, HO, hq, HA, HN⟩
  go_wp2
  go_ret
  exact DrewF.mk HT (HO.out.base hsz) (only_below HB HN.out)

set_option maxRecDepth 100000 in
set_option maxHeartbeats 2000000 in
theorem drawFormPlaces_any (v : Value) (n : Nat) (w : World) (h : CodeIn w v n) : Calls Try.prog 40 #[v] w (DrewF TermsOk w) := by
  go_enter Try.func40, Try.ntmps40
  go_wp2_with fail
  refine (open_any v n _ h).mono ?_
  rintro e w1 ⟨v1, n1, rfl, HR, HB⟩
  have hsz := HB.size
  go_wp2_with fail
  refine (formDraw_any _ _ _ _ 0 4 (by omega) (by omega) (by omega) _ HR hsz).mono ?_
  rintro e w2 ⟨u, xs, q, rfl, HT, HO, hq, HA, HN⟩
  go_wp2
  go_ret
  exact DrewF.mk HT (HO.out.base hsz) (only_below HB HN.out)

set_option maxRecDepth 100000 in
set_option maxHeartbeats 2000000 in
theorem drawFormBad_any (v : Value) (n : Nat) (w : World) (h : CodeIn w v n) : Calls Try.prog 51 #[v] w (DrewF TermsOk w) := by
  go_enter Try.func51, Try.ntmps51
  go_wp2_with fail
  refine (open_any v n _ h).mono ?_
  rintro e w1 ⟨v1, n1, rfl, HR, HB⟩
  have hsz := HB.size
  go_wp2_with fail
  refine (formDraw_any _ _ _ _ 0 4 (by omega) (by omega) (by omega) _ HR hsz).mono ?_
  rintro e w2 ⟨u, xs, q, rfl, HT, HO, hq, HA, HN⟩
  go_wp2
  go_ret
  exact DrewF.mk HT (HO.out.base hsz) (only_below HB HN.out)


set_option maxRecDepth 100000 in
set_option maxHeartbeats 2000000 in
theorem drawLocalLevel_any (v : Value) (n : Nat) (w : World) (h : CodeIn w v n) : Calls Try.prog 15 #[v] w (Drew1 prOk w) := by
  go_enter Try.func15, Try.ntmps15
  go_wp2_with fail
  refine (open_any v n _ h).mono ?_
  rintro e w1 ⟨v1, n1, rfl, HR, HB⟩
  have hsz := HB.size
  go_wp2_with fail
  refine (place_any _ _ _ _ 0 (by omega) _ HR (by omega)).mono ?_
  rintro e w2 ⟨x, q, rfl, hx, hq, HA, HO⟩
  go_wp2
  go_ret
  exact Drew1.mk hx (only_below HB HO.out)


end Go.Proofs.Ytciajpimpjpnfaa

/-! Draws8 -/
set_option linter.unusedVariables false
namespace Go.Proofs.Ytciajpimpjpnfaa
open Go.RowKit

theorem Rdr.drew' {W : World} {B R : Nat} {v : Value} {n p : Nat} (h : Rdr W B R v n p) : Rdr W.drew B R v n p := h
theorem Only.of_drew' {R : Nat} {W W' : World} (h : Only R W.drew W') : Only R W W' := ⟨h.os, h.tape, h.output, h.size, h.block⟩
theorem pickLit (cs : Array Value) (m : Int) (P : Int → Prop) (hm : 1 ≤ m) (hm2 : m ≤ 1000) (hl : ∀ y : Int, 0 ≤ y → y < m → ∃ pv, cs[y.toNat]? = some (.int .i64 pv) ∧ P pv) (B R : Nat) (v : Value) (n p : Nat) (hp : p ≤ 100000) (w2 : World) (HA : Hid (Rdr w2 B R v n p)) (hB : B ≤ w2.heap.size) :
    Calls Try.prog 69 #[.pointer (some ⟨R, 0, none⟩), .int .i64 m] ((w2.alloc (.cells cs 3)).drew) fun e w' => ∃ (y pv : Int), e = .returned (.int .i64 y) ∧ 0 ≤ y ∧ y < m ∧ w'.cell? ⟨w2.heap.size, y.toNat, none⟩ = some (.int .i64 pv) ∧ P pv ∧ Hid (Only R w2 w') := by
  have hR := HA.out.lt
  refine (pick_any _ _ _ _ p m (by omega) (by omega) (by omega) _ ((HA.out.alloc (by omega) _).drew')).mono ?_
  rintro e w3 ⟨y, r, rfl, hy0, hy1, _, hr, HC, HP⟩
  replace hy1 := hy1 (by omega)
  obtain ⟨pv, hpv, hpl⟩ := hl y hy0 hy1
  have HQ := HP.out.of_drew'
  have c := lit_cell (fr := (0, 0)) HQ hR y.toNat
  exact ⟨y, pv, rfl, hy0, hy1, c.trans hpv, hpl, hid (((Only.refl _ _).alloc _).trans HQ)⟩
theorem pickLit2 (cs : Array Value) (m : Int) (P : Int → Prop) (hm : 1 ≤ m) (hm2 : m ≤ 1000) (hl : ∀ y : Int, 0 ≤ y → y < m → ∃ pv, cs[y.toNat]? = some (.int .i64 pv) ∧ P pv) (B R : Nat) (v : Value) (n p : Nat) (hp : p ≤ 100000) (w2 : World) (HA : Hid (Rdr w2 B R v n p)) (hB : B ≤ w2.heap.size) :
    Calls Try.prog 69 #[.pointer (some ⟨R, 0, none⟩), .int .i64 m] w2.drew fun e w' => ∃ (y pv : Int), e = .returned (.int .i64 y) ∧ 0 ≤ y ∧ y < m ∧ (w'.alloc (.cells cs 3)).cell? ⟨w'.heap.size, y.toNat, none⟩ = some (.int .i64 pv) ∧ P pv ∧ Hid (Only R w2 w') := by
  refine (pick_any _ _ _ _ p m (by omega) (by omega) (by omega) _ HA.out.drew').mono ?_
  rintro e w3 ⟨y, r, rfl, hy0, hy1, _, hr, HC, HP⟩
  replace hy1 := hy1 (by omega)
  obtain ⟨pv, hpv, hpl⟩ := hl y hy0 hy1
  refine ⟨y, pv, rfl, hy0, hy1, ?_, hpl, hid HP.out.of_drew'⟩
  rw [Go.cell_of_row _ _ _ _ _ _ (World.alloc_heap_new w3 _)]
  exact hpv

def facOk (y : Int) : Prop := (-3 ≤ y ∧ y ≤ 5) ∨ y = 5001
theorem fac2 : ∀ y : Int, 0 ≤ y → y < 2 → ∃ pv, (#[.int .i64 0, .int .i64 5001] : Array Value)[y.toNat]? = some (.int .i64 pv) ∧ facOk pv := by
  intro y h0 h1
  have : y = 0 ∨ y = 1 := by omega
  rcases this with rfl | rfl
  all_goals exact ⟨_, rfl, by unfold facOk; omega⟩
theorem fac8 : ∀ y : Int, 0 ≤ y → y < 8 → ∃ pv, (#[.int .i64 1, .int .i64 (-1), .int .i64 2, .int .i64 3, .int .i64 (-2), .int .i64 4, .int .i64 5, .int .i64 (-3)] : Array Value)[y.toNat]? = some (.int .i64 pv) ∧ facOk pv := by
  intro y h0 h1
  have : y = 0 ∨ y = 1 ∨ y = 2 ∨ y = 3 ∨ y = 4 ∨ y = 5 ∨ y = 6 ∨ y = 7 := by omega
  rcases this with rfl | rfl | rfl | rfl | rfl | rfl | rfl | rfl
  all_goals exact ⟨_, rfl, by unfold facOk; omega⟩


end Go.Proofs.Ytciajpimpjpnfaa

/-! Draws9 -/
set_option linter.unusedVariables false
namespace Go.Proofs.Ytciajpimpjpnfaa
open Go.RowKit

def VecOk (m : Nat) (k : Int) (ys : List Int) : Prop := ys.length = m ∧ ∀ y ∈ ys, -k ≤ y ∧ y ≤ k
theorem VecOk.snoc {m : Nat} {k : Int} {ys : List Int} {x : Int} (h : VecOk m k ys) (h1 : -k ≤ x) (h2 : x ≤ k) : VecOk (m + 1) k (ys ++ [x]) :=
  ⟨by rw [List.length_append, h.1]; rfl, fun y hy => by
    rcases List.mem_append.1 hy with h3 | h3
    · exact h.2 y h3
    · rw [List.mem_singleton] at h3; subst h3; exact ⟨h1, h2⟩⟩
def VecPost (m : Nat) (w : World) (B R : Nat) (v : Value) (n p : Nat) (e : Ending) (w' : World) : Prop :=
  ∃ (u : Value) (ys : List Int) (q : Nat), e = .returned u ∧ VecOk m 9 ys ∧ Hid (Owns w' w.heap.size u ys) ∧ q ≤ p + m ∧ Hid (Rdr w' B R v n q) ∧ Hid (Only R w w')
theorem VecPost.mk {m : Nat} {w : World} {B R : Nat} {v : Value} {n p q : Nat} {u : Value} {ys : List Int} {w' : World} (h : VecOk m 9 ys) (ho : Hid (Owns w' w.heap.size u ys)) (hq : q ≤ p + m) (hr : Hid (Rdr w' B R v n q)) (hn : Hid (Only R w w')) : VecPost m w B R v n p (.returned u) w' :=
  ⟨u, ys, q, rfl, h, ho, hq, hr, hn⟩

set_option maxRecDepth 100000 in
set_option maxHeartbeats 4000000 in
theorem vector_any (B R : Nat) (v : Value) (n p m : Nat) (hp : p ≤ 70000) (hm2 : m ≤ 6) (a : Option Addr) (cap : Nat) (w : World) (HR : Hid (Rdr w B R v n p)) (hB : B ≤ w.heap.size) :
    Calls Try.prog 68 #[.pointer (some ⟨R, 0, none⟩), .slice a m cap, .int .i64 9] w (VecPost m w B R v n p) := by
  obtain ⟨i0, hi, hz0, hz1, hz2⟩ := info_parts infoInt
  have hRs := HR.out.lt
  have hBR := HR.out.1
  have HO0 : Hid (Owns (w.alloc (.cells #[] 3)) w.heap.size (.slice (some ⟨w.heap.size, 0, none⟩) 0 0) []) := hid (World.ownsRow_made (size := 1) w #[] 0 (Nat.le_refl _) (by unfold maxLen; omega) rfl)
  have HRA := hid (HR.out.alloc hB (.cells #[] 3))
  have HON := hid ((Only.refl R w).alloc (.cells #[] 3))
  go_enter Try.func68, Try.ntmps68
  go_wp2_with fail
  go_loopw [7, 8] (fun so si wr => ∃ (K r : Nat) (ys : List Int), si = .int .i64 K ∧ K ≤ m ∧ r ≤ p + K ∧ Hid (VecOk K 9 ys) ∧ Hid (Owns wr w.heap.size so ys) ∧ Hid (Rdr wr B R v n r) ∧ Hid (Only R w wr)) (fun _ si _ => 10 - (intOf si).toNat)
  case atStart => exact ⟨0, p, [], rfl, by omega, by omega, hid ⟨rfl, fun x hx => by cases hx⟩, HO0, HRA, HON⟩
  case round =>
    obtain ⟨K, r, ys, rfl, hK, hr, HT, HOr, HRr, HNr⟩ := hrel
    rename World => wr
    have hsr := HNr.out.size
    have hyl := HT.out.1
    by_cases hlt : K < m
    · have hKi : (K : Int) < (m : Int) := by omega
      have hRr := HRr.out.lt
      go_wp2_with (first | (go_at_call 69; refine (pick_any _ _ _ _ r 19 (by omega) (by omega) (by omega) _ HRr.out).mono ?_; rintro e wq ⟨k, s, rfl, hk0, hk1, _, hs, HC, HP⟩; replace hk1 := hk1 (by omega); have HO2 := hid (HOr.out.only HP.out (by omega)); have HN2 := hid (HNr.out.trans HP.out); have hs2 := HN2.out.size) | (at_builtin; refine wpList_append_own_at _ rfl _ _ 25 rfl w.heap.size 3 i0 (.int .i64 0) 1 8 Try.underlying25 hi hz0 hz1 hz2 rfl (by decide) _ _ _ rfl ((show World.ownsRow _ _ _ _ _ _ _ from HO2.out).alloc _) ⟨wq.heap.size, 0, none⟩ 1 1 [.int .i64 (k - 9)] rfl rfl (cell_one_new _ _ _) (by simp [Value.oneCell']) (by unfold maxLen; omega) (by omega) (by simp; omega) ?_; intro v' w3 hown' hgrow _ hat))
      have hsg := hgrow.size
      simp only [World.size_alloc] at hsg
      have HN4 := hid ((HN2.out.alloc (.cells #[.int .i64 (k - 9)] 3)).grown hgrow (fun k e => (HO2.out.ge k e)))
      have HR4 := hid (((HC.out.alloc (by omega) (.cells #[.int .i64 (k - 9)] 3)).kept (((Below.refl w.heap.size _).grown hgrow (by simp; omega) (fun k e => (HO2.out.ge k e)))) (by omega) (by omega)))
      go_roundw
      case measure => simp only [intOf]; omega
      case rel =>
        exact ⟨K + 1, s, ys ++ [k - 9], by go_num, by omega, by omega, hid (HT.out.snoc (by omega) (by omega)), hid (by unfold Owns; simpa using hown'), HR4, HN4⟩
    · obtain rfl : K = m := by omega
      go_wp2
      go_ret
      exact VecPost.mk HT.out HOr (by omega) HRr HNr

end Go.Proofs.Ytciajpimpjpnfaa

/-! Draws10 -/
set_option linter.unusedVariables false
namespace Go.Proofs.Ytciajpimpjpnfaa
open Go.RowKit

theorem Owns.reads {W : World} {B : Nat} {v : Value} {xs : List Int} (h : Owns W B v xs) : ∃ a cap, v = .slice a xs.length cap := by
  rcases h.2 with ⟨h3, h4⟩ | ⟨g, cap, cur, h3, _⟩
  · have h5 : xs.length = 0 := h4
    exact ⟨none, 0, by rw [h3, h5]⟩
  · exact ⟨_, cap, h3⟩
theorem Owns.room {W : World} {B g cap n : Nat} {xs : List Int} (h : Owns W B (.slice (some ⟨g, 0, none⟩) n cap) xs) : xs.length ≤ cap := by
  rcases h.2 with ⟨h3, h4⟩ | ⟨g, cap, cur, h3, _, _, h4, _⟩
  · cases h3
  · simp only [Value.slice.injEq] at h3
    omega
/-- a slice cut at its head -/
theorem Rd.drop {W : World} {g o n cap k : Nat} {xs : List Int} (h : Rd W (.slice (some ⟨g, o, none⟩) n cap) xs) (hk : k ≤ n) (hn : xs.length = n) : Rd W (.slice (some ⟨g, o + k, none⟩) (n - k) (cap - k)) (xs.drop k) := by
  subst hn
  by_cases h0 : xs.length = k
  · exact .inl ⟨_, _, by rw [h0, Nat.sub_self], List.drop_eq_nil_of_le (by omega)⟩
  · rcases h with ⟨a, c, hv, hx⟩ | ⟨b, o', c, hv, hl, hm, hc⟩
    · subst hx; have e : ([] : List Int).length = 0 := rfl; omega
    · simp only [Value.slice.injEq, Option.some.injEq, Addr.mk.injEq, and_true, true_and] at hv
      obtain ⟨⟨rfl, rfl⟩, rfl⟩ := hv
      refine .inr ⟨g, o + k, cap - k, by rw [List.length_drop], by rw [List.length_drop]; omega, by rw [List.length_drop]; omega, fun i hi => ?_⟩
      rw [List.length_drop] at hi
      have := hc (k + i) (by omega)
      rw [show o + k + i = o + (k + i) by omega, this]
      simp [List.getD]
theorem Rd.cut {W : World} {g o n cap k : Nat} {xs : List Int} (h : Rd W (.slice (some ⟨g, o, none⟩) n cap) xs) (hk : k ≤ n) (hn : xs.length = n) (hc : n ≤ cap) : Rd W (.slice (if cap = k then some ⟨g, o, none⟩ else some ⟨g, o + k, none⟩) (n - k) (cap - k)) (xs.drop k) := by
  by_cases e : cap = k
  · exact .inl ⟨_, _, by rw [show n - k = 0 by omega], List.drop_eq_nil_of_le (by omega)⟩
  · rw [if_neg e]
    exact h.drop hk hn
theorem Rd.take {W : World} {g o n cap k c : Nat} {xs : List Int} (h : Rd W (.slice (some ⟨g, o, none⟩) n cap) xs) (hk : k ≤ n) (hn : xs.length = n) (hcc : cap ≤ c := by exact Nat.le_refl _) : Rd W (.slice (some ⟨g, o, none⟩) k c) (xs.take k) := by
  subst hn
  by_cases h0 : k = 0
  · exact .inl ⟨_, _, by rw [h0], by rw [h0]; rfl⟩
  · rcases h with ⟨a, c, hv, hx⟩ | ⟨b, o', c', hv, hl, hm, hc⟩
    · subst hx; simp at hk; omega
    · simp only [Value.slice.injEq, Option.some.injEq, Addr.mk.injEq, and_true, true_and] at hv
      obtain ⟨⟨rfl, rfl⟩, rfl⟩ := hv
      have e : (xs.take k).length = k := by rw [List.length_take]; omega
      refine .inr ⟨g, o, c, by rw [e], by omega, by omega, fun i hi => ?_⟩
      rw [e] at hi
      rw [hc i (by omega)]
      simp [List.getD, hi]
theorem firm_cut (c : Prop) [Decidable c] (x y : Addr) (n k : Nat) : Firm (.slice (if c then some x else some y) n k) := by
  by_cases h : c
  · rw [if_pos h]; exact .inr ⟨_, _, _, rfl⟩
  · rw [if_neg h]; exact .inr ⟨_, _, _, rfl⟩
theorem Owns.kept0 {W W' : World} {B : Nat} {v : Value} {xs : List Int} {g : Nat} (h : Owns W B v xs) (hg : W.grownBy W' (some g)) (hne : ∀ k, v.ownBlock = some k → k < g) : Owns W' B v xs :=
  World.ownsRow.kept h hg (by
    cases e : v.ownBlock with
    | none => exact .inl rfl
    | some k => exact .inr (fun e2 => by have := hne k e; cases e2; omega))
def VecGood (m : Nat) (ys : List Int) : Prop := ys.length ≤ m ∧ ∀ y ∈ ys, -1001 ≤ y ∧ y ≤ 1001
theorem VecOk.good {m : Nat} {ys : List Int} (h : VecOk m 9 ys) : VecGood m ys := ⟨by rw [h.1]; exact Nat.le_refl _, fun y hy => by have := h.2 y hy; omega⟩
theorem VecGood.drop {m k : Nat} {ys : List Int} (h : VecGood m ys) : VecGood m (ys.drop k) := ⟨by rw [List.length_drop]; have := h.1; omega, fun y hy => h.2 y (List.mem_of_mem_drop hy)⟩
theorem VecGood.set0 {m : Nat} {ys : List Int} {x : Int} (h : VecGood m ys) (h1 : -1001 ≤ x) (h2 : x ≤ 1001) : VecGood m (ys.set 0 x) :=
  ⟨by rw [List.length_set]; exact h.1, fun y hy => by
    rcases List.mem_or_eq_of_mem_set hy with h3 | h3
    · exact h.2 y h3
    · subst h3; exact ⟨h1, h2⟩⟩

set_option maxRecDepth 100000 in
set_option maxHeartbeats 4000000 in
theorem drawFormValue_any (v : Value) (n : Nat) (w : World) (h : CodeIn w v n) : Calls Try.prog 20 #[v] w (DrewFF (fun xs ys => TermsOk xs ∧ VecGood xs.length ys) w) := by
  go_enter Try.func20, Try.ntmps20
  go_wp2_with fail
  refine (open_any v n _ h).mono ?_
  rintro e w1 ⟨v1, n1, rfl, HR, HB⟩
  have hsz := HB.size
  go_wp2_with fail
  refine (formDraw_any _ _ _ _ 0 4 (by omega) (by omega) (by omega) _ HR hsz).mono ?_
  rintro e w2 ⟨u, xs, q, rfl, HT, HO, hq, HA, HN⟩
  have hs2 := HN.out.size
  have hlt := HR.out.lt
  obtain ⟨a, cap, rfl⟩ := HO.out.reads
  have hml := HT.1
  go_wp2_with fail
  refine (vector_any _ _ _ _ q xs.length (by omega) (by omega) a cap _ HA (by omega)).mono ?_
  rintro e w3 ⟨uv, ys, r, rfl, HV, HOv, hr, HC, HP⟩
  have hs3 := HP.out.size
  have HO2 := hid (HO.out.only HP.out hlt)
  have HN2 := hid (HN.out.trans HP.out)
  have HYL := hid HV.1
  have HOL := hid HO.out.lt
  clear HO HN HP
  obtain ⟨b, capv, rfl⟩ := HOv.out.reads
  have HVG := hid HV.good
  clear HV
  by_cases h0 : ys.length = 0
  · have h0i : ¬ ((ys.length : Nat) : Int) > 0 := by omega
    have HRd := hid HOv.out.rd
    have HFm := hid HOv.out.firm
    clear h0
    go_wp2
    go_ret2
    exact DrewFF.mk ⟨HT, HVG.out⟩ (HO2.out.base hsz) HRd.out HFm.out (only_below HB HN2.out)
  · have hyp : ((ys.length : Nat) : Int) > 0 := by omega
    have hyp1 : (1 : Int) ≤ ((ys.length : Nat) : Int) := by omega
    obtain ⟨g, cap2, hv2⟩ := HOv.out.slice_of (by omega)
    simp only [Value.slice.injEq, true_and] at hv2
    obtain ⟨rfl, rfl⟩ := hv2
    have hg := HOv.out.ge g rfl
    go_wp2_with fail
    refine (pick_any _ _ _ _ r 20 (by omega) (by omega) (by omega) _ (HC.out)).mono ?_
    rintro e wHD ⟨z, s, rfl, hz0, hz1, _, hs, HD, HQ⟩
    replace hz1 := hz1 (by omega)
    have hs4 := HQ.out.size
    have HN3 := hid (HN2.out.trans HQ.out)
    have HO3 := hid (HO2.out.only HQ.out hlt)
    have HOw := hid (HOv.out.only HQ.out (by omega))
    have HRd := hid HOw.out.rd
    have HFm := hid HOw.out.firm
    clear HN2 HO2 HOv HQ
    by_cases hz : z = 0
    · subst hz
      have HCut := hid (HRd.out.cut (k := 1) (by omega) rfl HOw.out.room)
      by_cases hcv : capv = 1
      · subst hcv
        have HC0 := HCut.out
        rw [if_pos rfl] at HC0
        replace HC0 := hid HC0
        clear HCut
        go_wp2_with fail
        go_quiet (fail)
        go_wp2
        go_ret2
        exact DrewFF.mk (w' := wHD.drewN nq) ⟨HT, HVG.out.drop (k := 1)⟩ ((HO3.out.base hsz).drewN nq) HC0.out (.inr ⟨_, _, _, rfl⟩) (Below.trans (only_below HB HN3.out) ⟨rfl, rfl, rfl, Nat.le_refl _, fun _ _ => rfl⟩)
      · have HC0 := HCut.out
        rw [if_neg hcv] at HC0
        replace HC0 := hid HC0
        clear HCut
        go_wp2_with fail
        go_quiet (fail)
        go_wp2
        go_ret2
        exact DrewFF.mk (w' := wHD.drewN nq) ⟨HT, HVG.out.drop (k := 1)⟩ ((HO3.out.base hsz).drewN nq) HC0.out (.inr ⟨_, _, _, rfl⟩) (Below.trans (only_below HB HN3.out) ⟨rfl, rfl, rfl, Nat.le_refl _, fun _ _ => rfl⟩)
    · by_cases hz1 : z = 1
      · subst hz1
        go_wp2_with fail
        refine (pick_any _ _ _ _ s 2 (by omega) (by omega) (by omega) _ (HD.out.alloc (by omega) _)).mono ?_
        rintro e wHE ⟨k2, s2, rfl, hk20, hk21, _, hs2, HE, HS⟩
        replace hk21 := hk21 (by omega)
        have HO4 := hid (Owns.only (W' := wHE) (show Owns (wHD.alloc (.cells #[.int .i64 1000, .int .i64 1001] 3)) w2.heap.size (.slice (some ⟨g, 0, none⟩) ys.length capv) ys from HOw.out.alloc _) HS.out (by omega))
        have HX4 := hid (Owns.only (W' := wHE) (show Owns (wHD.alloc (.cells #[.int .i64 1000, .int .i64 1001] 3)) w1.heap.size (.slice a xs.length cap) xs from HO3.out.alloc _) HS.out (by omega))
        have HN4 := hid ((HN3.out.alloc (.cells #[.int .i64 1000, .int .i64 1001] 3)).trans HS.out)
        have hs5 := HN4.out.size
        have hRw := HD.out.lt
        have hk2c : k2 = 0 ∨ k2 = 1 := by omega
        have f1 := World.ownsRow.frozenAt HO4.out 0
        have c1 : ∃ x0, wHE.cell? ⟨g, 0, none⟩ = some (.int .i64 x0) := by
          have hK2 : 0 < ys.length := by omega
          refine ⟨ys[0], ?_⟩
          rw [World.ownsRow.cellAt HO4.out 0 (by omega), List.getElem?_map, List.getElem?_eq_getElem hK2]
          rfl
        obtain ⟨x0, c1⟩ := c1
        have hi0 : (0 : Int) < (ys.length : Int) := by omega
        have hne : ∀ k, (Value.slice a xs.length cap).ownBlock = some k → k < g := fun k e => Nat.lt_of_lt_of_le (HOL.out k e) hg
        rcases hk2c with rfl | rfl
        · have c := lit_cell (fr := (0, 0)) HS.out hRw 0
          simp at c
          have HST := hid (HO4.out.stored0 1000)
          have HZ := hid (HVG.out.set0 (x := 1000) (by omega) (by omega))
          go_wp2
          go_ret2
          exact DrewFF.mk ⟨HT, HZ.out⟩ (Owns.base (Owns.kept0 HX4.out HST.out.2 hne) hsz) HST.out.1.rd HST.out.1.firm (Below.grown (only_below HB HN4.out) HST.out.2 (by omega) (fun k e => by cases e; omega))
        · have c := lit_cell (fr := (0, 0)) HS.out hRw 1
          simp at c
          have HST := hid (HO4.out.stored0 1001)
          have HZ := hid (HVG.out.set0 (x := 1001) (by omega) (by omega))
          go_wp2
          go_ret2
          exact DrewFF.mk ⟨HT, HZ.out⟩ (Owns.base (Owns.kept0 HX4.out HST.out.2 hne) hsz) HST.out.1.rd HST.out.1.firm (Below.grown (only_below HB HN4.out) HST.out.2 (by omega) (fun k e => by cases e; omega))
      · go_wp2
        go_ret2
        exact DrewFF.mk ⟨HT, HVG.out⟩ (HO3.out.base hsz) HRd.out HFm.out (only_below HB HN3.out)

end Go.Proofs.Ytciajpimpjpnfaa
