/-
  What the drawing functions of chapter 6 hand out: triples.
-/
import Derived.Test.YtenibnblibnocabDraws18
import Derived.Test.YtenibnblibnocabBun48
import Derived.Test.YtenibnblibnocabTm1
import Derived.Test.YtenibnblibnocabRegInv
set_option linter.unusedVariables false
namespace Go.Proofs.Ytenibnblibnocab
open Go.RowKit

theorem makeV_v4 (m n : Int) : ∃ (x y z : Int) (o : Bool), makeV m n = .tuple #[.int .i64 x, .int .i64 y, .int .i64 z, .bool o] := v4_form _ _ _ _
/-- a list of so many integers outside the reader's block -/
def IsLit (wx : World) (R : Nat) (len : Nat) (v : Value) : Prop := ∃ (b : Nat) (cs : Array Value), v = .slice (some ⟨b, 0, none⟩) len len ∧ b ≠ R ∧ wx.heap[b]? = some (.cells cs 3 (0, 0)) ∧ ∀ y : Int, 0 ≤ y → y < len → ∃ x, cs[y.toNat]? = some (.int .i64 x)
def IsPtr (wx : World) (R : Nat) (v : Value) : Prop := ∃ (b o : Nat) (x : Int), v = .pointer (some ⟨b, o, none⟩) ∧ b ≠ R ∧ b < wx.heap.size ∧ wx.cell? ⟨b, o, none⟩ = some (.int .i64 x)
def IsIdx (len : Nat) (v : Value) : Prop := ∃ y : Int, v = .int .i64 y ∧ 0 ≤ y ∧ y < len
def IsNum (v : Value) : Prop := ∃ x : Int, v = .int .i64 x
theorem IsLit.later {w w' : World} {R len : Nat} {v : Value} (h : IsLit w R len v) (ho : Only R w w') : IsLit w' R len v := by
  obtain ⟨b, cs, h1, h2, h3, h4⟩ := h
  exact ⟨b, cs, h1, h2, (ho.block b (Array.getElem?_eq_some_iff.1 h3).1 h2).trans h3, h4⟩
theorem IsPtr.later {w w' : World} {R : Nat} {v : Value} (h : IsPtr w R v) (ho : Only R w w') : IsPtr w' R v := by
  obtain ⟨b, o, x, h1, h2, h3, h4⟩ := h
  exact ⟨b, o, x, h1, h2, Nat.lt_of_lt_of_le h3 ho.size, (ho.cell h3 h2).trans h4⟩
theorem IsLit.made {w : World} {R len : Nat} (cs : Array Value) (hR : R < w.heap.size) (hc : ∀ y : Int, 0 ≤ y → y < len → ∃ x, cs[y.toNat]? = some (.int .i64 x)) : IsLit (w.alloc (.cells cs 3)) R len (.slice (some ⟨w.heap.size, 0, none⟩) len len) :=
  ⟨w.heap.size, cs, rfl, by omega, World.alloc_heap_new w _, hc⟩
theorem IsLit.at {w : World} {len b : Nat} {cs : Array Value} (h : w.heap[b]? = some (.cells cs 3 (0, 0))) (hc : ∀ y : Int, 0 ≤ y → y < len → ∃ x, cs[y.toNat]? = some (.int .i64 x)) {y : Int} (y0 : 0 ≤ y) (y1 : y < len) : b < w.heap.size ∧ ∃ x, w.cell? ⟨b, y.toNat, none⟩ = some (.int .i64 x) := by
  obtain ⟨x, hx⟩ := hc y y0 y1
  exact ⟨(Array.getElem?_eq_some_iff.1 h).1, x, (Go.cell_of_row _ _ _ _ _ _ h).trans hx⟩
theorem lit5 (a b c d e : Int) : ∀ y : Int, 0 ≤ y → y < (5 : Nat) → ∃ x, (#[.int .i64 a, .int .i64 b, .int .i64 c, .int .i64 d, .int .i64 e] : Array Value)[y.toNat]? = some (.int .i64 x) := by
  intro y h0 h1
  have : y = 0 ∨ y = 1 ∨ y = 2 ∨ y = 3 ∨ y = 4 := by omega
  rcases this with rfl | rfl | rfl | rfl | rfl
  all_goals exact ⟨_, rfl⟩
theorem lit4 (a b c d : Int) : ∀ y : Int, 0 ≤ y → y < (4 : Nat) → ∃ x, (#[.int .i64 a, .int .i64 b, .int .i64 c, .int .i64 d] : Array Value)[y.toNat]? = some (.int .i64 x) := by
  intro y h0 h1
  have : y = 0 ∨ y = 1 ∨ y = 2 ∨ y = 3 := by omega
  rcases this with rfl | rfl | rfl | rfl
  all_goals exact ⟨_, rfl⟩
theorem lit3 (a b c : Int) : ∀ y : Int, 0 ≤ y → y < (3 : Nat) → ∃ x, (#[.int .i64 a, .int .i64 b, .int .i64 c] : Array Value)[y.toNat]? = some (.int .i64 x) := by
  intro y h0 h1
  have : y = 0 ∨ y = 1 ∨ y = 2 := by omega
  rcases this with rfl | rfl | rfl
  all_goals exact ⟨_, rfl⟩
/-- three integers, each from a list of its own -/
structure TriI (B R : Nat) (v : Value) (n P : Nat) (w0 : World) (L : Array Bool) (wx : World) (sv2 sv3 sv4 sv34 sv35 sv36 sv37 sv38 sv39 sv40 sv41 sv42 sv43 sv44 sv45 sv46 sv47 sv48 : Value) : Prop where
  hs : L.size = 18
  hr : ∃ p, Rdr wx B R v n p ∧ p + openN L ≤ P
  ho : Only R w0 wx
  h0 : dn L 0 → IsLit wx R 5 sv34
  h1 : dn L 1 → sv35 = .pointer (some ⟨R, 0, none⟩)
  h2 : dn L 2 → IsIdx 5 sv36
  h3 : dn L 3 → IsPtr wx R sv37
  h4 : dn L 4 → IsNum sv38
  h5 : dn L 5 → IsLit wx R 4 sv39
  h6 : dn L 6 → sv40 = .pointer (some ⟨R, 0, none⟩)
  h7 : dn L 7 → IsIdx 4 sv41
  h8 : dn L 8 → IsPtr wx R sv42
  h9 : dn L 9 → IsNum sv43
  h10 : dn L 10 → IsLit wx R 3 sv44
  h11 : dn L 11 → sv45 = .pointer (some ⟨R, 0, none⟩)
  h12 : dn L 12 → IsIdx 3 sv46
  h13 : dn L 13 → IsPtr wx R sv47
  h14 : dn L 14 → IsNum sv48
  h15 : dn L 15 → IsNum sv2
  h16 : dn L 16 → IsNum sv3
  h17 : dn L 17 → IsNum sv4
set_option maxRecDepth 100000 in
set_option maxHeartbeats 8000000 in
theorem triple_any (B R : Nat) (v : Value) (n p : Nat) (hp : p ≤ 1000000) (w : World) (h : Rdr w B R v n p) (hB : B ≤ w.heap.size) : Calls Try.prog 81 #[.pointer (some ⟨R, 0, none⟩)] w fun e w' => ∃ (x y z : Int) (q : Nat), e = .returned (.tuple #[.int .i64 x, .int .i64 y, .int .i64 z]) ∧ q ≤ p + 30 ∧ Hid (Rdr w' B R v n q) ∧ Hid (Only R w w') := by
  have HR := hid h
  clear h
  go_enter Try.func81, Try.ntmps81
  go_wp2_with fail
  refine (pick_any _ _ _ _ p 12 (by omega) (by omega) (by omega) _ (HR.out)).mono ?_
  rintro e wHA ⟨m, q1, rfl, hm0, hm1, _, hq1, HA, HO⟩
  replace hm1 := hm1 (by omega)
  go_wp2_with fail
  refine (pick_any _ _ _ _ q1 (2 + m - 1) (by omega) (by omega) (by omega) _ (HA.out)).mono ?_
  rintro e wHC ⟨k, q2, rfl, hk0, hk1, _, hq2, HC, HP⟩
  replace hk1 := hk1 (by omega)
  go_wp2_with fail
  refine (tripleMakeS_any _ _ _).mono ?_
  obtain ⟨x, y, z, o, ho⟩ := makeV_v4 (2 + m) (1 + k)
  rw [ho]
  clear ho
  rintro e wm ⟨rfl, rfl⟩
  cases o with
  | true =>
    go_wp2_with fail
    refine (pick_any _ _ _ _ q2 12 (by omega) (by omega) (by omega) _ (HC.out)).mono ?_
    rintro e wHE ⟨t, q3, rfl, ht0, ht1, _, hq3, HE, HQ⟩
    replace ht1 := ht1 (by omega)
    by_cases h0 : 0 < t
    · go_wp2
      go_ret3
      exact ⟨x, y, z, q3, rfl, by omega, HE, hid ((HO.out.trans HP.out).trans HQ.out)⟩
    · obtain rfl : t = 0 := by omega
      clear h0
      go_wp2_with fail
      refine region_inv (by kernel_rfl) (fun L act wx => ∃ sv2 sv3 sv4 sv34 sv35 sv36 sv37 sv38 sv39 sv40 sv41 sv42 sv43 sv44 sv45 sv46 sv47 sv48 : Value, act = ({ tmps := #[.pointer (some ⟨R, 0, none⟩), undef, sv2, sv3, sv4, .int .i64 (2 + m), .int .i64 x, .int .i64 y, .int .i64 z, .bool true, .pointer (some ⟨R, 0, none⟩), .int .i64 m, .int .i64 (2 + m), .tuple #[.int .i64 x, .int .i64 y, .int .i64 z, .bool true], .int .i64 (2 + m), .pointer (some ⟨R, 0, none⟩), .int .i64 (2 + m), .int .i64 (2 + m - 1), .int .i64 k, .int .i64 (1 + k), .tuple #[.int .i64 x, .int .i64 y, .int .i64 z, .bool true], .int .i64 x, .int .i64 y, .int .i64 z, .bool true, .bool true, .bool true, .pointer (some ⟨R, 0, none⟩), .int .i64 0, .bool false, .bool false, undef, undef, undef, sv34, sv35, sv36, sv37, sv38, sv39, sv40, sv41, sv42, sv43, sv44, sv45, sv46, sv47, sv48], defers := [] } : Act) ∧ TriI B R v n (q3 + 18) wHE L wx sv2 sv3 sv4 sv34 sv35 sv36 sv37 sv38 sv39 sv40 sv41 sv42 sv43 sv44 sv45 sv46 sv47 sv48) ?h0 ?hend ?hstep
      case h0 => exact ⟨.int .i64 0, .int .i64 0, .int .i64 0, undef, undef, undef, undef, undef, undef, undef, undef, undef, undef, undef, undef, undef, undef, undef, rfl, ⟨rfl, ⟨q3, HE.out, by rw [open_new]; exact Nat.le_refl _⟩, ⟨rfl, rfl, rfl, Nat.le_refl _, fun _ _ _ => rfl⟩, fun h => (dn_new h).elim, fun h => (dn_new h).elim, fun h => (dn_new h).elim, fun h => (dn_new h).elim, fun h => (dn_new h).elim, fun h => (dn_new h).elim, fun h => (dn_new h).elim, fun h => (dn_new h).elim, fun h => (dn_new h).elim, fun h => (dn_new h).elim, fun h => (dn_new h).elim, fun h => (dn_new h).elim, fun h => (dn_new h).elim, fun h => (dn_new h).elim, fun h => (dn_new h).elim, fun h => (dn_new h).elim, fun h => (dn_new h).elim, fun h => (dn_new h).elim⟩⟩
      case hstep =>
        rintro L act wx i ⟨sv2, sv3, sv4, sv34, sv35, sv36, sv37, sv38, sv39, sv40, sv41, sv42, sv43, sv44, sv45, sv46, sv47, sv48, rfl, I⟩ hi
        obtain ⟨hi1, hf, hdep⟩ := ready_mem hi
        have hi2 : i < 18 := hi1
        obtain ⟨pn, HRD, hpn2⟩ := I.hr
        have hpn : pn ≤ 1000000000000000 := by omega
        have HBS := Nat.le_trans HRD.1 (Nat.le_of_lt HRD.lt)
        have HI := hid I
        have HF := hid hf
        clear hi hi1 I hf
        have hc : i = 0 ∨ i = 1 ∨ i = 2 ∨ i = 3 ∨ i = 4 ∨ i = 5 ∨ i = 6 ∨ i = 7 ∨ i = 8 ∨ i = 9 ∨ i = 10 ∨ i = 11 ∨ i = 12 ∨ i = 13 ∨ i = 14 ∨ i = 15 ∨ i = 16 ∨ i = 17 := by omega
        clear hi2
        rcases hc with rfl | rfl | rfl | rfl | rfl | rfl | rfl | rfl | rfl | rfl | rfl | rfl | rfl | rfl | rfl | rfl | rfl | rfl
        · skip
          clear hdep
          refine wpOp_step rfl (fun K hK => ?_)
          go_simp
          exact hK _ _ ⟨_, _, _, _, _, _, _, _, _, _, _, _, _, _, _, _, _, _, rfl, ⟨(by rw [Array.size_setIfInBounds]; exact HI.out.hs), ⟨pn, HRD.alloc HBS _, by have := open_set HF.out; omega⟩, HI.out.ho.alloc _, fun _ => IsLit.made _ HRD.lt (lit5 _ _ _ _ _), fun h => HI.out.h1 (dn_old h (by decide)), fun h => HI.out.h2 (dn_old h (by decide)), fun h => (HI.out.h3 (dn_old h (by decide))).later ((Only.refl _ _).alloc _), fun h => HI.out.h4 (dn_old h (by decide)), fun h => (HI.out.h5 (dn_old h (by decide))).later ((Only.refl _ _).alloc _), fun h => HI.out.h6 (dn_old h (by decide)), fun h => HI.out.h7 (dn_old h (by decide)), fun h => (HI.out.h8 (dn_old h (by decide))).later ((Only.refl _ _).alloc _), fun h => HI.out.h9 (dn_old h (by decide)), fun h => (HI.out.h10 (dn_old h (by decide))).later ((Only.refl _ _).alloc _), fun h => HI.out.h11 (dn_old h (by decide)), fun h => HI.out.h12 (dn_old h (by decide)), fun h => (HI.out.h13 (dn_old h (by decide))).later ((Only.refl _ _).alloc _), fun h => HI.out.h14 (dn_old h (by decide)), fun h => HI.out.h15 (dn_old h (by decide)), fun h => HI.out.h16 (dn_old h (by decide)), fun h => HI.out.h17 (dn_old h (by decide))⟩⟩
        · skip
          clear hdep
          refine wpOp_step rfl (fun K hK => ?_)
          go_simp
          exact hK _ _ ⟨_, _, _, _, _, _, _, _, _, _, _, _, _, _, _, _, _, _, rfl, ⟨(by rw [Array.size_setIfInBounds]; exact HI.out.hs), ⟨pn, HRD, by have := open_set HF.out; omega⟩, HI.out.ho, fun h => HI.out.h0 (dn_old h (by decide)), fun _ => rfl, fun h => HI.out.h2 (dn_old h (by decide)), fun h => HI.out.h3 (dn_old h (by decide)), fun h => HI.out.h4 (dn_old h (by decide)), fun h => HI.out.h5 (dn_old h (by decide)), fun h => HI.out.h6 (dn_old h (by decide)), fun h => HI.out.h7 (dn_old h (by decide)), fun h => HI.out.h8 (dn_old h (by decide)), fun h => HI.out.h9 (dn_old h (by decide)), fun h => HI.out.h10 (dn_old h (by decide)), fun h => HI.out.h11 (dn_old h (by decide)), fun h => HI.out.h12 (dn_old h (by decide)), fun h => HI.out.h13 (dn_old h (by decide)), fun h => HI.out.h14 (dn_old h (by decide)), fun h => HI.out.h15 (dn_old h (by decide)), fun h => HI.out.h16 (dn_old h (by decide)), fun h => HI.out.h17 (dn_old h (by decide))⟩⟩
        · skip
          have q1 : dn L 1 := hdep _ rfl { on := 1, ground := .data } (by simp) rfl
          clear hdep
          obtain rfl := HI.out.h1 q1
          refine wpOp_step rfl (fun K hK => ?_)
          go_simp
          go_at_call 66
          refine (pick_any _ _ _ _ pn 5 hpn (by omega) (by omega) _ HRD).mono ?_
          rintro e wP ⟨y, r, rfl, hy0, hy1, _, hr1, HD1, HO1⟩
          replace hy1 := hy1 (by omega)
          exact hK _ _ ⟨_, _, _, _, _, _, _, _, _, _, _, _, _, _, _, _, _, _, rfl, ⟨(by rw [Array.size_setIfInBounds]; exact HI.out.hs), ⟨r, HD1.out, by have := open_set HF.out; omega⟩, HI.out.ho.trans HO1.out, fun h => (HI.out.h0 (dn_old h (by decide))).later HO1.out, fun h => HI.out.h1 (dn_old h (by decide)), fun _ => ⟨y, rfl, hy0, by omega⟩, fun h => (HI.out.h3 (dn_old h (by decide))).later HO1.out, fun h => HI.out.h4 (dn_old h (by decide)), fun h => (HI.out.h5 (dn_old h (by decide))).later HO1.out, fun h => HI.out.h6 (dn_old h (by decide)), fun h => HI.out.h7 (dn_old h (by decide)), fun h => (HI.out.h8 (dn_old h (by decide))).later HO1.out, fun h => HI.out.h9 (dn_old h (by decide)), fun h => (HI.out.h10 (dn_old h (by decide))).later HO1.out, fun h => HI.out.h11 (dn_old h (by decide)), fun h => HI.out.h12 (dn_old h (by decide)), fun h => (HI.out.h13 (dn_old h (by decide))).later HO1.out, fun h => HI.out.h14 (dn_old h (by decide)), fun h => HI.out.h15 (dn_old h (by decide)), fun h => HI.out.h16 (dn_old h (by decide)), fun h => HI.out.h17 (dn_old h (by decide))⟩⟩
        · skip
          have q0 : dn L 0 := hdep _ rfl { on := 0, ground := .data } (by simp) rfl
          have q2 : dn L 2 := hdep _ rfl { on := 2, ground := .data } (by simp) rfl
          clear hdep
          obtain ⟨bb, cs, rfl, hne, hbk, hcs⟩ := HI.out.h0 q0
          obtain ⟨y, rfl, hy0, hy1⟩ := HI.out.h2 q2
          obtain ⟨hbs, x, hx⟩ := IsLit.at hbk hcs hy0 hy1
          have hy2 : y < 5 := by omega
          have HCX := hid hx
          have HBK := hid hbk
          clear hx hbk hcs hy1
          refine wpOp_step rfl (fun K hK => ?_)
          go_simp
          exact hK _ _ ⟨_, _, _, _, _, _, _, _, _, _, _, _, _, _, _, _, _, _, rfl, ⟨(by rw [Array.size_setIfInBounds]; exact HI.out.hs), ⟨pn, HRD, by have := open_set HF.out; omega⟩, HI.out.ho, fun h => HI.out.h0 (dn_old h (by decide)), fun h => HI.out.h1 (dn_old h (by decide)), fun h => HI.out.h2 (dn_old h (by decide)), fun _ => ⟨bb, y.toNat, x, rfl, hne, hbs, HCX.out⟩, fun h => HI.out.h4 (dn_old h (by decide)), fun h => HI.out.h5 (dn_old h (by decide)), fun h => HI.out.h6 (dn_old h (by decide)), fun h => HI.out.h7 (dn_old h (by decide)), fun h => HI.out.h8 (dn_old h (by decide)), fun h => HI.out.h9 (dn_old h (by decide)), fun h => HI.out.h10 (dn_old h (by decide)), fun h => HI.out.h11 (dn_old h (by decide)), fun h => HI.out.h12 (dn_old h (by decide)), fun h => HI.out.h13 (dn_old h (by decide)), fun h => HI.out.h14 (dn_old h (by decide)), fun h => HI.out.h15 (dn_old h (by decide)), fun h => HI.out.h16 (dn_old h (by decide)), fun h => HI.out.h17 (dn_old h (by decide))⟩⟩
        · skip
          have q3 : dn L 3 := hdep _ rfl { on := 3, ground := .data } (by simp) rfl
          clear hdep
          obtain ⟨bb, oo, x, rfl, hne, hbs, hcx⟩ := HI.out.h3 q3
          refine wpOp_step rfl (fun K hK => ?_)
          go_simp
          exact hK _ _ ⟨_, _, _, _, _, _, _, _, _, _, _, _, _, _, _, _, _, _, rfl, ⟨(by rw [Array.size_setIfInBounds]; exact HI.out.hs), ⟨pn, HRD, by have := open_set HF.out; omega⟩, HI.out.ho, fun h => HI.out.h0 (dn_old h (by decide)), fun h => HI.out.h1 (dn_old h (by decide)), fun h => HI.out.h2 (dn_old h (by decide)), fun h => HI.out.h3 (dn_old h (by decide)), fun _ => ⟨x, rfl⟩, fun h => HI.out.h5 (dn_old h (by decide)), fun h => HI.out.h6 (dn_old h (by decide)), fun h => HI.out.h7 (dn_old h (by decide)), fun h => HI.out.h8 (dn_old h (by decide)), fun h => HI.out.h9 (dn_old h (by decide)), fun h => HI.out.h10 (dn_old h (by decide)), fun h => HI.out.h11 (dn_old h (by decide)), fun h => HI.out.h12 (dn_old h (by decide)), fun h => HI.out.h13 (dn_old h (by decide)), fun h => HI.out.h14 (dn_old h (by decide)), fun h => HI.out.h15 (dn_old h (by decide)), fun h => HI.out.h16 (dn_old h (by decide)), fun h => HI.out.h17 (dn_old h (by decide))⟩⟩
        · skip
          clear hdep
          refine wpOp_step rfl (fun K hK => ?_)
          go_simp
          exact hK _ _ ⟨_, _, _, _, _, _, _, _, _, _, _, _, _, _, _, _, _, _, rfl, ⟨(by rw [Array.size_setIfInBounds]; exact HI.out.hs), ⟨pn, HRD.alloc HBS _, by have := open_set HF.out; omega⟩, HI.out.ho.alloc _, fun h => (HI.out.h0 (dn_old h (by decide))).later ((Only.refl _ _).alloc _), fun h => HI.out.h1 (dn_old h (by decide)), fun h => HI.out.h2 (dn_old h (by decide)), fun h => (HI.out.h3 (dn_old h (by decide))).later ((Only.refl _ _).alloc _), fun h => HI.out.h4 (dn_old h (by decide)), fun _ => IsLit.made _ HRD.lt (lit4 _ _ _ _), fun h => HI.out.h6 (dn_old h (by decide)), fun h => HI.out.h7 (dn_old h (by decide)), fun h => (HI.out.h8 (dn_old h (by decide))).later ((Only.refl _ _).alloc _), fun h => HI.out.h9 (dn_old h (by decide)), fun h => (HI.out.h10 (dn_old h (by decide))).later ((Only.refl _ _).alloc _), fun h => HI.out.h11 (dn_old h (by decide)), fun h => HI.out.h12 (dn_old h (by decide)), fun h => (HI.out.h13 (dn_old h (by decide))).later ((Only.refl _ _).alloc _), fun h => HI.out.h14 (dn_old h (by decide)), fun h => HI.out.h15 (dn_old h (by decide)), fun h => HI.out.h16 (dn_old h (by decide)), fun h => HI.out.h17 (dn_old h (by decide))⟩⟩
        · skip
          clear hdep
          refine wpOp_step rfl (fun K hK => ?_)
          go_simp
          exact hK _ _ ⟨_, _, _, _, _, _, _, _, _, _, _, _, _, _, _, _, _, _, rfl, ⟨(by rw [Array.size_setIfInBounds]; exact HI.out.hs), ⟨pn, HRD, by have := open_set HF.out; omega⟩, HI.out.ho, fun h => HI.out.h0 (dn_old h (by decide)), fun h => HI.out.h1 (dn_old h (by decide)), fun h => HI.out.h2 (dn_old h (by decide)), fun h => HI.out.h3 (dn_old h (by decide)), fun h => HI.out.h4 (dn_old h (by decide)), fun h => HI.out.h5 (dn_old h (by decide)), fun _ => rfl, fun h => HI.out.h7 (dn_old h (by decide)), fun h => HI.out.h8 (dn_old h (by decide)), fun h => HI.out.h9 (dn_old h (by decide)), fun h => HI.out.h10 (dn_old h (by decide)), fun h => HI.out.h11 (dn_old h (by decide)), fun h => HI.out.h12 (dn_old h (by decide)), fun h => HI.out.h13 (dn_old h (by decide)), fun h => HI.out.h14 (dn_old h (by decide)), fun h => HI.out.h15 (dn_old h (by decide)), fun h => HI.out.h16 (dn_old h (by decide)), fun h => HI.out.h17 (dn_old h (by decide))⟩⟩
        · skip
          have q6 : dn L 6 := hdep _ rfl { on := 6, ground := .data } (by simp) rfl
          clear hdep
          obtain rfl := HI.out.h6 q6
          refine wpOp_step rfl (fun K hK => ?_)
          go_simp
          go_at_call 66
          refine (pick_any _ _ _ _ pn 4 hpn (by omega) (by omega) _ HRD).mono ?_
          rintro e wP ⟨y, r, rfl, hy0, hy1, _, hr1, HD1, HO1⟩
          replace hy1 := hy1 (by omega)
          exact hK _ _ ⟨_, _, _, _, _, _, _, _, _, _, _, _, _, _, _, _, _, _, rfl, ⟨(by rw [Array.size_setIfInBounds]; exact HI.out.hs), ⟨r, HD1.out, by have := open_set HF.out; omega⟩, HI.out.ho.trans HO1.out, fun h => (HI.out.h0 (dn_old h (by decide))).later HO1.out, fun h => HI.out.h1 (dn_old h (by decide)), fun h => HI.out.h2 (dn_old h (by decide)), fun h => (HI.out.h3 (dn_old h (by decide))).later HO1.out, fun h => HI.out.h4 (dn_old h (by decide)), fun h => (HI.out.h5 (dn_old h (by decide))).later HO1.out, fun h => HI.out.h6 (dn_old h (by decide)), fun _ => ⟨y, rfl, hy0, by omega⟩, fun h => (HI.out.h8 (dn_old h (by decide))).later HO1.out, fun h => HI.out.h9 (dn_old h (by decide)), fun h => (HI.out.h10 (dn_old h (by decide))).later HO1.out, fun h => HI.out.h11 (dn_old h (by decide)), fun h => HI.out.h12 (dn_old h (by decide)), fun h => (HI.out.h13 (dn_old h (by decide))).later HO1.out, fun h => HI.out.h14 (dn_old h (by decide)), fun h => HI.out.h15 (dn_old h (by decide)), fun h => HI.out.h16 (dn_old h (by decide)), fun h => HI.out.h17 (dn_old h (by decide))⟩⟩
        · skip
          have q5 : dn L 5 := hdep _ rfl { on := 5, ground := .data } (by simp) rfl
          have q7 : dn L 7 := hdep _ rfl { on := 7, ground := .data } (by simp) rfl
          clear hdep
          obtain ⟨bb, cs, rfl, hne, hbk, hcs⟩ := HI.out.h5 q5
          obtain ⟨y, rfl, hy0, hy1⟩ := HI.out.h7 q7
          obtain ⟨hbs, x, hx⟩ := IsLit.at hbk hcs hy0 hy1
          have hy2 : y < 4 := by omega
          have HCX := hid hx
          have HBK := hid hbk
          clear hx hbk hcs hy1
          refine wpOp_step rfl (fun K hK => ?_)
          go_simp
          exact hK _ _ ⟨_, _, _, _, _, _, _, _, _, _, _, _, _, _, _, _, _, _, rfl, ⟨(by rw [Array.size_setIfInBounds]; exact HI.out.hs), ⟨pn, HRD, by have := open_set HF.out; omega⟩, HI.out.ho, fun h => HI.out.h0 (dn_old h (by decide)), fun h => HI.out.h1 (dn_old h (by decide)), fun h => HI.out.h2 (dn_old h (by decide)), fun h => HI.out.h3 (dn_old h (by decide)), fun h => HI.out.h4 (dn_old h (by decide)), fun h => HI.out.h5 (dn_old h (by decide)), fun h => HI.out.h6 (dn_old h (by decide)), fun h => HI.out.h7 (dn_old h (by decide)), fun _ => ⟨bb, y.toNat, x, rfl, hne, hbs, HCX.out⟩, fun h => HI.out.h9 (dn_old h (by decide)), fun h => HI.out.h10 (dn_old h (by decide)), fun h => HI.out.h11 (dn_old h (by decide)), fun h => HI.out.h12 (dn_old h (by decide)), fun h => HI.out.h13 (dn_old h (by decide)), fun h => HI.out.h14 (dn_old h (by decide)), fun h => HI.out.h15 (dn_old h (by decide)), fun h => HI.out.h16 (dn_old h (by decide)), fun h => HI.out.h17 (dn_old h (by decide))⟩⟩
        · skip
          have q8 : dn L 8 := hdep _ rfl { on := 8, ground := .data } (by simp) rfl
          clear hdep
          obtain ⟨bb, oo, x, rfl, hne, hbs, hcx⟩ := HI.out.h8 q8
          refine wpOp_step rfl (fun K hK => ?_)
          go_simp
          exact hK _ _ ⟨_, _, _, _, _, _, _, _, _, _, _, _, _, _, _, _, _, _, rfl, ⟨(by rw [Array.size_setIfInBounds]; exact HI.out.hs), ⟨pn, HRD, by have := open_set HF.out; omega⟩, HI.out.ho, fun h => HI.out.h0 (dn_old h (by decide)), fun h => HI.out.h1 (dn_old h (by decide)), fun h => HI.out.h2 (dn_old h (by decide)), fun h => HI.out.h3 (dn_old h (by decide)), fun h => HI.out.h4 (dn_old h (by decide)), fun h => HI.out.h5 (dn_old h (by decide)), fun h => HI.out.h6 (dn_old h (by decide)), fun h => HI.out.h7 (dn_old h (by decide)), fun h => HI.out.h8 (dn_old h (by decide)), fun _ => ⟨x, rfl⟩, fun h => HI.out.h10 (dn_old h (by decide)), fun h => HI.out.h11 (dn_old h (by decide)), fun h => HI.out.h12 (dn_old h (by decide)), fun h => HI.out.h13 (dn_old h (by decide)), fun h => HI.out.h14 (dn_old h (by decide)), fun h => HI.out.h15 (dn_old h (by decide)), fun h => HI.out.h16 (dn_old h (by decide)), fun h => HI.out.h17 (dn_old h (by decide))⟩⟩
        · skip
          clear hdep
          refine wpOp_step rfl (fun K hK => ?_)
          go_simp
          exact hK _ _ ⟨_, _, _, _, _, _, _, _, _, _, _, _, _, _, _, _, _, _, rfl, ⟨(by rw [Array.size_setIfInBounds]; exact HI.out.hs), ⟨pn, HRD.alloc HBS _, by have := open_set HF.out; omega⟩, HI.out.ho.alloc _, fun h => (HI.out.h0 (dn_old h (by decide))).later ((Only.refl _ _).alloc _), fun h => HI.out.h1 (dn_old h (by decide)), fun h => HI.out.h2 (dn_old h (by decide)), fun h => (HI.out.h3 (dn_old h (by decide))).later ((Only.refl _ _).alloc _), fun h => HI.out.h4 (dn_old h (by decide)), fun h => (HI.out.h5 (dn_old h (by decide))).later ((Only.refl _ _).alloc _), fun h => HI.out.h6 (dn_old h (by decide)), fun h => HI.out.h7 (dn_old h (by decide)), fun h => (HI.out.h8 (dn_old h (by decide))).later ((Only.refl _ _).alloc _), fun h => HI.out.h9 (dn_old h (by decide)), fun _ => IsLit.made _ HRD.lt (lit3 _ _ _), fun h => HI.out.h11 (dn_old h (by decide)), fun h => HI.out.h12 (dn_old h (by decide)), fun h => (HI.out.h13 (dn_old h (by decide))).later ((Only.refl _ _).alloc _), fun h => HI.out.h14 (dn_old h (by decide)), fun h => HI.out.h15 (dn_old h (by decide)), fun h => HI.out.h16 (dn_old h (by decide)), fun h => HI.out.h17 (dn_old h (by decide))⟩⟩
        · skip
          clear hdep
          refine wpOp_step rfl (fun K hK => ?_)
          go_simp
          exact hK _ _ ⟨_, _, _, _, _, _, _, _, _, _, _, _, _, _, _, _, _, _, rfl, ⟨(by rw [Array.size_setIfInBounds]; exact HI.out.hs), ⟨pn, HRD, by have := open_set HF.out; omega⟩, HI.out.ho, fun h => HI.out.h0 (dn_old h (by decide)), fun h => HI.out.h1 (dn_old h (by decide)), fun h => HI.out.h2 (dn_old h (by decide)), fun h => HI.out.h3 (dn_old h (by decide)), fun h => HI.out.h4 (dn_old h (by decide)), fun h => HI.out.h5 (dn_old h (by decide)), fun h => HI.out.h6 (dn_old h (by decide)), fun h => HI.out.h7 (dn_old h (by decide)), fun h => HI.out.h8 (dn_old h (by decide)), fun h => HI.out.h9 (dn_old h (by decide)), fun h => HI.out.h10 (dn_old h (by decide)), fun _ => rfl, fun h => HI.out.h12 (dn_old h (by decide)), fun h => HI.out.h13 (dn_old h (by decide)), fun h => HI.out.h14 (dn_old h (by decide)), fun h => HI.out.h15 (dn_old h (by decide)), fun h => HI.out.h16 (dn_old h (by decide)), fun h => HI.out.h17 (dn_old h (by decide))⟩⟩
        · skip
          have q11 : dn L 11 := hdep _ rfl { on := 11, ground := .data } (by simp) rfl
          clear hdep
          obtain rfl := HI.out.h11 q11
          refine wpOp_step rfl (fun K hK => ?_)
          go_simp
          go_at_call 66
          refine (pick_any _ _ _ _ pn 3 hpn (by omega) (by omega) _ HRD).mono ?_
          rintro e wP ⟨y, r, rfl, hy0, hy1, _, hr1, HD1, HO1⟩
          replace hy1 := hy1 (by omega)
          exact hK _ _ ⟨_, _, _, _, _, _, _, _, _, _, _, _, _, _, _, _, _, _, rfl, ⟨(by rw [Array.size_setIfInBounds]; exact HI.out.hs), ⟨r, HD1.out, by have := open_set HF.out; omega⟩, HI.out.ho.trans HO1.out, fun h => (HI.out.h0 (dn_old h (by decide))).later HO1.out, fun h => HI.out.h1 (dn_old h (by decide)), fun h => HI.out.h2 (dn_old h (by decide)), fun h => (HI.out.h3 (dn_old h (by decide))).later HO1.out, fun h => HI.out.h4 (dn_old h (by decide)), fun h => (HI.out.h5 (dn_old h (by decide))).later HO1.out, fun h => HI.out.h6 (dn_old h (by decide)), fun h => HI.out.h7 (dn_old h (by decide)), fun h => (HI.out.h8 (dn_old h (by decide))).later HO1.out, fun h => HI.out.h9 (dn_old h (by decide)), fun h => (HI.out.h10 (dn_old h (by decide))).later HO1.out, fun h => HI.out.h11 (dn_old h (by decide)), fun _ => ⟨y, rfl, hy0, by omega⟩, fun h => (HI.out.h13 (dn_old h (by decide))).later HO1.out, fun h => HI.out.h14 (dn_old h (by decide)), fun h => HI.out.h15 (dn_old h (by decide)), fun h => HI.out.h16 (dn_old h (by decide)), fun h => HI.out.h17 (dn_old h (by decide))⟩⟩
        · skip
          have q10 : dn L 10 := hdep _ rfl { on := 10, ground := .data } (by simp) rfl
          have q12 : dn L 12 := hdep _ rfl { on := 12, ground := .data } (by simp) rfl
          clear hdep
          obtain ⟨bb, cs, rfl, hne, hbk, hcs⟩ := HI.out.h10 q10
          obtain ⟨y, rfl, hy0, hy1⟩ := HI.out.h12 q12
          obtain ⟨hbs, x, hx⟩ := IsLit.at hbk hcs hy0 hy1
          have hy2 : y < 3 := by omega
          have HCX := hid hx
          have HBK := hid hbk
          clear hx hbk hcs hy1
          refine wpOp_step rfl (fun K hK => ?_)
          go_simp
          exact hK _ _ ⟨_, _, _, _, _, _, _, _, _, _, _, _, _, _, _, _, _, _, rfl, ⟨(by rw [Array.size_setIfInBounds]; exact HI.out.hs), ⟨pn, HRD, by have := open_set HF.out; omega⟩, HI.out.ho, fun h => HI.out.h0 (dn_old h (by decide)), fun h => HI.out.h1 (dn_old h (by decide)), fun h => HI.out.h2 (dn_old h (by decide)), fun h => HI.out.h3 (dn_old h (by decide)), fun h => HI.out.h4 (dn_old h (by decide)), fun h => HI.out.h5 (dn_old h (by decide)), fun h => HI.out.h6 (dn_old h (by decide)), fun h => HI.out.h7 (dn_old h (by decide)), fun h => HI.out.h8 (dn_old h (by decide)), fun h => HI.out.h9 (dn_old h (by decide)), fun h => HI.out.h10 (dn_old h (by decide)), fun h => HI.out.h11 (dn_old h (by decide)), fun h => HI.out.h12 (dn_old h (by decide)), fun _ => ⟨bb, y.toNat, x, rfl, hne, hbs, HCX.out⟩, fun h => HI.out.h14 (dn_old h (by decide)), fun h => HI.out.h15 (dn_old h (by decide)), fun h => HI.out.h16 (dn_old h (by decide)), fun h => HI.out.h17 (dn_old h (by decide))⟩⟩
        · skip
          have q13 : dn L 13 := hdep _ rfl { on := 13, ground := .data } (by simp) rfl
          clear hdep
          obtain ⟨bb, oo, x, rfl, hne, hbs, hcx⟩ := HI.out.h13 q13
          refine wpOp_step rfl (fun K hK => ?_)
          go_simp
          exact hK _ _ ⟨_, _, _, _, _, _, _, _, _, _, _, _, _, _, _, _, _, _, rfl, ⟨(by rw [Array.size_setIfInBounds]; exact HI.out.hs), ⟨pn, HRD, by have := open_set HF.out; omega⟩, HI.out.ho, fun h => HI.out.h0 (dn_old h (by decide)), fun h => HI.out.h1 (dn_old h (by decide)), fun h => HI.out.h2 (dn_old h (by decide)), fun h => HI.out.h3 (dn_old h (by decide)), fun h => HI.out.h4 (dn_old h (by decide)), fun h => HI.out.h5 (dn_old h (by decide)), fun h => HI.out.h6 (dn_old h (by decide)), fun h => HI.out.h7 (dn_old h (by decide)), fun h => HI.out.h8 (dn_old h (by decide)), fun h => HI.out.h9 (dn_old h (by decide)), fun h => HI.out.h10 (dn_old h (by decide)), fun h => HI.out.h11 (dn_old h (by decide)), fun h => HI.out.h12 (dn_old h (by decide)), fun h => HI.out.h13 (dn_old h (by decide)), fun _ => ⟨x, rfl⟩, fun h => HI.out.h15 (dn_old h (by decide)), fun h => HI.out.h16 (dn_old h (by decide)), fun h => HI.out.h17 (dn_old h (by decide))⟩⟩
        · skip
          have q4 : dn L 4 := hdep _ rfl { on := 4, ground := .data } (by simp) rfl
          clear hdep
          obtain ⟨x, rfl⟩ := HI.out.h4 q4
          refine wpOp_step rfl (fun K hK => ?_)
          go_simp
          exact hK _ _ ⟨_, _, _, _, _, _, _, _, _, _, _, _, _, _, _, _, _, _, rfl, ⟨(by rw [Array.size_setIfInBounds]; exact HI.out.hs), ⟨pn, HRD, by have := open_set HF.out; omega⟩, HI.out.ho, fun h => HI.out.h0 (dn_old h (by decide)), fun h => HI.out.h1 (dn_old h (by decide)), fun h => HI.out.h2 (dn_old h (by decide)), fun h => HI.out.h3 (dn_old h (by decide)), fun h => HI.out.h4 (dn_old h (by decide)), fun h => HI.out.h5 (dn_old h (by decide)), fun h => HI.out.h6 (dn_old h (by decide)), fun h => HI.out.h7 (dn_old h (by decide)), fun h => HI.out.h8 (dn_old h (by decide)), fun h => HI.out.h9 (dn_old h (by decide)), fun h => HI.out.h10 (dn_old h (by decide)), fun h => HI.out.h11 (dn_old h (by decide)), fun h => HI.out.h12 (dn_old h (by decide)), fun h => HI.out.h13 (dn_old h (by decide)), fun h => HI.out.h14 (dn_old h (by decide)), fun _ => ⟨x, rfl⟩, fun h => HI.out.h16 (dn_old h (by decide)), fun h => HI.out.h17 (dn_old h (by decide))⟩⟩
        · skip
          have q9 : dn L 9 := hdep _ rfl { on := 9, ground := .data } (by simp) rfl
          clear hdep
          obtain ⟨x, rfl⟩ := HI.out.h9 q9
          refine wpOp_step rfl (fun K hK => ?_)
          go_simp
          exact hK _ _ ⟨_, _, _, _, _, _, _, _, _, _, _, _, _, _, _, _, _, _, rfl, ⟨(by rw [Array.size_setIfInBounds]; exact HI.out.hs), ⟨pn, HRD, by have := open_set HF.out; omega⟩, HI.out.ho, fun h => HI.out.h0 (dn_old h (by decide)), fun h => HI.out.h1 (dn_old h (by decide)), fun h => HI.out.h2 (dn_old h (by decide)), fun h => HI.out.h3 (dn_old h (by decide)), fun h => HI.out.h4 (dn_old h (by decide)), fun h => HI.out.h5 (dn_old h (by decide)), fun h => HI.out.h6 (dn_old h (by decide)), fun h => HI.out.h7 (dn_old h (by decide)), fun h => HI.out.h8 (dn_old h (by decide)), fun h => HI.out.h9 (dn_old h (by decide)), fun h => HI.out.h10 (dn_old h (by decide)), fun h => HI.out.h11 (dn_old h (by decide)), fun h => HI.out.h12 (dn_old h (by decide)), fun h => HI.out.h13 (dn_old h (by decide)), fun h => HI.out.h14 (dn_old h (by decide)), fun h => HI.out.h15 (dn_old h (by decide)), fun _ => ⟨x, rfl⟩, fun h => HI.out.h17 (dn_old h (by decide))⟩⟩
        · skip
          have q14 : dn L 14 := hdep _ rfl { on := 14, ground := .data } (by simp) rfl
          clear hdep
          obtain ⟨x, rfl⟩ := HI.out.h14 q14
          refine wpOp_step rfl (fun K hK => ?_)
          go_simp
          exact hK _ _ ⟨_, _, _, _, _, _, _, _, _, _, _, _, _, _, _, _, _, _, rfl, ⟨(by rw [Array.size_setIfInBounds]; exact HI.out.hs), ⟨pn, HRD, by have := open_set HF.out; omega⟩, HI.out.ho, fun h => HI.out.h0 (dn_old h (by decide)), fun h => HI.out.h1 (dn_old h (by decide)), fun h => HI.out.h2 (dn_old h (by decide)), fun h => HI.out.h3 (dn_old h (by decide)), fun h => HI.out.h4 (dn_old h (by decide)), fun h => HI.out.h5 (dn_old h (by decide)), fun h => HI.out.h6 (dn_old h (by decide)), fun h => HI.out.h7 (dn_old h (by decide)), fun h => HI.out.h8 (dn_old h (by decide)), fun h => HI.out.h9 (dn_old h (by decide)), fun h => HI.out.h10 (dn_old h (by decide)), fun h => HI.out.h11 (dn_old h (by decide)), fun h => HI.out.h12 (dn_old h (by decide)), fun h => HI.out.h13 (dn_old h (by decide)), fun h => HI.out.h14 (dn_old h (by decide)), fun h => HI.out.h15 (dn_old h (by decide)), fun h => HI.out.h16 (dn_old h (by decide)), fun _ => ⟨x, rfl⟩⟩⟩
      case hend =>
        rintro L act wx ⟨sv2, sv3, sv4, sv34, sv35, sv36, sv37, sv38, sv39, sv40, sv41, sv42, sv43, sv44, sv45, sv46, sv47, sv48, rfl, I⟩ hrd
        have D := all_done3 I.hs (by kernel_rfl) hrd
        obtain ⟨x2, rfl⟩ := I.h15 (D 15 (by decide))
        obtain ⟨x3, rfl⟩ := I.h16 (D 16 (by decide))
        obtain ⟨x4, rfl⟩ := I.h17 (D 17 (by decide))
        obtain ⟨pn, HRD, hpn2⟩ := I.hr
        have HON := hid I.ho
        have HRN := hid HRD
        clear I D hrd HRD
        go_wp2_with fail
        go_ret3
        exact ⟨x2, x3, x4, pn, rfl, by omega, HRN, hid (((HO.out.trans HP.out).trans HQ.out).trans HON.out)⟩
  | false =>
    go_wp2_with fail
    refine region_inv (by kernel_rfl) (fun L act wx => ∃ sv2 sv3 sv4 sv34 sv35 sv36 sv37 sv38 sv39 sv40 sv41 sv42 sv43 sv44 sv45 sv46 sv47 sv48 : Value, act = ({ tmps := #[.pointer (some ⟨R, 0, none⟩), undef, sv2, sv3, sv4, .int .i64 (2 + m), .int .i64 x, .int .i64 y, .int .i64 z, .bool false, .pointer (some ⟨R, 0, none⟩), .int .i64 m, .int .i64 (2 + m), .tuple #[.int .i64 x, .int .i64 y, .int .i64 z, .bool false], .int .i64 (2 + m), .pointer (some ⟨R, 0, none⟩), .int .i64 (2 + m), .int .i64 (2 + m - 1), .int .i64 k, .int .i64 (1 + k), .tuple #[.int .i64 x, .int .i64 y, .int .i64 z, .bool false], .int .i64 x, .int .i64 y, .int .i64 z, .bool false, .bool false, .bool false, undef, undef, undef, .bool false, undef, undef, undef, sv34, sv35, sv36, sv37, sv38, sv39, sv40, sv41, sv42, sv43, sv44, sv45, sv46, sv47, sv48], defers := [] } : Act) ∧ TriI B R v n (q2 + 18) wHC L wx sv2 sv3 sv4 sv34 sv35 sv36 sv37 sv38 sv39 sv40 sv41 sv42 sv43 sv44 sv45 sv46 sv47 sv48) ?h0 ?hend ?hstep
    case h0 => exact ⟨.int .i64 0, .int .i64 0, .int .i64 0, undef, undef, undef, undef, undef, undef, undef, undef, undef, undef, undef, undef, undef, undef, undef, rfl, ⟨rfl, ⟨q2, HC.out, by rw [open_new]; exact Nat.le_refl _⟩, ⟨rfl, rfl, rfl, Nat.le_refl _, fun _ _ _ => rfl⟩, fun h => (dn_new h).elim, fun h => (dn_new h).elim, fun h => (dn_new h).elim, fun h => (dn_new h).elim, fun h => (dn_new h).elim, fun h => (dn_new h).elim, fun h => (dn_new h).elim, fun h => (dn_new h).elim, fun h => (dn_new h).elim, fun h => (dn_new h).elim, fun h => (dn_new h).elim, fun h => (dn_new h).elim, fun h => (dn_new h).elim, fun h => (dn_new h).elim, fun h => (dn_new h).elim, fun h => (dn_new h).elim, fun h => (dn_new h).elim, fun h => (dn_new h).elim⟩⟩
    case hstep =>
      rintro L act wx i ⟨sv2, sv3, sv4, sv34, sv35, sv36, sv37, sv38, sv39, sv40, sv41, sv42, sv43, sv44, sv45, sv46, sv47, sv48, rfl, I⟩ hi
      obtain ⟨hi1, hf, hdep⟩ := ready_mem hi
      have hi2 : i < 18 := hi1
      obtain ⟨pn, HRD, hpn2⟩ := I.hr
      have hpn : pn ≤ 1000000000000000 := by omega
      have HBS := Nat.le_trans HRD.1 (Nat.le_of_lt HRD.lt)
      have HI := hid I
      have HF := hid hf
      clear hi hi1 I hf
      have hc : i = 0 ∨ i = 1 ∨ i = 2 ∨ i = 3 ∨ i = 4 ∨ i = 5 ∨ i = 6 ∨ i = 7 ∨ i = 8 ∨ i = 9 ∨ i = 10 ∨ i = 11 ∨ i = 12 ∨ i = 13 ∨ i = 14 ∨ i = 15 ∨ i = 16 ∨ i = 17 := by omega
      clear hi2
      rcases hc with rfl | rfl | rfl | rfl | rfl | rfl | rfl | rfl | rfl | rfl | rfl | rfl | rfl | rfl | rfl | rfl | rfl | rfl
      · skip
        clear hdep
        refine wpOp_step rfl (fun K hK => ?_)
        go_simp
        exact hK _ _ ⟨_, _, _, _, _, _, _, _, _, _, _, _, _, _, _, _, _, _, rfl, ⟨(by rw [Array.size_setIfInBounds]; exact HI.out.hs), ⟨pn, HRD.alloc HBS _, by have := open_set HF.out; omega⟩, HI.out.ho.alloc _, fun _ => IsLit.made _ HRD.lt (lit5 _ _ _ _ _), fun h => HI.out.h1 (dn_old h (by decide)), fun h => HI.out.h2 (dn_old h (by decide)), fun h => (HI.out.h3 (dn_old h (by decide))).later ((Only.refl _ _).alloc _), fun h => HI.out.h4 (dn_old h (by decide)), fun h => (HI.out.h5 (dn_old h (by decide))).later ((Only.refl _ _).alloc _), fun h => HI.out.h6 (dn_old h (by decide)), fun h => HI.out.h7 (dn_old h (by decide)), fun h => (HI.out.h8 (dn_old h (by decide))).later ((Only.refl _ _).alloc _), fun h => HI.out.h9 (dn_old h (by decide)), fun h => (HI.out.h10 (dn_old h (by decide))).later ((Only.refl _ _).alloc _), fun h => HI.out.h11 (dn_old h (by decide)), fun h => HI.out.h12 (dn_old h (by decide)), fun h => (HI.out.h13 (dn_old h (by decide))).later ((Only.refl _ _).alloc _), fun h => HI.out.h14 (dn_old h (by decide)), fun h => HI.out.h15 (dn_old h (by decide)), fun h => HI.out.h16 (dn_old h (by decide)), fun h => HI.out.h17 (dn_old h (by decide))⟩⟩
      · skip
        clear hdep
        refine wpOp_step rfl (fun K hK => ?_)
        go_simp
        exact hK _ _ ⟨_, _, _, _, _, _, _, _, _, _, _, _, _, _, _, _, _, _, rfl, ⟨(by rw [Array.size_setIfInBounds]; exact HI.out.hs), ⟨pn, HRD, by have := open_set HF.out; omega⟩, HI.out.ho, fun h => HI.out.h0 (dn_old h (by decide)), fun _ => rfl, fun h => HI.out.h2 (dn_old h (by decide)), fun h => HI.out.h3 (dn_old h (by decide)), fun h => HI.out.h4 (dn_old h (by decide)), fun h => HI.out.h5 (dn_old h (by decide)), fun h => HI.out.h6 (dn_old h (by decide)), fun h => HI.out.h7 (dn_old h (by decide)), fun h => HI.out.h8 (dn_old h (by decide)), fun h => HI.out.h9 (dn_old h (by decide)), fun h => HI.out.h10 (dn_old h (by decide)), fun h => HI.out.h11 (dn_old h (by decide)), fun h => HI.out.h12 (dn_old h (by decide)), fun h => HI.out.h13 (dn_old h (by decide)), fun h => HI.out.h14 (dn_old h (by decide)), fun h => HI.out.h15 (dn_old h (by decide)), fun h => HI.out.h16 (dn_old h (by decide)), fun h => HI.out.h17 (dn_old h (by decide))⟩⟩
      · skip
        have q1 : dn L 1 := hdep _ rfl { on := 1, ground := .data } (by simp) rfl
        clear hdep
        obtain rfl := HI.out.h1 q1
        refine wpOp_step rfl (fun K hK => ?_)
        go_simp
        go_at_call 66
        refine (pick_any _ _ _ _ pn 5 hpn (by omega) (by omega) _ HRD).mono ?_
        rintro e wP ⟨y, r, rfl, hy0, hy1, _, hr1, HD1, HO1⟩
        replace hy1 := hy1 (by omega)
        exact hK _ _ ⟨_, _, _, _, _, _, _, _, _, _, _, _, _, _, _, _, _, _, rfl, ⟨(by rw [Array.size_setIfInBounds]; exact HI.out.hs), ⟨r, HD1.out, by have := open_set HF.out; omega⟩, HI.out.ho.trans HO1.out, fun h => (HI.out.h0 (dn_old h (by decide))).later HO1.out, fun h => HI.out.h1 (dn_old h (by decide)), fun _ => ⟨y, rfl, hy0, by omega⟩, fun h => (HI.out.h3 (dn_old h (by decide))).later HO1.out, fun h => HI.out.h4 (dn_old h (by decide)), fun h => (HI.out.h5 (dn_old h (by decide))).later HO1.out, fun h => HI.out.h6 (dn_old h (by decide)), fun h => HI.out.h7 (dn_old h (by decide)), fun h => (HI.out.h8 (dn_old h (by decide))).later HO1.out, fun h => HI.out.h9 (dn_old h (by decide)), fun h => (HI.out.h10 (dn_old h (by decide))).later HO1.out, fun h => HI.out.h11 (dn_old h (by decide)), fun h => HI.out.h12 (dn_old h (by decide)), fun h => (HI.out.h13 (dn_old h (by decide))).later HO1.out, fun h => HI.out.h14 (dn_old h (by decide)), fun h => HI.out.h15 (dn_old h (by decide)), fun h => HI.out.h16 (dn_old h (by decide)), fun h => HI.out.h17 (dn_old h (by decide))⟩⟩
      · skip
        have q0 : dn L 0 := hdep _ rfl { on := 0, ground := .data } (by simp) rfl
        have q2 : dn L 2 := hdep _ rfl { on := 2, ground := .data } (by simp) rfl
        clear hdep
        obtain ⟨bb, cs, rfl, hne, hbk, hcs⟩ := HI.out.h0 q0
        obtain ⟨y, rfl, hy0, hy1⟩ := HI.out.h2 q2
        obtain ⟨hbs, x, hx⟩ := IsLit.at hbk hcs hy0 hy1
        have hy2 : y < 5 := by omega
        have HCX := hid hx
        have HBK := hid hbk
        clear hx hbk hcs hy1
        refine wpOp_step rfl (fun K hK => ?_)
        go_simp
        exact hK _ _ ⟨_, _, _, _, _, _, _, _, _, _, _, _, _, _, _, _, _, _, rfl, ⟨(by rw [Array.size_setIfInBounds]; exact HI.out.hs), ⟨pn, HRD, by have := open_set HF.out; omega⟩, HI.out.ho, fun h => HI.out.h0 (dn_old h (by decide)), fun h => HI.out.h1 (dn_old h (by decide)), fun h => HI.out.h2 (dn_old h (by decide)), fun _ => ⟨bb, y.toNat, x, rfl, hne, hbs, HCX.out⟩, fun h => HI.out.h4 (dn_old h (by decide)), fun h => HI.out.h5 (dn_old h (by decide)), fun h => HI.out.h6 (dn_old h (by decide)), fun h => HI.out.h7 (dn_old h (by decide)), fun h => HI.out.h8 (dn_old h (by decide)), fun h => HI.out.h9 (dn_old h (by decide)), fun h => HI.out.h10 (dn_old h (by decide)), fun h => HI.out.h11 (dn_old h (by decide)), fun h => HI.out.h12 (dn_old h (by decide)), fun h => HI.out.h13 (dn_old h (by decide)), fun h => HI.out.h14 (dn_old h (by decide)), fun h => HI.out.h15 (dn_old h (by decide)), fun h => HI.out.h16 (dn_old h (by decide)), fun h => HI.out.h17 (dn_old h (by decide))⟩⟩
      · skip
        have q3 : dn L 3 := hdep _ rfl { on := 3, ground := .data } (by simp) rfl
        clear hdep
        obtain ⟨bb, oo, x, rfl, hne, hbs, hcx⟩ := HI.out.h3 q3
        refine wpOp_step rfl (fun K hK => ?_)
        go_simp
        exact hK _ _ ⟨_, _, _, _, _, _, _, _, _, _, _, _, _, _, _, _, _, _, rfl, ⟨(by rw [Array.size_setIfInBounds]; exact HI.out.hs), ⟨pn, HRD, by have := open_set HF.out; omega⟩, HI.out.ho, fun h => HI.out.h0 (dn_old h (by decide)), fun h => HI.out.h1 (dn_old h (by decide)), fun h => HI.out.h2 (dn_old h (by decide)), fun h => HI.out.h3 (dn_old h (by decide)), fun _ => ⟨x, rfl⟩, fun h => HI.out.h5 (dn_old h (by decide)), fun h => HI.out.h6 (dn_old h (by decide)), fun h => HI.out.h7 (dn_old h (by decide)), fun h => HI.out.h8 (dn_old h (by decide)), fun h => HI.out.h9 (dn_old h (by decide)), fun h => HI.out.h10 (dn_old h (by decide)), fun h => HI.out.h11 (dn_old h (by decide)), fun h => HI.out.h12 (dn_old h (by decide)), fun h => HI.out.h13 (dn_old h (by decide)), fun h => HI.out.h14 (dn_old h (by decide)), fun h => HI.out.h15 (dn_old h (by decide)), fun h => HI.out.h16 (dn_old h (by decide)), fun h => HI.out.h17 (dn_old h (by decide))⟩⟩
      · skip
        clear hdep
        refine wpOp_step rfl (fun K hK => ?_)
        go_simp
        exact hK _ _ ⟨_, _, _, _, _, _, _, _, _, _, _, _, _, _, _, _, _, _, rfl, ⟨(by rw [Array.size_setIfInBounds]; exact HI.out.hs), ⟨pn, HRD.alloc HBS _, by have := open_set HF.out; omega⟩, HI.out.ho.alloc _, fun h => (HI.out.h0 (dn_old h (by decide))).later ((Only.refl _ _).alloc _), fun h => HI.out.h1 (dn_old h (by decide)), fun h => HI.out.h2 (dn_old h (by decide)), fun h => (HI.out.h3 (dn_old h (by decide))).later ((Only.refl _ _).alloc _), fun h => HI.out.h4 (dn_old h (by decide)), fun _ => IsLit.made _ HRD.lt (lit4 _ _ _ _), fun h => HI.out.h6 (dn_old h (by decide)), fun h => HI.out.h7 (dn_old h (by decide)), fun h => (HI.out.h8 (dn_old h (by decide))).later ((Only.refl _ _).alloc _), fun h => HI.out.h9 (dn_old h (by decide)), fun h => (HI.out.h10 (dn_old h (by decide))).later ((Only.refl _ _).alloc _), fun h => HI.out.h11 (dn_old h (by decide)), fun h => HI.out.h12 (dn_old h (by decide)), fun h => (HI.out.h13 (dn_old h (by decide))).later ((Only.refl _ _).alloc _), fun h => HI.out.h14 (dn_old h (by decide)), fun h => HI.out.h15 (dn_old h (by decide)), fun h => HI.out.h16 (dn_old h (by decide)), fun h => HI.out.h17 (dn_old h (by decide))⟩⟩
      · skip
        clear hdep
        refine wpOp_step rfl (fun K hK => ?_)
        go_simp
        exact hK _ _ ⟨_, _, _, _, _, _, _, _, _, _, _, _, _, _, _, _, _, _, rfl, ⟨(by rw [Array.size_setIfInBounds]; exact HI.out.hs), ⟨pn, HRD, by have := open_set HF.out; omega⟩, HI.out.ho, fun h => HI.out.h0 (dn_old h (by decide)), fun h => HI.out.h1 (dn_old h (by decide)), fun h => HI.out.h2 (dn_old h (by decide)), fun h => HI.out.h3 (dn_old h (by decide)), fun h => HI.out.h4 (dn_old h (by decide)), fun h => HI.out.h5 (dn_old h (by decide)), fun _ => rfl, fun h => HI.out.h7 (dn_old h (by decide)), fun h => HI.out.h8 (dn_old h (by decide)), fun h => HI.out.h9 (dn_old h (by decide)), fun h => HI.out.h10 (dn_old h (by decide)), fun h => HI.out.h11 (dn_old h (by decide)), fun h => HI.out.h12 (dn_old h (by decide)), fun h => HI.out.h13 (dn_old h (by decide)), fun h => HI.out.h14 (dn_old h (by decide)), fun h => HI.out.h15 (dn_old h (by decide)), fun h => HI.out.h16 (dn_old h (by decide)), fun h => HI.out.h17 (dn_old h (by decide))⟩⟩
      · skip
        have q6 : dn L 6 := hdep _ rfl { on := 6, ground := .data } (by simp) rfl
        clear hdep
        obtain rfl := HI.out.h6 q6
        refine wpOp_step rfl (fun K hK => ?_)
        go_simp
        go_at_call 66
        refine (pick_any _ _ _ _ pn 4 hpn (by omega) (by omega) _ HRD).mono ?_
        rintro e wP ⟨y, r, rfl, hy0, hy1, _, hr1, HD1, HO1⟩
        replace hy1 := hy1 (by omega)
        exact hK _ _ ⟨_, _, _, _, _, _, _, _, _, _, _, _, _, _, _, _, _, _, rfl, ⟨(by rw [Array.size_setIfInBounds]; exact HI.out.hs), ⟨r, HD1.out, by have := open_set HF.out; omega⟩, HI.out.ho.trans HO1.out, fun h => (HI.out.h0 (dn_old h (by decide))).later HO1.out, fun h => HI.out.h1 (dn_old h (by decide)), fun h => HI.out.h2 (dn_old h (by decide)), fun h => (HI.out.h3 (dn_old h (by decide))).later HO1.out, fun h => HI.out.h4 (dn_old h (by decide)), fun h => (HI.out.h5 (dn_old h (by decide))).later HO1.out, fun h => HI.out.h6 (dn_old h (by decide)), fun _ => ⟨y, rfl, hy0, by omega⟩, fun h => (HI.out.h8 (dn_old h (by decide))).later HO1.out, fun h => HI.out.h9 (dn_old h (by decide)), fun h => (HI.out.h10 (dn_old h (by decide))).later HO1.out, fun h => HI.out.h11 (dn_old h (by decide)), fun h => HI.out.h12 (dn_old h (by decide)), fun h => (HI.out.h13 (dn_old h (by decide))).later HO1.out, fun h => HI.out.h14 (dn_old h (by decide)), fun h => HI.out.h15 (dn_old h (by decide)), fun h => HI.out.h16 (dn_old h (by decide)), fun h => HI.out.h17 (dn_old h (by decide))⟩⟩
      · skip
        have q5 : dn L 5 := hdep _ rfl { on := 5, ground := .data } (by simp) rfl
        have q7 : dn L 7 := hdep _ rfl { on := 7, ground := .data } (by simp) rfl
        clear hdep
        obtain ⟨bb, cs, rfl, hne, hbk, hcs⟩ := HI.out.h5 q5
        obtain ⟨y, rfl, hy0, hy1⟩ := HI.out.h7 q7
        obtain ⟨hbs, x, hx⟩ := IsLit.at hbk hcs hy0 hy1
        have hy2 : y < 4 := by omega
        have HCX := hid hx
        have HBK := hid hbk
        clear hx hbk hcs hy1
        refine wpOp_step rfl (fun K hK => ?_)
        go_simp
        exact hK _ _ ⟨_, _, _, _, _, _, _, _, _, _, _, _, _, _, _, _, _, _, rfl, ⟨(by rw [Array.size_setIfInBounds]; exact HI.out.hs), ⟨pn, HRD, by have := open_set HF.out; omega⟩, HI.out.ho, fun h => HI.out.h0 (dn_old h (by decide)), fun h => HI.out.h1 (dn_old h (by decide)), fun h => HI.out.h2 (dn_old h (by decide)), fun h => HI.out.h3 (dn_old h (by decide)), fun h => HI.out.h4 (dn_old h (by decide)), fun h => HI.out.h5 (dn_old h (by decide)), fun h => HI.out.h6 (dn_old h (by decide)), fun h => HI.out.h7 (dn_old h (by decide)), fun _ => ⟨bb, y.toNat, x, rfl, hne, hbs, HCX.out⟩, fun h => HI.out.h9 (dn_old h (by decide)), fun h => HI.out.h10 (dn_old h (by decide)), fun h => HI.out.h11 (dn_old h (by decide)), fun h => HI.out.h12 (dn_old h (by decide)), fun h => HI.out.h13 (dn_old h (by decide)), fun h => HI.out.h14 (dn_old h (by decide)), fun h => HI.out.h15 (dn_old h (by decide)), fun h => HI.out.h16 (dn_old h (by decide)), fun h => HI.out.h17 (dn_old h (by decide))⟩⟩
      · skip
        have q8 : dn L 8 := hdep _ rfl { on := 8, ground := .data } (by simp) rfl
        clear hdep
        obtain ⟨bb, oo, x, rfl, hne, hbs, hcx⟩ := HI.out.h8 q8
        refine wpOp_step rfl (fun K hK => ?_)
        go_simp
        exact hK _ _ ⟨_, _, _, _, _, _, _, _, _, _, _, _, _, _, _, _, _, _, rfl, ⟨(by rw [Array.size_setIfInBounds]; exact HI.out.hs), ⟨pn, HRD, by have := open_set HF.out; omega⟩, HI.out.ho, fun h => HI.out.h0 (dn_old h (by decide)), fun h => HI.out.h1 (dn_old h (by decide)), fun h => HI.out.h2 (dn_old h (by decide)), fun h => HI.out.h3 (dn_old h (by decide)), fun h => HI.out.h4 (dn_old h (by decide)), fun h => HI.out.h5 (dn_old h (by decide)), fun h => HI.out.h6 (dn_old h (by decide)), fun h => HI.out.h7 (dn_old h (by decide)), fun h => HI.out.h8 (dn_old h (by decide)), fun _ => ⟨x, rfl⟩, fun h => HI.out.h10 (dn_old h (by decide)), fun h => HI.out.h11 (dn_old h (by decide)), fun h => HI.out.h12 (dn_old h (by decide)), fun h => HI.out.h13 (dn_old h (by decide)), fun h => HI.out.h14 (dn_old h (by decide)), fun h => HI.out.h15 (dn_old h (by decide)), fun h => HI.out.h16 (dn_old h (by decide)), fun h => HI.out.h17 (dn_old h (by decide))⟩⟩
      · skip
        clear hdep
        refine wpOp_step rfl (fun K hK => ?_)
        go_simp
        exact hK _ _ ⟨_, _, _, _, _, _, _, _, _, _, _, _, _, _, _, _, _, _, rfl, ⟨(by rw [Array.size_setIfInBounds]; exact HI.out.hs), ⟨pn, HRD.alloc HBS _, by have := open_set HF.out; omega⟩, HI.out.ho.alloc _, fun h => (HI.out.h0 (dn_old h (by decide))).later ((Only.refl _ _).alloc _), fun h => HI.out.h1 (dn_old h (by decide)), fun h => HI.out.h2 (dn_old h (by decide)), fun h => (HI.out.h3 (dn_old h (by decide))).later ((Only.refl _ _).alloc _), fun h => HI.out.h4 (dn_old h (by decide)), fun h => (HI.out.h5 (dn_old h (by decide))).later ((Only.refl _ _).alloc _), fun h => HI.out.h6 (dn_old h (by decide)), fun h => HI.out.h7 (dn_old h (by decide)), fun h => (HI.out.h8 (dn_old h (by decide))).later ((Only.refl _ _).alloc _), fun h => HI.out.h9 (dn_old h (by decide)), fun _ => IsLit.made _ HRD.lt (lit3 _ _ _), fun h => HI.out.h11 (dn_old h (by decide)), fun h => HI.out.h12 (dn_old h (by decide)), fun h => (HI.out.h13 (dn_old h (by decide))).later ((Only.refl _ _).alloc _), fun h => HI.out.h14 (dn_old h (by decide)), fun h => HI.out.h15 (dn_old h (by decide)), fun h => HI.out.h16 (dn_old h (by decide)), fun h => HI.out.h17 (dn_old h (by decide))⟩⟩
      · skip
        clear hdep
        refine wpOp_step rfl (fun K hK => ?_)
        go_simp
        exact hK _ _ ⟨_, _, _, _, _, _, _, _, _, _, _, _, _, _, _, _, _, _, rfl, ⟨(by rw [Array.size_setIfInBounds]; exact HI.out.hs), ⟨pn, HRD, by have := open_set HF.out; omega⟩, HI.out.ho, fun h => HI.out.h0 (dn_old h (by decide)), fun h => HI.out.h1 (dn_old h (by decide)), fun h => HI.out.h2 (dn_old h (by decide)), fun h => HI.out.h3 (dn_old h (by decide)), fun h => HI.out.h4 (dn_old h (by decide)), fun h => HI.out.h5 (dn_old h (by decide)), fun h => HI.out.h6 (dn_old h (by decide)), fun h => HI.out.h7 (dn_old h (by decide)), fun h => HI.out.h8 (dn_old h (by decide)), fun h => HI.out.h9 (dn_old h (by decide)), fun h => HI.out.h10 (dn_old h (by decide)), fun _ => rfl, fun h => HI.out.h12 (dn_old h (by decide)), fun h => HI.out.h13 (dn_old h (by decide)), fun h => HI.out.h14 (dn_old h (by decide)), fun h => HI.out.h15 (dn_old h (by decide)), fun h => HI.out.h16 (dn_old h (by decide)), fun h => HI.out.h17 (dn_old h (by decide))⟩⟩
      · skip
        have q11 : dn L 11 := hdep _ rfl { on := 11, ground := .data } (by simp) rfl
        clear hdep
        obtain rfl := HI.out.h11 q11
        refine wpOp_step rfl (fun K hK => ?_)
        go_simp
        go_at_call 66
        refine (pick_any _ _ _ _ pn 3 hpn (by omega) (by omega) _ HRD).mono ?_
        rintro e wP ⟨y, r, rfl, hy0, hy1, _, hr1, HD1, HO1⟩
        replace hy1 := hy1 (by omega)
        exact hK _ _ ⟨_, _, _, _, _, _, _, _, _, _, _, _, _, _, _, _, _, _, rfl, ⟨(by rw [Array.size_setIfInBounds]; exact HI.out.hs), ⟨r, HD1.out, by have := open_set HF.out; omega⟩, HI.out.ho.trans HO1.out, fun h => (HI.out.h0 (dn_old h (by decide))).later HO1.out, fun h => HI.out.h1 (dn_old h (by decide)), fun h => HI.out.h2 (dn_old h (by decide)), fun h => (HI.out.h3 (dn_old h (by decide))).later HO1.out, fun h => HI.out.h4 (dn_old h (by decide)), fun h => (HI.out.h5 (dn_old h (by decide))).later HO1.out, fun h => HI.out.h6 (dn_old h (by decide)), fun h => HI.out.h7 (dn_old h (by decide)), fun h => (HI.out.h8 (dn_old h (by decide))).later HO1.out, fun h => HI.out.h9 (dn_old h (by decide)), fun h => (HI.out.h10 (dn_old h (by decide))).later HO1.out, fun h => HI.out.h11 (dn_old h (by decide)), fun _ => ⟨y, rfl, hy0, by omega⟩, fun h => (HI.out.h13 (dn_old h (by decide))).later HO1.out, fun h => HI.out.h14 (dn_old h (by decide)), fun h => HI.out.h15 (dn_old h (by decide)), fun h => HI.out.h16 (dn_old h (by decide)), fun h => HI.out.h17 (dn_old h (by decide))⟩⟩
      · skip
        have q10 : dn L 10 := hdep _ rfl { on := 10, ground := .data } (by simp) rfl
        have q12 : dn L 12 := hdep _ rfl { on := 12, ground := .data } (by simp) rfl
        clear hdep
        obtain ⟨bb, cs, rfl, hne, hbk, hcs⟩ := HI.out.h10 q10
        obtain ⟨y, rfl, hy0, hy1⟩ := HI.out.h12 q12
        obtain ⟨hbs, x, hx⟩ := IsLit.at hbk hcs hy0 hy1
        have hy2 : y < 3 := by omega
        have HCX := hid hx
        have HBK := hid hbk
        clear hx hbk hcs hy1
        refine wpOp_step rfl (fun K hK => ?_)
        go_simp
        exact hK _ _ ⟨_, _, _, _, _, _, _, _, _, _, _, _, _, _, _, _, _, _, rfl, ⟨(by rw [Array.size_setIfInBounds]; exact HI.out.hs), ⟨pn, HRD, by have := open_set HF.out; omega⟩, HI.out.ho, fun h => HI.out.h0 (dn_old h (by decide)), fun h => HI.out.h1 (dn_old h (by decide)), fun h => HI.out.h2 (dn_old h (by decide)), fun h => HI.out.h3 (dn_old h (by decide)), fun h => HI.out.h4 (dn_old h (by decide)), fun h => HI.out.h5 (dn_old h (by decide)), fun h => HI.out.h6 (dn_old h (by decide)), fun h => HI.out.h7 (dn_old h (by decide)), fun h => HI.out.h8 (dn_old h (by decide)), fun h => HI.out.h9 (dn_old h (by decide)), fun h => HI.out.h10 (dn_old h (by decide)), fun h => HI.out.h11 (dn_old h (by decide)), fun h => HI.out.h12 (dn_old h (by decide)), fun _ => ⟨bb, y.toNat, x, rfl, hne, hbs, HCX.out⟩, fun h => HI.out.h14 (dn_old h (by decide)), fun h => HI.out.h15 (dn_old h (by decide)), fun h => HI.out.h16 (dn_old h (by decide)), fun h => HI.out.h17 (dn_old h (by decide))⟩⟩
      · skip
        have q13 : dn L 13 := hdep _ rfl { on := 13, ground := .data } (by simp) rfl
        clear hdep
        obtain ⟨bb, oo, x, rfl, hne, hbs, hcx⟩ := HI.out.h13 q13
        refine wpOp_step rfl (fun K hK => ?_)
        go_simp
        exact hK _ _ ⟨_, _, _, _, _, _, _, _, _, _, _, _, _, _, _, _, _, _, rfl, ⟨(by rw [Array.size_setIfInBounds]; exact HI.out.hs), ⟨pn, HRD, by have := open_set HF.out; omega⟩, HI.out.ho, fun h => HI.out.h0 (dn_old h (by decide)), fun h => HI.out.h1 (dn_old h (by decide)), fun h => HI.out.h2 (dn_old h (by decide)), fun h => HI.out.h3 (dn_old h (by decide)), fun h => HI.out.h4 (dn_old h (by decide)), fun h => HI.out.h5 (dn_old h (by decide)), fun h => HI.out.h6 (dn_old h (by decide)), fun h => HI.out.h7 (dn_old h (by decide)), fun h => HI.out.h8 (dn_old h (by decide)), fun h => HI.out.h9 (dn_old h (by decide)), fun h => HI.out.h10 (dn_old h (by decide)), fun h => HI.out.h11 (dn_old h (by decide)), fun h => HI.out.h12 (dn_old h (by decide)), fun h => HI.out.h13 (dn_old h (by decide)), fun _ => ⟨x, rfl⟩, fun h => HI.out.h15 (dn_old h (by decide)), fun h => HI.out.h16 (dn_old h (by decide)), fun h => HI.out.h17 (dn_old h (by decide))⟩⟩
      · skip
        have q4 : dn L 4 := hdep _ rfl { on := 4, ground := .data } (by simp) rfl
        clear hdep
        obtain ⟨x, rfl⟩ := HI.out.h4 q4
        refine wpOp_step rfl (fun K hK => ?_)
        go_simp
        exact hK _ _ ⟨_, _, _, _, _, _, _, _, _, _, _, _, _, _, _, _, _, _, rfl, ⟨(by rw [Array.size_setIfInBounds]; exact HI.out.hs), ⟨pn, HRD, by have := open_set HF.out; omega⟩, HI.out.ho, fun h => HI.out.h0 (dn_old h (by decide)), fun h => HI.out.h1 (dn_old h (by decide)), fun h => HI.out.h2 (dn_old h (by decide)), fun h => HI.out.h3 (dn_old h (by decide)), fun h => HI.out.h4 (dn_old h (by decide)), fun h => HI.out.h5 (dn_old h (by decide)), fun h => HI.out.h6 (dn_old h (by decide)), fun h => HI.out.h7 (dn_old h (by decide)), fun h => HI.out.h8 (dn_old h (by decide)), fun h => HI.out.h9 (dn_old h (by decide)), fun h => HI.out.h10 (dn_old h (by decide)), fun h => HI.out.h11 (dn_old h (by decide)), fun h => HI.out.h12 (dn_old h (by decide)), fun h => HI.out.h13 (dn_old h (by decide)), fun h => HI.out.h14 (dn_old h (by decide)), fun _ => ⟨x, rfl⟩, fun h => HI.out.h16 (dn_old h (by decide)), fun h => HI.out.h17 (dn_old h (by decide))⟩⟩
      · skip
        have q9 : dn L 9 := hdep _ rfl { on := 9, ground := .data } (by simp) rfl
        clear hdep
        obtain ⟨x, rfl⟩ := HI.out.h9 q9
        refine wpOp_step rfl (fun K hK => ?_)
        go_simp
        exact hK _ _ ⟨_, _, _, _, _, _, _, _, _, _, _, _, _, _, _, _, _, _, rfl, ⟨(by rw [Array.size_setIfInBounds]; exact HI.out.hs), ⟨pn, HRD, by have := open_set HF.out; omega⟩, HI.out.ho, fun h => HI.out.h0 (dn_old h (by decide)), fun h => HI.out.h1 (dn_old h (by decide)), fun h => HI.out.h2 (dn_old h (by decide)), fun h => HI.out.h3 (dn_old h (by decide)), fun h => HI.out.h4 (dn_old h (by decide)), fun h => HI.out.h5 (dn_old h (by decide)), fun h => HI.out.h6 (dn_old h (by decide)), fun h => HI.out.h7 (dn_old h (by decide)), fun h => HI.out.h8 (dn_old h (by decide)), fun h => HI.out.h9 (dn_old h (by decide)), fun h => HI.out.h10 (dn_old h (by decide)), fun h => HI.out.h11 (dn_old h (by decide)), fun h => HI.out.h12 (dn_old h (by decide)), fun h => HI.out.h13 (dn_old h (by decide)), fun h => HI.out.h14 (dn_old h (by decide)), fun h => HI.out.h15 (dn_old h (by decide)), fun _ => ⟨x, rfl⟩, fun h => HI.out.h17 (dn_old h (by decide))⟩⟩
      · skip
        have q14 : dn L 14 := hdep _ rfl { on := 14, ground := .data } (by simp) rfl
        clear hdep
        obtain ⟨x, rfl⟩ := HI.out.h14 q14
        refine wpOp_step rfl (fun K hK => ?_)
        go_simp
        exact hK _ _ ⟨_, _, _, _, _, _, _, _, _, _, _, _, _, _, _, _, _, _, rfl, ⟨(by rw [Array.size_setIfInBounds]; exact HI.out.hs), ⟨pn, HRD, by have := open_set HF.out; omega⟩, HI.out.ho, fun h => HI.out.h0 (dn_old h (by decide)), fun h => HI.out.h1 (dn_old h (by decide)), fun h => HI.out.h2 (dn_old h (by decide)), fun h => HI.out.h3 (dn_old h (by decide)), fun h => HI.out.h4 (dn_old h (by decide)), fun h => HI.out.h5 (dn_old h (by decide)), fun h => HI.out.h6 (dn_old h (by decide)), fun h => HI.out.h7 (dn_old h (by decide)), fun h => HI.out.h8 (dn_old h (by decide)), fun h => HI.out.h9 (dn_old h (by decide)), fun h => HI.out.h10 (dn_old h (by decide)), fun h => HI.out.h11 (dn_old h (by decide)), fun h => HI.out.h12 (dn_old h (by decide)), fun h => HI.out.h13 (dn_old h (by decide)), fun h => HI.out.h14 (dn_old h (by decide)), fun h => HI.out.h15 (dn_old h (by decide)), fun h => HI.out.h16 (dn_old h (by decide)), fun _ => ⟨x, rfl⟩⟩⟩
    case hend =>
      rintro L act wx ⟨sv2, sv3, sv4, sv34, sv35, sv36, sv37, sv38, sv39, sv40, sv41, sv42, sv43, sv44, sv45, sv46, sv47, sv48, rfl, I⟩ hrd
      have D := all_done3 I.hs (by kernel_rfl) hrd
      obtain ⟨x2, rfl⟩ := I.h15 (D 15 (by decide))
      obtain ⟨x3, rfl⟩ := I.h16 (D 16 (by decide))
      obtain ⟨x4, rfl⟩ := I.h17 (D 17 (by decide))
      obtain ⟨pn, HRD, hpn2⟩ := I.hr
      have HON := hid I.ho
      have HRN := hid HRD
      clear I D hrd HRD
      go_wp2_with fail
      go_ret3
      exact ⟨x2, x3, x4, pn, rfl, by omega, HRN, hid ((HO.out.trans HP.out).trans HON.out)⟩

end Go.Proofs.Ytenibnblibnocab
