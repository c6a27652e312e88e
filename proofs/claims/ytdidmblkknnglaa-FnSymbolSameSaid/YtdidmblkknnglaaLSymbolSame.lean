/-
  Proves: for every two codes: pairs with the same symbols have the same places and the same symbol at each place, in either order.
  Conditions: none beyond the given statement's own.
-/
import Derived.Test.YtdidmblkknnglaaRows
import Derived.Test.YtdidmblkknnglaaSymLaw
import Derived.Test.YtdidmblkknnglaaLaw3
import Derived.Test.YtdidmblkknnglaaSym6
import Derived.Test.YtdidmblkknnglaaDraws4
import Derived.Test.YtdidmblkknnglaaLists
import Derived.Test.YtdidmblkknnglaaSame
import Derived.Test.YtdidmblkknnglaaRowWord
import Derived.Test.YtdidmblkknnglaaImp3B
import Derived.Test.YtdidmblkknnglaaImp3C
import Derived.Test.YtdidmblkknnglaaImp3G
import Derived.ProofKit
import Derived.OpenShut
import Derived.ShutString
import Derived.ChangeOld
namespace Go.Proofs.Ytdidmblkknnglaa.fnSymbolSame
open Go.ChangeShapes Go.WideShapes Go.ChangeAt Go.RowKit
open Go.ChangeMaps (open_string shut_string)
set_option linter.unusedVariables false
theorem same_facts {a b c d : Int} (h : sym4 a b c d = true) : sym4 c d a b = true ∧ (∀ q, plI q = true → symOfV a b q = symOfV c d q) ∧ splL a b = splL c d := by
  have h0 := h
  unfold sym4 at h ⊢
  rw [Bool.and_eq_true, Bool.and_eq_true, decide_eq_true_eq] at h
  obtain ⟨O1, O2, e⟩ := h
  refine ⟨by rw [O1, O2, decide_eq_true e.symm]; rfl, fun q hq => ?_, e⟩
  rw [symOf_yes O1 hq, symOf_yes O2 hq]
  exact same_sym h0 hq

set_option maxRecDepth 100000 in
set_option maxHeartbeats 8000000 in
theorem walk  (a0 : Option Addr) (len0 cap0 : Nat) (z0 : List Int) (a1 : Option Addr) (len1 cap1 : Nat) (z1 : List Int) (w : World) (w0 : IsRow .u8 w a0 len0 cap0 z0) (w1 : IsRow .u8 w a1 len1 cap1 z1) :
    Calls Try.prog 12 #[.slice a0 len0 cap0, .slice a1 len1 cap1] w fun e w' => e = .returned (.bool true) ∧ Below w.heap.size w w' := by
  have HC := hid (codeIn_of w0)
  clear w0 w1
  by_cases hl : (1048576 : Int) < (len0 : Int)
  · go_enter Try.func12, Try.ntmps12
    go_wp2
    go_ret
    exact ⟨rfl, Below.refl _ _⟩
  by_cases hl1 : (1048576 : Int) < (len1 : Int)
  · go_enter Try.func12, Try.ntmps12
    go_wp2
    go_ret
    exact ⟨rfl, Below.refl _ _⟩
  · go_enter Try.func12, Try.ntmps12
    go_wp2_with fail
    refine (drawSymbolSame_any _ len0 _ HC.out).mono ?_
    rintro e w1 ⟨a, b, c, d, rfl, _, hb⟩
    cases hV : sym4 a b c d with
    | false =>
      have P := hid hV
      clear hV
      go_wp2_with fail
      refine (symbolSame_any a b c d _).mono ?_
      rw [P.out]
      rintro e w' ⟨rfl, hb1⟩
      have hB1 := hb.trans (hb1.mono hb.size)
      go_wp2_with fail
      refine (symbolSameS_any a b c d _).mono ?_
      rw [P.out]
      rintro e w' ⟨rfl, hb2⟩
      have hB2 := hB1.trans (hb2.mono hB1.size)
      go_wp2
      go_ret
      exact ⟨rfl, hB2⟩
    | true =>
      have P := hid hV
      obtain ⟨f1, f2, f3⟩ := same_facts hV
      have P2 := hid f1
      have F2 := hid f2
      obtain ⟨L, hL⟩ : ∃ L, L = splL a b := ⟨_, rfl⟩
      have HLE := hid hL
      have HI : Hid (∀ w : World, Calls Try.prog 23 #[.int .i64 a, .int .i64 b] w fun e w' => ∃ v, e = .returned v ∧ Owns w' w.heap.size v L ∧ Below w.heap.size w w') := hid (fun w => by rw [HLE.out]; exact symbolPlaces_any a b w)
      have HI2 : Hid (∀ w : World, Calls Try.prog 23 #[.int .i64 c, .int .i64 d] w fun e w' => ∃ v, e = .returned v ∧ Owns w' w.heap.size v L ∧ Below w.heap.size w w') := hid (fun w => by rw [HLE.out, f3]; exact symbolPlaces_any c d w)
      have HD : decide (L = L) = true := by simp
      clear hV f1 f2 f3 hL
      go_wp2_with fail
      refine (symbolSame_any a b c d _).mono ?_
      rw [P.out]
      rintro e w' ⟨rfl, hb1⟩
      have hB1 := hb.trans (hb1.mono hb.size)
      go_wp2_with fail
      refine (symbolSameS_any a b c d _).mono ?_
      rw [P.out]
      rintro e w' ⟨rfl, hb2⟩
      have HB2 := hid (hB1.trans (hb2.mono hB1.size))
      clear hb hb1 hb2 hB1
      have hm : len1 % 6 = 0 ∨ len1 % 6 = 1 ∨ len1 % 6 = 2 ∨ len1 % 6 = 3 ∨ len1 % 6 = 4 ∨ len1 % 6 = 5 := by omega
      rcases hm with hm | hm | hm | hm | hm | hm
      · have hmi : (len1 : Int) % 6 = 0 := by omega
        have hs2 := HB2.out.size
        obtain ⟨so, hso⟩ : ∃ so, so = symOfV a b 0 := ⟨_, rfl⟩
        have S1 : Hid (symOfV a b 0 = so) := hid hso.symm
        have S2 : Hid (symOfV c d 0 = so) := hid (by rw [hso]; exact (F2.out 0 (by decide)).symm)
        clear hm hso
        go_wp2_with fail
        refine (symbolSame_any c d a b _).mono ?_
        rw [P2.out]
        rintro e w3 ⟨rfl, hb3⟩
        have HB3 := hid (HB2.out.trans ((((Below.refl _ _).alloc (Nat.le_refl _) _).trans (hb3.mono (by simp))).mono hs2))
        clear hb3
        go_wp2_with fail
        refine (symbolOf_any a b 0 _).mono ?_
        rw [S1.out]
        rintro e w' ⟨rfl, hb4⟩
        have HB4 := hid (HB3.out.trans (hb4.mono HB3.out.size))
        clear hb4
        go_wp2_with fail
        refine (symbolOf_any c d 0 _).mono ?_
        rw [S2.out]
        rintro e w' ⟨rfl, hb5⟩
        have HB5 := hid (HB4.out.trans (hb5.mono HB4.out.size))
        clear hb5
        go_wp2_with fail
        refine (HI.out _).mono ?_
        rintro e w6 ⟨v1, rfl, o1, b1⟩
        have O1 := hid o1
        have HB6 := hid (HB5.out.trans (b1.mono HB5.out.size))
        clear o1 b1
        go_wp2_with fail
        refine (HI2.out _).mono ?_
        rintro e w7 ⟨v2, rfl, o2, b2⟩
        have O2 := hid o2
        have O1b := hid (O1.out.keep O1.out.lt b2)
        have HB7 := hid (HB6.out.trans (b2.mono HB6.out.size))
        clear o2 b2
        go_wp2_with fail
        refine (sameInts_any _ _ _ _ _ O1b.out.rd O2.out.rd).mono ?_
        rintro e w8 ⟨rfl, kk, hw8⟩
        have HB8 : Hid (Below w.heap.size w w8) := hid (by rw [hw8]; exact below_drewN HB7.out kk)
        clear hw8
        go_wp2
        go_ret
        exact ⟨rfl, HB8.out⟩
      · have hmi : (len1 : Int) % 6 = 1 := by omega
        have hs2 := HB2.out.size
        obtain ⟨so, hso⟩ : ∃ so, so = symOfV a b 2 := ⟨_, rfl⟩
        have S1 : Hid (symOfV a b 2 = so) := hid hso.symm
        have S2 : Hid (symOfV c d 2 = so) := hid (by rw [hso]; exact (F2.out 2 (by decide)).symm)
        clear hm hso
        go_wp2_with fail
        refine (symbolSame_any c d a b _).mono ?_
        rw [P2.out]
        rintro e w3 ⟨rfl, hb3⟩
        have HB3 := hid (HB2.out.trans ((((Below.refl _ _).alloc (Nat.le_refl _) _).trans (hb3.mono (by simp))).mono hs2))
        clear hb3
        go_wp2_with fail
        refine (symbolOf_any a b 2 _).mono ?_
        rw [S1.out]
        rintro e w' ⟨rfl, hb4⟩
        have HB4 := hid (HB3.out.trans (hb4.mono HB3.out.size))
        clear hb4
        go_wp2_with fail
        refine (symbolOf_any c d 2 _).mono ?_
        rw [S2.out]
        rintro e w' ⟨rfl, hb5⟩
        have HB5 := hid (HB4.out.trans (hb5.mono HB4.out.size))
        clear hb5
        go_wp2_with fail
        refine (HI.out _).mono ?_
        rintro e w6 ⟨v1, rfl, o1, b1⟩
        have O1 := hid o1
        have HB6 := hid (HB5.out.trans (b1.mono HB5.out.size))
        clear o1 b1
        go_wp2_with fail
        refine (HI2.out _).mono ?_
        rintro e w7 ⟨v2, rfl, o2, b2⟩
        have O2 := hid o2
        have O1b := hid (O1.out.keep O1.out.lt b2)
        have HB7 := hid (HB6.out.trans (b2.mono HB6.out.size))
        clear o2 b2
        go_wp2_with fail
        refine (sameInts_any _ _ _ _ _ O1b.out.rd O2.out.rd).mono ?_
        rintro e w8 ⟨rfl, kk, hw8⟩
        have HB8 : Hid (Below w.heap.size w w8) := hid (by rw [hw8]; exact below_drewN HB7.out kk)
        clear hw8
        go_wp2
        go_ret
        exact ⟨rfl, HB8.out⟩
      · have hmi : (len1 : Int) % 6 = 2 := by omega
        have hs2 := HB2.out.size
        obtain ⟨so, hso⟩ : ∃ so, so = symOfV a b 3 := ⟨_, rfl⟩
        have S1 : Hid (symOfV a b 3 = so) := hid hso.symm
        have S2 : Hid (symOfV c d 3 = so) := hid (by rw [hso]; exact (F2.out 3 (by decide)).symm)
        clear hm hso
        go_wp2_with fail
        refine (symbolSame_any c d a b _).mono ?_
        rw [P2.out]
        rintro e w3 ⟨rfl, hb3⟩
        have HB3 := hid (HB2.out.trans ((((Below.refl _ _).alloc (Nat.le_refl _) _).trans (hb3.mono (by simp))).mono hs2))
        clear hb3
        go_wp2_with fail
        refine (symbolOf_any a b 3 _).mono ?_
        rw [S1.out]
        rintro e w' ⟨rfl, hb4⟩
        have HB4 := hid (HB3.out.trans (hb4.mono HB3.out.size))
        clear hb4
        go_wp2_with fail
        refine (symbolOf_any c d 3 _).mono ?_
        rw [S2.out]
        rintro e w' ⟨rfl, hb5⟩
        have HB5 := hid (HB4.out.trans (hb5.mono HB4.out.size))
        clear hb5
        go_wp2_with fail
        refine (HI.out _).mono ?_
        rintro e w6 ⟨v1, rfl, o1, b1⟩
        have O1 := hid o1
        have HB6 := hid (HB5.out.trans (b1.mono HB5.out.size))
        clear o1 b1
        go_wp2_with fail
        refine (HI2.out _).mono ?_
        rintro e w7 ⟨v2, rfl, o2, b2⟩
        have O2 := hid o2
        have O1b := hid (O1.out.keep O1.out.lt b2)
        have HB7 := hid (HB6.out.trans (b2.mono HB6.out.size))
        clear o2 b2
        go_wp2_with fail
        refine (sameInts_any _ _ _ _ _ O1b.out.rd O2.out.rd).mono ?_
        rintro e w8 ⟨rfl, kk, hw8⟩
        have HB8 : Hid (Below w.heap.size w w8) := hid (by rw [hw8]; exact below_drewN HB7.out kk)
        clear hw8
        go_wp2
        go_ret
        exact ⟨rfl, HB8.out⟩
      · have hmi : (len1 : Int) % 6 = 3 := by omega
        have hs2 := HB2.out.size
        obtain ⟨so, hso⟩ : ∃ so, so = symOfV a b 5 := ⟨_, rfl⟩
        have S1 : Hid (symOfV a b 5 = so) := hid hso.symm
        have S2 : Hid (symOfV c d 5 = so) := hid (by rw [hso]; exact (F2.out 5 (by decide)).symm)
        clear hm hso
        go_wp2_with fail
        refine (symbolSame_any c d a b _).mono ?_
        rw [P2.out]
        rintro e w3 ⟨rfl, hb3⟩
        have HB3 := hid (HB2.out.trans ((((Below.refl _ _).alloc (Nat.le_refl _) _).trans (hb3.mono (by simp))).mono hs2))
        clear hb3
        go_wp2_with fail
        refine (symbolOf_any a b 5 _).mono ?_
        rw [S1.out]
        rintro e w' ⟨rfl, hb4⟩
        have HB4 := hid (HB3.out.trans (hb4.mono HB3.out.size))
        clear hb4
        go_wp2_with fail
        refine (symbolOf_any c d 5 _).mono ?_
        rw [S2.out]
        rintro e w' ⟨rfl, hb5⟩
        have HB5 := hid (HB4.out.trans (hb5.mono HB4.out.size))
        clear hb5
        go_wp2_with fail
        refine (HI.out _).mono ?_
        rintro e w6 ⟨v1, rfl, o1, b1⟩
        have O1 := hid o1
        have HB6 := hid (HB5.out.trans (b1.mono HB5.out.size))
        clear o1 b1
        go_wp2_with fail
        refine (HI2.out _).mono ?_
        rintro e w7 ⟨v2, rfl, o2, b2⟩
        have O2 := hid o2
        have O1b := hid (O1.out.keep O1.out.lt b2)
        have HB7 := hid (HB6.out.trans (b2.mono HB6.out.size))
        clear o2 b2
        go_wp2_with fail
        refine (sameInts_any _ _ _ _ _ O1b.out.rd O2.out.rd).mono ?_
        rintro e w8 ⟨rfl, kk, hw8⟩
        have HB8 : Hid (Below w.heap.size w w8) := hid (by rw [hw8]; exact below_drewN HB7.out kk)
        clear hw8
        go_wp2
        go_ret
        exact ⟨rfl, HB8.out⟩
      · have hmi : (len1 : Int) % 6 = 4 := by omega
        have hs2 := HB2.out.size
        obtain ⟨so, hso⟩ : ∃ so, so = symOfV a b 7 := ⟨_, rfl⟩
        have S1 : Hid (symOfV a b 7 = so) := hid hso.symm
        have S2 : Hid (symOfV c d 7 = so) := hid (by rw [hso]; exact (F2.out 7 (by decide)).symm)
        clear hm hso
        go_wp2_with fail
        refine (symbolSame_any c d a b _).mono ?_
        rw [P2.out]
        rintro e w3 ⟨rfl, hb3⟩
        have HB3 := hid (HB2.out.trans ((((Below.refl _ _).alloc (Nat.le_refl _) _).trans (hb3.mono (by simp))).mono hs2))
        clear hb3
        go_wp2_with fail
        refine (symbolOf_any a b 7 _).mono ?_
        rw [S1.out]
        rintro e w' ⟨rfl, hb4⟩
        have HB4 := hid (HB3.out.trans (hb4.mono HB3.out.size))
        clear hb4
        go_wp2_with fail
        refine (symbolOf_any c d 7 _).mono ?_
        rw [S2.out]
        rintro e w' ⟨rfl, hb5⟩
        have HB5 := hid (HB4.out.trans (hb5.mono HB4.out.size))
        clear hb5
        go_wp2_with fail
        refine (HI.out _).mono ?_
        rintro e w6 ⟨v1, rfl, o1, b1⟩
        have O1 := hid o1
        have HB6 := hid (HB5.out.trans (b1.mono HB5.out.size))
        clear o1 b1
        go_wp2_with fail
        refine (HI2.out _).mono ?_
        rintro e w7 ⟨v2, rfl, o2, b2⟩
        have O2 := hid o2
        have O1b := hid (O1.out.keep O1.out.lt b2)
        have HB7 := hid (HB6.out.trans (b2.mono HB6.out.size))
        clear o2 b2
        go_wp2_with fail
        refine (sameInts_any _ _ _ _ _ O1b.out.rd O2.out.rd).mono ?_
        rintro e w8 ⟨rfl, kk, hw8⟩
        have HB8 : Hid (Below w.heap.size w w8) := hid (by rw [hw8]; exact below_drewN HB7.out kk)
        clear hw8
        go_wp2
        go_ret
        exact ⟨rfl, HB8.out⟩
      · have hmi : (len1 : Int) % 6 = 5 := by omega
        have hs2 := HB2.out.size
        obtain ⟨so, hso⟩ : ∃ so, so = symOfV a b 11 := ⟨_, rfl⟩
        have S1 : Hid (symOfV a b 11 = so) := hid hso.symm
        have S2 : Hid (symOfV c d 11 = so) := hid (by rw [hso]; exact (F2.out 11 (by decide)).symm)
        clear hm hso
        go_wp2_with fail
        refine (symbolSame_any c d a b _).mono ?_
        rw [P2.out]
        rintro e w3 ⟨rfl, hb3⟩
        have HB3 := hid (HB2.out.trans ((((Below.refl _ _).alloc (Nat.le_refl _) _).trans (hb3.mono (by simp))).mono hs2))
        clear hb3
        go_wp2_with fail
        refine (symbolOf_any a b 11 _).mono ?_
        rw [S1.out]
        rintro e w' ⟨rfl, hb4⟩
        have HB4 := hid (HB3.out.trans (hb4.mono HB3.out.size))
        clear hb4
        go_wp2_with fail
        refine (symbolOf_any c d 11 _).mono ?_
        rw [S2.out]
        rintro e w' ⟨rfl, hb5⟩
        have HB5 := hid (HB4.out.trans (hb5.mono HB4.out.size))
        clear hb5
        go_wp2_with fail
        refine (HI.out _).mono ?_
        rintro e w6 ⟨v1, rfl, o1, b1⟩
        have O1 := hid o1
        have HB6 := hid (HB5.out.trans (b1.mono HB5.out.size))
        clear o1 b1
        go_wp2_with fail
        refine (HI2.out _).mono ?_
        rintro e w7 ⟨v2, rfl, o2, b2⟩
        have O2 := hid o2
        have O1b := hid (O1.out.keep O1.out.lt b2)
        have HB7 := hid (HB6.out.trans (b2.mono HB6.out.size))
        clear o2 b2
        go_wp2_with fail
        refine (sameInts_any _ _ _ _ _ O1b.out.rd O2.out.rd).mono ?_
        rintro e w8 ⟨rfl, kk, hw8⟩
        have HB8 : Hid (Below w.heap.size w w8) := hid (by rw [hw8]; exact below_drewN HB7.out kk)
        clear hw8
        go_wp2
        go_ret
        exact ⟨rfl, HB8.out⟩
theorem own : ownKnob Try.prog.godebug = none := by kernel_rfl
theorem laidOut : laidOutB Try.prog = true := by kernel_rfl
set_option maxRecDepth 100000 in
theorem lifted (os : Os) (started : os.Started) (H : Type) (enc : TypeId × Value → H) :
    ReturnsInHanded {} Try.checked os 12 .any (Rows.fnSymbolSameSpec.pre6 enc Try.prog Try.f12 Rows.fnSymbolSameRow.domain false) (Rows.fnSymbolSameSpec.post enc Try.prog Try.f12 false true false false) := by
  refine returnsInHanded_of_change (C := Try.checked) own started (by kernel_rfl) Try.func12
    (ChangeSpec.witness6 (enc := enc) (C := Try.checked) false ⟨#[], #[.slice none 0 0, .slice none 0 0], []⟩ 8 (by kernel_rfl) (by kernel_rfl) (by kernel_rfl) (by kernel_rfl)) ?_
  intro W base args ds gs before hval0 hW hcnd _
  have hval : ∀ (j : Nat) t v, Try.f12.params[j]? = some t → args[j]? = some v → Value.okWide Try.prog W .any base t v := hval0
  have hW' := hW
  obtain ⟨p, q, hA0, hV, rfl, hfz, hnd⟩ := hW
  have hA : DataW.TrodAll enc Try.prog W 0 (fun _ => true) true Try.f12.params.toList args.toList ds p := hA0
  rw [Try.params12] at hA hval
  obtain ⟨v0, vs0, d0, ds0, p0, q0, hargs, rfl, rfl, h0, r0⟩ := trodAll_cons hA
  obtain ⟨v1, vs1, d1, ds1, p1, q1, rfl, rfl, rfl, h1, r1⟩ := trodAll_cons r0
  obtain ⟨rfl, rfl, rfl⟩ := trodAll_nil r1
  obtain rfl : args = #[v0, v1] := by cases args; simp_all
  obtain ⟨rfl, rfl⟩ := trodVars_none hV
  obtain ⟨a0, len0, cap0, rfl⟩ := okWide_slice Try.underlying22 (hval 0 22 v0 rfl rfl)
  have k0 := h0
  have lt0 : ∀ x ∈ p0, x.block < W.heap.size := by obtain ⟨m, hm⟩ := k0; exact DataW.trod_lt m _ _ _ hm
  obtain ⟨z0, w0⟩ : ∃ zs, IsRow .u8 W a0 len0 cap0 zs := by
    obtain ⟨fuel, hf⟩ := h0
    rcases open_ints Try.underlying22 Try.underlying5 (by kernel_rfl) hf with ⟨hcs, _⟩ | ⟨x, l, c, zs, hcs, _, hl, hm, hz, _, hcell, hwz⟩
    · simp [Value.cells] at hcs
      obtain ⟨rfl, rfl, rfl⟩ := hcs
      exact ⟨[], .inl ⟨rfl, rfl, rfl, rfl⟩⟩
    · simp [Value.cells] at hcs
      obtain ⟨rfl, rfl, rfl⟩ := hcs
      exact ⟨zs, .inr ⟨_, rfl, hl, hm, by simpa using hz, hcell, hwz⟩⟩
  obtain ⟨a1, len1, cap1, rfl⟩ := okWide_slice Try.underlying22 (hval 1 22 v1 rfl rfl)
  have k1 := h1
  have lt1 : ∀ x ∈ p1, x.block < W.heap.size := by obtain ⟨m, hm⟩ := k1; exact DataW.trod_lt m _ _ _ hm
  obtain ⟨z1, w1⟩ : ∃ zs, IsRow .u8 W a1 len1 cap1 zs := by
    obtain ⟨fuel, hf⟩ := h1
    rcases open_ints Try.underlying22 Try.underlying5 (by kernel_rfl) hf with ⟨hcs, _⟩ | ⟨x, l, c, zs, hcs, _, hl, hm, hz, _, hcell, hwz⟩
    · simp [Value.cells] at hcs
      obtain ⟨rfl, rfl, rfl⟩ := hcs
      exact ⟨[], .inl ⟨rfl, rfl, rfl, rfl⟩⟩
    · simp [Value.cells] at hcs
      obtain ⟨rfl, rfl, rfl⟩ := hcs
      exact ⟨zs, .inr ⟨_, rfl, hl, hm, by simpa using hz, hcell, hwz⟩⟩
  clear hA0 hval0
  refine (walk a0 len0 cap0 z0 a1 len1 cap1 z1 W w0 w1).mono fun e W' ⟨he, bel⟩ => ?_
  subst he
  exact ⟨_, rfl, _, _, _, [], _, [], hW', trodAll_mk1 (shut_bool Try.underlying4 _), (trodAll_cons_mk (Below.trod laidOut (by kernel_rfl) (of_decide_eq_true (by kernel_rfl)) k0 bel lt0) (trodAll_cons_mk (Below.trod laidOut (by kernel_rfl) (of_decide_eq_true (by kernel_rfl)) k1 bel lt1) trodAll_mk0)), rfl, bel.frame _, fun h => by cases h⟩
theorem over : Rows.fnSymbolSameRow.holds Try.pinned (OpenSpec.ofChange Rows.fnSymbolSameSpec) :=
  OpenClaim.holds_of_wide 12 Try.f12 rfl rfl rfl rfl rfl rfl rfl ⟨rfl, rfl, rfl, rfl, rfl⟩ rfl rfl rfl rfl rfl (by kernel_rfl) Try.func12 (by kernel_rfl)
    (of_decide_eq_true (by kernel_rfl)) (by unfold Func.isWrapper; first | (rw [if_pos (by decide +kernel)]; kernel_rfl) | (rw [if_neg (by decide +kernel)]; exact ⟨rfl, rfl⟩))
    (fun os started H enc _ => lifted os started H enc)
theorem proved : Rows.FnSymbolSameSaid := over
end Go.Proofs.Ytdidmblkknnglaa.fnSymbolSame
