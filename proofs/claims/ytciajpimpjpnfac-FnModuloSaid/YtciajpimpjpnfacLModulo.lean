/-
  Proves: for every code: what is solved up to a power is solved up to the one below, and up to a high power of 2 or 3 only where the symbol of two cores is 1.
  Conditions: none beyond the given statement's own.
-/
import Derived.Test.YtciajpimpjpnfacRows
import Derived.Test.YtciajpimpjpnfacBun36
import Derived.Test.YtciajpimpjpnfacLaw4
import Derived.Test.YtciajpimpjpnfacCore2
import Derived.Test.YtciajpimpjpnfacBun39
import Derived.Test.YtciajpimpjpnfacBun14
import Derived.Test.YtciajpimpjpnfacBun24
import Derived.Test.YtciajpimpjpnfacImp3J
import Derived.ProofKit
import Derived.OpenShut
import Derived.ShutString
import Derived.ChangeOld
namespace Go.Proofs.Ytciajpimpjpnfac.fnModulo
open Go.ChangeShapes Go.WideShapes Go.ChangeAt Go.RowKit
open Go.ChangeMaps (open_string shut_string)
set_option linter.unusedVariables false
theorem core_yes {a : Int} (h : factB a = true) : ∃ c r : Int, coreV a = .tuple #[.int .i64 c, .int .i64 r, .bool true] ∧ (r = 1 → a % 4 ≠ 0 ∧ a % 9 ≠ 0) ∧ 1 ≤ r := by
  rcases factB_cases a with ⟨h1, h2, h0, _, _⟩ | ⟨_, e⟩ | ⟨_, _, e⟩
  · obtain ⟨_, _, r1⟩ := rootW_eq (N := a.natAbs) (by omega) (by omega)
    exact ⟨_, _, coreV_yes h, fun e => rootSq h0 (by omega), by omega⟩
  · rw [h] at e; cases e
  · rw [h] at e; cases e
theorem high_one {a b : Int} (O : okAB a b = true) {p : Int} {ra rb : Int} (h3 : p = 3 → a % 9 ≠ 0 → b % 9 ≠ 0 → symV a b 3 = 1) (h2 : p = 2 → a % 4 ≠ 0 → b % 4 ≠ 0 → symV a b 2 = 1)
    (ha : ra = 1 → a % 4 ≠ 0 ∧ a % 9 ≠ 0) (hb : rb = 1 → b % 4 ≠ 0 ∧ b % 9 ≠ 0) (e1 : ra = 1) (e2 : rb = 1) (hp : p = 3 ∨ p = 2) : symOfV a b p = 1 := by
  rcases hp with rfl | rfl
  · rw [symOf_yes O (by decide)]; exact h3 rfl (ha e1).2 (hb e2).2
  · rw [symOf_yes O (by decide)]; exact h2 rfl (ha e1).1 (hb e2).1

set_option maxRecDepth 100000 in
set_option maxHeartbeats 8000000 in
theorem walk  (a0 : Option Addr) (len0 cap0 : Nat) (z0 : List Int) (w : World) (w0 : IsRow .u8 w a0 len0 cap0 z0) :
    Calls Try.prog 9 #[.slice a0 len0 cap0] w fun e w' => e = .returned (.bool true) ∧ Below w.heap.size w w' := by
  have HC := hid (codeIn_of w0)
  clear w0
  by_cases hl : (1048576 : Int) < (len0 : Int)
  · go_enter Try.func9, Try.ntmps9
    go_wp2
    go_ret
    exact ⟨rfl, Below.refl _ _⟩
  · go_enter Try.func9, Try.ntmps9
    go_wp2_with fail
    refine (drawSymbolModulo_any _ len0 _ HC.out).mono ?_
    rintro e w1 ⟨a, b, p, k, rfl, ⟨_, _, hp, hk⟩, hb⟩
    unfold smallI at hp hk
    have k1 := hk.1
    have k2 := hk.2
    clear hp hk
    cases hV : smodV a b p k with
    | false =>
      have P := hid hV
      clear hV
      go_wp2_with fail
      refine (symbolModulo_any a b p k _).mono ?_
      rw [P.out]
      rintro e w' ⟨rfl, hb1⟩
      have hB1 := hb.trans (hb1.mono hb.size)
      go_wp2_with fail
      refine (symbolModuloS_any a b p k _).mono ?_
      rw [P.out]
      rintro e w' ⟨rfl, rfl⟩
      go_wp2
      go_ret
      exact ⟨rfl, hB1⟩
    | true =>
      have P := hid hV
      have hh := smod_hit hV
      have O := hh.1
      have hfab : factB a = true ∧ factB b = true := by unfold okAB at O; rw [Bool.and_eq_true] at O; exact O
      obtain ⟨ca, ra, ea, qa, ra1⟩ := core_yes hfab.1
      obtain ⟨cb, rb, eb, qb, rb1⟩ := core_yes hfab.2
      have CA := hid ea
      have CB := hid eb
      have HDN := hid (smod_down hV)
      have H3 : Hid (p = 3 → k = 3 → ra = 1 → rb = 1 → symOfV a b 3 = 1) := hid (fun e1 e2 x y => by
        subst e1; subst e2
        exact high_one O (fun _ h1 h2 => high3 h1 h2 hh.2) (fun h => absurd h (by decide)) qa qb x y (.inl rfl))
      have H2 : Hid (p = 2 → k = 5 → ra = 1 → rb = 1 → symOfV a b 2 = 1) := hid (fun e1 e2 x y => by
        subst e1; subst e2
        exact high_one O (fun h => absurd h (by decide)) (fun _ h1 h2 => high2 h1 h2 hh.2) qa qb x y (.inr rfl))
      clear hV hh O hfab ea eb qa qb
      by_cases hk1 : k = 1
      · subst hk1
        by_cases hp3 : p = 3
        · subst hp3
          go_wp2_with fail
          refine (symbolModulo_any a b 3 1 _).mono ?_
          rw [P.out]
          rintro e w' ⟨rfl, hb1⟩
          have hB1 := hb.trans (hb1.mono hb.size)
          go_wp2_with fail
          refine (symbolModuloS_any a b 3 1 _).mono ?_
          rw [P.out]
          rintro e w' ⟨rfl, rfl⟩
          go_wp2_with fail
          refine (coreOf_any a _).mono ?_
          rw [CA.out]
          rintro e w' ⟨rfl, hb2⟩
          have hB2 := hB1.trans (hb2.mono hB1.size)
          go_wp2_with fail
          refine (coreOf_any b _).mono ?_
          rw [CB.out]
          rintro e w' ⟨rfl, hb3⟩
          have hB3 := hB2.trans (hb3.mono hB2.size)
          go_wp2
          go_ret
          exact ⟨rfl, hB3⟩
        · have T3 : (p == 3) = false := by rw [beq_eq_false_iff_ne]; exact hp3
          by_cases hp2 : p = 2
          · subst hp2
            go_wp2_with fail
            refine (symbolModulo_any a b 2 1 _).mono ?_
            rw [P.out]
            rintro e w' ⟨rfl, hb1⟩
            have hB1 := hb.trans (hb1.mono hb.size)
            go_wp2_with fail
            refine (symbolModuloS_any a b 2 1 _).mono ?_
            rw [P.out]
            rintro e w' ⟨rfl, rfl⟩
            go_wp2_with fail
            refine (coreOf_any a _).mono ?_
            rw [CA.out]
            rintro e w' ⟨rfl, hb2⟩
            have hB2 := hB1.trans (hb2.mono hB1.size)
            go_wp2_with fail
            refine (coreOf_any b _).mono ?_
            rw [CB.out]
            rintro e w' ⟨rfl, hb3⟩
            have hB3 := hB2.trans (hb3.mono hB2.size)
            go_wp2
            go_ret
            exact ⟨rfl, hB3⟩
          · have T2 : (p == 2) = false := by rw [beq_eq_false_iff_ne]; exact hp2
            go_wp2_with fail
            refine (symbolModulo_any a b p 1 _).mono ?_
            rw [P.out]
            rintro e w' ⟨rfl, hb1⟩
            have hB1 := hb.trans (hb1.mono hb.size)
            go_wp2_with fail
            refine (symbolModuloS_any a b p 1 _).mono ?_
            rw [P.out]
            rintro e w' ⟨rfl, rfl⟩
            go_wp2_with fail
            refine (coreOf_any a _).mono ?_
            rw [CA.out]
            rintro e w' ⟨rfl, hb2⟩
            have hB2 := hB1.trans (hb2.mono hB1.size)
            go_wp2_with fail
            refine (coreOf_any b _).mono ?_
            rw [CB.out]
            rintro e w' ⟨rfl, hb3⟩
            have hB3 := hB2.trans (hb3.mono hB2.size)
            go_wp2
            go_ret
            exact ⟨rfl, hB3⟩
      · have TK : (k == 1) = false := by rw [beq_eq_false_iff_ne]; exact hk1
        by_cases hp3 : p = 3
        · subst hp3
          by_cases hk3 : k = 3
          · subst hk3
            have D : Hid (smodV a b 3 2 = true) := hid (by rcases HDN.out with h | h; (· exact absurd h (by decide)); (· simpa using h))
            by_cases hra : 1 < ra
            · skip
              go_wp2_with fail
              refine (symbolModulo_any a b 3 3 _).mono ?_
              rw [P.out]
              rintro e w' ⟨rfl, hb1⟩
              have hB1 := hb.trans (hb1.mono hb.size)
              go_wp2_with fail
              refine (symbolModuloS_any a b 3 3 _).mono ?_
              rw [P.out]
              rintro e w' ⟨rfl, rfl⟩
              go_wp2_with fail
              refine (coreOf_any a _).mono ?_
              rw [CA.out]
              rintro e w' ⟨rfl, hb2⟩
              have hB2 := hB1.trans (hb2.mono hB1.size)
              go_wp2_with fail
              refine (coreOf_any b _).mono ?_
              rw [CB.out]
              rintro e w' ⟨rfl, hb3⟩
              have hB3 := hB2.trans (hb3.mono hB2.size)
              go_wp2_with fail
              refine (symbolModulo_any a b 3 _ _).mono ?_
              rw [D.out]
              rintro e w' ⟨rfl, hb4⟩
              have hB4 := hB3.trans (hb4.mono hB3.size)
              go_wp2
              go_ret
              exact ⟨rfl, hB4⟩
            · by_cases hrb : 1 < rb
              · skip
                go_wp2_with fail
                refine (symbolModulo_any a b 3 3 _).mono ?_
                rw [P.out]
                rintro e w' ⟨rfl, hb1⟩
                have hB1 := hb.trans (hb1.mono hb.size)
                go_wp2_with fail
                refine (symbolModuloS_any a b 3 3 _).mono ?_
                rw [P.out]
                rintro e w' ⟨rfl, rfl⟩
                go_wp2_with fail
                refine (coreOf_any a _).mono ?_
                rw [CA.out]
                rintro e w' ⟨rfl, hb2⟩
                have hB2 := hB1.trans (hb2.mono hB1.size)
                go_wp2_with fail
                refine (coreOf_any b _).mono ?_
                rw [CB.out]
                rintro e w' ⟨rfl, hb3⟩
                have hB3 := hB2.trans (hb3.mono hB2.size)
                go_wp2_with fail
                refine (symbolModulo_any a b 3 _ _).mono ?_
                rw [D.out]
                rintro e w' ⟨rfl, hb4⟩
                have hB4 := hB3.trans (hb4.mono hB3.size)
                go_wp2
                go_ret
                exact ⟨rfl, hB4⟩
              · have S := hid (H3.out rfl rfl (by omega) (by omega))
                go_wp2_with fail
                refine (symbolModulo_any a b 3 3 _).mono ?_
                rw [P.out]
                rintro e w' ⟨rfl, hb1⟩
                have hB1 := hb.trans (hb1.mono hb.size)
                go_wp2_with fail
                refine (symbolModuloS_any a b 3 3 _).mono ?_
                rw [P.out]
                rintro e w' ⟨rfl, rfl⟩
                go_wp2_with fail
                refine (coreOf_any a _).mono ?_
                rw [CA.out]
                rintro e w' ⟨rfl, hb2⟩
                have hB2 := hB1.trans (hb2.mono hB1.size)
                go_wp2_with fail
                refine (coreOf_any b _).mono ?_
                rw [CB.out]
                rintro e w' ⟨rfl, hb3⟩
                have hB3 := hB2.trans (hb3.mono hB2.size)
                go_wp2_with fail
                refine (symbolModulo_any a b 3 _ _).mono ?_
                rw [D.out]
                rintro e w' ⟨rfl, hb4⟩
                have hB4 := hB3.trans (hb4.mono hB3.size)
                go_wp2_with fail
                refine (symbolOf_any a b 3 _).mono ?_
                rw [S.out]
                rintro e w' ⟨rfl, hb5⟩
                have hB5 := hB4.trans (hb5.mono hB4.size)
                go_wp2
                go_ret
                exact ⟨rfl, hB5⟩
          · have TK3 : (k == 3) = false := by rw [beq_eq_false_iff_ne]; exact hk3
            have D : Hid (smodV a b 3 (k - 1) = true) := hid (by rcases HDN.out with h | h; (· exact absurd h hk1); (· exact h))
            go_wp2_with fail
            refine (symbolModulo_any a b 3 k _).mono ?_
            rw [P.out]
            rintro e w' ⟨rfl, hb1⟩
            have hB1 := hb.trans (hb1.mono hb.size)
            go_wp2_with fail
            refine (symbolModuloS_any a b 3 k _).mono ?_
            rw [P.out]
            rintro e w' ⟨rfl, rfl⟩
            go_wp2_with fail
            refine (coreOf_any a _).mono ?_
            rw [CA.out]
            rintro e w' ⟨rfl, hb2⟩
            have hB2 := hB1.trans (hb2.mono hB1.size)
            go_wp2_with fail
            refine (coreOf_any b _).mono ?_
            rw [CB.out]
            rintro e w' ⟨rfl, hb3⟩
            have hB3 := hB2.trans (hb3.mono hB2.size)
            go_wp2_with fail
            refine (symbolModulo_any a b 3 _ _).mono ?_
            rw [D.out]
            rintro e w' ⟨rfl, hb4⟩
            have hB4 := hB3.trans (hb4.mono hB3.size)
            go_wp2
            go_ret
            exact ⟨rfl, hB4⟩
        · have T3 : (p == 3) = false := by rw [beq_eq_false_iff_ne]; exact hp3
          by_cases hp2 : p = 2
          · subst hp2
            by_cases hk5 : k = 5
            · subst hk5
              have D : Hid (smodV a b 2 4 = true) := hid (by rcases HDN.out with h | h; (· exact absurd h (by decide)); (· simpa using h))
              by_cases hra : 1 < ra
              · skip
                go_wp2_with fail
                refine (symbolModulo_any a b 2 5 _).mono ?_
                rw [P.out]
                rintro e w' ⟨rfl, hb1⟩
                have hB1 := hb.trans (hb1.mono hb.size)
                go_wp2_with fail
                refine (symbolModuloS_any a b 2 5 _).mono ?_
                rw [P.out]
                rintro e w' ⟨rfl, rfl⟩
                go_wp2_with fail
                refine (coreOf_any a _).mono ?_
                rw [CA.out]
                rintro e w' ⟨rfl, hb2⟩
                have hB2 := hB1.trans (hb2.mono hB1.size)
                go_wp2_with fail
                refine (coreOf_any b _).mono ?_
                rw [CB.out]
                rintro e w' ⟨rfl, hb3⟩
                have hB3 := hB2.trans (hb3.mono hB2.size)
                go_wp2_with fail
                refine (symbolModulo_any a b 2 _ _).mono ?_
                rw [D.out]
                rintro e w' ⟨rfl, hb4⟩
                have hB4 := hB3.trans (hb4.mono hB3.size)
                go_wp2
                go_ret
                exact ⟨rfl, hB4⟩
              · by_cases hrb : 1 < rb
                · skip
                  go_wp2_with fail
                  refine (symbolModulo_any a b 2 5 _).mono ?_
                  rw [P.out]
                  rintro e w' ⟨rfl, hb1⟩
                  have hB1 := hb.trans (hb1.mono hb.size)
                  go_wp2_with fail
                  refine (symbolModuloS_any a b 2 5 _).mono ?_
                  rw [P.out]
                  rintro e w' ⟨rfl, rfl⟩
                  go_wp2_with fail
                  refine (coreOf_any a _).mono ?_
                  rw [CA.out]
                  rintro e w' ⟨rfl, hb2⟩
                  have hB2 := hB1.trans (hb2.mono hB1.size)
                  go_wp2_with fail
                  refine (coreOf_any b _).mono ?_
                  rw [CB.out]
                  rintro e w' ⟨rfl, hb3⟩
                  have hB3 := hB2.trans (hb3.mono hB2.size)
                  go_wp2_with fail
                  refine (symbolModulo_any a b 2 _ _).mono ?_
                  rw [D.out]
                  rintro e w' ⟨rfl, hb4⟩
                  have hB4 := hB3.trans (hb4.mono hB3.size)
                  go_wp2
                  go_ret
                  exact ⟨rfl, hB4⟩
                · have S := hid (H2.out rfl rfl (by omega) (by omega))
                  go_wp2_with fail
                  refine (symbolModulo_any a b 2 5 _).mono ?_
                  rw [P.out]
                  rintro e w' ⟨rfl, hb1⟩
                  have hB1 := hb.trans (hb1.mono hb.size)
                  go_wp2_with fail
                  refine (symbolModuloS_any a b 2 5 _).mono ?_
                  rw [P.out]
                  rintro e w' ⟨rfl, rfl⟩
                  go_wp2_with fail
                  refine (coreOf_any a _).mono ?_
                  rw [CA.out]
                  rintro e w' ⟨rfl, hb2⟩
                  have hB2 := hB1.trans (hb2.mono hB1.size)
                  go_wp2_with fail
                  refine (coreOf_any b _).mono ?_
                  rw [CB.out]
                  rintro e w' ⟨rfl, hb3⟩
                  have hB3 := hB2.trans (hb3.mono hB2.size)
                  go_wp2_with fail
                  refine (symbolModulo_any a b 2 _ _).mono ?_
                  rw [D.out]
                  rintro e w' ⟨rfl, hb4⟩
                  have hB4 := hB3.trans (hb4.mono hB3.size)
                  go_wp2_with fail
                  refine (symbolOf_any a b 2 _).mono ?_
                  rw [S.out]
                  rintro e w' ⟨rfl, hb5⟩
                  have hB5 := hB4.trans (hb5.mono hB4.size)
                  go_wp2
                  go_ret
                  exact ⟨rfl, hB5⟩
            · have TK5 : (k == 5) = false := by rw [beq_eq_false_iff_ne]; exact hk5
              have D : Hid (smodV a b 2 (k - 1) = true) := hid (by rcases HDN.out with h | h; (· exact absurd h hk1); (· exact h))
              go_wp2_with fail
              refine (symbolModulo_any a b 2 k _).mono ?_
              rw [P.out]
              rintro e w' ⟨rfl, hb1⟩
              have hB1 := hb.trans (hb1.mono hb.size)
              go_wp2_with fail
              refine (symbolModuloS_any a b 2 k _).mono ?_
              rw [P.out]
              rintro e w' ⟨rfl, rfl⟩
              go_wp2_with fail
              refine (coreOf_any a _).mono ?_
              rw [CA.out]
              rintro e w' ⟨rfl, hb2⟩
              have hB2 := hB1.trans (hb2.mono hB1.size)
              go_wp2_with fail
              refine (coreOf_any b _).mono ?_
              rw [CB.out]
              rintro e w' ⟨rfl, hb3⟩
              have hB3 := hB2.trans (hb3.mono hB2.size)
              go_wp2_with fail
              refine (symbolModulo_any a b 2 _ _).mono ?_
              rw [D.out]
              rintro e w' ⟨rfl, hb4⟩
              have hB4 := hB3.trans (hb4.mono hB3.size)
              go_wp2
              go_ret
              exact ⟨rfl, hB4⟩
          · have T2 : (p == 2) = false := by rw [beq_eq_false_iff_ne]; exact hp2
            have D : Hid (smodV a b p (k - 1) = true) := hid (by rcases HDN.out with h | h; (· exact absurd h hk1); (· exact h))
            go_wp2_with fail
            refine (symbolModulo_any a b p k _).mono ?_
            rw [P.out]
            rintro e w' ⟨rfl, hb1⟩
            have hB1 := hb.trans (hb1.mono hb.size)
            go_wp2_with fail
            refine (symbolModuloS_any a b p k _).mono ?_
            rw [P.out]
            rintro e w' ⟨rfl, rfl⟩
            go_wp2_with fail
            refine (coreOf_any a _).mono ?_
            rw [CA.out]
            rintro e w' ⟨rfl, hb2⟩
            have hB2 := hB1.trans (hb2.mono hB1.size)
            go_wp2_with fail
            refine (coreOf_any b _).mono ?_
            rw [CB.out]
            rintro e w' ⟨rfl, hb3⟩
            have hB3 := hB2.trans (hb3.mono hB2.size)
            go_wp2_with fail
            refine (symbolModulo_any a b p _ _).mono ?_
            rw [D.out]
            rintro e w' ⟨rfl, hb4⟩
            have hB4 := hB3.trans (hb4.mono hB3.size)
            go_wp2
            go_ret
            exact ⟨rfl, hB4⟩
theorem own : ownKnob Try.prog.godebug = none := by kernel_rfl
theorem laidOut : laidOutB Try.prog = true := by kernel_rfl
set_option maxRecDepth 100000 in
theorem lifted (os : Os) (started : os.Started) (H : Type) (enc : TypeId × Value → H) :
    ReturnsInHanded {} Try.checked os 9 .any (Rows.fnModuloSpec.pre6 enc Try.prog Try.f9 Rows.fnModuloRow.domain false) (Rows.fnModuloSpec.post enc Try.prog Try.f9 false true false false) := by
  refine returnsInHanded_of_change (C := Try.checked) own started (by kernel_rfl) Try.func9
    (ChangeSpec.witness6 (enc := enc) (C := Try.checked) false ⟨#[], #[.slice none 0 0], []⟩ 8 (by kernel_rfl) (by kernel_rfl) (by kernel_rfl) (by kernel_rfl)) ?_
  intro W base args ds gs before hval0 hW hcnd _
  have hval : ∀ (j : Nat) t v, Try.f9.params[j]? = some t → args[j]? = some v → Value.okWide Try.prog W .any base t v := hval0
  have hW' := hW
  obtain ⟨p, q, hA0, hV, rfl, hfz, hnd⟩ := hW
  have hA : DataW.TrodAll enc Try.prog W 0 (fun _ => true) true Try.f9.params.toList args.toList ds p := hA0
  rw [Try.params9] at hA hval
  obtain ⟨v0, vs0, d0, ds0, p0, q0, hargs, rfl, rfl, h0, r0⟩ := trodAll_cons hA
  obtain ⟨rfl, rfl, rfl⟩ := trodAll_nil r0
  obtain rfl : args = #[v0] := by cases args; simp_all
  obtain ⟨rfl, rfl⟩ := trodVars_none hV
  obtain ⟨a0, len0, cap0, rfl⟩ := okWide_slice Try.underlying32 (hval 0 32 v0 rfl rfl)
  have k0 := h0
  have lt0 : ∀ x ∈ p0, x.block < W.heap.size := by obtain ⟨m, hm⟩ := k0; exact DataW.trod_lt m _ _ _ hm
  obtain ⟨z0, w0⟩ : ∃ zs, IsRow .u8 W a0 len0 cap0 zs := by
    obtain ⟨fuel, hf⟩ := h0
    rcases open_ints Try.underlying32 Try.underlying5 (by kernel_rfl) hf with ⟨hcs, _⟩ | ⟨x, l, c, zs, hcs, _, hl, hm, hz, _, hcell, hwz⟩
    · simp [Value.cells] at hcs
      obtain ⟨rfl, rfl, rfl⟩ := hcs
      exact ⟨[], .inl ⟨rfl, rfl, rfl, rfl⟩⟩
    · simp [Value.cells] at hcs
      obtain ⟨rfl, rfl, rfl⟩ := hcs
      exact ⟨zs, .inr ⟨_, rfl, hl, hm, by simpa using hz, hcell, hwz⟩⟩
  clear hA0 hval0
  refine (walk a0 len0 cap0 z0 W w0).mono fun e W' ⟨he, bel⟩ => ?_
  subst he
  exact ⟨_, rfl, _, _, _, [], _, [], hW', trodAll_mk1 (shut_bool Try.underlying4 _), (trodAll_cons_mk (Below.trod laidOut (by kernel_rfl) (of_decide_eq_true (by kernel_rfl)) k0 bel lt0) trodAll_mk0), rfl, bel.frame _, fun h => by cases h⟩
theorem over : Rows.fnModuloRow.holds Try.pinned (OpenSpec.ofChange Rows.fnModuloSpec) :=
  OpenClaim.holds_of_wide 9 Try.f9 rfl rfl rfl rfl rfl rfl rfl ⟨rfl, rfl, rfl, rfl, rfl⟩ rfl rfl rfl rfl rfl (by kernel_rfl) Try.func9 (by kernel_rfl)
    (of_decide_eq_true (by kernel_rfl)) (by unfold Func.isWrapper; first | (rw [if_pos (by decide +kernel)]; kernel_rfl) | (rw [if_neg (by decide +kernel)]; exact ⟨rfl, rfl⟩))
    (fun os started H enc _ => lifted os started H enc)
theorem proved : Rows.FnModuloSaid := over
end Go.Proofs.Ytciajpimpjpnfac.fnModulo
