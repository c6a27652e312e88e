/-
  Proves: for every code: a heading is read back from the zero that it meets.
  Conditions: none beyond the given statement's own.
-/
import Derived.Test.YtfjbdbfeolfcfaaRows
import Derived.Test.YtfjbdbfeolfcfaaQBun18
import Derived.Test.YtfjbdbfeolfcfaaQBun30
import Derived.Test.YtfjbdbfeolfcfaaQBun27
import Derived.Test.YtfjbdbfeolfcfaaQBun47
import Derived.ProofKit
import Derived.OpenShut
import Derived.ShutString
import Derived.ChangeOld
namespace Go.Proofs.Ytfjbdbfeolfcfaa.fnAt
open Go.ChangeShapes Go.WideShapes Go.ChangeAt Go.RowKit
open Go.ChangeMaps (open_string shut_string)
set_option linter.unusedVariables false
theorem at_gcd {s t : Int} (hs : -10 ≤ s ∧ s ≤ 10) (ht : -10 ≤ t ∧ t ≤ 10) : gcdV s t = (gcdL [s, t] : Nat) := by
  rw [gcdV_yes (by rw [okN_iff.2 (by omega), okN_iff.2 (by omega)]; rfl)]
  show _ = ((Nat.gcd (Nat.gcd 0 s.natAbs) t.natAbs : Nat) : Int)
  rw [Nat.gcd_zero_left]
theorem at_bd {s t : Int} (hs : -10 ≤ s ∧ s ≤ 10) (ht : -10 ≤ t ∧ t ≤ 10) : gcdL [s, t] ≤ 10 := by
  show Nat.gcd (Nat.gcd 0 s.natAbs) t.natAbs ≤ 10
  rw [Nat.gcd_zero_left]
  by_cases h : s.natAbs = 0
  · rw [h, Nat.gcd_zero_left]; omega
  · have := Nat.gcd_le_left t.natAbs (show 0 < s.natAbs by omega); omega
theorem sign_neg {s t : Int} (h : s < 0 ∨ s = 0 ∧ t < 0) : signL [s, t] = -1 := by
  unfold signL
  rcases h with h | ⟨rfl, h⟩
  · rw [if_neg (by omega), if_pos h]
  · rw [if_pos rfl]
    unfold signL
    rw [if_neg (by omega), if_pos h]
theorem sign_pos {s t : Int} (h : ¬ (s < 0 ∨ s = 0 ∧ t < 0)) : signL [s, t] = 1 := by
  unfold signL
  by_cases hs : s = 0
  · rw [if_pos hs]
    unfold signL
    by_cases ht : t = 0
    · rw [if_pos ht]; rfl
    · rw [if_neg ht, if_neg (by omega)]
  · rw [if_neg hs, if_neg (by omega)]
set_option maxRecDepth 100000 in
set_option maxHeartbeats 4000000 in
theorem walk (a0 : Option Addr) (len0 cap0 : Nat) (z0 : List Int) (w : World) (w0 : IsRow .u8 w a0 len0 cap0 z0) :
    Calls Try.prog 5 #[.slice a0 len0 cap0] w fun e w' => e = .returned (.bool true) ∧ Below w.heap.size w w' := by
  have HC := hid (codeIn_of w0)
  clear w0
  by_cases hl0 : (1048576 : Int) < (len0 : Int)
  · go_enter Try.func5, Try.ntmps5
    go_wp2
    go_ret
    exact ⟨rfl, Below.refl _ _⟩
  · go_enter Try.func5, Try.ntmps5
    go_wp2_with fail
    refine (drawConicAt_any _ len0 _ HC.out).mono ?_
    rintro e d1 ⟨u, z, xs, vs, s, t, rfl, _, _, hs, ht, HO, HZo, hb⟩
    have HB1 := hid hb
    clear hb
    have X_1 := hid HO.out.rd
    have V_1 := hid HZo.out.rd
    have HAI := hid (fun (wx : World) (h1 : Rd wx u xs) (h2 : Rd wx z vs) => conicAt_any u z xs vs s t wx h1 h2)
    have HAS := hid (fun (wx : World) (h1 : Rd wx u xs) (h2 : Rd wx z vs) => conicAtS_any u z xs vs s t wx h1 h2)
    unfold OtherPost at HAI HAS
    have HLB := hid (fun (h : otherOk xs vs (headL vs s t) = true) => heading_back h)
    obtain ⟨L, hL⟩ : ∃ L, L = otherL xs vs (headL vs s t) := ⟨_, rfl⟩
    rw [← hL] at HAI HAS HLB
    have HLL : decide (L = L) = true := by simp
    clear hL
    cases hok : otherOk xs vs (headL vs s t) with
    | false =>
      rw [hok] at HAI HAS
      clear hok HLB
      go_wp2_with fail
      refine (HAI.out _ X_1.out V_1.out).mono ?_
      rintro e d2 ⟨y, rfl, ho, hb⟩
      have HB2 := hid (HB1.out.trans (hb.mono HB1.out.size))
      have X_2 := hid (X_1.out.keep hb)
      have V_2 := hid (V_1.out.keep hb)
      clear hb
      have Y_2 := hid ho.rd
      clear ho
      go_wp2_with fail
      refine (HAS.out _ X_2.out V_2.out).mono ?_
      rintro e d3 ⟨y2, rfl, ho, hb⟩
      have HB3 := hid (HB2.out.trans (hb.mono HB2.out.size))
      have X_3 := hid (X_2.out.keep hb)
      have V_3 := hid (V_2.out.keep hb)
      have Y_3 := hid (Y_2.out.keep hb)
      clear hb
      have W_3 := hid ho.rd
      clear ho
      go_wp2_with fail
      refine (sameInts_any _ _ L L _ Y_3.out W_3.out).mono ?_
      rintro e d4 ⟨rfl, k4, hk4⟩
      have hb : Below d3.heap.size d3 d4 := by rw [hk4]; exact below_drewN (Below.refl _ _) k4
      clear hk4
      have HB4 := hid (HB3.out.trans (hb.mono HB3.out.size))
      have X_4 := hid (X_3.out.keep hb)
      have V_4 := hid (V_3.out.keep hb)
      have Y_4 := hid (Y_3.out.keep hb)
      have W_4 := hid (W_3.out.keep hb)
      clear hb
      go_wp2_with fail
      refine (sameInts_any _ _ L L _ Y_4.out W_4.out).mono ?_
      rintro e d5 ⟨rfl, k5, hk5⟩
      have hb : Below d4.heap.size d4 d5 := by rw [hk5]; exact below_drewN (Below.refl _ _) k5
      clear hk5
      have HB5 := hid (HB4.out.trans (hb.mono HB4.out.size))
      have X_5 := hid (X_4.out.keep hb)
      have V_5 := hid (V_4.out.keep hb)
      have Y_5 := hid (Y_4.out.keep hb)
      have W_5 := hid (W_4.out.keep hb)
      clear hb
      go_wp2
      go_ret
      exact ⟨rfl, HB5.out⟩
    | true =>
      obtain ⟨p, q, hbk, e1, e2⟩ := HLB.out hok
      rw [hok] at HAI HAS
      have HBK := hid hbk
      have HG := hid (fun wx => gcd_any s t wx)
      rw [at_gcd hs ht] at HG
      have HSN := hid (@sign_neg s t)
      have HSP := hid (@sign_pos s t)
      have hbd := at_bd hs ht
      obtain ⟨D, hD⟩ : ∃ D : Int, D = ((gcdL [s, t] : Nat) : Int) := ⟨_, rfl⟩
      have hD0 : 0 ≤ D := by omega
      have hD1 : D ≤ 10 := by omega
      obtain ⟨S, hS⟩ : ∃ S : Int, S = signL [s, t] := ⟨_, rfl⟩
      rw [← hD] at HG e1 e2
      rw [← hS] at HSN HSP e1 e2
      have E1 := hid e1
      have E2 := hid e2
      obtain ⟨hs1, hs2⟩ := hs
      obtain ⟨ht1, ht2⟩ := ht
      clear hok HLB hbk hD hS e1 e2 hbd
      go_wp2_with fail
      refine (HAI.out _ X_1.out V_1.out).mono ?_
      rintro e d2 ⟨y, rfl, ho, hb⟩
      have HB2 := hid (HB1.out.trans (hb.mono HB1.out.size))
      have X_2 := hid (X_1.out.keep hb)
      have V_2 := hid (V_1.out.keep hb)
      clear hb
      have Y_2 := hid ho.rd
      clear ho
      go_wp2_with fail
      refine (HAS.out _ X_2.out V_2.out).mono ?_
      rintro e d3 ⟨y2, rfl, ho, hb⟩
      have HB3 := hid (HB2.out.trans (hb.mono HB2.out.size))
      have X_3 := hid (X_2.out.keep hb)
      have V_3 := hid (V_2.out.keep hb)
      have Y_3 := hid (Y_2.out.keep hb)
      clear hb
      have W_3 := hid ho.rd
      clear ho
      go_wp2_with fail
      refine (sameInts_any _ _ L L _ Y_3.out W_3.out).mono ?_
      rintro e d4 ⟨rfl, k4, hk4⟩
      have hb : Below d3.heap.size d3 d4 := by rw [hk4]; exact below_drewN (Below.refl _ _) k4
      clear hk4
      have HB4 := hid (HB3.out.trans (hb.mono HB3.out.size))
      have X_4 := hid (X_3.out.keep hb)
      have V_4 := hid (V_3.out.keep hb)
      have Y_4 := hid (Y_3.out.keep hb)
      have W_4 := hid (W_3.out.keep hb)
      clear hb
      go_wp2_with fail
      refine (conicBack_any _ _ _ xs vs L _ X_4.out V_4.out Y_4.out).mono ?_
      rw [HBK.out]
      rintro e d5 ⟨rfl, hb⟩
      have HB5 := hid (HB4.out.trans (hb.mono HB4.out.size))
      have X_5 := hid (X_4.out.keep hb)
      have V_5 := hid (V_4.out.keep hb)
      have Y_5 := hid (Y_4.out.keep hb)
      have W_5 := hid (W_4.out.keep hb)
      clear hb
      go_wp2_with fail
      refine (HG.out _).mono ?_
      rintro e dG ⟨rfl, kG, rfl⟩
      by_cases s0 : s < 0
      · skip
        have F1 : p * -D = s := by rw [E1.out, HSN.out (.inl s0)]; grind
        have F2 : q * -D = t := by rw [E2.out, HSN.out (.inl s0)]; grind
        have F3 : -(p * D) = s := by rw [← F1]; grind
        have F4 : -(q * D) = t := by rw [← F2]; grind
        go_wp2
        go_ret
        exact ⟨rfl, below_drewN HB5.out kG⟩
      · by_cases s1 : s = 0
        · have T0 : (s == 0) = true := by rw [beq_iff_eq]; exact s1
          by_cases t0 : t < 0
          · skip
            have F1 : p * -D = s := by rw [E1.out, HSN.out (.inr ⟨s1, t0⟩)]; grind
            have F2 : q * -D = t := by rw [E2.out, HSN.out (.inr ⟨s1, t0⟩)]; grind
            have F3 : -(p * D) = s := by rw [← F1]; grind
            have F4 : -(q * D) = t := by rw [← F2]; grind
            go_wp2
            go_ret
            exact ⟨rfl, below_drewN HB5.out kG⟩
          · skip
            have F1 : p * D = s := by rw [E1.out, HSP.out (by omega)]; grind
            have F2 : q * D = t := by rw [E2.out, HSP.out (by omega)]; grind
            go_wp2
            go_ret
            exact ⟨rfl, below_drewN HB5.out kG⟩
        · have T0 : (s == 0) = false := by rw [beq_eq_false_iff_ne]; exact s1
          have F1 : p * D = s := by rw [E1.out, HSP.out (by omega)]; grind
          have F2 : q * D = t := by rw [E2.out, HSP.out (by omega)]; grind
          go_wp2
          go_ret
          exact ⟨rfl, below_drewN HB5.out kG⟩
theorem own : ownKnob Try.prog.godebug = none := by kernel_rfl
theorem laidOut : laidOutB Try.prog = true := by kernel_rfl
set_option maxRecDepth 100000 in
theorem lifted (os : Os) (started : os.Started) (H : Type) (enc : TypeId × Value → H) :
    ReturnsInHanded {} Try.checked os 5 .any (Rows.fnAtSpec.pre6 enc Try.prog Try.f5 Rows.fnAtRow.domain false) (Rows.fnAtSpec.post enc Try.prog Try.f5 false true false false) := by
  refine returnsInHanded_of_change (C := Try.checked) own started (by kernel_rfl) Try.func5
    (ChangeSpec.witness6 (enc := enc) (C := Try.checked) false ⟨#[], #[.slice none 0 0], []⟩ 8 (by kernel_rfl) (by kernel_rfl) (by kernel_rfl) (by kernel_rfl)) ?_
  intro W base args ds gs before hval0 hW hcnd _
  have hval : ∀ (j : Nat) t v, Try.f5.params[j]? = some t → args[j]? = some v → Value.okWide Try.prog W .any base t v := hval0
  have hW' := hW
  obtain ⟨p, q, hA0, hV, rfl, hfz, hnd⟩ := hW
  have hA : DataW.TrodAll enc Try.prog W 0 (fun _ => true) true Try.f5.params.toList args.toList ds p := hA0
  rw [Try.params5] at hA hval
  obtain ⟨v0, vs0, d0, ds0, p0, q0, hargs, rfl, rfl, h0, r0⟩ := trodAll_cons hA
  obtain ⟨rfl, rfl, rfl⟩ := trodAll_nil r0
  obtain rfl : args = #[v0] := by cases args; simp_all
  obtain ⟨rfl, rfl⟩ := trodVars_none hV
  obtain ⟨a0, len0, cap0, rfl⟩ := okWide_slice Try.underlying22 (hval 0 22 v0 rfl rfl)
  have k0 := h0
  have lt0 : ∀ x ∈ p0, x.block < W.heap.size := by obtain ⟨m, hm⟩ := k0; exact DataW.trod_lt m _ _ _ hm
  obtain ⟨z0, w0⟩ : ∃ zs, IsRow .u8 W a0 len0 cap0 zs := by
    obtain ⟨fuel, hf⟩ := h0
    rcases open_ints Try.underlying22 Try.underlying5 (by kernel_rfl) hf with ⟨hcs, _⟩ | ⟨x, l, c, zs, hcs, _, hl, hm, hz, _, hcell, hwz⟩
    · simp [Value.cells] at hcs
      obtain ⟨rfl, rfl, rfl⟩ := hcs
      exact ⟨[], .inl ⟨rfl, rfl, rfl, rfl⟩⟩
    · simp [Value.cells] at hcs
      obtain ⟨rfl, rfl, rfl⟩ := hcs
      exact ⟨zs, .inr ⟨_, rfl, hl, hm, by simpa using hz, hcell, hwz⟩⟩
  clear hA0 hval0
  refine (walk a0 len0 cap0 z0 W w0).mono fun e W' ⟨he, bel⟩ => ?_
  subst he
  exact ⟨_, rfl, _, _, _, [], _, [], hW', trodAll_mk1 (shut_bool Try.underlying4 _), (trodAll_cons_mk (Below.trod laidOut (by kernel_rfl) (of_decide_eq_true (by kernel_rfl)) k0 bel lt0) trodAll_mk0), rfl, bel.frame _, fun h => by cases h⟩
theorem over : Rows.fnAtRow.holds Try.pinned (OpenSpec.ofChange Rows.fnAtSpec) :=
  OpenClaim.holds_of_wide 5 Try.f5 rfl rfl rfl rfl rfl rfl rfl ⟨rfl, rfl, rfl, rfl, rfl⟩ rfl rfl rfl rfl rfl (by kernel_rfl) Try.func5 (by kernel_rfl)
    (of_decide_eq_true (by kernel_rfl)) (by unfold Func.isWrapper; first | (rw [if_pos (by decide +kernel)]; kernel_rfl) | (rw [if_neg (by decide +kernel)]; exact ⟨rfl, rfl⟩))
    (fun os started H enc _ => lifted os started H enc)
theorem proved : Rows.FnAtSaid := over
end Go.Proofs.Ytfjbdbfeolfcfaa.fnAt
