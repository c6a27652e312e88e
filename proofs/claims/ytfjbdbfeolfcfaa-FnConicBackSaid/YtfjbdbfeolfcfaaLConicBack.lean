/-
  Proves: for every code: a zero is met by the heading that ConicBack tells, which is plain.
  Conditions: none beyond the given statement's own.
-/
import Derived.Test.YtfjbdbfeolfcfaaRows
import Derived.Test.YtfjbdbfeolfcfaaQBun18
import Derived.Test.YtfjbdbfeolfcfaaQBun30
import Derived.Test.YtfjbdbfeolfcfaaQBun27
import Derived.Test.YtfjbdbfeolfcfaaQBun47
import Derived.ProofKit
import Derived.OpenShut
import Derived.ShutString
import Derived.ChangeOld
namespace Go.Proofs.Ytfjbdbfeolfcfaa.fnConicBack
open Go.ChangeShapes Go.WideShapes Go.ChangeAt Go.RowKit
open Go.ChangeMaps (open_string shut_string)
set_option linter.unusedVariables false
theorem head_gcd {s t : Int} (h : headB s t = true) : Nat.gcd s.natAbs t.natAbs = 1 := by
  obtain ⟨h1, h2⟩ := headB_iff.1 h
  have hb := plain_back [s, t]
  rw [h2] at hb
  simp only [List.map_cons, List.map_nil, List.cons.injEq, and_true] at hb
  have hg : gcdL [s, t] = Nat.gcd s.natAbs t.natAbs := by
    show Nat.gcd (Nat.gcd 0 s.natAbs) t.natAbs = _
    rw [Nat.gcd_zero_left]
  obtain ⟨k, hk⟩ : ∃ k, k = signL [s, t] * (gcdL [s, t] : Int) := ⟨_, rfl⟩
  rw [← hk] at hb
  have k1 : k = 1 := by
    by_cases hs : s = 0
    · have ht : t ≠ 0 := fun e => h1 ⟨hs, e⟩
      have := ne_cancel (a := t) (b := k - 1) (by grind) ht
      omega
    · have := ne_cancel (a := s) (b := k - 1) (by grind) hs
      omega
  rw [← hg]
  rcases signL_pm [s, t] with e | e <;> rw [e] at hk <;> omega
theorem gcd_low {s t : Int} (h : headB s t = true) : gcdV s t ≤ 1 := by
  unfold gcdV
  rw [head_gcd h]
  split <;> decide
set_option maxRecDepth 100000 in
set_option maxHeartbeats 4000000 in
theorem walk (a0 : Option Addr) (len0 cap0 : Nat) (z0 : List Int) (w : World) (w0 : IsRow .u8 w a0 len0 cap0 z0) :
    Calls Try.prog 6 #[.slice a0 len0 cap0] w fun e w' => e = .returned (.bool true) ∧ Below w.heap.size w w' := by
  have HC := hid (codeIn_of w0)
  clear w0
  by_cases hl0 : (1048576 : Int) < (len0 : Int)
  · go_enter Try.func6, Try.ntmps6
    go_wp2
    go_ret
    exact ⟨rfl, Below.refl _ _⟩
  · go_enter Try.func6, Try.ntmps6
    go_wp2_with fail
    refine (drawConicBack_any _ len0 _ HC.out).mono ?_
    rintro e d1 ⟨u, z, y, xs, vs, zs, rfl, _, _, _, HO, HZo, HYo, hb⟩
    have HB1 := hid hb
    clear hb
    have X_1 := hid HO.out.rd
    have V_1 := hid HZo.out.rd
    have Z_1 := hid HYo.out.rd
    have HBI := hid (fun (wx : World) (h1 : Rd wx u xs) (h2 : Rd wx z vs) (h3 : Rd wx y zs) => conicBack_any u z y xs vs zs wx h1 h2 h3)
    have HBS := hid (fun (wx : World) (h1 : Rd wx u xs) (h2 : Rd wx z vs) (h3 : Rd wx y zs) => conicBackS_any u z y xs vs zs wx h1 h2 h3)
    cases hp : backOk xs vs zs with
    | false =>
      rw [backV_no hp] at HBI HBS
      clear hp
      go_wp2_with fail
      refine (HBI.out _ X_1.out V_1.out Z_1.out).mono ?_
      rintro e d2 ⟨rfl, hb⟩
      have HB2 := hid (HB1.out.trans (hb.mono HB1.out.size))
      have X_2 := hid (X_1.out.keep hb)
      have V_2 := hid (V_1.out.keep hb)
      have Z_2 := hid (Z_1.out.keep hb)
      clear hb
      go_wp2_with fail
      refine (HBS.out _ X_2.out V_2.out Z_2.out).mono ?_
      rintro e d3 ⟨rfl, hb⟩
      have HB3 := hid (HB2.out.trans (hb.mono HB2.out.size))
      have X_3 := hid (X_2.out.keep hb)
      have V_3 := hid (V_2.out.keep hb)
      have Z_3 := hid (Z_2.out.keep hb)
      clear hb
      go_wp2
      go_ret
      exact ⟨rfl, HB3.out⟩
    | true =>
      obtain ⟨s, t, hbk, hB, hL, hz⟩ := zero_back hp
      rw [hbk] at HBI HBS
      have HZ := hid hz
      have HZP : Hid (zplainL xs zs = plainL zs) := hid (by unfold zplainL; rw [hz, if_pos rfl])
      obtain ⟨hs0, ht0⟩ := headB_pos hB
      have hgl := gcd_low hB
      have HG := hid (fun wx => gcd_any s t wx)
      obtain ⟨gv, hgv⟩ : ∃ gv, gv = gcdV s t := ⟨_, rfl⟩
      rw [← hgv] at HG hgl
      have HT0 := hid ht0
      obtain ⟨PL, hPL⟩ : ∃ PL, PL = plainL zs := ⟨_, rfl⟩
      rw [← hPL] at HZP
      have HLL : Hid (otherOk xs vs (headL vs s t) = true → otherL xs vs (headL vs s t) = PL) := hid (fun h => by rw [hPL]; exact hL h)
      have HPP : decide (PL = PL) = true := by simp
      clear hp hbk hB hL hz hgv ht0 hPL
      go_wp2_with fail
      refine (HBI.out _ X_1.out V_1.out Z_1.out).mono ?_
      rintro e d2 ⟨rfl, hb⟩
      have HB2 := hid (HB1.out.trans (hb.mono HB1.out.size))
      have X_2 := hid (X_1.out.keep hb)
      have V_2 := hid (V_1.out.keep hb)
      have Z_2 := hid (Z_1.out.keep hb)
      clear hb
      go_wp2_with fail
      refine (HBS.out _ X_2.out V_2.out Z_2.out).mono ?_
      rintro e d3 ⟨rfl, hb⟩
      have HB3 := hid (HB2.out.trans (hb.mono HB2.out.size))
      have X_3 := hid (X_2.out.keep hb)
      have V_3 := hid (V_2.out.keep hb)
      have Z_3 := hid (Z_2.out.keep hb)
      clear hb
      cases hok : otherOk xs vs (headL vs s t) with
      | false =>
        have HOK := hid hok
        clear hok
        go_wp2_with fail
        refine (conicAt_any _ _ xs vs s t _ X_3.out V_3.out).mono ?_
        unfold OtherPost
        rw [HOK.out]
        rintro e d4 ⟨q, rfl, ho, hb⟩
        have HB4 := hid (HB3.out.trans (hb.mono HB3.out.size))
        have X_4 := hid (X_3.out.keep hb)
        have V_4 := hid (V_3.out.keep hb)
        have Z_4 := hid (Z_3.out.keep hb)
        clear hb
        have Y_4 := hid ho.rd
        clear ho
        go_wp2_with fail
        refine (zeroPlain_any _ _ xs zs _ X_4.out Z_4.out).mono ?_
        rw [HZ.out, HZP.out]
        rintro e d5 ⟨q2, rfl, ho, hb⟩
        have HB5 := hid (HB4.out.trans (hb.mono HB4.out.size))
        have X_5 := hid (X_4.out.keep hb)
        have V_5 := hid (V_4.out.keep hb)
        have Z_5 := hid (Z_4.out.keep hb)
        have Y_5 := hid (Y_4.out.keep hb)
        clear hb
        have Q_5 := hid ho.rd
        clear ho
        by_cases s0 : s = 0
        · have T0 := HT0.out s0
          subst s0
          go_wp2_with fail
          refine (HG.out _).mono ?_
          rintro e dG ⟨rfl, kG, rfl⟩
          go_wp2
          go_ret
          exact ⟨rfl, below_drewN HB5.out kG⟩
        · have T0 : 0 < s := by omega
          clear s0
          go_wp2_with fail
          refine (HG.out _).mono ?_
          rintro e dG ⟨rfl, kG, rfl⟩
          go_wp2
          go_ret
          exact ⟨rfl, below_drewN HB5.out kG⟩
      | true =>
        have HOK := hid hok
        have HL := hid (HLL.out hok)
        clear hok
        go_wp2_with fail
        refine (conicAt_any _ _ xs vs s t _ X_3.out V_3.out).mono ?_
        unfold OtherPost
        rw [HOK.out]
        rw [HL.out]
        rintro e d4 ⟨q, rfl, ho, hb⟩
        have HB4 := hid (HB3.out.trans (hb.mono HB3.out.size))
        have X_4 := hid (X_3.out.keep hb)
        have V_4 := hid (V_3.out.keep hb)
        have Z_4 := hid (Z_3.out.keep hb)
        clear hb
        have Y_4 := hid ho.rd
        clear ho
        go_wp2_with fail
        refine (zeroPlain_any _ _ xs zs _ X_4.out Z_4.out).mono ?_
        rw [HZ.out, HZP.out]
        rintro e d5 ⟨q2, rfl, ho, hb⟩
        have HB5 := hid (HB4.out.trans (hb.mono HB4.out.size))
        have X_5 := hid (X_4.out.keep hb)
        have V_5 := hid (V_4.out.keep hb)
        have Z_5 := hid (Z_4.out.keep hb)
        have Y_5 := hid (Y_4.out.keep hb)
        clear hb
        have Q_5 := hid ho.rd
        clear ho
        go_wp2_with fail
        refine (sameInts_any _ _ PL PL _ Y_5.out Q_5.out).mono ?_
        rintro e d6 ⟨rfl, k6, hk6⟩
        have hb : Below d5.heap.size d5 d6 := by rw [hk6]; exact below_drewN (Below.refl _ _) k6
        clear hk6
        have HB6 := hid (HB5.out.trans (hb.mono HB5.out.size))
        have X_6 := hid (X_5.out.keep hb)
        have V_6 := hid (V_5.out.keep hb)
        have Z_6 := hid (Z_5.out.keep hb)
        have Y_6 := hid (Y_5.out.keep hb)
        have Q_6 := hid (Q_5.out.keep hb)
        clear hb
        by_cases s0 : s = 0
        · have T0 := HT0.out s0
          subst s0
          go_wp2_with fail
          refine (HG.out _).mono ?_
          rintro e dG ⟨rfl, kG, rfl⟩
          go_wp2
          go_ret
          exact ⟨rfl, below_drewN HB6.out kG⟩
        · have T0 : 0 < s := by omega
          clear s0
          go_wp2_with fail
          refine (HG.out _).mono ?_
          rintro e dG ⟨rfl, kG, rfl⟩
          go_wp2
          go_ret
          exact ⟨rfl, below_drewN HB6.out kG⟩
theorem own : ownKnob Try.prog.godebug = none := by kernel_rfl
theorem laidOut : laidOutB Try.prog = true := by kernel_rfl
set_option maxRecDepth 100000 in
theorem lifted (os : Os) (started : os.Started) (H : Type) (enc : TypeId × Value → H) :
    ReturnsInHanded {} Try.checked os 6 .any (Rows.fnConicBackSpec.pre6 enc Try.prog Try.f6 Rows.fnConicBackRow.domain false) (Rows.fnConicBackSpec.post enc Try.prog Try.f6 false true false false) := by
  refine returnsInHanded_of_change (C := Try.checked) own started (by kernel_rfl) Try.func6
    (ChangeSpec.witness6 (enc := enc) (C := Try.checked) false ⟨#[], #[.slice none 0 0], []⟩ 8 (by kernel_rfl) (by kernel_rfl) (by kernel_rfl) (by kernel_rfl)) ?_
  intro W base args ds gs before hval0 hW hcnd _
  have hval : ∀ (j : Nat) t v, Try.f6.params[j]? = some t → args[j]? = some v → Value.okWide Try.prog W .any base t v := hval0
  have hW' := hW
  obtain ⟨p, q, hA0, hV, rfl, hfz, hnd⟩ := hW
  have hA : DataW.TrodAll enc Try.prog W 0 (fun _ => true) true Try.f6.params.toList args.toList ds p := hA0
  rw [Try.params6] at hA hval
  obtain ⟨v0, vs0, d0, ds0, p0, q0, hargs, rfl, rfl, h0, r0⟩ := trodAll_cons hA
  obtain ⟨rfl, rfl, rfl⟩ := trodAll_nil r0
  obtain rfl : args = #[v0] := by cases args; simp_all
  obtain ⟨rfl, rfl⟩ := trodVars_none hV
  obtain ⟨a0, len0, cap0, rfl⟩ := okWide_slice Try.underlying22 (hval 0 22 v0 rfl rfl)
  have k0 := h0
  have lt0 : ∀ x ∈ p0, x.block < W.heap.size := by obtain ⟨m, hm⟩ := k0; exact DataW.trod_lt m _ _ _ hm
  obtain ⟨z0, w0⟩ : ∃ zs, IsRow .u8 W a0 len0 cap0 zs := by
    obtain ⟨fuel, hf⟩ := h0
    rcases open_ints Try.underlying22 Try.underlying5 (by kernel_rfl) hf with ⟨hcs, _⟩ | ⟨x, l, c, zs, hcs, _, hl, hm, hz, _, hcell, hwz⟩
    · simp [Value.cells] at hcs
      obtain ⟨rfl, rfl, rfl⟩ := hcs
      exact ⟨[], .inl ⟨rfl, rfl, rfl, rfl⟩⟩
    · simp [Value.cells] at hcs
      obtain ⟨rfl, rfl, rfl⟩ := hcs
      exact ⟨zs, .inr ⟨_, rfl, hl, hm, by simpa using hz, hcell, hwz⟩⟩
  clear hA0 hval0
  refine (walk a0 len0 cap0 z0 W w0).mono fun e W' ⟨he, bel⟩ => ?_
  subst he
  exact ⟨_, rfl, _, _, _, [], _, [], hW', trodAll_mk1 (shut_bool Try.underlying4 _), (trodAll_cons_mk (Below.trod laidOut (by kernel_rfl) (of_decide_eq_true (by kernel_rfl)) k0 bel lt0) trodAll_mk0), rfl, bel.frame _, fun h => by cases h⟩
theorem over : Rows.fnConicBackRow.holds Try.pinned (OpenSpec.ofChange Rows.fnConicBackSpec) :=
  OpenClaim.holds_of_wide 6 Try.f6 rfl rfl rfl rfl rfl rfl rfl ⟨rfl, rfl, rfl, rfl, rfl⟩ rfl rfl rfl rfl rfl (by kernel_rfl) Try.func6 (by kernel_rfl)
    (of_decide_eq_true (by kernel_rfl)) (by unfold Func.isWrapper; first | (rw [if_pos (by decide +kernel)]; kernel_rfl) | (rw [if_neg (by decide +kernel)]; exact ⟨rfl, rfl⟩))
    (fun os started H enc _ => lifted os started H enc)
theorem proved : Rows.FnConicBackSaid := over
end Go.Proofs.Ytfjbdbfeolfcfaa.fnConicBack
