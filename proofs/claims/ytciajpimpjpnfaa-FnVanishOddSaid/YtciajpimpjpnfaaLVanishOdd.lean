/-
  Proves: for every code: at a prime that divides no term a form of one term does not vanish, of two just where the opposite of their product is a residue, of more it does.
  Conditions: none beyond the given statement's own.
-/
import Derived.Test.YtciajpimpjpnfaaRows
import Derived.Test.YtciajpimpjpnfaaFmCore
import Derived.Test.YtciajpimpjpnfaaBun30
import Derived.Test.YtciajpimpjpnfaaImp4D
import Derived.ProofKit
import Derived.OpenShut
import Derived.ShutString
import Derived.ChangeOld
namespace Go.Proofs.Ytciajpimpjpnfaa.fnVanishOdd
open Go.ChangeShapes Go.WideShapes Go.ChangeAt Go.RowKit
open Go.ChangeMaps (open_string shut_string)
set_option linter.unusedVariables false
theorem odd_one {xs : List Int} {P : Nat} (h3 : 3 ≤ P) (hl : xs.length = 1) : fvanV xs (P : Int) = false := by
  unfold fvanV
  rw [van_one (by omega) hl]
  simp
theorem len_two : ∀ {xs : List Int}, xs.length = 2 → ∃ a b : Int, xs = [a, b]
  | [a, b], _ => ⟨a, b, rfl⟩
theorem neg_nd {P : Nat} {n : Int} (h : ¬ (P : Int) ∣ n) : ¬ (P : Int) ∣ -n := fun hd => h (Int.dvd_neg.1 hd)
theorem odd_two {a b : Int} {P : Nat} (hf : fvB [a, b] = true) (hP : primeN P = true) (h3 : 3 ≤ P) (hn : ¬ (P : Int) ∣ prodI [a, b]) : fvanV [a, b] (P : Int) = (resV (0 - a * b) (P : Int) == 1) := by
  have hq : plI (P : Int) = true := by unfold plI; rw [show primeI (P : Int) = true from hP, Bool.or_true]
  have hp : prodI [a, b] = a * b := by simp [prodI]
  obtain ⟨ha1, ha2, ha3⟩ := (fvB_iff.1 hf).1 a (by simp)
  obtain ⟨hb1, hb2, hb3⟩ := (fvB_iff.1 hf).1 b (by simp)
  have hab : (a * b).natAbs ≤ 30 * 30 := by rw [Int.natAbs_mul]; exact Nat.mul_le_mul (by omega) (by omega)
  rw [van_yes hf hq, van_two (by omega) rfl, hp]
  rw [hp] at hn
  have hr : resV (0 - a * b) (P : Int) = resN ((-(a * b)) % (P : Int)).toNat P := by
    rw [resV_yes (okN_iff.2 ⟨by omega, by omega⟩) (oddP_nat hP h3), Int.zero_sub, Int.toNat_natCast]
  rw [hr]
  unfold sqAt
  rw [cls_ndvd hP h3 (neg_nd hn)]
  rw [Bool.eq_iff_iff, beq_iff_eq, beq_iff_eq]
  constructor
  · intro h; exact congrArg Prod.snd h
  · intro h; rw [h]
theorem odd_more {xs : List Int} {P : Nat} (hf : fvB xs = true) (hP : primeN P = true) (h3 : 3 ≤ P) (hn : ¬ (P : Int) ∣ prodI xs) (hl : 3 ≤ xs.length) : fvanV xs (P : Int) = true := by
  have hq : plI (P : Int) = true := by unfold plI; rw [show primeI (P : Int) = true from hP, Bool.or_true]
  have h1 : ¬ (P : Int) ∣ (-1 : Int) := fun hd => by
    have := Int.le_of_dvd (by decide) (Int.dvd_neg.1 hd)
    omega
  have hu := hasC_units hP h3 (xs := xs) (fun x hx hd => hn (dvd_term hx hd))
  have h4 := (fvB_iff.1 hf).2.2
  rw [van_yes hf hq]
  have e : xs.length = 3 ∨ xs.length = 4 := by omega
  rcases e with e | e
  · rw [van_three (by omega) e, hasF_eq hq (fv_nz hf), hu, sym_units hP h3 h1 (neg_nd hn)]
    rfl
  · rw [van_four (by omega) e, hasF_eq hq (fv_nz hf), hu, sym_units hP h3 h1 h1]
    simp
set_option maxRecDepth 100000 in
set_option maxHeartbeats 4000000 in
theorem walk  (a0 : Option Addr) (len0 cap0 : Nat) (z0 : List Int) (w : World) (w0 : IsRow .u8 w a0 len0 cap0 z0) :
    Calls Try.prog 10 #[.slice a0 len0 cap0] w fun e w' => e = .returned (.bool true) ∧ Below w.heap.size w w' := by
  have HC := hid (codeIn_of w0)
  clear w0
  by_cases hl0 : (1048576 : Int) < (len0 : Int)
  · go_enter Try.func10, Try.ntmps10
    go_wp2
    go_ret
    exact ⟨rfl, Below.refl _ _⟩
  · go_enter Try.func10, Try.ntmps10
    go_wp2_with fail
    refine (drawFormVanishes_any _ len0 _ HC.out).mono ?_
    rintro e d1 ⟨u, xs, y, rfl, hat, HXo, hb0⟩
    have HB1 := hid hb0
    clear hb0
    have hxl := hat.1.1
    clear hat
    go_wp2_with fail
    refine (formVanishes_any u xs y _ HXo.out.rd (by omega)).mono ?_
    rintro e d2 ⟨rfl, hb2⟩
    have HB2 := hid (HB1.out.trans (hb2.mono HB1.out.size))
    have X_2 := hid (HXo.out.keep HXo.out.lt hb2)
    clear hb2
    go_wp2_with fail
    refine (formVanishesS_any u xs y _ X_2.out.rd).mono ?_
    rintro e d3 ⟨rfl, k3, hw3⟩
    have hb3 : Below d2.heap.size d2 d3 := by rw [hw3]; exact below_dn (Below.refl _ _)
    have HB3 := hid (HB2.out.trans (hb3.mono HB2.out.size))
    have X_3 := hid (X_2.out.keep X_2.out.lt hb3)
    clear hw3 hb3
    have HPN := fpl_len xs
    obtain ⟨B, hB⟩ : ∃ B, B = fvanV xs y := ⟨_, rfl⟩
    rw [← hB]
    have HBB := hid hB.symm
    clear hB
    go_wp2_with fail
    refine (formPlaces_any u xs _ X_3.out.rd (by omega)).mono ?_
    rintro e d4 ⟨P_o, rfl, hO4, hb4⟩
    have HB4 := hid (HB3.out.trans (hb4.mono HB3.out.size))
    have X_4 := hid (X_3.out.keep X_3.out.lt hb4)
    have P_4 := hid hO4
    clear hO4
    clear hb4
    cases hf : fvB xs with
    | false =>
      rw [show fplL xs = [] by unfold fplL; rw [hf]; rfl] at P_4
      obtain ⟨pa, pcap, rfl, _⟩ := (P_4.out.rd).form
      go_wp2
      go_ret
      exact ⟨rfl, HB4.out⟩
    | true =>
      have hp2 : 2 ≤ (fplL xs).length := by
        unfold fplL placesG
        rw [hf]
        simp
      obtain ⟨pa, pcap, hpe, _⟩ := (P_4.out.rd).form
      by_cases hy3 : y < 3
      · subst hpe
        have T0 : (((fplL xs).length : Int) == 0) = false := by rw [beq_eq_false_iff_ne]; omega
        go_wp2
        go_ret
        exact ⟨rfl, HB4.out⟩
      · cases hpr : primeI y with
        | false =>
          subst hpe
          have T0 : (((fplL xs).length : Int) == 0) = false := by rw [beq_eq_false_iff_ne]; omega
          have HPR := hid hpr
          clear hpr
          go_wp2_with fail
          refine (primeIs_any y _).mono ?_
          rw [HPR.out]
          rintro e d5 ⟨rfl, hb5⟩
          have HB5 := hid (HB4.out.trans (hb5.mono HB4.out.size))
          have X_5 := hid (X_4.out.keep X_4.out.lt hb5)
          have P_5 := hid (P_4.out.keep P_4.out.lt hb5)
          clear hb5
          go_wp2
          go_ret
          exact ⟨rfl, HB5.out⟩
        | true =>
          cases hin : decide (y ∈ fplL xs) with
          | true =>
            subst hpe
            have T0 : (((fplL xs).length : Int) == 0) = false := by rw [beq_eq_false_iff_ne]; omega
            have HPR := hid hpr
            have HIN := hid hin
            clear hpr hin
            go_wp2_with fail
            refine (primeIs_any y _).mono ?_
            rw [HPR.out]
            rintro e d5 ⟨rfl, hb5⟩
            have HB5 := hid (HB4.out.trans (hb5.mono HB4.out.size))
            have X_5 := hid (X_4.out.keep X_4.out.lt hb5)
            have P_5 := hid (P_4.out.keep P_4.out.lt hb5)
            clear hb5
            go_wp2_with fail
            refine (hasInt_any _ _ y _ P_5.out.rd).mono ?_
            rw [HIN.out]
            rintro e d6 ⟨rfl, rfl⟩
            go_wp2
            go_ret
            exact ⟨rfl, HB5.out⟩
          | false =>
            obtain ⟨P, rfl⟩ := Int.eq_ofNat_of_zero_le (show 0 ≤ y by omega)
            have hP : primeN P = true := hpr
            have h3 : 3 ≤ P := by omega
            have hnd : ¬ (P : Int) ∣ prodI xs := by
              have hq : plI (P : Int) = true := by unfold plI; rw [hpr, Bool.or_true]
              obtain ⟨P2, e, _, _, h⟩ := away_units (prod_full hf).1 hq (by
                have := of_decide_eq_false hin
                unfold fplL at this
                rw [hf] at this
                exact this)
              rw [e]
              exact h
            have H1 : Hid (xs.length = 1 → B = false) := hid (fun h => by rw [← HBB.out]; exact odd_one h3 h)
            have H2 : Hid (∀ a b : Int, xs = [a, b] → B = (resV (0 - a * b) (P : Int) == 1)) := hid (fun a b h => by
              subst h
              rw [← HBB.out]
              exact odd_two hf hP h3 hnd)
            have H3 : Hid (3 ≤ xs.length → B = true) := hid (fun h => by rw [← HBB.out]; exact odd_more hf hP h3 hnd h)
            have HFL := hid (fvB_iff.1 hf).2.1
            have HFT := hid (fvB_iff.1 hf).1
            subst hpe
            have T0 : (((fplL xs).length : Int) == 0) = false := by rw [beq_eq_false_iff_ne]; omega
            have HPR := hid hpr
            have HIN := hid hin
            clear hpr hin hnd hf
            go_wp2_with fail
            refine (primeIs_any (P : Int) _).mono ?_
            rw [HPR.out]
            rintro e d5 ⟨rfl, hb5⟩
            have HB5 := hid (HB4.out.trans (hb5.mono HB4.out.size))
            have X_5 := hid (X_4.out.keep X_4.out.lt hb5)
            have P_5 := hid (P_4.out.keep P_4.out.lt hb5)
            clear hb5
            go_wp2_with fail
            refine (hasInt_any _ _ (P : Int) _ P_5.out.rd).mono ?_
            rw [HIN.out]
            rintro e d6 ⟨rfl, rfl⟩
            obtain ⟨ua, ucap, hue, huf⟩ := (X_5.out.rd).form
            by_cases hl1 : xs.length = 1
            · obtain rfl := H1.out hl1
              have TL : ((xs.length : Int) == 1) = true := by rw [beq_iff_eq]; omega
              subst hue
              clear hl1 huf
              go_wp2
              go_ret
              exact ⟨rfl, HB5.out⟩
            · have TL : ((xs.length : Int) == 1) = false := by rw [beq_eq_false_iff_ne]; omega
              by_cases hl2 : xs.length = 2
              · obtain ⟨a, b, rfl⟩ := len_two hl2
                have HR := hid (H2.out a b rfl)
                obtain ⟨ha1, ha2, ha3⟩ := HFT.out a (by simp)
                obtain ⟨hb1, hb2, hb3⟩ := HFT.out b (by simp)
                obtain ⟨bb, o, rfl, hml, hc⟩ := huf (by simp)
                subst hue
                have d0 := hc 0 (by simp)
                have d1 := hc 1 (by simp)
                simp only [List.getD_cons_zero, List.getD_cons_succ, Nat.add_zero] at d0 d1
                obtain ⟨r, hr⟩ : ∃ r, r = resV (0 - a * b) (P : Int) := ⟨_, rfl⟩
                rw [← hr] at HR
                have HRR := hid hr.symm
                have hab : (a * b).natAbs ≤ 30 * 30 := by rw [Int.natAbs_mul]; exact Nat.mul_le_mul (by omega) (by omega)
                have hab1 : -900 ≤ a * b := by omega
                have hab2 : a * b ≤ 900 := by omega
                have HRW : Hid (resV (IntKind.i64.wrap (-IntKind.i64.wrap (a * b))) (P : Int) = r) := hid (by rw [IntWalk.i64_in (a * b) (by omega), IntWalk.i64_in (-(a * b)) (by omega), ← Int.zero_sub]; exact hr.symm)
                obtain rfl := HR.out
                have TB : ((r == 1) == (r == 1)) = true := by simp
                have TL2 : (((2 : Nat) : Int) == 1) = false := by decide
                have hBr : Below d5.heap.size d5 d5 := Below.refl _ _
                clear hl1 hl2 huf hc hr
                go_wp2_with fail
                go_region_held3 (fun wx => Below d5.heap.size d5 wx ∧ wx.cell? ⟨bb, o, none⟩ = some (.int .i64 a) ∧ wx.cell? ⟨bb, o + 1, none⟩ = some (.int .i64 b)) (first | exact ⟨hb2.out, c2⟩ | exact ⟨hBr.drew, d0, d1⟩)
                  (first | (go_at_call 50; refine (residueIs_any _ _ _).mono ?_; (first | rw [HRW.out] | rw [HRR.out]); rintro e w' ⟨rfl, hbq⟩; have hb2 := hid (hBr.trans ((below_of_drew hbq).mono hBr.size)); have c2 := And.intro ((hb2.out.cell (p := ⟨bb, o, none⟩) (X_5.out.lt bb rfl)).trans d0) ((hb2.out.cell (p := ⟨bb, o + 1, none⟩) (X_5.out.lt bb rfl)).trans d1)))
                go_wp2
                go_ret
                exact ⟨rfl, HB5.out.trans (hb2.out.mono HB5.out.size)⟩
              · obtain rfl := H3.out (by have := HFL.out; omega)
                have TL2 : ((xs.length : Int) == 2) = false := by rw [beq_eq_false_iff_ne]; omega
                subst hue
                clear hl1 hl2 huf
                go_wp2
                go_ret
                exact ⟨rfl, HB5.out⟩
theorem own : ownKnob Try.prog.godebug = none := by kernel_rfl
theorem laidOut : laidOutB Try.prog = true := by kernel_rfl
set_option maxRecDepth 100000 in
theorem lifted (os : Os) (started : os.Started) (H : Type) (enc : TypeId × Value → H) :
    ReturnsInHanded {} Try.checked os 10 .any (Rows.fnVanishOddSpec.pre6 enc Try.prog Try.f10 Rows.fnVanishOddRow.domain false) (Rows.fnVanishOddSpec.post enc Try.prog Try.f10 false true false false) := by
  refine returnsInHanded_of_change (C := Try.checked) own started (by kernel_rfl) Try.func10
    (ChangeSpec.witness6 (enc := enc) (C := Try.checked) false ⟨#[], #[.slice none 0 0], []⟩ 8 (by kernel_rfl) (by kernel_rfl) (by kernel_rfl) (by kernel_rfl)) ?_
  intro W base args ds gs before hval0 hW hcnd _
  have hval : ∀ (j : Nat) t v, Try.f10.params[j]? = some t → args[j]? = some v → Value.okWide Try.prog W .any base t v := hval0
  have hW' := hW
  obtain ⟨p, q, hA0, hV, rfl, hfz, hnd⟩ := hW
  have hA : DataW.TrodAll enc Try.prog W 0 (fun _ => true) true Try.f10.params.toList args.toList ds p := hA0
  rw [Try.params10] at hA hval
  obtain ⟨v0, vs0, d0, ds0, p0, q0, hargs, rfl, rfl, h0, r0⟩ := trodAll_cons hA
  obtain ⟨rfl, rfl, rfl⟩ := trodAll_nil r0
  obtain rfl : args = #[v0] := by cases args; simp_all
  obtain ⟨rfl, rfl⟩ := trodVars_none hV
  obtain ⟨a0, len0, cap0, rfl⟩ := okWide_slice Try.underlying22 (hval 0 22 v0 rfl rfl)
  have k0 := h0
  have lt0 : ∀ x ∈ p0, x.block < W.heap.size := by obtain ⟨m, hm⟩ := k0; exact DataW.trod_lt m _ _ _ hm
  obtain ⟨z0, w0⟩ : ∃ zs, IsRow .u8 W a0 len0 cap0 zs := by
    obtain ⟨fuel, hf⟩ := h0
    rcases open_ints Try.underlying22 Try.underlying5 (by kernel_rfl) hf with ⟨hcs, _⟩ | ⟨x, l, c, zs, hcs, _, hl, hm, hz, _, hcell, hwz⟩
    · simp [Value.cells] at hcs
      obtain ⟨rfl, rfl, rfl⟩ := hcs
      exact ⟨[], .inl ⟨rfl, rfl, rfl, rfl⟩⟩
    · simp [Value.cells] at hcs
      obtain ⟨rfl, rfl, rfl⟩ := hcs
      exact ⟨zs, .inr ⟨_, rfl, hl, hm, by simpa using hz, hcell, hwz⟩⟩
  clear hA0 hval0
  refine (walk a0 len0 cap0 z0 W w0).mono fun e W' ⟨he, bel⟩ => ?_
  subst he
  exact ⟨_, rfl, _, _, _, [], _, [], hW', trodAll_mk1 (shut_bool Try.underlying4 _), (trodAll_cons_mk (Below.trod laidOut (by kernel_rfl) (of_decide_eq_true (by kernel_rfl)) k0 bel lt0) trodAll_mk0), rfl, bel.frame _, fun h => by cases h⟩
theorem over : Rows.fnVanishOddRow.holds Try.pinned (OpenSpec.ofChange Rows.fnVanishOddSpec) :=
  OpenClaim.holds_of_wide 10 Try.f10 rfl rfl rfl rfl rfl rfl rfl ⟨rfl, rfl, rfl, rfl, rfl⟩ rfl rfl rfl rfl rfl (by kernel_rfl) Try.func10 (by kernel_rfl)
    (of_decide_eq_true (by kernel_rfl)) (by unfold Func.isWrapper; first | (rw [if_pos (by decide +kernel)]; kernel_rfl) | (rw [if_neg (by decide +kernel)]; exact ⟨rfl, rfl⟩))
    (fun os started H enc _ => lifted os started H enc)
theorem proved : Rows.FnVanishOddSaid := over
end Go.Proofs.Ytciajpimpjpnfaa.fnVanishOdd
