/-
  Proves: for every two codes: a form that vanishes at a place does so longer, with its cores, its opposites and multiplied.
  Conditions: none beyond the given statement's own.
-/
import Derived.Test.YtciajpimpjpnfaaRows
import Derived.Test.YtciajpimpjpnfaaFmCore
import Derived.Test.YtciajpimpjpnfaaImp4D
import Derived.Test.YtciajpimpjpnfaaImp4F
import Derived.Test.YtciajpimpjpnfaaImp4G
import Derived.ProofKit
import Derived.OpenShut
import Derived.ShutString
import Derived.ChangeOld
namespace Go.Proofs.Ytciajpimpjpnfaa.fnVanishes
open Go.ChangeShapes Go.WideShapes Go.ChangeAt Go.RowKit
open Go.ChangeMaps (open_string shut_string)
set_option linter.unusedVariables false
theorem neg_map (xs : List Int) : xs.map (fun x => -x) = xs.map ((-1) * ·) := List.map_congr_left fun x _ => by simp
theorem fv_neg' {xs : List Int} (h : fvB xs = true) : fvB (xs.map (fun x => -x)) = true := fv_neg h
theorem van_neg {xs : List Int} (h : fvB xs = true) (q : Int) : fvanV (xs.map (fun x => -x)) q = fvanV xs q := by
  cases hq : plI q with
  | false => rw [van_no hq, van_no hq]
  | true =>
    obtain ⟨h1, h2, h3⟩ := fvB_iff.1 h
    rw [van_yes h hq, van_yes (fv_neg h) hq, neg_map]
    exact van_scale hq (by decide) (fv_nz h) h2 h3
theorem van_join {xs : List Int} {t q : Int} (h : fvanV xs q = true) (hj : joinOk xs [t] = true) : fvanV (joinL xs [t]) q = true := by
  obtain ⟨h1, h2, h3, h4⟩ := join_yes hj
  have hv := h
  unfold fvanV at hv
  rw [Bool.and_eq_true, Bool.and_eq_true] at hv
  rw [h4, van_yes h3 hv.2.1]
  obtain ⟨_, a2, _⟩ := fvB_iff.1 h1
  obtain ⟨b1, _, b3⟩ := fvB_iff.1 h3
  rw [List.length_append] at b3
  exact van_longer hv.2.1 ((b1 t (by simp)).1) (fv_nz h1) a2 (by simp at b3; omega) hv.2.2

set_option maxRecDepth 100000 in
set_option maxHeartbeats 4000000 in
theorem walk  (a0 : Option Addr) (len0 cap0 : Nat) (z0 : List Int) (a1 : Option Addr) (len1 cap1 : Nat) (z1 : List Int) (w : World) (w0 : IsRow .u8 w a0 len0 cap0 z0) (w1 : IsRow .u8 w a1 len1 cap1 z1) :
    Calls Try.prog 9 #[.slice a0 len0 cap0, .slice a1 len1 cap1] w fun e w' => e = .returned (.bool true) ∧ Below w.heap.size w w' := by
  have HC := hid (codeIn_of w0)
  clear w0 w1
  by_cases hl : (1048576 : Int) < (len0 : Int)
  · go_enter Try.func9, Try.ntmps9
    go_wp2
    go_ret
    exact ⟨rfl, Below.refl _ _⟩
  by_cases hl1 : (1048576 : Int) < (len1 : Int)
  · go_enter Try.func9, Try.ntmps9
    go_wp2
    go_ret
    exact ⟨rfl, Below.refl _ _⟩
  · go_enter Try.func9, Try.ntmps9
    go_wp2_with fail
    refine (drawFormVanishes_any _ len0 _ HC.out).mono ?_
    rintro e w1 ⟨u, xs, y, rfl, hat, HO, hb⟩
    have HT := hid hat.1
    have hxl := hat.1.1
    have hfu := HO.out.firm
    have HRX := hid HO.out.rd
    have HFU := hid hfu
    have HBa := hid hb
    clear hfu HO hb hat
    go_wp2_with fail
    refine (formVanishes_any u xs y _ HRX.out (by omega)).mono ?_
    rintro e w2 ⟨rfl, hb2⟩
    have HB2 := hid (HBa.out.trans (hb2.mono HBa.out.size))
    have HX2 := hid (HRX.out.keep hb2)
    clear hb2
    go_wp2_with fail
    refine (formVanishesS_any u xs y _ HX2.out).mono ?_
    rintro e w3 ⟨rfl, k3, hw3⟩
    have HB3 : Hid (Below w.heap.size w w3) := hid (by rw [hw3]; exact below_dn HB2.out)
    have HX3 : Hid (Rd w3 u xs) := hid (by rw [hw3]; exact HX2.out.keep (below_dn (Below.refl _ _)))
    clear hw3
    cases hv : fvanV xs y with
    | false =>
      go_wp2
      go_ret
      exact ⟨rfl, HB3.out⟩
    | true =>
      have HV := hid hv
      have hf : fvB xs = true := by unfold fvanV at hv; rw [Bool.and_eq_true] at hv; exact hv.1
      have HF := hid hf
      have HCL : Hid (fcoresL xs = xs.map coreG) := hid (cores_yes hf)
      have HCV : Hid (fvanV (xs.map coreG) y = true) := hid (by rw [van_cores hf, hv])
      have HNV : Hid (fvanV (xs.map (fun x => -x)) y = true) := hid (by rw [van_neg hf, hv])
      obtain ⟨t, ht⟩ : ∃ t : Nat, t = 1 + len1 % 20 := ⟨_, rfl⟩
      have ht1 : 1 ≤ t := by omega
      have ht2 : t ≤ 20 := by omega
      have hte : 1 + (len1 : Int) % 20 = (t : Int) := by rw [ht]; push_cast; rfl
      obtain ⟨n, hn⟩ : ∃ n : Nat, n = 2 + len1 % 5 := ⟨_, rfl⟩
      have hn1 : 2 ≤ n := by omega
      have hn2 : n ≤ 6 := by omega
      have hne : 2 + (len1 : Int) % 5 = (n : Int) := by rw [hn]; push_cast; rfl
      have HML : Hid ((xs.map coreG).length ≤ 1048576) := hid (by rw [List.length_map]; omega)
      have HNL : Hid ((xs.map (fun x => -x)).length ≤ 1048576) := hid (by rw [List.length_map]; omega)
      clear hv hf ht hn
      go_wp2_with fail
      refine (formCores_any u xs _ HX3.out (by omega)).mono ?_
      rw [HF.out, HCL.out]
      rintro e w4 ⟨oc, rfl, hOC, hb4⟩
      have HB4 := hid (HB3.out.trans (hb4.mono HB3.out.size))
      have HX4 := hid (HX3.out.keep hb4)
      have HC4 := hid hOC
      clear hb4 hOC
      have HA4 := hid ((Below.refl w4.heap.size w4).alloc (Nat.le_refl _) (.cells #[.int .i64 (t : Int)] 3))
      have HX4a := hid (HX4.out.keep HA4.out)
      have HC4a := hid (HC4.out.keep HC4.out.lt HA4.out)
      have HT4 := hid (rd_one (t : Int) (show (w4.alloc (.cells #[.int .i64 (t : Int)] 3)).cell? ⟨w4.heap.size, 0, none⟩ = some (.int .i64 (t : Int)) by rw [Go.cell_of_row _ _ _ _ _ _ (World.alloc_heap_new w4 _)]; rfl))
      obtain ⟨jo, hjo0⟩ : ∃ jo, jo = joinOk xs [(t : Int)] := ⟨_, rfl⟩
      have HJO := hid hjo0
      clear hjo0
      go_wp2_with fail
      refine (formJoin_any u _ xs [(t : Int)] _ HFU.out (.inr ⟨_, _, _, rfl⟩) HX4a.out HT4.out (by omega) (by simp)).mono ?_
      rw [← HJO.out]
      rintro e w5 ⟨oj, rfl, hOJ, hb5⟩
      have HB5 := hid ((HB4.out.alloc HB4.out.size (.cells #[.int .i64 (t : Int)] 3)).trans (hb5.mono (by simp; have := HB4.out.size; omega)))
      have HX5 := hid (HX4a.out.keep hb5)
      have HC5 := hid (HC4a.out.keep HC4a.out.lt hb5)
      have HJ5 := hid hOJ
      clear hb5 hOJ
      have HJV : Hid (jo = true → fvanV (joinL xs [(t : Int)]) y = true) := hid (fun h => van_join HV.out (by rw [← HJO.out, h]))
      have HJLL : Hid ((joinL xs [(t : Int)]).length ≤ 1048576) := hid (Nat.le_trans (join_len _ _) (by omega))
      obtain ⟨tk, htk0⟩ : ∃ tk, tk = timesOk xs (n : Int) := ⟨_, rfl⟩
      have HTK := hid htk0
      clear htk0
      go_wp2_with fail
      refine (formTimes_any u xs (n : Int) _ HX5.out (by omega)).mono ?_
      rw [← HTK.out]
      rintro e w6 ⟨ot, rfl, hOT, hb6⟩
      have HB6 := hid (HB5.out.trans (hb6.mono HB5.out.size))
      have HX6 := hid (HX5.out.keep hb6)
      have HC6 := hid (HC5.out.keep HC5.out.lt hb6)
      have HJ6 := hid (HJ5.out.keep HJ5.out.lt hb6)
      have HT6 := hid hOT
      clear hb6 hOT
      have HTV : Hid (tk = true → fvanV (ftimesL xs (n : Int)) y = true) := hid (fun h => by
        obtain ⟨a1, a2, a3, a4⟩ := times_yes (show timesOk xs (n : Int) = true by rw [← HTK.out, h])
        rw [a4, van_times (by omega) a1 a3, HV.out])
      have HTLL : Hid ((ftimesL xs (n : Int)).length ≤ 1048576) := hid (Nat.le_trans (ftimes_len _ _) (by omega))
      clear HJO HTK
      cases jo with
      | false =>
        cases tk with
        | false =>
          go_wp2_with fail
          refine (formVanishes_any oc (xs.map coreG) y _ HC6.out.rd HML.out).mono ?_
          rw [HCV.out]
          rintro e w7 ⟨rfl, hb7⟩
          have HB7 := hid (HB6.out.trans (hb7.mono HB6.out.size))
          have HX7 := hid (HX6.out.keep hb7)
          have HJ7 := hid (HJ6.out.keep HJ6.out.lt hb7)
          have HT7 := hid (HT6.out.keep HT6.out.lt hb7)
          clear hb7
          go_wp2_with fail
          refine (minusOf_any u xs _ HX7.out HT.out.mild).mono ?_
          rintro e w8 ⟨om, rfl, hOM, hb8⟩
          have HB8 := hid (HB7.out.trans (hb8.mono HB7.out.size))
          have HJ8 := hid (HJ7.out.keep HJ7.out.lt hb8)
          have HT8 := hid (HT7.out.keep HT7.out.lt hb8)
          have HM8 := hid hOM
          clear hb8 hOM
          go_wp2_with fail
          refine (formVanishes_any om _ y _ HM8.out.rd HNL.out).mono ?_
          rw [HNV.out]
          rintro e w9 ⟨rfl, hb9⟩
          have HB9 := hid (HB8.out.trans (hb9.mono HB8.out.size))
          have HJ9 := hid (HJ8.out.keep HJ8.out.lt hb9)
          have HT9 := hid (HT8.out.keep HT8.out.lt hb9)
          clear hb9
          have HB10 := HB9
          have HT10 := HT9
          go_wp2
          go_ret
          exact ⟨rfl, HB10.out⟩
        | true =>
          go_wp2_with fail
          refine (formVanishes_any oc (xs.map coreG) y _ HC6.out.rd HML.out).mono ?_
          rw [HCV.out]
          rintro e w7 ⟨rfl, hb7⟩
          have HB7 := hid (HB6.out.trans (hb7.mono HB6.out.size))
          have HX7 := hid (HX6.out.keep hb7)
          have HJ7 := hid (HJ6.out.keep HJ6.out.lt hb7)
          have HT7 := hid (HT6.out.keep HT6.out.lt hb7)
          clear hb7
          go_wp2_with fail
          refine (minusOf_any u xs _ HX7.out HT.out.mild).mono ?_
          rintro e w8 ⟨om, rfl, hOM, hb8⟩
          have HB8 := hid (HB7.out.trans (hb8.mono HB7.out.size))
          have HJ8 := hid (HJ7.out.keep HJ7.out.lt hb8)
          have HT8 := hid (HT7.out.keep HT7.out.lt hb8)
          have HM8 := hid hOM
          clear hb8 hOM
          go_wp2_with fail
          refine (formVanishes_any om _ y _ HM8.out.rd HNL.out).mono ?_
          rw [HNV.out]
          rintro e w9 ⟨rfl, hb9⟩
          have HB9 := hid (HB8.out.trans (hb9.mono HB8.out.size))
          have HJ9 := hid (HJ8.out.keep HJ8.out.lt hb9)
          have HT9 := hid (HT8.out.keep HT8.out.lt hb9)
          clear hb9
          have HB10 := HB9
          have HT10 := HT9
          go_wp2_with fail
          refine (formVanishes_any ot _ y _ HT10.out.rd HTLL.out).mono ?_
          rw [HTV.out (by trivial)]
          rintro e w11 ⟨rfl, hb11⟩
          go_wp2
          go_ret
          exact ⟨rfl, HB10.out.trans (hb11.mono HB10.out.size)⟩
      | true =>
        cases tk with
        | false =>
          go_wp2_with fail
          refine (formVanishes_any oc (xs.map coreG) y _ HC6.out.rd HML.out).mono ?_
          rw [HCV.out]
          rintro e w7 ⟨rfl, hb7⟩
          have HB7 := hid (HB6.out.trans (hb7.mono HB6.out.size))
          have HX7 := hid (HX6.out.keep hb7)
          have HJ7 := hid (HJ6.out.keep HJ6.out.lt hb7)
          have HT7 := hid (HT6.out.keep HT6.out.lt hb7)
          clear hb7
          go_wp2_with fail
          refine (minusOf_any u xs _ HX7.out HT.out.mild).mono ?_
          rintro e w8 ⟨om, rfl, hOM, hb8⟩
          have HB8 := hid (HB7.out.trans (hb8.mono HB7.out.size))
          have HJ8 := hid (HJ7.out.keep HJ7.out.lt hb8)
          have HT8 := hid (HT7.out.keep HT7.out.lt hb8)
          have HM8 := hid hOM
          clear hb8 hOM
          go_wp2_with fail
          refine (formVanishes_any om _ y _ HM8.out.rd HNL.out).mono ?_
          rw [HNV.out]
          rintro e w9 ⟨rfl, hb9⟩
          have HB9 := hid (HB8.out.trans (hb9.mono HB8.out.size))
          have HJ9 := hid (HJ8.out.keep HJ8.out.lt hb9)
          have HT9 := hid (HT8.out.keep HT8.out.lt hb9)
          clear hb9
          go_wp2_with fail
          refine (formVanishes_any oj _ y _ HJ9.out.rd HJLL.out).mono ?_
          rw [HJV.out (by trivial)]
          rintro e w10 ⟨rfl, hb10⟩
          have HB10 := hid (HB9.out.trans (hb10.mono HB9.out.size))
          have HT10 := hid (HT9.out.keep HT9.out.lt hb10)
          clear hb10
          go_wp2
          go_ret
          exact ⟨rfl, HB10.out⟩
        | true =>
          go_wp2_with fail
          refine (formVanishes_any oc (xs.map coreG) y _ HC6.out.rd HML.out).mono ?_
          rw [HCV.out]
          rintro e w7 ⟨rfl, hb7⟩
          have HB7 := hid (HB6.out.trans (hb7.mono HB6.out.size))
          have HX7 := hid (HX6.out.keep hb7)
          have HJ7 := hid (HJ6.out.keep HJ6.out.lt hb7)
          have HT7 := hid (HT6.out.keep HT6.out.lt hb7)
          clear hb7
          go_wp2_with fail
          refine (minusOf_any u xs _ HX7.out HT.out.mild).mono ?_
          rintro e w8 ⟨om, rfl, hOM, hb8⟩
          have HB8 := hid (HB7.out.trans (hb8.mono HB7.out.size))
          have HJ8 := hid (HJ7.out.keep HJ7.out.lt hb8)
          have HT8 := hid (HT7.out.keep HT7.out.lt hb8)
          have HM8 := hid hOM
          clear hb8 hOM
          go_wp2_with fail
          refine (formVanishes_any om _ y _ HM8.out.rd HNL.out).mono ?_
          rw [HNV.out]
          rintro e w9 ⟨rfl, hb9⟩
          have HB9 := hid (HB8.out.trans (hb9.mono HB8.out.size))
          have HJ9 := hid (HJ8.out.keep HJ8.out.lt hb9)
          have HT9 := hid (HT8.out.keep HT8.out.lt hb9)
          clear hb9
          go_wp2_with fail
          refine (formVanishes_any oj _ y _ HJ9.out.rd HJLL.out).mono ?_
          rw [HJV.out (by trivial)]
          rintro e w10 ⟨rfl, hb10⟩
          have HB10 := hid (HB9.out.trans (hb10.mono HB9.out.size))
          have HT10 := hid (HT9.out.keep HT9.out.lt hb10)
          clear hb10
          go_wp2_with fail
          refine (formVanishes_any ot _ y _ HT10.out.rd HTLL.out).mono ?_
          rw [HTV.out (by trivial)]
          rintro e w11 ⟨rfl, hb11⟩
          go_wp2
          go_ret
          exact ⟨rfl, HB10.out.trans (hb11.mono HB10.out.size)⟩
theorem own : ownKnob Try.prog.godebug = none := by kernel_rfl
theorem laidOut : laidOutB Try.prog = true := by kernel_rfl
set_option maxRecDepth 100000 in
theorem lifted (os : Os) (started : os.Started) (H : Type) (enc : TypeId × Value → H) :
    ReturnsInHanded {} Try.checked os 9 .any (Rows.fnVanishesSpec.pre6 enc Try.prog Try.f9 Rows.fnVanishesRow.domain false) (Rows.fnVanishesSpec.post enc Try.prog Try.f9 false true false false) := by
  refine returnsInHanded_of_change (C := Try.checked) own started (by kernel_rfl) Try.func9
    (ChangeSpec.witness6 (enc := enc) (C := Try.checked) false ⟨#[], #[.slice none 0 0, .slice none 0 0], []⟩ 8 (by kernel_rfl) (by kernel_rfl) (by kernel_rfl) (by kernel_rfl)) ?_
  intro W base args ds gs before hval0 hW hcnd _
  have hval : ∀ (j : Nat) t v, Try.f9.params[j]? = some t → args[j]? = some v → Value.okWide Try.prog W .any base t v := hval0
  have hW' := hW
  obtain ⟨p, q, hA0, hV, rfl, hfz, hnd⟩ := hW
  have hA : DataW.TrodAll enc Try.prog W 0 (fun _ => true) true Try.f9.params.toList args.toList ds p := hA0
  rw [Try.params9] at hA hval
  obtain ⟨v0, vs0, d0, ds0, p0, q0, hargs, rfl, rfl, h0, r0⟩ := trodAll_cons hA
  obtain ⟨v1, vs1, d1, ds1, p1, q1, rfl, rfl, rfl, h1, r1⟩ := trodAll_cons r0
  obtain ⟨rfl, rfl, rfl⟩ := trodAll_nil r1
  obtain rfl : args = #[v0, v1] := by cases args; simp_all
  obtain ⟨rfl, rfl⟩ := trodVars_none hV
  obtain ⟨a0, len0, cap0, rfl⟩ := okWide_slice Try.underlying22 (hval 0 22 v0 rfl rfl)
  have k0 := h0
  have lt0 : ∀ x ∈ p0, x.block < W.heap.size := by obtain ⟨m, hm⟩ := k0; exact DataW.trod_lt m _ _ _ hm
  obtain ⟨z0, w0⟩ : ∃ zs, IsRow .u8 W a0 len0 cap0 zs := by
    obtain ⟨fuel, hf⟩ := h0
    rcases open_ints Try.underlying22 Try.underlying5 (by kernel_rfl) hf with ⟨hcs, _⟩ | ⟨x, l, c, zs, hcs, _, hl, hm, hz, _, hcell, hwz⟩
    · simp [Value.cells] at hcs
      obtain ⟨rfl, rfl, rfl⟩ := hcs
      exact ⟨[], .inl ⟨rfl, rfl, rfl, rfl⟩⟩
    · simp [Value.cells] at hcs
      obtain ⟨rfl, rfl, rfl⟩ := hcs
      exact ⟨zs, .inr ⟨_, rfl, hl, hm, by simpa using hz, hcell, hwz⟩⟩
  obtain ⟨a1, len1, cap1, rfl⟩ := okWide_slice Try.underlying22 (hval 1 22 v1 rfl rfl)
  have k1 := h1
  have lt1 : ∀ x ∈ p1, x.block < W.heap.size := by obtain ⟨m, hm⟩ := k1; exact DataW.trod_lt m _ _ _ hm
  obtain ⟨z1, w1⟩ : ∃ zs, IsRow .u8 W a1 len1 cap1 zs := by
    obtain ⟨fuel, hf⟩ := h1
    rcases open_ints Try.underlying22 Try.underlying5 (by kernel_rfl) hf with ⟨hcs, _⟩ | ⟨x, l, c, zs, hcs, _, hl, hm, hz, _, hcell, hwz⟩
    · simp [Value.cells] at hcs
      obtain ⟨rfl, rfl, rfl⟩ := hcs
      exact ⟨[], .inl ⟨rfl, rfl, rfl, rfl⟩⟩
    · simp [Value.cells] at hcs
      obtain ⟨rfl, rfl, rfl⟩ := hcs
      exact ⟨zs, .inr ⟨_, rfl, hl, hm, by simpa using hz, hcell, hwz⟩⟩
  clear hA0 hval0
  refine (walk a0 len0 cap0 z0 a1 len1 cap1 z1 W w0 w1).mono fun e W' ⟨he, bel⟩ => ?_
  subst he
  exact ⟨_, rfl, _, _, _, [], _, [], hW', trodAll_mk1 (shut_bool Try.underlying4 _), (trodAll_cons_mk (Below.trod laidOut (by kernel_rfl) (of_decide_eq_true (by kernel_rfl)) k0 bel lt0) (trodAll_cons_mk (Below.trod laidOut (by kernel_rfl) (of_decide_eq_true (by kernel_rfl)) k1 bel lt1) trodAll_mk0)), rfl, bel.frame _, fun h => by cases h⟩
theorem over : Rows.fnVanishesRow.holds Try.pinned (OpenSpec.ofChange Rows.fnVanishesSpec) :=
  OpenClaim.holds_of_wide 9 Try.f9 rfl rfl rfl rfl rfl rfl rfl ⟨rfl, rfl, rfl, rfl, rfl⟩ rfl rfl rfl rfl rfl (by kernel_rfl) Try.func9 (by kernel_rfl)
    (of_decide_eq_true (by kernel_rfl)) (by unfold Func.isWrapper; first | (rw [if_pos (by decide +kernel)]; kernel_rfl) | (rw [if_neg (by decide +kernel)]; exact ⟨rfl, rfl⟩))
    (fun os started H enc _ => lifted os started H enc)
theorem proved : Rows.FnVanishesSaid := over
end Go.Proofs.Ytciajpimpjpnfaa.fnVanishes
