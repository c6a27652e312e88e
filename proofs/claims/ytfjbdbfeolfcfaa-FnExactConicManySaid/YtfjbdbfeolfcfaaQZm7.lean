/-
  Contracts of the model's chapter 5: zeros of four terms; ZeroFind.
-/
import Derived.Test.YtfjbdbfeolfcfaaQZm6
import Derived.Deep.QuietTactic
set_option linter.unusedVariables false
namespace Go.Proofs.Ytfjbdbfeolfcfaa
open Go.RowKit

theorem rd_four {w : World} {v : Value} {a b c d : Int} (h : Rd w v [a, b, c, d]) : ∃ g o cap, v = .slice (some ⟨g, o, none⟩) 4 cap ∧ w.cell? ⟨g, o, none⟩ = some (.int .i64 a) ∧ w.cell? ⟨g, o + 1, none⟩ = some (.int .i64 b) ∧ w.cell? ⟨g, o + 2, none⟩ = some (.int .i64 c) ∧ w.cell? ⟨g, o + 3, none⟩ = some (.int .i64 d) := by
  obtain ⟨ad, cap, rfl, hform⟩ := h.form
  obtain ⟨g, o, rfl, _, hc⟩ := hform (by simp)
  exact ⟨g, o, cap, rfl, hc 0 (by simp), hc 1 (by simp), hc 2 (by simp), hc 3 (by simp)⟩
theorem rd_two {w : World} {v : Value} {a b : Int} (h : Rd w v [a, b]) : ∃ g o cap, v = .slice (some ⟨g, o, none⟩) 2 cap ∧ w.cell? ⟨g, o, none⟩ = some (.int .i64 a) ∧ w.cell? ⟨g, o + 1, none⟩ = some (.int .i64 b) := by
  obtain ⟨ad, cap, rfl, hform⟩ := h.form
  obtain ⟨g, o, rfl, _, hc⟩ := hform (by simp)
  exact ⟨g, o, cap, rfl, hc 0 (by simp), hc 1 (by simp)⟩
theorem below_drew {n : Nat} {w w' : World} (h : Below n w w') : Below n w w'.drew := ⟨h.os, h.tape, h.output, h.size, h.block⟩
theorem split_zero {a b c d : Int} {x y : Nat} (h : x = 0 ∧ y = 0) : splitO a b c d x y = none := by unfold splitO; rw [if_pos h]
theorem split_axis {a b c d : Int} {x y : Nat} (h : ¬ (x = 0 ∧ y = 0)) (hz : splitV a b x y = 0) : splitO a b c d x y = some (plainL [(x : Int), (y : Int), 0, 0]) := by unfold splitO; rw [if_neg h, if_pos hz]
theorem split_big {a b c d : Int} {x y : Nat} (h : ¬ (x = 0 ∧ y = 0)) (hz : splitV a b x y ≠ 0) (hc : ¬ (coreG (splitV a b x y)).natAbs ≤ 30) : splitO a b c d x y = none := by unfold splitO; rw [if_neg h, if_neg hz, if_neg hc]
theorem split_go {a b c d : Int} {x y : Nat} (h : ¬ (x = 0 ∧ y = 0)) (hz : splitV a b x y ≠ 0) (hc : (coreG (splitV a b x y)).natAbs ≤ 30) : splitO a b c d x y = (threeO c d (coreG (splitV a b x y))).map (fun v => plainL (vec4 (rootG (splitV a b x y)) x y v)) := by unfold splitO; rw [if_neg h, if_neg hz, if_pos hc]

set_option maxRecDepth 100000 in
set_option maxHeartbeats 8000000 in
theorem l5Four_any (v : Value) (a b c d : Int) (ok : Ok4 a b c d) (w : World) (h : Rd w v [a, b, c, d]) : Calls Try.prog 78 #[v] w (SearchPost (fourO a b c d) w) := by
  have HH := hid h
  have HOK := hid ok
  obtain ⟨g, o, cap, rfl, k0, k1, k2, k3⟩ := rd_four h
  have HK : Hid (∀ W : World, Below w.heap.size w W → W.cell? ⟨g, o, none⟩ = some (.int .i64 a) ∧ W.cell? ⟨g, o + 1, none⟩ = some (.int .i64 b) ∧ W.cell? ⟨g, o + 2, none⟩ = some (.int .i64 c) ∧ W.cell? ⟨g, o + 3, none⟩ = some (.int .i64 d)) := hid (fun W hW => by
    obtain ⟨g2, o2, cap2, e, j⟩ := rd_four (HH.out.keep hW)
    cases e
    exact j)
  have HB0 := hid (Below.refl w.heap.size w)
  have EF : Hid (fourO a b c d = firstR (rowF a b c d) 4) := hid rfl
  have ER : Hid (∀ x, rowF a b c d x = firstR (splitO a b c d x) 4) := hid (fun _ => rfl)
  clear h ok k0 k1 k2 k3
  go_enter Try.func78, Try.ntmps78
  go_wp2_with fail
  go_loopw [4] (fun sx wr => ∃ X : Nat, sx = .int .i64 X ∧ X ≤ 4 ∧ Hid (∀ i, i < X → rowF a b c d i = none) ∧ Hid (Below w.heap.size w wr)) (fun sx _ => 5 - (intOf sx).toNat)
  case atStart => exact ⟨0, rfl, by omega, hid (fun i hi => by omega), HB0⟩
  case round =>
    obtain ⟨X, rfl, hX, HX, HB⟩ := hrel
    rename World => wx
    by_cases hlx : X ≤ 3
    · have hlxi : (X : Int) ≤ 3 := by omega
      go_wp2_with fail
      go_loopw [5] (fun sy wr => ∃ Y : Nat, sy = .int .i64 Y ∧ Y ≤ 4 ∧ Hid (∀ i, i < Y → splitO a b c d X i = none) ∧ Hid (Below w.heap.size w wr)) (fun sy _ => 5 - (intOf sy).toNat)
      case atStart => exact ⟨0, rfl, by omega, hid (fun i hi => by omega), HB⟩
      case round =>
        obtain ⟨Y, rfl, hY, HY, HBy⟩ := hrel
        rename World => wy
        by_cases hly : Y ≤ 3
        · have hlyi : (Y : Int) ≤ 3 := by omega
          have hsy := HBy.out.size
          have NEXT : Hid (splitO a b c d X Y = none → ∀ i, i < Y + 1 → splitO a b c d X i = none) := hid (fun h i hi => by
            by_cases e : i = Y
            · rw [e]; exact h
            · exact HY.out i (by omega))
          have FOUND : Hid (∀ l, splitO a b c d X Y = some l → fourO a b c d = some l) := hid (fun l hl => by
            rw [EF.out]
            refine firstR_some HX.out (by omega) ?_
            rw [ER.out]
            exact firstR_some HY.out (by omega) hl)
          by_cases hz : X = 0 ∧ Y = 0
          · have HN2 := hid (NEXT.out (split_zero hz))
            obtain ⟨hX0, hY0⟩ := hz
            have X0 : ((X : Int) == 0) = true := by rw [beq_iff_eq]; omega
            have Y0 : ((Y : Int) == 0) = true := by rw [beq_iff_eq]; omega
            clear hX0 hY0
            go_wp2_with fail
            go_roundw
            case measure => simp only [intOf]; omega
            case rel => exact ⟨Y + 1, by go_num, by omega, HN2, HBy⟩
          · obtain ⟨j0, j1, j2, j3⟩ := HK.out wy HBy.out
            have hb := splitV_bd (x := X) (y := Y) HOK.out.a1 HOK.out.a2 HOK.out.b1 HOK.out.b2 hlx hly
            obtain ⟨⟨ax1, ax2⟩, ⟨axx1, axx2⟩, ⟨by1, by2⟩, byy1, byy2⟩ := hb
            have HSV : Hid (a * (X : Int) * (X : Int) + b * (Y : Int) * (Y : Int) = splitV a b X Y) := hid rfl
            have HXY := hid hz
            have HBD := hid (fun n => below_drewN HBy.out n)
            have xz : ((X : Int) == 0) = true → ((Y : Int) == 0) = false := fun h1 => by
              rw [beq_iff_eq] at h1
              rw [beq_eq_false_iff_ne]
              exact fun h2 => hz ⟨by omega, by omega⟩
            have HXZ := hid xz
            have hXc : ((X : Int) == 0) = true ∧ ((Y : Int) == 0) = false ∨ ((X : Int) == 0) = false := by
              cases hx : ((X : Int) == 0) with
              | true => exact .inl ⟨rfl, xz hx⟩
              | false => exact .inr rfl
            clear hz xz
            rcases hXc with ⟨X0, Y0⟩ | X0
            all_goals
              go_wp2_with fail
              go_quiet (fail)
              rw [HSV.out]
              have HKD := HK.out (wy.drewN nq) (HBD.out nq)
              have HBQ := hid (HBD.out nq)
              generalize wy.drewN nq = wq at HKD HBQ ⊢
              obtain ⟨l0, l1, l2, l3⟩ := HKD
              have hsq := HBQ.out.size
              have t1 : -540 ≤ splitV a b X Y := by unfold splitV; omega
              have t2 : splitV a b X Y ≤ 540 := by unfold splitV; omega
              by_cases ht : splitV a b X Y = 0
              · have HF := hid (FOUND.out _ (split_axis HXY.out ht))
                have T0 : (splitV a b X Y == 0) = true := by rw [beq_iff_eq]; exact ht
                have h4 := axis_four (c := c) (d := d) hlx hly HXY.out ht
                have HP := hid (plainLitN_any [(X : Int), (Y : Int), 0, 0] _ rfl (by simp) (fun u hu => by have := h4.small u hu; omega) h4.some wq)
                clear h4 ht t1 t2
                go_wp2_with (go_at_call 48; refine (HP.out).mono ?_; rintro e w4 ⟨u, rfl, ho4, hb4⟩)
                go_ret2
                exact ⟨_, by rw [HF.out]; rfl, by rw [HF.out]; exact ho4.down hsq, HBQ.out.trans (hb4.mono hsq)⟩
              · have T0 : (splitV a b X Y == 0) = false := by rw [beq_eq_false_iff_ne]; exact ht
                have HT0 := hid ht
                have hrt := root_24 ht t1 t2
                have hrt1 := hrt.1
                have hrt2 := hrt.2
                have hci := core_small ht
                have hcle := hci.2.2.1
                have HSB := hid (split_big (c := c) (d := d) HXY.out ht)
                have HSG := hid (split_go (c := c) (d := d) HXY.out ht)
                have HV4 : Hid (∀ l, Three c d (coreG (splitV a b X Y)) l → Four a b c d (vec4 (rootG (splitV a b X Y)) X Y l)) := hid (fun l hl => vec4_ok hlx hly HXY.out ht t1 t2 hl)
                have HO3 : Hid ((coreG (splitV a b X Y)).natAbs ≤ 30 → Ok3 c d (coreG (splitV a b X Y))) := hid (fun hc => HOK.out.ok3 ht hc)
                obtain ⟨t, hte⟩ : ∃ t, t = splitV a b X Y := ⟨_, rfl⟩
                rw [← hte] at T0 HT0 HSB HSG HV4 HO3 t1 t2 hrt1 hrt2 hcle ⊢
                obtain ⟨k, hk⟩ : ∃ k, k = coreG t := ⟨_, rfl⟩
                obtain ⟨r, hr⟩ : ∃ r, r = rootG t := ⟨_, rfl⟩
                have HKE : Hid (coreG t = k) := hid hk.symm
                have HRE : Hid (rootG t = r) := hid hr.symm
                rw [← hk] at HSB HSG HV4 HO3 hcle
                rw [← hr] at HSG HV4 hrt1 hrt2
                clear hci hrt ht hte hk hr HSV
                by_cases hc : k.natAbs ≤ 30
                · have hci : ¬ (30 : Int) < (k.natAbs : Int) := by omega
                  have HG := hid (HSG.out hc)
                  have HOK3 := hid (HO3.out hc)
                  go_wp2_with (first | (go_at_call 76; refine (l1CoreG_any _ HT0.out (by omega) (by omega) _).mono ?_; rw [HKE.out, HRE.out]; rintro e w' ⟨rfl, rfl⟩) | (go_at_call 63; refine (l1Size_any _ (by omega) (by omega) _).mono ?_; rintro e w' ⟨rfl, rfl⟩))
                  have HT5 : Hid (Calls Try.prog 77 #[.slice (some ⟨wq.heap.size, 0, none⟩) 3 3] (wq.alloc (.cells #[.int .i64 c, .int .i64 d, .int .i64 k] 3)).drew fun e w5 => ∃ u, e = .returned (.tuple #[u, .bool (threeO c d k).isSome]) ∧ Hid (Owns w5 w.heap.size u ((threeO c d k).getD [])) ∧ Hid (Below w.heap.size w w5)) := hid (by
                    have hol := owns_lit (W := wq) (B := wq.heap.size) [c, d, k] _ rfl (Nat.le_refl _) (by unfold maxLen; simp)
                    have hr3 : Rd (wq.alloc (.cells #[.int .i64 c, .int .i64 d, .int .i64 k] 3)).drew (.slice (some ⟨wq.heap.size, 0, none⟩) 3 3) [c, d, k] := hol.rd
                    have hbl := below_drew (HBQ.out.alloc hsq (.cells #[.int .i64 c, .int .i64 d, .int .i64 k] 3))
                    refine (l5Three_any _ c d k HOK3.out _ hr3).mono ?_
                    rintro e w5 ⟨u, rfl, ho5, hb5⟩
                    exact ⟨u, rfl, hid (ho5.down hbl.size), hid (hbl.trans (hb5.mono hbl.size))⟩)
                  go_region_with (go_at_call 77; refine (HT5.out).mono ?_; rintro e w5 ⟨u, rfl, ho5, HB5⟩)
                  all_goals
                   clear l0 l1 l2 l3 j0 j1 j2 j3
                   have hs5 := HB5.out.size
                   cases h3 : threeO c d k with
                   | none =>
                     have HN2 := hid (NEXT.out (by rw [HG.out, h3]; rfl))
                     rw [h3] at ho5
                     clear h3 ho5
                     go_wp2_with fail
                     go_roundw
                     case measure => simp only [intOf]; omega
                     case rel => exact ⟨Y + 1, by go_num, by omega, HN2, HB5⟩
                   | some l =>
                     have h3o := (threeO_ok HOK3.out h3).1
                     have h4 := HV4.out l h3o
                     have HF : Hid (fourO a b c d = some (plainL (vec4 (r : Int) (X : Int) (Y : Int) l))) := hid (FOUND.out _ (by rw [HG.out, h3]; rfl))
                     rw [h3] at ho5
                     obtain ⟨⟨p, q, s, rfl⟩, _, _, _⟩ := h3o
                     have ho5' : Owns w5 w.heap.size u [p, q, s] := ho5.out
                     obtain ⟨gu, cu, rfl, _, _⟩ := ho5'.block_of (by simp)
                     have p0 : w5.cell? ⟨gu, 0, none⟩ = some (.int .i64 p) := ho5'.elem (i := 0) (by simp)
                     have p1 : w5.cell? ⟨gu, 1, none⟩ = some (.int .i64 q) := ho5'.elem (i := 1) (by simp)
                     have p2 : w5.cell? ⟨gu, 2, none⟩ = some (.int .i64 s) := ho5'.elem (i := 2) (by simp)
                     have EV : vec4 (r : Int) X Y [p, q, s] = [(X : Int) * s, (Y : Int) * s, (r : Int) * p, (r : Int) * q] := rfl
                     rw [EV] at h4 HF
                     have k1 := h4.small ((X : Int) * s) (by simp)
                     have k2 := h4.small ((Y : Int) * s) (by simp)
                     have k3 := h4.small ((r : Int) * p) (by simp)
                     have k4 := h4.small ((r : Int) * q) (by simp)
                     have hw1 := wrap_s (by decide) k1.1 k1.2
                     have hw2 := wrap_s (by decide) k2.1 k2.2
                     have hw3 := wrap_s (by decide) k3.1 k3.2
                     have hw4 := wrap_s (by decide) k4.1 k4.2
                     have HP := hid (plainLitN_any [(X : Int) * s, (Y : Int) * s, (r : Int) * p, (r : Int) * q] _ rfl (by simp) (fun u hu => by have := h4.small u hu; omega) h4.some)
                     clear h3 ho5 ho5' h4 k1 k2 k3 k4 EV
                     go_wp2_with fail
                     go_still_tail 20, (by kernel_rfl)
                     change wpList _ _ _ _ _ w5.drew
                     have HB6 := hid (below_drew HB5.out)
                     generalize w5.drew = w6 at HB6 ⊢
                     have hs6 := HB6.out.size
                     go_wp2_with (go_at_call 48; refine (HP.out _).mono ?_; rintro e w7 ⟨u, rfl, ho7, hb7⟩)
                     go_ret2
                     exact ⟨_, by rw [HF.out]; rfl, by rw [HF.out]; exact ho7.down hs6, HB6.out.trans (hb7.mono hs6)⟩
                · have hci : (30 : Int) < (k.natAbs : Int) := by omega
                  have HN2 := hid (NEXT.out (HSB.out hc))
                  go_wp2_with (first | (go_at_call 76; refine (l1CoreG_any _ HT0.out (by omega) (by omega) _).mono ?_; rw [HKE.out, HRE.out]; rintro e w' ⟨rfl, rfl⟩) | (go_at_call 63; refine (l1Size_any _ (by omega) (by omega) _).mono ?_; rintro e w' ⟨rfl, rfl⟩))
                  go_roundw
                  case measure => simp only [intOf]; omega
                  case rel => exact ⟨Y + 1, by go_num, by omega, HN2, HBQ⟩
        · obtain rfl : Y = 4 := by omega
          have HR : Hid (rowF a b c d X = none) := hid (by rw [ER.out]; exact firstR_none HY.out)
          go_wp2_with fail
          go_roundw
          case measure => simp only [intOf]; omega
          case rel => exact ⟨X + 1, by go_num, by omega, hid (fun i hi => by
            by_cases e : i = X
            · rw [e]; exact HR.out
            · exact HX.out i (by omega)), HBy⟩
    · obtain rfl : X = 4 := by omega
      have HE : Hid (fourO a b c d = none) := hid (by rw [EF.out]; exact firstR_none HX.out)
      have hsx := HB.out.size
      go_wp2_with fail
      go_ret2
      refine ⟨_, by rw [HE.out]; rfl, ?_, HB.out.alloc hsx _⟩
      rw [HE.out]
      exact World.ownsRow_made (size := 1) _ #[] 0 hsx (by unfold maxLen; omega) rfl

theorem search_empty {w w2 : World} {o : Option (List Int)} (ho : o = none) (hb : Below w.heap.size w w2) : SearchPost o w (.returned (.tuple #[.slice (some ⟨w2.heap.size, 0, none⟩) 0 0, .bool false])) (w2.alloc (.cells #[] 3)) := by
  subst ho
  exact ⟨_, rfl, World.ownsRow_made (size := 1) _ #[] 0 hb.size (by unfold maxLen; omega) rfl, hb.alloc hb.size _⟩
set_option maxRecDepth 100000 in
set_option maxHeartbeats 2000000 in
theorem zeroFindS_any (v : Value) (xs : List Int) (w : World) (h : Rd w v xs) : Calls Try.prog 59 #[v] w (SearchPost (zfindO xs) w) := by
  have HH := hid h
  have hmx := rd_max h
  have HE0 : Hid (∀ o : Option (List Int), o = none → SearchPost o w (.returned (.tuple #[.slice (some ⟨w.heap.size, 0, none⟩) 0 0, .bool false])) (w.alloc (.cells #[] 3))) := hid (fun o ho => search_empty ho (Below.refl _ _))
  cases hf : fvB xs with
  | false =>
    have HF := hid hf
    have HR : Hid (zfindO xs = none) := hid (by unfold zfindO; rw [hf]; rfl)
    obtain ⟨ad, cap, rfl, _⟩ := h.form
    clear hf h
    go_enter Try.func59, Try.ntmps59
    go_wp2_with (go_at_call 70; refine (formValidS_any _ xs _ HH.out).mono ?_; rw [HF.out]; rintro e w' ⟨rfl, rfl⟩)
    go_ret2
    exact HE0.out _ HR.out
  | true =>
    have HF := hid hf
    have EZ : Hid (zfindO xs = findL xs) := hid (by unfold zfindO; rw [hf]; rfl)
    have hb := fvB_iff.1 hf
    have hc : xs.length = 1 ∨ xs.length = 2 ∨ xs.length = 3 ∨ xs.length = 4 := by omega
    rcases hc with e | e | e | e
    · obtain ⟨a, rfl⟩ := list_one e
      have HR : Hid (zfindO [a] = none) := hid (by rw [EZ.out]; rfl)
      obtain ⟨ad, cap, rfl, _⟩ := h.form
      clear hf h hb e EZ
      go_enter Try.func59, Try.ntmps59
      go_wp2_with (go_at_call 70; refine (formValidS_any _ _ _ HH.out).mono ?_; rw [HF.out]; rintro e w' ⟨rfl, rfl⟩)
      go_ret2
      exact HE0.out _ HR.out
    · obtain ⟨a, b, rfl⟩ := list_two e
      have ha := hb.1 a (by simp)
      have hbb := hb.1 b (by simp)
      have ET : Hid (zfindO [a, b] = if coreG a + coreG b = 0 then some (plainL [(rootG b : Int), (rootG a : Int)]) else none) := hid (by rw [EZ.out]; rfl)
      obtain ⟨g, o, cap, rfl, k0, k1⟩ := rd_two h
      have HA0 := hid ha.1
      have HB0 := hid hbb.1
      have a1 := ha.2.1
      have a2 := ha.2.2
      have b1 := hbb.2.1
      have b2 := hbb.2.2
      have ra := root_30 ha.1 a1 a2
      have rb := root_30 hbb.1 b1 b2
      have ca := (core_small ha.1).2.2.1
      have cb := (core_small hbb.1).2.2.1
      obtain ⟨A, hA⟩ : ∃ A, A = coreG a := ⟨_, rfl⟩
      obtain ⟨B, hB⟩ : ∃ B, B = coreG b := ⟨_, rfl⟩
      obtain ⟨r, hr⟩ : ∃ r, r = rootG a := ⟨_, rfl⟩
      obtain ⟨s, hs⟩ : ∃ s, s = rootG b := ⟨_, rfl⟩
      rw [← hA, ← hB, ← hr, ← hs] at ET
      rw [← hA] at ca
      rw [← hB] at cb
      rw [← hr] at ra
      rw [← hs] at rb
      have QA := hid hA.symm
      have QB := hid hB.symm
      have QR := hid hr.symm
      have QS := hid hs.symm
      have ra1 := ra.1
      have ra2 := ra.2
      have rb1 := rb.1
      have rb2 := rb.2
      clear hf h hb e EZ ha hbb hA hB hr hs ra rb
      by_cases h0 : A + B = 0
      · have T0 : (A + B == 0) = true := by rw [beq_iff_eq]; exact h0
        have HR : Hid (zfindO [a, b] = some (plainL [(s : Int), (r : Int)])) := hid (by rw [ET.out, if_pos h0])
        have HP := hid (plainLitN_any [(s : Int), (r : Int)] _ rfl (by simp) (fun u hu => by simp only [List.mem_cons, List.not_mem_nil, or_false] at hu; omega) ⟨(s : Int), by simp, by omega⟩ w)
        have HBR := hid (Below.refl w.heap.size w)
        clear h0
        go_enter Try.func59, Try.ntmps59
        go_wp2_with fail
        refine (formValidS_any _ _ _ HH.out).mono ?_
        rw [HF.out]
        rintro e w' ⟨rfl, rfl⟩
        go_wp2_with fail
        refine (l1CoreG_any a HA0.out (by omega) (by omega) _).mono ?_
        rw [QA.out, QR.out]
        rintro e w' ⟨rfl, rfl⟩
        go_wp2_with fail
        refine (l1CoreG_any b HB0.out (by omega) (by omega) _).mono ?_
        rw [QB.out, QS.out]
        rintro e w' ⟨rfl, rfl⟩
        go_wp2_with (go_at_call 48; refine (HP.out).mono ?_; rintro e w4 ⟨u, rfl, ho4, hb4⟩)
        go_ret2
        exact ⟨_, by rw [HR.out]; rfl, by rw [HR.out]; exact ho4, hb4⟩
      · have T0 : (A + B == 0) = false := by rw [beq_eq_false_iff_ne]; exact h0
        have HR : Hid (zfindO [a, b] = none) := hid (by rw [ET.out, if_neg h0])
        clear h0
        go_enter Try.func59, Try.ntmps59
        go_wp2_with fail
        refine (formValidS_any _ _ _ HH.out).mono ?_
        rw [HF.out]
        rintro e w' ⟨rfl, rfl⟩
        go_wp2_with fail
        refine (l1CoreG_any a HA0.out (by omega) (by omega) _).mono ?_
        rw [QA.out, QR.out]
        rintro e w' ⟨rfl, rfl⟩
        go_wp2_with fail
        refine (l1CoreG_any b HB0.out (by omega) (by omega) _).mono ?_
        rw [QB.out, QS.out]
        rintro e w' ⟨rfl, rfl⟩
        go_wp2_with fail
        go_ret2
        exact HE0.out _ HR.out
    · obtain ⟨a, b, c, rfl⟩ := list_three e
      have HR : Hid (zfindO [a, b, c] = threeO a b c) := hid (by rw [EZ.out]; rfl)
      have HOK := hid (ok3_of hf)
      obtain ⟨ad, cap, rfl, _⟩ := h.form
      clear hf h hb e EZ HE0
      go_enter Try.func59, Try.ntmps59
      go_wp2_with (first | (go_at_call 70; refine (formValidS_any _ _ _ HH.out).mono ?_; rw [HF.out]; rintro e w' ⟨rfl, rfl⟩) | (go_at_call 77; refine (l5Three_any _ a b c HOK.out _ HH.out).mono ?_; rintro e w2 ⟨u, rfl, ho, hb2⟩))
      go_ret2
      exact ⟨u, by rw [HR.out]; rfl, by rw [HR.out]; exact ho, hb2⟩
    · obtain ⟨a, b, c, d, rfl⟩ := list_four e
      have HR : Hid (zfindO [a, b, c, d] = fourO a b c d) := hid (by rw [EZ.out]; rfl)
      have HOK := hid (ok4_of hf)
      obtain ⟨ad, cap, rfl, _⟩ := h.form
      clear hf h hb e EZ HE0
      go_enter Try.func59, Try.ntmps59
      go_wp2_with (first | (go_at_call 70; refine (formValidS_any _ _ _ HH.out).mono ?_; rw [HF.out]; rintro e w' ⟨rfl, rfl⟩) | (go_at_call 78; refine (l5Four_any _ a b c d HOK.out _ HH.out).mono ?_; rintro e w2 ⟨u, rfl, ho, hb2⟩))
      go_ret2
      exact ⟨u, by rw [HR.out]; rfl, by rw [HR.out]; exact ho, hb2⟩

end Go.Proofs.Ytfjbdbfeolfcfaa
