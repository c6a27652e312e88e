/-
  Some texts in one file: Mx2 Mx3 Mx4 Mx5 MxB.
-/
import Derived.Test.YtjabklpnohfjpabQBun23
import Derived.Test.YtjabklpnohfjpabQBun20
import Derived.Test.YtjabklpnohfjpabQBun9
import Derived.Test.YtjabklpnohfjpabQFm2
import Derived.Test.YtjabklpnohfjpabQBun2
import Derived.Test.YtjabklpnohfjpabQZm1
import Derived.Test.YtjabklpnohfjpabQBun17
import Derived.Deep.QuietTactic
import Derived.BigQuiet
import Derived.Test.YtjabklpnohfjpabQBun5
import Derived.Test.YtjabklpnohfjpabQOwn2
import Derived.Deep.DeepCutAuto
/-! Mx2 -/
set_option linter.unusedVariables false
namespace Go.Proofs.Ytjabklpnohfjpab
open Go.RowKit

set_option maxHeartbeats 400000 in
theorem l1GcdM_any (a b : Int) (a1 : -1000000000000000000 ≤ a) (a2 : a ≤ 1000000000000000000) (b1 : -1000000000000000000 ≤ b) (b2 : b ≤ 1000000000000000000) (w : World) :
    Calls Try.prog 83 #[.int .i64 a, .int .i64 b] w fun e w' => e = .returned (.int .i64 (Nat.gcd a.natAbs b.natAbs : Nat)) ∧ w = w' := by
  go_enter Try.func83, Try.ntmps83
  go_wp2_with fail
  refine (l1Size_any a (by omega) (by omega) _).mono ?_
  rintro e w' ⟨rfl, rfl⟩
  go_wp2_with fail
  refine (l1Size_any b (by omega) (by omega) _).mono ?_
  rintro e w' ⟨rfl, rfl⟩
  go_wp2_with fail
  go_loop [0, 1] (fun x y => ∃ (X Y : Nat), x = .int .i64 X ∧ y = .int .i64 Y ∧ X ≤ 1000000000000000000 ∧ Y ≤ 1000000000000000000 ∧ Hid (Nat.gcd X Y = Nat.gcd a.natAbs b.natAbs)) (fun _ y => (intOf y).toNat)
  case atStart => exact ⟨_, _, rfl, rfl, by omega, by omega, hid rfl⟩
  case round =>
    obtain ⟨X, Y, rfl, rfl, hX, hY, HV⟩ := hrel
    by_cases h0 : Y = 0
    · subst h0
      go_wp2
      go_ret
      exact ⟨retI (by rw [← HV.out, Nat.gcd_zero_right]), rfl⟩
    · have T : ((Y : Int) != 0) = true := by rw [bne_iff_ne]; omega
      have hlt := Nat.mod_lt X (show Y > 0 by omega)
      go_wp2
      go_round
      case rel => exact ⟨Y, X % Y, rfl, vI (by push_cast; rfl), hY, by omega, hid (by rw [← HV.out, Nat.gcd_comm X Y, Nat.gcd_rec Y X, Nat.gcd_comm])⟩
      case measure => simp only [intOf]; omega

theorem gcd_head {d : Int} {l : List Int} (h : d ≠ 0) : gcdL (d :: l) ≤ d.natAbs := Nat.le_of_dvd (by omega) ((gcdL_dvdG (d :: l) 0).2 d (List.mem_cons_self ..))
theorem gcd_snoc2 (d : Int) (l : List Int) (x : Int) : gcdL (d :: (l ++ [x])) = Nat.gcd (gcdL (d :: l)) x.natAbs := gcdL_snoc (d :: l) x
theorem gcd_single (d : Int) : gcdL [d] = d.natAbs := by
  show Nat.gcd 0 d.natAbs = _
  rw [Nat.gcd_zero_left]
theorem flat_take {R : List (List Int)} {i : Nat} (h : i < R.length) : (R.take (i + 1)).flatten = (R.take i).flatten ++ R.getD i [] := by
  have e : R.take (i + 1) = R.take i ++ [R.getD i []] := by
    rw [List.take_add_one, List.getD_eq_getElem?_getD, List.getElem?_eq_getElem h]; rfl
  rw [e, List.flatten_append, one_flat]
theorem shape_iff {xs : List Int} {R : List (List Int)} {d : Int} : shapeB xs R d = true ↔ frm3B xs = true ∧ R.length = xs.length ∧ inR d 1 10000 = true ∧ (∀ i, i < R.length → (R.getD i []).length = xs.length ∧ ∀ k, k < xs.length → inR (at2 R i k) (-1000000) 1000000 = true) ∧ gcdL (d :: R.flatten) = 1 := by
  unfold shapeB
  rw [Bool.and_eq_true, Bool.and_eq_true, Bool.and_eq_true, Bool.and_eq_true, decide_eq_true_eq, decide_eq_true_eq, List.all_eq_true]
  constructor
  · rintro ⟨h1, h2, h3, h4, h5⟩
    refine ⟨h1, h2, h3, fun i hi => ?_, h5⟩
    have hm : R.getD i [] ∈ R := by rw [List.getD_eq_getElem?_getD, List.getElem?_eq_getElem hi]; exact List.getElem_mem _
    have := h4 _ hm
    rw [Bool.and_eq_true, decide_eq_true_eq, List.all_eq_true] at this
    refine ⟨this.1, fun k hk => this.2 _ ?_⟩
    unfold at2
    have hk2 : k < (R.getD i []).length := by rw [this.1]; exact hk
    rw [List.getD_eq_getElem?_getD (l := R.getD i []), List.getElem?_eq_getElem hk2]
    exact List.getElem_mem _
  · rintro ⟨h1, h2, h3, h4, h5⟩
    refine ⟨h1, h2, h3, fun r hr => ?_, h5⟩
    obtain ⟨i, hi, rfl⟩ := List.getElem_of_mem hr
    have e : R.getD i [] = R[i] := by rw [List.getD_eq_getElem?_getD, List.getElem?_eq_getElem hi]; rfl
    obtain ⟨k1, k2⟩ := h4 i hi
    rw [e] at k1
    rw [Bool.and_eq_true, decide_eq_true_eq, List.all_eq_true]
    refine ⟨k1, fun x hx => ?_⟩
    obtain ⟨k, hk, rfl⟩ := List.getElem_of_mem hx
    have := k2 k (by omega)
    unfold at2 at this
    rw [e, List.getD_eq_getElem?_getD, List.getElem?_eq_getElem hk] at this
    exact this
theorem shape_no {xs : List Int} {R : List (List Int)} {d : Int} (h : ¬ (frm3B xs = true ∧ R.length = xs.length ∧ inR d 1 10000 = true ∧ (∀ i, i < R.length → (R.getD i []).length = xs.length ∧ ∀ k, k < xs.length → inR (at2 R i k) (-1000000) 1000000 = true) ∧ gcdL (d :: R.flatten) = 1)) : shapeB xs R d = false := by
  cases e : shapeB xs R d with
  | false => rfl
  | true => exact absurd (shape_iff.1 e) h

set_option maxRecDepth 100000 in
theorem l7Form_any (v : Value) (xs : List Int) (w : World) (h : Rd w v xs) : Calls Try.prog 49 #[v] w fun e w' => e = .returned (.bool (frm3B xs)) ∧ w = w' := by
  have HX := hid h
  obtain ⟨a, cap, rfl, _⟩ := h.form
  clear h
  cases hf : fvB xs with
  | false =>
    have HF := hid hf
    have HE : Hid (frm3B xs = false) := hid (by unfold frm3B; rw [hf]; rfl)
    clear hf
    go_enter Try.func49, Try.ntmps49
    go_wp2_with (go_at_call 87; refine (formValidS_any _ xs _ HX.out).mono ?_; rw [HF.out]; rintro e w' ⟨rfl, rfl⟩)
    go_ret
    exact ⟨retB HE.out.symm, rfl⟩
  | true =>
    have HF := hid hf
    have hl := (fvB_iff.1 hf).2
    by_cases h3 : xs.length ≤ 3
    · have HE : Hid (frm3B xs = true) := hid (by unfold frm3B; rw [hf, decide_eq_true h3]; rfl)
      have T : (xs.length : Int) ≤ 3 := by omega
      clear hf hl h3
      go_enter Try.func49, Try.ntmps49
      go_wp2_with (go_at_call 87; refine (formValidS_any _ xs _ HX.out).mono ?_; rw [HF.out]; rintro e w' ⟨rfl, rfl⟩)
      go_ret
      exact ⟨retB HE.out.symm, rfl⟩
    · have HE : Hid (frm3B xs = false) := hid (by unfold frm3B; rw [hf, decide_eq_false h3]; rfl)
      have T : ¬ (xs.length : Int) ≤ 3 := by omega
      clear hf hl h3
      go_enter Try.func49, Try.ntmps49
      go_wp2_with (go_at_call 87; refine (formValidS_any _ xs _ HX.out).mono ?_; rw [HF.out]; rintro e w' ⟨rfl, rfl⟩)
      go_ret
      exact ⟨retB (by rw [HE.out]; exact decide_eq_false (by omega)), rfl⟩

set_option maxRecDepth 100000 in
set_option maxHeartbeats 4000000 in
theorem l7Shape_any (vf v : Value) (xs : List Int) (R : List (List Int)) (d : Int) (w : World) (hx : Rd w vf xs) (hm : RdM w v R) : Calls Try.prog 47 #[vf, .agg #[v, .int .i64 d]] w fun e w' => e = .returned (.bool (shapeB xs R d)) ∧ Below w.heap.size w w' := by
  obtain ⟨a, cap, rfl⟩ := hm.form
  obtain ⟨ax, cx, rfl, _⟩ := hx.form
  have hB0 := below_box2 w (.cells #[.slice a R.length cap, .int .i64 d] 29)
  have e0 := heap_alloc_new w (.cells #[.slice a R.length cap, .int .i64 d] 29)
  have c0 : (w.alloc (.cells #[.slice a R.length cap, .int .i64 d] 29)).cell? ⟨w.heap.size, 0, none⟩ = some (.slice a R.length cap) := cellB e0
  have c1 : (w.alloc (.cells #[.slice a R.length cap, .int .i64 d] 29)).cell? ⟨w.heap.size, 1, none⟩ = some (.int .i64 d) := cellB e0
  have HX := hid (hx.keep hB0)
  have HM := hid (hm.keep hB0)
  have HB := hid hB0
  clear hx hm hB0 e0
  cases hf : frm3B xs with
  | false =>
    have HF := hid hf
    have HE : Hid (shapeB xs R d = false) := hid (shape_no fun h => by rw [hf] at h; cases h.1)
    clear hf
    go_enter Try.func47, Try.ntmps47
    go_wp2_with (go_at_call 49; refine (l7Form_any _ xs _ HX.out).mono ?_; rw [HF.out]; rintro e w' ⟨rfl, rfl⟩)
    go_ret
    exact ⟨retB HE.out.symm, HB.out⟩
  | true =>
    have HF := hid hf
    have hfv : fvB xs = true := by unfold frm3B at hf; rw [Bool.and_eq_true] at hf; exact hf.1
    have hl3 : xs.length ≤ 3 := by unfold frm3B at hf; rw [Bool.and_eq_true, decide_eq_true_eq] at hf; exact hf.2
    have hl1 := (fvB_iff.1 hfv).2.1
    by_cases hl : R.length = xs.length
    · cases hd : inR d 1 10000 with
      | false =>
        have HDI := hid hd
        have HE : Hid (shapeB xs R d = false) := hid (shape_no fun h => by rw [hd] at h; cases h.2.2.1)
        have T1 : ((R.length : Int) == (xs.length : Int)) = true := by rw [beq_iff_eq, hl]
        have T2 : ((R.length : Int) != (xs.length : Int)) = false := by rw [bne, T1]; rfl
        clear hf hd hl hfv hl3 hl1
        go_enter Try.func47, Try.ntmps47
        go_wp2_with (first | (go_at_call 49; refine (l7Form_any _ xs _ HX.out).mono ?_; rw [HF.out]; rintro e w' ⟨rfl, rfl⟩) | (go_at_call 82; refine (l6In_any _ _ _ _).mono ?_; rw [HDI.out]; rintro e w' ⟨rfl, rfl⟩))
        go_ret
        exact ⟨retB HE.out.symm, HB.out⟩
      | true =>
        have HDI := hid hd
        have hdb := inR_iff9.1 hd
        obtain ⟨b, o, _, rfl, _, _⟩ := HM.out.row (i := 0) (by omega)
        have HNO := hid (fun h => shape_no (xs := xs) (R := R) (d := d) h)
        have HYES := hid (fun h => (shape_iff (xs := xs) (R := R) (d := d)).2 h)
        have T1 : ((R.length : Int) == (xs.length : Int)) = true := by rw [beq_iff_eq, hl]
        have T2 : ((R.length : Int) != (xs.length : Int)) = false := by rw [bne, T1]; rfl
        have HL := hid hl
        obtain ⟨d1, d2⟩ := hdb
        clear hf hd hl hfv
        go_enter Try.func47, Try.ntmps47
        go_wp2_with (first | (go_at_call 49; refine (l7Form_any _ xs _ HX.out).mono ?_; rw [HF.out]; rintro e w' ⟨rfl, rfl⟩) | (go_at_call 82; refine (l6In_any _ _ _ _).mono ?_; rw [HDI.out]; rintro e w' ⟨rfl, rfl⟩))
        go_loopw [5, 6, 7] (fun sg si sk wr => ∃ (i : Nat) (G : Int), si = .int .i64 i ∧ sg = .int .i64 G ∧ (1 ≤ G ∧ G ≤ 10000) ∧ i ≤ R.length ∧ Hid (G = (gcdL (d :: (R.take i).flatten) : Nat)) ∧ Hid (∀ r, r < i → (R.getD r []).length = xs.length ∧ ∀ k, k < xs.length → inR (at2 R r k) (-1000000) 1000000 = true) ∧ wr = w.alloc (.cells #[.slice (some ⟨b, o, none⟩) R.length cap, .int .i64 d] 29)) (fun _ si _ _ => R.length - (intOf si).toNat)
        case atStart => exact ⟨0, d, rfl, rfl, ⟨d1, d2⟩, by omega, hid (by show d = (gcdL [d] : Nat); rw [gcd_single]; omega), hid (fun r hr => by omega), rfl⟩
        case round =>
          obtain ⟨i, G, rfl, rfl, ⟨hG1, hG2⟩, hi, HG, HR, rfl⟩ := hrel
          by_cases hlt : i < R.length
          · obtain ⟨b', o', u, e9, hcu, hru⟩ := HM.out.row hlt
            cases e9
            obtain ⟨ri, hri⟩ : ∃ ri, ri = R.getD i [] := ⟨_, rfl⟩
            rw [← hri] at hru
            have HRI := hid hri
            clear hri
            obtain ⟨au, cu, rfl, fu⟩ := hru.form
            have hlti : (i : Int) < (R.length : Int) := by omega
            have hi3 : (i : Int) ≤ 3 := by have := HL.out; omega
            have HLT := hid hlt
            by_cases hrl : ri.length = xs.length
            · have S1 : ((ri.length : Int) == (xs.length : Int)) = true := by rw [beq_iff_eq, hrl]
              have S2 : ((ri.length : Int) != (xs.length : Int)) = false := by rw [bne, S1]; rfl
              have HRL := hid hrl
              have HFU := hid fu
              clear hlt hrl fu hru
              go_wp2_with fail
              go_loopw [5, 7] (fun sg sk wr => ∃ (k : Nat) (H : Int), sk = .int .i64 k ∧ sg = .int .i64 H ∧ (1 ≤ H ∧ H ≤ 10000) ∧ k ≤ xs.length ∧ Hid (H = (gcdL (d :: ((R.take i).flatten ++ ri.take k)) : Nat)) ∧ Hid (∀ j, j < k → inR (at2 R i j) (-1000000) 1000000 = true) ∧ wr = w.alloc (.cells #[.slice (some ⟨b, o, none⟩) R.length cap, .int .i64 d] 29)) (fun _ sk _ => xs.length - (intOf sk).toNat)
              case atStart => exact ⟨0, G, rfl, rfl, ⟨hG1, hG2⟩, by omega, hid (by rw [List.take_zero, List.append_nil]; exact HG.out), hid (fun j hj => by omega), rfl⟩
              case round =>
                obtain ⟨k, H, rfl, rfl, ⟨hH1, hH2⟩, hk, HH, HK, rfl⟩ := hrel
                by_cases hlk : k < xs.length
                · have hrl := HRL.out
                  obtain ⟨b2, o2, rfl, _, hc2⟩ := HFU.out (by omega)
                  have hcell := hc2 k (by omega)
                  have HX2 : Hid (ri.getD k 0 = at2 R i k) := hid (by rw [HRI.out]; rfl)
                  obtain ⟨x, hx⟩ : ∃ x, x = ri.getD k 0 := ⟨_, rfl⟩
                  rw [← hx] at hcell HX2
                  have hlki : (k : Int) < (ri.length : Int) := by omega
                  have hlkx : (k : Int) < (xs.length : Int) := by omega
                  have HTK := hid (takeD_snoc (xs := ri) (K := k) (by omega))
                  rw [← hx] at HTK
                  have HLK := hid hlk
                  cases hin : inR x (-1000000) 1000000 with
                  | false =>
                    have HIN := hid hin
                    have HE : Hid (shapeB xs R d = false) := hid (HNO.out fun h => by
                      have := (h.2.2.2.1 i HLT.out).2 k hlk
                      rw [← HX2.out, hin] at this; cases this)
                    clear hx hlk hrl hc2 hin
                    go_wp2_with (go_at_call 82; refine (l6In_any _ _ _ _).mono ?_; rw [HIN.out]; rintro e w' ⟨rfl, rfl⟩)
                    go_ret
                    exact ⟨retB HE.out.symm, HB.out⟩
                  | true =>
                    have HIN := hid hin
                    have hxb := inR_iff9.1 hin
                    obtain ⟨x1, x2⟩ := hxb
                    have hG3 : Nat.gcd H.natAbs x.natAbs = gcdL (d :: ((R.take i).flatten ++ ri.take (k + 1))) := by
                      rw [HTK.out, ← List.append_assoc, gcd_snoc2]
                      congr 1
                      rw [HH.out]; rfl
                    have HG3 := hid hG3
                    have hle : gcdL (d :: ((R.take i).flatten ++ ri.take (k + 1))) ≤ d.natAbs := gcd_head (by omega)
                    have hge : 1 ≤ gcdL (d :: ((R.take i).flatten ++ ri.take (k + 1))) := gcdL_pos ⟨d, List.mem_cons_self .., by omega⟩
                    rw [← hG3] at hle hge
                    obtain ⟨N, hN⟩ : ∃ N, N = Nat.gcd H.natAbs x.natAbs := ⟨_, rfl⟩
                    have HGC : Hid (∀ wx : World, Calls Try.prog 83 #[.int .i64 H, .int .i64 x] wx fun e w' => e = .returned (.int .i64 (N : Nat)) ∧ wx = w') := hid (fun wx => by rw [hN]; exact l1GcdM_any H x (by omega) (by omega) (by omega) (by omega) wx)
                    rw [← hN] at HG3 hle hge
                    have HKX : Hid (∀ j, j < k + 1 → inR (at2 R i j) (-1000000) 1000000 = true) := hid (fun j hj => by
                      by_cases e : j = k
                      · subst e; rw [← HX2.out]; exact hin
                      · exact HK.out j (by omega))
                    clear hx hlk hrl hc2 hin hN hG3 HTK
                    go_wp2_with (first | (go_at_call 82; refine (l6In_any _ _ _ _).mono ?_; rw [HIN.out]; rintro e w' ⟨rfl, rfl⟩) | (go_at_call 83; refine (HGC.out _).mono ?_; rintro e w' ⟨rfl, rfl⟩))
                    go_roundw
                    case measure => simp only [intOf]; have := HLK.out; omega
                    case rel => exact ⟨k + 1, _, by go_num, rfl, by omega, by have := HLK.out; omega, hid (by rw [HG3.out]), HKX, trivial⟩
                · obtain rfl : k = xs.length := by omega
                  have HG4 : Hid (H = (gcdL (d :: (R.take (i + 1)).flatten) : Nat)) := hid (by
                    rw [flat_take HLT.out, HH.out, ← HRI.out, show ri.take xs.length = ri from List.take_of_length_le (by have := HRL.out; omega)])
                  have HR4 : Hid (∀ r, r < i + 1 → (R.getD r []).length = xs.length ∧ ∀ k, k < xs.length → inR (at2 R r k) (-1000000) 1000000 = true) := hid (fun r hr => by
                    by_cases e : r = i
                    · subst e; exact ⟨by rw [← HRI.out]; exact HRL.out, HK.out⟩
                    · exact HR.out r (by omega))
                  clear hlk
                  go_wp2_with fail
                  go_roundw
                  case measure => simp only [intOf]; have := HLT.out; omega
                  case rel => exact ⟨i + 1, H, by go_num, rfl, ⟨hH1, hH2⟩, by have := HLT.out; omega, HG4, HR4, trivial⟩
            · have S1 : ((ri.length : Int) == (xs.length : Int)) = false := by rw [beq_eq_false_iff_ne]; omega
              have S2 : ((ri.length : Int) != (xs.length : Int)) = true := by rw [bne, S1]; rfl
              have HE : Hid (shapeB xs R d = false) := hid (HNO.out fun h => hrl (by rw [HRI.out]; exact (h.2.2.2.1 i hlt).1))
              clear hlt hrl fu hru
              go_wp2_with fail
              go_ret
              exact ⟨retB HE.out.symm, HB.out⟩
          · obtain rfl : i = R.length := by omega
            have hge : ¬ (R.length : Int) < (R.length : Int) := by omega
            have hGF := HG.out
            rw [List.take_length] at hGF
            have HGF := hid hGF
            by_cases hg1 : G = 1
            · have HE : Hid (shapeB xs R d = true) := hid (HYES.out ⟨HF.out, HL.out, HDI.out, HR.out, by have := HGF.out; omega⟩)
              subst hg1
              clear hlt hGF
              go_wp2_with fail
              go_ret
              exact ⟨retB HE.out.symm, HB.out⟩
            · have HE : Hid (shapeB xs R d = false) := hid (HNO.out fun h => hg1 (by have := HGF.out; rw [h.2.2.2.2] at this; exact this))
              have S1 : (G == 1) = false := by rw [beq_eq_false_iff_ne]; exact hg1
              clear hlt hGF hg1
              go_wp2_with fail
              go_ret
              exact ⟨retB HE.out.symm, HB.out⟩
    · have HE : Hid (shapeB xs R d = false) := hid (shape_no fun h => hl h.2.1)
      have T1 : ((R.length : Int) == (xs.length : Int)) = false := by rw [beq_eq_false_iff_ne]; omega
      have T2 : ((R.length : Int) != (xs.length : Int)) = true := by rw [bne, T1]; rfl
      clear hf hl hfv hl3 hl1
      go_enter Try.func47, Try.ntmps47
      go_wp2_with (go_at_call 49; refine (l7Form_any _ xs _ HX.out).mono ?_; rw [HF.out]; rintro e w' ⟨rfl, rfl⟩)
      go_ret
      exact ⟨retB HE.out.symm, HB.out⟩

end Go.Proofs.Ytjabklpnohfjpab

/-! Mx3 -/
set_option linter.unusedVariables false
namespace Go.Proofs.Ytjabklpnohfjpab
open Go.RowKit

def prS (xs : List Int) (R : List (List Int)) (i k : Nat) : Nat → Int := fun r => fF xs r * at2 R r i * at2 R r k
def prP (xs : List Int) (R : List (List Int)) (d : Int) (i k : Nat) : Prop := sumF (prS xs R i k) xs.length = if i = k then fF xs i * d * d else 0
theorem prS_comm (xs : List Int) (R : List (List Int)) (i k : Nat) : sumF (prS xs R i k) xs.length = sumF (prS xs R k i) xs.length := sumF_congr fun r _ => Int.mul_right_comm ..
theorem prP_comm {xs : List Int} {R : List (List Int)} {d : Int} {i k : Nat} (h : prP xs R d i k) : prP xs R d k i := by
  unfold prP at *
  rw [prS_comm, h]
  by_cases e : i = k
  · rw [if_pos e, if_pos e.symm, e]
  · rw [if_neg e, if_neg fun h => e h.symm]
theorem move_yes {xs : List Int} {R : List (List Int)} {d : Int} (hs : shapeB xs R d = true) (h : ∀ i, i < xs.length → ∀ k, k ≤ i → prP xs R d i k) : moveB xs R d = true := by
  unfold moveB orthB
  rw [hs, Bool.true_and, List.all_eq_true]
  intro i hi
  rw [List.all_eq_true]
  intro k hk
  rw [decide_eq_true_eq]
  rw [List.mem_range] at hi hk
  rcases Nat.le_total k i with e | e
  · exact h i hi k e
  · exact prP_comm (h k hk i e)
theorem move_no {xs : List Int} {R : List (List Int)} {d : Int} {i k : Nat} (hi : i < xs.length) (hk : k < xs.length) (h : ¬ prP xs R d i k) : moveB xs R d = false := by
  cases e : moveB xs R d with
  | false => rfl
  | true => exact absurd ((moveB_iff.1 e).orth i k hi hk) h
theorem shape_facts {xs : List Int} {R : List (List Int)} {d : Int} (hs : shapeB xs R d = true) : fvB xs = true ∧ xs.length ≤ 3 ∧ R.length = xs.length ∧ (1 ≤ d ∧ d ≤ 10000) ∧ ∀ i, i < xs.length → (R.getD i []).length = xs.length ∧ ∀ k, k < xs.length → -1000000 ≤ at2 R i k ∧ at2 R i k ≤ 1000000 := by
  obtain ⟨h1, h2, h3, h4, _⟩ := shape_iff.1 hs
  unfold frm3B at h1
  rw [Bool.and_eq_true, decide_eq_true_eq] at h1
  exact ⟨h1.1, h1.2, h2, inR_iff9.1 h3, fun i hi => ⟨(h4 i (by omega)).1, fun k hk => inR_iff9.1 ((h4 i (by omega)).2 k hk)⟩⟩
/-- a row's cells -/
theorem row_cells {W : World} {b o n cap : Nat} {R : List (List Int)} (h : RdM W (.slice (some ⟨b, o, none⟩) n cap) R) {t m : Nat} (ht : t < R.length) (hm : 0 < m) (hl : (R.getD t []).length = m) : ∃ b2 o2 c2, W.cell? ⟨b, o + t, none⟩ = some (.slice (some ⟨b2, o2, none⟩) m c2) ∧ ∀ i, i < m → W.cell? ⟨b2, o2 + i, none⟩ = some (.int .i64 (at2 R t i)) := by
  obtain ⟨b', o', u, e, hc, hr⟩ := h.row ht
  cases e
  obtain ⟨a, c2, rfl, hf⟩ := hr.form
  obtain ⟨b2, o2, rfl, _, hcc⟩ := hf (by omega)
  rw [hl] at hc hcc
  exact ⟨b2, o2, c2, hc, hcc⟩

set_option maxRecDepth 100000 in
set_option maxHeartbeats 4000000 in
theorem moveValidS_any (vf v : Value) (xs : List Int) (R : List (List Int)) (d : Int) (w : World) (hx : Rd w vf xs) (hm : RdM w v R) : Calls Try.prog 14 #[vf, .agg #[v, .int .i64 d]] w fun e w' => e = .returned (.bool (moveB xs R d)) ∧ Below w.heap.size w w' := by
  obtain ⟨a, cap, rfl⟩ := hm.form
  obtain ⟨ax, cx, rfl, _⟩ := hx.form
  have hB0 := below_box2 w (.cells #[.slice a R.length cap, .int .i64 d] 29)
  have e0 := heap_alloc_new w (.cells #[.slice a R.length cap, .int .i64 d] 29)
  have c0 : (w.alloc (.cells #[.slice a R.length cap, .int .i64 d] 29)).cell? ⟨w.heap.size, 0, none⟩ = some (.slice a R.length cap) := cellB e0
  have c1 : (w.alloc (.cells #[.slice a R.length cap, .int .i64 d] 29)).cell? ⟨w.heap.size, 1, none⟩ = some (.int .i64 d) := cellB e0
  have HX := hid (hx.keep hB0)
  have HM := hid (hm.keep hB0)
  have HB := hid hB0
  have HS := hid (fun (wx : World) (h1 : Rd wx (.slice ax xs.length cx) xs) (h2 : RdM wx (.slice a R.length cap) R) => l7Shape_any (.slice ax xs.length cx) (.slice a R.length cap) xs R d wx h1 h2)
  clear hx hm hB0 e0
  cases hs : shapeB xs R d with
  | false =>
    have HE : Hid (moveB xs R d = false) := hid (by unfold moveB; rw [hs]; rfl)
    rw [hs] at HS
    clear hs
    go_enter Try.func14, Try.ntmps14
    go_wp2_with (go_at_call 47; refine (HS.out _ HX.out HM.out).mono ?_; rintro e w2 ⟨rfl, hb2⟩)
    go_ret
    exact ⟨retB HE.out.symm, HB.out.trans (hb2.mono HB.out.size)⟩
  | true =>
    have HSH := hid hs
    obtain ⟨hfv, hl3, hRl, ⟨d1, d2⟩, hrow⟩ := shape_facts hs
    have hl1 := (fvB_iff.1 hfv).2.1
    have hbx : ∀ i, i < xs.length → -30 ≤ fF xs i ∧ fF xs i ≤ 30 := fun i hi => (fv_at hfv hi).2
    have HBXX := hid hbx
    have HROW := hid hrow
    have HRL := hid hRl
    obtain ⟨b, o, _, rfl, _, _⟩ := HM.out.row (i := 0) (by omega)
    have HYES := hid (fun h => move_yes (R := R) (d := d) hs h)
    have HNO := hid (fun i k hi hk h => move_no (xs := xs) (R := R) (d := d) (i := i) (k := k) hi hk h)
    rw [hs] at HS
    clear hs hfv hRl hrow hbx
    go_enter Try.func14, Try.ntmps14
    go_wp2_with (go_at_call 47; refine (HS.out _ HX.out HM.out).mono ?_; rintro e w2 ⟨rfl, hb2⟩; have c2 := cell_later hb2 c0; have c3 := cell_later hb2 c1; have HX2 := hid (HX.out.keep hb2); have HM2 := hid (HM.out.keep hb2); have HB2 := hid (HB.out.trans (hb2.mono HB.out.size)); clear hb2 c0 c1)
    go_loopw [5, 6, 7, 8] (fun si sk ss sr wr => ∃ (i q : Nat), si = .int .i64 i ∧ i ≤ xs.length ∧ Hid (∀ p, p < i → ∀ k, k ≤ p → prP xs R d p k) ∧ wr = w2.drewN q) (fun si _ _ _ _ => xs.length - (intOf si).toNat)
    case atStart => exact ⟨0, 0, rfl, by omega, hid (fun p hp => by omega), rfl⟩
    case round =>
      obtain ⟨i, q, rfl, hi, HP, rfl⟩ := hrel
      by_cases hlt : i < xs.length
      · have hlti : (i : Int) < (xs.length : Int) := by omega
        have hi3 : (i : Int) ≤ 3 := by omega
        have HLT := hid hlt
        clear hlt hi
        go_wp2_with fail
        go_loopw [6, 7, 8] (fun sk ss sr wr => ∃ (k q : Nat), sk = .int .i64 k ∧ k ≤ i + 1 ∧ Hid (∀ p, p < k → prP xs R d i p) ∧ wr = w2.drewN q) (fun sk _ _ _ => i + 1 - (intOf sk).toNat)
        case atStart => exact ⟨0, q, rfl, by omega, hid (fun p hp => by omega), rfl⟩
        case round =>
          obtain ⟨k, q2, rfl, hk, HK, rfl⟩ := hrel
          by_cases hlk : k ≤ i
          · have hlki : (k : Int) ≤ (i : Int) := by omega
            have HLK := hid hlk
            clear hlk hk
            go_wp2_with fail
            go_loopw [7, 8] (fun ss sr wr => ∃ (t q : Nat) (S : Int), sr = .int .i64 t ∧ ss = .int .i64 S ∧ t ≤ xs.length ∧ Hid (S = sumF (prS xs R i k) t) ∧ (-30000000000000 * (t : Int) ≤ S ∧ S ≤ 30000000000000 * (t : Int)) ∧ wr = w2.drewN q) (fun _ sr _ => xs.length - (intOf sr).toNat)
            case atStart => exact ⟨0, q2, 0, rfl, rfl, by omega, hid rfl, by omega, rfl⟩
            case round =>
              obtain ⟨t, q3, S, rfl, rfl, ht, HSM, ⟨hS1, hS2⟩, rfl⟩ := hrel
              have hm2 := HM2.out
              have hx2 := HX2.out
              by_cases hlr : t < xs.length
              · obtain ⟨b2, o2, cc, hrc, hce⟩ := row_cells hm2 (t := t) (by have := HRL.out; omega) (show 0 < xs.length by omega) (HROW.out t hlr).1
                have hki := HLK.out
                have hil := HLT.out
                have e1 := hce i hil
                have e2 := hce k (by omega)
                obtain ⟨ax2, cx2, ex, hfx⟩ := hx2.form
                simp only [Value.slice.injEq, true_and] at ex
                obtain ⟨rfl, rfl⟩ := ex
                obtain ⟨bx, ox, rfl, _, hxc⟩ := hfx (by omega)
                have e3 := hxc t hlr
                have bd1 := (HROW.out t hlr).2 i hil
                have bd2 := (HROW.out t hlr).2 k (by omega)
                have bd3 := HBXX.out t hlr
                have bd4 := term_bd7 bd3.1 bd3.2 bd1.1 bd1.2 bd2.1 bd2.2
                have HST := hid (show sumF (prS xs R i k) (t + 1) = sumF (prS xs R i k) t + fF xs t * at2 R t i * at2 R t k from rfl)
                obtain ⟨f, hf⟩ : ∃ f, f = xs.getD t 0 := ⟨_, rfl⟩
                have hf2 : fF xs t = f := by rw [hf]; rfl
                rw [← hf] at e3
                rw [hf2] at bd3 bd4 HST
                obtain ⟨x, hxe⟩ : ∃ x, x = at2 R t i := ⟨_, rfl⟩
                obtain ⟨y, hye⟩ : ∃ y, y = at2 R t k := ⟨_, rfl⟩
                rw [← hxe] at e1 bd1 bd4 HST
                rw [← hye] at e2 bd2 bd4 HST
                obtain ⟨g1, g2, g3, g4⟩ := bd4
                obtain ⟨g5, g6⟩ := bd1
                obtain ⟨g7, g8⟩ := bd2
                obtain ⟨g9, g10⟩ := bd3
                have hti : (t : Int) < (xs.length : Int) := by omega
                have htr : (t : Int) < (R.length : Int) := by have := HRL.out; omega
                have hkx : (k : Int) < (xs.length : Int) := by omega
                have HLR := hid hlr
                have hS3 : -100000000000000 ≤ S := by omega
                have hS4 : S ≤ 100000000000000 := by omega
                have HS12 := hid (And.intro hS1 hS2)
                clear hlr hce hfx hxc hf hf2 hxe hye hm2 hx2 hS1 hS2
                go_wp2_with fail
                go_quiet (fail)
                go_wp2_with fail
                go_roundw
                case measure => simp only [intOf]; have := HLR.out; omega
                case rel =>
                  have hS := HS12.out
                  exact ⟨t + 1, _, _, by go_num, rfl, by have := HLR.out; omega, hid (by rw [HST.out, HSM.out]), by omega, by first | rfl | exact World.drewN_drewN ..⟩
              · obtain rfl : t = xs.length := by omega
                have hil := HLT.out
                have hx2 := HX2.out
                obtain ⟨ax2, cx2, ex, hfx⟩ := hx2.form
                simp only [Value.slice.injEq, true_and] at ex
                obtain ⟨rfl, rfl⟩ := ex
                obtain ⟨bx, ox, rfl, _, hxc⟩ := hfx (by omega)
                have e3 := hxc i hil
                have hge : ¬ (xs.length : Int) < (xs.length : Int) := by omega
                have hS3 : -100000000000000 ≤ S := by omega
                have hS4 : S ≤ 100000000000000 := by omega
                by_cases hki : k = i
                · subst hki
                  obtain ⟨f, hf⟩ : ∃ f, f = xs.getD k 0 := ⟨_, rfl⟩
                  have hf2 : fF xs k = f := by rw [hf]; rfl
                  have bd3 := HBXX.out k hil
                  rw [← hf] at e3
                  rw [hf2] at bd3
                  obtain ⟨g1, g2, g3, g4⟩ := term_bd7 bd3.1 bd3.2 (v := d) (u := d) (by omega) (by omega) (by omega) (by omega)
                  have HPQ : Hid (prP xs R d k k ↔ S = f * d * d) := hid (by unfold prP; rw [if_pos rfl, hf2, HSM.out])
                  obtain ⟨g9, g10⟩ := bd3
                  by_cases hq : S = f * d * d
                  · have HPK : Hid (∀ p, p < k + 1 → prP xs R d k p) := hid (fun p hp => by
                      by_cases e : p = k
                      · subst e; exact HPQ.out.2 hq
                      · exact HK.out p (by omega))
                    subst hq
                    clear hfx hxc hf hf2 hx2 ht hS1 hS2
                    go_wp2_with fail
                    go_quiet (fail)
                    go_wp2_with fail
                    go_roundw
                    case measure => simp only [intOf]; omega
                    case rel => exact ⟨k + 1, _, by go_num, by omega, HPK, by first | rfl | exact World.drewN_drewN ..⟩
                  · have HE : Hid (moveB xs R d = false) := hid (HNO.out k k hil hil fun h => hq (HPQ.out.1 h))
                    have T1 : (S == f * d * d) = false := by rw [beq_eq_false_iff_ne]; exact hq
                    have T2 : (S != f * d * d) = true := by rw [bne, T1]; rfl
                    clear hfx hxc hf hf2 hx2 ht hS1 hS2 hq
                    go_wp2_with fail
                    go_quiet (fail)
                    go_wp2_with fail
                    go_ret
                    exact ⟨retB HE.out.symm, below_drewN (below_drewN HB2.out _) _⟩
                · have hkl := HLK.out
                  have T0 : ((i : Int) == (k : Int)) = false := by rw [beq_eq_false_iff_ne]; omega
                  have T3 : ((i : Int) != (k : Int)) = true := by rw [bne, T0]; rfl
                  have HPQ : Hid (prP xs R d i k ↔ S = 0) := hid (by unfold prP; rw [if_neg (fun h => hki h.symm), HSM.out])
                  by_cases hq : S = 0
                  · have HPK : Hid (∀ p, p < k + 1 → prP xs R d i p) := hid (fun p hp => by
                      by_cases e : p = k
                      · subst e; exact HPQ.out.2 hq
                      · exact HK.out p (by omega))
                    subst hq
                    clear hfx hxc hx2 ht hS1 hS2 hki
                    go_wp2_with fail
                    go_quiet (fail)
                    go_wp2_with fail
                    go_roundw
                    case measure => simp only [intOf]; omega
                    case rel => exact ⟨k + 1, _, by go_num, by omega, HPK, by first | rfl | exact World.drewN_drewN ..⟩
                  · have HE : Hid (moveB xs R d = false) := hid (HNO.out i k hil (by omega) fun h => hq (HPQ.out.1 h))
                    have T1 : (S == 0) = false := by rw [beq_eq_false_iff_ne]; exact hq
                    have T2 : (S != 0) = true := by rw [bne, T1]; rfl
                    clear hfx hxc hx2 ht hS1 hS2 hq hki
                    go_wp2_with fail
                    go_quiet (fail)
                    go_wp2_with fail
                    go_ret
                    exact ⟨retB HE.out.symm, below_drewN (below_drewN HB2.out _) _⟩
          · have hke : k = i + 1 := by omega
            have HPI : Hid (∀ p, p < i + 1 → ∀ k, k ≤ p → prP xs R d p k) := hid (fun p hp k' hk' => by
              by_cases e : p = i
              · subst e; exact HK.out k' (by omega)
              · exact HP.out p (by omega) k' hk')
            have hge : ¬ (k : Int) ≤ (i : Int) := by omega
            clear hke hlk
            go_wp2_with fail
            go_roundw
            case measure => simp only [intOf]; have := HLT.out; omega
            case rel => exact ⟨i + 1, q2, by go_num, by have := HLT.out; omega, HPI, by first | rfl | exact World.drewN_drewN ..⟩
      · have HE : Hid (moveB xs R d = true) := hid (HYES.out fun p hp k hk => HP.out p (by omega) k hk)
        have hge : ¬ (i : Int) < (xs.length : Int) := by omega
        clear hlt
        go_wp2_with fail
        go_ret
        exact ⟨retB HE.out.symm, below_drewN HB2.out _⟩

end Go.Proofs.Ytjabklpnohfjpab

/-! Mx4 -/
set_option linter.unusedVariables false
namespace Go.Proofs.Ytjabklpnohfjpab
open Go.RowKit

theorem low_bd {x g : Int} {m : Nat} (h1 : -(m : Int) ≤ x) (h2 : x ≤ (m : Int)) : -(m : Int) ≤ x.tdiv g ∧ x.tdiv g ≤ (m : Int) := by
  have h : (x.tdiv g).natAbs ≤ m := by
    rw [Int.natAbs_tdiv]
    exact Nat.le_trans (Nat.div_le_self ..) (by omega)
  omega
theorem gM_head {R : List (List Int)} {d : Int} (h : d ≠ 0) : (gM R d).natAbs ≤ d.natAbs := by
  unfold gM
  rw [Int.natAbs_mul, Int.natAbs_natCast]
  have h1 : (sgF d).natAbs = 1 := by rcases sgF_pm d with e | e <;> rw [e] <;> rfl
  rw [h1, Nat.one_mul]
  exact gcd_head h
theorem lowR_take {R : List (List Int)} {g : Int} {i : Nat} (h : i < R.length) : (R.take (i + 1)).map (fun r => r.map (fun x => x.tdiv g)) = (R.take i).map (fun r => r.map (fun x => x.tdiv g)) ++ [(R.getD i []).map (fun x => x.tdiv g)] := by
  have e : R.take (i + 1) = R.take i ++ [R.getD i []] := by
    rw [List.take_add_one, List.getD_eq_getElem?_getD, List.getElem?_eq_getElem h]; rfl
  rw [e, List.map_append]; rfl
theorem row_take {l : List Int} {g : Int} {k : Nat} (h : k < l.length) : (l.take (k + 1)).map (fun x => x.tdiv g) = (l.take k).map (fun x => x.tdiv g) ++ [(l.getD k 0).tdiv g] := by
  rw [takeD_snoc h, List.map_append]; rfl

theorem heap_two0 {w : World} {g : Nat} {a b v : Value} {t : TypeId} (h : w.heap[g]? = some (.cells #[a, b] t (0, 0))) : (w.setCell ⟨g, 0, none⟩ v).heap[g]? = some (.cells #[v, b] t (0, 0)) := heap_setCell_same w g 0 _ t v h
theorem heap_two1 {w : World} {g : Nat} {a b v : Value} {t : TypeId} (h : w.heap[g]? = some (.cells #[a, b] t (0, 0))) : (w.setCell ⟨g, 1, none⟩ v).heap[g]? = some (.cells #[a, v] t (0, 0)) := heap_setCell_same w g 1 _ t v h

set_option maxRecDepth 100000 in
set_option maxHeartbeats 8000000 in
theorem l7Low_any (v : Value) (R : List (List Int)) (d : Int) (w : World) (hm : RdM w v R) (hd : d ≠ 0) (hd1 : -1000000000000000 ≤ d) (hd2 : d ≤ 1000000000000000) (hl1 : 1 ≤ R.length) (hl3 : R.length ≤ 4) (hr : ∀ i, i < R.length → 1 ≤ (R.getD i []).length ∧ (R.getD i []).length ≤ 4) (hb : ∀ i k, -1000000000000000 ≤ at2 R i k ∧ at2 R i k ≤ 1000000000000000) :
    Calls Try.prog 56 #[v, .int .i64 d] w fun e w' => ∃ u, e = .returned (.agg #[u, .int .i64 (lowD R d)]) ∧ OwnM w' w.heap.size none u (lowR R d) ∧ Below w.heap.size w w' := by
  obtain ⟨i0, hi0, hz0, hz1, hz2⟩ := info_parts infoInt
  obtain ⟨i1, hi1, hy0, hy1, hy2⟩ := info_parts infoRow
  obtain ⟨a, cap, rfl⟩ := hm.form
  obtain ⟨b, o, _, rfl, _, _⟩ := hm.row (i := 0) (by omega)
  have hB0 := below_box2 w (.cells #[.slice none 0 0, .int .i64 0] 29)
  have HE0 := hid (heap_alloc_new w (.cells #[.slice none 0 0, .int .i64 0] 29))
  have HM := hid (hm.keep hB0)
  have HB := hid hB0
  have HR := hid hr
  have HBD := hid hb
  have HGL := hid (gM_head (R := R) hd)
  have HGN := hid (gM_ne (R := R) hd)
  have HD := hid hd
  clear hm hB0 hr hb
  go_enter Try.func56, Try.ntmps56
  go_wp2_with fail
  go_loopw [5, 6, 7] (fun sg si sk wr => ∃ (i : Nat) (G : Int), si = .int .i64 i ∧ sg = .int .i64 G ∧ (-1000000000000000 ≤ G ∧ G ≤ 1000000000000000) ∧ i ≤ R.length ∧ Hid (G.natAbs = gcdL (d :: (R.take i).flatten)) ∧ Hid (0 < i → 0 ≤ G) ∧ wr = w.alloc (.cells #[.slice none 0 0, .int .i64 0] 29)) (fun _ si _ _ => R.length - (intOf si).toNat)
  case atStart => exact ⟨0, d, rfl, rfl, ⟨hd1, hd2⟩, by omega, hid (by show d.natAbs = gcdL [d]; rw [gcd_single]), hid (fun h => by omega), rfl⟩
  case round =>
    obtain ⟨i, G, rfl, rfl, ⟨hG1, hG2⟩, hi, HG, HG0, rfl⟩ := hrel
    by_cases hlt : i < R.length
    · obtain ⟨r1, r2⟩ := HR.out i hlt
      obtain ⟨b', o', u, e9, hcu, hru⟩ := HM.out.row hlt
      cases e9
      obtain ⟨ri, hri⟩ : ∃ ri, ri = R.getD i [] := ⟨_, rfl⟩
      rw [← hri] at hru r1 r2
      have HRI := hid hri
      obtain ⟨au, cu, rfl, fu⟩ := hru.form
      obtain ⟨b2, o2, rfl, _, hc2⟩ := fu (by omega)
      have HC2 := hid hc2
      have hlti : (i : Int) < (R.length : Int) := by omega
      have HLT := hid hlt
      clear hlt hri fu hru hc2
      go_wp2_with fail
      go_loopw [5, 7] (fun sg sk wr => ∃ (k : Nat) (H : Int), sk = .int .i64 k ∧ sg = .int .i64 H ∧ (-1000000000000000 ≤ H ∧ H ≤ 1000000000000000) ∧ k ≤ ri.length ∧ Hid (H.natAbs = gcdL (d :: ((R.take i).flatten ++ ri.take k))) ∧ Hid (0 < i + k → 0 ≤ H) ∧ wr = w.alloc (.cells #[.slice none 0 0, .int .i64 0] 29)) (fun _ sk _ => ri.length - (intOf sk).toNat)
      case atStart => exact ⟨0, G, rfl, rfl, ⟨hG1, hG2⟩, by omega, hid (by rw [List.take_zero, List.append_nil]; exact HG.out), hid (fun h => HG0.out (by omega)), rfl⟩
      case round =>
        obtain ⟨k, H, rfl, rfl, ⟨hH1, hH2⟩, hk, HH, HH0, rfl⟩ := hrel
        by_cases hlk : k < ri.length
        · have hcell := HC2.out k hlk
          have hxb := HBD.out i k
          have HX2 : Hid (ri.getD k 0 = at2 R i k) := hid (by rw [HRI.out]; rfl)
          rw [← HX2.out] at hxb
          obtain ⟨x, hx⟩ : ∃ x, x = ri.getD k 0 := ⟨_, rfl⟩
          have HTK := hid (takeD_snoc (xs := ri) (K := k) hlk)
          rw [← hx] at hcell HX2 hxb HTK
          obtain ⟨x1, x2⟩ := hxb
          have hG3 : Nat.gcd H.natAbs x.natAbs = gcdL (d :: ((R.take i).flatten ++ ri.take (k + 1))) := by
            rw [HTK.out, ← List.append_assoc, gcd_snoc2, HH.out]
          have HG3 := hid hG3
          have hle : gcdL (d :: ((R.take i).flatten ++ ri.take (k + 1))) ≤ d.natAbs := gcd_head HD.out
          rw [← hG3] at hle
          obtain ⟨N, hN⟩ : ∃ N, N = Nat.gcd H.natAbs x.natAbs := ⟨_, rfl⟩
          have HGC : Hid (∀ wx : World, Calls Try.prog 83 #[.int .i64 H, .int .i64 x] wx fun e w' => e = .returned (.int .i64 (N : Nat)) ∧ wx = w') := hid (fun wx => by rw [hN]; exact l1GcdM_any H x (by omega) (by omega) (by omega) (by omega) wx)
          rw [← hN] at HG3 hle
          have hlki : (k : Int) < (ri.length : Int) := by omega
          have HLK := hid hlk
          clear hx hlk hN hG3 HTK
          go_wp2_with (go_at_call 83; refine (HGC.out _).mono ?_; rintro e w' ⟨rfl, rfl⟩)
          go_roundw
          case measure => simp only [intOf]; have := HLK.out; omega
          case rel => exact ⟨k + 1, _, by go_num, rfl, by omega, by have := HLK.out; omega, hid (by rw [Int.natAbs_natCast, HG3.out]), hid (fun _ => by omega), trivial⟩
        · have hke : k = ri.length := by omega
          have HG4 : Hid (H.natAbs = gcdL (d :: (R.take (i + 1)).flatten)) := hid (by
            rw [flat_take HLT.out, HH.out, ← HRI.out, show ri.take k = ri from List.take_of_length_le (by omega)])
          have HG5 : Hid (0 < i + 1 → 0 ≤ H) := hid (fun _ => HH0.out (by omega))
          have hge : ¬ (k : Int) < (ri.length : Int) := by omega
          clear hlk hke
          go_wp2_with fail
          go_roundw
          case measure => simp only [intOf]; have := HLT.out; omega
          case rel => exact ⟨i + 1, H, by go_num, rfl, ⟨hH1, hH2⟩, by have := HLT.out; omega, HG4, HG5, trivial⟩
    · have hie : i = R.length := by omega
      subst hie
      have hGF := HG.out
      rw [List.take_length] at hGF
      have hg0 := HG0.out (by omega)
      have HGE : Hid (gM R d = if d < 0 then -G else G) := hid (by
        unfold gM sgF
        rw [← hGF]
        split <;> omega)
      have hge : ¬ (R.length : Int) < (R.length : Int) := by omega
      clear hlt hGF
      go_upto_if 38 with fail
      go_cut [5] (fun s5 wx => s5 = .int .i64 (gM R d) ∧ wx = w.alloc (.cells #[.slice none 0 0, .int .i64 0] 29))
      case first =>
        by_cases h0 : d < 0
        · have e : Hid (gM R d = -G) := hid (by rw [HGE.out, if_pos h0])
          go_wp2_with fail
          go_meet
          exact ⟨by rw [e.out], rfl⟩
        · have e : Hid (gM R d = G) := hid (by rw [HGE.out, if_neg h0])
          go_wp2_with fail
          go_meet
          exact ⟨by rw [e.out], rfl⟩
      case rest =>
        obtain ⟨rfl, rfl⟩ := hcut
        have hgn := HGN.out
        have hgl := HGL.out
        obtain ⟨g, hg⟩ : ∃ g, g = gM R d := ⟨_, rfl⟩
        have HLD : Hid (lowD R d = d.tdiv g) := hid (by rw [hg]; rfl)
        have HLR : Hid (lowR R d = R.map (fun r => r.map (fun x => x.tdiv g))) := hid (by rw [hg]; rfl)
        rw [← hg] at hgn hgl ⊢
        have T0 : (g == 0) = false := by rw [beq_eq_false_iff_ne]; exact hgn
        have hgb1 : -1000000000000000 ≤ g := by omega
        have hgb2 : g ≤ 1000000000000000 := by omega
        obtain ⟨q1, q2⟩ := low_bd (x := d) (g := g) (m := 1000000000000000) (by omega) (by omega)
        have hB0 := HB.out
        have hs0 : (w.alloc (.cells #[.slice none 0 0, .int .i64 0] 29)).heap.size = w.heap.size + 1 := by simp
        obtain ⟨W0, hW0⟩ : ∃ W0, W0 = w.alloc (.cells #[.slice none 0 0, .int .i64 0] 29) := ⟨_, rfl⟩
        have HE := HE0.out
        rw [← hW0] at HM HB HE hs0 ⊢
        have hB2 := ((Below.refl W0.heap.size W0).alloc (Nat.le_refl _) (.cells #[] 22)).alloc (by simp) (.cells #[.slice (some ⟨W0.heap.size, 0, none⟩) 0 0, .int .i64 (d.tdiv g)] 29)
        have HO0 := hid ((ownM_none W0 (some (W0.heap.size + 1)) (by intro e; have := Option.some.inj e; omega)).keep ((Below.refl _ _).alloc (Nat.le_refl _) (.cells #[.slice (some ⟨W0.heap.size, 0, none⟩) 0 0, .int .i64 (d.tdiv g)] 29)))
        have HOB0 : Hid (((W0.alloc (.cells #[] 22)).alloc (.cells #[.slice (some ⟨W0.heap.size, 0, none⟩) 0 0, .int .i64 (d.tdiv g)] 29)).heap[W0.heap.size + 1]? = some (.cells #[.slice (some ⟨W0.heap.size, 0, none⟩) 0 0, .int .i64 (d.tdiv g)] 29 (0, 0))) := hid (by
          have h := World.alloc_heap_new (W0.alloc (.cells #[] 22)) (.cells #[.slice (some ⟨W0.heap.size, 0, none⟩) 0 0, .int .i64 (d.tdiv g)] 29)
          rw [World.size_alloc] at h
          exact h)
        have HB2 := hid hB2
        have HES := hid HE
        have HWS := hid hs0
        clear hg HGN HGL HGE hW0 HE0 HE hs0 hB0 hB2
        go_wp2_with fail
        go_loopw [9, 10, 11] (fun si sr sk wr => ∃ (i : Nat) (u : Value), si = .int .i64 i ∧ i ≤ R.length ∧ Hid (OwnM wr W0.heap.size (some (W0.heap.size + 1)) u ((R.take i).map (fun r => r.map (fun x => x.tdiv g)))) ∧ Hid (wr.heap[W0.heap.size + 1]? = some (.cells #[u, .int .i64 (d.tdiv g)] 29 (0, 0))) ∧ Hid (Below W0.heap.size W0 wr) ∧ Hid (W0.heap.size + 2 ≤ wr.heap.size)) (fun si _ _ _ => R.length - (intOf si).toNat)
        case atStart => exact ⟨0, _, rfl, by omega, HO0, HOB0, HB2, hid (by simp)⟩
        case round =>
          obtain ⟨i, u, rfl, hi, HOW, HOB, HBW, HSZ⟩ := hrel
          rename World => wr
          by_cases hlt : i < R.length
          · obtain ⟨r1, r2⟩ := HR.out i hlt
            obtain ⟨b', o', uu, e9, hcu, hru⟩ := (HM.out.keep HBW.out).row hlt
            cases e9
            obtain ⟨ri, hri⟩ : ∃ ri, ri = R.getD i [] := ⟨_, rfl⟩
            rw [← hri] at hru r1 r2
            have HRI := hid hri
            have HRU := hid hru
            obtain ⟨au, cu, rfl, fu⟩ := hru.form
            obtain ⟨b2, o2, rfl, _, _⟩ := fu (by omega)
            have hlti : (i : Int) < (R.length : Int) := by omega
            have HLT := hid hlt
            have HCU := hid hcu
            have HR0 : Hid (Owns (wr.alloc (.cells #[] 3)) wr.heap.size (.slice (some ⟨wr.heap.size, 0, none⟩) 0 0) []) := hid (World.ownsRow_made (size := 1) wr #[] 0 (Nat.le_refl _) (by unfold maxLen; omega) rfl)
            have HBR0 := hid ((Below.refl wr.heap.size wr).alloc (Nat.le_refl _) (.cells #[] 3))
            clear hlt hri fu hru hcu
            go_wp2_with fail
            go_loopw [10, 11] (fun sr sk wr' => ∃ k : Nat, sk = .int .i64 k ∧ k ≤ ri.length ∧ Hid (Owns wr' wr.heap.size sr ((ri.take k).map (fun x => x.tdiv g))) ∧ Hid (Below wr.heap.size wr wr')) (fun _ sk _ => ri.length - (intOf sk).toNat)
            case atStart => exact ⟨0, rfl, by omega, hid (by simpa using HR0.out), HBR0⟩
            case round =>
              obtain ⟨k, rfl, hk, HRW, HBR⟩ := hrel
              rename World => wq
              have hcu := cell_later HBR.out HCU.out
              by_cases hlk : k < ri.length
              · obtain ⟨aq, cq, eq, fq⟩ := (HRU.out.keep HBR.out).form
                simp only [Value.slice.injEq, true_and] at eq
                obtain ⟨rfl, rfl⟩ := eq
                obtain ⟨b3, o3, e3, _, hc3⟩ := fq (by omega)
                cases e3
                have hcell := hc3 k hlk
                have hxb := HBD.out i k
                have HX2 : Hid (ri.getD k 0 = at2 R i k) := hid (by rw [HRI.out]; rfl)
                rw [← HX2.out] at hxb
                have HTK := hid (row_take (l := ri) (g := g) hlk)
                obtain ⟨x, hx⟩ : ∃ x, x = ri.getD k 0 := ⟨_, rfl⟩
                rw [← hx] at hcell hxb HTK
                obtain ⟨y1, y2⟩ := low_bd (x := x) (g := g) (m := 1000000000000000) (by omega) (by omega)
                obtain ⟨x1, x2⟩ := hxb
                obtain ⟨pre, hpre⟩ : ∃ pre, pre = (ri.take k).map (fun x => x.tdiv g) := ⟨_, rfl⟩
                have hprel : pre.length ≤ 4 := by rw [hpre, List.length_map, List.length_take]; omega
                rw [← hpre] at HRW HTK
                have hlki : (k : Int) < (ri.length : Int) := by omega
                have HLK := hid hlk
                have hbs : wr.heap.size ≤ wq.heap.size := HBR.out.size
                clear hx hlk hpre fq hc3 HX2
                have hi := hi0
                go_wp2_with (at_builtin; refine wpList_append_own_at _ rfl _ _ 22 rfl wr.heap.size 3 i0 (.int .i64 0) 1 8 Try.underlying22 hi hz0 hz1 hz2 rfl (by decide) _ _ _ rfl ((show World.ownsRow _ _ _ _ _ _ _ from HRW.out).alloc _) ⟨wq.heap.size, 0, none⟩ 1 1 [.int .i64 (x.tdiv g)] rfl rfl (cell_one_new _ _ _) (by simp [Value.oneCell']) (by unfold maxLen; omega) (by omega) (by simp; omega) ?_; intro v' w3 hown' hgrow _ hat)
                have hsg := hgrow.size
                simp only [World.size_alloc] at hsg
                go_roundw
                case measure => simp only [intOf]; have := HLK.out; omega
                case rel =>
                  refine ⟨k + 1, by go_num, by have := HLK.out; omega, hid ?_, hid (HBR.out.alloc hbs _ |>.grown hgrow (by simp; omega) (fun k e => (HRW.out.ge k e)))⟩
                  rw [HTK.out]
                  unfold Owns
                  simpa using hown'
              · have hke : k = ri.length := by omega
                have HRF : Hid (Owns wq wr.heap.size _ (ri.map (fun x => x.tdiv g))) := hid (by have h := HRW.out; rw [List.take_of_length_le (by omega)] at h; exact h)
                have hge : ¬ (k : Int) < (ri.length : Int) := by omega
                obtain ⟨ar, cr, rfl⟩ := HRF.out.reads
                rw [List.length_map] at HRF
                have hbs : wr.heap.size ≤ wq.heap.size := HBR.out.size
                obtain ⟨P, hP⟩ : ∃ P, P = (R.take i).map (fun r => r.map (fun x => x.tdiv g)) := ⟨_, rfl⟩
                have hPl : P.length ≤ 4 := by rw [hP, List.length_map, List.length_take]; omega
                have HTR := hid (lowR_take (R := R) (g := g) HLT.out)
                rw [← HRI.out, ← hP] at HTR
                rw [← hP] at HOW
                have hsw := HBW.out.size
                obtain ⟨vals, SN⟩ := ownM_snoc HOW.out HBR.out hsw HRF.out (fun k e => by have := Option.some.inj e; have := HSZ.out; omega)
                have HSN := hid SN
                have hob := (HBR.out.block (W0.heap.size + 1) (by have := HSZ.out; omega)).trans HOB.out
                have HQB := hid hob
                have cq0 := cellB (i := 0) hob
                have HUN := hid (fun e : u.ownBlock = some (W0.heap.size + 1) => (HOW.out.lt _ e).2.2 rfl)
                have HQS : Hid (W0.heap.size + 2 ≤ wq.heap.size) := hid (Nat.le_trans HSZ.out hbs)
                clear SN hP hke hlk hob
                go_wp2_with (at_builtin; refine wpList_append_own_at _ rfl _ _ 23 rfl W0.heap.size 22 i1 (.slice none 0 0) 1 24 Try.underlying23 hi1 hy0 hy1 hy2 rfl (by decide) _ _ _ rfl ((show World.ownsRow wq _ _ _ _ _ _ from HSN.out.row).alloc _) ⟨wq.heap.size, 0, none⟩ 1 1 [.slice ar ri.length cr] rfl rfl (cell_one_new _ _ _) (by simp [Value.oneCell']) (by unfold maxLen; omega) (by omega) (by simp; omega) ?_; intro v' w3 hown' hgrow _ hat; have hsn := HSN.out.fin _ _ _ hown' hgrow hat; obtain ⟨av, cv, rfl⟩ := hsn.rd.form; have HSG := hid hgrow; have hob3 := (hgrow.block (W0.heap.size + 1) (by simp; have := HQS.out; omega) (fun e => HUN.out e.symm)).trans ((Below.heap_alloc _ _ _ (by have := HQS.out; omega)).trans HQB.out); have cb := cellB (i := 0) hob3; have fb := frozenB (i := 0) hob3; have HOB3 := hid hob3; have HSN3 := hid hsn; clear hown' hat hsn hob3 hgrow)
                go_roundw
                case measure => simp only [intOf]; have := HLT.out; omega
                case rel =>
                  have hbq := HBW.out.trans (HBR.out.mono hsw)
                  have hsg := HSG.out.size
                  simp only [World.size_alloc] at hsg
                  refine ⟨i + 1, _, by go_num, by have := HLT.out; omega, hid ?_, hid (heap_two0 HOB3.out), hid ?_, hid ?_⟩
                  · rw [HTR.out]
                    have h := HSN3.out.setLow (a := ⟨W0.heap.size + 1, 0, none⟩) (.inr rfl) (.slice av (P.length + 1) cv)
                    rw [List.length_append] at h
                    exact h
                  · exact ((hbq.alloc hbq.size _).grown HSG.out (by simp; omega) (fun k e => (HOW.out.lt k e).1)).setCell (by show W0.heap.size ≤ W0.heap.size + 1; omega) _
                  · have := HQS.out
                    simp
                    omega
          · have hie : i = R.length := by omega
            obtain ⟨ufa, ufc, rfl⟩ := HOW.out.rd.form
            have HOF := HOW.out
            rw [List.take_of_length_le (by omega), ← HLR.out] at HOF
            have HOF2 := hid HOF
            have hob := HOB.out
            have cq0 := cellB (i := 0) hob
            have cq1 := cellB (i := 1) hob
            have hes := (HBW.out.block w.heap.size (by have := HWS.out; omega)).trans HES.out
            have cr0 := cellB (i := 0) hes
            have cr1 := cellB (i := 1) hes
            have fr0 := frozenB (i := 0) hes
            have fr1 := frozenB (i := 1) hes
            have HES2 := hid hes
            have hge : ¬ (i : Int) < (R.length : Int) := by omega
            have hne : W0.heap.size + 1 ≠ w.heap.size := by have := HWS.out; omega
            clear hlt HOF hob hes
            go_wp2_with fail
            refine bodyPost_ret (results_cell_row rfl _ _ w.heap.size 29 #[_, .int .i64 (d.tdiv g)] (0, 0) _ rfl (heap_two1 (heap_two0 HES2.out)) Try.underlying29 rfl (by kernel_rfl)) rfl ?_
            refine ⟨_, by rw [HLD.out], ?_, ?_⟩
            · have hws := HWS.out
              have hlow : w.heap.size < W0.heap.size := by omega
              have h := ((HOF2.out.setLow (a := ⟨w.heap.size, 0, none⟩) (.inl hlow) (.slice ufa R.length ufc)).setLow (a := ⟨w.heap.size, 1, none⟩) (.inl hlow) (.int .i64 (d.tdiv g))).free.down (Nat.le_of_lt hlow)
              have e : (lowR R d).length = R.length := by rw [HLR.out, List.length_map]
              first
                | exact h
                | (rw [e] at h; exact h)
            · exact ((HB.out.trans (HBW.out.mono HB.out.size)).setCell (Nat.le_refl _) _).setCell (Nat.le_refl _) _

end Go.Proofs.Ytjabklpnohfjpab

/-! Mx5 -/
set_option linter.unusedVariables false
namespace Go.Proofs.Ytjabklpnohfjpab
open Go.RowKit

def MovePost (o : Option (List (List Int) × Int)) (w : World) (e : Ending) (w' : World) : Prop := ∃ u, e = .returned (.tuple #[.agg #[u, .int .i64 (o.elim 0 (·.2))], .bool o.isSome]) ∧ OwnM w' w.heap.size none u (o.elim [] (·.1)) ∧ Below w.heap.size w w'
theorem matL_take (n : Nat) (M : Nat → Nat → Int) {i : Nat} (h : i < n) : (matL n M).take (i + 1) = (matL n M).take i ++ [rowL n (M i)] := by
  unfold matL
  rw [List.take_add_one, List.getElem?_map, List.getElem?_range h]
  rfl
theorem rowL_take (n : Nat) (f : Nat → Int) {k : Nat} (h : k < n) : (rowL n f).take (k + 1) = (rowL n f).take k ++ [f k] := by
  unfold rowL
  rw [List.take_add_one, List.getElem?_map, List.getElem?_range h]
  rfl
theorem matL_len (n : Nat) (M : Nat → Nat → Int) : (matL n M).length = n := by unfold matL; simp
theorem matL_row {n i : Nat} (M : Nat → Nat → Int) (h : i < n) : (matL n M).getD i [] = rowL n (M i) := by
  unfold matL
  rw [List.getD_eq_getElem?_getD, List.getElem?_map, List.getElem?_range h]
  rfl
theorem matL_bd {n : Nat} {M : Nat → Nat → Int} {m : Int} (hm : 0 ≤ m) (h : ∀ i k, i < n → k < n → -m ≤ M i k ∧ M i k ≤ m) (i k : Nat) : -m ≤ at2 (matL n M) i k ∧ at2 (matL n M) i k ≤ m := by
  by_cases hi : i < n
  · by_cases hk : k < n
    · rw [mat_at _ hi hk]; exact h i k hi hk
    · unfold at2
      rw [matL_row _ hi, List.getD_eq_getElem?_getD, List.getElem?_eq_none (by rw [row_len]; omega)]
      show -m ≤ 0 ∧ 0 ≤ m
      omega
  · unfold at2
    rw [show (matL n M).getD i [] = [] by rw [List.getD_eq_getElem?_getD, List.getElem?_eq_none (by rw [matL_len]; omega)]; rfl]
    show -m ≤ (0 : Int) ∧ (0 : Int) ≤ m
    omega
theorem mul_bd12 {x y : Int} (h1 : -1000000 ≤ x ∧ x ≤ 1000000) (h2 : -1000000 ≤ y ∧ y ≤ 1000000) : -1000000000000 ≤ x * y ∧ x * y ≤ 1000000000000 := by
  have e : (x * y).natAbs ≤ 1000000 * 1000000 := by rw [Int.natAbs_mul]; exact Nat.mul_le_mul (by omega) (by omega)
  omega
theorem sum_bd {f : Nat → Int} {m : Int} (hm : 0 ≤ m) : ∀ n, (∀ r, r < n → -m ≤ f r ∧ f r ≤ m) → -(m * n) ≤ sumF f n ∧ sumF f n ≤ m * n
  | 0, _ => by show -(m * 0) ≤ 0 ∧ 0 ≤ m * 0; omega
  | n + 1, h => by
    have h1 := sum_bd hm n fun r hr => h r (by omega)
    have h2 := h n (by omega)
    show -(m * ((n + 1 : Nat) : Int)) ≤ sumF f n + f n ∧ sumF f n + f n ≤ m * ((n + 1 : Nat) : Int)
    have e : m * ((n + 1 : Nat) : Int) = m * n + m := by push_cast; rw [Int.mul_add, Int.mul_one]
    omega
theorem MoveOk.at_bd {xs : List Int} {R : List (List Int)} {d : Int} (h : MoveOk xs R d) (i k : Nat) : -1000000 ≤ at2 R i k ∧ at2 R i k ≤ 1000000 := by
  unfold at2
  by_cases hi : i < R.length
  · have hm : R.getD i [] ∈ R := by rw [List.getD_eq_getElem?_getD, List.getElem?_eq_getElem hi]; exact List.getElem_mem _
    by_cases hk : k < (R.getD i []).length
    · have hx : (R.getD i []).getD k 0 ∈ R.getD i [] := by rw [List.getD_eq_getElem?_getD (l := R.getD i []), List.getElem?_eq_getElem hk]; exact List.getElem_mem _
      exact h.bd _ hm _ hx
    · rw [List.getD_eq_getElem?_getD (l := R.getD i []), List.getElem?_eq_none (by omega)]
      show -1000000 ≤ (0 : Int) ∧ (0 : Int) ≤ 1000000
      omega
  · rw [show R.getD i [] = [] by rw [List.getD_eq_getElem?_getD, List.getElem?_eq_none (by omega)]; rfl]
    show -1000000 ≤ (0 : Int) ∧ (0 : Int) ≤ 1000000
    omega
theorem MoveOk.row_len {xs : List Int} {R : List (List Int)} {d : Int} (h : MoveOk xs R d) {i : Nat} (hi : i < xs.length) : (R.getD i []).length = xs.length := by
  have hi2 : i < R.length := by rw [h.sq.1]; exact hi
  rw [List.getD_eq_getElem?_getD, List.getElem?_eq_getElem hi2]
  exact h.sq.2 _ (List.getElem_mem _)

theorem movePost_none {w W : World} {k : Nat} (hb : Below w.heap.size w W) (hk : w.heap.size ≤ k) (v0 v1 : Value) : MovePost none w (.returned (.tuple #[.agg #[.slice none 0 0, .int .i64 0], .bool false])) ((W.setCell ⟨k, 0, none⟩ v0).setCell ⟨k, 1, none⟩ v1) :=
  ⟨_, rfl, ownM_nil _ _ _, (hb.setCell hk _).setCell hk _⟩
theorem movePost_some {w W : World} {k B : Nat} {R : List (List Int)} {d : Int} {u : Value} (ho : OwnM W B none u R) (hb : Below w.heap.size w W) (hk : w.heap.size ≤ k) (hkB : k < B) (v0 v1 : Value) : MovePost (some (R, d)) w (.returned (.tuple #[.agg #[u, .int .i64 d], .bool true])) ((W.setCell ⟨k, 0, none⟩ v0).setCell ⟨k, 1, none⟩ v1) :=
  ⟨u, rfl, ((ho.setLow (a := ⟨k, 0, none⟩) (.inl hkB) v0).setLow (a := ⟨k, 1, none⟩) (.inl hkB) v1).down (by omega), (hb.setCell hk _).setCell hk _⟩

set_option maxRecDepth 100000 in
set_option maxHeartbeats 8000000 in
theorem moveMulS_any (vf va vb : Value) (xs : List Int) (A B : List (List Int)) (a b : Int) (w : World) (hx : Rd w vf xs) (hA : RdM w va A) (hB : RdM w vb B) : Calls Try.prog 27 #[vf, .agg #[va, .int .i64 a], .agg #[vb, .int .i64 b]] w (MovePost (mulV xs A a B b) w) := by
  obtain ⟨aa, ca, rfl⟩ := hA.form
  obtain ⟨ab, cb, rfl⟩ := hB.form
  obtain ⟨ax, cx, rfl, _⟩ := hx.form
  obtain ⟨W0, hW0⟩ : ∃ W0, W0 = ((w.alloc (.cells #[.slice aa A.length ca, .int .i64 a] 29)).alloc (.cells #[.slice ab B.length cb, .int .i64 b] 29)).alloc (.cells #[.slice none 0 0, .int .i64 0] 29) := ⟨_, rfl⟩
  have hB3 : Below w.heap.size w W0 := by rw [hW0]; exact (((Below.refl _ _).alloc (Nat.le_refl _) _).alloc (by simp) _).alloc (by simp; omega) _
  have hs0 : W0.heap.size = w.heap.size + 3 := by rw [hW0]; simp
  have h0 : W0.heap[w.heap.size]? = some (.cells #[.slice aa A.length ca, .int .i64 a] 29 (0, 0)) := by
    rw [hW0, Below.heap_alloc _ _ _ (by simp <;> omega), Below.heap_alloc _ _ _ (by simp)]
    exact World.alloc_heap_new w _
  have h1 : W0.heap[w.heap.size + 1]? = some (.cells #[.slice ab B.length cb, .int .i64 b] 29 (0, 0)) := by
    rw [hW0, Below.heap_alloc _ _ _ (by simp)]
    have h := World.alloc_heap_new (w.alloc (.cells #[.slice aa A.length ca, .int .i64 a] 29)) (.cells #[.slice ab B.length cb, .int .i64 b] 29)
    rw [World.size_alloc] at h
    exact h
  have h2 : W0.heap[w.heap.size + 2]? = some (.cells #[.slice none 0 0, .int .i64 0] 29 (0, 0)) := by
    rw [hW0]
    have h := World.alloc_heap_new ((w.alloc (.cells #[.slice aa A.length ca, .int .i64 a] 29)).alloc (.cells #[.slice ab B.length cb, .int .i64 b] 29)) (.cells #[.slice none 0 0, .int .i64 0] 29)
    rw [World.size_alloc, World.size_alloc] at h
    exact h
  have HX := hid (hx.keep hB3)
  have HA := hid (hA.keep hB3)
  have HBm := hid (hB.keep hB3)
  have HB := hid hB3
  have H0 := hid h0
  have H1 := hid h1
  have H2 := hid h2
  have HVA := hid (fun (wx : World) (h1 : Rd wx (.slice ax xs.length cx) xs) (h2 : RdM wx (.slice aa A.length ca) A) => moveValidS_any (.slice ax xs.length cx) (.slice aa A.length ca) xs A a wx h1 h2)
  have HVB := hid (fun (wx : World) (h1 : Rd wx (.slice ax xs.length cx) xs) (h2 : RdM wx (.slice ab B.length cb) B) => moveValidS_any (.slice ax xs.length cx) (.slice ab B.length cb) xs B b wx h1 h2)
  clear hx hA hB hB3
  have HW0 := hid hW0
  clear hW0 hs0 h0 h1 h2
  cases hva : moveB xs A a with
  | false =>
    have HE : Hid (mulV xs A a B b = none) := hid (by unfold mulV; rw [hva]; rfl)
    rw [hva] at HVA
    clear hva
    go_enter Try.func27, Try.ntmps27
    go_wp2_with fail
    refine (HVA.out _ (by rw [← HW0.out]; exact HX.out) (by rw [← HW0.out]; exact HA.out)).mono ?_
    rintro e w2 ⟨rfl, hb2⟩
    rw [← HW0.out] at hb2
    have HB2 := hid (HB.out.trans (hb2.mono HB.out.size))
    have hr2 := (hb2.block _ (Array.getElem?_eq_some_iff.1 H2.out).1).trans H2.out
    have x0 := cellB (i := 0) hr2
    have x1 := cellB (i := 1) hr2
    have y0 := frozenB (i := 0) hr2
    have y1 := frozenB (i := 1) hr2
    clear hb2 hr2
    go_wp2_with fail
    refine bodyPost_ret (v := .tuple #[.agg #[.slice none 0 0, .int .i64 0], .bool false]) (by simp [results, Try.results27, go_sem]; go_simp) rfl ?_
    rw [HE.out]
    exact movePost_none HB2.out (by omega) _ _
  | true =>
    have hMA := moveB_iff.1 hva
    rw [hva] at HVA
    cases hvb : moveB xs B b with
    | false =>
      have HE : Hid (mulV xs A a B b = none) := hid (by unfold mulV; rw [hva, hvb]; rfl)
      rw [hvb] at HVB
      clear hva hvb hMA
      go_enter Try.func27, Try.ntmps27
      go_wp2_with fail
      refine (HVA.out _ (by rw [← HW0.out]; exact HX.out) (by rw [← HW0.out]; exact HA.out)).mono ?_
      rintro e w2 ⟨rfl, hb2⟩
      rw [← HW0.out] at hb2
      have HB2 := hid hb2
      have hq2 := (hb2.block _ (Array.getElem?_eq_some_iff.1 H1.out).1).trans H1.out
      have z0 := cellB (i := 0) hq2
      have z1 := cellB (i := 1) hq2
      clear hb2 hq2
      go_wp2_with fail
      refine (HVB.out _ (HX.out.keep HB2.out) (HBm.out.keep HB2.out)).mono ?_
      rintro e w3 ⟨rfl, hb3⟩
      have hb23 := HB2.out.trans (hb3.mono HB2.out.size)
      have HB3 := hid (HB.out.trans (hb23.mono HB.out.size))
      have hr2 := (hb23.block _ (Array.getElem?_eq_some_iff.1 H2.out).1).trans H2.out
      have x0 := cellB (i := 0) hr2
      have x1 := cellB (i := 1) hr2
      have y0 := frozenB (i := 0) hr2
      have y1 := frozenB (i := 1) hr2
      clear hb3 hb23 hr2
      go_wp2_with fail
      refine bodyPost_ret (v := .tuple #[.agg #[.slice none 0 0, .int .i64 0], .bool false]) (by simp [results, Try.results27, go_sem]; go_simp) rfl ?_
      rw [HE.out]
      exact movePost_none HB3.out (by omega) _ _
    | true =>
      have hMB := moveB_iff.1 hvb
      obtain ⟨i0, hi0, hz0, hz1, hz2⟩ := info_parts infoInt
      obtain ⟨i1, hi1, hy0, hy1, hy2⟩ := info_parts infoRow
      have HMA := hid hMA
      have HMB := hid hMB
      have hn1 := (fvB_iff.1 hMA.form).2.1
      have hn3 := hMA.l3
      have HAL := hid hMA.sq.1
      have HBL := hid hMB.sq.1
      obtain ⟨da1, da2⟩ := hMA.den
      obtain ⟨db1, db2⟩ := hMB.den
      have hdab := mul_bd12 (x := a) (y := b) (by omega) (by omega)
      have hab1 : 1 ≤ a * b := Int.mul_pos (by omega) (by omega)
      obtain ⟨m1, m2⟩ := hdab
      obtain ⟨ba, oa, _, rfl, _, _⟩ := HA.out.row (i := 0) (by have := HAL.out; omega)
      obtain ⟨bb, ob, _, rfl, _, _⟩ := HBm.out.row (i := 0) (by have := HBL.out; omega)
      have HMV : Hid (mulV xs A a B b = tidyV xs (matL xs.length (mulF (at2 A) (at2 B) xs.length)) (a * b)) := hid (by unfold mulV; rw [hva, hvb]; rfl)
      rw [hvb] at HVB
      obtain ⟨M, hM⟩ : ∃ M, M = mulF (at2 A) (at2 B) xs.length := ⟨_, rfl⟩
      have HM := hid hM
      rw [← hM] at HMV
      have hpb : ∀ i k r, -1000000000000 ≤ at2 A i r * at2 B r k ∧ at2 A i r * at2 B r k ≤ 1000000000000 := fun i k r => mul_bd12 (hMA.at_bd i r) (hMB.at_bd r k)
      have HPB := hid hpb
      have hMbd : ∀ i k, -3000000000000 ≤ M i k ∧ M i k ≤ 3000000000000 := fun i k => by
        rw [hM]
        have h := sum_bd (f := fun r => at2 A i r * at2 B r k) (m := 1000000000000) (by omega) xs.length fun r _ => hpb i k r
        unfold mulF
        omega
      have HMBD := hid hMbd
      clear hva hvb hMA hMB hM hpb hMbd
      go_enter Try.func27, Try.ntmps27
      go_wp2_with fail
      refine (HVA.out _ (by rw [← HW0.out]; exact HX.out) (by rw [← HW0.out]; exact HA.out)).mono ?_
      rintro e w2 ⟨rfl, hb2⟩
      rw [← HW0.out] at hb2
      have HB2 := hid hb2
      have hq2 := (hb2.block _ (Array.getElem?_eq_some_iff.1 H1.out).1).trans H1.out
      have z0 := cellB (i := 0) hq2
      have z1 := cellB (i := 1) hq2
      clear hb2 hq2
      go_wp2_with fail
      refine (HVB.out _ (HX.out.keep HB2.out) (HBm.out.keep HB2.out)).mono ?_
      rintro e w3 ⟨rfl, hb3⟩
      have hb23 := HB2.out.trans (hb3.mono HB2.out.size)
      have HB3 := hid (HB.out.trans (hb23.mono HB.out.size))
      have HX3 := hid (HX.out.keep hb23)
      have HA3 := hid (HA.out.keep hb23)
      have HBm3 := hid (HBm.out.keep hb23)
      have H03 := hid ((hb23.block _ (Array.getElem?_eq_some_iff.1 H0.out).1).trans H0.out)
      have H13 := hid ((hb23.block _ (Array.getElem?_eq_some_iff.1 H1.out).1).trans H1.out)
      have H23 := hid ((hb23.block _ (Array.getElem?_eq_some_iff.1 H2.out).1).trans H2.out)
      have HOW0 := hid (ownM_none w3 none (by simp))
      have HBW0 := hid ((Below.refl w3.heap.size w3).alloc (Nat.le_refl _) (.cells #[] 22))
      clear hb3 hb23 z0 z1
      go_wp2_with fail
      go_loopw [8, 9, 10, 11, 12, 13] (fun su si sr sk ss st wr => ∃ i : Nat, si = .int .i64 i ∧ i ≤ xs.length ∧ Hid (OwnM wr w3.heap.size none su ((matL xs.length M).take i)) ∧ Hid (Below w3.heap.size w3 wr)) (fun _ si _ _ _ _ _ => xs.length - (intOf si).toNat)
      case atStart => exact ⟨0, rfl, by omega, HOW0, HBW0⟩
      case round =>
        obtain ⟨i, rfl, hi, HOW, HBW⟩ := hrel
        rename World => wr
        by_cases hlt : i < xs.length
        · have hlti : (i : Int) < (xs.length : Int) := by omega
          have HLT := hid hlt
          have HR0 : Hid (Owns (wr.alloc (.cells #[] 3)) wr.heap.size (.slice (some ⟨wr.heap.size, 0, none⟩) 0 0) []) := hid (World.ownsRow_made (size := 1) wr #[] 0 (Nat.le_refl _) (by unfold maxLen; omega) rfl)
          have HBR0 := hid ((Below.refl wr.heap.size wr).alloc (Nat.le_refl _) (.cells #[] 3))
          clear hlt hi
          go_wp2_with fail
          go_loopw [10, 11, 12, 13] (fun sr sk ss st wr' => ∃ k : Nat, sk = .int .i64 k ∧ k ≤ xs.length ∧ Hid (Owns wr' wr.heap.size sr ((rowL xs.length (M i)).take k)) ∧ Hid (Below wr.heap.size wr wr')) (fun _ sk _ _ _ => xs.length - (intOf sk).toNat)
          case atStart => exact ⟨0, rfl, by omega, hid (by simpa using HR0.out), HBR0⟩
          case round =>
            obtain ⟨k, rfl, hk, HRW, HBR⟩ := hrel
            rename World => wq
            have hb3q := HBW.out.trans (HBR.out.mono HBW.out.size)
            have h03 := (hb3q.block _ (Array.getElem?_eq_some_iff.1 H03.out).1).trans H03.out
            have h13 := (hb3q.block _ (Array.getElem?_eq_some_iff.1 H13.out).1).trans H13.out
            have p0 := cellB (i := 0) h03
            have p1 := cellB (i := 0) h13
            have HAQ := hid (HA3.out.keep hb3q)
            have HBQ := hid (HBm3.out.keep hb3q)
            by_cases hlk : k < xs.length
            · have hlki : (k : Int) < (xs.length : Int) := by omega
              have HLK := hid hlk
              clear hlk hk h03 h13 hb3q
              go_wp2_with fail
              go_loopw [12, 13] (fun ss st wr' => ∃ (t q : Nat) (S : Int), st = .int .i64 t ∧ ss = .int .i64 S ∧ t ≤ xs.length ∧ Hid (S = sumF (fun r => at2 A i r * at2 B r k) t) ∧ (-1000000000000 * (t : Int) ≤ S ∧ S ≤ 1000000000000 * (t : Int)) ∧ wr' = wq.drewN q) (fun _ st _ => xs.length - (intOf st).toNat)
              case atStart => exact ⟨0, 0, 0, rfl, rfl, by omega, hid rfl, by omega, rfl⟩
              case round =>
                obtain ⟨t, q, S, rfl, rfl, ht, HSM, ⟨hS1, hS2⟩, rfl⟩ := hrel
                by_cases hlr : t < xs.length
                · have hi := HLT.out
                  have hk := HLK.out
                  obtain ⟨b2, o2, c2, hrc, hce⟩ := row_cells HAQ.out (t := i) (by have := HAL.out; omega) (show 0 < xs.length by omega) (HMA.out.row_len hi)
                  obtain ⟨b3, o3, c3, hrd, hcf⟩ := row_cells HBQ.out (t := t) (by have := HBL.out; omega) (show 0 < xs.length by omega) (HMB.out.row_len hlr)
                  have e1 := hce t hlr
                  have e2 := hcf k hk
                  obtain ⟨g1, g2⟩ := HPB.out i k t
                  obtain ⟨g3, g4⟩ := HMA.out.at_bd i t
                  obtain ⟨g5, g6⟩ := HMB.out.at_bd t k
                  have HST := hid (show sumF (fun r => at2 A i r * at2 B r k) (t + 1) = sumF (fun r => at2 A i r * at2 B r k) t + at2 A i t * at2 B t k from rfl)
                  obtain ⟨x, hxe⟩ : ∃ x, x = at2 A i t := ⟨_, rfl⟩
                  obtain ⟨y, hye⟩ : ∃ y, y = at2 B t k := ⟨_, rfl⟩
                  rw [← hxe] at e1 g1 g2 g3 g4 HST
                  rw [← hye] at e2 g1 g2 g5 g6 HST
                  have hti : (t : Int) < (xs.length : Int) := by omega
                  have hiA : (i : Int) < (A.length : Int) := by have := HAL.out; omega
                  have htB : (t : Int) < (B.length : Int) := by have := HBL.out; omega
                  have hS3 : -10000000000000 ≤ S := by omega
                  have hS4 : S ≤ 10000000000000 := by omega
                  have HS12 := hid (And.intro hS1 hS2)
                  have HLR := hid hlr
                  clear hce hcf hxe hye hlr hS1 hS2 hi hk
                  go_wp2_with fail
                  go_quiet (fail)
                  go_wp2_with fail
                  go_roundw
                  case measure => simp only [intOf]; have := HLR.out; omega
                  case rel =>
                    have hS := HS12.out
                    exact ⟨t + 1, _, _, by go_num, rfl, by have := HLR.out; omega, hid (by rw [HST.out, HSM.out]), by omega, by first | rfl | exact World.drewN_drewN ..⟩
                · have hte : t = xs.length := by omega
                  have HSE : Hid (S = M i k) := hid (by rw [HSM.out, HM.out, hte]; rfl)
                  have HTK := hid (rowL_take xs.length (M i) HLK.out)
                  rw [← HSE.out] at HTK
                  have HRW2 : Hid (Owns (wq.drewN q) wr.heap.size _ ((rowL xs.length (M i)).take k)) := hid (show Owns wq wr.heap.size _ _ from HRW.out)
                  obtain ⟨pre, hpre⟩ : ∃ pre, pre = (rowL xs.length (M i)).take k := ⟨_, rfl⟩
                  have hprel : pre.length ≤ 4 := by rw [hpre, List.length_take, row_len]; omega
                  rw [← hpre] at HRW2 HTK
                  have hge : ¬ (t : Int) < (xs.length : Int) := by omega
                  have hbs : wr.heap.size ≤ wq.heap.size := HBR.out.size
                  have hS3 : -10000000000000 ≤ S := by omega
                  have hS4 : S ≤ 10000000000000 := by omega
                  clear hlr hpre hte hS1 hS2
                  have hi := hi0
                  go_wp2_with (at_builtin; refine wpList_append_own_at _ rfl _ _ 22 rfl wr.heap.size 3 i0 (.int .i64 0) 1 8 Try.underlying22 hi hz0 hz1 hz2 rfl (by decide) _ _ _ rfl ((show World.ownsRow _ _ _ _ _ _ _ from HRW2.out).alloc _) ⟨wq.heap.size, 0, none⟩ 1 1 [.int .i64 S] rfl rfl (cell_one_new _ _ _) (by simp [Value.oneCell']) (by unfold maxLen; omega) (by omega) (by simp; omega) ?_; intro v' w5 hown' hgrow _ hat)
                  have hsg := hgrow.size
                  simp only [World.size_alloc] at hsg
                  go_roundw
                  case measure => simp only [intOf]; have := HLK.out; omega
                  case rel =>
                    refine ⟨k + 1, by go_num, by have := HLK.out; omega, hid ?_, hid ?_⟩
                    · rw [HTK.out]
                      unfold Owns
                      simpa using hown'
                    · exact ((below_drewN HBR.out q).alloc (below_drewN HBR.out q).size _).grown hgrow (by simp; omega) (fun k e => (HRW2.out.ge k e))
            · have hke : k = xs.length := by omega
              have HRF : Hid (Owns wq wr.heap.size _ (rowL xs.length (M i))) := hid (by have h := HRW.out; rw [List.take_of_length_le (by rw [row_len]; omega)] at h; exact h)
              obtain ⟨ar, cr, hre⟩ := HRF.out.reads
              rw [row_len] at hre
              subst hre
              have hge : ¬ (k : Int) < (xs.length : Int) := by omega
              have hsw := HBW.out.size
              have hbs : wr.heap.size ≤ wq.heap.size := HBR.out.size
              have HTR := hid (matL_take xs.length M HLT.out)
              obtain ⟨P, hP⟩ : ∃ P, P = (matL xs.length M).take i := ⟨_, rfl⟩
              have hPl : P.length ≤ 4 := by rw [hP, List.length_take, matL_len]; omega
              rw [← hP] at HTR HOW
              obtain ⟨vals, SN⟩ := ownM_snoc HOW.out HBR.out hsw HRF.out (fun k e => by cases e)
              have HSN := hid SN
              have hw3q : w3.heap.size ≤ wq.heap.size := Nat.le_trans hsw hbs
              clear SN hP hke hlk hk hb3q h03 h13 p0 p1
              go_wp2_with (at_builtin; refine wpList_append_own_at _ rfl _ _ 23 rfl w3.heap.size 22 i1 (.slice none 0 0) 1 24 Try.underlying23 hi1 hy0 hy1 hy2 rfl (by decide) _ _ _ rfl ((show World.ownsRow wq _ _ _ _ _ _ from HSN.out.row).alloc _) ⟨wq.heap.size, 0, none⟩ 1 1 [.slice ar xs.length cr] rfl rfl (cell_one_new _ _ _) (by simp [Value.oneCell']) (by unfold maxLen; omega) (by omega) (by simp; omega) ?_; intro v' w5 hown' hgrow _ hat; have hsn := HSN.out.fin _ _ _ hown' hgrow hat; have HSG := hid hgrow; have HSN3 := hid hsn; clear hown' hat hsn hgrow)
              go_roundw
              case measure => simp only [intOf]; have := HLT.out; omega
              case rel =>
                have hbq := HBW.out.trans (HBR.out.mono hsw)
                refine ⟨i + 1, by go_num, by have := HLT.out; omega, hid ?_, hid ?_⟩
                · rw [HTR.out]
                  exact HSN3.out
                · exact (hbq.alloc hbq.size _).grown HSG.out (by simp; omega) (fun k e => (HOW.out.lt k e).1)
        · have hie : i = xs.length := by omega
          have HOF := HOW.out
          rw [List.take_of_length_le (by rw [matL_len]; omega)] at HOF
          have HOF2 := hid HOF
          have h03 := (HBW.out.block _ (Array.getElem?_eq_some_iff.1 H03.out).1).trans H03.out
          have h13 := (HBW.out.block _ (Array.getElem?_eq_some_iff.1 H13.out).1).trans H13.out
          have p0 := cellB (i := 1) h03
          have p1 := cellB (i := 1) h13
          have hge : ¬ (i : Int) < (xs.length : Int) := by omega
          have HLOW := hid (fun (wx : World) (v : Value) (h : RdM wx v (matL xs.length M)) => l7Low_any v (matL xs.length M) (a * b) wx h (by omega) (by omega) (by omega) (by rw [matL_len]; omega) (by rw [matL_len]; omega) (fun i hi => by rw [matL_len] at hi; rw [matL_row _ hi, row_len]; omega) (fun i k => by have := matL_bd (m := 3000000000000) (by omega) (fun i k _ _ => HMBD.out i k) (n := xs.length) i k; omega))
          have HTI := HMV.out
          unfold tidyV at HTI
          obtain ⟨R2, hR2⟩ : ∃ R2, R2 = lowR (matL xs.length M) (a * b) := ⟨_, rfl⟩
          obtain ⟨d2, hd2⟩ : ∃ d2, d2 = lowD (matL xs.length M) (a * b) := ⟨_, rfl⟩
          rw [← hR2, ← hd2] at HTI
          rw [← hR2, ← hd2] at HLOW
          have HT := hid HTI
          have HWS : Hid (w.heap.size + 3 ≤ wr.heap.size) := hid (by
            have h1 := HBW.out.size
            have h2 := Array.getElem?_eq_some_iff.1 H23.out
            obtain ⟨h2, _⟩ := h2
            omega)
          have HRW := hid (HBW.out.block _ (Array.getElem?_eq_some_iff.1 H23.out).1 |>.trans H23.out)
          have HBR := hid (HB3.out.trans (HBW.out.mono HB3.out.size))
          have HXR := hid (HX3.out.keep HBW.out)
          clear hlt hie HOF h03 h13 hR2 hd2 HTI hi
          go_wp2_with fail
          refine (HLOW.out _ _ HOF2.out.rd).mono ?_
          rintro e w4 ⟨u2, rfl, ho2, hb4⟩
          obtain ⟨ua, uc, rfl⟩ := ho2.rd.form
          have hb5 := hb4.alloc hb4.size (.cells #[.slice ua R2.length uc, .int .i64 d2] 29)
          have HO5 := hid (ho2.keep ((Below.refl _ _).alloc (Nat.le_refl _) (.cells #[.slice ua R2.length uc, .int .i64 d2] 29)))
          have HE5 := hid (heap_alloc_new w4 (.cells #[.slice ua R2.length uc, .int .i64 d2] 29))
          have HR5 := hid ((hb5.block _ (Array.getElem?_eq_some_iff.1 HRW.out).1).trans HRW.out)
          have HX5 := hid (HXR.out.keep hb5)
          have HB5 := hid (HBR.out.trans (hb5.mono HBR.out.size))
          clear ho2 hb4 hb5 p0 p1
          cases hmv : moveB xs R2 d2 with
          | false =>
            have HE : Hid (mulV xs A a B b = none) := hid (by rw [HT.out, hmv]; rfl)
            have HMVC := hid (fun (wx : World) (v : Value) (h1 : Rd wx (.slice ax xs.length cx) xs) (h : RdM wx v R2) => moveValidS_any (.slice ax xs.length cx) v xs R2 d2 wx h1 h)
            rw [hmv] at HMVC
            clear hmv
            go_wp2_with fail
            refine (HMVC.out _ _ HX5.out HO5.out.rd).mono ?_
            rintro e w6 ⟨rfl, hb6⟩
            have hr6 := (hb6.block _ (Array.getElem?_eq_some_iff.1 HR5.out).1).trans HR5.out
            have x0 := cellB (i := 0) hr6
            have x1 := cellB (i := 1) hr6
            have y0 := frozenB (i := 0) hr6
            have y1 := frozenB (i := 1) hr6
            have HB6 := hid (HB5.out.trans (hb6.mono HB5.out.size))
            clear hr6 hb6
            go_wp2_with fail
            refine bodyPost_ret (v := .tuple #[.agg #[.slice none 0 0, .int .i64 0], .bool false]) (by simp [results, Try.results27, go_sem]; go_simp) rfl ?_
            rw [HE.out]
            exact movePost_none HB6.out (by omega) _ _
          | true =>
            have HE : Hid (mulV xs A a B b = some (R2, d2)) := hid (by rw [HT.out, hmv, if_pos rfl])
            have HMVC := hid (fun (wx : World) (v : Value) (h1 : Rd wx (.slice ax xs.length cx) xs) (h : RdM wx v R2) => moveValidS_any (.slice ax xs.length cx) v xs R2 d2 wx h1 h)
            rw [hmv] at HMVC
            clear hmv
            go_wp2_with fail
            refine (HMVC.out _ _ HX5.out HO5.out.rd).mono ?_
            rintro e w6 ⟨rfl, hb6⟩
            have hr6 := (hb6.block _ (Array.getElem?_eq_some_iff.1 HR5.out).1).trans HR5.out
            have he6 := (hb6.block _ (Array.getElem?_eq_some_iff.1 HE5.out).1).trans HE5.out
            have x0 := cellB (i := 0) hr6
            have x1 := cellB (i := 1) hr6
            have y0 := frozenB (i := 0) hr6
            have y1 := frozenB (i := 1) hr6
            have z0 := cellB (i := 0) he6
            have z1 := cellB (i := 1) he6
            have HB6 := hid (HB5.out.trans (hb6.mono HB5.out.size))
            have HO6 := hid (HO5.out.keep hb6)
            clear hr6 he6 hb6
            go_wp2_with fail
            refine bodyPost_ret (v := .tuple #[.agg #[.slice ua R2.length uc, .int .i64 d2], .bool true]) (by simp [results, Try.results27, go_sem]; go_simp) rfl ?_
            rw [HE.out]
            exact movePost_some HO6.out HB6.out (by omega) (by have := HWS.out; omega) _ _

end Go.Proofs.Ytjabklpnohfjpab

/-! MxB -/
set_option linter.unusedVariables false
namespace Go.Proofs.Ytjabklpnohfjpab
open Go.RowKit

theorem mul_bd9 {x y : Int} (h1 : -1000000 ≤ x ∧ x ≤ 1000000) (h2 : -1000 ≤ y ∧ y ≤ 1000) : -1000000000 ≤ x * y ∧ x * y ≤ 1000000000 := by
  have e : (x * y).natAbs ≤ 1000000 * 1000 := by rw [Int.natAbs_mul]; exact Nat.mul_le_mul (by omega) (by omega)
  omega

set_option maxRecDepth 100000 in
set_option maxHeartbeats 4000000 in
theorem l7On_any (va vv : Value) (A : List (List Int)) (a : Int) (vs : List Int) (w : World) (hA : RdM w va A) (hv : Rd w vv vs) (hs : Sq vs.length A) (hn1 : 1 ≤ vs.length) (hn3 : vs.length ≤ 3) (hb : ∀ i k, -1000000 ≤ at2 A i k ∧ at2 A i k ≤ 1000000) (hw : ∀ i, -1000 ≤ fF vs i ∧ fF vs i ≤ 1000) :
    Calls Try.prog 68 #[.agg #[va, .int .i64 a], vv] w fun e w' => ∃ u, e = .returned u ∧ Owns w' w.heap.size u (rowL vs.length (apF (at2 A) vs.length (fF vs))) ∧ Below w.heap.size w w' := by
  obtain ⟨i0, hi0, hz0, hz1, hz2⟩ := info_parts infoInt
  obtain ⟨aa, ca, rfl⟩ := hA.form
  obtain ⟨av, cv, rfl, _⟩ := hv.form
  obtain ⟨ba, oa, _, rfl, _, _⟩ := hA.row (i := 0) (by rw [hs.1]; omega)
  have hB0 := below_box2 w (.cells #[.slice (some ⟨ba, oa, none⟩) A.length ca, .int .i64 a] 29)
  have h0 := heap_alloc_new w (.cells #[.slice (some ⟨ba, oa, none⟩) A.length ca, .int .i64 a] 29)
  have HA := hid hA
  have HV := hid hv
  have HAL := hid hs.1
  have HRW := hid (fun t (ht : t < vs.length) => (show (A.getD t []).length = vs.length by
    rw [List.getD_eq_getElem?_getD, List.getElem?_eq_getElem (by rw [hs.1]; exact ht)]
    exact hs.2 _ (List.getElem_mem _)))
  have HPB := hid (fun i k => mul_bd9 (hb i k) (hw k))
  have HBD := hid hb
  have HWD := hid hw
  obtain ⟨W1, hW1⟩ : ∃ W1, W1 = (w.alloc (.cells #[.slice (some ⟨ba, oa, none⟩) A.length ca, .int .i64 a] 29)).alloc (.cells #[] 3) := ⟨_, rfl⟩
  have hb1 : Below (w.alloc (.cells #[.slice (some ⟨ba, oa, none⟩) A.length ca, .int .i64 a] 29)).heap.size (w.alloc (.cells #[.slice (some ⟨ba, oa, none⟩) A.length ca, .int .i64 a] 29)) W1 := by rw [hW1]; exact (Below.refl _ _).alloc (Nat.le_refl _) _
  have hsz1 : (w.alloc (.cells #[.slice (some ⟨ba, oa, none⟩) A.length ca, .int .i64 a] 29)).heap.size = w.heap.size + 1 := by simp
  rw [hsz1] at hb1
  have HB1 := hid (hB0.trans (hb1.mono (Nat.le_succ _)))
  have h01 := (hb1.block w.heap.size (Nat.lt_succ_self _)).trans h0
  have HR0 : Hid (Owns W1 (w.heap.size + 1) (.slice (some ⟨w.heap.size + 1, 0, none⟩) 0 0) []) := hid (by
    have h := World.ownsRow_made (size := 1) (e := 3) (w.alloc (.cells #[.slice (some ⟨ba, oa, none⟩) A.length ca, .int .i64 a] 29)) #[] 0 (Nat.le_refl _) (by unfold maxLen; omega) rfl
    rw [hsz1, ← hW1] at h
    exact h)
  have p0 := cellB (i := 0) h01
  have H01 := hid h01
  have HW1 := hid hW1
  clear hA hv hB0 h0 hs hb hw hb1 hsz1 hW1 h01
  go_enter Try.func68, Try.ntmps68
  go_wp2_with fail
  rw [← HW1.out]
  go_loopw [5, 6, 7, 8] (fun so si ss sk wr => ∃ i : Nat, si = .int .i64 i ∧ i ≤ vs.length ∧ Hid (Owns wr (w.heap.size + 1) so ((rowL vs.length (apF (at2 A) vs.length (fF vs))).take i)) ∧ Hid (Below (w.heap.size + 1) W1 wr)) (fun _ si _ _ _ => vs.length - (intOf si).toNat)
  case atStart => exact ⟨0, rfl, by omega, hid (by simpa using HR0.out), hid (Below.refl _ _)⟩
  case round =>
    obtain ⟨i, rfl, hi, HO, HBW⟩ := hrel
    rename World => wr
    by_cases hlt : i < vs.length
    · have hlti : (i : Int) < (vs.length : Int) := by omega
      have HLT := hid hlt
      clear hlt hi
      go_wp2_with fail
      go_loopw [7, 8] (fun ss sk wr' => ∃ (k q : Nat) (S : Int), sk = .int .i64 k ∧ ss = .int .i64 S ∧ k ≤ vs.length ∧ Hid (S = sumF (fun r => at2 A i r * fF vs r) k) ∧ (-1000000000 * (k : Int) ≤ S ∧ S ≤ 1000000000 * (k : Int)) ∧ wr' = wr.drewN q) (fun _ sk _ => vs.length - (intOf sk).toNat)
      case atStart => exact ⟨0, 0, 0, rfl, rfl, by omega, hid rfl, by omega, rfl⟩
      case round =>
        obtain ⟨k, q, S, rfl, rfl, hk, HS, ⟨hS1, hS2⟩, rfl⟩ := hrel
        have hw1s : w.heap.size + 1 ≤ W1.heap.size := Nat.le_of_lt (HR0.out.lt (w.heap.size + 1) rfl)
        by_cases hlk : k < vs.length
        · have hik := HLT.out
          have hbw : Below (w.heap.size + 1) W1 wr := HBW.out
          have hcb := cellB (i := 0) ((hbw.block w.heap.size (Nat.lt_succ_self _)).trans H01.out)
          have hbk : Below w.heap.size w wr := HB1.out.trans (hbw.mono (Nat.le_succ _))
          have hav := HV.out.keep hbk
          obtain ⟨av2, cv2, ev, hfv2⟩ := hav.form
          simp only [Value.slice.injEq, true_and] at ev
          obtain ⟨rfl, rfl⟩ := ev
          obtain ⟨bv, ov, rfl, _, hvc⟩ := hfv2 (by omega)
          obtain ⟨b2, o2, c2, hrc, hce⟩ := row_cells (HA.out.keep hbk) (t := i) (by have := HAL.out; omega) (show 0 < vs.length by omega) (HRW.out i hik)
          have e1 := hce k hlk
          have e2 := hvc k hlk
          obtain ⟨g1, g2⟩ := HPB.out i k
          obtain ⟨g3, g4⟩ := HBD.out i k
          obtain ⟨g5, g6⟩ := HWD.out k
          have HST := hid (show sumF (fun r => at2 A i r * fF vs r) (k + 1) = sumF (fun r => at2 A i r * fF vs r) k + at2 A i k * fF vs k from rfl)
          have hye0 : fF vs k = vs.getD k 0 := rfl
          obtain ⟨x, hxe⟩ : ∃ x, x = at2 A i k := ⟨_, rfl⟩
          obtain ⟨y, hye⟩ : ∃ y, y = vs.getD k 0 := ⟨_, rfl⟩
          rw [← hxe] at e1 g1 g2 g3 g4 HST
          rw [hye0, ← hye] at g1 g2 g5 g6 HST
          rw [← hye] at e2
          have hki : (k : Int) < (vs.length : Int) := by omega
          have hiA : (i : Int) < (A.length : Int) := by have := HAL.out; omega
          have hS3 : -10000000000 ≤ S := by omega
          have hS4 : S ≤ 10000000000 := by omega
          have HS12 := hid (And.intro hS1 hS2)
          have HLK := hid hlk
          clear hce hxe hye hye0 hlk hS1 hS2 hik hvc hfv2 hav hbk hbw hw1s
          go_wp2_with fail
          go_quiet (fail)
          go_wp2_with fail
          go_roundw
          case measure => simp only [intOf]; have := HLK.out; omega
          case rel =>
            have hS := HS12.out
            exact ⟨k + 1, _, _, by go_num, rfl, by have := HLK.out; omega, hid (by rw [HST.out, HS.out]), by omega, by first | rfl | exact World.drewN_drewN ..⟩
        · have hke : k = vs.length := by omega
          have HSE : Hid (S = apF (at2 A) vs.length (fF vs) i) := hid (by rw [HS.out, hke]; rfl)
          have HTK := hid (rowL_take vs.length (apF (at2 A) vs.length (fF vs)) HLT.out)
          rw [← HSE.out] at HTK
          obtain ⟨pre, hpre⟩ : ∃ pre, pre = (rowL vs.length (apF (at2 A) vs.length (fF vs))).take i := ⟨_, rfl⟩
          have hprel : pre.length ≤ 4 := by rw [hpre, List.length_take, row_len]; omega
          rw [← hpre] at HO HTK
          have HO2 : Hid (Owns (wr.drewN q) (w.heap.size + 1) _ pre) := hid (show Owns wr _ _ _ from HO.out)
          have hge : ¬ (k : Int) < (vs.length : Int) := by omega
          have hbs : W1.heap.size ≤ wr.heap.size := (show Below (w.heap.size + 1) W1 wr from HBW.out).size
          have hS3 : -10000000000 ≤ S := by omega
          have hS4 : S ≤ 10000000000 := by omega
          clear hlk hpre hke hS1 hS2
          have hi := hi0
          go_wp2_with (at_builtin; refine wpList_append_own_at _ rfl _ _ 22 rfl (w.heap.size + 1) 3 i0 (.int .i64 0) 1 8 Try.underlying22 hi hz0 hz1 hz2 rfl (by decide) _ _ _ rfl ((show World.ownsRow _ _ _ _ _ _ _ from HO2.out).alloc _) ⟨wr.heap.size, 0, none⟩ 1 1 [.int .i64 S] rfl rfl (cell_one_new _ _ _) (by simp [Value.oneCell']) (by unfold maxLen; omega) (by omega) (by simp; omega) ?_; intro v' w5 hown' hgrow _ hat)
          have hsg := hgrow.size
          simp only [World.size_alloc] at hsg
          go_roundw
          case measure => simp only [intOf]; have := HLT.out; omega
          case rel =>
            refine ⟨i + 1, by go_num, by have := HLT.out; omega, hid ?_, hid ?_⟩
            · rw [HTK.out]
              unfold Owns
              simpa using hown'
            · exact ((below_drewN HBW.out q).alloc (by simpa using Nat.le_trans hw1s hbs) _).grown hgrow (by simp; omega) (fun k e => (HO2.out.ge k e))
    · have hie : i = vs.length := by omega
      have HOF := HO.out
      rw [List.take_of_length_le (by rw [row_len]; omega)] at HOF
      have hge : ¬ (i : Int) < (vs.length : Int) := by omega
      have HOF2 := hid HOF
      obtain ⟨ar, cr, hre⟩ := HOF.reads
      rw [row_len] at hre
      subst hre
      have HBF := hid (HB1.out.trans ((show Below (w.heap.size + 1) W1 wr from HBW.out).mono (Nat.le_succ _)))
      clear hlt hie HOF
      go_wp2_with fail
      refine bodyPost_ret (v := .slice ar vs.length cr) (by simp [results, Try.results68, go_sem]) rfl ?_
      exact ⟨_, rfl, HOF2.out.down (Nat.le_succ _), HBF.out⟩

end Go.Proofs.Ytjabklpnohfjpab
