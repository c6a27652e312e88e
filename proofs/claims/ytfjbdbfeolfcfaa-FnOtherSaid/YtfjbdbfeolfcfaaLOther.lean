/-
  Proves: for every code: a direction and its opposite meet the same zero, which is plain and lies in the plane of point and direction.
  Conditions: none beyond the given statement's own.
-/
import Derived.Test.YtfjbdbfeolfcfaaRows
import Derived.Test.YtfjbdbfeolfcfaaQBun18
import Derived.Test.YtfjbdbfeolfcfaaQBun30
import Derived.Test.YtfjbdbfeolfcfaaQBun27
import Derived.Test.YtfjbdbfeolfcfaaDraws23
import Derived.Test.YtfjbdbfeolfcfaaQBun49
import Derived.Test.YtfjbdbfeolfcfaaQBun47
import Derived.ProofKit
import Derived.OpenShut
import Derived.ShutString
import Derived.ChangeOld
namespace Go.Proofs.Ytfjbdbfeolfcfaa.fnOther
open Go.ChangeShapes Go.WideShapes Go.ChangeAt Go.RowKit
open Go.ChangeMaps (open_string shut_string)
set_option linter.unusedVariables false
structure OtherP (xs vs ws : List Int) (p q r : Int) : Prop where
  lv : vs.length = 3
  lw : ws.length = 3
  bv : ∀ v ∈ vs, -1000 ≤ v ∧ v ≤ 1000
  bw : ∀ v ∈ ws, -20 ≤ v ∧ v ≤ 20
  bo : ∀ v ∈ [p, q, r], -1000000 ≤ v ∧ v ≤ 1000000
  det : vs.getD 0 0 * (ws.getD 1 0 * r - ws.getD 2 0 * q) + vs.getD 1 0 * (ws.getD 2 0 * p - ws.getD 0 0 * r) + vs.getD 2 0 * (ws.getD 0 0 * q - ws.getD 1 0 * p) = 0
  zero : zeroB xs [p, q, r] = true
  plain : zplainL xs [p, q, r] = [p, q, r]
  ok : otherOk xs vs (ws.map (fun x => -x)) = true
  out : otherL xs vs (ws.map (fun x => -x)) = [p, q, r]
theorem other_parts {xs vs ws : List Int} (h : otherOk xs vs ws = true) : ∃ p q r : Int, otherL xs vs ws = [p, q, r] ∧ OtherP xs vs ws p q r := by
  have h' := h
  unfold otherOk at h'
  rw [Bool.and_eq_true, Bool.and_eq_true, Bool.and_eq_true, Bool.not_eq_true'] at h'
  obtain ⟨hp, hw, hm, hh⟩ := h'
  obtain ⟨a, b, c, x, y, z, rfl, rfl, hf, P⟩ := point_pt hp
  obtain ⟨hb, _, hl⟩ := vecB_iff.1 hw
  obtain ⟨u, v, t, rfl⟩ := len3 (show ws.length = 3 from hl)
  have hm' : multB [x, y, z] [-u, -v, -t] = false := by
    have hn := notmult hm
    cases e : multB [x, y, z] [-u, -v, -t] with
    | false => rfl
    | true => exact absurd (multB_iff.1 e) fun ⟨e1, e2, e3⟩ => hn ⟨by grind, by grind, by grind⟩
  have hl' := line_par (k := -1) (l := 1) P (by decide) (by decide) (by omega) (by omega) (by omega) hm hm'
  obtain ⟨p, q, r, e⟩ : ∃ p q r, plainL (lineL [a, b, c] [x, y, z] [u, v, t]) = [p, q, r] := len3 (plainL_len _)
  have hd := line_det P hm e
  have hz := line_plain hf P hm
  have hpp := plain_plain (line_some P hm)
  have ho := otherL_yes h
  rw [e] at hh hz hpp ho hl'
  rw [hh] at hz
  have h6 : hgtL [p, q, r] ≤ 1000000 := by simpa using hh
  refine ⟨p, q, r, ho, rfl, rfl, fun w hw => ?_, fun w hw => hb w hw, fun w hw => by have := hgt_ge hw; omega, hd, hz, ?_, ?_, ?_⟩
  · have h1 := P.hx; have h2 := P.hy; have h3 := P.hz
    simp only [List.mem_cons, List.not_mem_nil, or_false] at hw
    rcases hw with rfl | rfl | rfl <;> omega
  · unfold zplainL
    rw [hz, if_pos rfl, hpp]
  · unfold otherOk
    rw [Bool.and_eq_true, Bool.and_eq_true, Bool.and_eq_true, Bool.not_eq_true']
    refine ⟨hp, vecB_iff.2 ⟨fun w hw => ?_, hf, rfl⟩, hm', ?_⟩
    · simp only [List.map_cons, List.map_nil, List.mem_cons, List.not_mem_nil, or_false] at hw
      have k1 := hb u (by simp); have k2 := hb v (by simp); have k3 := hb t (by simp)
      rcases hw with rfl | rfl | rfl <;> omega
    · show decide (hgtL (plainL (lineL [a, b, c] [x, y, z] [-u, -v, -t])) ≤ 1000000) = true
      rw [← hl']
      exact hh
  · have hok : otherOk [a, b, c] [x, y, z] ([u, v, t].map (fun x => -x)) = true := by
      unfold otherOk
      rw [Bool.and_eq_true, Bool.and_eq_true, Bool.and_eq_true, Bool.not_eq_true']
      refine ⟨hp, vecB_iff.2 ⟨fun w hw => ?_, hf, rfl⟩, hm', ?_⟩
      · simp only [List.map_cons, List.map_nil, List.mem_cons, List.not_mem_nil, or_false] at hw
        have k1 := hb u (by simp); have k2 := hb v (by simp); have k3 := hb t (by simp)
        rcases hw with rfl | rfl | rfl <;> omega
      · show decide (hgtL (plainL (lineL [a, b, c] [x, y, z] [-u, -v, -t])) ≤ 1000000) = true
        rw [← hl']
        exact hh
    rw [otherL_yes hok]
    exact hl'.symm
theorem vecZ_mild2 {vs : List Int} (h : VecZ vs) : MildT vs := ⟨by have := h.1; omega, fun x hx => by have := h.2 x hx; omega⟩
theorem form3 {W : World} {v : Value} {xs : List Int} (h : Rd W v xs) (hl : xs.length = 3) : ∃ b o cap, v = .slice (some ⟨b, o, none⟩) xs.length cap := by
  obtain ⟨a, cap, rfl, _⟩ := h.form
  obtain ⟨b, o, rfl, _⟩ := rd3 h hl
  exact ⟨b, o, cap, rfl⟩
theorem cells3 {W : World} {b o n cap : Nat} {xs : List Int} (h : Rd W (.slice (some ⟨b, o, none⟩) n cap) xs) (hl : xs.length = 3) : W.cell? ⟨b, o, none⟩ = some (.int .i64 (xs.getD 0 0)) ∧ W.cell? ⟨b, o + 1, none⟩ = some (.int .i64 (xs.getD 1 0)) ∧ W.cell? ⟨b, o + 2, none⟩ = some (.int .i64 (xs.getD 2 0)) := by
  obtain ⟨b', o', e, _, _, h1, h2, h3⟩ := rd3 h hl
  cases e
  exact ⟨h1, h2, h3⟩
theorem getD_mem3 {xs : List Int} (hl : xs.length = 3) {m : Int} (h : ∀ v ∈ xs, -m ≤ v ∧ v ≤ m) : (-m ≤ xs.getD 0 0 ∧ xs.getD 0 0 ≤ m) ∧ (-m ≤ xs.getD 1 0 ∧ xs.getD 1 0 ≤ m) ∧ (-m ≤ xs.getD 2 0 ∧ xs.getD 2 0 ≤ m) := by
  obtain ⟨x, y, z, rfl⟩ := len3 hl
  exact ⟨h x (by simp), h y (by simp), h z (by simp)⟩
theorem mul_bd7 {a b : Int} (ha : -20 ≤ a ∧ a ≤ 20) (hb : -1000000 ≤ b ∧ b ≤ 1000000) : -20000000 ≤ a * b ∧ a * b ≤ 20000000 := by
  have h := prod_bd2 (x := a) (y := b) (m := 20) (n := 1000000) (by omega) (by omega)
  omega
theorem mul_bd8 {a b : Int} (ha : -1000 ≤ a ∧ a ≤ 1000) (hb : -40000000 ≤ b ∧ b ≤ 40000000) : -40000000000 ≤ a * b ∧ a * b ≤ 40000000000 := by
  have h := prod_bd2 (x := a) (y := b) (m := 1000) (n := 40000000) (by omega) (by omega)
  omega
set_option maxRecDepth 100000 in
set_option maxHeartbeats 4000000 in
theorem walk (a0 : Option Addr) (len0 cap0 : Nat) (z0 : List Int) (w : World) (w0 : IsRow .u8 w a0 len0 cap0 z0) :
    Calls Try.prog 4 #[.slice a0 len0 cap0] w fun e w' => e = .returned (.bool true) ∧ Below w.heap.size w w' := by
  have HC := hid (codeIn_of w0)
  clear w0
  by_cases hl0 : (1048576 : Int) < (len0 : Int)
  · go_enter Try.func4, Try.ntmps4
    go_wp2
    go_ret
    exact ⟨rfl, Below.refl _ _⟩
  · go_enter Try.func4, Try.ntmps4
    go_wp2_with fail
    refine (drawConicOther_any _ len0 _ HC.out).mono ?_
    rintro e d1 ⟨u, z, y, xs, vs, ws, rfl, _, _, hw, HO, HZo, HYo, hb⟩
    have HB1 := hid hb
    clear hb
    have X_1 := hid HO.out.rd
    have V_1 := hid HZo.out.rd
    have W_1 := hid HYo.out.rd
    have HOI := hid (fun (wx : World) (h1 : Rd wx u xs) (h2 : Rd wx z vs) (h3 : Rd wx y ws) => conicOther_any u z y xs vs ws wx h1 h2 h3)
    have HOS := hid (fun (wx : World) (h1 : Rd wx u xs) (h2 : Rd wx z vs) (h3 : Rd wx y ws) => conicOtherS_any u z y xs vs ws wx h1 h2 h3)
    unfold OtherPost at HOI HOS
    have HM := hid (vecZ_mild2 hw)
    have HPT := hid (fun (h : otherOk xs vs ws = true) => other_parts h)
    obtain ⟨L, hL⟩ : ∃ L, L = otherL xs vs ws := ⟨_, rfl⟩
    rw [← hL] at HOI HOS HPT
    have HLL : decide (L = L) = true := by simp
    clear hL hw
    cases hok : otherOk xs vs ws with
    | false =>
      rw [hok] at HOI HOS
      clear hok HPT
      go_wp2_with fail
      refine (HOI.out _ X_1.out V_1.out W_1.out).mono ?_
      rintro e d2 ⟨y1, rfl, ho, hb⟩
      have HB2 := hid (HB1.out.trans (hb.mono HB1.out.size))
      have X_2 := hid (X_1.out.keep hb)
      have V_2 := hid (V_1.out.keep hb)
      have W_2 := hid (W_1.out.keep hb)
      clear hb
      have Y_2 := hid ho.rd
      clear ho
      go_wp2_with fail
      refine (HOS.out _ X_2.out V_2.out W_2.out).mono ?_
      rintro e d3 ⟨y2, rfl, ho, hb⟩
      have HB3 := hid (HB2.out.trans (hb.mono HB2.out.size))
      have X_3 := hid (X_2.out.keep hb)
      have V_3 := hid (V_2.out.keep hb)
      have W_3 := hid (W_2.out.keep hb)
      have Y_3 := hid (Y_2.out.keep hb)
      clear hb
      have T_3 := hid ho.rd
      clear ho
      go_wp2_with fail
      refine (sameInts_any _ _ L L _ Y_3.out T_3.out).mono ?_
      rintro e d4 ⟨rfl, k4, hk4⟩
      have hb : Below d3.heap.size d3 d4 := by rw [hk4]; exact below_drewN (Below.refl _ _) k4
      clear hk4
      have HB4 := hid (HB3.out.trans (hb.mono HB3.out.size))
      have X_4 := hid (X_3.out.keep hb)
      have V_4 := hid (V_3.out.keep hb)
      have W_4 := hid (W_3.out.keep hb)
      have Y_4 := hid (Y_3.out.keep hb)
      have T_4 := hid (T_3.out.keep hb)
      clear hb
      go_wp2_with fail
      refine (sameInts_any _ _ L L _ Y_4.out T_4.out).mono ?_
      rintro e d5 ⟨rfl, k5, hk5⟩
      have hb : Below d4.heap.size d4 d5 := by rw [hk5]; exact below_drewN (Below.refl _ _) k5
      clear hk5
      have HB5 := hid (HB4.out.trans (hb.mono HB4.out.size))
      have X_5 := hid (X_4.out.keep hb)
      have V_5 := hid (V_4.out.keep hb)
      have W_5 := hid (W_4.out.keep hb)
      have Y_5 := hid (Y_4.out.keep hb)
      have T_5 := hid (T_4.out.keep hb)
      clear hb
      go_wp2
      go_ret
      exact ⟨rfl, HB5.out⟩
    | true =>
      obtain ⟨o0, o1, o2, rfl, P⟩ := HPT.out hok
      rw [hok] at HOI HOS
      have HPP := hid P
      have HOM : Hid (∀ (wx : World) (m : Value), Rd wx u xs → Rd wx z vs → Rd wx m (ws.map (fun x => -x)) → Calls Try.prog 18 #[u, z, m] wx fun e w' => ∃ q, e = .returned (.tuple #[q, .bool true]) ∧ Owns w' wx.heap.size q [o0, o1, o2] ∧ Below wx.heap.size wx w') := hid (fun wx m h1 h2 h3 => by have h := conicOther_any u z m xs vs _ wx h1 h2 h3; unfold OtherPost at h; rw [HPP.out.ok, HPP.out.out] at h; exact h)
      clear hok HPT P
      go_wp2_with fail
      refine (HOI.out _ X_1.out V_1.out W_1.out).mono ?_
      rintro e d2 ⟨y1, rfl, ho, hb⟩
      have HB2 := hid (HB1.out.trans (hb.mono HB1.out.size))
      have X_2 := hid (X_1.out.keep hb)
      have V_2 := hid (V_1.out.keep hb)
      have W_2 := hid (W_1.out.keep hb)
      clear hb
      have Y_2 := hid ho.rd
      clear ho
      go_wp2_with fail
      refine (HOS.out _ X_2.out V_2.out W_2.out).mono ?_
      rintro e d3 ⟨y2, rfl, ho, hb⟩
      have HB3 := hid (HB2.out.trans (hb.mono HB2.out.size))
      have X_3 := hid (X_2.out.keep hb)
      have V_3 := hid (V_2.out.keep hb)
      have W_3 := hid (W_2.out.keep hb)
      have Y_3 := hid (Y_2.out.keep hb)
      clear hb
      have T_3 := hid ho.rd
      clear ho
      go_wp2_with fail
      refine (sameInts_any _ _ [o0, o1, o2] [o0, o1, o2] _ Y_3.out T_3.out).mono ?_
      rintro e d4 ⟨rfl, k4, hk4⟩
      have hb : Below d3.heap.size d3 d4 := by rw [hk4]; exact below_drewN (Below.refl _ _) k4
      clear hk4
      have HB4 := hid (HB3.out.trans (hb.mono HB3.out.size))
      have X_4 := hid (X_3.out.keep hb)
      have V_4 := hid (V_3.out.keep hb)
      have W_4 := hid (W_3.out.keep hb)
      have Y_4 := hid (Y_3.out.keep hb)
      have T_4 := hid (T_3.out.keep hb)
      clear hb
      go_wp2_with fail
      refine (minusOf_any _ ws _ W_4.out HM.out).mono ?_
      rintro e d5 ⟨m, rfl, ho, hb⟩
      have HB5 := hid (HB4.out.trans (hb.mono HB4.out.size))
      have X_5 := hid (X_4.out.keep hb)
      have V_5 := hid (V_4.out.keep hb)
      have W_5 := hid (W_4.out.keep hb)
      have Y_5 := hid (Y_4.out.keep hb)
      have T_5 := hid (T_4.out.keep hb)
      clear hb
      have M_5 := hid ho.rd
      clear ho
      go_wp2_with fail
      refine (HOM.out _ _ X_5.out V_5.out M_5.out).mono ?_
      rintro e d6 ⟨q, rfl, ho, hb⟩
      have HB6 := hid (HB5.out.trans (hb.mono HB5.out.size))
      have X_6 := hid (X_5.out.keep hb)
      have V_6 := hid (V_5.out.keep hb)
      have W_6 := hid (W_5.out.keep hb)
      have Y_6 := hid (Y_5.out.keep hb)
      have T_6 := hid (T_5.out.keep hb)
      have M_6 := hid (M_5.out.keep hb)
      clear hb
      have Q_6 := hid ho.rd
      clear ho
      go_wp2_with fail
      refine (zeroPlain_any _ _ xs [o0, o1, o2] _ X_6.out Y_6.out).mono ?_
      rw [HPP.out.zero, HPP.out.plain]
      rintro e d7 ⟨r, rfl, ho, hb⟩
      have HB7 := hid (HB6.out.trans (hb.mono HB6.out.size))
      have X_7 := hid (X_6.out.keep hb)
      have V_7 := hid (V_6.out.keep hb)
      have W_7 := hid (W_6.out.keep hb)
      have Y_7 := hid (Y_6.out.keep hb)
      have T_7 := hid (T_6.out.keep hb)
      have M_7 := hid (M_6.out.keep hb)
      have Q_7 := hid (Q_6.out.keep hb)
      clear hb
      have R_7 := hid ho.rd
      clear ho
      have hlv := HPP.out.lv
      have hlw := HPP.out.lw
      have hlo : [o0, o1, o2].length = 3 := rfl
      obtain ⟨bv, ov, cv, rfl⟩ := form3 V_7.out hlv
      obtain ⟨bw, ow, cw, rfl⟩ := form3 W_7.out hlw
      obtain ⟨bo, oo, co, rfl⟩ := form3 Y_7.out hlo
      have hdet := HPP.out.det
      obtain ⟨v0b, v1b, v2b⟩ := getD_mem3 hlv HPP.out.bv
      obtain ⟨w0b, w1b, w2b⟩ := getD_mem3 hlw HPP.out.bw
      obtain ⟨o0b, o1b, o2b⟩ := getD_mem3 hlo HPP.out.bo
      simp only [List.getD_cons_zero, List.getD_cons_succ] at o0b o1b o2b
      have HCV := hid (fun (wx : World) (h : Below d7.heap.size d7 wx) => cells3 (V_7.out.keep h) hlv)
      have HCW := hid (fun (wx : World) (h : Below d7.heap.size d7 wx) => cells3 (W_7.out.keep h) hlw)
      have HCO := hid (fun (wx : World) (h : Below d7.heap.size d7 wx) => cells3 (Y_7.out.keep h) hlo)
      simp only [List.getD_cons_zero, List.getD_cons_succ] at HCO
      have iv0 : (0 : Int) < (vs.length : Int) := by omega
      have iv1 : (1 : Int) < (vs.length : Int) := by omega
      have iv2 : (2 : Int) < (vs.length : Int) := by omega
      have iw0 : (0 : Int) < (ws.length : Int) := by omega
      have iw1 : (1 : Int) < (ws.length : Int) := by omega
      have iw2 : (2 : Int) < (ws.length : Int) := by omega
      obtain ⟨v0, hv0⟩ : ∃ x, x = vs.getD 0 0 := ⟨_, rfl⟩
      obtain ⟨w0, hw0⟩ : ∃ x, x = ws.getD 0 0 := ⟨_, rfl⟩
      obtain ⟨v1, hv1⟩ : ∃ x, x = vs.getD 1 0 := ⟨_, rfl⟩
      obtain ⟨w1, hw1⟩ : ∃ x, x = ws.getD 1 0 := ⟨_, rfl⟩
      obtain ⟨v2, hv2⟩ : ∃ x, x = vs.getD 2 0 := ⟨_, rfl⟩
      obtain ⟨w2, hw2⟩ : ∃ x, x = ws.getD 2 0 := ⟨_, rfl⟩
      rw [← hv0, ← hv1, ← hv2] at HCV
      rw [← hw0, ← hw1, ← hw2] at HCW
      rw [← hv0, ← hv1, ← hv2, ← hw0, ← hw1, ← hw2] at hdet
      rw [← hv0] at v0b
      rw [← hv1] at v1b
      rw [← hv2] at v2b
      rw [← hw0] at w0b
      rw [← hw1] at w1b
      rw [← hw2] at w2b
      have p0 := mul_bd7 w1b o2b
      have p1 := mul_bd7 w2b o1b
      have s0b := mul_bd8 (b := w1 * o2 - w2 * o1) v0b (by omega)
      have p2 := mul_bd7 w2b o0b
      have p3 := mul_bd7 w0b o2b
      have s1b := mul_bd8 (b := w2 * o0 - w0 * o2) v1b (by omega)
      have p4 := mul_bd7 w0b o1b
      have p5 := mul_bd7 w1b o0b
      have s2b := mul_bd8 (b := w0 * o1 - w1 * o0) v2b (by omega)
      have HDT := hid hdet
      have PB := hid (And.intro p0 (And.intro p1 (And.intro p2 (And.intro p3 (And.intro p4 (And.intro p5 (And.intro s0b (And.intro s1b s2b))))))))
      have hbb := Below.refl d7.heap.size d7
      have HBB := hid hbb
      clear hv0 hv1 hv2 hw0 hw1 hw2 hdet v0b v1b v2b w0b w1b w2b o0b o1b o2b p0 p1 p2 p3 p4 p5 s0b s1b s2b hlv hlw hlo hbb
      go_wp2_with fail
      go_loopw [14, 15, 16, 17] (fun sd sk si sj wr => ∃ K D : Int, sk = .int .i64 K ∧ sd = .int .i64 D ∧ (K = 0 ∧ D = 0 ∨ K = 1 ∧ D = v0 * (w1 * o2 - w2 * o1) ∨ K = 2 ∧ D = v0 * (w1 * o2 - w2 * o1) + v1 * (w2 * o0 - w0 * o2) ∨ K = 3 ∧ D = 0) ∧ Hid (Below d7.heap.size d7 wr)) (fun _ sk _ _ _ => 3 - (intOf sk).toNat)
      case atStart => exact ⟨0, 0, rfl, rfl, .inl ⟨rfl, rfl⟩, HBB⟩
      case round =>
        obtain ⟨K, D, rfl, rfl, hK, HL⟩ := hrel
        rename World => wr
        have hdet := HDT.out
        obtain ⟨p0, p1, p2, p3, p4, p5, s0b, s1b, s2b⟩ := PB.out
        obtain ⟨cv0, cv1, cv2⟩ := HCV.out _ HL.out
        obtain ⟨cw0, cw1, cw2⟩ := HCW.out _ HL.out
        obtain ⟨co0, co1, co2⟩ := HCO.out _ HL.out
        rcases hK with ⟨rfl, rfl⟩ | ⟨rfl, rfl⟩ | ⟨rfl, rfl⟩ | ⟨rfl, rfl⟩
        · obtain ⟨E, hE⟩ : ∃ E, E = v0 * (w1 * o2 - w2 * o1) := ⟨_, rfl⟩
          have HE := hid hE
          have HD2 := hid hdet
          clear hdet hE
          go_wp2_with fail
          go_quiet (fail)
          go_wp2_with fail
          go_roundw
          case measure => simp only [intOf]; omega
          case rel =>
            have hdet := HD2.out
            exact ⟨1, _, by go_num, by go_num, .inr (.inl ⟨rfl, by omega⟩), hid (below_drewN HL.out _)⟩
        · obtain ⟨E, hE⟩ : ∃ E, E = v1 * (w2 * o0 - w0 * o2) := ⟨_, rfl⟩
          have HE := hid hE
          have HD2 := hid hdet
          clear hdet hE
          go_wp2_with fail
          go_quiet (fail)
          go_wp2_with fail
          go_roundw
          case measure => simp only [intOf]; omega
          case rel =>
            have hdet := HD2.out
            exact ⟨2, _, by go_num, by go_num, .inr (.inr (.inl ⟨rfl, by omega⟩)), hid (below_drewN HL.out _)⟩
        · obtain ⟨E, hE⟩ : ∃ E, E = v2 * (w0 * o1 - w1 * o0) := ⟨_, rfl⟩
          have HE := hid hE
          have HD2 := hid hdet
          clear hdet hE
          go_wp2_with fail
          go_quiet (fail)
          go_wp2_with fail
          go_roundw
          case measure => simp only [intOf]; omega
          case rel =>
            have hdet := HD2.out
            exact ⟨3, _, by go_num, by go_num, .inr (.inr (.inr ⟨rfl, by omega⟩)), hid (below_drewN HL.out _)⟩
        · skip
          have HB7' := hid (HB7.out.trans (HL.out.mono HB7.out.size))
          clear hdet p0 p1 p2 p3 p4 p5 s0b s1b s2b cv0 cv1 cv2 cw0 cw1 cw2 co0 co1 co2
          have Q9 := hid (Q_7.out.keep HL.out)
          have Y9 := hid (Y_7.out.keep HL.out)
          have R9 := hid (R_7.out.keep HL.out)
          go_wp2_with fail
          refine (sameInts_any _ _ [o0, o1, o2] [o0, o1, o2] _ Q9.out Y9.out).mono ?_
          rintro e g1 ⟨rfl, k1, hk1⟩
          have hb : Below wr.heap.size wr g1 := by rw [hk1]; exact below_drewN (Below.refl _ _) k1
          have HB9 := hid (HB7'.out.trans (hb.mono HB7'.out.size))
          have Y10 := hid (Y9.out.keep hb)
          have R10 := hid (R9.out.keep hb)
          clear hk1 hb
          go_wp2_with fail
          refine (sameInts_any _ _ [o0, o1, o2] [o0, o1, o2] _ R10.out Y10.out).mono ?_
          rintro e g2 ⟨rfl, k2, hk2⟩
          have hb : Below g1.heap.size g1 g2 := by rw [hk2]; exact below_drewN (Below.refl _ _) k2
          have HB10 := hid (HB9.out.trans (hb.mono HB9.out.size))
          clear hk2 hb
          go_wp2
          go_ret
          exact ⟨rfl, HB10.out⟩
theorem own : ownKnob Try.prog.godebug = none := by kernel_rfl
theorem laidOut : laidOutB Try.prog = true := by kernel_rfl
set_option maxRecDepth 100000 in
theorem lifted (os : Os) (started : os.Started) (H : Type) (enc : TypeId × Value → H) :
    ReturnsInHanded {} Try.checked os 4 .any (Rows.fnOtherSpec.pre6 enc Try.prog Try.f4 Rows.fnOtherRow.domain false) (Rows.fnOtherSpec.post enc Try.prog Try.f4 false true false false) := by
  refine returnsInHanded_of_change (C := Try.checked) own started (by kernel_rfl) Try.func4
    (ChangeSpec.witness6 (enc := enc) (C := Try.checked) false ⟨#[], #[.slice none 0 0], []⟩ 8 (by kernel_rfl) (by kernel_rfl) (by kernel_rfl) (by kernel_rfl)) ?_
  intro W base args ds gs before hval0 hW hcnd _
  have hval : ∀ (j : Nat) t v, Try.f4.params[j]? = some t → args[j]? = some v → Value.okWide Try.prog W .any base t v := hval0
  have hW' := hW
  obtain ⟨p, q, hA0, hV, rfl, hfz, hnd⟩ := hW
  have hA : DataW.TrodAll enc Try.prog W 0 (fun _ => true) true Try.f4.params.toList args.toList ds p := hA0
  rw [Try.params4] at hA hval
  obtain ⟨v0, vs0, d0, ds0, p0, q0, hargs, rfl, rfl, h0, r0⟩ := trodAll_cons hA
  obtain ⟨rfl, rfl, rfl⟩ := trodAll_nil r0
  obtain rfl : args = #[v0] := by cases args; simp_all
  obtain ⟨rfl, rfl⟩ := trodVars_none hV
  obtain ⟨a0, len0, cap0, rfl⟩ := okWide_slice Try.underlying22 (hval 0 22 v0 rfl rfl)
  have k0 := h0
  have lt0 : ∀ x ∈ p0, x.block < W.heap.size := by obtain ⟨m, hm⟩ := k0; exact DataW.trod_lt m _ _ _ hm
  obtain ⟨z0, w0⟩ : ∃ zs, IsRow .u8 W a0 len0 cap0 zs := by
    obtain ⟨fuel, hf⟩ := h0
    rcases open_ints Try.underlying22 Try.underlying5 (by kernel_rfl) hf with ⟨hcs, _⟩ | ⟨x, l, c, zs, hcs, _, hl, hm, hz, _, hcell, hwz⟩
    · simp [Value.cells] at hcs
      obtain ⟨rfl, rfl, rfl⟩ := hcs
      exact ⟨[], .inl ⟨rfl, rfl, rfl, rfl⟩⟩
    · simp [Value.cells] at hcs
      obtain ⟨rfl, rfl, rfl⟩ := hcs
      exact ⟨zs, .inr ⟨_, rfl, hl, hm, by simpa using hz, hcell, hwz⟩⟩
  clear hA0 hval0
  refine (walk a0 len0 cap0 z0 W w0).mono fun e W' ⟨he, bel⟩ => ?_
  subst he
  exact ⟨_, rfl, _, _, _, [], _, [], hW', trodAll_mk1 (shut_bool Try.underlying4 _), (trodAll_cons_mk (Below.trod laidOut (by kernel_rfl) (of_decide_eq_true (by kernel_rfl)) k0 bel lt0) trodAll_mk0), rfl, bel.frame _, fun h => by cases h⟩
theorem over : Rows.fnOtherRow.holds Try.pinned (OpenSpec.ofChange Rows.fnOtherSpec) :=
  OpenClaim.holds_of_wide 4 Try.f4 rfl rfl rfl rfl rfl rfl rfl ⟨rfl, rfl, rfl, rfl, rfl⟩ rfl rfl rfl rfl rfl (by kernel_rfl) Try.func4 (by kernel_rfl)
    (of_decide_eq_true (by kernel_rfl)) (by unfold Func.isWrapper; first | (rw [if_pos (by decide +kernel)]; kernel_rfl) | (rw [if_neg (by decide +kernel)]; exact ⟨rfl, rfl⟩))
    (fun os started H enc _ => lifted os started H enc)
theorem proved : Rows.FnOtherSaid := over
end Go.Proofs.Ytfjbdbfeolfcfaa.fnOther
