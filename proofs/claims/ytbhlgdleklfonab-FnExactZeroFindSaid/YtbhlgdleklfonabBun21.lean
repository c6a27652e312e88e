/-
  Some texts in one file: Zm2 Zm3.
-/
import Derived.Test.YtbhlgdleklfonabBun20
import Derived.Test.YtbhlgdleklfonabBun19
/-! Zm2 -/
set_option linter.unusedVariables false
namespace Go.Proofs.Ytbhlgdleklfonab
open Go.RowKit

theorem wrap5 : IntKind.i64.wrap 0 = 0 ∧ IntKind.i64.wrap 1 = 1 ∧ IntKind.i64.wrap 2 = 2 ∧ IntKind.i64.wrap 3 = 3 ∧ IntKind.i64.wrap 4 = 4 := by decide
/-- the cells of a list of three -/
theorem rd_three {w : World} {v : Value} {a b c : Int} (h : Rd w v [a, b, c]) : ∃ g o cap, v = .slice (some ⟨g, o, none⟩) 3 cap ∧ w.cell? ⟨g, o, none⟩ = some (.int .i64 a) ∧ w.cell? ⟨g, o + 1, none⟩ = some (.int .i64 b) ∧ w.cell? ⟨g, o + 2, none⟩ = some (.int .i64 c) := by
  obtain ⟨ad, cap, rfl, hform⟩ := h.form
  obtain ⟨g, o, rfl, _, hc⟩ := hform (by simp)
  exact ⟨g, o, cap, rfl, hc 0 (by simp), hc 1 (by simp), hc 2 (by simp)⟩
theorem lp_head {g : Nat} (h : 1 < g) : 0 < (natsI (plistG g)).length ∧ (natsI (plistG g)).getD 0 0 = ((lpG g : Nat) : Int) := by
  obtain ⟨_, h2⟩ := lpG_spec h
  unfold lpG at h2 ⊢
  cases hl : plistG g with
  | nil =>
    exfalso
    obtain ⟨s1, s2, s3⟩ := plistG_spec (show 0 < g by omega)
    obtain ⟨p1, p2⟩ := lpG_spec h
    have := s3 _ p1 p2
    rw [hl] at this
    cases this
  | cons x t => exact ⟨by simp [natsI], rfl⟩
theorem lp_bd {g : Nat} (h : 1 < g) : lpG g ≤ g := Nat.le_of_dvd (by omega) (lpG_spec h).2
theorem lp_two {g : Nat} (h : 1 < g) : 2 ≤ lpG g := (lpG_spec h).1.1
theorem gcd_le3 {a b : Int} (h0 : a ≠ 0) (h1 : -100000 ≤ a) (h2 : a ≤ 100000) : Nat.gcd a.natAbs b.natAbs ≤ 100000 :=
  Nat.le_trans (Nat.le_of_dvd (by omega) (Nat.gcd_dvd_left _ _)) (by omega)
/-- what tells two of three terms -/
def TwoDPost (a b c : Int) (w : World) (e : Ending) (w' : World) : Prop := e = .returned (.tuple #[.int .i64 (twoD a b c : Nat), .int .i64 (twoK a b c : Nat)]) ∧ Below w.heap.size w w'
set_option maxRecDepth 100000 in
set_option maxHeartbeats 4000000 in
theorem l5Two_any (v : Value) (a b c : Int) (a0 : a ≠ 0) (b0 : b ≠ 0) (c0 : c ≠ 0) (a1 : -100000 ≤ a) (a2 : a ≤ 100000) (b1 : -100000 ≤ b) (b2 : b ≤ 100000) (c1 : -100000 ≤ c) (c2 : c ≤ 100000) (w : World) (h : Rd w v [a, b, c]) :
    Calls Try.prog 73 #[v] w (TwoDPost a b c w) := by
  obtain ⟨g, o, cap, rfl, k0, k1, k2⟩ := rd_three h
  obtain ⟨wr0, wr1, wr2, wr3, wr4⟩ := wrap5
  have GA := hid (gcd_le3 (b := b) a0 a1 a2)
  have GB := hid (gcd_le3 (b := a) c0 c1 c2)
  have GC := hid (gcd_le3 (b := c) b0 b1 b2)
  have QG : Hid (∀ (x y : Int), -100000 ≤ x → x ≤ 100000 → -100000 ≤ y → y ≤ 100000 → ∀ (w : World) (n : Nat), Calls Try.prog 71 #[.int .i64 x, .int .i64 y] (w.drewN n) fun e w'' => e = .returned (.int .i64 (Nat.gcd x.natAbs y.natAbs : Nat)) ∧ ∃ m, w'' = w.drewN m) :=
    hid (fun x y x1 x2 y1 y2 w n => Calls.quiet_of_same ((l1Gcd_any x y (by omega) (by omega) (by omega) (by omega) _).mono fun _ _ h => ⟨h.1, h.2.symm⟩))
  have E1 : Hid (∀ G : Nat, G = Nat.gcd a.natAbs b.natAbs → 1 < G → twoD a b c = lpG G ∧ twoK a b c = 2) := hid (fun G hG h1 => by
    have e : Int.gcd a b = G := hG.symm
    unfold twoD twoK
    rw [e, if_pos h1, if_pos h1]
    exact ⟨rfl, rfl⟩)
  have E2 : Hid (∀ G : Nat, G = Nat.gcd c.natAbs a.natAbs → ¬ 1 < Nat.gcd a.natAbs b.natAbs → 1 < G → twoD a b c = lpG G ∧ twoK a b c = 1) := hid (fun G hG h0 h1 => by
    have e : Int.gcd c a = G := hG.symm
    have h0 : ¬ 1 < Int.gcd a b := h0
    unfold twoD twoK
    rw [if_neg h0, if_neg h0, e, if_pos h1, if_pos h1]
    exact ⟨rfl, rfl⟩)
  have E3 : Hid (∀ G : Nat, G = Nat.gcd b.natAbs c.natAbs → ¬ 1 < Nat.gcd a.natAbs b.natAbs → ¬ 1 < Nat.gcd c.natAbs a.natAbs → 1 < G → twoD a b c = lpG G ∧ twoK a b c = 0) := hid (fun G hG h0 h2 h1 => by
    have e : Int.gcd b c = G := hG.symm
    have h0 : ¬ 1 < Int.gcd a b := h0
    have h2 : ¬ 1 < Int.gcd c a := h2
    unfold twoD twoK
    rw [if_neg h0, if_neg h0, if_neg h2, if_neg h2, e, if_pos h1]
    exact ⟨rfl, rfl⟩)
  have E4 : Hid (¬ 1 < Nat.gcd a.natAbs b.natAbs → ¬ 1 < Nat.gcd c.natAbs a.natAbs → ¬ 1 < Nat.gcd b.natAbs c.natAbs → twoD a b c = 1 ∧ twoK a b c = 0) := hid (fun h0 h1 h2 => by
    have h0 : ¬ 1 < Int.gcd a b := h0
    have h1 : ¬ 1 < Int.gcd c a := h1
    have h2 : ¬ 1 < Int.gcd b c := h2
    unfold twoD twoK
    exact ⟨by rw [if_neg h0, if_neg h1, if_neg h2], by rw [if_neg h0, if_neg h1]⟩)
  clear h a0 b0 c0
  go_enter Try.func73, Try.ntmps73
  go_wp2_with fail
  go_loopw [4] (fun st wr => ∃ (T : Int), st = .int .i64 T ∧ Hid (∃ k, wr = w.drewN k) ∧ (T = 2 ∨ (T = 1 ∧ Hid (¬ 1 < Nat.gcd a.natAbs b.natAbs)) ∨ (T = 0 ∧ Hid (¬ 1 < Nat.gcd a.natAbs b.natAbs) ∧ Hid (¬ 1 < Nat.gcd c.natAbs a.natAbs)) ∨ (T = -1 ∧ Hid (¬ 1 < Nat.gcd a.natAbs b.natAbs) ∧ Hid (¬ 1 < Nat.gcd c.natAbs a.natAbs) ∧ Hid (¬ 1 < Nat.gcd b.natAbs c.natAbs)))) (fun st _ => (intOf st + 1).toNat)
  case atStart => exact ⟨2, rfl, hid ⟨0, rfl⟩, .inl rfl⟩
  case round =>
    obtain ⟨T, rfl, HW, hT⟩ := hrel
    rename World => wB
    have q0 : wB.cell? ⟨g, o, none⟩ = some (.int .i64 a) := by obtain ⟨k, rfl⟩ := HW.out; exact k0
    have q1 : wB.cell? ⟨g, o + 1, none⟩ = some (.int .i64 b) := by obtain ⟨k, rfl⟩ := HW.out; exact k1
    have q2 : wB.cell? ⟨g, o + 2, none⟩ = some (.int .i64 c) := by obtain ⟨k, rfl⟩ := HW.out; exact k2
    have HBW : Hid (∀ n, Below w.heap.size w (wB.drewN n)) := hid (fun n => by obtain ⟨k, hk⟩ := HW.out; rw [hk]; exact below_drewN (below_drewN (Below.refl _ _) _) _)
    rcases hT with rfl | ⟨rfl, H0⟩ | ⟨rfl, H0, H1⟩ | ⟨rfl, H0, H1, H2⟩
    · go_wp2_with fail
      go_quiet ((go_at_call 71; exact QG.out _ _ (by omega) (by omega) (by omega) (by omega) _ _))
      obtain ⟨G, hG⟩ : ∃ G, G = Nat.gcd a.natAbs b.natAbs := ⟨_, rfl⟩
      rw [← hG] at GA ⊢
      have hGb := GA.out
      by_cases h1 : 1 < G
      · have hp := lp_head h1
        have hpb := lp_bd h1
        have hE := E1.out G hG h1
        have HE := hid hE
        have h1i : (1 : Int) < (G : Int) := by omega
        have eg : ((G : Int).natAbs) = G := Int.natAbs_natCast G
        have hl := hp.1
        have hlz : (0 : Int) < ((natsI (plistG G)).length : Int) := by omega
        have HP := hid hp.2
        clear hG hp hE
        go_wp2_with fail
        refine (l1PrimesG_any (G : Int) (by omega) (by omega) (by omega) _).mono ?_
        rw [eg]
        rintro e w2 ⟨u, rfl, ho, hb⟩
        obtain ⟨g2, cap2, rfl, _, _⟩ := ho.block_of hl
        have hce := ho.elem hl
        rw [HP.out] at hce
        clear ho
        go_wp2_with fail
        go_ret2
        exact ⟨retV (by rw [HE.out.1, HE.out.2]; rfl), (HBW.out _).trans (hb.mono (HBW.out _).size)⟩
      · have HN := hid h1
        have h1i : ¬ (1 : Int) < (G : Int) := by omega
        have hGE := hid hG
        clear hG
        go_wp2_with fail
        go_roundw
        case measure => simp only [intOf]; omega
        case rel => exact ⟨1, rfl, hid (by obtain ⟨k, hk⟩ := HW.out; exact ⟨k + nq, by rw [hk, World.drewN_drewN]⟩), .inr (.inl ⟨rfl, hid (by rw [← hGE.out]; exact HN.out)⟩)⟩
    · go_wp2_with fail
      go_quiet ((go_at_call 71; exact QG.out _ _ (by omega) (by omega) (by omega) (by omega) _ _))
      obtain ⟨G, hG⟩ : ∃ G, G = Nat.gcd c.natAbs a.natAbs := ⟨_, rfl⟩
      rw [← hG] at GB ⊢
      have hGb := GB.out
      by_cases h1 : 1 < G
      · have hp := lp_head h1
        have hpb := lp_bd h1
        have hE := E2.out G hG H0.out h1
        have HE := hid hE
        have h1i : (1 : Int) < (G : Int) := by omega
        have eg : ((G : Int).natAbs) = G := Int.natAbs_natCast G
        have hl := hp.1
        have hlz : (0 : Int) < ((natsI (plistG G)).length : Int) := by omega
        have HP := hid hp.2
        clear hG hp hE
        go_wp2_with fail
        refine (l1PrimesG_any (G : Int) (by omega) (by omega) (by omega) _).mono ?_
        rw [eg]
        rintro e w2 ⟨u, rfl, ho, hb⟩
        obtain ⟨g2, cap2, rfl, _, _⟩ := ho.block_of hl
        have hce := ho.elem hl
        rw [HP.out] at hce
        clear ho
        go_wp2_with fail
        go_ret2
        exact ⟨retV (by rw [HE.out.1, HE.out.2]; rfl), (HBW.out _).trans (hb.mono (HBW.out _).size)⟩
      · have HN := hid h1
        have h1i : ¬ (1 : Int) < (G : Int) := by omega
        have hGE := hid hG
        clear hG
        go_wp2_with fail
        go_roundw
        case measure => simp only [intOf]; omega
        case rel => exact ⟨0, rfl, hid (by obtain ⟨k, hk⟩ := HW.out; exact ⟨k + nq, by rw [hk, World.drewN_drewN]⟩), .inr (.inr (.inl ⟨rfl, H0, hid (by rw [← hGE.out]; exact HN.out)⟩))⟩
    · go_wp2_with fail
      go_quiet ((go_at_call 71; exact QG.out _ _ (by omega) (by omega) (by omega) (by omega) _ _))
      obtain ⟨G, hG⟩ : ∃ G, G = Nat.gcd b.natAbs c.natAbs := ⟨_, rfl⟩
      rw [← hG] at GC ⊢
      have hGb := GC.out
      by_cases h1 : 1 < G
      · have hp := lp_head h1
        have hpb := lp_bd h1
        have hE := E3.out G hG H0.out H1.out h1
        have HE := hid hE
        have h1i : (1 : Int) < (G : Int) := by omega
        have eg : ((G : Int).natAbs) = G := Int.natAbs_natCast G
        have hl := hp.1
        have hlz : (0 : Int) < ((natsI (plistG G)).length : Int) := by omega
        have HP := hid hp.2
        clear hG hp hE
        go_wp2_with fail
        refine (l1PrimesG_any (G : Int) (by omega) (by omega) (by omega) _).mono ?_
        rw [eg]
        rintro e w2 ⟨u, rfl, ho, hb⟩
        obtain ⟨g2, cap2, rfl, _, _⟩ := ho.block_of hl
        have hce := ho.elem hl
        rw [HP.out] at hce
        clear ho
        go_wp2_with fail
        go_ret2
        exact ⟨retV (by rw [HE.out.1, HE.out.2]; rfl), (HBW.out _).trans (hb.mono (HBW.out _).size)⟩
      · have HN := hid h1
        have h1i : ¬ (1 : Int) < (G : Int) := by omega
        have hGE := hid hG
        clear hG
        go_wp2_with fail
        go_roundw
        case measure => simp only [intOf]; omega
        case rel => exact ⟨-1, rfl, hid (by obtain ⟨k, hk⟩ := HW.out; exact ⟨k + nq, by rw [hk, World.drewN_drewN]⟩), .inr (.inr (.inr ⟨rfl, H0, H1, hid (by rw [← hGE.out]; exact HN.out)⟩))⟩
    · have hE := hid (E4.out H0.out H1.out H2.out)
      go_wp2_with fail
      go_ret2
      exact ⟨retV (by rw [hE.out.1, hE.out.2]; rfl), HBW.out 0⟩

set_option maxRecDepth 100000 in
set_option maxHeartbeats 1000000 in
theorem l5Root_any (n : Int) (n0 : 0 ≤ n) (n1 : n ≤ 1000000000000) (w : World) : Calls Try.prog 77 #[.int .i64 n] w fun e w' => ((∃ z : Nat, rootO n = some z ∧ z ≤ 1048576 ∧ e = .returned (.int .i64 z)) ∨ (rootO n = none ∧ e = .returned (.int .i64 (-1)))) ∧ w = w' := by
  go_enter Try.func77, Try.ntmps77
  go_wp2
  go_loop [3, 4] (fun sl sh => ∃ L H : Nat, sl = .int .i64 L ∧ sh = .int .i64 H ∧ L ≤ H ∧ H ≤ 1048576 ∧ Hid (∀ r : Nat, r < L → (r : Int) * r < n) ∧ Hid (n ≤ (H : Int) * H)) (fun sl sh => (intOf sh - intOf sl).toNat)
  case atStart => exact ⟨0, 1048576, rfl, rfl, by omega, by omega, hid (fun r hr => by omega), hid (by omega)⟩
  case round =>
    obtain ⟨L, H, rfl, rfl, hLH, hH, HL, HH⟩ := hrel
    by_cases hlt : L < H
    · have hi : (L : Int) < (H : Int) := by omega
      obtain ⟨M, hM⟩ : ∃ M, M = (L + H) / 2 := ⟨_, rfl⟩
      have eM : ((L : Int) + (H : Int)) / 2 = (M : Int) := by omega
      have eM2 : ((L : Int) + (H : Int)).tdiv 2 = (M : Int) := by rw [Int.tdiv_eq_ediv_of_nonneg (by omega)]; exact eM
      have hM1 : L ≤ M := by omega
      have hM2 : M < H := by omega
      have hMM := mul_bd (show M ≤ 1048576 by omega) (show M ≤ 1048576 by omega)
      clear hM
      by_cases hm : (M : Int) * M < n
      · have HM := hid hm
        go_wp2
        go_round
        case measure => simp only [intOf]; omega
        case rel => exact ⟨M + 1, H, by go_num, rfl, by omega, hH, hid (fun r hr => by
          have := sq_mono (show r ≤ M by omega)
          have := HM.out
          omega), HH⟩
      · have HM := hid hm
        go_wp2
        go_round
        case measure => simp only [intOf]; omega
        case rel => exact ⟨L, M, rfl, rfl, hM1, by omega, HL, hid (by have := HM.out; omega)⟩
    · obtain rfl : L = H := by omega
      have hMM := mul_bd (show L ≤ 1048576 by omega) (show L ≤ 1048576 by omega)
      by_cases he : (L : Int) * L = n
      · have T : ((L : Int) * L == n) = true := by rw [beq_iff_eq]; exact he
        have HR := hid (rootO_of he)
        clear he
        go_wp2
        go_ret
        exact ⟨.inl ⟨L, HR.out, hH, rfl⟩, rfl⟩
      · have T : ((L : Int) * L == n) = false := by rw [beq_eq_false_iff_ne]; exact he
        have HR : Hid (rootO n = none) := hid (rootO_none fun z hz => by
          rcases Nat.lt_trichotomy z L with h | h | h
          · have := HL.out z h; omega
          · subst h; exact he hz
          · have h2 := sq_mono (Nat.le_of_lt h)
            have := HH.out
            omega)
        clear he
        go_wp2
        go_ret
        exact ⟨.inr ⟨HR.out, rfl⟩, rfl⟩

end Go.Proofs.Ytbhlgdleklfonab

/-! Zm3 -/
set_option linter.unusedVariables false
namespace Go.Proofs.Ytbhlgdleklfonab
open Go.RowKit

theorem sqz_mul {a : Int} {x : Nat} {A X : Nat} (ha : a.natAbs ≤ A) (hx : x * x ≤ X) (hX : X ≤ 1000000) : (a * (x : Int)).natAbs ≤ A * 1000 ∧ (a * (x : Int) * (x : Int)).natAbs ≤ A * X := by
  have hx1 : x ≤ 1000 := by
    refine Classical.byContradiction fun h => ?_
    have := Nat.mul_le_mul (show 1001 ≤ x by omega) (show 1001 ≤ x by omega)
    omega
  refine ⟨?_, ?_⟩
  · rw [Int.natAbs_mul, Int.natAbs_natCast]; exact Nat.mul_le_mul ha hx1
  · rw [Int.natAbs_mul, Int.natAbs_mul, Int.natAbs_natCast, Nat.mul_assoc]; exact Nat.mul_le_mul ha hx
/-- bounds of what is searched -/
structure T3.Lim (t : T3) : Prop where
  nz : t.nz
  a : t.a.natAbs ≤ 30000
  b : t.b.natAbs ≤ 30000
  c : t.c.natAbs ≤ 30000
  bc : (t.b * t.c).natAbs ≤ 30000
  ac : (t.a * t.c).natAbs ≤ 30000
theorem T3.lim_of {t : T3} (h : t.nz) (hp : t.prod ≤ 30000) : t.Lim := by
  obtain ⟨h1, h2, h3, h4, h5, _⟩ := T3.bd h hp
  exact ⟨h, h1, h2, h3, h4, h5⟩
theorem hit_zero {t : T3} {x y : Nat} (h : x = 0 ∧ y = 0) : hitO t x y = none := by unfold hitO; rw [if_pos h]
theorem hit_rest {t : T3} {x y : Nat} (h : topI t x y % t.c ≠ 0) : hitO t x y = none := by
  unfold hitO
  by_cases h0 : x = 0 ∧ y = 0
  · rw [if_pos h0]
  · rw [if_neg h0, if_neg h]
theorem hit_root {t : T3} {x y : Nat} (h0 : ¬ (x = 0 ∧ y = 0)) (h : topI t x y % t.c = 0) : hitO t x y = (rootO ((topI t x y).tdiv t.c)).map (fun z => [(x : Int), (y : Int), (z : Int)]) := by
  unfold hitO; rw [if_neg h0, if_pos h]
theorem hit_neg {t : T3} {x y : Nat} (h : (topI t x y).tdiv t.c < 0) : hitO t x y = none := by
  unfold hitO
  split
  · rfl
  · split
    · rw [show rootO ((topI t x y).tdiv t.c) = none by unfold rootO; rw [if_pos h]]; rfl
    · rfl
theorem tmod_zero {n c : Int} : n.tmod c = 0 ↔ n % c = 0 :=
  ⟨fun h => Int.emod_eq_zero_of_dvd (Int.dvd_of_tmod_eq_zero h), fun h => Int.tmod_eq_zero_of_dvd (Int.dvd_of_emod_eq_zero h)⟩

/-- what a search hands back -/
def SearchPost (o : Option (List Int)) (w : World) (e : Ending) (w' : World) : Prop := ∃ u, e = .returned (.tuple #[u, .bool o.isSome]) ∧ Owns w' w.heap.size u (o.getD []) ∧ Below w.heap.size w w'
set_option maxRecDepth 100000 in
set_option maxHeartbeats 4000000 in
theorem l5Search_any (v : Value) (t : T3) (hl : t.Lim) (w : World) (h : Rd w v t.toL) : Calls Try.prog 49 #[v] w (SearchPost (searchO t) w) := by
  obtain ⟨a, b, c⟩ := t
  obtain ⟨g, o, cap, rfl, k0, k1, k2⟩ := rd_three h
  obtain ⟨⟨a0, b0, c0⟩, ha, hb, hc, hbc, hac⟩ := hl
  dsimp only at a0 b0 c0 ha hb hc hbc hac
  have HC0 := hid c0
  have C0 : (c == 0) = false := by rw [beq_eq_false_iff_ne]; exact c0
  obtain ⟨N, hN⟩ : ∃ N, N = (b * c).natAbs := ⟨_, rfl⟩
  obtain ⟨M, hM⟩ : ∃ M, M = (a * c).natAbs := ⟨_, rfl⟩
  rw [← hN] at hbc
  rw [← hM] at hac
  have HN := hid hN
  have HM := hid hM
  have eN : Hid (searchO ⟨a, b, c⟩ = firstO (rowO ⟨a, b, c⟩) N) := hid (by unfold searchO; rw [hN])
  have eM : Hid (∀ x, rowO ⟨a, b, c⟩ x = firstO (hitO ⟨a, b, c⟩ x) M) := hid (fun x => by unfold rowO; rw [hM])
  have n1 : -30000 ≤ b * c := by omega
  have n2 : b * c ≤ 30000 := by omega
  have m1 : -30000 ≤ a * c := by omega
  have m2 : a * c ≤ 30000 := by omega
  clear h a0 b0 c0 hN hM
  go_enter Try.func49, Try.ntmps49
  go_wp2_with fail
  go_loop [7] (fun sx => ∃ X : Nat, sx = .int .i64 X ∧ X ≤ 1000 ∧ Hid (∀ i, i < X → rowO ⟨a, b, c⟩ i = none)) (fun sx => 1001 - (intOf sx).toNat)
  case atStart => exact ⟨0, rfl, by omega, hid (fun i hi => by omega)⟩
  case round =>
    obtain ⟨X, rfl, hX, HX⟩ := hrel
    have hXX := Nat.mul_le_mul hX hX
    have eXX : (X : Int) * X = ((X * X : Nat) : Int) := by push_cast; rfl
    have x1 : 0 ≤ (X : Int) * X := by rw [eXX]; omega
    have x2 : (X : Int) * X ≤ 1000000 := by rw [eXX]; omega
    by_cases hle : X * X ≤ N
    · have hle' : (X : Int) * X ≤ (N : Int) := by rw [eXX]; omega
      have hXL : X ≤ 999 := by
        refine Classical.byContradiction fun h => ?_
        have := Nat.mul_le_mul (show 1000 ≤ X by omega) (show 1000 ≤ X by omega)
        omega
      have hsx := sqz_mul ha hle (by omega)
      have HLE := hid hle
      have ax := hsx.1
      have axx : (a * (X : Int) * (X : Int)).natAbs ≤ 900000000 := Nat.le_trans hsx.2 (Nat.mul_le_mul (Nat.le_refl _) hbc)
      have ax1 : -30000000 ≤ a * (X : Int) := by omega
      have ax2 : a * (X : Int) ≤ 30000000 := by omega
      have axx1 : -900000000 ≤ a * (X : Int) * (X : Int) := by omega
      have axx2 : a * (X : Int) * (X : Int) ≤ 900000000 := by omega
      clear hsx ax axx hle eXX hXX
      go_wp2_with (go_at_call 69; refine (l1Size_any _ (by omega) (by omega) _).mono ?_; rw [← HN.out]; rintro e w' ⟨rfl, rfl⟩)
      go_loop [8] (fun sy => ∃ Y : Nat, sy = .int .i64 Y ∧ Y ≤ 1000 ∧ Hid (∀ i, i < Y → hitO ⟨a, b, c⟩ X i = none)) (fun sy => 1001 - (intOf sy).toNat)
      case atStart => exact ⟨0, rfl, by omega, hid (fun i hi => by omega)⟩
      case round =>
        obtain ⟨Y, rfl, hY, HY⟩ := hrel
        have hYY := Nat.mul_le_mul hY hY
        have eYY : (Y : Int) * Y = ((Y * Y : Nat) : Int) := by push_cast; rfl
        have y1 : 0 ≤ (Y : Int) * Y := by rw [eYY]; omega
        have y2 : (Y : Int) * Y ≤ 1000000 := by rw [eYY]; omega
        by_cases hle2 : Y * Y ≤ M
        · have hle2' : (Y : Int) * Y ≤ (M : Int) := by rw [eYY]; omega
          have hYL : Y ≤ 999 := by
            refine Classical.byContradiction fun h => ?_
            have := Nat.mul_le_mul (show 1000 ≤ Y by omega) (show 1000 ≤ Y by omega)
            omega
          have hsy := sqz_mul hb hle2 (by omega)
          have HLE2 := hid hle2
          have by' := hsy.1
          have byy : (b * (Y : Int) * (Y : Int)).natAbs ≤ 900000000 := Nat.le_trans hsy.2 (Nat.mul_le_mul (Nat.le_refl _) hac)
          have by1 : -30000000 ≤ b * (Y : Int) := by omega
          have by2 : b * (Y : Int) ≤ 30000000 := by omega
          have byy1 : -900000000 ≤ b * (Y : Int) * (Y : Int) := by omega
          have byy2 : b * (Y : Int) * (Y : Int) ≤ 900000000 := by omega
          have NEXT : Hid (hitO ⟨a, b, c⟩ X Y = none → ∀ i, i < Y + 1 → hitO ⟨a, b, c⟩ X i = none) := hid (fun h i hi => by
            by_cases e : i = Y
            · rw [e]; exact h
            · exact HY.out i (by omega))
          have HT : topI ⟨a, b, c⟩ X Y = -(a * (X : Int) * (X : Int)) - b * (Y : Int) * (Y : Int) := by unfold topI; rw [Int.zero_sub]
          obtain ⟨q, hq⟩ : ∃ q, q = (-(a * (X : Int) * (X : Int)) - b * (Y : Int) * (Y : Int)).tdiv c := ⟨_, rfl⟩
          have hqb : q.natAbs ≤ 2000000000 := by
            rw [hq, Int.natAbs_tdiv]
            exact Nat.le_trans (Nat.div_le_self _ _) (by omega)
          have hqe := hq.symm
          have HR : hitO ⟨a, b, c⟩ X Y = hitO ⟨a, b, c⟩ X Y := rfl
          clear hsy by' byy hle2 eYY hYY HR
          by_cases hd : (-(a * (X : Int) * (X : Int)) - b * (Y : Int) * (Y : Int)).tmod c = 0
          · have T1 : ((-(a * (X : Int) * (X : Int)) - b * (Y : Int) * (Y : Int)).tmod c != 0) = false := by rw [bne_eq_false_iff_eq]; exact hd
            have hd2 : topI ⟨a, b, c⟩ X Y % (T3.mk a b c).c = 0 := by rw [HT]; exact tmod_zero.1 hd
            by_cases hqn : q < 0
            · have HN2 := hid (NEXT.out (hit_neg (by rw [HT, ← hq]; exact hqn)))
              clear hd2 HT hq
              go_wp2_with (go_at_call 69; refine (l1Size_any _ (by omega) (by omega) _).mono ?_; rw [← HM.out]; rintro e w' ⟨rfl, rfl⟩)
              go_round
              case measure => simp only [intOf]; omega
              case rel => exact ⟨Y + 1, by go_num, by omega, HN2⟩
            · by_cases hz : X = 0 ∧ Y = 0
              · have HN2 := hid (NEXT.out (hit_zero hz))
                obtain ⟨hX0, hY0⟩ := hz
                have X0 : ((X : Int) == 0) = true := by rw [beq_iff_eq]; omega
                have Y0 : ((Y : Int) == 0) = true := by rw [beq_iff_eq]; omega
                clear hd2 HT hq hX0 hY0
                go_wp2_with (go_at_call 69; refine (l1Size_any _ (by omega) (by omega) _).mono ?_; rw [← HM.out]; rintro e w' ⟨rfl, rfl⟩)
                go_round
                case measure => simp only [intOf]; omega
                case rel => exact ⟨Y + 1, by go_num, by omega, HN2⟩
              · have hr := hit_root (t := ⟨a, b, c⟩) hz hd2
                rw [HT, show (T3.mk a b c).c = c from rfl, ← hq] at hr
                have HRT := hid hr
                have hz2 : (X : Int) = 0 → ¬ (Y : Int) = 0 := fun h1 h2 => hz ⟨by omega, by omega⟩
                have hq0 : 0 ≤ q := by omega
                clear hd2 HT hq hr hz
                by_cases hX0 : X = 0
                · have X0 : ((X : Int) == 0) = true := by rw [beq_iff_eq]; omega
                  have Y0 : ((Y : Int) == 0) = false := by rw [beq_eq_false_iff_ne]; exact hz2 (by omega)
                  clear hX0 hz2
                  go_wp2_with (first | (go_at_call 69; refine (l1Size_any _ (by omega) (by omega) _).mono ?_; rw [← HM.out]; rintro e w' ⟨rfl, rfl⟩))
                  refine (l5Root_any q hq0 (by omega) _).mono ?_
                  rintro e w' ⟨⟨z, hzr, hzb, rfl⟩ | ⟨hzn, rfl⟩, rfl⟩
                  · have hz0 : (0 : Int) ≤ (z : Int) := by omega
                    have HS : Hid (searchO ⟨a, b, c⟩ = some [(X : Int), (Y : Int), (z : Int)]) := hid (by
                      rw [eN.out]
                      refine first_some HX.out HLE.out ?_
                      rw [eM.out]
                      refine first_some HY.out HLE2.out ?_
                      rw [HRT.out, hzr]; rfl)
                    clear hzr
                    go_wp2_with fail
                    go_ret2
                    refine ⟨_, by rw [HS.out]; rfl, ?_, (Below.refl _ _).alloc (Nat.le_refl _) _⟩
                    rw [HS.out]
                    exact owns_lit [(X : Int), (Y : Int), (z : Int)] _ rfl (Nat.le_refl _) (by unfold maxLen; simp)
                  · have HN2 := hid (NEXT.out (by rw [HRT.out, hzn]; rfl))
                    clear hzn
                    go_wp2_with fail
                    go_round
                    case measure => simp only [intOf]; omega
                    case rel => exact ⟨Y + 1, by go_num, by omega, HN2⟩
                · have X0 : ((X : Int) == 0) = false := by rw [beq_eq_false_iff_ne]; omega
                  clear hX0 hz2
                  go_wp2_with (first | (go_at_call 69; refine (l1Size_any _ (by omega) (by omega) _).mono ?_; rw [← HM.out]; rintro e w' ⟨rfl, rfl⟩))
                  refine (l5Root_any q hq0 (by omega) _).mono ?_
                  rintro e w' ⟨⟨z, hzr, hzb, rfl⟩ | ⟨hzn, rfl⟩, rfl⟩
                  · have hz0 : (0 : Int) ≤ (z : Int) := by omega
                    have HS : Hid (searchO ⟨a, b, c⟩ = some [(X : Int), (Y : Int), (z : Int)]) := hid (by
                      rw [eN.out]
                      refine first_some HX.out HLE.out ?_
                      rw [eM.out]
                      refine first_some HY.out HLE2.out ?_
                      rw [HRT.out, hzr]; rfl)
                    clear hzr
                    go_wp2_with fail
                    go_ret2
                    refine ⟨_, by rw [HS.out]; rfl, ?_, (Below.refl _ _).alloc (Nat.le_refl _) _⟩
                    rw [HS.out]
                    exact owns_lit [(X : Int), (Y : Int), (z : Int)] _ rfl (Nat.le_refl _) (by unfold maxLen; simp)
                  · have HN2 := hid (NEXT.out (by rw [HRT.out, hzn]; rfl))
                    clear hzn
                    go_wp2_with fail
                    go_round
                    case measure => simp only [intOf]; omega
                    case rel => exact ⟨Y + 1, by go_num, by omega, HN2⟩
          · have T1 : ((-(a * (X : Int) * (X : Int)) - b * (Y : Int) * (Y : Int)).tmod c != 0) = true := by rw [bne_iff_ne]; exact hd
            have HN2 := hid (NEXT.out (hit_rest (by rw [HT]; exact fun h => hd (tmod_zero.2 h))))
            clear HT hq hqe hd
            go_wp2_with (go_at_call 69; refine (l1Size_any _ (by omega) (by omega) _).mono ?_; rw [← HM.out]; rintro e w' ⟨rfl, rfl⟩)
            go_round
            case measure => simp only [intOf]; omega
            case rel => exact ⟨Y + 1, by go_num, by omega, HN2⟩
        · have hle2' : ¬ (Y : Int) * Y ≤ (M : Int) := by rw [eYY]; omega
          have HR : Hid (rowO ⟨a, b, c⟩ X = none) := hid (by rw [eM.out]; exact first_none HY.out hle2)
          clear hle2 eYY hYY
          go_wp2_with (go_at_call 69; refine (l1Size_any _ (by omega) (by omega) _).mono ?_; rw [← HM.out]; rintro e w' ⟨rfl, rfl⟩)
          go_round
          case measure => simp only [intOf]; omega
          case rel => exact ⟨X + 1, by go_num, by omega, hid (fun i hi => by
            by_cases e : i = X
            · rw [e]; exact HR.out
            · exact HX.out i (by omega))⟩
    · have hle' : ¬ (X : Int) * X ≤ (N : Int) := by rw [eXX]; omega
      have HS : Hid (searchO ⟨a, b, c⟩ = none) := hid (by rw [eN.out]; exact first_none HX.out hle)
      clear hle eXX hXX
      go_wp2_with (go_at_call 69; refine (l1Size_any _ (by omega) (by omega) _).mono ?_; rw [← HN.out]; rintro e w' ⟨rfl, rfl⟩)
      go_ret2
      refine ⟨_, by rw [HS.out]; rfl, ?_, (Below.refl _ _).alloc (Nat.le_refl _) _⟩
      rw [HS.out]
      exact World.ownsRow_made (size := 1) _ #[] 0 (Nat.le_refl _) (by unfold maxLen; omega) rfl

end Go.Proofs.Ytbhlgdleklfonab
