/-
  Contracts of the model's chapter 5: which prime divides two of three terms; roots; the search.
-/
import Derived.Test.YtfjbdbfeolfcfaaQZm1
import Derived.Test.YtfjbdbfeolfcfaaQVals6
import Derived.Test.YtfjbdbfeolfcfaaQOwn2
set_option linter.unusedVariables false
namespace Go.Proofs.Ytfjbdbfeolfcfaa
open Go.RowKit

theorem wrap5 : IntKind.i64.wrap 0 = 0 ∧ IntKind.i64.wrap 1 = 1 ∧ IntKind.i64.wrap 2 = 2 ∧ IntKind.i64.wrap 3 = 3 ∧ IntKind.i64.wrap 4 = 4 := by decide
/-- the cells of a list of three -/
theorem rd_three {w : World} {v : Value} {a b c : Int} (h : Rd w v [a, b, c]) : ∃ g o cap, v = .slice (some ⟨g, o, none⟩) 3 cap ∧ w.cell? ⟨g, o, none⟩ = some (.int .i64 a) ∧ w.cell? ⟨g, o + 1, none⟩ = some (.int .i64 b) ∧ w.cell? ⟨g, o + 2, none⟩ = some (.int .i64 c) := by
  obtain ⟨ad, cap, rfl, hform⟩ := h.form
  obtain ⟨g, o, rfl, _, hc⟩ := hform (by simp)
  exact ⟨g, o, cap, rfl, hc 0 (by simp), hc 1 (by simp), hc 2 (by simp)⟩
theorem lp_head {g : Nat} (h : 1 < g) : 0 < (natsI (plistG g)).length ∧ (natsI (plistG g)).getD 0 0 = ((lpG g : Nat) : Int) := by
  obtain ⟨_, h2⟩ := lpG_spec h
  unfold lpG at h2 ⊢
  cases hl : plistG g with
  | nil =>
    exfalso
    obtain ⟨s1, s2, s3⟩ := plistG_spec (show 0 < g by omega)
    obtain ⟨p1, p2⟩ := lpG_spec h
    have := s3 _ p1 p2
    rw [hl] at this
    cases this
  | cons x t => exact ⟨by simp [natsI], rfl⟩
theorem lp_bd {g : Nat} (h : 1 < g) : lpG g ≤ g := Nat.le_of_dvd (by omega) (lpG_spec h).2
theorem lp_two {g : Nat} (h : 1 < g) : 2 ≤ lpG g := (lpG_spec h).1.1
theorem gcd_le3 {a b : Int} (h0 : a ≠ 0) (h1 : -100000 ≤ a) (h2 : a ≤ 100000) : Nat.gcd a.natAbs b.natAbs ≤ 100000 :=
  Nat.le_trans (Nat.le_of_dvd (by omega) (Nat.gcd_dvd_left _ _)) (by omega)
/-- what tells two of three terms -/
def TwoDPost (a b c : Int) (w : World) (e : Ending) (w' : World) : Prop := e = .returned (.tuple #[.int .i64 (twoD a b c : Nat), .int .i64 (twoK a b c : Nat)]) ∧ Below w.heap.size w w'
set_option maxRecDepth 100000 in
set_option maxHeartbeats 4000000 in
theorem l5Two_any (v : Value) (a b c : Int) (a0 : a ≠ 0) (b0 : b ≠ 0) (c0 : c ≠ 0) (a1 : -100000 ≤ a) (a2 : a ≤ 100000) (b1 : -100000 ≤ b) (b2 : b ≤ 100000) (c1 : -100000 ≤ c) (c2 : c ≤ 100000) (w : World) (h : Rd w v [a, b, c]) :
    Calls Try.prog 85 #[v] w (TwoDPost a b c w) := by
  obtain ⟨g, o, cap, rfl, k0, k1, k2⟩ := rd_three h
  obtain ⟨wr0, wr1, wr2, wr3, wr4⟩ := wrap5
  have GA := hid (gcd_le3 (b := b) a0 a1 a2)
  have GB := hid (gcd_le3 (b := a) c0 c1 c2)
  have GC := hid (gcd_le3 (b := c) b0 b1 b2)
  have QG : Hid (∀ (x y : Int), -100000 ≤ x → x ≤ 100000 → -100000 ≤ y → y ≤ 100000 → ∀ (w : World) (n : Nat), Calls Try.prog 71 #[.int .i64 x, .int .i64 y] (w.drewN n) fun e w'' => e = .returned (.int .i64 (Nat.gcd x.natAbs y.natAbs : Nat)) ∧ ∃ m, w'' = w.drewN m) :=
    hid (fun x y x1 x2 y1 y2 w n => Calls.quiet_of_same ((l1Gcd_any x y (by omega) (by omega) (by omega) (by omega) _).mono fun _ _ h => ⟨h.1, h.2.symm⟩))
  have E1 : Hid (∀ G : Nat, G = Nat.gcd a.natAbs b.natAbs → 1 < G → twoD a b c = lpG G ∧ twoK a b c = 2) := hid (fun G hG h1 => by
    have e : Int.gcd a b = G := hG.symm
    unfold twoD twoK
    rw [e, if_pos h1, if_pos h1]
    exact ⟨rfl, rfl⟩)
  have E2 : Hid (∀ G : Nat, G = Nat.gcd c.natAbs a.natAbs → ¬ 1 < Nat.gcd a.natAbs b.natAbs → 1 < G → twoD a b c = lpG G ∧ twoK a b c = 1) := hid (fun G hG h0 h1 => by
    have e : Int.gcd c a = G := hG.symm
    have h0 : ¬ 1 < Int.gcd a b := h0
    unfold twoD twoK
    rw [if_neg h0, if_neg h0, e, if_pos h1, if_pos h1]
    exact ⟨rfl, rfl⟩)
  have E3 : Hid (∀ G : Nat, G = Nat.gcd b.natAbs c.natAbs → ¬ 1 < Nat.gcd a.natAbs b.natAbs → ¬ 1 < Nat.gcd c.natAbs a.natAbs → 1 < G → twoD a b c = lpG G ∧ twoK a b c = 0) := hid (fun G hG h0 h2 h1 => by
    have e : Int.gcd b c = G := hG.symm
    have h0 : ¬ 1 < Int.gcd a b := h0
    have h2 : ¬ 1 < Int.gcd c a := h2
    unfold twoD twoK
    rw [if_neg h0, if_neg h0, if_neg h2, if_neg h2, e, if_pos h1]
    exact ⟨rfl, rfl⟩)
  have E4 : Hid (¬ 1 < Nat.gcd a.natAbs b.natAbs → ¬ 1 < Nat.gcd c.natAbs a.natAbs → ¬ 1 < Nat.gcd b.natAbs c.natAbs → twoD a b c = 1 ∧ twoK a b c = 0) := hid (fun h0 h1 h2 => by
    have h0 : ¬ 1 < Int.gcd a b := h0
    have h1 : ¬ 1 < Int.gcd c a := h1
    have h2 : ¬ 1 < Int.gcd b c := h2
    unfold twoD twoK
    exact ⟨by rw [if_neg h0, if_neg h1, if_neg h2], by rw [if_neg h0, if_neg h1]⟩)
  clear h a0 b0 c0
  go_enter Try.func85, Try.ntmps85
  go_wp2_with fail
  go_loopw [4] (fun st wr => ∃ (T : Int), st = .int .i64 T ∧ Hid (∃ k, wr = w.drewN k) ∧ (T = 2 ∨ (T = 1 ∧ Hid (¬ 1 < Nat.gcd a.natAbs b.natAbs)) ∨ (T = 0 ∧ Hid (¬ 1 < Nat.gcd a.natAbs b.natAbs) ∧ Hid (¬ 1 < Nat.gcd c.natAbs a.natAbs)) ∨ (T = -1 ∧ Hid (¬ 1 < Nat.gcd a.natAbs b.natAbs) ∧ Hid (¬ 1 < Nat.gcd c.natAbs a.natAbs) ∧ Hid (¬ 1 < Nat.gcd b.natAbs c.natAbs)))) (fun st _ => (intOf st + 1).toNat)
  case atStart => exact ⟨2, rfl, hid ⟨0, rfl⟩, .inl rfl⟩
  case round =>
    obtain ⟨T, rfl, HW, hT⟩ := hrel
    rename World => wB
    have q0 : wB.cell? ⟨g, o, none⟩ = some (.int .i64 a) := by obtain ⟨k, rfl⟩ := HW.out; exact k0
    have q1 : wB.cell? ⟨g, o + 1, none⟩ = some (.int .i64 b) := by obtain ⟨k, rfl⟩ := HW.out; exact k1
    have q2 : wB.cell? ⟨g, o + 2, none⟩ = some (.int .i64 c) := by obtain ⟨k, rfl⟩ := HW.out; exact k2
    have HBW : Hid (∀ n, Below w.heap.size w (wB.drewN n)) := hid (fun n => by obtain ⟨k, hk⟩ := HW.out; rw [hk]; exact below_drewN (below_drewN (Below.refl _ _) _) _)
    rcases hT with rfl | ⟨rfl, H0⟩ | ⟨rfl, H0, H1⟩ | ⟨rfl, H0, H1, H2⟩
    · go_wp2_with fail
      go_quiet ((go_at_call 71; exact QG.out _ _ (by omega) (by omega) (by omega) (by omega) _ _))
      obtain ⟨G, hG⟩ : ∃ G, G = Nat.gcd a.natAbs b.natAbs := ⟨_, rfl⟩
      rw [← hG] at GA ⊢
      have hGb := GA.out
      by_cases h1 : 1 < G
      · have hp := lp_head h1
        have hpb := lp_bd h1
        have hE := E1.out G hG h1
        have HE := hid hE
        have h1i : (1 : Int) < (G : Int) := by omega
        have eg : ((G : Int).natAbs) = G := Int.natAbs_natCast G
        have hl := hp.1
        have hlz : (0 : Int) < ((natsI (plistG G)).length : Int) := by omega
        have HP := hid hp.2
        clear hG hp hE
        go_wp2_with fail
        refine (l1PrimesG_any (G : Int) (by omega) (by omega) (by omega) _).mono ?_
        rw [eg]
        rintro e w2 ⟨u, rfl, ho, hb⟩
        obtain ⟨g2, cap2, rfl, _, _⟩ := ho.block_of hl
        have hce := ho.elem hl
        rw [HP.out] at hce
        clear ho
        go_wp2_with fail
        go_ret2
        exact ⟨retV (by rw [HE.out.1, HE.out.2]; rfl), (HBW.out _).trans (hb.mono (HBW.out _).size)⟩
      · have HN := hid h1
        have h1i : ¬ (1 : Int) < (G : Int) := by omega
        have hGE := hid hG
        clear hG
        go_wp2_with fail
        go_roundw
        case measure => simp only [intOf]; omega
        case rel => exact ⟨1, rfl, hid (by obtain ⟨k, hk⟩ := HW.out; exact ⟨k + nq, by rw [hk, World.drewN_drewN]⟩), .inr (.inl ⟨rfl, hid (by rw [← hGE.out]; exact HN.out)⟩)⟩
    · go_wp2_with fail
      go_quiet ((go_at_call 71; exact QG.out _ _ (by omega) (by omega) (by omega) (by omega) _ _))
      obtain ⟨G, hG⟩ : ∃ G, G = Nat.gcd c.natAbs a.natAbs := ⟨_, rfl⟩
      rw [← hG] at GB ⊢
      have hGb := GB.out
      by_cases h1 : 1 < G
      · have hp := lp_head h1
        have hpb := lp_bd h1
        have hE := E2.out G hG H0.out h1
        have HE := hid hE
        have h1i : (1 : Int) < (G : Int) := by omega
        have eg : ((G : Int).natAbs) = G := Int.natAbs_natCast G
        have hl := hp.1
        have hlz : (0 : Int) < ((natsI (plistG G)).length : Int) := by omega
        have HP := hid hp.2
        clear hG hp hE
        go_wp2_with fail
        refine (l1PrimesG_any (G : Int) (by omega) (by omega) (by omega) _).mono ?_
        rw [eg]
        rintro e w2 ⟨u, rfl, ho, hb⟩
        obtain ⟨g2, cap2, rfl, _, _⟩ := ho.block_of hl
        have hce := ho.elem hl
        rw [HP.out] at hce
        clear ho
        go_wp2_with fail
        go_ret2
        exact ⟨retV (by rw [HE.out.1, HE.out.2]; rfl), (HBW.out _).trans (hb.mono (HBW.out _).size)⟩
      · have HN := hid h1
        have h1i : ¬ (1 : Int) < (G : Int) := by omega
        have hGE := hid hG
        clear hG
        go_wp2_with fail
        go_roundw
        case measure => simp only [intOf]; omega
        case rel => exact ⟨0, rfl, hid (by obtain ⟨k, hk⟩ := HW.out; exact ⟨k + nq, by rw [hk, World.drewN_drewN]⟩), .inr (.inr (.inl ⟨rfl, H0, hid (by rw [← hGE.out]; exact HN.out)⟩))⟩
    · go_wp2_with fail
      go_quiet ((go_at_call 71; exact QG.out _ _ (by omega) (by omega) (by omega) (by omega) _ _))
      obtain ⟨G, hG⟩ : ∃ G, G = Nat.gcd b.natAbs c.natAbs := ⟨_, rfl⟩
      rw [← hG] at GC ⊢
      have hGb := GC.out
      by_cases h1 : 1 < G
      · have hp := lp_head h1
        have hpb := lp_bd h1
        have hE := E3.out G hG H0.out H1.out h1
        have HE := hid hE
        have h1i : (1 : Int) < (G : Int) := by omega
        have eg : ((G : Int).natAbs) = G := Int.natAbs_natCast G
        have hl := hp.1
        have hlz : (0 : Int) < ((natsI (plistG G)).length : Int) := by omega
        have HP := hid hp.2
        clear hG hp hE
        go_wp2_with fail
        refine (l1PrimesG_any (G : Int) (by omega) (by omega) (by omega) _).mono ?_
        rw [eg]
        rintro e w2 ⟨u, rfl, ho, hb⟩
        obtain ⟨g2, cap2, rfl, _, _⟩ := ho.block_of hl
        have hce := ho.elem hl
        rw [HP.out] at hce
        clear ho
        go_wp2_with fail
        go_ret2
        exact ⟨retV (by rw [HE.out.1, HE.out.2]; rfl), (HBW.out _).trans (hb.mono (HBW.out _).size)⟩
      · have HN := hid h1
        have h1i : ¬ (1 : Int) < (G : Int) := by omega
        have hGE := hid hG
        clear hG
        go_wp2_with fail
        go_roundw
        case measure => simp only [intOf]; omega
        case rel => exact ⟨-1, rfl, hid (by obtain ⟨k, hk⟩ := HW.out; exact ⟨k + nq, by rw [hk, World.drewN_drewN]⟩), .inr (.inr (.inr ⟨rfl, H0, H1, hid (by rw [← hGE.out]; exact HN.out)⟩))⟩
    · have hE := hid (E4.out H0.out H1.out H2.out)
      go_wp2_with fail
      go_ret2
      exact ⟨retV (by rw [hE.out.1, hE.out.2]; rfl), HBW.out 0⟩

set_option maxRecDepth 100000 in
set_option maxHeartbeats 1000000 in
theorem l5Root_any (n : Int) (n0 : 0 ≤ n) (n1 : n ≤ 1000000000000) (w : World) : Calls Try.prog 86 #[.int .i64 n] w fun e w' => ((∃ z : Nat, rootO n = some z ∧ z ≤ 1048576 ∧ e = .returned (.int .i64 z)) ∨ (rootO n = none ∧ e = .returned (.int .i64 (-1)))) ∧ w = w' := by
  go_enter Try.func86, Try.ntmps86
  go_wp2
  go_loop [3, 4] (fun sl sh => ∃ L H : Nat, sl = .int .i64 L ∧ sh = .int .i64 H ∧ L ≤ H ∧ H ≤ 1048576 ∧ Hid (∀ r : Nat, r < L → (r : Int) * r < n) ∧ Hid (n ≤ (H : Int) * H)) (fun sl sh => (intOf sh - intOf sl).toNat)
  case atStart => exact ⟨0, 1048576, rfl, rfl, by omega, by omega, hid (fun r hr => by omega), hid (by omega)⟩
  case round =>
    obtain ⟨L, H, rfl, rfl, hLH, hH, HL, HH⟩ := hrel
    by_cases hlt : L < H
    · have hi : (L : Int) < (H : Int) := by omega
      obtain ⟨M, hM⟩ : ∃ M, M = (L + H) / 2 := ⟨_, rfl⟩
      have eM : ((L : Int) + (H : Int)) / 2 = (M : Int) := by omega
      have eM2 : ((L : Int) + (H : Int)).tdiv 2 = (M : Int) := by rw [Int.tdiv_eq_ediv_of_nonneg (by omega)]; exact eM
      have hM1 : L ≤ M := by omega
      have hM2 : M < H := by omega
      have hMM := mul_bd (show M ≤ 1048576 by omega) (show M ≤ 1048576 by omega)
      clear hM
      by_cases hm : (M : Int) * M < n
      · have HM := hid hm
        go_wp2
        go_round
        case measure => simp only [intOf]; omega
        case rel => exact ⟨M + 1, H, by go_num, rfl, by omega, hH, hid (fun r hr => by
          have := sq_mono (show r ≤ M by omega)
          have := HM.out
          omega), HH⟩
      · have HM := hid hm
        go_wp2
        go_round
        case measure => simp only [intOf]; omega
        case rel => exact ⟨L, M, rfl, rfl, hM1, by omega, HL, hid (by have := HM.out; omega)⟩
    · obtain rfl : L = H := by omega
      have hMM := mul_bd (show L ≤ 1048576 by omega) (show L ≤ 1048576 by omega)
      by_cases he : (L : Int) * L = n
      · have T : ((L : Int) * L == n) = true := by rw [beq_iff_eq]; exact he
        have HR := hid (rootO_of he)
        clear he
        go_wp2
        go_ret
        exact ⟨.inl ⟨L, HR.out, hH, rfl⟩, rfl⟩
      · have T : ((L : Int) * L == n) = false := by rw [beq_eq_false_iff_ne]; exact he
        have HR : Hid (rootO n = none) := hid (rootO_none fun z hz => by
          rcases Nat.lt_trichotomy z L with h | h | h
          · have := HL.out z h; omega
          · subst h; exact he hz
          · have h2 := sq_mono (Nat.le_of_lt h)
            have := HH.out
            omega)
        clear he
        go_wp2
        go_ret
        exact ⟨.inr ⟨HR.out, rfl⟩, rfl⟩

end Go.Proofs.Ytfjbdbfeolfcfaa
