/-
  Contracts of the program's fractions: in lowest terms, multiples, products.
-/
import Derived.Test.YtacjejnbomdhbabMpA
import Derived.Test.YtacjejnbomdhbabMpR
import Derived.Test.YtacjejnbomdhbabQBun2
import Derived.Test.YtacjejnbomdhbabQZm1
import Derived.Test.YtacjejnbomdhbabQBun25
import Derived.Laws.ResultCell
import Derived.BigQuiet
set_option linter.unusedVariables false
namespace Go.Proofs.Ytacjejnbomdhbab
open Go.RowKit

theorem infoFr : (Try.prog.info? 65).map (fun i => (i.zero, i.size, i.bytes)) = some (some (.agg #[.int .i64 0, .int .i64 0]), 2, 16) := by kernel_rfl
abbrev frV (a b : Int) : Value := .agg #[.int .i64 a, .int .i64 b]
def B15 (x : Int) : Prop := -1000000000000000 ≤ x ∧ x ≤ 1000000000000000
theorem tdiv_b15 {x g : Int} (h : B15 x) : B15 (x.tdiv g) := by
  unfold B15 at *
  have : (x.tdiv g).natAbs ≤ x.natAbs := by rw [Int.natAbs_tdiv]; exact Nat.div_le_self _ _
  omega

set_option maxHeartbeats 400000 in
theorem commonG_any (a b : Int) (a1 : -1000000000000000000 ≤ a) (a2 : a ≤ 1000000000000000000) (b1 : -1000000000000000000 ≤ b) (b2 : b ≤ 1000000000000000000) (w : World) : Calls Try.prog 94 #[.int .i64 a, .int .i64 b] w fun e w' => e = .returned (.int .i64 (Nat.gcd a.natAbs b.natAbs : Nat)) ∧ ∃ k, w' = w.drewN k := by
  go_enter Try.func94, Try.ntmps94
  go_wp2_with fail
  refine (size_any a (by omega) (by omega) _).mono ?_
  rintro e w' ⟨rfl, rfl⟩
  go_wp2_with fail
  refine (size_any b (by omega) (by omega) _).mono ?_
  rintro e w' ⟨rfl, rfl⟩
  go_wp2_with fail
  go_loopw [5, 6] (fun x y wr => ∃ (X Y k : Nat), x = .int .i64 X ∧ y = .int .i64 Y ∧ X ≤ 1000000000000000000 ∧ Y ≤ 1000000000000000000 ∧ Hid (Nat.gcd X Y = Nat.gcd a.natAbs b.natAbs) ∧ wr = w.drewN k) (fun _ y _ => (intOf y).toNat)
  case atStart => exact ⟨_, _, 0, rfl, rfl, by omega, by omega, hid rfl, rfl⟩
  case round =>
    obtain ⟨X, Y, k, rfl, rfl, hX, hY, HV, rfl⟩ := hrel
    by_cases h0 : Y = 0
    · subst h0
      go_wp2
      go_ret
      exact ⟨retI (by rw [← HV.out, Nat.gcd_zero_right]), k, rfl⟩
    · have T : ((Y : Int) != 0) = true := by rw [bne_iff_ne]; omega
      have hlt := Nat.mod_lt X (show Y > 0 by omega)
      go_wp2
      go_quiet (fail)
      go_wp2
      go_roundw
      case rel => exact ⟨Y, X % Y, _, rfl, vI (by push_cast; rfl), hY, by omega, hid (by rw [← HV.out, Nat.gcd_comm X Y, Nat.gcd_rec Y X, Nat.gcd_comm]), World.drewN_drewN ..⟩
      case measure => simp only [intOf]; omega

set_option maxRecDepth 100000 in
set_option maxHeartbeats 1000000 in
theorem multipleOf_any (a b : Int) (a1 : 1 ≤ a) (b1 : 1 ≤ b) (ba : B15 a) (bb : B15 b) (bl : B15 (lcmI a b)) (w : World) : Calls Try.prog 92 #[.int .i64 a, .int .i64 b] w fun e w' => e = .returned (.int .i64 (lcmI a b)) ∧ ∃ k, w' = w.drewN k := by
  obtain ⟨g, hg⟩ : ∃ g : Nat, g = Nat.gcd a.natAbs b.natAbs := ⟨_, rfl⟩
  have hgp : 0 < g := by rw [hg]; exact Nat.gcd_pos_of_pos_left _ (by omega)
  have Tg : ((g : Int) == 0) = false := beq_eq_false_iff_ne.2 (by omega)
  have hE : lcmI a b = a.tdiv g * b := by unfold lcmI; rw [hg]
  obtain ⟨q1, q2⟩ := tdiv_b15 (g := (g : Int)) ba
  rw [hE] at bl ⊢
  obtain ⟨r1, r2⟩ := bl
  obtain ⟨s1, s2⟩ := ba
  obtain ⟨t1, t2⟩ := bb
  have HG := hid hg
  clear hg hE
  go_enter Try.func92, Try.ntmps92
  go_wp2_with (go_at_call 94; refine (commonG_any a b (by omega) (by omega) (by omega) (by omega) _).mono ?_; rw [← HG.out]; rintro e w' ⟨rfl, k, rfl⟩)
  go_ret
  exact ⟨rfl, k, rfl⟩

theorem wrap62 {x : Int} (h1 : -4611686018427387904 ≤ x) (h2 : x ≤ 4611686018427387904) : IntKind.i64.wrap x = x := by rw [IntKind.wrap_i64]; omega
theorem heap_up {w : World} {o x : Obj} {k : Nat} (h : w.heap[k]? = some x) : (w.alloc o).heap[k]? = some x :=
  (((Below.refl w.heap.size w).alloc (Nat.le_refl _) o).block k (Array.getElem?_eq_some_iff.1 h).1).trans h
theorem heap_new {w : World} {o : Obj} {k : Nat} (hk : k = w.heap.size) : (w.alloc o).heap[k]? = some o := by subst hk; exact heap_alloc_new w o
theorem fr_two {w : World} {k : Nat} {x y u v : Value} {t : TypeId} : ((((w.alloc (.cells #[x, y] t)).drewN k).setCell ⟨w.heap.size, 0, none⟩ u).setCell ⟨w.heap.size, 1, none⟩ v).heap[w.heap.size]? = some (.cells #[u, v] t (0, 0)) :=
  heap_two1 (heap_two0 (show ((w.alloc (.cells #[x, y] t)).drewN k).heap[w.heap.size]? = some (.cells #[x, y] t (0, 0)) from heap_alloc_new w _))
theorem fr_low {w : World} {k : Nat} {x y u v : Value} {t : TypeId} : Below w.heap.size w ((((w.alloc (.cells #[x, y] t)).drewN k).setCell ⟨w.heap.size, 0, none⟩ u).setCell ⟨w.heap.size, 1, none⟩ v) :=
  ((below_drewN (below_box2 _ _) _).setCell (Nat.le_refl _) _).setCell (Nat.le_refl _) _

theorem frac_pos {n d : Int} (h : ¬ d < 0) : gF n d = (Nat.gcd n.natAbs d.natAbs : Nat) := by unfold gF sgF; rw [if_neg h, Int.one_mul]
theorem frac_neg {n d : Int} (h : d < 0) : gF n d = -((Nat.gcd n.natAbs d.natAbs : Nat) : Int) := by unfold gF sgF; rw [if_pos h]; omega
set_option maxRecDepth 100000 in
set_option maxHeartbeats 1000000 in
theorem fractionOf_any (n d : Int) (bn : B15 n) (bd : B15 d) (h0 : d ≠ 0) (w : World) : Calls Try.prog 61 #[.int .i64 n, .int .i64 d] w fun e w' => e = .returned (frV (numF n d) (denF n d)) ∧ Below w.heap.size w w' := by
  obtain ⟨g, hg⟩ : ∃ g : Nat, g = Nat.gcd n.natAbs d.natAbs := ⟨_, rfl⟩
  have hgp : 0 < g := by rw [hg]; exact Nat.gcd_pos_of_pos_right _ (by omega)
  have hgl : g ≤ 1000000000000000 := by
    rw [hg]
    have := Nat.gcd_le_right (m := n.natAbs) (n := d.natAbs) (by omega)
    have := bd.1; have := bd.2
    omega
  have Tg : ((g : Int) == 0) = false := beq_eq_false_iff_ne.2 (by omega)
  have Tn : (-(g : Int) == 0) = false := beq_eq_false_iff_ne.2 (by omega)
  obtain ⟨q1, q2⟩ := tdiv_b15 (g := (g : Int)) bn
  obtain ⟨r1, r2⟩ := tdiv_b15 (g := (g : Int)) bd
  obtain ⟨s1, s2⟩ := bn
  obtain ⟨t1, t2⟩ := bd
  have HG := hid hg
  by_cases hd : d < 0
  · have HE : Hid (frV (numF n d) (denF n d) = .agg #[.int .i64 (-(n.tdiv g)), .int .i64 (-(d.tdiv g))]) := hid (by
      unfold frV numF denF
      rw [frac_neg hd, ← hg, Int.tdiv_neg, Int.tdiv_neg])
    clear hg h0
    go_enter Try.func61, Try.ntmps61
    go_wp2_with (go_at_call 94; refine (commonG_any n d (by omega) (by omega) (by omega) (by omega) _).mono ?_; rw [← HG.out]; rintro e w' ⟨rfl, k, rfl⟩)
    go_region
    all_goals (try go_wp2)
    all_goals
      refine bodyPost_ret (results_cell_row rfl _ _ w.heap.size 65 #[.int .i64 (-(n.tdiv g)), .int .i64 (-(d.tdiv g))] (0, 0) _ rfl fr_two Try.underlying65 rfl (by kernel_rfl)) rfl ?_
      rw [HE.out]
      exact ⟨rfl, fr_low⟩
  · have HE : Hid (frV (numF n d) (denF n d) = .agg #[.int .i64 (n.tdiv g), .int .i64 (d.tdiv g)]) := hid (by
      unfold frV numF denF
      rw [frac_pos hd, ← hg])
    clear hg h0
    go_enter Try.func61, Try.ntmps61
    go_wp2_with (go_at_call 94; refine (commonG_any n d (by omega) (by omega) (by omega) (by omega) _).mono ?_; rw [← HG.out]; rintro e w' ⟨rfl, k, rfl⟩)
    go_region
    all_goals (try go_wp2)
    all_goals
      refine bodyPost_ret (results_cell_row rfl _ _ w.heap.size 65 #[.int .i64 (n.tdiv g), .int .i64 (d.tdiv g)] (0, 0) _ rfl fr_two Try.underlying65 rfl (by kernel_rfl)) rfl ?_
      rw [HE.out]
      exact ⟨rfl, fr_low⟩

set_option maxRecDepth 100000 in
set_option maxHeartbeats 1000000 in
theorem over_any (a b L : Int) (b1 : 1 ≤ b) (bb : B15 b) (ba : B15 a) (bL : B15 L) (bo : B15 (overF a b L)) (w : World) : Calls Try.prog 93 #[.agg #[.int .i64 a, .int .i64 b], .int .i64 L] w fun e w' => e = .returned (.int .i64 (overF a b L)) ∧ Below w.heap.size w w' := by
  have Tb : (b == 0) = false := beq_eq_false_iff_ne.2 (by omega)
  obtain ⟨q1, q2⟩ := tdiv_b15 (g := b) bL
  unfold overF at *
  obtain ⟨r1, r2⟩ := bo
  obtain ⟨s1, s2⟩ := ba
  obtain ⟨t1, t2⟩ := bb
  obtain ⟨u1, u2⟩ := bL
  go_enter Try.func93, Try.ntmps93
  go_wp2_with fail
  go_quiet (fail)
  go_wp2_with fail
  go_ret
  exact ⟨rfl, below_drewN (below_box2 _ _) _⟩

set_option maxRecDepth 100000 in
set_option maxHeartbeats 1000000 in
theorem frTimes_any (a b c d : Int) (b1 : 1 ≤ b) (d1 : 1 ≤ d) (bac : B15 (a * c)) (bbd : B15 (b * d)) (w : World) : Calls Try.prog 66 #[.agg #[.int .i64 a, .int .i64 b], .agg #[.int .i64 c, .int .i64 d]] w fun e w' => e = .returned (frV (numF (a * c) (b * d)) (denF (a * c) (b * d))) ∧ Below w.heap.size w w' := by
  have h0 : b * d ≠ 0 := Int.mul_ne_zero (by omega) (by omega)
  have HA := hid bac
  have HB := hid bbd
  have H0 := hid h0
  obtain ⟨r1, r2⟩ := bac
  obtain ⟨s1, s2⟩ := bbd
  clear h0
  obtain ⟨o1, ho1⟩ : ∃ o1, o1 = Obj.cells #[.int .i64 a, .int .i64 b] 65 := ⟨_, rfl⟩
  have H2 : Hid ((((w.alloc (.cells #[.int .i64 a, .int .i64 b] 65)).alloc (.cells #[.int .i64 c, .int .i64 d] 65)).alloc (.cells #[.int .i64 0, .int .i64 0] 65)).heap[w.heap.size + 1 + 1]? = some (.cells #[.int .i64 0, .int .i64 0] 65 (0, 0))) := hid (by
    have h := heap_alloc_new ((w.alloc (.cells #[.int .i64 a, .int .i64 b] 65)).alloc (.cells #[.int .i64 c, .int .i64 d] 65)) (.cells #[.int .i64 0, .int .i64 0] 65 (0, 0))
    rwa [World.size_alloc, World.size_alloc] at h)
  have HBL : Hid (Below w.heap.size w (((w.alloc (.cells #[.int .i64 a, .int .i64 b] 65)).alloc (.cells #[.int .i64 c, .int .i64 d] 65)).alloc (.cells #[.int .i64 0, .int .i64 0] 65))) := hid (((below_box2 _ _).alloc (by simp) _).alloc (by simp; omega) _)
  clear ho1 o1
  go_enter Try.func66, Try.ntmps66
  go_wp2_with fail
  refine (fractionOf_any _ _ HA.out HB.out H0.out _).mono ?_
  rintro e w2 ⟨rfl, hb2⟩
  have hq := (hb2.block _ (Array.getElem?_eq_some_iff.1 H2.out).1).trans H2.out
  have HBB := hid (HBL.out.trans (hb2.mono HBL.out.size))
  have z0 := cellB (i := 0) hq
  have z1 := cellB (i := 1) hq
  have y0 := frozenB (i := 0) hq
  have y1 := frozenB (i := 1) hq
  have HQ := hid hq
  clear hq hb2 H2 HBL
  go_wp2_with fail
  refine bodyPost_ret (results_cell_row rfl _ _ (w.heap.size + 1 + 1) 65 #[_, _] (0, 0) _ rfl (heap_two1 (heap_two0 HQ.out)) Try.underlying65 rfl (by kernel_rfl)) rfl ?_
  exact ⟨rfl, (HBB.out.setCell (by simp; omega) _).setCell (by simp; omega) _⟩

set_option maxRecDepth 100000 in
set_option maxHeartbeats 1000000 in
theorem stayAt_any (i j : Nat) (hi : i ≤ 10) (hj : j ≤ 10) (w : World) : Calls Try.prog 53 #[.int .i64 (i : Int), .int .i64 (j : Int)] w fun e w' => e = .returned (frV (if i = j then 1 else 0) 1) ∧ Below w.heap.size w w' := by
  by_cases h : i = j
  · subst h
    rw [if_pos rfl]
    go_enter Try.func53, Try.ntmps53
    go_wp2_with fail
    refine bodyPost_ret (results_cell_row rfl _ _ w.heap.size 65 #[_, _] (0, 0) _ rfl (heap_alloc_new _ _) Try.underlying65 rfl (by kernel_rfl)) rfl ?_
    exact ⟨rfl, below_box2 _ _⟩
  · have T : ((i : Int) == (j : Int)) = false := beq_eq_false_iff_ne.2 (by omega)
    rw [if_neg h]
    clear h
    go_enter Try.func53, Try.ntmps53
    go_wp2_with fail
    refine bodyPost_ret (results_cell_row rfl _ _ w.heap.size 65 #[_, _] (0, 0) _ rfl (heap_alloc_new _ _) Try.underlying65 rfl (by kernel_rfl)) rfl ?_
    exact ⟨rfl, below_box2 _ _⟩

def B14 (x : Int) : Prop := -100000000000000 ≤ x ∧ x ≤ 100000000000000
theorem B14.b15 {x : Int} (h : B14 x) : B15 x := by unfold B14 at h; unfold B15; omega
theorem Fr.b14n {a b N D : Int} (h : Fr a b N D) (h0 : D ≠ 0) (hn : B14 N) : B14 a := h.num_bd h0 (by omega) hn.1 hn.2
theorem Fr.b14d {a b N D : Int} (h : Fr a b N D) (h0 : D ≠ 0) (hd : B14 D) : B14 b := by
  have := h.den_bd h0 hd.1 hd.2
  unfold B14; omega
theorem b14_dvd {L D : Int} (hL : 1 ≤ L) (h : L ∣ D) (h0 : D ≠ 0) (hd : B14 D) : B14 L := by
  have := Nat.le_of_dvd (by omega : 0 < D.natAbs) (Int.natAbs_dvd_natAbs.2 h)
  unfold B14 at *; omega
def plusN (a b c d : Int) : Int := numF (overF a b (lcmI b d) + overF c d (lcmI b d)) (lcmI b d)
def plusD (a b c d : Int) : Int := denF (overF a b (lcmI b d) + overF c d (lcmI b d)) (lcmI b d)
theorem plus_is {a b N c d M D : Int} (h : Fr a b N D) (h2 : Fr c d M D) (h0 : D ≠ 0) : Fr (plusN a b c d) (plusD a b c d) (N + M) D :=
  fr_plus h h2 h0 (fr_of (by have := lcmI_pos h.pos h2.pos; omega))
set_option maxRecDepth 100000 in
set_option maxHeartbeats 4000000 in
theorem frPlus_any (a b N c d M D : Int) (h : Fr a b N D) (h2 : Fr c d M D) (h0 : D ≠ 0) (bN : B14 N) (bM : B14 M) (bD : B14 D) (w : World) : Calls Try.prog 60 #[.agg #[.int .i64 a, .int .i64 b], .agg #[.int .i64 c, .int .i64 d]] w fun e w' => e = .returned (frV (plusN a b c d) (plusD a b c d)) ∧ Below w.heap.size w w' := by
  unfold plusN plusD
  have hld := lcmI_least h.pos h2.pos h.den h2.den
  have hl1 := lcmI_pos h.pos h2.pos
  have hlv := lcmI_dvd h.pos h2.pos
  have bL := b14_dvd hl1 hld h0 bD
  have bo1 : B14 (overF a b (lcmI b d)) := over_bd h hlv.1 hld h0 (by omega) bN.1 bN.2
  have bo2 : B14 (overF c d (lcmI b d)) := over_bd h2 hlv.2 hld h0 (by omega) bM.1 bM.2
  have hba := h.b14n h0 bN
  have hbb := h.b14d h0 bD
  have hbc := h2.b14n h0 bM
  have hbd := h2.b14d h0 bD
  have p1 := h.pos
  have p2 := h2.pos
  have HM := hid (fun w => multipleOf_any b d p1 p2 hbb.b15 hbd.b15 bL.b15 w)
  have HO1 := hid (fun w => over_any a b (lcmI b d) p1 hbb.b15 hba.b15 bL.b15 bo1.b15 w)
  have HO2 := hid (fun w => over_any c d (lcmI b d) p2 hbd.b15 hbc.b15 bL.b15 bo2.b15 w)
  have bs : B15 (overF a b (lcmI b d) + overF c d (lcmI b d)) := by unfold B14 at bo1 bo2; unfold B15; omega
  have HFO := hid (fun w => fractionOf_any (overF a b (lcmI b d) + overF c d (lcmI b d)) (lcmI b d) bs bL.b15 (by omega) w)
  obtain ⟨s1, s2⟩ := bs
  obtain ⟨o1, o2⟩ := bo1
  obtain ⟨o3, o4⟩ := bo2
  generalize overF a b (lcmI b d) = O1 at *
  generalize overF c d (lcmI b d) = O2 at *
  generalize lcmI b d = L at *
  have H0 : Hid ((((w.alloc (.cells #[.int .i64 a, .int .i64 b] 65)).alloc (.cells #[.int .i64 c, .int .i64 d] 65)).alloc (.cells #[.int .i64 0, .int .i64 0] 65)).heap[w.heap.size]? = some (.cells #[.int .i64 a, .int .i64 b] 65 (0, 0))) := hid (heap_up (heap_up (heap_new rfl)))
  have H1 : Hid ((((w.alloc (.cells #[.int .i64 a, .int .i64 b] 65)).alloc (.cells #[.int .i64 c, .int .i64 d] 65)).alloc (.cells #[.int .i64 0, .int .i64 0] 65)).heap[w.heap.size + 1]? = some (.cells #[.int .i64 c, .int .i64 d] 65 (0, 0))) := hid (heap_up (heap_new (by simp)))
  have H2 : Hid ((((w.alloc (.cells #[.int .i64 a, .int .i64 b] 65)).alloc (.cells #[.int .i64 c, .int .i64 d] 65)).alloc (.cells #[.int .i64 0, .int .i64 0] 65)).heap[w.heap.size + 1 + 1]? = some (.cells #[.int .i64 0, .int .i64 0] 65 (0, 0))) := hid (heap_new (by simp))
  have HBL : Hid (Below w.heap.size w (((w.alloc (.cells #[.int .i64 a, .int .i64 b] 65)).alloc (.cells #[.int .i64 c, .int .i64 d] 65)).alloc (.cells #[.int .i64 0, .int .i64 0] 65))) := hid (((below_box2 _ _).alloc (by simp) _).alloc (by simp; omega) _)
  clear h h2 hld hl1 hlv bL hba hbb hbc hbd p1 p2 h0 bN bM bD
  go_enter Try.func60, Try.ntmps60
  go_wp2_with fail
  refine (HM.out _).mono ?_
  rintro e w2 ⟨rfl, k, rfl⟩
  go_wp2_with fail
  obtain ⟨W, hW⟩ : ∃ W, W = ((((w.alloc (.cells #[.int .i64 a, .int .i64 b] 65)).alloc (.cells #[.int .i64 c, .int .i64 d] 65)).alloc (.cells #[.int .i64 0, .int .i64 0] 65)).drewN k).drew := ⟨_, rfl⟩
  replace H0 : Hid (W.heap[w.heap.size]? = some (.cells #[.int .i64 a, .int .i64 b] 65 (0, 0))) := hid (by rw [hW]; exact H0.out)
  replace H1 : Hid (W.heap[w.heap.size + 1]? = some (.cells #[.int .i64 c, .int .i64 d] 65 (0, 0))) := hid (by rw [hW]; exact H1.out)
  replace H2 : Hid (W.heap[w.heap.size + 1 + 1]? = some (.cells #[.int .i64 0, .int .i64 0] 65 (0, 0))) := hid (by rw [hW]; exact H2.out)
  replace HBL : Hid (Below w.heap.size w W) := hid (by rw [hW]; exact below_drewN (below_drewN HBL.out k) 1)
  have HL0 := hid (Array.getElem?_eq_some_iff.1 H0.out).1
  have HL1 := hid (Array.getElem?_eq_some_iff.1 H1.out).1
  have HL2 := hid (Array.getElem?_eq_some_iff.1 H2.out).1
  refine region_inv (by kernel_rfl) (fun LB act wx => ∃ (s11 s12 s13 s14 s15 s16 s17 s18 s19 : Value), act = ({ tmps := #[.agg #[.int .i64 a, .int .i64 b], .agg #[.int .i64 c, .int .i64 d], .pointer (some ⟨w.heap.size, 0, none⟩), .pointer (some ⟨w.heap.size + 1, 0, none⟩), .pointer (some ⟨w.heap.size + 1 + 1, 0, none⟩), .int .i64 L, .pointer (some ⟨w.heap.size, 1, none⟩), .int .i64 b, .pointer (some ⟨w.heap.size + 1, 1, none⟩), .int .i64 d, .int .i64 L, s11, s12, s13, s14, s15, s16, s17, s18, s19], defers := [] } : Act) ∧ RegI 10 [[], [], [0, 1], [], [], [3, 4], [2, 5], [], [6, 7], [8]] (W) (fun wy => (wy.setCell ⟨w.heap.size + 1 + 1, 0, none⟩ (.int .i64 (numF (O1 + O2) L))).setCell ⟨w.heap.size + 1 + 1, 1, none⟩ (.int .i64 (denF (O1 + O2) L))) [.agg #[.int .i64 a, .int .i64 b], .int .i64 L, .int .i64 O1, .agg #[.int .i64 c, .int .i64 d], .int .i64 L, .int .i64 O2, .int .i64 (O1 + O2), .int .i64 L, .agg #[.int .i64 (numF (O1 + O2) L), .int .i64 (denF (O1 + O2) L)], undef] LB wx [s11, s12, s13, s14, s15, s16, s17, s18, s19, undef]) ?h0R ?hendR ?hstepR
  case h0R => exact ⟨undef, undef, undef, undef, undef, undef, undef, undef, undef, rfl, RegI.start rfl rfl hW.symm⟩
  case hstepR =>
    rintro LB act wx i ⟨s11, s12, s13, s14, s15, s16, s17, s18, s19, rfl, I⟩ hi
    obtain ⟨hi1, hf, hdep⟩ := ready_mem hi
    have hi2 : i < 10 := hi1
    have hbw := I.open (by decide) hf hi2
    have hsz := hbw.size
    have HI := hid I
    have HF := hid hf
    have hqH0 := (hbw.block _ HL0.out).trans H0.out
    have cH00 := cellB (i := 0) hqH0
    have cH01 := cellB (i := 1) hqH0
    have HQH0 := hid hqH0
    clear hqH0
    have hqH1 := (hbw.block _ HL1.out).trans H1.out
    have cH10 := cellB (i := 0) hqH1
    have cH11 := cellB (i := 1) hqH1
    have HQH1 := hid hqH1
    clear hqH1
    have hqH2 := (hbw.block _ HL2.out).trans H2.out
    have cH20 := cellB (i := 0) hqH2
    have cH21 := cellB (i := 1) hqH2
    have HQH2 := hid hqH2
    clear hqH2
    have y0 := frozenB (i := 0) HQH2.out
    have y1 := frozenB (i := 1) HQH2.out
    have HBW := hid hbw
    clear hi hi1 I hf hbw
    have hc : i = 0 ∨ i = 1 ∨ i = 2 ∨ i = 3 ∨ i = 4 ∨ i = 5 ∨ i = 6 ∨ i = 7 ∨ i = 8 ∨ i = 9 := by omega
    clear hi2
    rcases hc with rfl | rfl | rfl | rfl | rfl | rfl | rfl | rfl | rfl | rfl
    · skip
      have hq : ∀ j ∈ ([] : List Nat), dn LB j := fun _ h => absurd h List.not_mem_nil
      clear hdep
      refine wpOp_step rfl (fun K hK => ?_)
      go_simp
      exact hK _ _ ⟨_, _, _, _, _, _, _, _, _, rfl, HI.out.step HF.out (by decide) hq HBW.out rfl (by decide)⟩
    · skip
      have hq : ∀ j ∈ ([] : List Nat), dn LB j := fun _ h => absurd h List.not_mem_nil
      clear hdep
      refine wpOp_step rfl (fun K hK => ?_)
      go_simp
      exact hK _ _ ⟨_, _, _, _, _, _, _, _, _, rfl, HI.out.step HF.out (by decide) hq HBW.out rfl (by decide)⟩
    · skip
      have q0 : dn LB 0 := hdep _ rfl { on := 0, ground := .data } (by simp) rfl
      have q1 : dn LB 1 := hdep _ rfl { on := 1, ground := .data } (by simp) rfl
      have hq : ∀ j ∈ ([0, 1] : List Nat), dn LB j := List.forall_mem_cons.2 ⟨q0, List.forall_mem_cons.2 ⟨q1, fun _ h => absurd h List.not_mem_nil⟩⟩
      clear hdep
      obtain rfl : s11 = .agg #[.int .i64 a, .int .i64 b] := HI.out.val 0 q0
      obtain rfl : s12 = .int .i64 L := HI.out.val 1 q1
      refine wpOp_step rfl (fun K hK => ?_)
      go_simp
      go_at_call 93
      refine (HO1.out _).mono ?_
      rintro e wP ⟨rfl, hbk⟩
      exact hK _ _ ⟨_, _, _, _, _, _, _, _, _, rfl, HI.out.step HF.out (by decide) hq (HBW.out.trans (hbk.mono hsz)) rfl (by decide)⟩
    · skip
      have hq : ∀ j ∈ ([] : List Nat), dn LB j := fun _ h => absurd h List.not_mem_nil
      clear hdep
      refine wpOp_step rfl (fun K hK => ?_)
      go_simp
      exact hK _ _ ⟨_, _, _, _, _, _, _, _, _, rfl, HI.out.step HF.out (by decide) hq HBW.out rfl (by decide)⟩
    · skip
      have hq : ∀ j ∈ ([] : List Nat), dn LB j := fun _ h => absurd h List.not_mem_nil
      clear hdep
      refine wpOp_step rfl (fun K hK => ?_)
      go_simp
      exact hK _ _ ⟨_, _, _, _, _, _, _, _, _, rfl, HI.out.step HF.out (by decide) hq HBW.out rfl (by decide)⟩
    · skip
      have q3 : dn LB 3 := hdep _ rfl { on := 3, ground := .data } (by simp) rfl
      have q4 : dn LB 4 := hdep _ rfl { on := 4, ground := .data } (by simp) rfl
      have hq : ∀ j ∈ ([3, 4] : List Nat), dn LB j := List.forall_mem_cons.2 ⟨q3, List.forall_mem_cons.2 ⟨q4, fun _ h => absurd h List.not_mem_nil⟩⟩
      clear hdep
      obtain rfl : s14 = .agg #[.int .i64 c, .int .i64 d] := HI.out.val 3 q3
      obtain rfl : s15 = .int .i64 L := HI.out.val 4 q4
      refine wpOp_step rfl (fun K hK => ?_)
      go_simp
      go_at_call 93
      refine (HO2.out _).mono ?_
      rintro e wP ⟨rfl, hbk⟩
      exact hK _ _ ⟨_, _, _, _, _, _, _, _, _, rfl, HI.out.step HF.out (by decide) hq (HBW.out.trans (hbk.mono hsz)) rfl (by decide)⟩
    · skip
      have q2 : dn LB 2 := hdep _ rfl { on := 2, ground := .data } (by simp) rfl
      have q5 : dn LB 5 := hdep _ rfl { on := 5, ground := .data } (by simp) rfl
      have hq : ∀ j ∈ ([2, 5] : List Nat), dn LB j := List.forall_mem_cons.2 ⟨q2, List.forall_mem_cons.2 ⟨q5, fun _ h => absurd h List.not_mem_nil⟩⟩
      clear hdep
      obtain rfl : s13 = .int .i64 O1 := HI.out.val 2 q2
      obtain rfl : s16 = .int .i64 O2 := HI.out.val 5 q5
      refine wpOp_step rfl (fun K hK => ?_)
      go_simp
      rw [wrap62 (by omega) (by omega)]
      exact hK _ _ ⟨_, _, _, _, _, _, _, _, _, rfl, HI.out.step HF.out (by decide) hq HBW.out rfl (by decide)⟩
    · skip
      have hq : ∀ j ∈ ([] : List Nat), dn LB j := fun _ h => absurd h List.not_mem_nil
      clear hdep
      refine wpOp_step rfl (fun K hK => ?_)
      go_simp
      exact hK _ _ ⟨_, _, _, _, _, _, _, _, _, rfl, HI.out.step HF.out (by decide) hq HBW.out rfl (by decide)⟩
    · skip
      have q6 : dn LB 6 := hdep _ rfl { on := 6, ground := .data } (by simp) rfl
      have q7 : dn LB 7 := hdep _ rfl { on := 7, ground := .data } (by simp) rfl
      have hq : ∀ j ∈ ([6, 7] : List Nat), dn LB j := List.forall_mem_cons.2 ⟨q6, List.forall_mem_cons.2 ⟨q7, fun _ h => absurd h List.not_mem_nil⟩⟩
      clear hdep
      obtain rfl : s17 = .int .i64 (O1 + O2) := HI.out.val 6 q6
      obtain rfl : s18 = .int .i64 L := HI.out.val 7 q7
      refine wpOp_step rfl (fun K hK => ?_)
      go_simp
      go_at_call 61
      refine (HFO.out _).mono ?_
      rintro e wP ⟨rfl, hbk⟩
      exact hK _ _ ⟨_, _, _, _, _, _, _, _, _, rfl, HI.out.step HF.out (by decide) hq (HBW.out.trans (hbk.mono hsz)) rfl (by decide)⟩
    · skip
      have q8 : dn LB 8 := hdep _ rfl { on := 8, ground := .data } (by simp) rfl
      have hq : ∀ j ∈ ([8] : List Nat), dn LB j := List.forall_mem_cons.2 ⟨q8, fun _ h => absurd h List.not_mem_nil⟩
      clear hdep
      obtain rfl : s19 = .agg #[.int .i64 (numF (O1 + O2) L), .int .i64 (denF (O1 + O2) L)] := HI.out.val 8 q8
      refine wpOp_step rfl (fun K hK => ?_)
      go_simp
      exact hK _ _ ⟨_, _, _, _, _, _, _, _, _, rfl, HI.out.last HF.out rfl (by decide) hq HBW.out rfl rfl⟩
  case hendR =>
    rintro LB act wx ⟨s11, s12, s13, s14, s15, s16, s17, s18, s19, rfl, I⟩ hrd
    have D := all_done2 I.hs (by kernel_rfl) hrd
    obtain ⟨wy, hby, rfl⟩ := I.he (D 9 (by decide))
    have hq := (hby.block _ HL2.out).trans H2.out
    have HBF := hid (HBL.out.trans (hby.mono HBL.out.size))
    have HQ := hid hq
    clear I D hrd hby hq
    go_wp2_with fail
    refine bodyPost_ret (results_cell_row rfl _ _ (w.heap.size + 1 + 1) 65 #[_, _] (0, 0) _ rfl (heap_two1 (heap_two0 HQ.out)) Try.underlying65 rfl (by kernel_rfl)) rfl ?_
    exact ⟨rfl, (HBF.out.setCell (by simp; omega) _).setCell (by simp; omega) _⟩

end Go.Proofs.Ytacjejnbomdhbab
