/-
  The model's LocalLevel: how many squares add up to -1.
-/
import Derived.Test.YtamdjgcnjgiflabLoc2
import Derived.Deep.OwnRows
import Derived.Deep.DeepCutAuto
set_option linter.unusedVariables false
namespace Go.Proofs.Ytamdjgcnjgiflab
open Go.RowKit

/-- L squares add up to i, up to multiples of m -/
def TP (m : Nat) : Nat → Nat → Prop
  | 0, _ => False
  | 1, i => ∃ x, x < m ∧ x * x % m = i
  | L + 2, i => ∃ x y, x < m ∧ y < m ∧ TP m (L + 1) x ∧ (∃ z, z < m ∧ z * z % m = y) ∧ (x + y) % m = i
theorem TP_one (m i : Nat) : TP m 1 i ↔ ∃ x, x < m ∧ x * x % m = i := Iff.rfl
theorem TP_succ (m L i : Nat) (h : 1 ≤ L) : TP m (L + 1) i ↔ ∃ x y, x < m ∧ y < m ∧ TP m L x ∧ TP m 1 y ∧ (x + y) % m = i := by
  obtain ⟨k, rfl⟩ : ∃ k, L = k + 1 := ⟨L - 1, by omega⟩
  exact Iff.rfl

def BRow (w : World) (b m : Nat) (P : Nat → Prop) : Prop := ∃ g : Nat → Bool, w.rowIs b 4 m (fun i => .bool (g i)) ∧ ∀ i, i < m → (g i = true ↔ P i)
theorem BRow.lt {w : World} {b m : Nat} {P : Nat → Prop} (h : BRow w b m P) : b < w.heap.size := by obtain ⟨g, h, _⟩ := h; exact h.lt
theorem BRow.of_block {w w' : World} {b m : Nat} {P : Nat → Prop} (h : BRow w b m P) (e : w'.heap[b]? = w.heap[b]?) : BRow w' b m P := by obtain ⟨g, h, h2⟩ := h; exact ⟨g, h.of_block e, h2⟩
theorem BRow.congr {w : World} {b m : Nat} {P Q : Nat → Prop} (h : BRow w b m P) (e : ∀ i, i < m → (P i ↔ Q i)) : BRow w b m Q := by obtain ⟨g, h, h2⟩ := h; exact ⟨g, h, fun i hi => (h2 i hi).trans (e i hi)⟩
theorem BRow.made (w : World) (m : Nat) (P : Nat → Prop) (hP : ∀ i, i < m → ¬ P i) : BRow (w.alloc (.cells (madeCells #[.bool false] m) 4)) w.heap.size m P :=
  ⟨fun _ => false, World.rowIs_made w (.bool false) m _, fun i hi => by simp [hP i hi]⟩
theorem BRow.set {w : World} {b m : Nat} {P Q : Nat → Prop} (h : BRow w b m P) (I : Nat) (hQ : ∀ i, i < m → (Q i ↔ (i = I ∨ P i))) : BRow (w.setCell ⟨b, I, none⟩ (.bool true)) b m Q := by
  obtain ⟨g, h, h2⟩ := h
  refine ⟨fun i => if i = I then true else g i, (h.set I (.bool true)).congr fun i hi => ?_, fun i hi => ?_⟩
  · by_cases e : i = I <;> simp [e]
  · rw [hQ i hi, ← h2 i hi]
    by_cases e : i = I <;> simp [e]
theorem BRow.cell {w : World} {b m : Nat} {P : Nat → Prop} (h : BRow w b m P) {i : Nat} (hi : i < m) : ∃ x : Bool, w.cell? ⟨b, i, none⟩ = some (.bool x) ∧ (x = true ↔ P i) := by
  obtain ⟨g, h, h2⟩ := h
  exact ⟨g i, h.cell hi, h2 i hi⟩
theorem BRow.frozen {w : World} {b m : Nat} {P : Nat → Prop} (h : BRow w b m P) (i : Nat) : w.frozen? ⟨b, i, none⟩ = false := by
  obtain ⟨g, h, _⟩ := h
  exact h.frozen i
theorem BRow.yes {w : World} {b m : Nat} {P : Nat → Prop} (h : BRow w b m P) {i : Nat} (hi : i < m) (hp : P i) : w.cell? ⟨b, i, none⟩ = some (.bool true) := by
  obtain ⟨x, hx, h2⟩ := h.cell hi
  rw [hx, h2.2 hp]
theorem BRow.no {w : World} {b m : Nat} {P : Nat → Prop} (h : BRow w b m P) {i : Nat} (hi : i < m) (hp : ¬ P i) : w.cell? ⟨b, i, none⟩ = some (.bool false) := by
  obtain ⟨x, hx, h2⟩ := h.cell hi
  cases x
  · exact hx
  · exact absurd (h2.1 rfl) hp

theorem infoBool : (Try.prog.info? 4).map (fun i => (i.zero, i.size, i.bytes)) = some (some (.bool false), 1, 1) := by kernel_rfl

/-- what the two loops within have marked -/
def NP (m L x y i : Nat) : Prop := ∃ u v, u < m ∧ v < m ∧ (u < x ∨ (u = x ∧ v < y)) ∧ TP m L u ∧ TP m 1 v ∧ (u + v) % m = i

set_option maxRecDepth 100000 in
set_option maxHeartbeats 2000000 in
theorem level_yes (q : Int) (m lev : Nat) (hq : plI q = true) (h0 : q ≠ 0) (hm : m = if q = 2 then 16 else q.toNat) (hm1 : 2 ≤ m) (hm5 : m ≤ 5000) (hlev1 : 1 ≤ lev) (hlev4 : lev ≤ 4)
    (hno : ∀ L, 1 ≤ L → L < lev → ¬ TP m L (m - 1)) (hyes : TP m lev (m - 1)) (w : World) :
    Calls Try.prog 23 #[.int .i64 q] w fun e w' => e = .returned (.int .i64 (lev : Nat)) ∧ Below w.heap.size w w' := by
  obtain ⟨i0, hi, hz0, hz1, hz2⟩ := info_parts infoBool
  have T0 : (q == 0) = false := by rw [beq_eq_false_iff_ne]; exact h0
  have hqb := plI_bd hq
  have hq1 := hqb.1
  have hq2 := hqb.2
  have HNO := hid hno
  have HYES := hid hyes
  have HM := hid hm
  have HR0 := hid (BRow.made w m (fun i => ∃ x, x < 0 ∧ x * x % m = i) (fun i hi => by rintro ⟨x, hx, _⟩; omega))
  have HB0 := hid ((Below.refl w.heap.size w).alloc (Nat.le_refl _) (.cells (madeCells #[.bool false] m) 4))
  clear hno hyes hqb hm h0
  go_enter Try.func23, Try.ntmps23
  go_upto_if 20 with (go_at_call 45; refine (placeValidS_any _ _).mono ?_; rintro e w' ⟨rfl, rfl⟩)
  go_cut [3] (fun s3 wx => s3 = .int .i64 (m : Nat) ∧ wx = w)
  case first =>
    by_cases h2 : q = 2
    · have e : Hid (m = 16) := hid (by rw [HM.out, if_pos h2])
      subst h2
      go_wp2_with fail
      go_meet
      exact ⟨by rw [e.out]; rfl, rfl⟩
    · have T2 : (q == 2) = false := by rw [beq_eq_false_iff_ne]; exact h2
      have e : Hid ((m : Int) = q) := hid (by rw [HM.out, if_neg h2]; omega)
      clear h2
      go_wp2_with fail
      go_meet
      exact ⟨by rw [e.out], rfl⟩
  case rest =>
    obtain ⟨rfl, rfl⟩ := hcut
    go_wp2_with (at_make; refine wpList_make_row _ rfl _ _ 42 rfl 4 i0 (.bool false) Try.underlying42 hi hz0 hz1 rfl .i64 .i64 m rfl rfl (by rw [hz2]; omega) (by omega) ?_)
    go_loopw [5] (fun sx wr => ∃ K : Nat, sx = .int .i64 K ∧ K ≤ m ∧ Hid (BRow wr wc.heap.size m (fun i => ∃ x, x < K ∧ x * x % m = i)) ∧ Hid (Below wc.heap.size wc wr)) (fun sx _ => m - (intOf sx).toNat)
    case atStart => exact ⟨0, rfl, by omega, HR0, HB0⟩
    case round =>
      obtain ⟨K, rfl, hK, HR, HB⟩ := hrel
      rename World => wA
      by_cases hlt : K < m
      · obtain ⟨I, hI⟩ : ∃ I, I = K * K % m := ⟨_, rfl⟩
        have hIm : I < m := by rw [hI]; exact Nat.mod_lt _ (by omega)
        have hx : (K : Int) * (K : Int) % (m : Int) = (I : Int) := by rw [hI]; push_cast; rfl
        have hKK := mul_bd (show K ≤ 5000 by omega) (show K ≤ 5000 by omega)
        have kk1 := hKK.1
        have kk2 := hKK.2
        obtain ⟨x, c1, _⟩ := HR.out.cell hIm
        have f1 := HR.out.frozen I
        have hi1 : (I : Int) < (m : Int) := by omega
        have HS := hid (HR.out.set (Q := fun i => ∃ x, x < K + 1 ∧ x * x % m = i) I (fun i hi => by
          constructor
          · rintro ⟨x, hx, e⟩
            by_cases h : x = K
            · left; rw [← e, h, hI]
            · right; exact ⟨x, by omega, e⟩
          · rintro (e | ⟨x, hx, e⟩)
            · exact ⟨K, by omega, by rw [e, hI]⟩
            · exact ⟨x, by omega, e⟩))
        have HBs := hid (HB.out.setCell (p := ⟨wc.heap.size, I, none⟩) (Nat.le_refl _) (.bool true))
        have hK0 : (K : Int) < (m : Int) := by omega
        clear hI hKK
        go_wp2
        go_round
        case measure => simp only [intOf]; omega
        case rel => exact ⟨K + 1, by go_num, by omega, HS, HBs⟩
      · obtain rfl : K = m := by omega
        clear hlt
        go_wp2_with fail
        go_loopw [6, 7] (fun ss sl wr => ∃ L b : Nat, ss = .slice (some ⟨b, 0, none⟩) K K ∧ sl = .int .i64 L ∧ 1 ≤ L ∧ L ≤ lev ∧ Hid (BRow wr wc.heap.size K (TP K 1)) ∧ Hid (BRow wr b K (TP K L)) ∧ Hid (Below wc.heap.size wc wr)) (fun _ sl _ => lev - (intOf sl).toNat)
        case atStart => exact ⟨1, wc.heap.size, rfl, rfl, by omega, hlev1, HR, HR, HB⟩
        case round =>
          obtain ⟨L, b, rfl, rfl, hL1, hL, HR1, HRL, HB2⟩ := hrel
          rename World => wB
          obtain ⟨M1, hM1⟩ : ∃ M1, K = M1 + 1 := ⟨K - 1, by omega⟩
          have hM1i : (K : Int) - 1 = (M1 : Int) := by omega
          have hM1l : M1 < K := by omega
          have hM1m : (M1 : Int) < (K : Int) := by omega
          have HM1 : Hid (K - 1 = M1) := hid (by omega)
          clear hM1
          by_cases hlt : L < lev
          · have c1 := HRL.out.no hM1l (by rw [← HM1.out]; exact HNO.out L hL1 hlt)
            have hbl := HRL.out.lt
            have hsl := HR1.out.lt
            have HN0 := hid (BRow.made wB K (NP K L 0 0) (fun i hi => by rintro ⟨u, v, _, _, h, _⟩; omega))
            have HBa := hid (HB2.out.alloc HB2.out.size (.cells (madeCells #[.bool false] K) 4))
            have HR1a := hid (HR1.out.of_block (w' := wB.alloc (.cells (madeCells #[.bool false] K) 4)) (Below.heap_alloc _ _ _ hsl))
            have HRLa := hid (HRL.out.of_block (w' := wB.alloc (.cells (madeCells #[.bool false] K) 4)) (Below.heap_alloc _ _ _ hbl))
            have hbs := HB2.out.size
            go_wp2_with (at_make; refine wpList_make_row _ rfl _ _ 42 rfl 4 i0 (.bool false) Try.underlying42 hi hz0 hz1 rfl .i64 .i64 K rfl rfl (by rw [hz2]; omega) (by omega) ?_)
            go_loopw [9] (fun sx wr => ∃ X : Nat, sx = .int .i64 X ∧ X ≤ K ∧ Hid (BRow wr wc.heap.size K (TP K 1)) ∧ Hid (BRow wr b K (TP K L)) ∧ Hid (BRow wr wB.heap.size K (NP K L X 0)) ∧ Hid (Below wc.heap.size wc wr)) (fun sx _ => K - (intOf sx).toNat)
            case atStart => exact ⟨0, rfl, by omega, HR1a, HRLa, HN0, HBa⟩
            case round =>
              obtain ⟨X, rfl, hX, HRx1, HRxL, HRxN, HBx⟩ := hrel
              rename World => wC
              by_cases hlt2 : X < K
              · have hX0 : (X : Int) < (K : Int) := by omega
                go_wp2_with fail
                go_loopw [10] (fun sy wr => ∃ Y : Nat, sy = .int .i64 Y ∧ Y ≤ K ∧ Hid (BRow wr wc.heap.size K (TP K 1)) ∧ Hid (BRow wr b K (TP K L)) ∧ Hid (BRow wr wB.heap.size K (NP K L X Y)) ∧ Hid (Below wc.heap.size wc wr)) (fun sy _ => K - (intOf sy).toNat)
                case atStart => exact ⟨0, rfl, by omega, HRx1, HRxL, HRxN, HBx⟩
                case round =>
                  obtain ⟨Y, rfl, hY, HRy1, HRyL, HRyN, HBy⟩ := hrel
                  rename World => wD
                  by_cases hlt3 : Y < K
                  · have hY0 : (Y : Int) < (K : Int) := by omega
                    by_cases hTX : TP K L X
                    · have cX := HRyL.out.yes hlt2 hTX
                      by_cases hTY : TP K 1 Y
                      · have cY := HRy1.out.yes hlt3 hTY
                        obtain ⟨I, hI⟩ : ∃ I, I = (X + Y) % K := ⟨_, rfl⟩
                        have hIm : I < K := by rw [hI]; exact Nat.mod_lt _ (by omega)
                        have hx : ((X : Int) + (Y : Int)) % (K : Int) = (I : Int) := by rw [hI]; push_cast; rfl
                        obtain ⟨x, cI, _⟩ := HRyN.out.cell hIm
                        have fI := HRyN.out.frozen I
                        have hi1 : (I : Int) < (K : Int) := by omega
                        have HS := hid (HRyN.out.set (Q := NP K L X (Y + 1)) I (fun i hi => by
                          constructor
                          · rintro ⟨u, v, hu, hv, h, t1, t2, e⟩
                            by_cases h2 : u = X ∧ v = Y
                            · left; rw [← e, h2.1, h2.2, hI]
                            · right; exact ⟨u, v, hu, hv, by omega, t1, t2, e⟩
                          · rintro (e | ⟨u, v, hu, hv, h, t1, t2, e⟩)
                            · exact ⟨X, Y, hlt2, hlt3, by omega, hTX, hTY, by rw [e, hI]⟩
                            · exact ⟨u, v, hu, hv, by omega, t1, t2, e⟩))
                        have HBs := hid (HBy.out.setCell (p := ⟨wB.heap.size, I, none⟩) hbs (.bool true))
                        have HS1 := hid (HRy1.out.of_block (w' := wD.setCell ⟨wB.heap.size, I, none⟩ (.bool true)) (Below.heap_setCell _ _ _ _ (by simp; omega)))
                        have HSL := hid (HRyL.out.of_block (w' := wD.setCell ⟨wB.heap.size, I, none⟩ (.bool true)) (Below.heap_setCell _ _ _ _ (by simp; omega)))
                        clear hI hTX hTY
                        go_wp2
                        go_round
                        case measure => simp only [intOf]; omega
                        case rel => exact ⟨Y + 1, by go_num, by omega, HS1, HSL, HS, HBs⟩
                      · have cY := HRy1.out.no hlt3 hTY
                        have HS := hid (HRyN.out.congr (Q := NP K L X (Y + 1)) (fun i hi => by
                          constructor
                          · rintro ⟨u, v, hu, hv, h, t1, t2, e⟩; exact ⟨u, v, hu, hv, by omega, t1, t2, e⟩
                          · rintro ⟨u, v, hu, hv, h, t1, t2, e⟩
                            by_cases h2 : v = Y
                            · rw [h2] at t2; exact absurd t2 hTY
                            · exact ⟨u, v, hu, hv, by omega, t1, t2, e⟩))
                        clear hTX hTY
                        go_wp2
                        go_round
                        case measure => simp only [intOf]; omega
                        case rel => exact ⟨Y + 1, by go_num, by omega, HRy1, HRyL, HS, HBy⟩
                    · have cX := HRyL.out.no hlt2 hTX
                      have HS := hid (HRyN.out.congr (Q := NP K L X (Y + 1)) (fun i hi => by
                        constructor
                        · rintro ⟨u, v, hu, hv, h, t1, t2, e⟩; exact ⟨u, v, hu, hv, by omega, t1, t2, e⟩
                        · rintro ⟨u, v, hu, hv, h, t1, t2, e⟩
                          by_cases h2 : u = X
                          · rw [h2] at t1; exact absurd t1 hTX
                          · exact ⟨u, v, hu, hv, by omega, t1, t2, e⟩))
                      clear hTX
                      go_wp2
                      go_round
                      case measure => simp only [intOf]; omega
                      case rel => exact ⟨Y + 1, by go_num, by omega, HRy1, HRyL, HS, HBy⟩
                  · obtain rfl : Y = K := by omega
                    have HS := hid (HRyN.out.congr (Q := NP Y L (X + 1) 0) (fun i hi => by
                      constructor
                      · rintro ⟨u, v, hu, hv, h, t1, t2, e⟩; exact ⟨u, v, hu, hv, by omega, t1, t2, e⟩
                      · rintro ⟨u, v, hu, hv, h, t1, t2, e⟩; exact ⟨u, v, hu, hv, by omega, t1, t2, e⟩))
                    clear hlt3
                    go_wp2
                    go_round
                    case measure => simp only [intOf]; omega
                    case rel => exact ⟨X + 1, by go_num, by omega, HRy1, HRyL, HS, HBy⟩
              · obtain rfl : X = K := by omega
                have HS := hid (HRxN.out.congr (Q := TP X (L + 1)) (fun i hi => by
                  rw [TP_succ _ _ _ hL1]
                  constructor
                  · rintro ⟨u, v, hu, hv, h, t1, t2, e⟩; exact ⟨u, v, hu, hv, t1, t2, e⟩
                  · rintro ⟨u, v, hu, hv, t1, t2, e⟩; exact ⟨u, v, hu, hv, by omega, t1, t2, e⟩))
                clear hlt2
                go_wp2
                go_round
                case measure => simp only [intOf]; omega
                case rel => exact ⟨L + 1, wB.heap.size, rfl, by go_num, by omega, by omega, HRx1, HS, HBx⟩
          · obtain rfl : L = lev := by omega
            have c1 := HRL.out.yes hM1l (by rw [← HM1.out]; exact HYES.out)
            clear hlt
            go_wp2
            go_ret
            exact ⟨rfl, HB2.out⟩

def tpB (m : Nat) : Nat → Nat → Bool
  | 0, _ => false
  | 1, i => (List.range m).any (fun x => x * x % m == i)
  | L + 2, i => (List.range m).any (fun x => (List.range m).any (fun y => (x + y) % m == i && ((List.range m).any (fun z => z * z % m == y) && tpB m (L + 1) x)))
theorem tpB_iff (m : Nat) : ∀ L i, tpB m L i = true ↔ TP m L i
  | 0, i => by simp [tpB, TP]
  | 1, i => by simp [tpB, TP]
  | L + 2, i => by
    simp only [tpB, TP, List.any_eq_true, List.mem_range, Bool.and_eq_true, beq_iff_eq, tpB_iff m (L + 1)]
    constructor
    · rintro ⟨x, hx, y, hy, e, ⟨z, hz⟩, t⟩; exact ⟨x, y, hx, hy, t, ⟨z, hz⟩, e⟩
    · rintro ⟨x, y, hx, hy, t, ⟨z, hz⟩, e⟩; exact ⟨x, hx, y, hy, e, ⟨z, hz⟩, t⟩
theorem level_two : (∀ L, 1 ≤ L → L < 4 → ¬ TP 16 L 15) ∧ TP 16 4 15 := by
  constructor
  · intro L h1 h4
    rw [← tpB_iff]
    have : L = 1 ∨ L = 2 ∨ L = 3 := by omega
    rcases this with rfl | rfl | rfl <;> decide +kernel
  · rw [← tpB_iff]; decide +kernel

theorem pw_of_res {P r : Nat} (h : resN r P = 1) : pw r ((P - 1) / 2) P = 1 := by
  unfold resN at h
  by_cases e : pw r ((P - 1) / 2) P = P - 1
  · rw [if_pos e] at h; cases h
  · rw [if_neg e] at h; omega
theorem pw_of_non {P r : Nat} (h : resN r P = -1) : pw r ((P - 1) / 2) P = P - 1 := by
  unfold resN at h
  by_cases e : pw r ((P - 1) / 2) P = P - 1
  · exact e
  · rw [if_neg e] at h; omega
theorem pw_minus {P : Nat} (h : 2 ≤ P) : ∀ j, pw (P - 1) (2 * j + 1) P = P - 1
  | 0 => by unfold pw; rw [Nat.mul_zero, Nat.zero_add, Nat.pow_one, Nat.mod_eq_of_lt (by omega)]
  | j + 1 => by
    have e : 2 * (j + 1) + 1 = (2 * j + 1) + 1 + 1 := by omega
    rw [e, pw_succ, pw_succ, pw_minus h j]
    obtain ⟨q, rfl⟩ : ∃ q, P = q + 2 := ⟨P - 2, by omega⟩
    have e2 : (q + 2 - 1) * (q + 2 - 1) = 1 + (q + 2) * q := by
      rw [show q + 2 - 1 = q + 1 by omega]
      simp only [Nat.add_mul, Nat.mul_add]
      omega
    rw [e2, Nat.add_mul_mod_self_left, Nat.mod_eq_of_lt (show 1 < q + 2 by omega), Nat.one_mul, Nat.mod_eq_of_lt (by omega)]
theorem sqrt34 {P r : Nat} (h4 : P % 4 = 3) (h : pw r ((P - 1) / 2) P = 1) : ∃ a, a < P ∧ a * a % P = r % P := by
  refine ⟨r ^ ((P + 1) / 4) % P, Nat.mod_lt _ (by omega), ?_⟩
  rw [← Nat.mul_mod, ← Nat.pow_add, show (P + 1) / 4 + (P + 1) / 4 = (P - 1) / 2 + 1 by omega]
  show pw r ((P - 1) / 2 + 1) P = _
  rw [pw_succ, h, Nat.one_mul]
theorem level_one {P : Nat} (hP : primeN P = true) (h3 : 3 ≤ P) (h4 : P % 4 = 1) : TP P 1 (P - 1) := by
  obtain ⟨s1, s2, s3, s4, _⟩ := noneF_spec hP h3
  rw [Nat.mod_eq_of_lt s3] at s4
  refine ⟨noneF P ^ ((P - 1) / 4) % P, Nat.mod_lt _ (by omega), ?_⟩
  rw [← Nat.mul_mod, ← Nat.pow_add, show (P - 1) / 4 + (P - 1) / 4 = (P - 1) / 2 by omega]
  exact pw_of_non s4
theorem res_minus {P : Nat} (h3 : 3 ≤ P) (h4 : P % 4 = 3) : resN (P - 1) P = -1 := by
  unfold resN
  rw [show (P - 1) / 2 = 2 * ((P - 3) / 4) + 1 by omega, pw_minus (by omega), if_pos rfl]
theorem level_three {P : Nat} (hP : primeN P = true) (h3 : 3 ≤ P) (h4 : P % 4 = 3) : ¬ TP P 1 (P - 1) ∧ TP P 2 (P - 1) := by
  have hm := res_minus h3 h4
  constructor
  · rintro ⟨x, hx, e⟩
    have h1 := resN_mul hP h3 x x
    rw [e, hm] at h1
    have h2 := resN_small hP h3 (x % P)
    have h5 : 0 ≤ resN (x % P) P * resN (x % P) P := by
      rcases Int.le_total 0 (resN (x % P) P) with h | h
      · exact Int.mul_nonneg h h
      · exact Int.mul_nonneg_of_nonpos_of_nonpos h h
    omega
  · obtain ⟨s1, s2, s3, s4, s5⟩ := noneF_spec hP h3
    obtain ⟨u, hu⟩ : ∃ u, noneF P = u + 1 := ⟨noneF P - 1, by omega⟩
    rw [hu] at s1 s3 s4 s5
    have hr : resN u P = 1 := by
      by_cases h : u = 1
      · rw [h]; exact resN_one h3
      · have := s5 u (by omega) (by omega)
        rwa [Nat.mod_eq_of_lt (by omega)] at this
    obtain ⟨a, ha, ea⟩ := sqrt34 h4 (pw_of_res hr)
    have hd : resN ((P - 1) * (u + 1) % P) P = 1 := by
      rw [resN_mul hP h3, s4, Nat.mod_eq_of_lt (show P - 1 < P by omega), hm]; rfl
    obtain ⟨d, hd2, ed⟩ := sqrt34 h4 (pw_of_res hd)
    refine ⟨a * a % P, d * d % P, Nat.mod_lt _ (by omega), Nat.mod_lt _ (by omega), ⟨a, ha, rfl⟩, ⟨d, hd2, rfl⟩, ?_⟩
    rw [ea, ed, Nat.mod_mod, ← Nat.add_mod]
    obtain ⟨t, rfl⟩ : ∃ t, P = t + 1 := ⟨P - 1, by omega⟩
    rw [Nat.add_sub_cancel]
    have e : u + t * (u + 1) = t + (t + 1) * u := by
      simp only [Nat.mul_add, Nat.add_mul]
      omega
    rw [e, Nat.add_mul_mod_self_left, Nat.mod_eq_of_lt (by omega)]

def levV (q : Int) : Int := if plI q && decide (q ≠ 0) then (if q = 2 then 4 else if q % 4 = 1 then 1 else 2) else -1
theorem localLevelS_any (q : Int) (w : World) : Calls Try.prog 23 #[.int .i64 q] w fun e w' => e = .returned (.int .i64 (levV q)) ∧ Below w.heap.size w w' := by
  cases hq : plI q
  · have HV : Hid (levV q = -1) := hid (by unfold levV; rw [hq]; rfl)
    go_enter Try.func23, Try.ntmps23
    go_wp2_with (go_at_call 45; refine (placeValidS_any _ _).mono ?_; rintro e w' ⟨rfl, rfl⟩)
    go_ret
    exact ⟨retI HV.out.symm, Below.refl _ _⟩
  · rcases plI_cases hq with rfl | rfl | ⟨P, rfl, hP, h3, h5⟩
    · have HV : Hid (levV 0 = -1) := rfl
      go_enter Try.func23, Try.ntmps23
      go_wp2_with (go_at_call 45; refine (placeValidS_any _ _).mono ?_; rintro e w' ⟨rfl, rfl⟩)
      go_ret
      exact ⟨retI HV.out.symm, Below.refl _ _⟩
    · exact level_yes 2 16 4 hq (by decide) rfl (by decide) (by decide) (by decide) (by decide) level_two.1 level_two.2 w
    · have e0 : ¬ ((P : Int) = 0) := by omega
      have e2 : ¬ ((P : Int) = 2) := by omega
      have hodd : P % 2 = 1 := by
        have := primeN_no hP (Nat.le_refl 2)
        by_cases h : P % 2 = 0
        · exact absurd h (this (by omega))
        · omega
      by_cases h4 : P % 4 = 1
      · have := level_yes (P : Int) P 1 hq e0 (by rw [if_neg e2, Int.toNat_natCast]) (by omega) h5 (by decide) (by decide) (fun L h1 h2 => by omega) (level_one hP h3 h4) w
        rw [show levV (P : Int) = ((1 : Nat) : Int) by unfold levV; rw [hq, if_pos (by simp; omega), if_neg e2, if_pos (by omega)]; rfl]
        exact this
      · obtain ⟨a, b⟩ := level_three hP h3 (by omega)
        have := level_yes (P : Int) P 2 hq e0 (by rw [if_neg e2, Int.toNat_natCast]) (by omega) h5 (by decide) (by decide) (fun L h1 h2 => by rw [show L = 1 by omega]; exact a) b w
        rw [show levV (P : Int) = ((2 : Nat) : Int) by unfold levV; rw [hq, if_pos (by simp; omega), if_neg e2, if_neg (by omega)]; rfl]
        exact this

end Go.Proofs.Ytamdjgcnjgiflab
