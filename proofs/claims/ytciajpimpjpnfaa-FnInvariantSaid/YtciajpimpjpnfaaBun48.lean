/-
  Some texts in one file: FmRep Level ImpV.
-/
import Derived.Test.YtciajpimpjpnfaaFmCore
import Derived.Test.YtciajpimpjpnfaaCoreI
import Derived.Test.YtciajpimpjpnfaaBun8
import Derived.Deep.OwnRows
import Derived.Deep.DeepCutAuto
import Derived.Test.YtciajpimpjpnfaaImpC
/-! FmRep -/
set_option linter.unusedVariables false
namespace Go.Proofs.Ytciajpimpjpnfaa
open Go.RowKit

theorem core_lt_iff {n : Int} (hn : n ≠ 0) : (coreG n < 0 ↔ n < 0) := core_sign hn
theorem prod_two (a b : Int) : prodI [a, b] = a * b := by show a * (b * 1) = _; rw [Int.mul_one]
theorem hasC_two {a b q : Int} (hb : b ≠ 0) (hq : plI q = true) : hasC q [a, b] = symV a b q := by
  show symV a (b * 1) q * hasC q [b] = _
  rw [hasC_one q hq hb, Int.mul_one, Int.mul_one]
theorem less_two (a b : Int) : lessN [a, b] = (if a < 0 then 1 else 0) + (if b < 0 then 1 else 0) := by
  unfold lessN
  rw [List.filter_cons, List.filter_cons, List.filter_nil]
  by_cases h1 : a < 0 <;> by_cases h2 : b < 0 <;> simp [h1, h2]
/-- the signs of what two terms represent -/
theorem sign_two {a b t d x y : Int} (ha : a ≠ 0) (hb : b ≠ 0) (ht : t ≠ 0) (hd : d ≠ 0) (he : t = a * x * x + b * y * y) (hs : d < 0 ↔ a * b * t < 0) : lessN [t, d] = lessN [a, b] := by
  have hx : 0 ≤ x * x := by rcases Int.le_total 0 x with h | h; exact Int.mul_nonneg h h; exact Int.mul_nonneg_of_nonpos_of_nonpos h h
  have hy : 0 ≤ y * y := by rcases Int.le_total 0 y with h | h; exact Int.mul_nonneg h h; exact Int.mul_nonneg_of_nonpos_of_nonpos h h
  rw [Int.mul_assoc, Int.mul_assoc] at he
  rw [less_two, less_two]
  rcases Int.lt_or_gt_of_ne ha with h1 | h1 <;> rcases Int.lt_or_gt_of_ne hb with h2 | h2
  · have p1 := Int.mul_nonpos_of_nonpos_of_nonneg (Int.le_of_lt h1) hx
    have p2 := Int.mul_nonpos_of_nonpos_of_nonneg (Int.le_of_lt h2) hy
    have h3 : t < 0 := by omega
    have h4 : d < 0 := hs.2 (Int.mul_neg_of_pos_of_neg (Int.mul_pos_of_neg_of_neg h1 h2) h3)
    rw [if_pos h1, if_pos h2, if_pos h3, if_pos h4]
  · have h5 := Int.mul_neg_of_neg_of_pos h1 h2
    rcases Int.lt_or_gt_of_ne ht with h3 | h3
    · have h4 : ¬ d < 0 := fun h => by have := Int.mul_pos_of_neg_of_neg h5 h3; have := hs.1 h; omega
      rw [if_pos h1, if_neg (show ¬ b < 0 by omega), if_pos h3, if_neg h4]
    · have h4 : d < 0 := hs.2 (Int.mul_neg_of_neg_of_pos h5 h3)
      rw [if_pos h1, if_neg (show ¬ b < 0 by omega), if_neg (show ¬ t < 0 by omega), if_pos h4]
  · have h5 := Int.mul_neg_of_pos_of_neg h1 h2
    rcases Int.lt_or_gt_of_ne ht with h3 | h3
    · have h4 : ¬ d < 0 := fun h => by have := Int.mul_pos_of_neg_of_neg h5 h3; have := hs.1 h; omega
      rw [if_neg (show ¬ a < 0 by omega), if_pos h2, if_pos h3, if_neg h4]
    · have h4 : d < 0 := hs.2 (Int.mul_neg_of_neg_of_pos h5 h3)
      rw [if_neg (show ¬ a < 0 by omega), if_pos h2, if_neg (show ¬ t < 0 by omega), if_pos h4]
  · have p1 := Int.mul_nonneg (Int.le_of_lt h1) hx
    have p2 := Int.mul_nonneg (Int.le_of_lt h2) hy
    have h3 : ¬ t < 0 := by omega
    have h4 : ¬ d < 0 := fun h => by
      have := hs.1 h
      have := Int.mul_nonneg (Int.le_of_lt (Int.mul_pos h1 h2)) (show 0 ≤ t by omega)
      omega
    rw [if_neg (show ¬ a < 0 by omega), if_neg (show ¬ b < 0 by omega), if_neg h3, if_neg h4]
theorem core_mul {m n : Int} (hm : m ≠ 0) (hn : n ≠ 0) : coreG (coreG m * coreG n) = coreG (m * n) := by
  have h := core_is hm
  have k := core_is hn
  have hc := h.ne hm
  have kc := k.ne hn
  have e : m * n = coreG m * coreG n * (((rootG m : Int) * rootG n) * ((rootG m : Int) * rootG n)) := by
    conv => lhs; rw [← h.eq, ← k.eq]
    simp only [Int.mul_assoc, Int.mul_comm, Int.mul_left_comm]
  rw [e, core_sq (Int.mul_ne_zero hc kc) (Int.mul_ne_zero (by have := h.pos; omega) (by have := k.pos; omega))]
/-- TWO TERMS ARE WORTH WHAT THEY REPRESENT -/
theorem replace_same {a b t x y : Int} (hf : fvB [a, b] = true) (ht : t ≠ 0) (he : t = a * x * x + b * y * y) (hg : fvB [coreG t, coreG (coreG (a * b) * coreG t)] = true) : fsameV [a, b] [coreG t, coreG (coreG (a * b) * coreG t)] = true := by
  have hz := fv_nz hf
  have ha := hz.head
  have hb := hz.tail.head
  have hab := Int.mul_ne_zero ha hb
  have habt := Int.mul_ne_zero hab ht
  have hd : coreG (coreG (a * b) * coreG t) = coreG (a * b * t) := core_mul hab ht
  rw [hd] at hg ⊢
  have hct := core_is ht
  have hcd := core_is habt
  have hcn := hct.ne ht
  have hdn := hcd.ne habt
  refine (same_iff hf hg).2 ⟨rfl, ?_, fun q hq => ?_⟩
  · rw [prod_two, prod_two, core_mul ht habt, show t * (a * b * t) = a * b * (t * t) by simp only [Int.mul_comm, Int.mul_left_comm], core_sq hab ht]
  · by_cases h0 : q = 0
    · unfold alikeB
      rw [if_pos h0, beq_iff_eq]
      have e1 : lessN [coreG t, coreG (a * b * t)] = lessN [t, a * b * t] := by
        rw [less_two, less_two]
        simp only [core_sign ht, core_sign habt]
      rw [e1, sign_two ha hb ht habt he Iff.rfl]
    · rw [alike_def hq hz (fv_nz hg) h0, hasC_two hb hq, hasC_two hdn hq, prod_two, prod_two]
      rw [symV_congr (core_cls ht hq).2 (core_cls habt hq).2, replace_sym ha hb ht he hq]
      have h1 : coreG (a * b) = coreG (coreG t * coreG (a * b * t)) := by
        rw [core_mul ht habt, show t * (a * b * t) = a * b * (t * t) by simp only [Int.mul_comm, Int.mul_left_comm], core_sq hab ht]
      rw [sq_of_core hab (Int.mul_ne_zero hcn hdn) hq h1]
      simp

theorem vecOk {xs vs : List Int} (h : vecB xs vs 1000 = true) : (∀ v ∈ vs, -1000 ≤ v ∧ v ≤ 1000) ∧ fvB xs = true ∧ vs.length = xs.length := by
  unfold vecB at h
  rw [Bool.and_eq_true, Bool.and_eq_true, List.all_eq_true, beq_iff_eq] at h
  obtain ⟨h1, h2, h3⟩ := h
  refine ⟨fun v hv => ?_, h2, h3⟩
  have := h1 v hv
  unfold inR at this
  rw [Bool.and_eq_true, decide_eq_true_eq, decide_eq_true_eq] at this
  exact this
theorem vecVal {xs vs : List Int} (h : vecB xs vs 1000 = true) : -120000000 ≤ valI xs vs xs.length ∧ valI xs vs xs.length ≤ 120000000 := by
  obtain ⟨h1, h2, h3⟩ := vecOk h
  have := valI_bd h2 h1 h3 xs.length (Nat.le_refl _)
  have := (fvB_iff.1 h2).2.2
  omega
theorem len_two' : ∀ {xs : List Int}, xs.length = 2 → ∃ a b : Int, xs = [a, b]
  | [a, b], _ => ⟨a, b, rfl⟩
theorem val_two (a b x y : Int) : valI [a, b] [x, y] [a, b].length = a * x * x + b * y * y := by
  show 0 + a * x * x + b * y * y = _
  rw [Int.zero_add]

end Go.Proofs.Ytciajpimpjpnfaa

/-! Level -/
set_option linter.unusedVariables false
namespace Go.Proofs.Ytciajpimpjpnfaa
open Go.RowKit

/-- L squares add up to i, up to multiples of m -/
def TP (m : Nat) : Nat → Nat → Prop
  | 0, _ => False
  | 1, i => ∃ x, x < m ∧ x * x % m = i
  | L + 2, i => ∃ x y, x < m ∧ y < m ∧ TP m (L + 1) x ∧ (∃ z, z < m ∧ z * z % m = y) ∧ (x + y) % m = i
theorem TP_one (m i : Nat) : TP m 1 i ↔ ∃ x, x < m ∧ x * x % m = i := Iff.rfl
theorem TP_succ (m L i : Nat) (h : 1 ≤ L) : TP m (L + 1) i ↔ ∃ x y, x < m ∧ y < m ∧ TP m L x ∧ TP m 1 y ∧ (x + y) % m = i := by
  obtain ⟨k, rfl⟩ : ∃ k, L = k + 1 := ⟨L - 1, by omega⟩
  exact Iff.rfl

def BRow (w : World) (b m : Nat) (P : Nat → Prop) : Prop := ∃ g : Nat → Bool, w.rowIs b 4 m (fun i => .bool (g i)) ∧ ∀ i, i < m → (g i = true ↔ P i)
theorem BRow.lt {w : World} {b m : Nat} {P : Nat → Prop} (h : BRow w b m P) : b < w.heap.size := by obtain ⟨g, h, _⟩ := h; exact h.lt
theorem BRow.of_block {w w' : World} {b m : Nat} {P : Nat → Prop} (h : BRow w b m P) (e : w'.heap[b]? = w.heap[b]?) : BRow w' b m P := by obtain ⟨g, h, h2⟩ := h; exact ⟨g, h.of_block e, h2⟩
theorem BRow.congr {w : World} {b m : Nat} {P Q : Nat → Prop} (h : BRow w b m P) (e : ∀ i, i < m → (P i ↔ Q i)) : BRow w b m Q := by obtain ⟨g, h, h2⟩ := h; exact ⟨g, h, fun i hi => (h2 i hi).trans (e i hi)⟩
theorem BRow.made (w : World) (m : Nat) (P : Nat → Prop) (hP : ∀ i, i < m → ¬ P i) : BRow (w.alloc (.cells (madeCells #[.bool false] m) 4)) w.heap.size m P :=
  ⟨fun _ => false, World.rowIs_made w (.bool false) m _, fun i hi => by simp [hP i hi]⟩
theorem BRow.set {w : World} {b m : Nat} {P Q : Nat → Prop} (h : BRow w b m P) (I : Nat) (hQ : ∀ i, i < m → (Q i ↔ (i = I ∨ P i))) : BRow (w.setCell ⟨b, I, none⟩ (.bool true)) b m Q := by
  obtain ⟨g, h, h2⟩ := h
  refine ⟨fun i => if i = I then true else g i, (h.set I (.bool true)).congr fun i hi => ?_, fun i hi => ?_⟩
  · by_cases e : i = I <;> simp [e]
  · rw [hQ i hi, ← h2 i hi]
    by_cases e : i = I <;> simp [e]
theorem BRow.cell {w : World} {b m : Nat} {P : Nat → Prop} (h : BRow w b m P) {i : Nat} (hi : i < m) : ∃ x : Bool, w.cell? ⟨b, i, none⟩ = some (.bool x) ∧ (x = true ↔ P i) := by
  obtain ⟨g, h, h2⟩ := h
  exact ⟨g i, h.cell hi, h2 i hi⟩
theorem BRow.frozen {w : World} {b m : Nat} {P : Nat → Prop} (h : BRow w b m P) (i : Nat) : w.frozen? ⟨b, i, none⟩ = false := by
  obtain ⟨g, h, _⟩ := h
  exact h.frozen i
theorem BRow.yes {w : World} {b m : Nat} {P : Nat → Prop} (h : BRow w b m P) {i : Nat} (hi : i < m) (hp : P i) : w.cell? ⟨b, i, none⟩ = some (.bool true) := by
  obtain ⟨x, hx, h2⟩ := h.cell hi
  rw [hx, h2.2 hp]
theorem BRow.no {w : World} {b m : Nat} {P : Nat → Prop} (h : BRow w b m P) {i : Nat} (hi : i < m) (hp : ¬ P i) : w.cell? ⟨b, i, none⟩ = some (.bool false) := by
  obtain ⟨x, hx, h2⟩ := h.cell hi
  cases x
  · exact hx
  · exact absurd (h2.1 rfl) hp

theorem infoBool : (Try.prog.info? 4).map (fun i => (i.zero, i.size, i.bytes)) = some (some (.bool false), 1, 1) := by kernel_rfl

/-- what the two loops within have marked -/
def NP (m L x y i : Nat) : Prop := ∃ u v, u < m ∧ v < m ∧ (u < x ∨ (u = x ∧ v < y)) ∧ TP m L u ∧ TP m 1 v ∧ (u + v) % m = i

set_option maxRecDepth 100000 in
set_option maxHeartbeats 2000000 in
theorem level_yes (q : Int) (m lev : Nat) (hq : plI q = true) (h0 : q ≠ 0) (hm : m = if q = 2 then 16 else q.toNat) (hm1 : 2 ≤ m) (hm5 : m ≤ 5000) (hlev1 : 1 ≤ lev) (hlev4 : lev ≤ 4)
    (hno : ∀ L, 1 ≤ L → L < lev → ¬ TP m L (m - 1)) (hyes : TP m lev (m - 1)) (w : World) :
    Calls Try.prog 17 #[.int .i64 q] w fun e w' => e = .returned (.int .i64 (lev : Nat)) ∧ Below w.heap.size w w' := by
  obtain ⟨i0, hi, hz0, hz1, hz2⟩ := info_parts infoBool
  have T0 : (q == 0) = false := by rw [beq_eq_false_iff_ne]; exact h0
  have hqb := plI_bd hq
  have hq1 := hqb.1
  have hq2 := hqb.2
  have HNO := hid hno
  have HYES := hid hyes
  have HM := hid hm
  have HR0 := hid (BRow.made w m (fun i => ∃ x, x < 0 ∧ x * x % m = i) (fun i hi => by rintro ⟨x, hx, _⟩; omega))
  have HB0 := hid ((Below.refl w.heap.size w).alloc (Nat.le_refl _) (.cells (madeCells #[.bool false] m) 4))
  clear hno hyes hqb hm h0
  go_enter Try.func17, Try.ntmps17
  go_upto_if 20 with (go_at_call 63; refine (placeValidS_any _ _).mono ?_; rintro e w' ⟨rfl, rfl⟩)
  go_cut [3] (fun s3 wx => s3 = .int .i64 (m : Nat) ∧ wx = w)
  case first =>
    by_cases h2 : q = 2
    · have e : Hid (m = 16) := hid (by rw [HM.out, if_pos h2])
      subst h2
      go_wp2_with fail
      go_meet
      exact ⟨by rw [e.out]; rfl, rfl⟩
    · have T2 : (q == 2) = false := by rw [beq_eq_false_iff_ne]; exact h2
      have e : Hid ((m : Int) = q) := hid (by rw [HM.out, if_neg h2]; omega)
      clear h2
      go_wp2_with fail
      go_meet
      exact ⟨by rw [e.out], rfl⟩
  case rest =>
    obtain ⟨rfl, rfl⟩ := hcut
    go_wp2_with (at_make; refine wpList_make_row _ rfl _ _ 60 rfl 4 i0 (.bool false) Try.underlying60 hi hz0 hz1 rfl .i64 .i64 m rfl rfl (by rw [hz2]; omega) (by omega) ?_)
    go_loopw [5] (fun sx wr => ∃ K : Nat, sx = .int .i64 K ∧ K ≤ m ∧ Hid (BRow wr wc.heap.size m (fun i => ∃ x, x < K ∧ x * x % m = i)) ∧ Hid (Below wc.heap.size wc wr)) (fun sx _ => m - (intOf sx).toNat)
    case atStart => exact ⟨0, rfl, by omega, HR0, HB0⟩
    case round =>
      obtain ⟨K, rfl, hK, HR, HB⟩ := hrel
      rename World => wA
      by_cases hlt : K < m
      · obtain ⟨I, hI⟩ : ∃ I, I = K * K % m := ⟨_, rfl⟩
        have hIm : I < m := by rw [hI]; exact Nat.mod_lt _ (by omega)
        have hx : (K : Int) * (K : Int) % (m : Int) = (I : Int) := by rw [hI]; push_cast; rfl
        have hKK := mul_bd (show K ≤ 5000 by omega) (show K ≤ 5000 by omega)
        have kk1 := hKK.1
        have kk2 := hKK.2
        obtain ⟨x, c1, _⟩ := HR.out.cell hIm
        have f1 := HR.out.frozen I
        have hi1 : (I : Int) < (m : Int) := by omega
        have HS := hid (HR.out.set (Q := fun i => ∃ x, x < K + 1 ∧ x * x % m = i) I (fun i hi => by
          constructor
          · rintro ⟨x, hx, e⟩
            by_cases h : x = K
            · left; rw [← e, h, hI]
            · right; exact ⟨x, by omega, e⟩
          · rintro (e | ⟨x, hx, e⟩)
            · exact ⟨K, by omega, by rw [e, hI]⟩
            · exact ⟨x, by omega, e⟩))
        have HBs := hid (HB.out.setCell (p := ⟨wc.heap.size, I, none⟩) (Nat.le_refl _) (.bool true))
        have hK0 : (K : Int) < (m : Int) := by omega
        clear hI hKK
        go_wp2
        go_round
        case measure => simp only [intOf]; omega
        case rel => exact ⟨K + 1, by go_num, by omega, HS, HBs⟩
      · obtain rfl : K = m := by omega
        clear hlt
        go_wp2_with fail
        go_loopw [6, 7] (fun ss sl wr => ∃ L b : Nat, ss = .slice (some ⟨b, 0, none⟩) K K ∧ sl = .int .i64 L ∧ 1 ≤ L ∧ L ≤ lev ∧ Hid (BRow wr wc.heap.size K (TP K 1)) ∧ Hid (BRow wr b K (TP K L)) ∧ Hid (Below wc.heap.size wc wr)) (fun _ sl _ => lev - (intOf sl).toNat)
        case atStart => exact ⟨1, wc.heap.size, rfl, rfl, by omega, hlev1, HR, HR, HB⟩
        case round =>
          obtain ⟨L, b, rfl, rfl, hL1, hL, HR1, HRL, HB2⟩ := hrel
          rename World => wB
          obtain ⟨M1, hM1⟩ : ∃ M1, K = M1 + 1 := ⟨K - 1, by omega⟩
          have hM1i : (K : Int) - 1 = (M1 : Int) := by omega
          have hM1l : M1 < K := by omega
          have hM1m : (M1 : Int) < (K : Int) := by omega
          have HM1 : Hid (K - 1 = M1) := hid (by omega)
          clear hM1
          by_cases hlt : L < lev
          · have c1 := HRL.out.no hM1l (by rw [← HM1.out]; exact HNO.out L hL1 hlt)
            have hbl := HRL.out.lt
            have hsl := HR1.out.lt
            have HN0 := hid (BRow.made wB K (NP K L 0 0) (fun i hi => by rintro ⟨u, v, _, _, h, _⟩; omega))
            have HBa := hid (HB2.out.alloc HB2.out.size (.cells (madeCells #[.bool false] K) 4))
            have HR1a := hid (HR1.out.of_block (w' := wB.alloc (.cells (madeCells #[.bool false] K) 4)) (Below.heap_alloc _ _ _ hsl))
            have HRLa := hid (HRL.out.of_block (w' := wB.alloc (.cells (madeCells #[.bool false] K) 4)) (Below.heap_alloc _ _ _ hbl))
            have hbs := HB2.out.size
            go_wp2_with (at_make; refine wpList_make_row _ rfl _ _ 60 rfl 4 i0 (.bool false) Try.underlying60 hi hz0 hz1 rfl .i64 .i64 K rfl rfl (by rw [hz2]; omega) (by omega) ?_)
            go_loopw [9] (fun sx wr => ∃ X : Nat, sx = .int .i64 X ∧ X ≤ K ∧ Hid (BRow wr wc.heap.size K (TP K 1)) ∧ Hid (BRow wr b K (TP K L)) ∧ Hid (BRow wr wB.heap.size K (NP K L X 0)) ∧ Hid (Below wc.heap.size wc wr)) (fun sx _ => K - (intOf sx).toNat)
            case atStart => exact ⟨0, rfl, by omega, HR1a, HRLa, HN0, HBa⟩
            case round =>
              obtain ⟨X, rfl, hX, HRx1, HRxL, HRxN, HBx⟩ := hrel
              rename World => wC
              by_cases hlt2 : X < K
              · have hX0 : (X : Int) < (K : Int) := by omega
                go_wp2_with fail
                go_loopw [10] (fun sy wr => ∃ Y : Nat, sy = .int .i64 Y ∧ Y ≤ K ∧ Hid (BRow wr wc.heap.size K (TP K 1)) ∧ Hid (BRow wr b K (TP K L)) ∧ Hid (BRow wr wB.heap.size K (NP K L X Y)) ∧ Hid (Below wc.heap.size wc wr)) (fun sy _ => K - (intOf sy).toNat)
                case atStart => exact ⟨0, rfl, by omega, HRx1, HRxL, HRxN, HBx⟩
                case round =>
                  obtain ⟨Y, rfl, hY, HRy1, HRyL, HRyN, HBy⟩ := hrel
                  rename World => wD
                  by_cases hlt3 : Y < K
                  · have hY0 : (Y : Int) < (K : Int) := by omega
                    by_cases hTX : TP K L X
                    · have cX := HRyL.out.yes hlt2 hTX
                      by_cases hTY : TP K 1 Y
                      · have cY := HRy1.out.yes hlt3 hTY
                        obtain ⟨I, hI⟩ : ∃ I, I = (X + Y) % K := ⟨_, rfl⟩
                        have hIm : I < K := by rw [hI]; exact Nat.mod_lt _ (by omega)
                        have hx : ((X : Int) + (Y : Int)) % (K : Int) = (I : Int) := by rw [hI]; push_cast; rfl
                        obtain ⟨x, cI, _⟩ := HRyN.out.cell hIm
                        have fI := HRyN.out.frozen I
                        have hi1 : (I : Int) < (K : Int) := by omega
                        have HS := hid (HRyN.out.set (Q := NP K L X (Y + 1)) I (fun i hi => by
                          constructor
                          · rintro ⟨u, v, hu, hv, h, t1, t2, e⟩
                            by_cases h2 : u = X ∧ v = Y
                            · left; rw [← e, h2.1, h2.2, hI]
                            · right; exact ⟨u, v, hu, hv, by omega, t1, t2, e⟩
                          · rintro (e | ⟨u, v, hu, hv, h, t1, t2, e⟩)
                            · exact ⟨X, Y, hlt2, hlt3, by omega, hTX, hTY, by rw [e, hI]⟩
                            · exact ⟨u, v, hu, hv, by omega, t1, t2, e⟩))
                        have HBs := hid (HBy.out.setCell (p := ⟨wB.heap.size, I, none⟩) hbs (.bool true))
                        have HS1 := hid (HRy1.out.of_block (w' := wD.setCell ⟨wB.heap.size, I, none⟩ (.bool true)) (Below.heap_setCell _ _ _ _ (by simp; omega)))
                        have HSL := hid (HRyL.out.of_block (w' := wD.setCell ⟨wB.heap.size, I, none⟩ (.bool true)) (Below.heap_setCell _ _ _ _ (by simp; omega)))
                        clear hI hTX hTY
                        go_wp2
                        go_round
                        case measure => simp only [intOf]; omega
                        case rel => exact ⟨Y + 1, by go_num, by omega, HS1, HSL, HS, HBs⟩
                      · have cY := HRy1.out.no hlt3 hTY
                        have HS := hid (HRyN.out.congr (Q := NP K L X (Y + 1)) (fun i hi => by
                          constructor
                          · rintro ⟨u, v, hu, hv, h, t1, t2, e⟩; exact ⟨u, v, hu, hv, by omega, t1, t2, e⟩
                          · rintro ⟨u, v, hu, hv, h, t1, t2, e⟩
                            by_cases h2 : v = Y
                            · rw [h2] at t2; exact absurd t2 hTY
                            · exact ⟨u, v, hu, hv, by omega, t1, t2, e⟩))
                        clear hTX hTY
                        go_wp2
                        go_round
                        case measure => simp only [intOf]; omega
                        case rel => exact ⟨Y + 1, by go_num, by omega, HRy1, HRyL, HS, HBy⟩
                    · have cX := HRyL.out.no hlt2 hTX
                      have HS := hid (HRyN.out.congr (Q := NP K L X (Y + 1)) (fun i hi => by
                        constructor
                        · rintro ⟨u, v, hu, hv, h, t1, t2, e⟩; exact ⟨u, v, hu, hv, by omega, t1, t2, e⟩
                        · rintro ⟨u, v, hu, hv, h, t1, t2, e⟩
                          by_cases h2 : u = X
                          · rw [h2] at t1; exact absurd t1 hTX
                          · exact ⟨u, v, hu, hv, by omega, t1, t2, e⟩))
                      clear hTX
                      go_wp2
                      go_round
                      case measure => simp only [intOf]; omega
                      case rel => exact ⟨Y + 1, by go_num, by omega, HRy1, HRyL, HS, HBy⟩
                  · obtain rfl : Y = K := by omega
                    have HS := hid (HRyN.out.congr (Q := NP Y L (X + 1) 0) (fun i hi => by
                      constructor
                      · rintro ⟨u, v, hu, hv, h, t1, t2, e⟩; exact ⟨u, v, hu, hv, by omega, t1, t2, e⟩
                      · rintro ⟨u, v, hu, hv, h, t1, t2, e⟩; exact ⟨u, v, hu, hv, by omega, t1, t2, e⟩))
                    clear hlt3
                    go_wp2
                    go_round
                    case measure => simp only [intOf]; omega
                    case rel => exact ⟨X + 1, by go_num, by omega, HRy1, HRyL, HS, HBy⟩
              · obtain rfl : X = K := by omega
                have HS := hid (HRxN.out.congr (Q := TP X (L + 1)) (fun i hi => by
                  rw [TP_succ _ _ _ hL1]
                  constructor
                  · rintro ⟨u, v, hu, hv, h, t1, t2, e⟩; exact ⟨u, v, hu, hv, t1, t2, e⟩
                  · rintro ⟨u, v, hu, hv, t1, t2, e⟩; exact ⟨u, v, hu, hv, by omega, t1, t2, e⟩))
                clear hlt2
                go_wp2
                go_round
                case measure => simp only [intOf]; omega
                case rel => exact ⟨L + 1, wB.heap.size, rfl, by go_num, by omega, by omega, HRx1, HS, HBx⟩
          · obtain rfl : L = lev := by omega
            have c1 := HRL.out.yes hM1l (by rw [← HM1.out]; exact HYES.out)
            clear hlt
            go_wp2
            go_ret
            exact ⟨rfl, HB2.out⟩

def tpB (m : Nat) : Nat → Nat → Bool
  | 0, _ => false
  | 1, i => (List.range m).any (fun x => x * x % m == i)
  | L + 2, i => (List.range m).any (fun x => (List.range m).any (fun y => (x + y) % m == i && ((List.range m).any (fun z => z * z % m == y) && tpB m (L + 1) x)))
theorem tpB_iff (m : Nat) : ∀ L i, tpB m L i = true ↔ TP m L i
  | 0, i => by simp [tpB, TP]
  | 1, i => by simp [tpB, TP]
  | L + 2, i => by
    simp only [tpB, TP, List.any_eq_true, List.mem_range, Bool.and_eq_true, beq_iff_eq, tpB_iff m (L + 1)]
    constructor
    · rintro ⟨x, hx, y, hy, e, ⟨z, hz⟩, t⟩; exact ⟨x, y, hx, hy, t, ⟨z, hz⟩, e⟩
    · rintro ⟨x, y, hx, hy, t, ⟨z, hz⟩, e⟩; exact ⟨x, hx, y, hy, e, ⟨z, hz⟩, t⟩
theorem level_two : (∀ L, 1 ≤ L → L < 4 → ¬ TP 16 L 15) ∧ TP 16 4 15 := by
  constructor
  · intro L h1 h4
    rw [← tpB_iff]
    have : L = 1 ∨ L = 2 ∨ L = 3 := by omega
    rcases this with rfl | rfl | rfl <;> decide +kernel
  · rw [← tpB_iff]; decide +kernel

theorem pw_of_res {P r : Nat} (h : resN r P = 1) : pw r ((P - 1) / 2) P = 1 := by
  unfold resN at h
  by_cases e : pw r ((P - 1) / 2) P = P - 1
  · rw [if_pos e] at h; cases h
  · rw [if_neg e] at h; omega
theorem pw_of_non {P r : Nat} (h : resN r P = -1) : pw r ((P - 1) / 2) P = P - 1 := by
  unfold resN at h
  by_cases e : pw r ((P - 1) / 2) P = P - 1
  · exact e
  · rw [if_neg e] at h; omega
theorem pw_minus {P : Nat} (h : 2 ≤ P) : ∀ j, pw (P - 1) (2 * j + 1) P = P - 1
  | 0 => by unfold pw; rw [Nat.mul_zero, Nat.zero_add, Nat.pow_one, Nat.mod_eq_of_lt (by omega)]
  | j + 1 => by
    have e : 2 * (j + 1) + 1 = (2 * j + 1) + 1 + 1 := by omega
    rw [e, pw_succ, pw_succ, pw_minus h j]
    obtain ⟨q, rfl⟩ : ∃ q, P = q + 2 := ⟨P - 2, by omega⟩
    have e2 : (q + 2 - 1) * (q + 2 - 1) = 1 + (q + 2) * q := by
      rw [show q + 2 - 1 = q + 1 by omega]
      simp only [Nat.add_mul, Nat.mul_add]
      omega
    rw [e2, Nat.add_mul_mod_self_left, Nat.mod_eq_of_lt (show 1 < q + 2 by omega), Nat.one_mul, Nat.mod_eq_of_lt (by omega)]
theorem sqrt34 {P r : Nat} (h4 : P % 4 = 3) (h : pw r ((P - 1) / 2) P = 1) : ∃ a, a < P ∧ a * a % P = r % P := by
  refine ⟨r ^ ((P + 1) / 4) % P, Nat.mod_lt _ (by omega), ?_⟩
  rw [← Nat.mul_mod, ← Nat.pow_add, show (P + 1) / 4 + (P + 1) / 4 = (P - 1) / 2 + 1 by omega]
  show pw r ((P - 1) / 2 + 1) P = _
  rw [pw_succ, h, Nat.one_mul]
theorem level_one {P : Nat} (hP : primeN P = true) (h3 : 3 ≤ P) (h4 : P % 4 = 1) : TP P 1 (P - 1) := by
  obtain ⟨s1, s2, s3, s4, _⟩ := noneF_spec hP h3
  rw [Nat.mod_eq_of_lt s3] at s4
  refine ⟨noneF P ^ ((P - 1) / 4) % P, Nat.mod_lt _ (by omega), ?_⟩
  rw [← Nat.mul_mod, ← Nat.pow_add, show (P - 1) / 4 + (P - 1) / 4 = (P - 1) / 2 by omega]
  exact pw_of_non s4
theorem res_minus {P : Nat} (h3 : 3 ≤ P) (h4 : P % 4 = 3) : resN (P - 1) P = -1 := by
  unfold resN
  rw [show (P - 1) / 2 = 2 * ((P - 3) / 4) + 1 by omega, pw_minus (by omega), if_pos rfl]
theorem level_three {P : Nat} (hP : primeN P = true) (h3 : 3 ≤ P) (h4 : P % 4 = 3) : ¬ TP P 1 (P - 1) ∧ TP P 2 (P - 1) := by
  have hm := res_minus h3 h4
  constructor
  · rintro ⟨x, hx, e⟩
    have h1 := resN_mul hP h3 x x
    rw [e, hm] at h1
    have h2 := resN_small hP h3 (x % P)
    have h5 : 0 ≤ resN (x % P) P * resN (x % P) P := by
      rcases Int.le_total 0 (resN (x % P) P) with h | h
      · exact Int.mul_nonneg h h
      · exact Int.mul_nonneg_of_nonpos_of_nonpos h h
    omega
  · obtain ⟨s1, s2, s3, s4, s5⟩ := noneF_spec hP h3
    obtain ⟨u, hu⟩ : ∃ u, noneF P = u + 1 := ⟨noneF P - 1, by omega⟩
    rw [hu] at s1 s3 s4 s5
    have hr : resN u P = 1 := by
      by_cases h : u = 1
      · rw [h]; exact resN_one h3
      · have := s5 u (by omega) (by omega)
        rwa [Nat.mod_eq_of_lt (by omega)] at this
    obtain ⟨a, ha, ea⟩ := sqrt34 h4 (pw_of_res hr)
    have hd : resN ((P - 1) * (u + 1) % P) P = 1 := by
      rw [resN_mul hP h3, s4, Nat.mod_eq_of_lt (show P - 1 < P by omega), hm]; rfl
    obtain ⟨d, hd2, ed⟩ := sqrt34 h4 (pw_of_res hd)
    refine ⟨a * a % P, d * d % P, Nat.mod_lt _ (by omega), Nat.mod_lt _ (by omega), ⟨a, ha, rfl⟩, ⟨d, hd2, rfl⟩, ?_⟩
    rw [ea, ed, Nat.mod_mod, ← Nat.add_mod]
    obtain ⟨t, rfl⟩ : ∃ t, P = t + 1 := ⟨P - 1, by omega⟩
    rw [Nat.add_sub_cancel]
    have e : u + t * (u + 1) = t + (t + 1) * u := by
      simp only [Nat.mul_add, Nat.add_mul]
      omega
    rw [e, Nat.add_mul_mod_self_left, Nat.mod_eq_of_lt (by omega)]

def levV (q : Int) : Int := if plI q && decide (q ≠ 0) then (if q = 2 then 4 else if q % 4 = 1 then 1 else 2) else -1
theorem localLevelS_any (q : Int) (w : World) : Calls Try.prog 17 #[.int .i64 q] w fun e w' => e = .returned (.int .i64 (levV q)) ∧ Below w.heap.size w w' := by
  cases hq : plI q
  · have HV : Hid (levV q = -1) := hid (by unfold levV; rw [hq]; rfl)
    go_enter Try.func17, Try.ntmps17
    go_wp2_with (go_at_call 63; refine (placeValidS_any _ _).mono ?_; rintro e w' ⟨rfl, rfl⟩)
    go_ret
    exact ⟨retI HV.out.symm, Below.refl _ _⟩
  · rcases plI_cases hq with rfl | rfl | ⟨P, rfl, hP, h3, h5⟩
    · have HV : Hid (levV 0 = -1) := rfl
      go_enter Try.func17, Try.ntmps17
      go_wp2_with (go_at_call 63; refine (placeValidS_any _ _).mono ?_; rintro e w' ⟨rfl, rfl⟩)
      go_ret
      exact ⟨retI HV.out.symm, Below.refl _ _⟩
    · exact level_yes 2 16 4 hq (by decide) rfl (by decide) (by decide) (by decide) (by decide) level_two.1 level_two.2 w
    · have e0 : ¬ ((P : Int) = 0) := by omega
      have e2 : ¬ ((P : Int) = 2) := by omega
      have hodd : P % 2 = 1 := by
        have := primeN_no hP (Nat.le_refl 2)
        by_cases h : P % 2 = 0
        · exact absurd h (this (by omega))
        · omega
      by_cases h4 : P % 4 = 1
      · have := level_yes (P : Int) P 1 hq e0 (by rw [if_neg e2, Int.toNat_natCast]) (by omega) h5 (by decide) (by decide) (fun L h1 h2 => by omega) (level_one hP h3 h4) w
        rw [show levV (P : Int) = ((1 : Nat) : Int) by unfold levV; rw [hq, if_pos (by simp; omega), if_neg e2, if_pos (by omega)]; rfl]
        exact this
      · obtain ⟨a, b⟩ := level_three hP h3 (by omega)
        have := level_yes (P : Int) P 2 hq e0 (by rw [if_neg e2, Int.toNat_natCast]) (by omega) h5 (by decide) (by decide) (fun L h1 h2 => by rw [show L = 1 by omega]; exact a) b w
        rw [show levV (P : Int) = ((2 : Nat) : Int) by unfold levV; rw [hq, if_pos (by simp; omega), if_neg e2, if_neg (by omega)]; rfl]
        exact this

end Go.Proofs.Ytciajpimpjpnfaa

/-! ImpV -/
set_option linter.unusedVariables false
namespace Go.Proofs.Ytciajpimpjpnfaa
open Go.RowKit

theorem cls_minus_lv {P : Nat} (hP : primeN P = true) (h3 : 3 ≤ P) : cls (-1) (P : Int) = (0, resN (P - 1) P) := by
  have hd : ¬ P ∣ (-1 : Int).natAbs := by rw [show (-1 : Int).natAbs = 1 from rfl, Nat.dvd_one]; omega
  obtain ⟨a, b⟩ := unit_self hP hd (by decide)
  have e : (-1 : Int) % (P : Int) = ((P - 1 : Nat) : Int) := by
    rw [← Int.add_mul_emod_self_left (-1) (P : Int) 1, Int.emod_eq_of_lt (by omega) (by omega)]
    omega
  rw [cls_odd h3, a, b, e, Int.toNat_natCast]
theorem sq_minus_lv {P : Nat} (hP : primeN P = true) (h3 : 3 ≤ P) : sqAt (-1) (P : Int) = decide (P % 4 = 1) := by
  have hodd : P % 2 = 1 := by
    have := primeN_no hP (Nat.le_refl 2)
    by_cases h : P % 2 = 0
    · exact absurd h (this (by omega))
    · omega
  unfold sqAt
  rw [cls_minus_lv hP h3]
  by_cases h4 : P % 4 = 1
  · obtain ⟨x, hx, e⟩ := level_one hP h3 h4
    have h1 := resN_mul hP h3 x x
    rw [e, Nat.mod_eq_of_lt hx] at h1
    have hu : ¬ P ∣ x := by
      intro hd
      have := Nat.mod_eq_zero_of_dvd (Nat.dvd_mul_right_of_dvd hd x)
      omega
    rw [decide_eq_true h4, h1]
    rcases res_unit hP h3 hu with h | h <;> rw [h] <;> rfl
  · rw [decide_eq_false h4, res_minus h3 (by omega)]
    rfl

theorem localLevel_any (q : Int) (w : World) : Calls Try.prog 16 #[.int .i64 q] w fun e w' => e = .returned (.int .i64 (levV q)) ∧ Below w.heap.size w w' := by
  cases hq : plI q with
  | false =>
    have HV : Hid (levV q = -1) := hid (by unfold levV; rw [hq]; rfl)
    have h0 : q ≠ 0 := by rintro rfl; cases hq
    have T : (q == 0) = false := by rw [beq_eq_false_iff_ne]; exact h0
    have HQ := hid hq
    clear hq h0
    go_enter Try.func16, Try.ntmps16
    go_wp2_with (go_at_call 61; refine (plValid_any _ _).mono ?_; rw [HQ.out]; rintro e w1 ⟨rfl, hb1⟩)
    go_ret
    exact ⟨retI HV.out.symm, hb1⟩
  | true =>
    rcases plI_cases hq with rfl | rfl | ⟨P, rfl, hP, h3, h5⟩
    · have HV : Hid (levV 0 = -1) := rfl
      clear hq
      go_enter Try.func16, Try.ntmps16
      go_wp2
      go_ret
      exact ⟨retI HV.out.symm, Below.refl _ _⟩
    · have HV : Hid (levV 2 = 4) := hid (by decide +kernel)
      have HQ := hid hq
      clear hq
      go_enter Try.func16, Try.ntmps16
      go_wp2_with (go_at_call 61; refine (plValid_any _ _).mono ?_; rw [HQ.out]; rintro e w1 ⟨rfl, hb1⟩)
      go_ret
      exact ⟨retI HV.out.symm, hb1⟩
    · have T0 : ((P : Int) == 0) = false := by rw [beq_eq_false_iff_ne]; omega
      have T2 : ((P : Int) == 2) = false := by rw [beq_eq_false_iff_ne]; omega
      have HV : Hid (levV (P : Int) = if P % 4 = 1 then 1 else 2) := hid (by
        unfold levV
        rw [hq, if_pos (by simp; omega), if_neg (by omega)]
        by_cases h4 : P % 4 = 1
        · rw [if_pos h4, if_pos (by omega)]
        · rw [if_neg h4, if_neg (by omega)])
      have HS := hid (sq_minus_lv hP h3)
      have HQ := hid hq
      by_cases h4 : P % 4 = 1
      · have HS2 : Hid (sqAt (-1) (P : Int) = true) := hid (by rw [HS.out, decide_eq_true h4])
        have HV2 : Hid (levV (P : Int) = 1) := hid (by rw [HV.out, if_pos h4])
        clear hq hP h4
        go_enter Try.func16, Try.ntmps16
        go_wp2_with (first | (go_at_call 61; refine (plValid_any _ _).mono ?_; rw [HQ.out]; rintro e w1 ⟨rfl, hb1⟩) | (go_at_call 62; refine (plSquare_any _ _ (by decide) (by omega) (by omega) HQ.out _).mono ?_; rw [HS2.out]; rintro e w2 ⟨rfl, hb2⟩))
        go_ret
        exact ⟨retI HV2.out.symm, hb1.trans (hb2.mono hb1.size)⟩
      · have HS2 : Hid (sqAt (-1) (P : Int) = false) := hid (by rw [HS.out, decide_eq_false h4])
        have HV2 : Hid (levV (P : Int) = 2) := hid (by rw [HV.out, if_neg h4])
        clear hq hP h4
        go_enter Try.func16, Try.ntmps16
        go_wp2_with (first | (go_at_call 61; refine (plValid_any _ _).mono ?_; rw [HQ.out]; rintro e w1 ⟨rfl, hb1⟩) | (go_at_call 62; refine (plSquare_any _ _ (by decide) (by omega) (by omega) HQ.out _).mono ?_; rw [HS2.out]; rintro e w2 ⟨rfl, hb2⟩))
        go_ret
        exact ⟨retI HV2.out.symm, hb1.trans (hb2.mono hb1.size)⟩

end Go.Proofs.Ytciajpimpjpnfaa
