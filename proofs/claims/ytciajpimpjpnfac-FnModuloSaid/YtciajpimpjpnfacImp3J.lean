/-
  Contracts of the program's chapter 3: equations up to powers of a prime.
-/
import Derived.Test.YtciajpimpjpnfacImp3I
set_option linter.unusedVariables false
namespace Go.Proofs.Ytciajpimpjpnfac
open Go.RowKit Go.Shelf
attribute [local go_sem] Oper.semAt_some

def pw32 (P : Nat) (k : Int) : Bool := decide (1 ≤ k) && decide (P ^ k.toNat ≤ 32)
theorem pow6 {P i : Nat} (hP : 2 ≤ P) (h : P ^ i ≤ 32) : i ≤ 6 := by
  rcases Nat.lt_or_ge 6 i with hi | hi
  · have h1 : 2 ^ 7 ≤ P ^ 7 := Nat.pow_le_pow_left hP 7
    have h2 : P ^ 7 ≤ P ^ i := Nat.pow_le_pow_right (by omega) hi
    omega
  · exact hi
theorem powerWithin32_any (P : Nat) (k : Int) (hP : 2 ≤ P) (hP5 : P ≤ 5000) (w : World) :
    Calls Try.prog 55 #[.int .i64 P, .int .i64 k, .int .i64 32] w fun e w' => (∃ x : Int, e = .returned (.tuple #[.int .i64 x, .bool (pw32 P k)]) ∧ (pw32 P k = true → x = ((P ^ k.toNat : Nat) : Int))) ∧ w = w' := by
  by_cases hk : 1 ≤ k
  · obtain ⟨K, rfl⟩ := Int.eq_ofNat_of_zero_le (show 0 ≤ k by omega)
    have HO : Hid (pw32 P (K : Int) = decide (P ^ K ≤ 32)) := hid (by unfold pw32; rw [decide_eq_true hk, Int.toNat_natCast, Bool.true_and])
    go_enter Try.func55, Try.ntmps55
    go_wp2_with fail
    go_loop [8, 10] (fun sp si => ∃ i A : Nat, si = .int .i64 i ∧ sp = .int .i64 A ∧ A ≤ 32 ∧ i ≤ 6 ∧ i ≤ K ∧ Hid (A = P ^ i)) (fun _ si => 7 - (intOf si).toNat)
    case atStart => exact ⟨0, 1, rfl, rfl, by omega, by omega, by omega, hid rfl⟩
    case round =>
      obtain ⟨i, A, rfl, rfl, hA, hi12, hiK, HA⟩ := hrel
      by_cases hlt : i < K
      · have hi0 : (i : Int) < (K : Int) := by omega
        have hAP := Nat.mul_le_mul hA hP5
        have eAP : (A : Int) * (P : Int) = ((A * P : Nat) : Int) := by push_cast; rfl
        have ap1 : 0 ≤ (A : Int) * (P : Int) := by rw [eAP]; omega
        have ap2 : (A : Int) * (P : Int) ≤ 25000000 := by rw [eAP]; omega
        have HS : Hid (A * P = P ^ (i + 1)) := hid (by rw [HA.out, Nat.pow_succ])
        have HE := hid eAP
        by_cases hle : A * P ≤ 32
        · have h12 := pow6 (i := i + 1) hP (by rw [← HS.out]; exact hle)
          have hng : ¬ (32 : Int) < (A : Int) * (P : Int) := by rw [eAP]; omega
          clear eAP
          go_wp2_with fail
          go_round
          case measure => simp only [intOf]; omega
          case rel => exact ⟨i + 1, A * P, by go_num, vI HE.out, hle, by omega, by omega, HS⟩
        · have hg : (32 : Int) < (A : Int) * (P : Int) := by rw [eAP]; omega
          have HN : Hid (pw32 P (K : Int) = false) := hid (by
            rw [HO.out]
            refine decide_eq_false fun h => hle ?_
            rw [HS.out]
            exact Nat.le_trans (Nat.pow_le_pow_right (by omega) hlt) h)
          clear eAP
          go_wp2_with fail
          go_ret2
          rw [HN.out]
          exact ⟨⟨0, rfl, fun h => by cases h⟩, rfl⟩
      · obtain rfl : i = K := by omega
        have HY : Hid (pw32 P (i : Int) = true) := hid (by rw [HO.out, ← HA.out]; exact decide_eq_true hA)
        clear hlt
        go_wp2_with fail
        go_ret2
        rw [HY.out]
        exact ⟨⟨A, rfl, fun _ => by rw [HA.out]; simp⟩, rfl⟩
  · have HN : Hid (pw32 P k = false) := hid (by unfold pw32; rw [decide_eq_false hk, Bool.false_and])
    have hk0 : ¬ (0 : Int) < k := by omega
    go_enter Try.func55, Try.ntmps55
    go_wp2_with fail
    go_loop [8, 10] (fun sp si => sp = .int .i64 1 ∧ si = .int .i64 0) (fun _ _ => 0)
    case atStart => exact ⟨rfl, rfl⟩
    case round =>
      obtain ⟨rfl, rfl⟩ := hrel
      go_wp2_with fail
      go_ret2
      rw [HN.out]
      refine ⟨⟨1, ?_, fun h => by cases h⟩, rfl⟩
      show Ending.returned (.tuple #[.int .i64 1, .bool (decide (1 ≤ k))]) = _
      rw [decide_eq_false (show ¬ 1 ≤ k by omega)]

theorem pw32_ok {a b : Int} {P : Nat} {k : Int} (O : okAB a b = true) (hP : primeN P = true) : smodV a b (P : Int) k = (pw32 P k && anyHit a b P (P ^ k.toNat)) := by
  have hp := primeN_bd hP
  have hm : modOk a b (P : Int) k = (decide (P ≤ 31) && inR k 1 5) := by
    unfold modOk
    rw [O, show primeI (P : Int) = true from hP, Bool.true_and, Bool.true_and]
    congr 1
    rw [Bool.eq_iff_iff, decide_eq_true_eq, decide_eq_true_eq]
    omega
  unfold smodV
  rw [hm, Int.toNat_natCast]
  cases h : pw32 P k with
  | true =>
    unfold pw32 at h
    rw [Bool.and_eq_true, decide_eq_true_eq, decide_eq_true_eq] at h
    obtain ⟨h1, h2⟩ := h
    have h3 : P ^ 1 ≤ P ^ k.toNat := Nat.pow_le_pow_right (by omega) (by omega)
    rw [Nat.pow_one] at h3
    have h4 : P ≠ 32 := by rintro rfl; revert hP; decide
    have h5 : k ≤ 5 := by
      refine Classical.byContradiction fun hc => ?_
      have g1 : 2 ^ 6 ≤ P ^ 6 := Nat.pow_le_pow_left hp.1 6
      have g2 : P ^ 6 ≤ P ^ k.toNat := Nat.pow_le_pow_right (by omega) (by omega)
      omega
    rw [decide_eq_true (show P ≤ 31 by omega), show inR k 1 5 = true from by unfold inR; rw [decide_eq_true h1, decide_eq_true h5]; rfl, decide_eq_true h2]
    rfl
  | false =>
    rw [Bool.false_and]
    unfold pw32 at h
    by_cases h1 : 1 ≤ k
    · rw [decide_eq_true h1, Bool.true_and] at h
      rw [h, Bool.false_and, Bool.and_false]
    · have : inR k 1 5 = false := by unfold inR; rw [decide_eq_false h1, Bool.false_and]
      rw [this, Bool.and_false, Bool.false_and]
theorem trip_hit {a b : Int} {P m : Nat} : (∃ x, x ∈ tripL a b P m) → anyHit a b P m = true := by
  rintro ⟨x, hx⟩
  have hz : ∀ X Y n, x ∈ tzL a b P m X Y n → X < m → Y < m → n ≤ m → anyHit a b P m = true := by
    intro X Y n
    induction n with
    | zero => intro h; cases h
    | succ n ih =>
      intro h hX hY hn
      unfold tzL at h
      rcases List.mem_append.1 h with h | h
      · exact ih h hX hY (by omega)
      · by_cases hh : hitB a b P m X Y n = true
        · exact anyHit_yes hX hY (by omega) hh
        · rw [if_neg hh] at h; cases h
  have hy : ∀ X n, x ∈ tyL a b P m X n → X < m → n ≤ m → anyHit a b P m = true := by
    intro X n
    induction n with
    | zero => intro h; cases h
    | succ n ih =>
      intro h hX hn
      unfold tyL at h
      rcases List.mem_append.1 h with h | h
      · exact ih h hX (by omega)
      · exact hz X n m h hX (by omega) (Nat.le_refl _)
  have hx2 : ∀ n, x ∈ txL a b P m n → n ≤ m → anyHit a b P m = true := by
    intro n
    induction n with
    | zero => intro h; cases h
    | succ n ih =>
      intro h hn
      unfold txL at h
      rcases List.mem_append.1 h with h | h
      · exact ih h (by omega)
      · exact hy n m h (by omega) (Nat.le_refl _)
  exact hx2 m hx (Nat.le_refl _)
theorem trip_none {a b : Int} {P m : Nat} (h : tripL a b P m = []) : anyHit a b P m = false := by
  cases hh : anyHit a b P m with
  | false => rfl
  | true =>
    obtain ⟨x, hx, h1⟩ := List.any_eq_true.1 hh
    obtain ⟨y, hy, h2⟩ := List.any_eq_true.1 h1
    obtain ⟨z, hz, h3⟩ := List.any_eq_true.1 h2
    have := (trip_pre (List.mem_range.1 hx) (List.mem_range.1 hy) (List.mem_range.1 hz) h3).length_le
    rw [h, List.length_append] at this
    simp at this
theorem kpC_b {B : Nat} {w : World} (hn : B + 4 ≤ w.heap.size) (W : World) (l : Nat) (o o' : Obj) (hl : w.heap.size ≤ l) (h : W.heap[l]? = some o) (h1 : o.isCells = false) (h2 : o.isWalk = false) : KpC B W (W.putObj l o') :=
  fun k _ hk => (belowK_b (n₀ := B + 4) hn W l o o' hl h h1 h2).block k hk
theorem boxed_low {W W' : World} {B : Nat} {t : TypeId} {v : Value} (h : Boxed W B t v) (hb : Below W.heap.size W W') : Boxed W' B t v := (hb.block B h.lt).trans h
theorem boxed_putObj {W : World} {B D : Nat} {t : TypeId} {v : Value} {o : Obj} (h : Boxed W B t v) (hD : D ≠ B) : Boxed (W.putObj D o) B t v := by
  unfold Boxed at *
  rw [← h]
  simp [World.putObj, hD]
theorem capt_new (a b : Int) (P m : Nat) (w : World) : Capt w.heap.size a b P m ((((w.alloc (.cells #[.int .i64 a] 3)).alloc (.cells #[.int .i64 b] 3)).alloc (.cells #[.int .i64 P] 3)).alloc (.cells #[.int .i64 m] 3)) := by
  have c1 := (((Boxed.new w 3 (.int .i64 a)).alloc (.cells #[.int .i64 b] 3)).alloc (.cells #[.int .i64 P] 3)).alloc (.cells #[.int .i64 m] 3)
  have c2 := ((Boxed.new (w.alloc (.cells #[.int .i64 a] 3)) 3 (.int .i64 b)).alloc (.cells #[.int .i64 P] 3)).alloc (.cells #[.int .i64 m] 3)
  have c3 := (Boxed.new ((w.alloc (.cells #[.int .i64 a] 3)).alloc (.cells #[.int .i64 b] 3)) 3 (.int .i64 P)).alloc (.cells #[.int .i64 m] 3)
  have c4 := Boxed.new (((w.alloc (.cells #[.int .i64 a] 3)).alloc (.cells #[.int .i64 b] 3)).alloc (.cells #[.int .i64 P] 3)) 3 (.int .i64 m)
  simp only [World.size_alloc] at c2 c3 c4
  exact ⟨c1, c2, c3, c4⟩
theorem below_four {n : Nat} {w0 w : World} (h : Below n w0 w) (hn : n ≤ w.heap.size) (o1 o2 o3 o4 : Obj) : Below n w0 ((((w.alloc o1).alloc o2).alloc o3).alloc o4) :=
  (((h.alloc hn _).alloc (by simp; omega) _).alloc (by simp; omega) _).alloc (by simp; omega) _
theorem boxed_four {w : World} {B : Nat} {t : TypeId} {v : Value} (h : Boxed w B t v) (o1 o2 o3 o4 : Obj) : Boxed ((((w.alloc o1).alloc o2).alloc o3).alloc o4) B t v := (((h.alloc o1).alloc o2).alloc o3).alloc o4

set_option maxRecDepth 100000 in
set_option maxHeartbeats 2000000 in
theorem symbolModulo_main (a b : Int) (P m : Nat) (k : Int) (hA : factB a = true) (hBB : factB b = true) (hP : primeN P = true) (hW : pw32 P k = true) (hm : m = P ^ k.toNat) (w : World) :
    Calls Try.prog 27 #[.int .i64 a, .int .i64 b, .int .i64 P, .int .i64 k] w fun e w' => e = .returned (.bool (anyHit a b P m)) ∧ Below w.heap.size w w' := by
  obtain ⟨a0, a1, a2⟩ := factB_bd hA
  obtain ⟨b0, b1, b2⟩ := factB_bd hBB
  have hp2 := (primeN_bd hP).1
  have hp5 := (primeN_bd hP).2.1
  have hm32 : m ≤ 32 := by
    unfold pw32 at hW
    rw [Bool.and_eq_true, decide_eq_true_eq, decide_eq_true_eq] at hW
    rw [hm]; exact hW.2
  have hm1 : 1 ≤ m := by rw [hm]; exact Nat.pow_pos (by omega)
  have HA := hid hA
  have HBB := hid hBB
  have HPR : Hid (primeI (P : Int) = true) := hid hP
  have HPW := hid hW
  have HM := hid hm
  have bR := Boxed.new w 4 (.bool false)
  have cR := bR.cell
  have HB1 := hid ((Below.refl w.heap.size w).alloc (Nat.le_refl _) (.cells #[.bool false] 4))
  clear a0 b0 hA hBB hP hW hm
  refine (callsIn_wide (n := 5)).1 ?_
  refine callsIn_of_wp_marks Try.func27 rfl trivial ?_ rfl
  simp only [Try.ntmps27, List.size_toArray, List.length_cons, List.length_nil, Nat.reduceAdd, Nat.reduceSub, Array.replicate_succ, Array.replicate_zero, List.push_toArray, List.append_toArray, List.nil_append, List.cons_append]
  gi_wp2_with (first | (refine ⟨trivial, ?_⟩; gi_at_call 44; refine (callsIn_wide.2 (factored_any _ _)).mono ?_; (first | rw [HA.out] | rw [HBB.out]); rintro e w' ⟨rfl, rfl⟩) | (refine ⟨trivial, ?_⟩; gi_at_call 54; refine (callsIn_wide.2 (prime_any _ _)).mono ?_; rw [HPR.out]; rintro e w2 ⟨rfl, hb2⟩))
  refine ⟨trivial, ?_⟩
  gi_at_call 55
  refine (callsIn_wide.2 (powerWithin32_any P k hp2 hp5 _)).mono ?_
  rw [HPW.out]
  rintro e w' ⟨⟨xw, rfl, hxw⟩, rfl⟩
  have hxm : xw = (m : Int) := by rw [hxw rfl, HM.out]
  subst hxm
  clear hxw
  gi_wp2_with fail
  refine ⟨trivial, ?_⟩
  gi_at_call 56
  refine (callsIn_wide.2 (solved_make a b P m _)).mono ?_
  rintro e w' ⟨rfl, rfl⟩
  have hs2 := hb2.size
  rw [World.size_alloc] at hs2
  have HB2 := hid (HB1.out.trans (hb2.mono (by simp)))
  have bR2 := boxed_four (boxed_low bR hb2) (.cells #[.int .i64 a] 3) (.cells #[.int .i64 b] 3) (.cells #[.int .i64 P] 3) (.cells #[.int .i64 m] 3)
  have HC := capt_new a b P m w2
  have HB4 := below_four HB2.out (by omega) (.cells #[.int .i64 a] 3) (.cells #[.int .i64 b] 3) (.cells #[.int .i64 P] 3) (.cells #[.int .i64 m] 3)
  clear hb2 bR cR
  gi_wp2_with fail
  refine wpIn_rangeFunc_ownF rfl (by omega) (gf := 73) (lb := #[.pointer (some ⟨w2.heap.size + 3, 0, none⟩), .pointer (some ⟨w2.heap.size, 0, none⟩), .pointer (some ⟨w2.heap.size + 1, 0, none⟩), .pointer (some ⟨w2.heap.size + 2, 0, none⟩)]) rfl trivial (enters_of Try.func73 (by kernel_rfl) rfl)
    (trip_stops _ w2.heap.size a b P m a1 a2 b1 b2 hp2 hp5 hm1 hm32 _ (by simp) HC) KpC.trans (kpC_b (by simp)) (Below.refl _ _) (fun _ => rfl)
    (fun pre W => (pre = [] ∧ Boxed W w.heap.size 4 (.bool false)) ∧ Below w.heap.size w W)
    (fun c pre W => (c = .ret ∧ ∃ x : T3, pre = [x] ∧ Boxed W w.heap.size 4 (.bool true)) ∧ Below w.heap.size w W)
    (OwnFrom.and (OwnFrom.and (ownFrom_pure _ _) (Own.from (boxed_own _ _ (fun _ => .bool false)) _)) (ownFrom_below (Nat.le_refl _) (by simp; omega)))
    (fun c => OwnFrom.and (fun s A B row hs hg hr => by obtain ⟨hc, x, hx, hb⟩ := hs; exact ⟨hc, x, hx, (Own.from (boxed_own _ _ (fun _ : Unit => Value.bool true)) _) () A B row hb hg hr⟩) (ownFrom_below (Nat.le_refl _) (by simp; omega)))
    ⟨⟨rfl, bR2⟩, HB4⟩ ?a1 ?assign ?body ?done ?stop
  case assign =>
    intro l x W K hK
    gi_wp2
    exact hK
  case body =>
    rintro l pre x W ⟨⟨rfl, hb⟩, hB⟩ _
    have hc := hb.cell
    have hf := hb.frozen
    gi_wp2
    exact ⟨KeepsOthers.setCell _ _ _, ⟨rfl, x, rfl, hb.set _⟩, hB.setCell (p := ⟨w.heap.size, 0, none⟩) (Nat.le_refl _) _⟩
  case done =>
    rintro D ys W hD hS ⟨⟨h, hb⟩, hB⟩ hK
    have hc := hb.cell
    have hf := hb.frozen
    have hn := hid (trip_none (a := a) (b := b) (P := P) (m := m) (by rw [h] at hS; exact hS.symm))
    have hset := hb.set (.bool false)
    have hB2 := hB.setCell (p := ⟨w.heap.size, 0, none⟩) (Nat.le_refl _) (.bool false)
    gi_wp2
    have hD2 : D ≠ w.heap.size := by simp at hD; omega
    have hK2 := (KeepsOthers.setCell W ⟨w.heap.size, 0, none⟩ (.bool false)).same D _ hK rfl
    refine ⟨by simp, .inl ⟨_, _, rfl, run_takeDeferred hK2, ?_⟩⟩
    have hfc : ∀ o, ((W.setCell ⟨w.heap.size, 0, none⟩ (.bool false)).putObj D o).cell? ⟨w.heap.size, 0, none⟩ = some (.bool false) := fun o => (boxed_putObj hset hD2).cell
    refine ⟨.bool false, by simp [results, Try.results27, go_sem, hfc] <;> go_simp, ?_⟩
    exact ⟨retB hn.out.symm, hB2.trans (belowK_b (w := w) (Nat.le_refl _) _ D _ _ (by simp at hD; omega) hK2 rfl rfl)⟩
  case stop =>
    rintro D c pre W hD hSp ⟨⟨rfl, x, rfl, hb⟩, hB⟩ hK
    have hc := hb.cell
    have hn : Hid (anyHit a b P m = true) := hid (trip_hit ⟨x.1, by have := hSp.subset (List.mem_cons_self ..); exact this⟩)
    gi_wp2
    have hD2 : D ≠ w.heap.size := by simp at hD; omega
    refine ⟨by simp, .inl ⟨_, _, rfl, run_takeDeferred hK, ?_⟩⟩
    have hfc : ∀ o, (W.putObj D o).cell? ⟨w.heap.size, 0, none⟩ = some (.bool true) := fun o => (boxed_putObj hb hD2).cell
    refine ⟨.bool true, by simp [results, Try.results27, go_sem, hfc] <;> go_simp, ?_⟩
    exact ⟨retB hn.out.symm, hB.trans (belowK_b (w := w) (Nat.le_refl _) W D _ _ (by simp at hD; omega) hK rfl rfl)⟩

set_option maxRecDepth 100000 in
set_option maxHeartbeats 1000000 in
theorem symbolModulo_any (a b p k : Int) (w : World) :
    Calls Try.prog 27 #[.int .i64 a, .int .i64 b, .int .i64 p, .int .i64 k] w fun e w' => e = .returned (.bool (smodV a b p k)) ∧ Below w.heap.size w w' := by
  have bR := Boxed.new w 4 (.bool false)
  have cR := bR.cell
  have fR := bR.frozen
  have HB1 := hid ((Below.refl w.heap.size w).alloc (Nat.le_refl _) (.cells #[.bool false] 4))
  cases hA : factB a with
  | false =>
    have HP := hid (smodV_no (p := p) (k := k) (show modOk a b p k = false by unfold modOk okAB; rw [hA]; rfl))
    have HA := hid hA
    clear hA
    go_enter Try.func27, Try.ntmps27
    go_wp2_with (go_at_call 44; refine (factored_any _ _).mono ?_; rw [HA.out]; rintro e w' ⟨rfl, rfl⟩)
    have cS := (bR.set (.bool false)).cell
    refine bodyPost_ret (v := .bool false) (by simp [results, Try.results27, go_sem] <;> go_simp) rfl ?_
    exact ⟨retB HP.out.symm, by first | exact HB1.out | exact HB1.out.setCell (p := ⟨w.heap.size, 0, none⟩) (Nat.le_refl _) _⟩
  | true =>
    cases hBB : factB b with
    | false =>
      have HP := hid (smodV_no (p := p) (k := k) (show modOk a b p k = false by unfold modOk okAB; rw [hA, hBB]; rfl))
      have HA := hid hA
      have HBB := hid hBB
      clear hA hBB
      go_enter Try.func27, Try.ntmps27
      go_wp2_with (go_at_call 44; refine (factored_any _ _).mono ?_; (first | rw [HA.out] | rw [HBB.out]); rintro e w' ⟨rfl, rfl⟩)
      have cS := (bR.set (.bool false)).cell
      refine bodyPost_ret (v := .bool false) (by simp [results, Try.results27, go_sem] <;> go_simp) rfl ?_
      exact ⟨retB HP.out.symm, by first | exact HB1.out | exact HB1.out.setCell (p := ⟨w.heap.size, 0, none⟩) (Nat.le_refl _) _⟩
    | true =>
      have O : okAB a b = true := by unfold okAB; rw [hA, hBB]; rfl
      cases hPR : primeI p with
      | false =>
        have HP := hid (smodV_no (p := p) (k := k) (show modOk a b p k = false by unfold modOk; rw [hPR, Bool.false_and, Bool.and_false]))
        have HA := hid hA
        have HBB := hid hBB
        have HPR := hid hPR
        clear hA hBB hPR O
        go_enter Try.func27, Try.ntmps27
        go_wp2_with (first | (go_at_call 44; refine (factored_any _ _).mono ?_; (first | rw [HA.out] | rw [HBB.out]); rintro e w' ⟨rfl, rfl⟩) | (go_at_call 54; refine (prime_any _ _).mono ?_; rw [HPR.out]; rintro e w2 ⟨rfl, hb2⟩; have bR2 := boxed_low bR hb2; have cR2 := bR2.cell; have fR2 := bR2.frozen))
        have cS := (bR2.set (.bool false)).cell
        refine bodyPost_ret (v := .bool false) (by simp [results, Try.results27, go_sem] <;> go_simp) rfl ?_
        exact ⟨retB HP.out.symm, by first | exact (HB1.out.trans (hb2.mono (by simp))) | exact (HB1.out.trans (hb2.mono (by simp))).setCell (p := ⟨w.heap.size, 0, none⟩) (Nat.le_refl _) _⟩
      | true =>
        have hp2 := (primeI_bd hPR).1
        obtain ⟨P, rfl⟩ := Int.eq_ofNat_of_zero_le (show 0 ≤ p by omega)
        have hP : primeN P = true := hPR
        have hpp2 := (primeN_bd hP).1
        have hpp5 := (primeN_bd hP).2.1
        cases hW : pw32 P k with
        | true =>
          refine (symbolModulo_main a b P _ k hA hBB hP hW rfl w).mono ?_
          rintro e w' ⟨rfl, hb⟩
          exact ⟨retB (by rw [pw32_ok O hP, hW, Bool.true_and]), hb⟩
        | false =>
          have HP : Hid (smodV a b (P : Int) k = false) := hid (by rw [pw32_ok O hP, hW, Bool.false_and])
          have HA := hid hA
          have HBB := hid hBB
          have HPR := hid hPR
          have HW := hid hW
          clear hA hBB hPR O hP hW
          go_enter Try.func27, Try.ntmps27
          go_wp2_with (first | (go_at_call 44; refine (factored_any _ _).mono ?_; (first | rw [HA.out] | rw [HBB.out]); rintro e w' ⟨rfl, rfl⟩) | (go_at_call 54; refine (prime_any _ _).mono ?_; rw [HPR.out]; rintro e w2 ⟨rfl, hb2⟩; have bR2 := boxed_low bR hb2; have cR2 := bR2.cell; have fR2 := bR2.frozen) | (go_at_call 55; refine (powerWithin32_any P k hpp2 hpp5 _).mono ?_; rw [HW.out]; rintro e w' ⟨⟨xw, rfl, hxw⟩, rfl⟩))
          have cS := (bR2.set (.bool false)).cell
          refine bodyPost_ret (v := .bool false) (by simp [results, Try.results27, go_sem] <;> go_simp) rfl ?_
          exact ⟨retB HP.out.symm, by first | exact (HB1.out.trans (hb2.mono (by simp))) | exact (HB1.out.trans (hb2.mono (by simp))).setCell (p := ⟨w.heap.size, 0, none⟩) (Nat.le_refl _) _⟩

end Go.Proofs.Ytciajpimpjpnfac
