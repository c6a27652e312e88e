/-
  Contracts of the program's chapter 8: sums over squares, told to a function that counts in a box; ways of two and of four squares.
-/
import Derived.Test.YtdclmjmefkgbbabQBun16
set_option linter.unusedVariables false
namespace Go.Proofs.Ytdclmjmefkgbbab
open Go.RowKit

/-- a counter in a box: all below it and beside it stands -/
structure Cnt (W0 : World) (b : Nat) (s : Int) (W : World) : Prop where
  box : Boxed W b 3 (.int .i64 s)
  low : Below b W0 W
theorem Cnt.set {W0 W : World} {b : Nat} {s : Int} (h : Cnt W0 b s W) (t : Int) : Cnt W0 b t (W.setCell ⟨b, 0, none⟩ (.int .i64 t)) :=
  ⟨h.box.set _, h.low.setCell (p := ⟨b, 0, none⟩) (Nat.le_refl _) _⟩

theorem eachK_next {g : Int → Int} {n : Int} {k : Nat} (h : ((k : Int) + 1) * ((k : Int) + 1) ≤ n) : eachK g n (k + 1) = eachK g n k + g (n - ((k : Int) + 1) * ((k : Int) + 1)) + g (n - ((k : Int) + 1) * ((k : Int) + 1)) := by rw [eachK_succ, if_pos h]; omega

set_option maxRecDepth 100000 in
set_option maxHeartbeats 2000000 in
theorem eachSquare_any (fc : Nat) (he : ∀ args W, (callFunc fc args).run Try.prog W = .ok (.enter fc args) W) (cap : Array Value) (g : Int → Int) (m : Int) (T : Int) (hT : T ≤ 10000000) (hm : 0 ≤ m ∧ m ≤ 10000) (hg : ∀ x, 0 ≤ x → x ≤ 2000 → 0 ≤ g x ∧ g x ≤ m) (W0 : World) (b : Nat)
    (hcl : ∀ (x s : Int) (w : World), 0 ≤ x → x ≤ 2000 → 0 ≤ s → s ≤ T → Cnt W0 b s w → Calls Try.prog fc (#[.int .i64 x] ++ cap) w fun e w' => (∃ v, e = .returned v) ∧ Cnt W0 b (s + g x) w')
    (n : Int) (n0 : 0 ≤ n) (n2 : n ≤ 2000) (s : Int) (s0 : 0 ≤ s) (s1 : s + 91 * m ≤ T) (w : World) (hw : Cnt W0 b s w) :
    Calls Try.prog 75 #[.int .i64 n, .func (.func fc) #[] cap] w fun e w' => (∃ v, e = .returned v) ∧ Cnt W0 b (s + eachS g n) w' := by
  have HCL := hid hcl
  have HG := hid hg
  have HW := hid hw
  have HB := hid (fun k => eachK_bd (g := g) (n := n) hm.1 (fun x a c => hg x a (by omega)) n0 k)
  obtain ⟨m0, m1⟩ := hm
  have hb0 := HG.out n n0 n2
  clear hcl hg hw
  go_enter Try.func75, Try.ntmps75
  go_wp2_with fail
  show Calls _ _ _ _ _
  refine (HCL.out n s _ n0 n2 s0 (by omega) HW.out).mono ?_
  rintro e w1 ⟨⟨v1, rfl⟩, h1⟩
  have H1 := hid h1
  clear h1
  go_wp2_with fail
  go_loopw [4] (fun sx wr => ∃ K : Nat, sx = .int .i64 K ∧ 1 ≤ K ∧ K ≤ 45 ∧ Hid (Cnt W0 b (s + eachK g n (K - 1)) wr)) (fun sx _ => 50 - (intOf sx).toNat)
  case atStart => exact ⟨1, rfl, by omega, by omega, H1⟩
  case round =>
    obtain ⟨K, rfl, hK1, hK, HC⟩ := hrel
    rename World => wr
    obtain ⟨k, rfl⟩ : ∃ k, K = k + 1 := ⟨K - 1, by omega⟩
    have hKK := mul_bd (show k + 1 ≤ 45 by omega) (show k + 1 ≤ 45 by omega)
    obtain ⟨q, hq⟩ : ∃ q : Int, q = ((k + 1 : Nat) : Int) := ⟨_, rfl⟩
    have e1 : ((k : Int) + 1) = q := by rw [hq]; push_cast; rfl
    have hqb : 1 ≤ q ∧ q ≤ 45 := by omega
    rw [← hq] at hKK ⊢
    by_cases hc : q * q ≤ n
    · have h44 := sq_small8 (c := 1) (x := q) (by omega) (by omega) (by simp only [Int.one_mul]; omega)
      have HN := hid (eachK_next (g := g) (n := n) (k := k) (by rw [e1]; exact hc))
      rw [e1] at HN
      have hb := HB.out k
      have hx := HG.out (n - q * q) (by omega) (by omega)
      have hmk : 2 * m * (k : Int) ≤ 88 * m := by
        have := Int.mul_le_mul_of_nonneg_left (show (k : Int) ≤ 44 by omega) (show 0 ≤ 2 * m by omega)
        omega
      have HC1 := hid (fun w' (h : Cnt W0 b (s + eachK g n k) w') => HCL.out (n - q * q) (s + eachK g n k) w' (by omega) (by omega) (by omega) (by omega) h)
      have HC2 := hid (fun w' (h : Cnt W0 b (s + eachK g n k + g (n - q * q)) w') => HCL.out (n - q * q) (s + eachK g n k + g (n - q * q)) w' (by omega) (by omega) (by omega) (by omega) h)
      have HQ := hid hq
      clear hb hx hmk hq e1
      go_wp2_with fail
      show Calls _ _ _ _ _
      refine (HC1.out _ HC.out).mono ?_
      rintro e w2 ⟨⟨v2, rfl⟩, h2⟩
      have H2 := hid h2
      clear h2
      go_wp2_with fail
      show Calls _ _ _ _ _
      refine (HC2.out _ H2.out).mono ?_
      rintro e w3 ⟨⟨v3, rfl⟩, h3⟩
      have H3 := hid h3
      clear h3
      go_wp2_with fail
      go_roundw
      case measure => have h9 := HQ.out; simp only [intOf]; omega
      case rel => exact ⟨k + 1 + 1, vI (by have h9 := HQ.out; push_cast at h9 ⊢; omega), by omega, by have := HQ.out; omega, hid (by show Cnt W0 b (s + eachK g n (k + 1)) _; rw [HN.out, ← Int.add_assoc, ← Int.add_assoc]; exact H3.out)⟩
    · have HE := hid (eachK_end (g := g) (n := n) (k := k) (by omega) (by rw [e1]; exact hc))
      have hq2 : 0 ≤ q * q ∧ q * q ≤ 2025 := by omega
      clear hq e1
      go_wp2_with fail
      go_end0
      exact ⟨⟨_, rfl⟩, by rw [← HE.out]; exact HC.out⟩

theorem cnt_new (w : World) : Cnt w w.heap.size 0 (w.alloc (.cells #[.int .i64 0] 3)) := ⟨Boxed.new w 3 (.int .i64 0), (Below.refl _ _).alloc (Nat.le_refl _) _⟩

set_option maxRecDepth 100000 in
theorem twoOne_any (x s : Int) (W0 w : World) (b : Nat) (s0 : 0 ≤ s) (s1 : s ≤ 10000000) (hw : Cnt W0 b s w) : Calls Try.prog 77 #[.int .i64 x, .pointer (some ⟨b, 0, none⟩)] w fun e w' => (∃ v, e = .returned v) ∧ Cnt W0 b (s + dl x) w' := by
  have hc := hw.box.cell
  have hf := hw.box.frozen
  have HW := hid hw
  clear hw
  by_cases h0 : x = 0
  · have T : (x == 0) = true := by rw [beq_iff_eq]; exact h0
    have HD : Hid (dl x = 1) := hid (by unfold dl; rw [if_pos h0])
    clear h0
    go_enter Try.func77, Try.ntmps77
    go_wp2
    go_end0
    exact ⟨⟨_, rfl⟩, by rw [HD.out]; exact HW.out.set _⟩
  · have T : (x == 0) = false := by rw [beq_eq_false_iff_ne]; exact h0
    have HD : Hid (dl x = 0) := hid (by unfold dl; rw [if_neg h0])
    clear h0
    go_enter Try.func77, Try.ntmps77
    go_wp2
    go_end0
    exact ⟨⟨_, rfl⟩, by rw [HD.out, Int.add_zero]; exact HW.out⟩

set_option maxRecDepth 100000 in
theorem twoInner_any (x s : Int) (W0 w : World) (b : Nat) (x0 : 0 ≤ x) (x2 : x ≤ 2000) (s0 : 0 ≤ s) (s1 : s ≤ 9000000) (hw : Cnt W0 b s w) : Calls Try.prog 76 #[.int .i64 x, .pointer (some ⟨b, 0, none⟩)] w fun e w' => (∃ v, e = .returned v) ∧ Cnt W0 b (s + sq2 x) w' := by
  have HE := hid (eachSquare_any 77 (fun _ _ => rfl) #[.pointer (some ⟨b, 0, none⟩)] dl 1 10000000 (by omega) (by omega) (fun x _ _ => dl_bd x) W0 b (fun y t w _ _ t0 t1 h => twoOne_any y t W0 w b t0 t1 h) x x0 x2 s s0 (by omega) w hw)
  clear hw
  go_enter Try.func76, Try.ntmps76
  go_wp2_with (go_at_call 75; refine HE.out.mono ?_; rintro e w' ⟨⟨v, rfl⟩, h⟩; have H := hid h; clear h)
  go_end0
  exact ⟨⟨_, rfl⟩, H.out⟩

set_option maxRecDepth 100000 in
theorem twoEach_any (n : Int) (w : World) : Calls Try.prog 27 #[.int .i64 n] w fun e w' => e = .returned (.int .i64 (twoEachV n)) ∧ Below w.heap.size w w' := by
  have HS := hid (fun w : World => summed_any n w)
  cases H : sumB n with
  | false =>
    rw [H] at HS
    have HF := hid (twoEach_no H)
    clear H
    go_enter Try.func27, Try.ntmps27
    go_wp2_with (go_at_call 60; refine (HS.out _).mono ?_; rintro e w' ⟨rfl, rfl⟩)
    go_ret
    exact ⟨retI HF.out.symm, Below.refl _ _⟩
  | true =>
    rw [H] at HS
    have hn : 0 ≤ n ∧ n ≤ 2000 := by
      rcases sumB_cases n with ⟨a, b, _⟩ | ⟨_, c⟩ | ⟨_, _, c⟩
      · exact ⟨a, b⟩
      · rw [H] at c; cases c
      · rw [H] at c; cases c
    have HF := hid (twoEach_yes H)
    have HE := hid (eachSquare_any 76 (fun _ _ => rfl) #[.pointer (some ⟨w.heap.size, 0, none⟩)] sq2 91 9000000 (by omega) (by omega) (fun x a _ => sq2_bd a) w w.heap.size (fun y t w' a c t0 t1 h => twoInner_any y t w w' w.heap.size a c t0 t1 h) n hn.1 hn.2 0 (by omega) (by omega) _ (cnt_new w))
    clear H hn
    go_enter Try.func27, Try.ntmps27
    go_wp2_with (first | (go_at_call 75; refine HE.out.mono ?_; rintro e w' ⟨⟨v, rfl⟩, h⟩; have H9 := hid h; have hc := h.box.cell; clear h) | (go_at_call 60; refine (HS.out _).mono ?_; rintro e w' ⟨rfl, rfl⟩))
    go_ret
    exact ⟨retI (by rw [HF.out]; rfl), H9.out.low⟩

set_option maxRecDepth 100000 in
set_option maxHeartbeats 2000000 in
theorem fourEach_any (n : Int) (w : World) : Calls Try.prog 39 #[.int .i64 n] w fun e w' => e = .returned (.int .i64 (fourEachV n)) ∧ Below w.heap.size w w' := by
  rcases inR_cases n 0 300 with ⟨n0, n3, H⟩ | ⟨n0, H⟩ | ⟨n0, n3, H⟩
  · obtain ⟨N, rfl⟩ := Int.eq_ofNat_of_zero_le n0
    have HF := hid (fourE_yes H)
    have hN2 : N ≤ 300 := by omega
    clear H
    go_enter Try.func39, Try.ntmps39
    go_wp2_with fail
    go_loopw [3, 13] (fun sc sk wr => ∃ (c : Int) (K : Nat), sc = .int .i64 c ∧ sk = .int .i64 K ∧ K ≤ N + 1 ∧ Hid (c = fourK N K) ∧ Hid (Below w.heap.size w wr)) (fun _ sk _ => 400 - (intOf sk).toNat)
    case atStart => exact ⟨0, 0, rfl, rfl, by omega, hid rfl, hid (Below.refl _ _)⟩
    case round =>
      obtain ⟨c, K, rfl, rfl, hK, HC, HB⟩ := hrel
      rename World => wr
      have hb := fourK_bd (n := (N : Int)) (by omega) K (by omega)
      rw [← HC.out] at hb
      by_cases hle : K ≤ N
      · have hlei : (K : Int) < (N : Int) + 1 := by omega
        have t1 := twoW_bd (n := (K : Int)) (by omega)
        have t2 := twoW_bd (n := (N : Int) - (K : Int)) (by omega)
        have HA := hid (fun w : World => twoEach_any (K : Int) w)
        have HBB := hid (fun w : World => twoEach_any ((N : Int) - (K : Int)) w)
        rw [twoEach_yes (show sumB (K : Int) = true by unfold sumB inR; simp; omega)] at HA
        rw [twoEach_yes (show sumB ((N : Int) - (K : Int)) = true by unfold sumB inR; simp; omega)] at HBB
        have HK : Hid (fourK N (K + 1) = fourK N K + twoW (K : Int) * twoW ((N : Int) - (K : Int))) := hid rfl
        generalize twoW (K : Int) = a at *
        generalize twoW ((N : Int) - (K : Int)) = b at *
        have t3 : 0 ≤ a * b := Int.mul_nonneg t1.1 t2.1
        have t4 : a * b ≤ 68574961 := Int.le_trans (Int.mul_le_mul t1.2 t2.2 t2.1 (by omega)) (by decide)
        go_wp2_with fail
        refine (HA.out _).mono ?_
        rintro e w2 ⟨rfl, hb2⟩
        have HB2 := hid (HB.out.trans (hb2.mono HB.out.size))
        clear hb2
        go_wp2_with fail
        refine (HBB.out _).mono ?_
        rintro e w3 ⟨rfl, hb3⟩
        have HB3 := hid (HB2.out.trans (hb3.mono HB2.out.size))
        clear hb3
        go_wp2_with fail
        go_roundw
        case measure => simp only [intOf]; omega
        case rel => exact ⟨c + a * b, K + 1, rfl, by go_num, by omega, hid (by rw [HK.out, HC.out]), HB3⟩
      · obtain rfl : K = N + 1 := by omega
        go_wp2
        go_ret
        exact ⟨retI (by rw [HF.out]; exact HC.out), HB.out⟩
  all_goals
    have HF := hid (fourE_no H)
    clear H
    go_enter Try.func39, Try.ntmps39
    go_wp2
    go_ret
    exact ⟨retI HF.out.symm, Below.refl _ _⟩

end Go.Proofs.Ytdclmjmefkgbbab
