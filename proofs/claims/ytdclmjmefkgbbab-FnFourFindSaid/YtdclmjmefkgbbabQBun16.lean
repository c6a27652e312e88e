/-
  Some texts in one file: SuC SuF.
-/
import Derived.Test.YtdclmjmefkgbbabQBun15
import Derived.RangeFuncBox
import Derived.Test.YtdclmjmefkgbbabQBun14
/-! SuC -/
set_option linter.unusedVariables false
namespace Go.Proofs.Ytdclmjmefkgbbab
open Go.RowKit

set_option maxRecDepth 100000 in
theorem summed_any (n : Int) (w : World) : Calls Try.prog 60 #[.int .i64 n] w fun e w' => e = .returned (.bool (sumB n)) ∧ w = w' := by
  rcases sumB_cases n with ⟨h1, h2, H⟩ | ⟨h1, H⟩ | ⟨h1, h2, H⟩
  all_goals
    have HH := hid H
    clear H
    go_enter Try.func60, Try.ntmps60
    go_wp2
    go_ret
    exact ⟨retB (by first | (rw [HH.out]; done) | (rw [HH.out]; simp; omega)), rfl⟩

theorem sum1_of {n : Int} (h : sumB n = true) (h0 : n ≠ 0) : sum1 n = true := by
  rcases sumB_cases n with ⟨a, b, _⟩ | ⟨_, c⟩ | ⟨_, _, c⟩
  · rcases sum1_cases n with ⟨_, _, d⟩ | ⟨d, _⟩ | ⟨_, d, _⟩
    · exact d
    · omega
    · omega
  · rw [h] at c; cases c
  · rw [h] at c; cases c
theorem sum1_out {n : Int} (h : sumB n = false) : sum1 n = false := by
  rcases sum1_cases n with ⟨a, b, d⟩ | ⟨_, d⟩ | ⟨_, _, d⟩
  · rcases sumB_cases n with ⟨_, _, c⟩ | ⟨c, _⟩ | ⟨_, c, _⟩
    · rw [h] at c; cases c
    · omega
    · omega
  · exact d
  · exact d
theorem sum1_zero : sum1 0 = false := by decide

set_option maxRecDepth 100000 in
set_option maxHeartbeats 2000000 in
theorem overDivisors_any (fc : Nat) (he : ∀ args W, (callFunc fc args).run Try.prog W = .ok (.enter fc args) W) (g : Nat → Int) (N : Nat) (h1 : 1 ≤ N) (h2 : N ≤ 2000) (hg : ∀ d, d ≤ 2000 → -2000 ≤ g d ∧ g d ≤ 2000)
    (hcl : ∀ (D : Nat) (w : World), 1 ≤ D → D ≤ 2000 → Calls Try.prog fc #[.int .i64 (D : Int)] w fun e w' => e = .returned (.int .i64 (g D)) ∧ w = w') (w : World) :
    Calls Try.prog 68 #[.int .i64 (N : Int), .func (.func fc) #[] #[]] w fun e w' => e = .returned (.int .i64 (divS g N N)) ∧ w = w' := by
  have HCL := hid hcl
  have HG := hid hg
  clear hcl hg
  go_enter Try.func68, Try.ntmps68
  go_wp2
  go_loop [5, 6] (fun sc sd => ∃ (c : Int) (D : Nat), sc = .int .i64 c ∧ sd = .int .i64 D ∧ 1 ≤ D ∧ D ≤ N + 1 ∧ Hid (c = divS g N (D - 1))) (fun _ sd => 2001 - (intOf sd).toNat)
  case atStart => exact ⟨0, 1, rfl, rfl, by omega, by omega, hid rfl⟩
  case round =>
    obtain ⟨c, D, rfl, rfl, hD1, hDN, HC⟩ := hrel
    have hb := divS_bd (g := g) (n := N) (m := 2000) (by omega) (D - 1) (fun d hd => HG.out d (by omega))
    rw [← HC.out] at hb
    by_cases hle : D ≤ N
    · have hlei : (D : Int) ≤ (N : Int) := by omega
      by_cases hd : N % D = 0
      · have T := div_yes hd
        have HV := hid (divS_yes (g := g) hD1 hd)
        have hgb := HG.out D (by omega)
        have HT := hid (fun w => HCL.out D w hD1 (by omega))
        generalize g D = x at *
        clear hd
        go_wp2_with fail
        show Calls _ _ _ _ _
        refine (HT.out _).mono ?_
        rintro e w' ⟨rfl, rfl⟩
        go_wp2
        go_round
        case measure => simp only [intOf]; omega
        case rel => exact ⟨c + x, D + 1, rfl, by go_num, by omega, by omega, hid (by show _ = divS g N D; rw [HV.out, HC.out])⟩
      · have T := div_no hd
        have HV := hid (divS_no (g := g) hD1 hd)
        clear hd
        go_wp2
        go_round
        case measure => simp only [intOf]; omega
        case rel => exact ⟨c, D + 1, rfl, by go_num, by omega, by omega, hid (by show _ = divS g N D; rw [HV.out, HC.out])⟩
    · obtain rfl : D = N + 1 := by omega
      go_wp2
      go_ret
      exact ⟨retI HC.out, rfl⟩

set_option maxRecDepth 100000 in
theorem twoTold_any (D : Nat) (h1 : 1 ≤ D) (h2 : D ≤ 2000) (w : World) : Calls Try.prog 69 #[.int .i64 (D : Int)] w fun e w' => e = .returned (.int .i64 (g2 D)) ∧ w = w' := by
  by_cases d1 : D % 4 = 1
  · have T1 := mod4_is d1
    have HG := hid (g2_one d1)
    clear d1
    go_enter Try.func69, Try.ntmps69
    go_wp2
    go_ret
    exact ⟨retI HG.out.symm, rfl⟩
  · by_cases d3 : D % 4 = 3
    · have T1 := mod4_not (D := D) (k := 1) d1
      have T3 := mod4_is d3
      have HG := hid (g2_three d3)
      clear d1 d3
      go_enter Try.func69, Try.ntmps69
      go_wp2
      go_ret
      exact ⟨retI HG.out.symm, rfl⟩
    · have T1 := mod4_not (D := D) (k := 1) d1
      have T3 := mod4_not (D := D) (k := 3) d3
      have HG := hid (g2_else d1 d3)
      clear d1 d3
      go_enter Try.func69, Try.ntmps69
      go_wp2
      go_ret
      exact ⟨retI HG.out.symm, rfl⟩

set_option maxRecDepth 100000 in
theorem fourTold_any (D : Nat) (h1 : 1 ≤ D) (h2 : D ≤ 2000) (w : World) : Calls Try.prog 79 #[.int .i64 (D : Int)] w fun e w' => e = .returned (.int .i64 (g4 D)) ∧ w = w' := by
  by_cases d1 : D % 4 = 0
  · have T1 := mod4_is d1
    have HG := hid (g4_zero d1)
    clear d1
    go_enter Try.func79, Try.ntmps79
    go_wp2
    go_ret
    exact ⟨retI HG.out.symm, rfl⟩
  · have T1 := mod4_not (D := D) (k := 0) d1
    have HG := hid (g4_else d1)
    clear d1
    go_enter Try.func79, Try.ntmps79
    go_wp2
    go_ret
    exact ⟨retI HG.out.symm, rfl⟩

set_option maxRecDepth 100000 in
theorem twoMany_any (n : Int) (w : World) : Calls Try.prog 20 #[.int .i64 n] w fun e w' => e = .returned (.int .i64 (twoManyV n)) ∧ Below w.heap.size w w' := by
  have HS := hid (fun w : World => summed_any n w)
  cases H : sumB n with
  | false =>
    rw [H] at HS
    have HF := hid (twoMany_no (sum1_out H))
    clear H
    go_enter Try.func20, Try.ntmps20
    go_wp2_with (go_at_call 60; refine (HS.out _).mono ?_; rintro e w' ⟨rfl, rfl⟩)
    go_ret
    exact ⟨retI HF.out.symm, Below.refl _ _⟩
  | true =>
    rw [H] at HS
    by_cases h0 : n = 0
    · subst h0
      have HF := hid (twoMany_no sum1_zero)
      clear H
      go_enter Try.func20, Try.ntmps20
      go_wp2_with (go_at_call 60; refine (HS.out _).mono ?_; rintro e w' ⟨rfl, rfl⟩)
      go_ret
      exact ⟨retI HF.out.symm, Below.refl _ _⟩
    · have T : (n == 0) = false := by rw [beq_eq_false_iff_ne]; exact h0
      have h1 := sum1_of H h0
      have hn : 1 ≤ n ∧ n ≤ 2000 := by
        rcases sum1_cases n with ⟨a, b, _⟩ | ⟨_, c⟩ | ⟨_, _, c⟩
        · exact ⟨a, b⟩
        · rw [h1] at c; cases c
        · rw [h1] at c; cases c
      obtain ⟨N, rfl⟩ := Int.eq_ofNat_of_zero_le (show 0 ≤ n by omega)
      have hN1 : 1 ≤ N := by omega
      have hN2 : N ≤ 2000 := by omega
      have HF := hid (twoMany_yes h1)
      have HO := hid (fun w => overDivisors_any 69 (fun _ _ => rfl) g2 N hN1 hN2 (fun d _ => by have := g2_bd d; omega) (fun D w a b => twoTold_any D a b w) w)
      have hb := divS_bd (g := g2) (n := N) (m := 1) (by omega) N (fun d _ => g2_bd d)
      generalize divS g2 N N = x at *
      clear h0 h1 H hn
      go_enter Try.func20, Try.ntmps20
      go_wp2_with (first | (go_at_call 68; refine (HO.out _).mono ?_; rintro e w' ⟨rfl, rfl⟩) | (go_at_call 60; refine (HS.out _).mono ?_; rintro e w' ⟨rfl, rfl⟩))
      go_ret
      exact ⟨retI HF.out.symm, Below.refl _ _⟩

set_option maxRecDepth 100000 in
theorem fourMany_any (n : Int) (w : World) : Calls Try.prog 37 #[.int .i64 n] w fun e w' => e = .returned (.int .i64 (fourManyV n)) ∧ Below w.heap.size w w' := by
  have HS := hid (fun w : World => summed_any n w)
  cases H : sumB n with
  | false =>
    rw [H] at HS
    have HF := hid (fourMany_no (sum1_out H))
    clear H
    go_enter Try.func37, Try.ntmps37
    go_wp2_with (go_at_call 60; refine (HS.out _).mono ?_; rintro e w' ⟨rfl, rfl⟩)
    go_ret
    exact ⟨retI HF.out.symm, Below.refl _ _⟩
  | true =>
    rw [H] at HS
    by_cases h0 : n = 0
    · subst h0
      have HF := hid (fourMany_no sum1_zero)
      clear H
      go_enter Try.func37, Try.ntmps37
      go_wp2_with (go_at_call 60; refine (HS.out _).mono ?_; rintro e w' ⟨rfl, rfl⟩)
      go_ret
      exact ⟨retI HF.out.symm, Below.refl _ _⟩
    · have T : (n == 0) = false := by rw [beq_eq_false_iff_ne]; exact h0
      have h1 := sum1_of H h0
      have hn : 1 ≤ n ∧ n ≤ 2000 := by
        rcases sum1_cases n with ⟨a, b, _⟩ | ⟨_, c⟩ | ⟨_, _, c⟩
        · exact ⟨a, b⟩
        · rw [h1] at c; cases c
        · rw [h1] at c; cases c
      obtain ⟨N, rfl⟩ := Int.eq_ofNat_of_zero_le (show 0 ≤ n by omega)
      have hN1 : 1 ≤ N := by omega
      have hN2 : N ≤ 2000 := by omega
      have HF := hid (fourMany_yes h1)
      have HO := hid (fun w => overDivisors_any 79 (fun _ _ => rfl) g4 N hN1 hN2 (fun d hd => by have := g4_bd d hd; omega) (fun D w a b => fourTold_any D a b w) w)
      have hb := divS_bd (g := g4) (n := N) (m := 2000) (by omega) N (fun d hd => by have := g4_bd d (by omega); omega)
      generalize divS g4 N N = x at *
      clear h0 h1 H hn
      go_enter Try.func37, Try.ntmps37
      go_wp2_with (first | (go_at_call 68; refine (HO.out _).mono ?_; rintro e w' ⟨rfl, rfl⟩) | (go_at_call 60; refine (HS.out _).mono ?_; rintro e w' ⟨rfl, rfl⟩))
      go_ret
      exact ⟨retI HF.out.symm, Below.refl _ _⟩

set_option maxRecDepth 100000 in
set_option maxHeartbeats 2000000 in
theorem threeIs_any (n : Int) (w : World) : Calls Try.prog 29 #[.int .i64 n] w fun e w' => e = .returned (.bool (threeIsB n)) ∧ Below w.heap.size w w' := by
  have HS0 := hid (fun w : World => summed_any n w)
  rcases sumB_cases n with ⟨n0, n2, H⟩ | ⟨n0, H⟩ | ⟨n0, n2, H⟩
  · rw [H] at HS0
    obtain ⟨N, rfl⟩ := Int.eq_ofNat_of_zero_le n0
    have HF := hid (threeIs_yes H)
    have hN2 : N ≤ 2000 := by omega
    clear H
    go_enter Try.func29, Try.ntmps29
    go_wp2_with (go_at_call 60; refine (HS0.out _).mono ?_; rintro e w' ⟨rfl, rfl⟩)
    go_loop [3] (fun sn => ∃ M : Nat, sn = .int .i64 M ∧ M ≤ 2000 ∧ Hid (stripN M = stripN N)) (fun sn => (intOf sn).toNat)
    case atStart => exact ⟨N, rfl, hN2, hid rfl⟩
    case round =>
      obtain ⟨M, rfl, hM, HS⟩ := hrel
      by_cases hc : 0 < M ∧ M % 4 = 0
      · have T := mod4_is hc.2
        have hp : 0 < (M : Int) := by omega
        have HD := hid ((strip_step hc.1 hc.2).symm.trans HS.out)
        have hq : M / 4 < M := by omega
        clear hc
        go_wp2
        go_round
        case measure => simp only [intOf]; omega
        case rel => exact ⟨M / 4, by go_num, by omega, HD⟩
      · have HE := hid (three_end HS.out hc)
        rcases Nat.eq_zero_or_pos M with e | e
        · subst e
          go_wp2
          go_ret
          exact ⟨retB (by rw [HF.out]; exact HE.out), Below.refl _ _⟩
        · have T := mod4_not (D := M) (k := 0) (by omega)
          have hp : 0 < (M : Int) := by omega
          clear hc
          go_wp2
          go_ret
          exact ⟨retB (by rw [HF.out]; exact HE.out), Below.refl _ _⟩
  all_goals
    rw [H] at HS0
    have HF := hid (threeIs_no H)
    clear H
    go_enter Try.func29, Try.ntmps29
    go_wp2_with (go_at_call 60; refine (HS0.out _).mono ?_; rintro e w' ⟨rfl, rfl⟩)
    go_ret
    exact ⟨retB HF.out.symm, Below.refl _ _⟩

end Go.Proofs.Ytdclmjmefkgbbab

/-! SuF -/
set_option linter.unusedVariables false
namespace Go.Proofs.Ytdclmjmefkgbbab
open Go.RowKit

/-- what a search answers: a list of its own, and whether there is one -/
def LvlPost (o : Option (List Int)) (w : World) (e : Ending) (w' : World) : Prop := ∃ v, e = .returned (.tuple #[v, .bool o.isSome]) ∧ Owns w' w.heap.size v (o.getD []) ∧ Below w.heap.size w w'
theorem lvl_none_post {w wr : World} (hb : Below w.heap.size w wr) : LvlPost none w (.returned (.tuple #[.slice (some ⟨wr.heap.size, 0, none⟩) 0 0, .bool false])) (wr.alloc (.cells #[] 3)) := by
  exact ⟨_, rfl, World.ownsRow_made (size := 1) wr #[] 0 hb.size (by unfold maxLen; omega) rfl, hb.alloc hb.size _⟩
theorem lvl_nil_post (w : World) (b : Bool) : LvlPost (if b then some [] else none) w (.returned (.tuple #[.slice (some ⟨w.heap.size, 0, none⟩) 0 0, .bool b])) (w.alloc (.cells #[] 3)) := by
  cases b with
  | false => exact lvl_none_post (Below.refl _ _)
  | true => exact ⟨_, rfl, World.ownsRow_made (size := 1) w #[] 0 (Nat.le_refl _) (by unfold maxLen; omega) rfl, (Below.refl _ _).alloc (Nat.le_refl _) _⟩
theorem Owns.low9 {W : World} {B C : Nat} {v : Value} {xs : List Int} (h : Owns W C v xs) (hb : B ≤ C) : Owns W B v xs := by
  obtain ⟨h1, h2⟩ := h
  refine ⟨h1, ?_⟩
  rcases h2 with h2 | ⟨g, cap, cur, hv, hB, r⟩
  · exact .inl h2
  · exact .inr ⟨g, cap, cur, hv, Nat.le_trans hb hB, r⟩
theorem lvl_len {c : Nat} {n a : Int} {l : List Int} (h : lvl c n a = some l) : l.length = c := (lvl_spec c n a l h).1

set_option maxRecDepth 100000 in
set_option maxHeartbeats 4000000 in
theorem firstSum_any : ∀ (c : Nat) (n a : Int) (w : World), c ≤ 4 → 0 ≤ n → n ≤ 2000 → 0 ≤ a → a ≤ 45 → Calls Try.prog 65 #[.int .i64 n, .int .i64 (c : Int), .int .i64 a] w (LvlPost (lvl c n a) w)
  | 0, n, a, w, _, n0, n2, a0, a2 => by
    have HF : Hid (lvl 0 n a = if (n == 0) = true then some [] else none) := hid (by
      rw [lvl_zero]
      by_cases h : n = 0
      · rw [if_pos h, if_pos (by rw [beq_iff_eq]; exact h)]
      · rw [if_neg h, if_neg (by rw [beq_iff_eq]; exact h)])
    have HE := hid (lvl_nil_post w (n == 0))
    go_enter Try.func65, Try.ntmps65
    go_wp2
    go_ret2
    rw [HF.out]
    exact HE.out
  | c + 1, n, a, w, hc4, n0, n2, a0, a2 => by
    have HI := hid (fun (m b : Int) (w' : World) (m0 : 0 ≤ m) (m2 : m ≤ 2000) (b0 : 0 ≤ b) (b2 : b ≤ 45) => firstSum_any c m b w' (by omega) m0 m2 b0 b2)
    obtain ⟨i0, hi, hz0, hz1, hz2⟩ := info_parts infoInt
    obtain ⟨C, hC⟩ : ∃ C : Int, C = ((c + 1 : Nat) : Int) := ⟨_, rfl⟩
    have hc1 : C - 1 = (c : Int) := by rw [hC]; push_cast; omega
    have hC1 : 1 ≤ C := by omega
    have hC4 : C ≤ 4 := by omega
    have hcc : ((c : Int) + 1) = C := by omega
    have HC1 := hid hc1
    have HCC := hid hcc
    have TC : (C == 0) = false := by rw [beq_eq_false_iff_ne]; omega
    rw [← hC]
    clear hC hc1 hcc
    go_enter Try.func65, Try.ntmps65
    go_wp2_with fail
    go_loopw [8] (fun sx wr => ∃ (x : Int) (f : Nat), sx = .int .i64 x ∧ 0 ≤ x ∧ x ≤ 45 ∧ x + (f : Int) = a + 64 ∧ Hid (lvl (c + 1) n a = scanO (lvlF c n) f x) ∧ Hid (Below w.heap.size w wr)) (fun sx _ => 50 - (intOf sx).toNat)
    case atStart => exact ⟨a, 64, rfl, a0, a2, by omega, hid (lvl_succ c n a), hid (Below.refl _ _)⟩
    case round =>
      obtain ⟨x, f, rfl, x0, x45, hf, HS, HB⟩ := hrel
      rename World => wr
      obtain ⟨g, rfl⟩ : ∃ g, f = g + 1 := ⟨f - 1, by omega⟩
      have e1 : C * x * x = C * (x * x) := Int.mul_assoc _ _ _
      have q0 : 0 ≤ x * x := Int.mul_nonneg x0 x0
      have q1 : x * x ≤ 2025 := sq_le1 x0 x45
      have q2 : C * (x * x) ≤ 4 * 2025 := Int.mul_le_mul hC4 q1 q0 (by omega)
      have q3 : x * x ≤ C * (x * x) := by have := Int.mul_le_mul_of_nonneg_right hC1 q0; omega
      have q4 : 0 ≤ C * x ∧ C * x ≤ 180 := ⟨Int.mul_nonneg (by omega) x0, by have := Int.mul_le_mul hC4 x45 x0 (by omega); omega⟩
      have q5 : 0 ≤ C * x * x ∧ C * x * x ≤ 8100 := by omega
      by_cases hc : C * x * x ≤ n
      · have hd : ((c : Int) + 1) * x * x ≤ n := by rw [HCC.out]; exact hc
        have h44 := sq_small8 hC1 x0 (by omega)
        have HD := hid hd
        have m0 : 0 ≤ n - x * x := by omega
        have m2 : n - x * x ≤ 2000 := by omega
        have HR := hid (fun w' => HI.out (n - x * x) x w' m0 m2 x0 x45)
        rw [← HC1.out] at HR
        clear e1 q2 q3 hd
        cases e : lvl c (n - x * x) x with
        | none =>
          rw [e] at HR
          have HN := hid (HS.out.trans (scan_skip (lvlF_none HD.out e)))
          clear e
          go_wp2_with (go_at_call 65; refine (HR.out _).mono ?_; rintro e w2 ⟨v, rfl, ho, hb⟩; have HB2 := hid (HB.out.trans (hb.mono HB.out.size)); clear ho hb)
          go_roundw
          case measure => simp only [intOf]; omega
          case rel => exact ⟨x + 1, g, by go_num, by omega, by omega, by omega, HN, HB2⟩
        | some t =>
          rw [e] at HR
          have HN := hid (HS.out.trans (scan_some (lvlF_some HD.out e)))
          have htl := lvl_len e
          have HTL := hid htl
          clear e htl
          go_wp2_with (first | (at_builtin; refine append_rd rfl _ _ rfl w2.heap.size _ [x] rfl HO1.out _ t rfl HT1.out HFV.out (by simp; omega) (by simp) ?_; intro v3 w3 o3 g3; have HO3 : Hid (Owns w3 w2.heap.size v3 ([x] ++ t)) := hid o3; have HB3 := hid (((Below.refl w2.heap.size w2).alloc (Nat.le_refl _) (.cells #[.int .i64 x] 3)).grown g3 (by simp) (fun k e => HO1.out.ge k e)); clear o3 g3) | (go_at_call 65; refine (HR.out _).mono ?_; rintro e w2 ⟨v, rfl, ho, hb⟩; have HB2 := hid (HB.out.trans (hb.mono HB.out.size)); have HFV := hid ho.firm; have hbx : Below w2.heap.size w2 (w2.alloc (.cells #[.int .i64 x] 3)) := (Below.refl _ _).alloc (Nat.le_refl _) _; have HT1 : Hid (Rd (w2.alloc (.cells #[.int .i64 x] 3)) v t) := hid (ho.rd.keep hbx); have HO1 : Hid (Owns (w2.alloc (.cells #[.int .i64 x] 3)) w2.heap.size (.slice (some ⟨w2.heap.size, 0, none⟩) 1 1) [x]) := hid (world_row9 w2 #[.int .i64 x] [x] rfl (by simp)); have hl2 := HTL.out; clear ho hb hbx))
          go_ret2
          refine ⟨_, by rw [HN.out]; rfl, ?_, HB2.out.trans (HB3.out.mono HB2.out.size)⟩
          rw [HN.out]
          exact HO3.out.low9 HB2.out.size
      · have HN := hid (HS.out.trans (scan_none _ _ (lvlF_stop x0 (by rw [HCC.out]; exact hc))))
        have HE := hid (lvl_none_post HB.out)
        clear e1 q2 q3
        go_wp2_with fail
        go_ret2
        rw [HN.out]
        exact HE.out

theorem threeFind_any (n : Int) (w : World) : Calls Try.prog 31 #[.int .i64 n] w fun e w' => ManyPost 3 n w e w' := by
  have HS := hid (fun w : World => summed_any n w)
  cases H : sumB n with
  | false =>
    rw [H] at HS
    have HF := hid (manyN8 (w := w) (manyO_no (c := 3) H))
    clear H
    go_enter Try.func31, Try.ntmps31
    go_wp2_with (go_at_call 60; refine (HS.out _).mono ?_; rintro e w' ⟨rfl, rfl⟩)
    go_ret2
    exact HF.out
  | true =>
    have hn : 0 ≤ n ∧ n ≤ 2000 := by
      rcases sumB_cases n with ⟨a, b, _⟩ | ⟨_, c⟩ | ⟨_, _, c⟩
      · exact ⟨a, b⟩
      · rw [H] at c; cases c
      · rw [H] at c; cases c
    have HM : Hid (manyO 3 n = lvl 3 n 0) := hid (by unfold manyO; rw [if_pos H])
    rw [H] at HS
    have HL := hid (fun w => firstSum_any 3 n 0 w (by omega) hn.1 hn.2 (by omega) (by omega))
    obtain ⟨o, ho⟩ : ∃ o, o = lvl 3 n 0 := ⟨_, rfl⟩
    rw [← ho] at HL HM
    clear H hn ho
    go_enter Try.func31, Try.ntmps31
    go_wp2_with (first | (go_at_call 65; refine (HL.out _).mono ?_; rintro e w2 ⟨v, rfl, ho, hb⟩; have HO := hid ho; have HB := hid hb; clear ho hb) | (go_at_call 60; refine (HS.out _).mono ?_; rintro e w' ⟨rfl, rfl⟩))
    go_ret2
    unfold ManyPost
    rw [HM.out]
    exact ⟨_, rfl, HO.out, HB.out⟩

theorem fourFind_any (n : Int) (w : World) : Calls Try.prog 43 #[.int .i64 n] w fun e w' => ManyPost 4 n w e w' := by
  have HS := hid (fun w : World => summed_any n w)
  cases H : sumB n with
  | false =>
    rw [H] at HS
    have HF := hid (manyN8 (w := w) (manyO_no (c := 4) H))
    clear H
    go_enter Try.func43, Try.ntmps43
    go_wp2_with (go_at_call 60; refine (HS.out _).mono ?_; rintro e w' ⟨rfl, rfl⟩)
    go_ret2
    exact HF.out
  | true =>
    have hn : 0 ≤ n ∧ n ≤ 2000 := by
      rcases sumB_cases n with ⟨a, b, _⟩ | ⟨_, c⟩ | ⟨_, _, c⟩
      · exact ⟨a, b⟩
      · rw [H] at c; cases c
      · rw [H] at c; cases c
    have HM : Hid (manyO 4 n = lvl 4 n 0) := hid (by unfold manyO; rw [if_pos H])
    rw [H] at HS
    have HL := hid (fun w => firstSum_any 4 n 0 w (by omega) hn.1 hn.2 (by omega) (by omega))
    obtain ⟨o, ho⟩ : ∃ o, o = lvl 4 n 0 := ⟨_, rfl⟩
    rw [← ho] at HL HM
    clear H hn ho
    go_enter Try.func43, Try.ntmps43
    go_wp2_with (first | (go_at_call 65; refine (HL.out _).mono ?_; rintro e w2 ⟨v, rfl, ho, hb⟩; have HO := hid ho; have HB := hid hb; clear ho hb) | (go_at_call 60; refine (HS.out _).mono ?_; rintro e w' ⟨rfl, rfl⟩))
    go_ret2
    unfold ManyPost
    rw [HM.out]
    exact ⟨_, rfl, HO.out, HB.out⟩

set_option maxHeartbeats 1000000 in
theorem twoFind_any (n : Int) (w : World) : Calls Try.prog 18 #[.int .i64 n] w fun e w' => e = .returned (twoFindV n) ∧ Below w.heap.size w w' := by
  have HS := hid (fun w : World => summed_any n w)
  cases H : sumB n with
  | false =>
    rw [H] at HS
    have HF := hid (twoF_out H)
    clear H
    go_enter Try.func18, Try.ntmps18
    go_wp2_with (go_at_call 60; refine (HS.out _).mono ?_; rintro e w' ⟨rfl, rfl⟩)
    go_ret3
    exact ⟨HF.out, Below.refl _ _⟩
  | true =>
    have hn : 0 ≤ n ∧ n ≤ 2000 := by
      rcases sumB_cases n with ⟨a, b, _⟩ | ⟨_, c⟩ | ⟨_, _, c⟩
      · exact ⟨a, b⟩
      · rw [H] at c; cases c
      · rw [H] at c; cases c
    rw [H] at HS
    have HL := hid (fun w => firstSum_any 2 n 0 w (by omega) hn.1 hn.2 (by omega) (by omega))
    have HH := hid H
    cases e : lvl 2 n 0 with
    | none =>
      rw [e] at HL
      have HF := hid (twoF_none e)
      clear H hn e
      go_enter Try.func18, Try.ntmps18
      go_wp2_with (first | (go_at_call 65; refine (HL.out _).mono ?_; rintro e w2 ⟨v, rfl, ho, hb⟩; have HB := hid hb; clear ho hb) | (go_at_call 60; refine (HS.out _).mono ?_; rintro e w' ⟨rfl, rfl⟩))
      go_ret3
      exact ⟨HF.out, HB.out⟩
    | some l =>
      have hl := lvl_len e
      obtain ⟨x, y, rfl⟩ : ∃ x y, l = [x, y] := by
        match l, hl with
        | [x, y], _ => exact ⟨x, y, rfl⟩
      rw [e] at HL
      have HF := hid (twoF_some HH.out e)
      clear H hn e hl
      go_enter Try.func18, Try.ntmps18
      go_wp2_with (first | (go_at_call 65; refine (HL.out _).mono ?_; rintro e w2 ⟨v, rfl, ho, hb⟩; have HB := hid hb; obtain ⟨ad, cap, rfl, hform⟩ := ho.rd.form; obtain ⟨g, o, rfl, _, hc⟩ := hform (by simp); have c0 : w2.cell? ⟨g, o, none⟩ = some (.int .i64 x) := hc 0 (by simp); have c1 : w2.cell? ⟨g, o + 1, none⟩ = some (.int .i64 y) := hc 1 (by simp); clear ho hb hform hc) | (go_at_call 60; refine (HS.out _).mono ?_; rintro e w' ⟨rfl, rfl⟩))
      go_quiet (fail)
      go_wp2
      go_ret3
      exact ⟨HF.out, below_drewN HB.out _⟩

end Go.Proofs.Ytdclmjmefkgbbab
