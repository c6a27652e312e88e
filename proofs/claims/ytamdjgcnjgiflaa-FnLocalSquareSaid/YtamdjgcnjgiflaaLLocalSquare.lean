/-
  Proves: for every two codes: a local square has the name 1, stays one when it is multiplied by a square, and has a root up to the third power of a small prime.
  Conditions: none beyond the given statement's own.
-/
import Derived.Test.YtamdjgcnjgiflaaRows
import Derived.Test.YtamdjgcnjgiflaaImpE
import Derived.Test.YtamdjgcnjgiflaaLawCls
import Derived.Test.YtamdjgcnjgiflaaLists
import Derived.Test.YtamdjgcnjgiflaaSame
import Derived.Test.YtamdjgcnjgiflaaRowWord
import Derived.Test.YtamdjgcnjgiflaaLawKit
import Derived.ProofKit
import Derived.OpenShut
import Derived.ShutString
import Derived.ChangeOld
namespace Go.Proofs.Ytamdjgcnjgiflaa.fnLocalSquare
open Go.ChangeShapes Go.WideShapes Go.ChangeAt Go.RowKit
open Go.ChangeMaps (open_string shut_string)
set_option linter.unusedVariables false
def root3Ok (n : Int) : Bool := [2, 3, 5, 7, 11, 13].all (fun P => decide (n = 0) || (!sqAt n (P : Nat) || (rootF (n % ((P ^ 3 : Nat) : Int)).toNat (P ^ 3)).isSome))
theorem root3_all : drawnL.all root3Ok = true := by decide +kernel
theorem root3 {n : Int} (h : locOk n) (h0 : n ≠ 0) {P : Nat} (hP : P = 2 ∨ P = 3 ∨ P = 5 ∨ P = 7 ∨ P = 11 ∨ P = 13) (hs : sqAt n (P : Int) = true) : ∃ x, rootF (n % ((P ^ 3 : Nat) : Int)).toNat (P ^ 3) = some x := by
  have h1 := List.all_eq_true.1 root3_all n (drawn_mem h)
  have h2 := List.all_eq_true.1 h1 P (by rcases hP with rfl | rfl | rfl | rfl | rfl | rfl <;> simp)
  rw [decide_eq_false h0, hs] at h2
  exact Option.isSome_iff_exists.1 (by simpa using h2)

theorem prime_small {P : Nat} (h : P = 2 ∨ P = 3 ∨ P = 5 ∨ P = 7 ∨ P = 11 ∨ P = 13) : primeN P = true ∧ P ^ 3 ≤ 5000 := by
  rcases h with rfl | rfl | rfl | rfl | rfl | rfl <;> decide
/-- what the last test asks of the place -/
theorem last_ok {n q : Int} (hn : locOk n) (h0 : n ≠ 0) (hO : okN n = true) (hp : prOk q) (hq : plI q = true) (hs : sqAt n q = true) :
    ∃ (x : Int) (b : Bool), lrootV n q 3 = .tuple #[.int .i64 x, .bool b] ∧ (q = 0 ∨ (q ≠ 0 ∧ 13 < q) ∨ (q ≠ 0 ∧ q ≤ 13 ∧ b = true)) := by
  obtain ⟨x, b, e⟩ := lrootV_form n q 3
  refine ⟨x, b, e, ?_⟩
  by_cases c0 : q = 0
  · exact .inl c0
  · by_cases c1 : 13 < q
    · exact .inr (.inl ⟨c0, c1⟩)
    · refine .inr (.inr ⟨c0, by omega, ?_⟩)
      have hb := plI_bd hq
      obtain ⟨P, rfl⟩ := Int.eq_ofNat_of_zero_le hb.1
      have hpr : primeI (P : Int) = true := by
        unfold plI at hq
        rw [decide_eq_false c0, Bool.false_or] at hq
        exact hq
      have hP : P = 2 ∨ P = 3 ∨ P = 5 ∨ P = 7 ∨ P = 11 ∨ P = 13 := by
        unfold prOk at hp
        have h4 : ¬ ((P : Int) = 4) := by rintro h; rw [h] at hpr; revert hpr; decide
        have h9 : ¬ ((P : Int) = 9) := by rintro h; rw [h] at hpr; revert hpr; decide
        have h1 : ¬ ((P : Int) = 1) := by rintro h; rw [h] at hpr; revert hpr; decide
        omega
      obtain ⟨y, hy⟩ := root3 hn h0 hP hs
      have hk : lrootOk n (P : Int) 3 = true := by
        unfold lrootOk
        rw [hO, hpr, Int.toNat_natCast, show (3 : Int).toNat = 3 from rfl, decide_eq_true (prime_small hP).2]
        rfl
      unfold lrootV at e
      rw [if_pos hk, Int.toNat_natCast, show (3 : Int).toNat = 3 from rfl, hy] at e
      unfold rootT at e
      simp only [Value.tuple.injEq, Array.mk.injEq, List.cons.injEq, Value.bool.injEq] at e
      exact e.2.1.symm

set_option maxRecDepth 100000 in
set_option maxHeartbeats 2000000 in
theorem walk  (a0 : Option Addr) (len0 cap0 : Nat) (z0 : List Int) (a1 : Option Addr) (len1 cap1 : Nat) (z1 : List Int) (w : World) (w0 : IsRow .u8 w a0 len0 cap0 z0) (w1 : IsRow .u8 w a1 len1 cap1 z1) :
    Calls Try.prog 3 #[.slice a0 len0 cap0, .slice a1 len1 cap1] w fun e w' => e = .returned (.bool true) ∧ Below w.heap.size w w' := by
  have HC := hid (codeIn_of w0)
  clear w0 w1
  by_cases hl : (1048576 : Int) < (len0 : Int)
  · go_enter Try.func3, Try.ntmps3
    go_wp2
    go_ret
    exact ⟨rfl, Below.refl _ _⟩
  by_cases hl1 : (1048576 : Int) < (len1 : Int)
  · go_enter Try.func3, Try.ntmps3
    go_wp2
    go_ret
    exact ⟨rfl, Below.refl _ _⟩
  · go_enter Try.func3, Try.ntmps3
    go_wp2_with fail
    refine (drawLocalSquare_any _ len0 _ HC.out).mono ?_
    rintro e w1 ⟨n, q, rfl, ⟨hn, hp⟩, hb⟩
    have hns := locOk_small hn
    have hn1 := hns.1
    have hn2 := hns.2
    cases hV : lsV n q with
    | false =>
      have P := hid hV
      clear hV
      go_wp2_with fail
      refine (localSquare_any n q _).mono ?_
      rw [P.out]
      rintro e w' ⟨rfl, hb1⟩
      go_wp2_with fail
      refine (localSquareS_any n q _).mono ?_
      rw [P.out]
      rintro e w' ⟨rfl, rfl⟩
      go_wp2
      go_ret
      exact ⟨rfl, hb.trans (hb1.mono hb.size)⟩
    | true =>
      have P := hid hV
      have hV2 := hV
      unfold lsV at hV2
      rw [Bool.and_eq_true] at hV2
      obtain ⟨hok, hs⟩ := hV2
      rcases okAt_cases n q with ⟨h1, h2, h0, hq, _⟩ | hno
      · obtain ⟨x, b, he, hlast⟩ := last_ok hn h0 (okN_iff.2 ⟨h1, h2⟩) hp hq hs
        have HN : Hid (lnameV n q = .tuple #[.int .i64 1, .bool true]) := hid (by rw [lnameV_yes hok, name_sq hq hs])
        have HR := hid he
        obtain ⟨k, hk⟩ : ∃ k : Nat, k = 1 + len1 % 6 := ⟨_, rfl⟩
        have hk1 : 1 ≤ k := by omega
        have hk6 : k ≤ 6 := by omega
        have hke : 1 + (len1 : Int) % 6 = (k : Int) := by rw [hk]; push_cast; rfl
        have nk : (n * (k : Int)).natAbs ≤ 5000 * 6 := by rw [Int.natAbs_mul]; exact Nat.mul_le_mul (by omega) (by omega)
        have nk1 : -30000 ≤ n * (k : Int) := by omega
        have nk2 : n * (k : Int) ≤ 30000 := by omega
        have nkk : (n * (k : Int) * (k : Int)).natAbs ≤ 30000 * 6 := by rw [Int.natAbs_mul]; exact Nat.mul_le_mul nk (by omega)
        have nkk1 : -180000 ≤ n * (k : Int) * (k : Int) := by omega
        have nkk2 : n * (k : Int) * (k : Int) ≤ 180000 := by omega
        have HKK : Hid ((n * (k : Int) * (k : Int)).natAbs ≤ 5000 → lsV (n * (k : Int) * (k : Int)) q = true) := hid (fun hle => by
          have hz : n * (k : Int) * (k : Int) ≠ 0 := Int.mul_ne_zero (Int.mul_ne_zero h0 (by omega)) (by omega)
          unfold lsV okAt
          rw [factB_yes (by omega) (by omega) hz, hq, sq_kk h0 (by omega) hq hs]
          rfl)
        clear hV hok hs hn hp he hk nk nkk h0 hq
        go_wp2_with fail
        refine (localSquare_any n q _).mono ?_
        rw [P.out]
        rintro e w' ⟨rfl, hb1⟩
        have hB1 := hb.trans (hb1.mono hb.size)
        go_wp2_with fail
        refine (localSquareS_any n q _).mono ?_
        rw [P.out]
        rintro e w' ⟨rfl, rfl⟩
        go_wp2_with fail
        refine (localName_any n q _).mono ?_
        rw [HN.out]
        rintro e w' ⟨rfl, hb2⟩
        have hB2 := hB1.trans (hb2.mono hB1.size)
        go_wp2_with fail
        refine (localRoot_any n q 3 _).mono ?_
        rw [HR.out]
        rintro e w' ⟨rfl, hb3⟩
        have HB3 := hid (hB2.trans (hb3.mono hB2.size))
        clear hb hb1 hb2 hb3 hB1 hB2
        by_cases hbig : (n * (k : Int) * (k : Int)).natAbs ≤ 5000
        · have HS2 := hid (HKK.out hbig)
          have hle : ¬ ((5000 : Int) < (((n * (k : Int) * (k : Int)).natAbs : Nat) : Int)) := by omega
          clear hbig
          rcases hlast with rfl | ⟨c0, c1⟩ | ⟨c0, c1, rfl⟩
          · go_wp2_with (first | (go_at_call 20; refine (sizeOf_any _ (by omega) (by omega) _).mono ?_; rintro e w' ⟨rfl, rfl⟩) | (go_at_call 16; refine (localSquare_any _ _ _).mono ?_; rw [HS2.out]; rintro e w5 ⟨rfl, hb5⟩))
            go_ret
            exact ⟨rfl, HB3.out.trans (hb5.mono HB3.out.size)⟩
          · have T0 : (q == 0) = false := by rw [beq_eq_false_iff_ne]; exact c0
            go_wp2_with (first | (go_at_call 20; refine (sizeOf_any _ (by omega) (by omega) _).mono ?_; rintro e w' ⟨rfl, rfl⟩) | (go_at_call 16; refine (localSquare_any _ _ _).mono ?_; rw [HS2.out]; rintro e w5 ⟨rfl, hb5⟩))
            go_ret
            exact ⟨rfl, HB3.out.trans (hb5.mono HB3.out.size)⟩
          · have T0 : (q == 0) = false := by rw [beq_eq_false_iff_ne]; exact c0
            go_wp2_with (first | (go_at_call 20; refine (sizeOf_any _ (by omega) (by omega) _).mono ?_; rintro e w' ⟨rfl, rfl⟩) | (go_at_call 16; refine (localSquare_any _ _ _).mono ?_; rw [HS2.out]; rintro e w5 ⟨rfl, hb5⟩))
            go_ret
            exact ⟨rfl, HB3.out.trans (hb5.mono HB3.out.size)⟩
        · have hle : ((5000 : Int) < (((n * (k : Int) * (k : Int)).natAbs : Nat) : Int)) := by omega
          clear hbig
          rcases hlast with rfl | ⟨c0, c1⟩ | ⟨c0, c1, rfl⟩
          · go_wp2_with (first | (go_at_call 20; refine (sizeOf_any _ (by omega) (by omega) _).mono ?_; rintro e w' ⟨rfl, rfl⟩) | (go_at_call 16; refine (localSquare_any _ _ _).mono ?_; rw [HS2.out]; rintro e w5 ⟨rfl, hb5⟩))
            go_ret
            exact ⟨rfl, HB3.out⟩
          · have T0 : (q == 0) = false := by rw [beq_eq_false_iff_ne]; exact c0
            go_wp2_with (first | (go_at_call 20; refine (sizeOf_any _ (by omega) (by omega) _).mono ?_; rintro e w' ⟨rfl, rfl⟩) | (go_at_call 16; refine (localSquare_any _ _ _).mono ?_; rw [HS2.out]; rintro e w5 ⟨rfl, hb5⟩))
            go_ret
            exact ⟨rfl, HB3.out⟩
          · have T0 : (q == 0) = false := by rw [beq_eq_false_iff_ne]; exact c0
            go_wp2_with (first | (go_at_call 20; refine (sizeOf_any _ (by omega) (by omega) _).mono ?_; rintro e w' ⟨rfl, rfl⟩) | (go_at_call 16; refine (localSquare_any _ _ _).mono ?_; rw [HS2.out]; rintro e w5 ⟨rfl, hb5⟩))
            go_ret
            exact ⟨rfl, HB3.out⟩
      · rw [hok] at hno; cases hno
theorem own : ownKnob Try.prog.godebug = none := by kernel_rfl
theorem laidOut : laidOutB Try.prog = true := by kernel_rfl
set_option maxRecDepth 100000 in
theorem lifted (os : Os) (started : os.Started) (H : Type) (enc : TypeId × Value → H) :
    ReturnsInHanded {} Try.checked os 3 .any (Rows.fnLocalSquareSpec.pre6 enc Try.prog Try.f3 Rows.fnLocalSquareRow.domain false) (Rows.fnLocalSquareSpec.post enc Try.prog Try.f3 false true false false) := by
  refine returnsInHanded_of_change (C := Try.checked) own started (by kernel_rfl) Try.func3
    (ChangeSpec.witness6 (enc := enc) (C := Try.checked) false ⟨#[], #[.slice none 0 0, .slice none 0 0], []⟩ 8 (by kernel_rfl) (by kernel_rfl) (by kernel_rfl) (by kernel_rfl)) ?_
  intro W base args ds gs before hval0 hW hcnd _
  have hval : ∀ (j : Nat) t v, Try.f3.params[j]? = some t → args[j]? = some v → Value.okWide Try.prog W .any base t v := hval0
  have hW' := hW
  obtain ⟨p, q, hA0, hV, rfl, hfz, hnd⟩ := hW
  have hA : DataW.TrodAll enc Try.prog W 0 (fun _ => true) true Try.f3.params.toList args.toList ds p := hA0
  rw [Try.params3] at hA hval
  obtain ⟨v0, vs0, d0, ds0, p0, q0, hargs, rfl, rfl, h0, r0⟩ := trodAll_cons hA
  obtain ⟨v1, vs1, d1, ds1, p1, q1, rfl, rfl, rfl, h1, r1⟩ := trodAll_cons r0
  obtain ⟨rfl, rfl, rfl⟩ := trodAll_nil r1
  obtain rfl : args = #[v0, v1] := by cases args; simp_all
  obtain ⟨rfl, rfl⟩ := trodVars_none hV
  obtain ⟨a0, len0, cap0, rfl⟩ := okWide_slice Try.underlying22 (hval 0 22 v0 rfl rfl)
  have k0 := h0
  have lt0 : ∀ x ∈ p0, x.block < W.heap.size := by obtain ⟨m, hm⟩ := k0; exact DataW.trod_lt m _ _ _ hm
  obtain ⟨z0, w0⟩ : ∃ zs, IsRow .u8 W a0 len0 cap0 zs := by
    obtain ⟨fuel, hf⟩ := h0
    rcases open_ints Try.underlying22 Try.underlying5 (by kernel_rfl) hf with ⟨hcs, _⟩ | ⟨x, l, c, zs, hcs, _, hl, hm, hz, _, hcell, hwz⟩
    · simp [Value.cells] at hcs
      obtain ⟨rfl, rfl, rfl⟩ := hcs
      exact ⟨[], .inl ⟨rfl, rfl, rfl, rfl⟩⟩
    · simp [Value.cells] at hcs
      obtain ⟨rfl, rfl, rfl⟩ := hcs
      exact ⟨zs, .inr ⟨_, rfl, hl, hm, by simpa using hz, hcell, hwz⟩⟩
  obtain ⟨a1, len1, cap1, rfl⟩ := okWide_slice Try.underlying22 (hval 1 22 v1 rfl rfl)
  have k1 := h1
  have lt1 : ∀ x ∈ p1, x.block < W.heap.size := by obtain ⟨m, hm⟩ := k1; exact DataW.trod_lt m _ _ _ hm
  obtain ⟨z1, w1⟩ : ∃ zs, IsRow .u8 W a1 len1 cap1 zs := by
    obtain ⟨fuel, hf⟩ := h1
    rcases open_ints Try.underlying22 Try.underlying5 (by kernel_rfl) hf with ⟨hcs, _⟩ | ⟨x, l, c, zs, hcs, _, hl, hm, hz, _, hcell, hwz⟩
    · simp [Value.cells] at hcs
      obtain ⟨rfl, rfl, rfl⟩ := hcs
      exact ⟨[], .inl ⟨rfl, rfl, rfl, rfl⟩⟩
    · simp [Value.cells] at hcs
      obtain ⟨rfl, rfl, rfl⟩ := hcs
      exact ⟨zs, .inr ⟨_, rfl, hl, hm, by simpa using hz, hcell, hwz⟩⟩
  clear hA0 hval0
  refine (walk a0 len0 cap0 z0 a1 len1 cap1 z1 W w0 w1).mono fun e W' ⟨he, bel⟩ => ?_
  subst he
  exact ⟨_, rfl, _, _, _, [], _, [], hW', trodAll_mk1 (shut_bool Try.underlying4 _), (trodAll_cons_mk (Below.trod laidOut (by kernel_rfl) (of_decide_eq_true (by kernel_rfl)) k0 bel lt0) (trodAll_cons_mk (Below.trod laidOut (by kernel_rfl) (of_decide_eq_true (by kernel_rfl)) k1 bel lt1) trodAll_mk0)), rfl, bel.frame _, fun h => by cases h⟩
theorem over : Rows.fnLocalSquareRow.holds Try.pinned (OpenSpec.ofChange Rows.fnLocalSquareSpec) :=
  OpenClaim.holds_of_wide 3 Try.f3 rfl rfl rfl rfl rfl rfl rfl ⟨rfl, rfl, rfl, rfl, rfl⟩ rfl rfl rfl rfl rfl (by kernel_rfl) Try.func3 (by kernel_rfl)
    (of_decide_eq_true (by kernel_rfl)) (by unfold Func.isWrapper; first | (rw [if_pos (by decide +kernel)]; kernel_rfl) | (rw [if_neg (by decide +kernel)]; exact ⟨rfl, rfl⟩))
    (fun os started H enc _ => lifted os started H enc)
theorem proved : Rows.FnLocalSquareSaid := over
end Go.Proofs.Ytamdjgcnjgiflaa.fnLocalSquare
