/-
  Proves: for every two codes: split symbols are split in the other order, for each square multiple, and for the opposite of the product.
  Conditions: none beyond the given statement's own.
-/
import Derived.Test.YtdidmblkknnglaaRows
import Derived.Test.YtdidmblkknnglaaSymLaw
import Derived.Test.YtdidmblkknnglaaProd
import Derived.Test.YtdidmblkknnglaaDraws3
import Derived.Test.YtdidmblkknnglaaLists
import Derived.Test.YtdidmblkknnglaaRowWord
import Derived.Test.YtdidmblkknnglaaLawKit
import Derived.Test.YtdidmblkknnglaaImp3G
import Derived.ProofKit
import Derived.OpenShut
import Derived.ShutString
import Derived.ChangeOld
namespace Go.Proofs.Ytdidmblkknnglaa.fnSplit
open Go.ChangeShapes Go.WideShapes Go.ChangeAt Go.RowKit
open Go.ChangeMaps (open_string shut_string)
set_option linter.unusedVariables false
theorem split_iff {a b : Int} (O : okAB a b = true) : spltV a b = true ↔ ∀ q, plI q = true → symV a b q = 1 := by
  rcases okAB_cases a b with ⟨a1, a2, a0, b1, b2, b0, _⟩ | hO
  · have hab := Int.mul_ne_zero a0 b0
    obtain ⟨_, _, s3⟩ := plistG_spec (show 0 < (a * b).natAbs by omega)
    have hl : (splL a b).length = 0 ↔ ∀ q ∈ placesG (a * b), ¬ symV a b q = -1 := by
      unfold splL
      rw [O, if_pos rfl, List.length_eq_zero_iff, List.filter_eq_nil_iff]
      constructor
      · intro h q hq e; exact h q hq (decide_eq_true e)
      · intro h q hq e; exact h q hq (of_decide_eq_true e)
    unfold spltV
    rw [O, Bool.true_and, beq_iff_eq, hl]
    constructor
    · intro h q hq
      by_cases hm : q ∈ placesG (a * b)
      · rcases symV_val a0 b0 hq with e | e
        · exact e
        · exact absurd e (h q hm)
      · rcases plI_cases hq with e | e | ⟨P, rfl, hP, h3, h5⟩
        · exact absurd (by rw [e]; unfold placesG; simp) hm
        · exact absurd (by rw [e]; unfold placesG; simp) hm
        · have hnd : ¬ P ∣ (a * b).natAbs := fun hd => hm (by
            unfold placesG
            simp only [List.cons_append, List.nil_append, List.mem_cons]
            right; right
            refine List.mem_filter.2 ⟨?_, decide_eq_true (by omega)⟩
            unfold natsI
            exact List.mem_map.2 ⟨P, s3 P (primeN_prG hP) hd, rfl⟩)
          rw [Int.natAbs_mul] at hnd
          exact sym_away hP h3 (fun h => hnd (Nat.dvd_mul_right_of_dvd h _)) (fun h => hnd (Nat.dvd_mul_left_of_dvd h _)) a0 b0
    · intro h q hq e
      rw [h q (placesG_pl a0 b0 a1 a2 b1 b2 q hq)] at e
      cases e
  · rw [O] at hO; cases hO
theorem cls_kk {n k q : Int} (hn : n ≠ 0) (hk : k ≠ 0) (hq : plI q = true) : cls (n * k * k) q = cls n q := by
  rw [Int.mul_assoc, cls_mul hn (Int.mul_ne_zero hk hk) hq, cls_mul hk hk hq, comb_self hq (cls_mem hk hq), comb_unit hq (cls_mem hn hq)]
theorem okAB_make {a b : Int} (a1 : -5000 ≤ a) (a2 : a ≤ 5000) (a0 : a ≠ 0) (b1 : -5000 ≤ b) (b2 : b ≤ 5000) (b0 : b ≠ 0) : okAB a b = true := by
  unfold okAB; rw [factB_yes a1 a2 a0, factB_yes b1 b2 b0]; rfl
theorem split_facts {a b k : Int} (h : spltV a b = true) (hk : k ≠ 0) : spltV b a = true ∧ ((a * k * k).natAbs ≤ 5000 → spltV (a * k * k) b = true) ∧ ((0 - a * b).natAbs ≤ 5000 → spltV a (0 - a * b) = true) := by
  have O : okAB a b = true := by
    unfold spltV at h
    rw [Bool.and_eq_true] at h
    exact h.1
  have hall := (split_iff O).1 h
  rcases okAB_cases a b with ⟨a1, a2, a0, b1, b2, b0, _⟩ | hO
  · refine ⟨?_, fun hle => ?_, fun hle => ?_⟩
    · refine (split_iff (okAB_make b1 b2 b0 a1 a2 a0)).2 fun q hq => ?_
      rw [symV_comm b0 a0 hq]; exact hall q hq
    · have hz : a * k * k ≠ 0 := Int.mul_ne_zero (Int.mul_ne_zero a0 hk) hk
      refine (split_iff (okAB_make (by omega) (by omega) hz b1 b2 b0)).2 fun q hq => ?_
      rw [symV_congr (cls_kk a0 hk hq) rfl]; exact hall q hq
    · have hab := Int.mul_ne_zero a0 b0
      refine (split_iff (okAB_make a1 a2 a0 (by omega) (by omega) (by omega))).2 fun q hq => ?_
      rw [show 0 - a * b = (-a) * b by rw [Int.zero_sub, Int.neg_mul], symV_mul a0 (by omega) b0 hq, symV_minus a0 hq, hall q hq]
      rfl
  · rw [O] at hO; cases hO

set_option maxRecDepth 100000 in
set_option maxHeartbeats 2000000 in
theorem walk  (a0 : Option Addr) (len0 cap0 : Nat) (z0 : List Int) (a1 : Option Addr) (len1 cap1 : Nat) (z1 : List Int) (w : World) (w0 : IsRow .u8 w a0 len0 cap0 z0) (w1 : IsRow .u8 w a1 len1 cap1 z1) :
    Calls Try.prog 11 #[.slice a0 len0 cap0, .slice a1 len1 cap1] w fun e w' => e = .returned (.bool true) ∧ Below w.heap.size w w' := by
  have HC := hid (codeIn_of w0)
  clear w0 w1
  by_cases hl : (1048576 : Int) < (len0 : Int)
  · go_enter Try.func11, Try.ntmps11
    go_wp2
    go_ret
    exact ⟨rfl, Below.refl _ _⟩
  by_cases hl1 : (1048576 : Int) < (len1 : Int)
  · go_enter Try.func11, Try.ntmps11
    go_wp2
    go_ret
    exact ⟨rfl, Below.refl _ _⟩
  · go_enter Try.func11, Try.ntmps11
    go_wp2_with fail
    refine (drawSymbolSplit_any _ len0 _ HC.out).mono ?_
    rintro e w1 ⟨a, b, rfl, _, hb⟩
    cases hV : spltV a b with
    | false =>
      have P := hid hV
      clear hV
      go_wp2_with fail
      refine (symbolSplit_any a b _).mono ?_
      rw [P.out]
      rintro e w' ⟨rfl, hb1⟩
      have hB1 := hb.trans (hb1.mono hb.size)
      go_wp2_with fail
      refine (symbolSplitS_any a b _).mono ?_
      rw [P.out]
      rintro e w' ⟨rfl, hb2⟩
      have hB2 := hB1.trans (hb2.mono hB1.size)
      go_wp2
      go_ret
      exact ⟨rfl, hB2⟩
    | true =>
      have P := hid hV
      obtain ⟨k, hk⟩ : ∃ k : Nat, k = 1 + len1 % 5 := ⟨_, rfl⟩
      have hk1 : 1 ≤ k := by omega
      have hk6 : k ≤ 5 := by omega
      have hke : 1 + (len1 : Int) % 5 = (k : Int) := by rw [hk]; push_cast; rfl
      obtain ⟨f1, f2, f3⟩ := split_facts (k := (k : Int)) hV (by omega)
      have F1 := hid f1
      have F2 := hid f2
      have F3 := hid f3
      have hbd : -5000 ≤ a ∧ a ≤ 5000 ∧ -5000 ≤ b ∧ b ≤ 5000 := by
        rcases okAB_cases a b with ⟨a1, a2, _, b1, b2, _, _⟩ | hO
        · exact ⟨a1, a2, b1, b2⟩
        · unfold spltV at hV; rw [hO] at hV; cases hV
      obtain ⟨a1', a2', b1', b2'⟩ := hbd
      have hab := mul_bdI a1' a2' b1' b2'
      have ab1 := hab.1
      have ab2 := hab.2
      have nk : (a * (k : Int)).natAbs ≤ 5000 * 5 := by rw [Int.natAbs_mul]; exact Nat.mul_le_mul (by omega) (by omega)
      have nk1 : -25000 ≤ a * (k : Int) := by omega
      have nk2 : a * (k : Int) ≤ 25000 := by omega
      have nkk : (a * (k : Int) * (k : Int)).natAbs ≤ 25000 * 5 := by rw [Int.natAbs_mul]; exact Nat.mul_le_mul nk (by omega)
      have nkk1 : -125000 ≤ a * (k : Int) * (k : Int) := by omega
      have nkk2 : a * (k : Int) * (k : Int) ≤ 125000 := by omega
      have em : (0 - a * b).natAbs = (-(a * b)).natAbs := by rw [Int.zero_sub]
      rw [em, Int.zero_sub] at F3
      clear hV f1 f2 f3 hab nk nkk hk em
      go_wp2_with fail
      refine (symbolSplit_any a b _).mono ?_
      rw [P.out]
      rintro e w' ⟨rfl, hb1⟩
      have hB1 := hb.trans (hb1.mono hb.size)
      go_wp2_with fail
      refine (symbolSplitS_any a b _).mono ?_
      rw [P.out]
      rintro e w' ⟨rfl, hb2⟩
      have hB2 := hB1.trans (hb2.mono hB1.size)
      go_wp2_with fail
      refine (symbolSplit_any b a _).mono ?_
      rw [F1.out]
      rintro e w' ⟨rfl, hb3⟩
      have HB3 := hid (hB2.trans (hb3.mono hB2.size))
      clear hb hb1 hb2 hb3 hB1 hB2
      have hs3 := HB3.out.size
      by_cases hbig : (a * (k : Int) * (k : Int)).natAbs ≤ 5000
      · have G2 := hid (F2.out hbig)
        have hle : ¬ ((5000 : Int) < (((a * (k : Int) * (k : Int)).natAbs : Nat) : Int)) := by omega
        clear hbig
        by_cases hbig2 : (-(a * b)).natAbs ≤ 5000
        · have G3 := hid (F3.out hbig2)
          have hle2 : ¬ ((5000 : Int) < (((-(a * b)).natAbs : Nat) : Int)) := by omega
          clear hbig2
          go_wp2_with (go_at_call 21; refine (sizeOf_any _ (by omega) (by omega) _).mono ?_; rintro e w' ⟨rfl, rfl⟩)
          refine (symbolSplit_any _ _ _).mono ?_
          rw [G2.out]
          rintro e wA ⟨rfl, hbA⟩
          go_wp2_with (go_at_call 21; refine (sizeOf_any _ (by omega) (by omega) _).mono ?_; rintro e w' ⟨rfl, rfl⟩)
          refine (symbolSplit_any _ _ _).mono ?_
          rw [G3.out]
          rintro e wB ⟨rfl, hbB⟩
          go_wp2
          go_ret
          exact ⟨rfl, HB3.out.trans ((hbA.mono hs3).trans (hbB.mono (Nat.le_trans hs3 hbA.size)))⟩
        · have hle2 : ((5000 : Int) < (((-(a * b)).natAbs : Nat) : Int)) := by omega
          clear hbig2
          go_wp2_with (go_at_call 21; refine (sizeOf_any _ (by omega) (by omega) _).mono ?_; rintro e w' ⟨rfl, rfl⟩)
          refine (symbolSplit_any _ _ _).mono ?_
          rw [G2.out]
          rintro e wA ⟨rfl, hbA⟩
          go_wp2_with (go_at_call 21; refine (sizeOf_any _ (by omega) (by omega) _).mono ?_; rintro e w' ⟨rfl, rfl⟩)
          go_ret
          exact ⟨rfl, HB3.out.trans (hbA.mono hs3)⟩
      · have hle : ((5000 : Int) < (((a * (k : Int) * (k : Int)).natAbs : Nat) : Int)) := by omega
        clear hbig
        by_cases hbig2 : (-(a * b)).natAbs ≤ 5000
        · have G3 := hid (F3.out hbig2)
          have hle2 : ¬ ((5000 : Int) < (((-(a * b)).natAbs : Nat) : Int)) := by omega
          clear hbig2
          go_wp2_with (go_at_call 21; refine (sizeOf_any _ (by omega) (by omega) _).mono ?_; rintro e w' ⟨rfl, rfl⟩)
          refine (symbolSplit_any _ _ _).mono ?_
          rw [G3.out]
          rintro e wB ⟨rfl, hbB⟩
          go_wp2
          go_ret
          exact ⟨rfl, HB3.out.trans (hbB.mono hs3)⟩
        · have hle2 : ((5000 : Int) < (((-(a * b)).natAbs : Nat) : Int)) := by omega
          clear hbig2
          go_wp2_with (go_at_call 21; refine (sizeOf_any _ (by omega) (by omega) _).mono ?_; rintro e w' ⟨rfl, rfl⟩)
          go_ret
          exact ⟨rfl, HB3.out⟩
theorem own : ownKnob Try.prog.godebug = none := by kernel_rfl
theorem laidOut : laidOutB Try.prog = true := by kernel_rfl
set_option maxRecDepth 100000 in
theorem lifted (os : Os) (started : os.Started) (H : Type) (enc : TypeId × Value → H) :
    ReturnsInHanded {} Try.checked os 11 .any (Rows.fnSplitSpec.pre6 enc Try.prog Try.f11 Rows.fnSplitRow.domain false) (Rows.fnSplitSpec.post enc Try.prog Try.f11 false true false false) := by
  refine returnsInHanded_of_change (C := Try.checked) own started (by kernel_rfl) Try.func11
    (ChangeSpec.witness6 (enc := enc) (C := Try.checked) false ⟨#[], #[.slice none 0 0, .slice none 0 0], []⟩ 8 (by kernel_rfl) (by kernel_rfl) (by kernel_rfl) (by kernel_rfl)) ?_
  intro W base args ds gs before hval0 hW hcnd _
  have hval : ∀ (j : Nat) t v, Try.f11.params[j]? = some t → args[j]? = some v → Value.okWide Try.prog W .any base t v := hval0
  have hW' := hW
  obtain ⟨p, q, hA0, hV, rfl, hfz, hnd⟩ := hW
  have hA : DataW.TrodAll enc Try.prog W 0 (fun _ => true) true Try.f11.params.toList args.toList ds p := hA0
  rw [Try.params11] at hA hval
  obtain ⟨v0, vs0, d0, ds0, p0, q0, hargs, rfl, rfl, h0, r0⟩ := trodAll_cons hA
  obtain ⟨v1, vs1, d1, ds1, p1, q1, rfl, rfl, rfl, h1, r1⟩ := trodAll_cons r0
  obtain ⟨rfl, rfl, rfl⟩ := trodAll_nil r1
  obtain rfl : args = #[v0, v1] := by cases args; simp_all
  obtain ⟨rfl, rfl⟩ := trodVars_none hV
  obtain ⟨a0, len0, cap0, rfl⟩ := okWide_slice Try.underlying22 (hval 0 22 v0 rfl rfl)
  have k0 := h0
  have lt0 : ∀ x ∈ p0, x.block < W.heap.size := by obtain ⟨m, hm⟩ := k0; exact DataW.trod_lt m _ _ _ hm
  obtain ⟨z0, w0⟩ : ∃ zs, IsRow .u8 W a0 len0 cap0 zs := by
    obtain ⟨fuel, hf⟩ := h0
    rcases open_ints Try.underlying22 Try.underlying5 (by kernel_rfl) hf with ⟨hcs, _⟩ | ⟨x, l, c, zs, hcs, _, hl, hm, hz, _, hcell, hwz⟩
    · simp [Value.cells] at hcs
      obtain ⟨rfl, rfl, rfl⟩ := hcs
      exact ⟨[], .inl ⟨rfl, rfl, rfl, rfl⟩⟩
    · simp [Value.cells] at hcs
      obtain ⟨rfl, rfl, rfl⟩ := hcs
      exact ⟨zs, .inr ⟨_, rfl, hl, hm, by simpa using hz, hcell, hwz⟩⟩
  obtain ⟨a1, len1, cap1, rfl⟩ := okWide_slice Try.underlying22 (hval 1 22 v1 rfl rfl)
  have k1 := h1
  have lt1 : ∀ x ∈ p1, x.block < W.heap.size := by obtain ⟨m, hm⟩ := k1; exact DataW.trod_lt m _ _ _ hm
  obtain ⟨z1, w1⟩ : ∃ zs, IsRow .u8 W a1 len1 cap1 zs := by
    obtain ⟨fuel, hf⟩ := h1
    rcases open_ints Try.underlying22 Try.underlying5 (by kernel_rfl) hf with ⟨hcs, _⟩ | ⟨x, l, c, zs, hcs, _, hl, hm, hz, _, hcell, hwz⟩
    · simp [Value.cells] at hcs
      obtain ⟨rfl, rfl, rfl⟩ := hcs
      exact ⟨[], .inl ⟨rfl, rfl, rfl, rfl⟩⟩
    · simp [Value.cells] at hcs
      obtain ⟨rfl, rfl, rfl⟩ := hcs
      exact ⟨zs, .inr ⟨_, rfl, hl, hm, by simpa using hz, hcell, hwz⟩⟩
  clear hA0 hval0
  refine (walk a0 len0 cap0 z0 a1 len1 cap1 z1 W w0 w1).mono fun e W' ⟨he, bel⟩ => ?_
  subst he
  exact ⟨_, rfl, _, _, _, [], _, [], hW', trodAll_mk1 (shut_bool Try.underlying4 _), (trodAll_cons_mk (Below.trod laidOut (by kernel_rfl) (of_decide_eq_true (by kernel_rfl)) k0 bel lt0) (trodAll_cons_mk (Below.trod laidOut (by kernel_rfl) (of_decide_eq_true (by kernel_rfl)) k1 bel lt1) trodAll_mk0)), rfl, bel.frame _, fun h => by cases h⟩
theorem over : Rows.fnSplitRow.holds Try.pinned (OpenSpec.ofChange Rows.fnSplitSpec) :=
  OpenClaim.holds_of_wide 11 Try.f11 rfl rfl rfl rfl rfl rfl rfl ⟨rfl, rfl, rfl, rfl, rfl⟩ rfl rfl rfl rfl rfl (by kernel_rfl) Try.func11 (by kernel_rfl)
    (of_decide_eq_true (by kernel_rfl)) (by unfold Func.isWrapper; first | (rw [if_pos (by decide +kernel)]; kernel_rfl) | (rw [if_neg (by decide +kernel)]; exact ⟨rfl, rfl⟩))
    (fun os started H enc _ => lifted os started H enc)
theorem proved : Rows.FnSplitSaid := over
end Go.Proofs.Ytdidmblkknnglaa.fnSplit
