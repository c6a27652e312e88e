/-
  Proves: for every code: a number is its core times the square of its root part, and a core is its own core.
  Conditions: none beyond the given statement's own.
-/
import Derived.Test.YtciajpimpjpnfacRows
import Derived.Test.YtciajpimpjpnfacCore2
import Derived.Test.YtciajpimpjpnfacBun36
import Derived.Test.YtciajpimpjpnfacBun14
import Derived.ProofKit
import Derived.OpenShut
import Derived.ShutString
import Derived.ChangeOld
namespace Go.Proofs.Ytciajpimpjpnfac.fnCore
open Go.ChangeShapes Go.WideShapes Go.ChangeAt Go.RowKit
open Go.ChangeMaps (open_string shut_string)
set_option linter.unusedVariables false
def sqN (N : Nat) : Bool := (List.range 72).any (fun x => x * x == N)
theorem sqB_nat (N : Nat) : sqB (N : Int) = sqN N := by
  unfold sqB sqN
  congr 1
  funext x
  rw [Bool.eq_iff_iff, beq_iff_eq, beq_iff_eq]
  constructor
  · intro h; exact_mod_cast h
  · intro h; exact_mod_cast h
theorem sqB_neg {n : Int} (h : n < 0) : sqB n = false := by
  rw [Bool.eq_false_iff]
  intro h2
  unfold sqB at h2
  rw [List.any_eq_true] at h2
  obtain ⟨x, _, hx⟩ := h2
  rw [beq_iff_eq] at hx
  have := Int.mul_nonneg (show (0 : Int) ≤ (x : Int) by omega) (show (0 : Int) ≤ (x : Int) by omega)
  omega
def coreOk (N : Nat) : Bool :=
  decide (N = 0) || (N / (rootN N * rootN N) * (rootN N * rootN N) == N && rootN (N / (rootN N * rootN N)) == 1 && (sqN N == (N / (rootN N * rootN N) == 1)) && decide (1 ≤ N / (rootN N * rootN N)))
theorem coreOk_all : (List.range 119 ++ [5000, 4096, 3969]).all coreOk = true := by decide +kernel
theorem core_spec {N : Nat} (h1 : 1 ≤ N) (h2 : N ≤ 5000) (h3 : N ≤ 118 ∨ N = 5000 ∨ N = 4096 ∨ N = 3969) : ∃ c r : Nat, rootN N = r ∧ N = c * (r * r) ∧ N / (r * r) = c ∧ rootN c = 1 ∧ sqN N = (c == 1) ∧ 1 ≤ c ∧ c ≤ N ∧ 1 ≤ r ∧ r ≤ 70 := by
  have := List.all_eq_true.1 coreOk_all N (by simp; omega)
  unfold coreOk at this
  rw [decide_eq_false (by omega)] at this
  simp only [Bool.false_or, Bool.and_eq_true, beq_iff_eq, decide_eq_true_eq] at this
  obtain ⟨⟨⟨a, b⟩, c⟩, d⟩ := this
  have hr := rootW_eq h1 h2
  exact ⟨_, _, rfl, a.symm, rfl, b, c, d, Nat.div_le_self _ _, hr.2.2, hr.2.1⟩
theorem core_law {n : Int} (a1 : -5000 ≤ n) (a2 : n ≤ 5000) (h0 : n ≠ 0) (hF : factB n = true) (hn : numOk n) : ∃ (c : Int) (r : Nat), coreV n = .tuple #[.int .i64 c, .int .i64 r, .bool true] ∧
    coreV c = .tuple #[.int .i64 c, .int .i64 1, .bool true] ∧ c * (r : Int) * (r : Int) = n ∧ sqB n = (c == 1) ∧ -5000 ≤ c ∧ c ≤ 5000 ∧ 1 ≤ r ∧ r ≤ 70 := by
  obtain ⟨c, r, hr, e, hd, hc, hs, c1, c2, r1, r2⟩ := core_spec (N := n.natAbs) (by omega) (by omega) (by unfold numOk at hn; omega)
  have hI : ∀ m : Int, m.natAbs = c * (r * r) → m.tdiv ((r : Int) * r) = if m < 0 then -(c : Int) else c := by
    intro m hm
    have hrr : (0 : Int) < (r : Int) * r := Int.mul_pos (by omega) (by omega)
    have e2 : (m.natAbs : Int) = c * ((r : Int) * r) := by rw [hm]; push_cast; rfl
    by_cases hneg : m < 0
    · rw [if_pos hneg, show m = -(c : Int) * ((r : Int) * r) by rw [Int.neg_mul]; omega, Int.mul_tdiv_cancel _ (by omega)]
    · rw [if_neg hneg, show m = (c : Int) * ((r : Int) * r) by omega, Int.mul_tdiv_cancel _ (by omega)]
  have hone : ∀ x : Int, x.natAbs = c → coreV x = .tuple #[.int .i64 x, .int .i64 1, .bool true] := by
    intro x hx
    have hFx : factB x = true := factB_yes (by omega) (by omega) (by omega)
    rw [coreV_yes hFx]
    unfold coreI
    rw [hx, hc]
    simp
  refine ⟨if n < 0 then -(c : Int) else c, r, ?_, hone _ (by split <;> omega), ?_, ?_, by split <;> omega, by split <;> omega, r1, r2⟩
  · rw [coreV_yes hF]
    unfold coreI
    rw [hr, hI n e]
  · have e2 : (n.natAbs : Int) = c * ((r : Int) * r) := by rw [e]; push_cast; rfl
    rw [Int.mul_assoc]
    split
    · rw [Int.neg_mul]; omega
    · omega
  · split
    · rw [sqB_neg (by omega)]
      symm
      rw [beq_eq_false_iff_ne]
      omega
    · rw [show n = (n.natAbs : Int) by omega, sqB_nat, hs, Bool.eq_iff_iff, beq_iff_eq, beq_iff_eq]
      omega

set_option maxRecDepth 100000 in
set_option maxHeartbeats 2000000 in
theorem walk (a0 : Option Addr) (len0 cap0 : Nat) (z0 : List Int) (w : World) (w0 : IsRow .u8 w a0 len0 cap0 z0) :
    Calls Try.prog 7 #[.slice a0 len0 cap0] w fun e w' => e = .returned (.bool true) ∧ Below w.heap.size w w' := by
  have HC := hid (codeIn_of w0)
  clear w0
  by_cases hl : (1048576 : Int) < (len0 : Int)
  · go_enter Try.func7, Try.ntmps7
    go_wp2
    go_ret
    exact ⟨rfl, Below.refl _ _⟩
  · go_enter Try.func7, Try.ntmps7
    go_wp2_with fail
    refine (drawCoreOf_any _ len0 _ HC.out).mono ?_
    rintro e w1 ⟨n, rfl, hn, hb⟩
    have hn2 := numOk_small hn
    have n1 := hn2.1
    have n2 := hn2.2
    have HN := hid hn
    clear hn hn2
    cases hF : factB n with
    | false =>
      have P := hid (coreV_no hF)
      clear hF
      go_wp2_with fail
      refine (coreOf_any n _).mono ?_
      rw [P.out]
      rintro e w' ⟨rfl, hb1⟩
      go_wp2_with fail
      refine (coreOfS_any n _).mono ?_
      rw [P.out]
      rintro e w' ⟨rfl, rfl⟩
      go_wp2
      go_ret
      exact ⟨retB (by simp), hb.trans (hb1.mono hb.size)⟩
    | true =>
      rcases factB_cases n with ⟨f1, f2, f0, _, _⟩ | ⟨_, h⟩ | ⟨_, _, h⟩
      · obtain ⟨c, r, h1, h2, h3, h4, c1, c2, r1, r2⟩ := core_law f1 f2 f0 hF HN.out
        have P := hid h1
        have P2 := hid h2
        have hcr : -350000 ≤ c * (r : Int) ∧ c * (r : Int) ≤ 350000 := by
          have h5 : (c * (r : Int)).natAbs ≤ 5000 * 70 := by rw [Int.natAbs_mul]; exact Nat.mul_le_mul (by omega) (by omega)
          omega
        have b1 := hcr.1
        have b2 := hcr.2
        have T : (c * (r : Int) * (r : Int) == n) = true := by rw [beq_iff_eq]; exact h3
        have b3 : c * (r : Int) * (r : Int) ≤ 5000 := by omega
        have b4 : -5000 ≤ c * (r : Int) * (r : Int) := by omega
        have hS : (okN n && sqB n) = (c == 1) := by rw [okN_iff.2 ⟨f1, f2⟩, h4]; rfl
        have PS := hid hS
        have PZ : Hid ((c = 1) ∨ (c == 1) = false) := by
          by_cases h : c = 1
          · exact .inl h
          · exact .inr (by rw [beq_eq_false_iff_ne]; exact h)
        clear hF h1 h2 hcr h4 hS f0 h3
        go_wp2_with fail
        refine (coreOf_any n _).mono ?_
        rw [P.out]
        rintro e w' ⟨rfl, hb1⟩
        go_wp2_with fail
        refine (coreOfS_any n _).mono ?_
        rw [P.out]
        rintro e w' ⟨rfl, rfl⟩
        go_wp2_with fail
        refine (coreOf_any c _).mono ?_
        rw [P2.out]
        rintro e w' ⟨rfl, hb2⟩
        go_wp2_with fail
        refine (squareIs_any n _).mono ?_
        rw [PS.out]
        rintro e w' ⟨rfl, rfl⟩
        have hB := hid ((hb.trans (hb1.mono hb.size)).trans (hb2.mono (Nat.le_trans hb.size hb1.size)))
        rcases PZ.out with rfl | Z
        all_goals
          go_wp2
          go_ret
          exact ⟨retB (by simp; omega), hB.out⟩
      · rw [hF] at h; cases h
      · rw [hF] at h; cases h
theorem own : ownKnob Try.prog.godebug = none := by kernel_rfl
theorem laidOut : laidOutB Try.prog = true := by kernel_rfl
set_option maxRecDepth 100000 in
theorem lifted (os : Os) (started : os.Started) (H : Type) (enc : TypeId × Value → H) :
    ReturnsInHanded {} Try.checked os 7 .any (Rows.fnCoreSpec.pre6 enc Try.prog Try.f7 Rows.fnCoreRow.domain false) (Rows.fnCoreSpec.post enc Try.prog Try.f7 false true false false) := by
  refine returnsInHanded_of_change (C := Try.checked) own started (by kernel_rfl) Try.func7
    (ChangeSpec.witness6 (enc := enc) (C := Try.checked) false ⟨#[], #[.slice none 0 0], []⟩ 8 (by kernel_rfl) (by kernel_rfl) (by kernel_rfl) (by kernel_rfl)) ?_
  intro W base args ds gs before hval0 hW hcnd _
  have hval : ∀ (j : Nat) t v, Try.f7.params[j]? = some t → args[j]? = some v → Value.okWide Try.prog W .any base t v := hval0
  have hW' := hW
  obtain ⟨p, q, hA0, hV, rfl, hfz, hnd⟩ := hW
  have hA : DataW.TrodAll enc Try.prog W 0 (fun _ => true) true Try.f7.params.toList args.toList ds p := hA0
  rw [Try.params7] at hA hval
  obtain ⟨v0, vs0, d0, ds0, p0, q0, hargs, rfl, rfl, h0, r0⟩ := trodAll_cons hA
  obtain ⟨rfl, rfl, rfl⟩ := trodAll_nil r0
  obtain rfl : args = #[v0] := by cases args; simp_all
  obtain ⟨rfl, rfl⟩ := trodVars_none hV
  obtain ⟨a0, len0, cap0, rfl⟩ := okWide_slice Try.underlying32 (hval 0 32 v0 rfl rfl)
  have k0 := h0
  have lt0 : ∀ x ∈ p0, x.block < W.heap.size := by obtain ⟨m, hm⟩ := k0; exact DataW.trod_lt m _ _ _ hm
  obtain ⟨z0, w0⟩ : ∃ zs, IsRow .u8 W a0 len0 cap0 zs := by
    obtain ⟨fuel, hf⟩ := h0
    rcases open_ints Try.underlying32 Try.underlying5 (by kernel_rfl) hf with ⟨hcs, _⟩ | ⟨x, l, c, zs, hcs, _, hl, hm, hz, _, hcell, hwz⟩
    · simp [Value.cells] at hcs
      obtain ⟨rfl, rfl, rfl⟩ := hcs
      exact ⟨[], .inl ⟨rfl, rfl, rfl, rfl⟩⟩
    · simp [Value.cells] at hcs
      obtain ⟨rfl, rfl, rfl⟩ := hcs
      exact ⟨zs, .inr ⟨_, rfl, hl, hm, by simpa using hz, hcell, hwz⟩⟩
  clear hA0 hval0
  refine (walk a0 len0 cap0 z0 W w0).mono fun e W' ⟨he, bel⟩ => ?_
  subst he
  exact ⟨_, rfl, _, _, _, [], _, [], hW', trodAll_mk1 (shut_bool Try.underlying4 _), (trodAll_cons_mk (Below.trod laidOut (by kernel_rfl) (of_decide_eq_true (by kernel_rfl)) k0 bel lt0) trodAll_mk0), rfl, bel.frame _, fun h => by cases h⟩
theorem over : Rows.fnCoreRow.holds Try.pinned (OpenSpec.ofChange Rows.fnCoreSpec) :=
  OpenClaim.holds_of_wide 7 Try.f7 rfl rfl rfl rfl rfl rfl rfl ⟨rfl, rfl, rfl, rfl, rfl⟩ rfl rfl rfl rfl rfl (by kernel_rfl) Try.func7 (by kernel_rfl)
    (of_decide_eq_true (by kernel_rfl)) (by unfold Func.isWrapper; first | (rw [if_pos (by decide +kernel)]; kernel_rfl) | (rw [if_neg (by decide +kernel)]; exact ⟨rfl, rfl⟩))
    (fun os started H enc _ => lifted os started H enc)
theorem proved : Rows.FnCoreSaid := over
end Go.Proofs.Ytciajpimpjpnfac.fnCore
