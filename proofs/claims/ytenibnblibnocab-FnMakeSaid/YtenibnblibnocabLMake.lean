/-
  Proves: for every code: each triple that is made has the m and n that it was made of, which are known by it, and its children are greater.
  Conditions: none beyond the given statement's own.
-/
import Derived.Test.YtenibnblibnocabRows
import Derived.Test.YtenibnblibnocabTp1
import Derived.Test.YtenibnblibnocabTm1
import Derived.Test.YtenibnblibnocabDraws18
import Derived.Test.YtenibnblibnocabBun45
import Derived.ProofKit
import Derived.OpenShut
import Derived.ShutString
import Derived.ChangeOld
namespace Go.Proofs.Ytenibnblibnocab.fnMake
open Go.ChangeShapes Go.WideShapes Go.ChangeAt Go.RowKit
open Go.ChangeMaps (open_string shut_string)
set_option linter.unusedVariables false
theorem chi_c {m n : Nat} (h : Nd m n) {k : Nat} (hk : k < 3) : triC m n < triC (chiM k m n) (chiN k m n) := by
  obtain ⟨n1, hl, _⟩ := h
  have key : ∀ M N : Nat, m < M → n ≤ N → triC m n < triC M N := fun M N h1 h2 => by
    have e1 : m * m < M * M := Nat.mul_self_lt_mul_self h1
    have e2 : n * n ≤ N * N := Nat.mul_self_le_mul_self h2
    have f1 : ((m * m : Nat) : Int) = (m : Int) * m := by push_cast; rfl
    have f2 : ((n * n : Nat) : Int) = (n : Int) * n := by push_cast; rfl
    have f3 : ((M * M : Nat) : Int) = (M : Int) * M := by push_cast; rfl
    have f4 : ((N * N : Nat) : Int) = (N : Int) * N := by push_cast; rfl
    unfold triC
    omega
  rcases (show k = 0 ∨ k = 1 ∨ k = 2 by omega) with rfl | rfl | rfl
  · exact key (2 * m - n) m (by omega) (by omega)
  · exact key (2 * m + n) m (by omega) (by omega)
  · exact key (m + 2 * n) n (by omega) (by omega)
/-- a child's row -/
theorem chi_row {m n : Nat} (h : Nd m n) {k : Int} (k0 : 0 ≤ k) (k2 : k ≤ 2) : ∃ (d e f : Int) (o : Bool), nchiV k m n = .tuple #[.int .i64 d, .int .i64 e, .int .i64 f, .bool o] ∧ (o = true → triC m n < f ∧ triB d e f = true) := by
  have hc := chi_c h (k := k.toNat) (by omega)
  rw [nchi_v4 k0 k2]
  cases ht : triB (triA (chiM k.toNat m n) (chiN k.toNat m n)) (triBb (chiM k.toNat m n) (chiN k.toNat m n)) (triC (chiM k.toNat m n) (chiN k.toNat m n)) with
  | false => exact ⟨0, 0, 0, false, rfl, fun h => (by cases h)⟩
  | true => exact ⟨_, _, _, true, rfl, fun _ => ⟨hc, ht⟩⟩
theorem make_what {m n : Int} (h : makeOk m n = true) : ∃ M N : Nat, m = M ∧ n = N ∧ Nd M N ∧ triB (triA M N) (triBb M N) (triC M N) = true := by
  unfold makeOk inR at h
  simp only [Bool.and_eq_true, decide_eq_true_eq] at h
  obtain ⟨⟨m1, m2⟩, ⟨n1, n2⟩, ht⟩ := h
  obtain ⟨M, rfl⟩ := Int.eq_ofNat_of_zero_le (show 0 ≤ m by omega)
  obtain ⟨N, rfl⟩ := Int.eq_ofNat_of_zero_le (show 0 ≤ n by omega)
  exact ⟨M, N, rfl, rfl, nd_of_tri (by omega) (by omega) (by rw [← triBb_eq]; exact ht), ht⟩
set_option maxRecDepth 100000 in
set_option maxHeartbeats 4000000 in
theorem walk (a0 : Option Addr) (len0 cap0 : Nat) (z0 : List Int) (w : World) (w0 : IsRow .u8 w a0 len0 cap0 z0) :
    Calls Try.prog 9 #[.slice a0 len0 cap0] w fun e w' => e = .returned (.bool true) ∧ Below w.heap.size w w' := by
  have HC := hid (codeIn_of w0)
  clear w0
  by_cases hl : (1048576 : Int) < (len0 : Int)
  · go_enter Try.func9, Try.ntmps9
    go_wp2
    go_ret
    exact ⟨rfl, Below.refl _ _⟩
  · go_enter Try.func9, Try.ntmps9
    go_wp2_with fail
    refine (drawTripleMake_any _ len0 _ HC.out).mono ?_
    rintro e w1 ⟨m, n, rfl, _, hb⟩
    have HB1 := hid hb
    clear hb
    have HM := hid (fun wx => tripleMake_any m n wx)
    have HS := hid (fun wx => tripleMakeS_any m n wx)
    cases ho : makeOk m n with
    | false =>
      have HV := hid (makeV_no ho)
      rw [HV.out] at HM HS
      clear ho
      go_wp2_with fail
      refine (HM.out _).mono ?_
      rintro e w2 ⟨rfl, hb2⟩
      go_wp2_with fail
      refine (HS.out _).mono ?_
      rintro e w3 ⟨rfl, rfl⟩
      go_wp2
      go_ret
      exact ⟨rfl, HB1.out.trans (hb2.mono HB1.out.size)⟩
    | true =>
      have hV := makeV_yes ho
      obtain ⟨M, N, rfl, rfl, hn, ht⟩ := make_what ho
      have hc := nd_c hn ht
      have hb316 := nd_316 hc
      have hback : tbackV (triA M N) (triBb M N) (triC M N) = .tuple #[.int .i64 (M : Int), .int .i64 (N : Int), .bool true] := by
        obtain ⟨_, e1, e2⟩ := tri_nd2 hn hc
        unfold tbackV
        rw [ht, e1, e2]; rfl
      have HTB := hid (fun wx => tripleBack_any (triA M N) (triBb M N) (triC M N) wx)
      rw [hback] at HTB
      have HCH := hid (fun k (wx : World) => tripleChild_any (triA M N) (triBb M N) (triC M N) k wx)
      have HRW : Hid (∀ k : Int, 0 ≤ k → k ≤ 2 → ∃ (d e f : Int) (o : Bool), childV (triA M N) (triBb M N) (triC M N) k = .tuple #[.int .i64 d, .int .i64 e, .int .i64 f, .bool o] ∧ (o = true → triC M N < f ∧ triB d e f = true)) := hid (fun k k0 k2 => by
        obtain ⟨_, e1, e2⟩ := tri_nd2 hn hc
        unfold childV
        rw [ht, if_pos rfl, e1, e2]
        exact chi_row hn k0 k2)
      have HG : Hid (∀ wx : World, Calls Try.prog 28 #[.int .i64 (M : Int), .int .i64 (N : Int)] wx fun e w' => e = .returned (.int .i64 1) ∧ ∃ k, w' = wx.drewN k) := hid (fun wx => by
        have h := gcd_any (M : Int) N wx
        rw [gcdV_yes (by unfold okN; rw [decide_eq_true (show -5000 ≤ (M : Int) by omega), decide_eq_true (show (M : Int) ≤ 5000 by omega), decide_eq_true (show -5000 ≤ (N : Int) by omega), decide_eq_true (show (N : Int) ≤ 5000 by omega)]; rfl), Int.natAbs_natCast, Int.natAbs_natCast, hn.2.2.2] at h
        exact h)
      have hodd : ((M : Int) + N) % 2 = 1 := by have := hn.2.2.1; omega
      have TO : (((M : Int) + N) % 2 == 1) = true := by rw [beq_iff_eq]; exact hodd
      have hM := hb316.1
      have hN := hb316.2
      rw [hV] at HM HS
      obtain ⟨a, ha⟩ : ∃ a, a = triA M N := ⟨_, rfl⟩
      obtain ⟨b, hb⟩ : ∃ b, b = triBb M N := ⟨_, rfl⟩
      obtain ⟨c, hc'⟩ : ∃ c, c = triC M N := ⟨_, rfl⟩
      rw [show (M : Int) * M - N * N = a from ha.symm, show 2 * (M : Int) * N = b from hb.symm, show (M : Int) * M + N * N = c from hc'.symm] at HM HS
      rw [← ha, ← hb, ← hc'] at HTB HCH HRW
      clear ho hV hn ht hc hb316 hback hodd ha hb hc'
      go_wp2_with fail
      refine (HM.out _).mono ?_
      rintro e w2 ⟨rfl, hb2⟩
      have HB2 := hid (HB1.out.trans (hb2.mono HB1.out.size))
      clear hb2
      go_wp2_with fail
      refine (HS.out _).mono ?_
      rintro e w3 ⟨rfl, rfl⟩
      go_wp2_with fail
      refine (HTB.out _).mono ?_
      rintro e w4 ⟨rfl, hb4⟩
      have HB4 := hid (HB2.out.trans (hb4.mono HB2.out.size))
      clear hb4
      go_wp2_with fail
      go_loopw [16] (fun sk wr => ∃ K : Int, sk = .int .i64 K ∧ 0 ≤ K ∧ K ≤ 3 ∧ Hid (Below w.heap.size w wr)) (fun sk _ => (3 - intOf sk).toNat)
      case atStart => exact ⟨0, rfl, by omega, by omega, HB4⟩
      case round =>
        obtain ⟨K, rfl, k0, k3, HBR⟩ := hrel
        rename World => wr
        by_cases hlt : K < 3
        · obtain ⟨d, e, f, o, hv, hf⟩ := HRW.out K k0 (by omega)
          have HCK : Hid (∀ wx : World, Calls Try.prog 41 #[.int .i64 a, .int .i64 b, .int .i64 c, .int .i64 K] wx fun ed w' => ed = .returned (.tuple #[.int .i64 d, .int .i64 e, .int .i64 f, .bool o]) ∧ Below wx.heap.size wx w') := hid (fun wx => by rw [← hv]; exact HCH.out K wx)
          clear hv
          cases o with
          | false =>
            clear hf
            go_wp2_with fail
            refine (HCK.out _).mono ?_
            rintro e w5 ⟨rfl, hb5⟩
            have HB5 := hid (HBR.out.trans (hb5.mono HBR.out.size))
            clear hb5
            go_wp2_with fail
            go_roundw
            case measure => simp only [intOf]; omega
            case rel => exact ⟨K + 1, rfl, by omega, by omega, HB5⟩
          | true =>
            obtain ⟨h1, h2⟩ := hf rfl
            have HT2 := hid h2
            have h3 : ¬ f ≤ c := by omega
            have h4 : decide (f ≤ c) = false := decide_eq_false h3
            clear hf h1 h2
            go_wp2_with fail
            refine (HCK.out _).mono ?_
            rintro e2 w5 ⟨rfl, hb5⟩
            have HB5 := hid (HBR.out.trans (hb5.mono HBR.out.size))
            clear hb5
            go_wp2_with fail
            refine (tripleIs_any d e f _).mono ?_
            rw [HT2.out]
            rintro e3 w6 ⟨rfl, hb6⟩
            have HB6 := hid (HB5.out.trans (hb6.mono HB5.out.size))
            clear hb6
            go_wp2_with fail
            go_roundw
            case measure => simp only [intOf]; omega
            case rel => exact ⟨K + 1, rfl, by omega, by omega, HB6⟩
        · obtain rfl : K = 3 := by omega
          clear hlt
          go_wp2_with (go_at_call 28; refine (HG.out _).mono ?_; rintro e w9 ⟨rfl, k9, rfl⟩)
          go_ret
          exact ⟨rfl, below_drewN HBR.out k9⟩
theorem own : ownKnob Try.prog.godebug = none := by kernel_rfl
theorem laidOut : laidOutB Try.prog = true := by kernel_rfl
set_option maxRecDepth 100000 in
theorem lifted (os : Os) (started : os.Started) (H : Type) (enc : TypeId × Value → H) :
    ReturnsInHanded {} Try.checked os 9 .any (Rows.fnMakeSpec.pre6 enc Try.prog Try.f9 Rows.fnMakeRow.domain false) (Rows.fnMakeSpec.post enc Try.prog Try.f9 false true false false) := by
  refine returnsInHanded_of_change (C := Try.checked) own started (by kernel_rfl) Try.func9
    (ChangeSpec.witness6 (enc := enc) (C := Try.checked) false ⟨#[], #[.slice none 0 0], []⟩ 8 (by kernel_rfl) (by kernel_rfl) (by kernel_rfl) (by kernel_rfl)) ?_
  intro W base args ds gs before hval0 hW hcnd _
  have hval : ∀ (j : Nat) t v, Try.f9.params[j]? = some t → args[j]? = some v → Value.okWide Try.prog W .any base t v := hval0
  have hW' := hW
  obtain ⟨p, q, hA0, hV, rfl, hfz, hnd⟩ := hW
  have hA : DataW.TrodAll enc Try.prog W 0 (fun _ => true) true Try.f9.params.toList args.toList ds p := hA0
  rw [Try.params9] at hA hval
  obtain ⟨v0, vs0, d0, ds0, p0, q0, hargs, rfl, rfl, h0, r0⟩ := trodAll_cons hA
  obtain ⟨rfl, rfl, rfl⟩ := trodAll_nil r0
  obtain rfl : args = #[v0] := by cases args; simp_all
  obtain ⟨rfl, rfl⟩ := trodVars_none hV
  obtain ⟨a0, len0, cap0, rfl⟩ := okWide_slice Try.underlying22 (hval 0 22 v0 rfl rfl)
  have k0 := h0
  have lt0 : ∀ x ∈ p0, x.block < W.heap.size := by obtain ⟨m, hm⟩ := k0; exact DataW.trod_lt m _ _ _ hm
  obtain ⟨z0, w0⟩ : ∃ zs, IsRow .u8 W a0 len0 cap0 zs := by
    obtain ⟨fuel, hf⟩ := h0
    rcases open_ints Try.underlying22 Try.underlying5 (by kernel_rfl) hf with ⟨hcs, _⟩ | ⟨x, l, c, zs, hcs, _, hl, hm, hz, _, hcell, hwz⟩
    · simp [Value.cells] at hcs
      obtain ⟨rfl, rfl, rfl⟩ := hcs
      exact ⟨[], .inl ⟨rfl, rfl, rfl, rfl⟩⟩
    · simp [Value.cells] at hcs
      obtain ⟨rfl, rfl, rfl⟩ := hcs
      exact ⟨zs, .inr ⟨_, rfl, hl, hm, by simpa using hz, hcell, hwz⟩⟩
  clear hA0 hval0
  refine (walk a0 len0 cap0 z0 W w0).mono fun e W' ⟨he, bel⟩ => ?_
  subst he
  exact ⟨_, rfl, _, _, _, [], _, [], hW', trodAll_mk1 (shut_bool Try.underlying4 _), (trodAll_cons_mk (Below.trod laidOut (by kernel_rfl) (of_decide_eq_true (by kernel_rfl)) k0 bel lt0) trodAll_mk0), rfl, bel.frame _, fun h => by cases h⟩
theorem over : Rows.fnMakeRow.holds Try.pinned (OpenSpec.ofChange Rows.fnMakeSpec) :=
  OpenClaim.holds_of_wide 9 Try.f9 rfl rfl rfl rfl rfl rfl rfl ⟨rfl, rfl, rfl, rfl, rfl⟩ rfl rfl rfl rfl rfl (by kernel_rfl) Try.func9 (by kernel_rfl)
    (of_decide_eq_true (by kernel_rfl)) (by unfold Func.isWrapper; first | (rw [if_pos (by decide +kernel)]; kernel_rfl) | (rw [if_neg (by decide +kernel)]; exact ⟨rfl, rfl⟩))
    (fun os started H enc _ => lifted os started H enc)
theorem proved : Rows.FnMakeSaid := over
end Go.Proofs.Ytenibnblibnocab.fnMake
