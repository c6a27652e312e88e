/-
  Proves: for every two codes: a square has even valuations, is no square times any of its primes, and has a root up to every modulus.
  Conditions: none beyond the given statement's own.
-/
import Derived.Test.YtehjiejijlboeaaRows
import Derived.Test.YtehjiejijlboeaaLawMath
import Derived.Test.YtehjiejijlboeaaArith
import Derived.Test.YtehjiejijlboeaaLists
import Derived.Test.YtehjiejijlboeaaDraws1
import Derived.Test.YtehjiejijlboeaaRowWord
import Derived.ProofKit
import Derived.OpenShut
import Derived.ShutString
import Derived.ChangeOld
namespace Go.Proofs.Ytehjiejijlboeaa.fnSquare
open Go.ChangeShapes Go.WideShapes Go.ChangeAt Go.RowKit
open Go.ChangeMaps (open_string shut_string)
set_option linter.unusedVariables false
def sqN (N : Nat) : Bool := (List.range 72).any (fun x => x * x == N)
theorem sqB_nat (N : Nat) : sqB (N : Int) = sqN N := by
  unfold sqB sqN
  congr 1
  funext x
  rw [Bool.eq_iff_iff, beq_iff_eq, beq_iff_eq]
  constructor
  · intro h; exact_mod_cast h
  · intro h; exact_mod_cast h
def sqOk (x : Nat) : Bool := decide (x = 0) || (plist (x * x)).all (fun p => val (x * x) p % 2 == 0 && primeN p && (decide (5000 < x * x * p) || !sqN (x * x * p)))
theorem sqOk_all : (List.range 71).all sqOk = true := by decide +kernel
theorem sq_spec {x p : Nat} (h1 : 1 ≤ x) (h2 : x ≤ 70) (hp : p ∈ plist (x * x)) : val (x * x) p % 2 = 0 ∧ primeN p = true ∧ (5000 < x * x * p ∨ sqN (x * x * p) = false) := by
  have := List.all_eq_true.1 sqOk_all x (List.mem_range.2 (by omega))
  unfold sqOk at this
  rw [decide_eq_false (by omega), Bool.false_or] at this
  have := List.all_eq_true.1 this p hp
  simp only [Bool.and_eq_true, beq_iff_eq, Bool.or_eq_true, decide_eq_true_eq, Bool.not_eq_true'] at this
  exact ⟨this.1.1, this.1.2, this.2⟩
theorem sq_root {n : Int} (h5 : n ≤ 5000) (h : sqB n = true) : ∃ x : Nat, x ≤ 70 ∧ n = ((x * x : Nat) : Int) := by
  unfold sqB at h
  rw [List.any_eq_true] at h
  obtain ⟨x, hx, he⟩ := h
  rw [beq_iff_eq] at he
  rw [List.mem_range] at hx
  refine ⟨x, ?_, by push_cast; omega⟩
  by_cases h7 : x = 71
  · subst h7; omega
  · omega
theorem root_sq {x m : Nat} (hm : 1 ≤ m) : ∃ z, rootF (x * x % m) m = some z := by
  have h : (rootF (x * x % m) m).isSome = true := by
    unfold rootF
    rw [List.find?_isSome]
    exact ⟨x % m, List.mem_range.2 (Nat.mod_lt _ hm), by rw [beq_iff_eq, ← Nat.mul_mod]⟩
  exact Option.isSome_iff_exists.1 h
def SqElem (n p : Int) : Prop := 2 ≤ p ∧ p ≤ 5000 ∧ (∃ y, valV n p = y ∧ 0 ≤ y ∧ y ≤ 5000 ∧ y % 2 = 0) ∧ (okN (n * p) && sqB (n * p)) = false
theorem sq_elem {x p : Nat} (h1 : 1 ≤ x) (h2 : x ≤ 70) (hp : p ∈ plist (x * x)) : SqElem ((x * x : Nat) : Int) (p : Int) := by
  obtain ⟨a, b, c⟩ := sq_spec h1 h2 hp
  have hb := primeN_bd b
  have x1 : 1 ≤ x * x := Nat.mul_le_mul h1 h1
  have x2 : x * x ≤ 70 * 70 := Nat.mul_le_mul h2 h2
  have hv : val (x * x) p ≤ x * x := val_le _ (by omega) _ _ (Nat.le_refl _)
  have hF : factB ((x * x : Nat) : Int) = true := factB_yes (by omega) (by omega) (by omega)
  refine ⟨by omega, by omega, ⟨_, rfl, ?_⟩, ?_⟩
  · rw [valV_yes hF (show primeI (p : Int) = true from b), Int.natAbs_natCast, Int.toNat_natCast]
    omega
  · rw [Bool.and_eq_false_iff]
    rcases c with c | c
    · left
      rw [Bool.eq_false_iff]
      intro h
      have h3 := (okN_iff.1 h).2
      rw [← Int.natCast_mul] at h3
      omega
    · right
      rw [← Int.natCast_mul, sqB_nat]
      exact c
theorem sq_list {n : Int} {x : Nat} (h2 : x ≤ 70) (hn : n = ((x * x : Nat) : Int)) : ∀ i, i < (natsI (if factB n then plist n.natAbs else [])).length → SqElem n ((natsI (if factB n then plist n.natAbs else [])).getD i 0) := by
  subst hn
  by_cases h0 : x = 0
  · subst h0
    intro i hi
    rw [show factB ((0 * 0 : Nat) : Int) = false from rfl] at hi
    simp [natsI] at hi
  · have x1 : 1 ≤ x * x := Nat.mul_le_mul (show 1 ≤ x by omega) (show 1 ≤ x by omega)
    have x2 : x * x ≤ 70 * 70 := Nat.mul_le_mul h2 h2
    rw [factB_yes (by omega) (by omega) (by omega), if_pos rfl, Int.natAbs_natCast]
    intro i hi
    have hi2 : i < (plist (x * x)).length := by simpa [natsI] using hi
    have e : (natsI (plist (x * x))).getD i 0 = ((plist (x * x))[i] : Int) := by
      unfold natsI
      rw [List.getD, List.getElem?_map, List.getElem?_eq_getElem hi2]
      rfl
    rw [e]
    exact sq_elem (by omega) h2 (List.getElem_mem hi2)

set_option maxRecDepth 100000 in
set_option maxHeartbeats 2000000 in
theorem walk (a0 : Option Addr) (len0 cap0 : Nat) (z0 : List Int) (a1 : Option Addr) (len1 cap1 : Nat) (z1 : List Int) (w : World) (w0 : IsRow .u8 w a0 len0 cap0 z0) (w1 : IsRow .u8 w a1 len1 cap1 z1) :
    Calls Try.prog 7 #[.slice a0 len0 cap0, .slice a1 len1 cap1] w fun e w' => e = .returned (.bool true) ∧ Below w.heap.size w w' := by
  have HC := hid (codeIn_of w0)
  clear w0 w1
  by_cases hl : (1048576 : Int) < (len0 : Int)
  · go_enter Try.func7, Try.ntmps7
    go_wp2
    go_ret
    exact ⟨rfl, Below.refl _ _⟩
  by_cases hl1 : (1048576 : Int) < (len1 : Int)
  · go_enter Try.func7, Try.ntmps7
    go_wp2
    go_ret
    exact ⟨rfl, Below.refl _ _⟩
  · go_enter Try.func7, Try.ntmps7
    go_wp2_with fail
    refine (drawSquareIs_any _ len0 _ HC.out).mono ?_
    rintro e w1 ⟨n, rfl, ⟨n1, n2⟩, hb⟩
    cases hV : (okN n && sqB n) with
    | false =>
      have P := hid hV
      clear hV
      go_wp2_with fail
      refine (squareIs_any n _).mono ?_
      rw [P.out]
      rintro e w' ⟨rfl, rfl⟩
      go_wp2_with fail
      refine (squareIsS_any n _).mono ?_
      rw [P.out]
      rintro e w' ⟨rfl, rfl⟩
      go_wp2
      go_ret
      exact ⟨rfl, hb⟩
    | true =>
      have P := hid hV
      rw [Bool.and_eq_true] at hV
      have hO := okN_iff.1 hV.1
      obtain ⟨x, x7, hx⟩ := sq_root hO.2 hV.2
      have HL := hid (sq_list x7 hx)
      have hlen : (natsI (if factB n then plist n.natAbs else [])).length ≤ 1000000 := primes_len n
      obtain ⟨M, hM⟩ : ∃ M : Nat, M = 1 + len1 * 7 % 90 := ⟨_, rfl⟩
      have hMe : 1 + (len1 : Int) * 7 % 90 = (M : Int) := by rw [hM]; push_cast; rfl
      have hPR : ∃ z : Nat, rootV n (M : Int) = .tuple #[.int .i64 z, .bool true] := by
        obtain ⟨z, hz⟩ := root_sq (x := x) (m := M) (by omega)
        refine ⟨z, ?_⟩
        rw [rootV_yes (by rw [hV.1]; simp [inR]; omega), hx, ← Int.natCast_emod, Int.toNat_natCast, Int.toNat_natCast, hz]
        rfl
      obtain ⟨z, hz⟩ := hPR
      have PR := hid hz
      have HI : Hid (∀ w : World, Calls Try.prog 21 #[.int .i64 n] w fun e w' => ∃ v, e = .returned v ∧ Owns w' w.heap.size v (natsI (if factB n then plist n.natAbs else [])) ∧ Below w.heap.size w w') := hid (fun w => primesOf_any n w)
      obtain ⟨L, hL⟩ : ∃ L, L = natsI (if factB n then plist n.natAbs else []) := ⟨_, rfl⟩
      rw [← hL] at HL HI hlen
      have n3 := hO.1
      have n4 := hO.2
      clear hV hO hx hM hz hL
      go_wp2_with fail
      refine (squareIs_any n _).mono ?_
      rw [P.out]
      rintro e w' ⟨rfl, rfl⟩
      go_wp2_with fail
      refine (squareIsS_any n _).mono ?_
      rw [P.out]
      rintro e w' ⟨rfl, rfl⟩
      go_wp2_with fail
      refine (HI.out _).mono ?_
      rintro e w4 ⟨v1, rfl, o1, b1⟩
      have B4 := hid (hb.trans (b1.mono hb.size))
      have S4 := B4.out.size
      have O1 := hid o1
      clear hb b1 o1
      rcases O1.out.rd with ⟨a, cap, rfl, e0⟩ | ⟨b, o, cap, rfl, l0, lm, _⟩
      · go_wp2_with fail
        go_loop [9] (fun k => k = .int .i64 0) (fun k => 0)
        case atStart => rfl
        case round =>
          obtain rfl := hrel
          go_wp2_with fail
          refine (rootMod_any n M _).mono ?_
          rw [PR.out]
          rintro e w' ⟨rfl, rfl⟩
          go_wp2
          go_ret
          exact ⟨rfl, B4.out⟩
      · have HX : Hid (∀ wr : World, Below w4.heap.size w4 wr → ∀ i, i < L.length → wr.cell? ⟨b, o + i, none⟩ = some (.int .i64 (L.getD i 0))) := by
          intro wr hbr i hi
          rcases (O1.out.keep O1.out.lt hbr).rd with ⟨_, _, _, e2⟩ | ⟨b', o', cap', e, _, _, hc⟩
          · rw [e2] at hi; simp at hi
          · cases e; exact hc i hi
        go_wp2_with fail
        go_loopw [9] (fun k wr => ∃ K : Nat, k = .int .i64 K ∧ K ≤ L.length ∧ Below w4.heap.size w4 wr) (fun k _ => L.length - (intOf k).toNat)
        case atStart => exact ⟨0, rfl, by omega, Below.refl _ _⟩
        case round =>
          obtain ⟨K, rfl, hK, hBr⟩ := hrel
          by_cases hlt : K < L.length
          · obtain ⟨p, hp⟩ : ∃ p, p = L.getD K 0 := ⟨_, rfl⟩
            have c1 := HX.out _ hBr K hlt
            obtain ⟨p1, p2, ⟨y, hy, y1, y2, y3⟩, hs⟩ := HL.out K hlt
            rw [← hp] at c1 p1 p2 hy hs
            have HY := hid hy
            have HS := hid hs
            have hi : (K : Int) < (L.length : Int) := by omega
            have T1 : (y % 2 != 0) = false := by rw [y3]; rfl
            have T2 : (y.tmod 2 != 0) = false := by rw [Int.tmod_eq_emod_of_nonneg y1]; exact T1
            have hnp : -60000000 ≤ n * p ∧ n * p ≤ 60000000 := by
              have h1 : (n * p).natAbs ≤ 6000 * 5000 := by rw [Int.natAbs_mul]; exact Nat.mul_le_mul (by omega) (by omega)
              omega
            have b1 := hnp.1
            have b2 := hnp.2
            have HP := hid hp
            clear hp hy hs hnp
            go_wp2_with fail
            refine (valuationOf_any n p _).mono ?_
            rw [HY.out]
            rintro e w' ⟨rfl, hb2⟩
            have hB2 := hBr.trans (hb2.mono hBr.size)
            have c2 := HX.out _ hB2 K hlt
            rw [← HP.out] at c2
            go_wp2_with fail
            refine (squareIs_any (n * p) _).mono ?_
            rw [HS.out]
            rintro e w' ⟨rfl, rfl⟩
            go_wp2
            go_roundw
            case rel => exact ⟨K + 1, by go_num, by omega, hB2⟩
            case measure => simp only [intOf]; omega
          · have hge : ¬ (K : Int) < (L.length : Int) := by omega
            clear hlt
            go_wp2_with fail
            refine (rootMod_any n M _).mono ?_
            rw [PR.out]
            rintro e w' ⟨rfl, rfl⟩
            go_wp2
            go_ret
            exact ⟨rfl, B4.out.trans (hBr.mono S4)⟩
theorem own : ownKnob Try.prog.godebug = none := by kernel_rfl
theorem laidOut : laidOutB Try.prog = true := by kernel_rfl
set_option maxRecDepth 100000 in
theorem lifted (os : Os) (started : os.Started) (H : Type) (enc : TypeId × Value → H) :
    ReturnsInHanded {} Try.checked os 7 .any (Rows.fnSquareSpec.pre6 enc Try.prog Try.f7 Rows.fnSquareRow.domain false) (Rows.fnSquareSpec.post enc Try.prog Try.f7 false true false false) := by
  refine returnsInHanded_of_change (C := Try.checked) own started (by kernel_rfl) Try.func7
    (ChangeSpec.witness6 (enc := enc) (C := Try.checked) false ⟨#[], #[.slice none 0 0, .slice none 0 0], []⟩ 8 (by kernel_rfl) (by kernel_rfl) (by kernel_rfl) (by kernel_rfl)) ?_
  intro W base args ds gs before hval0 hW hcnd _
  have hval : ∀ (j : Nat) t v, Try.f7.params[j]? = some t → args[j]? = some v → Value.okWide Try.prog W .any base t v := hval0
  have hW' := hW
  obtain ⟨p, q, hA0, hV, rfl, hfz, hnd⟩ := hW
  have hA : DataW.TrodAll enc Try.prog W 0 (fun _ => true) true Try.f7.params.toList args.toList ds p := hA0
  rw [Try.params7] at hA hval
  obtain ⟨v0, vs0, d0, ds0, p0, q0, hargs, rfl, rfl, h0, r0⟩ := trodAll_cons hA
  obtain ⟨v1, vs1, d1, ds1, p1, q1, rfl, rfl, rfl, h1, r1⟩ := trodAll_cons r0
  obtain ⟨rfl, rfl, rfl⟩ := trodAll_nil r1
  obtain rfl : args = #[v0, v1] := by cases args; simp_all
  obtain ⟨rfl, rfl⟩ := trodVars_none hV
  obtain ⟨a0, len0, cap0, rfl⟩ := okWide_slice Try.underlying22 (hval 0 22 v0 rfl rfl)
  have k0 := h0
  have lt0 : ∀ x ∈ p0, x.block < W.heap.size := by obtain ⟨m, hm⟩ := k0; exact DataW.trod_lt m _ _ _ hm
  obtain ⟨z0, w0⟩ : ∃ zs, IsRow .u8 W a0 len0 cap0 zs := by
    obtain ⟨fuel, hf⟩ := h0
    rcases open_ints Try.underlying22 Try.underlying5 (by kernel_rfl) hf with ⟨hcs, _⟩ | ⟨x, l, c, zs, hcs, _, hl, hm, hz, _, hcell, hwz⟩
    · simp [Value.cells] at hcs
      obtain ⟨rfl, rfl, rfl⟩ := hcs
      exact ⟨[], .inl ⟨rfl, rfl, rfl, rfl⟩⟩
    · simp [Value.cells] at hcs
      obtain ⟨rfl, rfl, rfl⟩ := hcs
      exact ⟨zs, .inr ⟨_, rfl, hl, hm, by simpa using hz, hcell, hwz⟩⟩
  obtain ⟨a1, len1, cap1, rfl⟩ := okWide_slice Try.underlying22 (hval 1 22 v1 rfl rfl)
  have k1 := h1
  have lt1 : ∀ x ∈ p1, x.block < W.heap.size := by obtain ⟨m, hm⟩ := k1; exact DataW.trod_lt m _ _ _ hm
  obtain ⟨z1, w1⟩ : ∃ zs, IsRow .u8 W a1 len1 cap1 zs := by
    obtain ⟨fuel, hf⟩ := h1
    rcases open_ints Try.underlying22 Try.underlying5 (by kernel_rfl) hf with ⟨hcs, _⟩ | ⟨x, l, c, zs, hcs, _, hl, hm, hz, _, hcell, hwz⟩
    · simp [Value.cells] at hcs
      obtain ⟨rfl, rfl, rfl⟩ := hcs
      exact ⟨[], .inl ⟨rfl, rfl, rfl, rfl⟩⟩
    · simp [Value.cells] at hcs
      obtain ⟨rfl, rfl, rfl⟩ := hcs
      exact ⟨zs, .inr ⟨_, rfl, hl, hm, by simpa using hz, hcell, hwz⟩⟩
  clear hA0 hval0
  refine (walk a0 len0 cap0 z0 a1 len1 cap1 z1 W w0 w1).mono fun e W' ⟨he, bel⟩ => ?_
  subst he
  exact ⟨_, rfl, _, _, _, [], _, [], hW', trodAll_mk1 (shut_bool Try.underlying4 _), (trodAll_cons_mk (Below.trod laidOut (by kernel_rfl) (of_decide_eq_true (by kernel_rfl)) k0 bel lt0) (trodAll_cons_mk (Below.trod laidOut (by kernel_rfl) (of_decide_eq_true (by kernel_rfl)) k1 bel lt1) trodAll_mk0)), rfl, bel.frame _, fun h => by cases h⟩
theorem over : Rows.fnSquareRow.holds Try.pinned (OpenSpec.ofChange Rows.fnSquareSpec) :=
  OpenClaim.holds_of_wide 7 Try.f7 rfl rfl rfl rfl rfl rfl rfl ⟨rfl, rfl, rfl, rfl, rfl⟩ rfl rfl rfl rfl rfl (by kernel_rfl) Try.func7 (by kernel_rfl)
    (of_decide_eq_true (by kernel_rfl)) (by unfold Func.isWrapper; first | (rw [if_pos (by decide +kernel)]; kernel_rfl) | (rw [if_neg (by decide +kernel)]; exact ⟨rfl, rfl⟩))
    (fun os started H enc _ => lifted os started H enc)
theorem proved : Rows.FnSquareSaid := over
end Go.Proofs.Ytehjiejijlboeaa.fnSquare
