/-
  Proves: for every code: the primes of a number are primes, ascending, and their powers make the number.
  Conditions: none beyond the given statement's own.
-/
import Derived.Test.YtehjiejijlboeaaRows
import Derived.Test.YtehjiejijlboeaaLawMath
import Derived.Test.YtehjiejijlboeaaLists
import Derived.Test.YtehjiejijlboeaaSame
import Derived.Test.YtehjiejijlboeaaDraws1
import Derived.Test.YtehjiejijlboeaaRowWord
import Derived.Test.YtehjiejijlboeaaRegion
import Derived.ProofKit
import Derived.OpenShut
import Derived.ShutString
import Derived.ChangeOld
namespace Go.Proofs.Ytehjiejijlboeaa.fnPrimesOf
open Go.ChangeShapes Go.WideShapes Go.ChangeAt Go.RowKit
open Go.ChangeMaps (open_string shut_string)
set_option linter.unusedVariables false
def prodN (N : Nat) (l : List Nat) : Nat := l.foldl (fun a p => a * p ^ val N p) 1
theorem prodN_take (N : Nat) (l : List Nat) (i : Nat) (h : i < l.length) : prodN N (l.take (i + 1)) = prodN N (l.take i) * (l.getD i 0) ^ val N (l.getD i 0) := by
  unfold prodN
  rw [List.take_add_one, List.getElem?_eq_getElem h, List.foldl_append]
  simp [List.getD, List.getElem?_eq_getElem h]
def listOk (N : Nat) : Bool :=
  decide (N = 0) || ((plist N).all primeN && prodN N (plist N) == N && (List.range ((plist N).length + 1)).all (fun i => decide (prodN N ((plist N).take i) ≤ 5000)) &&
    (List.range (plist N).length).all (fun i => decide (i + 1 < (plist N).length → (plist N).getD i 0 < (plist N).getD (i + 1) 0)))
theorem listOk_all : (List.range 119 ++ [5000, 4096, 3969]).all listOk = true := by decide +kernel
structure Parts (n : Int) (L : List Int) (p v F : Nat → Nat) : Prop where
  elem : ∀ i, i < L.length → L.getD i 0 = (p i : Int)
  prime : ∀ i, i < L.length → primeI (p i : Int) = true
  small : ∀ i, i < L.length → 2 ≤ p i ∧ p i ≤ 5000
  valu : ∀ i, i < L.length → valV n (p i : Int) = (v i : Int)
  vsmall : ∀ i, i < L.length → v i ≤ 5000
  step : ∀ i, i < L.length → F (i + 1) = F i * p i ^ v i
  asc : ∀ i, i + 1 < L.length → p i < p (i + 1)
  start : F 0 = 1
  bound : ∀ i, i ≤ L.length → F i ≤ 5000
  whole : F L.length = n.natAbs
  len : L.length ≤ 100
theorem parts {n : Int} (hn : numOk n) (hF : factB n = true) : ∃ p v F : Nat → Nat, Parts n (natsI (plist n.natAbs)) p v F := by
  have hb : -5000 ≤ n ∧ n ≤ 5000 ∧ n ≠ 0 := by
    rcases factB_cases n with ⟨f1, f2, f0, _, _⟩ | ⟨_, h⟩ | ⟨_, _, h⟩
    · exact ⟨f1, f2, f0⟩
    · rw [hF] at h; cases h
    · rw [hF] at h; cases h
  obtain ⟨b1, b2, b0⟩ := hb
  obtain ⟨N, hN⟩ : ∃ N, N = n.natAbs := ⟨_, rfl⟩
  have := List.all_eq_true.1 listOk_all N (by unfold numOk at hn; simp; omega)
  unfold listOk at this
  rw [decide_eq_false (by omega)] at this
  simp only [Bool.false_or, Bool.and_eq_true, beq_iff_eq] at this
  obtain ⟨⟨⟨h1, h2⟩, h3⟩, h4⟩ := this
  have hl : (natsI (plist N)).length = (plist N).length := natsI_len _
  have hpr : ∀ i, i < (plist N).length → primeN ((plist N).getD i 0) = true := fun i hi => by
    rw [List.getD, List.getElem?_eq_getElem hi]
    exact List.all_eq_true.1 h1 _ (List.getElem_mem hi)
  rw [← hN]
  refine ⟨fun i => (plist N).getD i 0, fun i => val N ((plist N).getD i 0), fun i => prodN N ((plist N).take i), ?_⟩
  constructor
  · intro i hi
    have hi2 : i < (plist N).length := by omega
    unfold natsI
    simp only [List.getD]
    rw [List.getElem?_map, List.getElem?_eq_getElem hi2]
    rfl
  · intro i hi; exact hpr i (by omega)
  · intro i hi
    have := primeN_bd (hpr i (by omega))
    exact ⟨this.1, this.2.1⟩
  · intro i hi
    rw [valV_yes hF (show primeI (((plist N).getD i 0 : Nat) : Int) = true from hpr i (by omega)), Int.toNat_natCast, ← hN]
  · intro i hi
    have h2 := (primeN_bd (hpr i (by omega))).1
    exact Nat.le_trans (val_le _ h2 _ _ (Nat.le_refl _)) (by omega)
  · intro i hi; exact prodN_take N _ i (by omega)
  · intro i hi
    have := List.all_eq_true.1 h4 i (List.mem_range.2 (by omega))
    exact of_decide_eq_true this (by omega)
  · rfl
  · intro i hi
    exact of_decide_eq_true (List.all_eq_true.1 h3 i (List.mem_range.2 (by omega)))
  · show prodN N ((plist N).take _) = _
    rw [hl, List.take_length, h2, hN]
  · have := ppow_len N
    rw [hl, plist_eq, List.length_map]
    omega

theorem sizeOf_any (n : Int) (h1 : -6000 ≤ n) (h2 : n ≤ 6000) (w : World) : Calls Try.prog 25 #[.int .i64 n] w fun e w' => e = .returned (.int .i64 (n.natAbs : Nat)) ∧ w = w' := by
  by_cases h : n < 0
  · have hm : max n (-n) = ((n.natAbs : Nat) : Int) := by omega
    have hm2 : max n (0 - n) = ((n.natAbs : Nat) : Int) := by omega
    go_enter Try.func25, Try.ntmps25
    go_wp2
    go_ret
    exact ⟨retI (by omega), rfl⟩
  · go_enter Try.func25, Try.ntmps25
    go_wp2
    go_ret
    exact ⟨retI (by omega), rfl⟩

set_option maxRecDepth 100000 in
set_option maxHeartbeats 2000000 in
theorem walk (a0 : Option Addr) (len0 cap0 : Nat) (z0 : List Int) (w : World) (w0 : IsRow .u8 w a0 len0 cap0 z0) :
    Calls Try.prog 4 #[.slice a0 len0 cap0] w fun e w' => e = .returned (.bool true) ∧ Below w.heap.size w w' := by
  have HC := hid (codeIn_of w0)
  clear w0
  by_cases hl : (1048576 : Int) < (len0 : Int)
  · go_enter Try.func4, Try.ntmps4
    go_wp2
    go_ret
    exact ⟨rfl, Below.refl _ _⟩
  · go_enter Try.func4, Try.ntmps4
    go_wp2_with fail
    refine (drawPrimesOf_any _ len0 _ HC.out).mono ?_
    rintro e w1 ⟨n, rfl, hn, hb⟩
    have hn2 := numOk_small hn
    have n1 := hn2.1
    have n2 := hn2.2
    have HN := hid hn
    clear hn hn2
    have HI : Hid (∀ w : World, Calls Try.prog 21 #[.int .i64 n] w fun e w' => ∃ v, e = .returned v ∧ Owns w' w.heap.size v (natsI (if factB n then plist n.natAbs else [])) ∧ Below w.heap.size w w') := hid (fun w => primesOf_any n w)
    have HJ : Hid (∀ w : World, Calls Try.prog 23 #[.int .i64 n] w fun e w' => ∃ v, e = .returned v ∧ Owns w' w.heap.size v (natsI (if factB n then plist n.natAbs else [])) ∧ Below w.heap.size w w') := hid (fun w => primesOfS_any n w)
    have HP : Hid ((∃ p v F : Nat → Nat, Parts n (natsI (if factB n then plist n.natAbs else [])) p v F) ∨ natsI (if factB n then plist n.natAbs else []) = []) := by
      cases hF : factB n with
      | true => exact .inl (parts HN.out hF)
      | false => exact .inr rfl
    obtain ⟨L, hL⟩ : ∃ L, L = natsI (if factB n then plist n.natAbs else []) := ⟨_, rfl⟩
    rw [← hL] at HI HJ HP
    clear hL
    go_wp2_with fail
    refine (HI.out _).mono ?_
    rintro e w2 ⟨v1, rfl, o1, b1⟩
    have O1 := hid o1
    clear o1
    go_wp2_with fail
    refine (HJ.out _).mono ?_
    rintro e w3 ⟨v2, rfl, o2, b2⟩
    have O2 := hid o2
    have O1b := hid (O1.out.keep O1.out.lt b2)
    have s1 := Nat.le_trans hb.size b1.size
    have B3 := hid ((hb.trans (b1.mono hb.size)).trans (b2.mono s1))
    clear o2 hb b1 b2 s1
    have HQ := hid (sameInts_any _ _ _ _ _ O1b.out.rd O2.out.rd)
    rcases O1b.out.rd with ⟨a, cap, rfl, e0⟩ | ⟨b, o, cap, rfl, l0, lm, _⟩
    · subst e0
      go_wp2_with fail
      refine (sameInts_any _ _ _ _ _ O1b.out.rd O2.out.rd).mono ?_
      rintro e w4 ⟨rfl, k, rfl⟩
      go_wp2_with fail
      refine (sameInts_any _ _ _ _ _ (O1b.out.drewN k).rd (O2.out.drewN k).rd).mono ?_
      rintro e w5 ⟨rfl, k5, rfl⟩
      go_wp2
      go_ret
      exact ⟨retB (by simp), below_drewN B3.out (k + k5)⟩
    · obtain ⟨p, v, F, hP⟩ : ∃ p v F : Nat → Nat, Parts n L p v F := by
        rcases HP.out with h | h
        · exact h
        · rw [h] at l0; simp at l0
      have hP1 := hid hP
      have hlen := hP.len
      have F0 := hP.start
      have HF0 := hid F0
      clear hP F0
      have T0 : ((L.length : Int) == 0) = false := by rw [beq_eq_false_iff_ne]; omega
      go_wp2_with fail
      refine (sameInts_any _ _ _ _ _ O1b.out.rd O2.out.rd).mono ?_
      rintro e w4 ⟨rfl, k, hw4⟩
      have HX : Hid (∀ wr : World, Below w3.heap.size w3 wr → ∀ i, i < L.length → wr.cell? ⟨b, o + i, none⟩ = some (.int .i64 (p i : Nat))) := by
        intro wr hbr i hi
        rcases (O1b.out.keep O1b.out.lt hbr).rd with ⟨_, _, _, e2⟩ | ⟨b', o', cap', e, _, _, hc⟩
        · rw [e2] at hi; simp at hi
        · cases e; rw [← hP1.out.elem i hi]; exact hc i hi
      have B4 : Hid (Below w3.heap.size w3 w4) := by show Below _ _ _; rw [hw4]; exact below_drewN (Below.refl _ _) k
      clear hw4
      have hS3 := B3.out.size
      go_wp2_with fail
      go_loopw [6, 7] (fun q i wr => ∃ K : Nat, i = .int .i64 K ∧ K ≤ L.length ∧ q = .int .i64 (F K : Nat) ∧ Below w3.heap.size w3 wr) (fun _ i _ => L.length - (intOf i).toNat)
      case atStart => exact ⟨0, rfl, by omega, by rw [HF0.out]; rfl, B4.out⟩
      case round =>
        obtain ⟨K, rfl, hK, rfl, hBr⟩ := hrel
        by_cases hlt : K < L.length
        · obtain ⟨P, hPe⟩ : ∃ P, P = p K := ⟨_, rfl⟩
          obtain ⟨V, hVe⟩ : ∃ V, V = v K := ⟨_, rfl⟩
          have c1 := HX.out _ hBr K hlt
          have hp2 := hP1.out.small K hlt
          have hv2 := hP1.out.vsmall K hlt
          have hpr := hP1.out.prime K hlt
          have hvv := hP1.out.valu K hlt
          have hst := hP1.out.step K hlt
          have hbd := hP1.out.bound (K + 1) hlt
          rw [← hPe] at c1 hp2 hpr hvv hst
          rw [← hVe] at hv2 hvv hst
          have p1 := hp2.1
          have p2 := hp2.2
          have HPr := hid hpr
          have HVv := hid hvv
          have HSt := hid hst
          have HBd := hid hbd
          have HPe := hid hPe
          have hi : (K : Int) < (L.length : Int) := by omega
          have HLT := hid hlt
          clear hPe hVe hpr hvv hst hbd hp2
          by_cases h0 : K = 0
          · subst h0
            rw [Nat.add_zero] at c1
            clear hlt
            go_wp2_with fail
            refine wp_region_held_drew (S := fun wr => Below w3.heap.size w3 wr ∧ wr.cell? ⟨b, o, none⟩ = some (.int .i64 (P : Nat))) (by kernel_rfl) ⟨hBr.drew, c1⟩ (fun hHeld => ?_)
            refine h_take _ (i := 0) (v := ?_) (d := some 37) rfl rfl (by kernel_rfl) (by kernel_rfl) (by kernel_rfl) (fun _ _ _ h => h) (by rfl) ?_ (by assumption) ?_
            rotate_left
            · (intro w hSw; (try dsimp only at hSw); go_simp <;> with_reducible rfl)
            try simp only [Act.put, List.setIfInBounds_toArray, List.set_cons_zero, List.set_cons_succ]
            refine h_take _ (i := 1) (v := ?_) (d := some 38) rfl rfl (by kernel_rfl) (by kernel_rfl) (by kernel_rfl) (fun _ _ _ h => h) (by rfl) ?_ (by assumption) ?_
            rotate_left
            · (intro w hSw; (try dsimp only at hSw); go_simp <;> with_reducible rfl)
            try simp only [Act.put, List.setIfInBounds_toArray, List.set_cons_zero, List.set_cons_succ]
            refine h_take _ (i := 2) (v := ?_) (d := some 39) rfl rfl (by kernel_rfl) (by kernel_rfl) (by kernel_rfl) (fun _ _ _ h => h) (by rfl) ?_ (by assumption) ?_
            rotate_left
            · (intro w hSw; (try dsimp only at hSw); go_simp <;> with_reducible rfl)
            try simp only [Act.put, List.setIfInBounds_toArray, List.set_cons_zero, List.set_cons_succ]
            refine h_take _ (i := 3) (v := ?_) (d := some 40) rfl rfl (by kernel_rfl) (by kernel_rfl) (by kernel_rfl) (fun _ _ _ h => h) (by rfl) ?_ (by assumption) ?_
            rotate_left
            · (intro w hSw; (try dsimp only at hSw); go_simp <;> with_reducible rfl)
            try simp only [Act.put, List.setIfInBounds_toArray, List.set_cons_zero, List.set_cons_succ]
            refine wpAnyH_ready (rs := [4]) (by kernel_rfl) (by simp) ?_
            refine AllReadyH.cons rfl (fun K hK => ?_) AllReadyH.nil
            go_simp
            go_at_call 16
            refine (primeIs_any _ _).mono ?_
            rw [HPr.out]
            rintro e w5 ⟨rfl, hbq⟩
            have hb2 := hid (hBr.trans ((below_of_drew hbq).mono hBr.size))
            have c2 := HX.out _ hb2.out 0 HLT.out
            rw [Nat.add_zero, ← HPe.out] at c2
            go_wp2_with fail
            refine hK.out _ _ ⟨hb2.out, c2⟩ (fun hHeld2 => ?_)
            clear hK K
            try simp only [Act.put, List.setIfInBounds_toArray, List.set_cons_zero, List.set_cons_succ]
            refine h_take _ (i := 5) (v := ?_) (d := some 42) rfl rfl (by kernel_rfl) (by kernel_rfl) (by kernel_rfl) (fun _ _ _ h => h) (by rfl) ?_ (by assumption) ?_
            rotate_left
            · (intro w hSw; (try dsimp only at hSw); go_simp <;> with_reducible rfl)
            try simp only [Act.put, List.setIfInBounds_toArray, List.set_cons_zero, List.set_cons_succ]
            refine h_take _ (i := 6) (v := ?_) (d := some 43) rfl rfl (by kernel_rfl) (by kernel_rfl) (by kernel_rfl) (fun _ _ _ h => h) (by rfl) ?_ (by assumption) ?_
            rotate_left
            · (intro w hSw; (try dsimp only at hSw); go_simp <;> with_reducible rfl)
            try simp only [Act.put, List.setIfInBounds_toArray, List.set_cons_zero, List.set_cons_succ]
            refine h_take _ (i := 7) (v := ?_) (d := some 44) rfl rfl (by kernel_rfl) (by kernel_rfl) (by kernel_rfl) (fun _ _ _ h => h) (by rfl) ?_ (by assumption) ?_
            rotate_left
            · (intro w hSw; (try dsimp only at hSw); go_simp <;> with_reducible rfl)
            try simp only [Act.put, List.setIfInBounds_toArray, List.set_cons_zero, List.set_cons_succ]
            refine h_take _ (i := 8) (v := ?_) (d := some 45) rfl rfl (by kernel_rfl) (by kernel_rfl) (by kernel_rfl) (fun _ _ _ h => h) (by rfl) ?_ (by assumption) ?_
            rotate_left
            · (intro w hSw; (try dsimp only at hSw); go_simp <;> with_reducible rfl)
            try simp only [Act.put, List.setIfInBounds_toArray, List.set_cons_zero, List.set_cons_succ]
            refine h_take _ (i := 9) (v := ?_) (d := some 46) rfl rfl (by kernel_rfl) (by kernel_rfl) (by kernel_rfl) (fun _ _ _ h => h) (by rfl) ?_ (by assumption) ?_
            rotate_left
            · (intro w hSw; (try dsimp only at hSw); go_simp <;> with_reducible rfl)
            try simp only [Act.put, List.setIfInBounds_toArray, List.set_cons_zero, List.set_cons_succ]
            refine h_skip _ (i := 10) (d := some 47) rfl rfl (by kernel_rfl) (by kernel_rfl) (by kernel_rfl) (fun _ _ _ h => h) (by rfl) (by assumption) ?_
            try simp only [Act.put, List.setIfInBounds_toArray, List.set_cons_zero, List.set_cons_succ]
            refine h_skip _ (i := 11) (d := some 48) rfl rfl (by kernel_rfl) (by kernel_rfl) (by kernel_rfl) (fun _ _ _ h => h) (by rfl) (by assumption) ?_
            try simp only [Act.put, List.setIfInBounds_toArray, List.set_cons_zero, List.set_cons_succ]
            refine h_skip _ (i := 12) (d := some 49) rfl rfl (by kernel_rfl) (by kernel_rfl) (by kernel_rfl) (fun _ _ _ h => h) (by rfl) (by assumption) ?_
            try simp only [Act.put, List.setIfInBounds_toArray, List.set_cons_zero, List.set_cons_succ]
            refine h_skip _ (i := 13) (d := some 50) rfl rfl (by kernel_rfl) (by kernel_rfl) (by kernel_rfl) (fun _ _ _ h => h) (by rfl) (by assumption) ?_
            try simp only [Act.put, List.setIfInBounds_toArray, List.set_cons_zero, List.set_cons_succ]
            refine h_skip _ (i := 14) (d := some 51) rfl rfl (by kernel_rfl) (by kernel_rfl) (by kernel_rfl) (fun _ _ _ h => h) (by rfl) (by assumption) ?_
            try simp only [Act.put, List.setIfInBounds_toArray, List.set_cons_zero, List.set_cons_succ]
            refine h_skip _ (i := 15) (d := some 52) rfl rfl (by kernel_rfl) (by kernel_rfl) (by kernel_rfl) (fun _ _ _ h => h) (by rfl) (by assumption) ?_
            try simp only [Act.put, List.setIfInBounds_toArray, List.set_cons_zero, List.set_cons_succ]
            refine h_skip _ (i := 16) (d := some 53) rfl rfl (by kernel_rfl) (by kernel_rfl) (by kernel_rfl) (fun _ _ _ h => h) (by rfl) (by assumption) ?_
            try simp only [Act.put, List.setIfInBounds_toArray, List.set_cons_zero, List.set_cons_succ]
            refine h_skip _ (i := 17) (d := some 54) rfl rfl (by kernel_rfl) (by kernel_rfl) (by kernel_rfl) (fun _ _ _ h => h) (by rfl) (by assumption) ?_
            try simp only [Act.put, List.setIfInBounds_toArray, List.set_cons_zero, List.set_cons_succ]
            refine h_skip _ (i := 18) (d := some 55) rfl rfl (by kernel_rfl) (by kernel_rfl) (by kernel_rfl) (fun _ _ _ h => h) (by rfl) (by assumption) ?_
            try simp only [Act.put, List.setIfInBounds_toArray, List.set_cons_zero, List.set_cons_succ]
            refine h_skip _ (i := 19) (d := some 56) rfl rfl (by kernel_rfl) (by kernel_rfl) (by kernel_rfl) (fun _ _ _ h => h) (by rfl) (by assumption) ?_
            try simp only [Act.put, List.setIfInBounds_toArray, List.set_cons_zero, List.set_cons_succ]
            refine h_take _ (i := 20) (v := ?_) (d := some 57) rfl rfl (by kernel_rfl) (by kernel_rfl) (by kernel_rfl) (fun _ _ _ h => h) (by rfl) ?_ (by assumption) ?_
            rotate_left
            · (intro w hSw; (try dsimp only at hSw); go_simp <;> with_reducible rfl)
            try simp only [Act.put, List.setIfInBounds_toArray, List.set_cons_zero, List.set_cons_succ]
            refine h_take _ (i := 21) (v := ?_) (d := some 58) rfl rfl (by kernel_rfl) (by kernel_rfl) (by kernel_rfl) (fun _ _ _ h => h) (by rfl) ?_ (by assumption) ?_
            rotate_left
            · (intro w hSw; (try dsimp only at hSw); go_simp <;> with_reducible rfl)
            try simp only [Act.put, List.setIfInBounds_toArray, List.set_cons_zero, List.set_cons_succ]
            refine wpAnyH_done (by kernel_rfl) ?_ _
            obtain ⟨Q0, hQ0⟩ : ∃ Q0, Q0 = F 0 := ⟨_, rfl⟩
            rw [← hQ0]
            have HQ0 := hid hQ0
            have hb3 := hb2.out
            clear hQ0
            go_wp2_with fail
            refine (valuationOf_any n (P : Int) _).mono ?_
            rw [HVv.out]
            rintro e w6 ⟨rfl, hb4⟩
            have hb5 := hid (hb3.trans (hb4.mono hb3.size))
            clear hb3 hb4
            go_wp2_with fail
            go_loopw [6, 9] (fun q k wx => ∃ (J Q : Nat), k = .int .i64 J ∧ J ≤ V ∧ q = .int .i64 Q ∧ Hid (Q = Q0 * P ^ J) ∧ wx = w6) (fun _ k _ => V - (intOf k).toNat)
            case atStart => exact ⟨0, Q0, rfl, by omega, rfl, hid (by simp), rfl⟩
            case round =>
              obtain ⟨J, Q, rfl, hJ, rfl, HQ, rfl⟩ := hrel
              by_cases hlt2 : J < V
              · have m0 : Hid (Q * P = Q0 * P ^ (J + 1)) := hid (by rw [HQ.out, Nat.mul_assoc, ← Nat.pow_succ])
                have mq : Q * P ≤ 5000 := by
                  rw [m0.out]
                  refine Nat.le_trans (Nat.mul_le_mul_left _ (Nat.pow_le_pow_right (by omega) hlt2)) ?_
                  rw [HQ0.out, ← HSt.out]; exact HBd.out
                have m1 : (0 : Int) ≤ (Q : Int) * (P : Int) := by rw [← Int.natCast_mul]; exact Int.natCast_nonneg _
                have m2 : (Q : Int) * (P : Int) ≤ 5000 := by rw [← Int.natCast_mul]; omega
                have c3 := HX.out _ hb5.out 0 HLT.out
                rw [Nat.add_zero] at c3
                rw [← HPe.out] at c3
                have hJi : (J : Int) < (V : Int) := by omega
                clear mq
                go_wp2
                go_round
                case measure => simp only [intOf]; omega
                case rel => exact ⟨J + 1, Q * P, by go_num, by omega, vI (by push_cast; go_num), hid m0.out, by first | rfl | trivial⟩
              · obtain rfl : J = V := by omega
                clear hlt2
                have e1 : Hid (F (0 + 1) = Q) := hid (by rw [HSt.out, HQ.out, HQ0.out])
                go_wp2
                go_round
                case measure => simp only [intOf]; omega
                case rel => exact ⟨0 + 1, by go_num, by omega, by rw [e1.out], hb5.out⟩
          · obtain ⟨J0, hJ0⟩ : ∃ J0, K = J0 + 1 := ⟨K - 1, by omega⟩
            obtain ⟨P0, hP0⟩ : ∃ P0, P0 = p J0 := ⟨_, rfl⟩
            have HP0 := hid hP0
            have hJ1 : J0 < L.length := by omega
            have HJ1 := hid hJ1
            have c1b := HX.out _ hBr J0 hJ1
            rw [← hP0] at c1b
            have hasc := hP1.out.asc J0 (by omega)
            rw [← hP0, ← hJ0, ← HPe.out] at hasc
            have d0 : 0 < K := by omega
            have d0b : (0 : Int) < (K : Int) := by omega
            have d1 : ¬ ((P : Int) ≤ (P0 : Int)) := by omega
            have d1b : ¬ (P ≤ P0) := by omega
            have d3 : (0 : Int) ≤ (J0 : Int) := by omega
            have d4 : (J0 : Int) < (L.length : Int) := by omega
            have d2 : IntKind.i64.wrap ((K : Int) - 1) = (J0 : Int) := by rw [hJ0]; exact pred_nat J0 (by omega)
            have HJ0 := hid hJ0
            clear h0 hlt hasc hP0 hJ0 hJ1
            go_wp2_with fail
            go_region_held3 (fun wr => Below w3.heap.size w3 wr ∧ wr.cell? ⟨b, o + K, none⟩ = some (.int .i64 (P : Nat)) ∧ wr.cell? ⟨b, o + J0, none⟩ = some (.int .i64 (P0 : Nat))) (first | exact ⟨hb2.out, c2, c2b⟩ | exact ⟨hBr.drew, c1, c1b⟩)
              (first | (go_at_call 16; refine (primeIs_any _ _).mono ?_; rw [HPr.out]; rintro e w' ⟨rfl, hbq⟩; have hb2 := hid (hBr.trans ((below_of_drew hbq).mono hBr.size)); have c2 := HX.out _ hb2.out K HLT.out; rw [← HPe.out] at c2; have c2b := HX.out _ hb2.out J0 HJ1.out; rw [← HP0.out] at c2b))
            clear d0 d0b d1 d2
            obtain ⟨Q0, hQ0⟩ : ∃ Q0, Q0 = F K := ⟨_, rfl⟩
            rw [← hQ0]
            have HQ0 := hid hQ0
            have hb3 := hb2.out
            clear hQ0
            go_wp2_with fail
            refine (valuationOf_any n (P : Int) _).mono ?_
            rw [HVv.out]
            rintro e w6 ⟨rfl, hb4⟩
            have hb5 := hid (hb3.trans (hb4.mono hb3.size))
            clear hb3 hb4
            go_wp2_with fail
            go_loopw [6, 9] (fun q k wx => ∃ (J Q : Nat), k = .int .i64 J ∧ J ≤ V ∧ q = .int .i64 Q ∧ Hid (Q = Q0 * P ^ J) ∧ wx = w6) (fun _ k _ => V - (intOf k).toNat)
            case atStart => exact ⟨0, Q0, rfl, by omega, rfl, hid (by simp), rfl⟩
            case round =>
              obtain ⟨J, Q, rfl, hJ, rfl, HQ, rfl⟩ := hrel
              by_cases hlt2 : J < V
              · have m0 : Hid (Q * P = Q0 * P ^ (J + 1)) := hid (by rw [HQ.out, Nat.mul_assoc, ← Nat.pow_succ])
                have mq : Q * P ≤ 5000 := by
                  rw [m0.out]
                  refine Nat.le_trans (Nat.mul_le_mul_left _ (Nat.pow_le_pow_right (by omega) hlt2)) ?_
                  rw [HQ0.out, ← HSt.out]; exact HBd.out
                have m1 : (0 : Int) ≤ (Q : Int) * (P : Int) := by rw [← Int.natCast_mul]; exact Int.natCast_nonneg _
                have m2 : (Q : Int) * (P : Int) ≤ 5000 := by rw [← Int.natCast_mul]; omega
                have c3 := HX.out _ hb5.out K HLT.out
                rw [← HPe.out] at c3
                have hJi : (J : Int) < (V : Int) := by omega
                clear mq
                go_wp2
                go_round
                case measure => simp only [intOf]; omega
                case rel => exact ⟨J + 1, Q * P, by go_num, by omega, vI (by push_cast; go_num), hid m0.out, by first | rfl | trivial⟩
              · obtain rfl : J = V := by omega
                clear hlt2
                have e1 : Hid (F (K + 1) = Q) := hid (by rw [HSt.out, HQ.out, HQ0.out])
                go_wp2
                go_round
                case measure => simp only [intOf]; omega
                case rel => exact ⟨K + 1, by go_num, by omega, by rw [e1.out], hb5.out⟩
        · obtain rfl : K = L.length := by omega
          have hw := hid hP1.out.whole
          obtain ⟨M, hM⟩ : ∃ M, M = F L.length := ⟨_, rfl⟩
          rw [← hM] at hw ⊢
          have Tw : ((M : Int) == ((n.natAbs : Nat) : Int)) = true := by rw [hw.out]; simp
          clear hlt hM
          go_wp2_with fail
          refine (sizeOf_any n (by omega) (by omega) _).mono ?_
          rintro e w' ⟨rfl, rfl⟩
          go_wp2
          go_ret
          exact ⟨rfl, B3.out.trans (hBr.mono hS3)⟩
theorem own : ownKnob Try.prog.godebug = none := by kernel_rfl
theorem laidOut : laidOutB Try.prog = true := by kernel_rfl
set_option maxRecDepth 100000 in
theorem lifted (os : Os) (started : os.Started) (H : Type) (enc : TypeId × Value → H) :
    ReturnsInHanded {} Try.checked os 4 .any (Rows.fnPrimesOfSpec.pre6 enc Try.prog Try.f4 Rows.fnPrimesOfRow.domain false) (Rows.fnPrimesOfSpec.post enc Try.prog Try.f4 false true false false) := by
  refine returnsInHanded_of_change (C := Try.checked) own started (by kernel_rfl) Try.func4
    (ChangeSpec.witness6 (enc := enc) (C := Try.checked) false ⟨#[], #[.slice none 0 0], []⟩ 8 (by kernel_rfl) (by kernel_rfl) (by kernel_rfl) (by kernel_rfl)) ?_
  intro W base args ds gs before hval0 hW hcnd _
  have hval : ∀ (j : Nat) t v, Try.f4.params[j]? = some t → args[j]? = some v → Value.okWide Try.prog W .any base t v := hval0
  have hW' := hW
  obtain ⟨p, q, hA0, hV, rfl, hfz, hnd⟩ := hW
  have hA : DataW.TrodAll enc Try.prog W 0 (fun _ => true) true Try.f4.params.toList args.toList ds p := hA0
  rw [Try.params4] at hA hval
  obtain ⟨v0, vs0, d0, ds0, p0, q0, hargs, rfl, rfl, h0, r0⟩ := trodAll_cons hA
  obtain ⟨rfl, rfl, rfl⟩ := trodAll_nil r0
  obtain rfl : args = #[v0] := by cases args; simp_all
  obtain ⟨rfl, rfl⟩ := trodVars_none hV
  obtain ⟨a0, len0, cap0, rfl⟩ := okWide_slice Try.underlying22 (hval 0 22 v0 rfl rfl)
  have k0 := h0
  have lt0 : ∀ x ∈ p0, x.block < W.heap.size := by obtain ⟨m, hm⟩ := k0; exact DataW.trod_lt m _ _ _ hm
  obtain ⟨z0, w0⟩ : ∃ zs, IsRow .u8 W a0 len0 cap0 zs := by
    obtain ⟨fuel, hf⟩ := h0
    rcases open_ints Try.underlying22 Try.underlying5 (by kernel_rfl) hf with ⟨hcs, _⟩ | ⟨x, l, c, zs, hcs, _, hl, hm, hz, _, hcell, hwz⟩
    · simp [Value.cells] at hcs
      obtain ⟨rfl, rfl, rfl⟩ := hcs
      exact ⟨[], .inl ⟨rfl, rfl, rfl, rfl⟩⟩
    · simp [Value.cells] at hcs
      obtain ⟨rfl, rfl, rfl⟩ := hcs
      exact ⟨zs, .inr ⟨_, rfl, hl, hm, by simpa using hz, hcell, hwz⟩⟩
  clear hA0 hval0
  refine (walk a0 len0 cap0 z0 W w0).mono fun e W' ⟨he, bel⟩ => ?_
  subst he
  exact ⟨_, rfl, _, _, _, [], _, [], hW', trodAll_mk1 (shut_bool Try.underlying4 _), (trodAll_cons_mk (Below.trod laidOut (by kernel_rfl) (of_decide_eq_true (by kernel_rfl)) k0 bel lt0) trodAll_mk0), rfl, bel.frame _, fun h => by cases h⟩
theorem over : Rows.fnPrimesOfRow.holds Try.pinned (OpenSpec.ofChange Rows.fnPrimesOfSpec) :=
  OpenClaim.holds_of_wide 4 Try.f4 rfl rfl rfl rfl rfl rfl rfl ⟨rfl, rfl, rfl, rfl, rfl⟩ rfl rfl rfl rfl rfl (by kernel_rfl) Try.func4 (by kernel_rfl)
    (of_decide_eq_true (by kernel_rfl)) (by unfold Func.isWrapper; first | (rw [if_pos (by decide +kernel)]; kernel_rfl) | (rw [if_neg (by decide +kernel)]; exact ⟨rfl, rfl⟩))
    (fun os started H enc _ => lifted os started H enc)
theorem proved : Rows.FnPrimesOfSaid := over
end Go.Proofs.Ytehjiejijlboeaa.fnPrimesOf
