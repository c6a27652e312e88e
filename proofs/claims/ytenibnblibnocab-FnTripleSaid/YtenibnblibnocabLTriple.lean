/-
  Proves: for every code: a triple is a plain zero of 1, 1 and -1, its c is odd and greater than the others.
  Conditions: none beyond the given statement's own.
-/
import Derived.Test.YtenibnblibnocabTriF
import Derived.Test.YtenibnblibnocabBun0
import Derived.Test.YtenibnblibnocabBun2
import Derived.Test.YtenibnblibnocabZp1
import Derived.Laws.ResultCell
import Derived.Deep.RegionHeld3
import Derived.Test.YtenibnblibnocabDraws19
import Derived.Test.YtenibnblibnocabBun4
import Derived.BigQuiet
import Derived.Maps.AppendAt
import Derived.Test.YtenibnblibnocabRows
import Derived.Test.YtenibnblibnocabTm1
import Derived.Test.YtenibnblibnocabBun16
import Derived.Test.YtenibnblibnocabBun45
import Derived.ProofKit
import Derived.OpenShut
import Derived.ShutString
import Derived.ChangeOld
set_option linter.unusedVariables false
namespace Go.Proofs.Ytenibnblibnocab
open Go.RowKit

def tri3 (a b c : Int) : Value := .agg #[.int .i64 a, .int .i64 b, .int .i64 c]
def nd2 (m n : Int) : Value := .agg #[.int .i64 m, .int .i64 n]

theorem idx3 (x y z : Value) : (∀ w, (Instr.index 63 (.agg #[x, y, z]) (.int .i64 0)).run Try.prog w = .ok x w) ∧ (∀ w, (Instr.index 63 (.agg #[x, y, z]) (.int .i64 1)).run Try.prog w = .ok y w) ∧ (∀ w, (Instr.index 63 (.agg #[x, y, z]) (.int .i64 2)).run Try.prog w = .ok z w) :=
  ⟨fun _ => by kernel_rfl, fun _ => by kernel_rfl, fun _ => by kernel_rfl⟩
theorem below_two (w : World) (o1 o2 : Obj) : Below w.heap.size w ((w.alloc o1).alloc o2) := ((Below.refl _ _).alloc (Nat.le_refl _) _).alloc (by simp) _
def ValidPost (a b c : Int) (w : World) (e : Ending) (w' : World) : Prop := e = .returned (.bool (triB a b c)) ∧ Below w.heap.size w w'
theorem below_box (w : World) (o : Obj) : Below w.heap.size w (w.alloc o) := (Below.refl _ _).alloc (Nat.le_refl _) _
set_option maxRecDepth 100000 in
set_option maxHeartbeats 4000000 in
theorem triValid_any (a b c : Int) (w : World) : Calls Try.prog 82 #[.agg #[.int .i64 a, .int .i64 b, .int .i64 c]] w (ValidPost a b c w) := by
  obtain ⟨i0, i1, i2⟩ := idx3 (.int .i64 a) (.int .i64 b) (.int .i64 c)
  have HB := hid (below_box w (.cells #[.int .i64 a, .int .i64 b, .int .i64 c] 94))
  rcases inR_cases a 1 100000 with ⟨a1, a2, A⟩ | ⟨a1, A⟩ | ⟨a1, a2, A⟩
  · rcases inR_cases b 1 100000 with ⟨b1, b2, B⟩ | ⟨b1, B⟩ | ⟨b1, b2, B⟩
    · rcases inR_cases c 1 100000 with ⟨c1, c2, C⟩ | ⟨c1, C⟩ | ⟨c1, c2, C⟩
      · have ba := mul_bd2 a1 a2
        have bb := mul_bd2 b1 b2
        have bc := mul_bd2 c1 c2
        have ba1 := ba.1
        have ba2 := ba.2
        have bb1 := bb.1
        have bb2 := bb.2
        have bc1 := bc.1
        have bc2 := bc.2
        clear ba bb bc
        have ht := fun (g : Nat) (h : g = Nat.gcd a.natAbs b.natAbs) => triB_in2 h A B C
        obtain ⟨g, hg⟩ : ∃ g, g = Nat.gcd a.natAbs b.natAbs := ⟨_, rfl⟩
        have HG := hid hg.symm
        have HT := hid (ht g hg)
        clear hg ht
        go_enter Try.func82, Try.ntmps82
        go_wp2_with fail
        go_loop [12] (fun si => ∃ K : Int, si = .int .i64 K ∧ (K = 0 ∨ K = 1 ∨ K = 2 ∨ K = 3)) (fun si => (3 - intOf si).toNat)
        case atStart => exact ⟨0, rfl, .inl rfl⟩
        case round =>
          obtain ⟨K, rfl, hK⟩ := hrel
          rcases hK with rfl | rfl | rfl | rfl
          · go_wp2
            go_round
            case measure => simp [intOf]
            case rel => exact ⟨1, rfl, .inr (.inl rfl)⟩
          · go_wp2
            go_round
            case measure => simp [intOf]
            case rel => exact ⟨2, rfl, .inr (.inr (.inl rfl))⟩
          · go_wp2
            go_round
            case measure => simp [intOf]
            case rel => exact ⟨3, rfl, .inr (.inr (.inr rfl))⟩
          · by_cases o : a % 2 = 1
            · have T2 : (a % 2 == 1) = true := by rw [beq_iff_eq]; exact o
              by_cases e : a * a + b * b = c * c
              · have T1 : (a * a + b * b == c * c) = true := by rw [beq_iff_eq]; exact e
                have HT2 : Hid (triB a b c = decide (g = 1)) := hid (by rw [HT.out, decide_eq_true e, decide_eq_true o]; rfl)
                have HD : Hid (((g : Int) == 1) = decide (g = 1)) := hid (by rw [Bool.eq_iff_iff, beq_iff_eq, decide_eq_true_eq]; omega)
                clear e o
                go_wp2_with (go_at_call 75; refine (common_any _ _ (by omega) (by omega) (by omega) (by omega) _).mono ?_; rw [HG.out]; rintro e w' ⟨rfl, k, rfl⟩)
                go_ret
                exact ⟨retB (by rw [HT2.out, ← HD.out]), below_drewN HB.out k⟩
              · have T1 : (a * a + b * b == c * c) = false := by rw [beq_eq_false_iff_ne]; exact e
                have HT2 : Hid (triB a b c = false) := hid (by rw [HT.out, decide_eq_false e]; rfl)
                clear e o
                go_wp2_with fail
                go_ret
                exact ⟨retB HT2.out.symm, HB.out⟩
            · have T2 : (a % 2 == 1) = false := by rw [beq_eq_false_iff_ne]; exact o
              have HT2 : Hid (triB a b c = false) := hid (by rw [HT.out, decide_eq_false o, Bool.false_and, Bool.and_false])
              clear o
              go_wp2_with fail
              go_ret
              exact ⟨retB HT2.out.symm, HB.out⟩
      all_goals
        have HT := hid (triB_noC (a := a) (b := b) C)
        go_enter Try.func82, Try.ntmps82
        go_wp2_with fail
        go_loop [12] (fun si => ∃ K : Int, si = .int .i64 K ∧ (K = 0 ∨ K = 1 ∨ K = 2)) (fun si => (3 - intOf si).toNat)
        case atStart => exact ⟨0, rfl, .inl rfl⟩
        case round =>
          obtain ⟨K, rfl, hK⟩ := hrel
          rcases hK with rfl | rfl | rfl
          · go_wp2
            go_round
            case measure => simp [intOf]
            case rel => exact ⟨1, rfl, .inr (.inl rfl)⟩
          · go_wp2
            go_round
            case measure => simp [intOf]
            case rel => exact ⟨2, rfl, .inr (.inr rfl)⟩
          · go_wp2
            go_ret
            exact ⟨retB HT.out.symm, HB.out⟩
    all_goals
      have HT := hid (triB_noB (a := a) (c := c) B)
      go_enter Try.func82, Try.ntmps82
      go_wp2_with fail
      go_loop [12] (fun si => ∃ K : Int, si = .int .i64 K ∧ (K = 0 ∨ K = 1)) (fun si => (3 - intOf si).toNat)
      case atStart => exact ⟨0, rfl, .inl rfl⟩
      case round =>
        obtain ⟨K, rfl, hK⟩ := hrel
        rcases hK with rfl | rfl
        · go_wp2
          go_round
          case measure => simp [intOf]
          case rel => exact ⟨1, rfl, .inr rfl⟩
        · go_wp2
          go_ret
          exact ⟨retB HT.out.symm, HB.out⟩
  all_goals
    have HT := hid (triB_noA (b := b) (c := c) A)
    go_enter Try.func82, Try.ntmps82
    go_wp2_with fail
    go_loop [12] (fun si => ∃ K : Int, si = .int .i64 K ∧ K = 0) (fun si => (3 - intOf si).toNat)
    case atStart => exact ⟨0, rfl, rfl⟩
    case round =>
      obtain ⟨K, rfl, hK⟩ := hrel
      rcases hK with rfl
      go_wp2
      go_ret
      exact ⟨retB HT.out.symm, HB.out⟩

theorem root_m (m : Nat) {x : Int} (hx : x = (m : Int) * m) (hm : m ≤ 316) (w : World) : Calls Try.prog 108 #[.int .i64 x] w fun e w' => e = .returned (.tuple #[.int .i64 m, .bool true]) ∧ w = w' := by
  have hb : m * m ≤ 316 * 316 := Nat.mul_le_mul hm hm
  have hb2 : x ≤ 99856 := by
    have e : ((m * m : Nat) : Int) = (m : Int) * m := by push_cast; rfl
    omega
  have hb0 : 0 ≤ x := by rw [hx]; exact Int.mul_nonneg (by omega) (by omega)
  refine (squareRoot_any x (by omega) w).mono ?_
  rintro e w' ⟨h, rfl⟩
  refine ⟨?_, rfl⟩
  rcases h with ⟨h, _⟩ | ⟨X, h0, rfl, h1, h2⟩
  · omega
  · have h3 := h2 m (by rw [hx]; omega)
    have h4 : X ≤ m := Nat.not_lt.1 fun hl => by
      have h5 : (m + 1) * (m + 1) ≤ X * X := Nat.mul_le_mul hl hl
      have h6 : (((m + 1) * (m + 1) : Nat) : Int) ≤ ((X * X : Nat) : Int) := by exact_mod_cast h5
      push_cast at h6
      rw [hx] at h1
      have : ((m : Int) + 1) * ((m : Int) + 1) = m * m + 2 * m + 1 := by rw [Int.mul_add, Int.add_mul]; omega
      omega
    obtain rfl : X = m := by omega
    have : ((X : Int) * X == x) = true := by rw [beq_iff_eq]; exact hx.symm
    rw [this]
theorem nd_sums (m n : Nat) : (triC m n + triA m n) / 2 = (m : Int) * m ∧ (triC m n - triA m n) / 2 = (n : Int) * n := by
  unfold triC triA
  constructor <;> omega
theorem nd_bd2 {m n : Nat} (h : Nd m n) (hc : m * m + n * n ≤ 100000) : 1 ≤ triA m n ∧ triA m n ≤ 100000 ∧ 1 ≤ triC m n ∧ triC m n ≤ 100000 ∧ 0 ≤ triC m n - triA m n := by
  obtain ⟨⟨a1, a2⟩, _, ⟨c1, c2⟩, _⟩ := triB_iff.1 (nd_tri2 h hc)
  refine ⟨a1, a2, c1, c2, ?_⟩
  have := Int.mul_nonneg (show (0 : Int) ≤ n by omega) (show (0 : Int) ≤ n by omega)
  unfold triC triA
  omega
set_option maxRecDepth 100000 in
set_option maxHeartbeats 1000000 in
theorem triNode_any {m n : Nat} (h : Nd m n) (hc : m * m + n * n ≤ 100000) (w : World) : Calls Try.prog 84 #[.agg #[.int .i64 (triA m n), .int .i64 (triBb m n), .int .i64 (triC m n)]] w fun e w' => e = .returned (.agg #[.int .i64 m, .int .i64 n]) ∧ Below w.heap.size w w' := by
  obtain ⟨a1, a2, c1, c2, d⟩ := nd_bd2 h hc
  obtain ⟨r1, r2⟩ := nd_sums m n
  obtain ⟨m3, n3⟩ := nd_316 hc
  obtain ⟨a, ha⟩ : ∃ a, a = triA m n := ⟨_, rfl⟩
  obtain ⟨b, hb⟩ : ∃ b, b = triBb m n := ⟨_, rfl⟩
  obtain ⟨c, hc'⟩ : ∃ c, c = triC m n := ⟨_, rfl⟩
  rw [← ha] at a1 a2 d r1 r2 ⊢
  rw [← hc'] at c1 c2 d r1 r2 ⊢
  rw [← hb]
  have R1 := hid (fun wx => root_m m r1 m3 wx)
  have R2 := hid (fun wx => root_m n r2 n3 wx)
  clear r1 r2 ha hb hc' h hc
  go_enter Try.func84, Try.ntmps84
  go_wp2_with fail
  refine (R1.out _).mono ?_
  rintro e w' ⟨rfl, rfl⟩
  go_wp2_with fail
  refine (R2.out _).mono ?_
  rintro e w' ⟨rfl, rfl⟩
  go_wp2_with fail
  refine bodyPost_ret (results_cell_row rfl _ _ (w.heap.size + 1) 95 #[.int .i64 (m : Int), .int .i64 (n : Int)] (0, 0) _ rfl (heap_alloc2_new _ _ _) Try.underlying95 rfl (by kernel_rfl)) rfl ?_
  exact ⟨rfl, ((Below.refl _ _).alloc (Nat.le_refl _) _).alloc (by simp) _⟩

theorem node_bd {m n : Nat} (hc : m ≤ 1000) (hn : n ≤ 1000) : 0 ≤ (m : Int) * m ∧ (m : Int) * m ≤ 1000000 ∧ 0 ≤ (n : Int) * n ∧ (n : Int) * n ≤ 1000000 ∧ 0 ≤ 2 * (m : Int) * n ∧ 2 * (m : Int) * n ≤ 2000000 := by
  have e1 := Nat.mul_le_mul hc hc
  have e2 := Nat.mul_le_mul hn hn
  have e3 := Nat.mul_le_mul hc hn
  have f1 : ((m * m : Nat) : Int) = (m : Int) * m := by push_cast; rfl
  have f2 : ((n * n : Nat) : Int) = (n : Int) * n := by push_cast; rfl
  have f3 : ((m * n : Nat) : Int) = (m : Int) * n := by push_cast; rfl
  rw [Int.mul_assoc]
  omega
set_option maxRecDepth 100000 in
set_option maxHeartbeats 1000000 in
theorem nodeTriple_any (m n : Nat) (hm : m ≤ 1000) (hn : n ≤ 1000) (w : World) : Calls Try.prog 85 #[.agg #[.int .i64 (m : Int), .int .i64 (n : Int)]] w fun e w' => e = .returned (.agg #[.int .i64 (triA m n), .int .i64 (triBb m n), .int .i64 (triC m n)]) ∧ Below w.heap.size w w' := by
  obtain ⟨q1, q2, q3, q4, q5, q6⟩ := node_bd hm hn
  go_enter Try.func85, Try.ntmps85
  go_wp2_with fail
  go_quiet (fail)
  go_wp2_with fail
  refine bodyPost_ret (v := .agg #[.int .i64 ((m : Int) * m - n * n), .int .i64 (2 * (m : Int) * n), .int .i64 ((m : Int) * m + n * n)]) (by simp [results, Try.results85, go_sem]) rfl ?_
  refine ⟨rfl, ?_⟩
  exact (((below_drewN (below_two w _ _) _).setCell (Nat.le_succ _) _).setCell (Nat.le_succ _) _).setCell (Nat.le_succ _) _

set_option maxRecDepth 100000 in
set_option maxHeartbeats 1000000 in
theorem triTold_any (a b c : Int) (w : World) : Calls Try.prog 86 #[.agg #[.int .i64 a, .int .i64 b, .int .i64 c]] w fun e w' => e = .returned (v4 (triB a b c) a b c) ∧ Below w.heap.size w w' := by
  have HV := hid (fun wx => triValid_any a b c wx)
  cases ht : triB a b c with
  | false =>
    have HT := hid ht
    clear ht
    go_enter Try.func86, Try.ntmps86
    go_wp2_with fail
    refine (HV.out _).mono ?_
    rintro e w2 ⟨rfl, hb2⟩
    rw [HT.out]
    go_wp2_with fail
    refine bodyPost_ret (results_tmp4 rfl _ _ _) rfl ?_
    exact ⟨rfl, (below_box _ _).trans (hb2.mono (by simp))⟩
  | true =>
    have HT := hid ht
    clear ht
    go_enter Try.func86, Try.ntmps86
    go_wp2_with fail
    refine (HV.out _).mono ?_
    rintro e w2 ⟨rfl, hb2⟩
    rw [HT.out]
    have HB2 := hid ((below_box w (.cells #[.int .i64 a, .int .i64 b, .int .i64 c] 94)).trans (hb2.mono (by simp)))
    have e0 := (hb2.block w.heap.size (by simp)).trans (heap_alloc_new _ _)
    have c0 : w2.cell? ⟨w.heap.size, 0, none⟩ = some (.int .i64 a) := by simp [World.cell?, e0]
    have c1 : w2.cell? ⟨w.heap.size, 1, none⟩ = some (.int .i64 b) := by simp [World.cell?, e0]
    have c2 : w2.cell? ⟨w.heap.size, 2, none⟩ = some (.int .i64 c) := by simp [World.cell?, e0]
    clear e0 hb2
    go_wp2_with fail
    go_quiet (fail)
    go_wp2_with fail
    refine bodyPost_ret (results_tmp4 rfl _ _ _) rfl ?_
    exact ⟨rfl, below_drewN HB2.out _⟩

set_option maxRecDepth 100000 in
set_option maxHeartbeats 1000000 in
theorem nodeChild_any {m n : Nat} (h : Nd m n) (hm : m ≤ 316) (k : Int) (k0 : 0 ≤ k) (k2 : k ≤ 2) (w : World) : Calls Try.prog 87 #[.agg #[.int .i64 (m : Int), .int .i64 (n : Int)], .int .i64 k] w fun e w' => e = .returned (.agg #[.int .i64 (chiM k.toNat m n : Nat), .int .i64 (chiN k.toNat m n : Nat)]) ∧ Below w.heap.size w w' := by
  have hl := h.2.1
  have hk : k = 0 ∨ k = 1 ∨ k = 2 := by omega
  rcases hk with rfl | rfl | rfl
  · have e1 : Hid (((chiM (0 : Int).toNat m n : Nat) : Int) = 2 * (m : Int) - n) := hid (by show ((2 * m - n : Nat) : Int) = _; omega)
    clear h
    go_enter Try.func87, Try.ntmps87
    go_wp2_with fail
    go_quiet (fail)
    go_wp2_with fail
    refine bodyPost_ret (v := .agg #[.int .i64 (2 * (m : Int) - n), .int .i64 (m : Int)]) (by simp [results, Try.results87, go_sem]) rfl ?_
    refine ⟨by rw [e1.out]; rfl, ?_⟩
    exact ((below_drewN (below_two w _ _) _).setCell (Nat.le_succ _) _).setCell (Nat.le_succ _) _
  · have e1 : Hid (((chiM (1 : Int).toNat m n : Nat) : Int) = 2 * (m : Int) + n) := hid (by show ((2 * m + n : Nat) : Int) = _; omega)
    clear h
    go_enter Try.func87, Try.ntmps87
    go_wp2_with fail
    go_quiet (fail)
    go_wp2_with fail
    refine bodyPost_ret (v := .agg #[.int .i64 (2 * (m : Int) + n), .int .i64 (m : Int)]) (by simp [results, Try.results87, go_sem]) rfl ?_
    refine ⟨by rw [e1.out]; rfl, ?_⟩
    exact ((below_drewN (below_two w _ _) _).setCell (Nat.le_succ _) _).setCell (Nat.le_succ _) _
  · have e1 : Hid (((chiM (2 : Int).toNat m n : Nat) : Int) = (m : Int) + 2 * n) := hid (by show ((m + 2 * n : Nat) : Int) = _; omega)
    clear h
    go_enter Try.func87, Try.ntmps87
    go_wp2_with fail
    go_quiet (fail)
    go_wp2_with fail
    refine bodyPost_ret (v := .agg #[.int .i64 ((m : Int) + 2 * n), .int .i64 (n : Int)]) (by simp [results, Try.results87, go_sem]) rfl ?_
    refine ⟨by rw [e1.out]; rfl, ?_⟩
    exact ((below_drewN (below_two w _ _) _).setCell (Nat.le_succ _) _).setCell (Nat.le_succ _) _

/-- what parent answers -/
def nparT (m n : Nat) : Value := if m = 2 * n then .tuple #[.agg #[.int .i64 0, .int .i64 0], .int .i64 0, .bool false] else .tuple #[.agg #[.int .i64 (parM m n : Nat), .int .i64 (parN m n : Nat)], .int .i64 (parK m n : Nat), .bool true]
set_option maxRecDepth 100000 in
set_option maxHeartbeats 2000000 in
theorem nodeParent_any {m n : Nat} (h : Nd m n) (hm : m ≤ 316) (w : World) : Calls Try.prog 89 #[.agg #[.int .i64 (m : Int), .int .i64 (n : Int)]] w fun e w' => e = .returned (nparT m n) ∧ Below w.heap.size w w' := by
  have hl := h.2.1
  by_cases e : m = 2 * n
  · have HV : Hid (nparT m n = .tuple #[.agg #[.int .i64 0, .int .i64 0], .int .i64 0, .bool false]) := hid (by unfold nparT; rw [if_pos e])
    have T : ((m : Int) == 2 * (n : Int)) = true := by rw [beq_iff_eq]; omega
    clear e h
    go_enter Try.func89, Try.ntmps89
    go_wp2_with fail
    go_quiet (fail)
    go_wp2_with fail
    refine bodyPost_ret (v := .tuple #[.agg #[.int .i64 0, .int .i64 0], .int .i64 0, .bool false]) (by simp [results, Try.results89, go_sem]) rfl ?_
    refine ⟨by rw [HV.out], ?_⟩
    exact ((below_drewN (below_two w _ _) _).setCell (Nat.le_succ _) _).setCell (Nat.le_succ _) _
  · have HV : Hid (nparT m n = .tuple #[.agg #[.int .i64 (parM m n : Nat), .int .i64 (parN m n : Nat)], .int .i64 (parK m n : Nat), .bool true]) := hid (by unfold nparT; rw [if_neg e])
    have T : ((m : Int) == 2 * (n : Int)) = false := by rw [beq_eq_false_iff_ne]; omega
    by_cases l1 : m < 2 * n
    · have HP : Hid (((parM m n : Nat) : Int) = n ∧ ((parN m n : Nat) : Int) = 2 * (n : Int) - m ∧ ((parK m n : Nat) : Int) = 0) := hid (by unfold parM parN parK; rw [if_pos l1, if_pos l1, if_pos l1]; omega)
      have T1 : (m : Int) < 2 * (n : Int) := by omega
      clear e h l1
      go_enter Try.func89, Try.ntmps89
      go_wp2_with fail
      go_quiet (fail)
      go_wp2_with fail
      refine bodyPost_ret (v := .tuple #[.agg #[.int .i64 (n : Int), .int .i64 (2 * (n : Int) - m)], .int .i64 0, .bool true]) (by simp [results, Try.results89, go_sem]) rfl ?_
      refine ⟨by rw [HV.out, HP.out.1, HP.out.2.1, HP.out.2.2], ?_⟩
      exact ((below_drewN (below_two w _ _) _).setCell (Nat.le_succ _) _).setCell (Nat.le_succ _) _
    · have T1 : ¬ (m : Int) < 2 * (n : Int) := by omega
      by_cases l2 : m < 3 * n
      · have HP : Hid (((parM m n : Nat) : Int) = n ∧ ((parN m n : Nat) : Int) = (m : Int) - 2 * n ∧ ((parK m n : Nat) : Int) = 1) := hid (by unfold parM parN parK; rw [if_neg l1, if_neg l1, if_neg l1, if_pos l2, if_pos l2, if_pos l2]; omega)
        have T2 : (m : Int) < 3 * (n : Int) := by omega
        clear e h l1 l2
        go_enter Try.func89, Try.ntmps89
        go_wp2_with fail
        go_quiet (fail)
        go_wp2_with fail
        refine bodyPost_ret (v := .tuple #[.agg #[.int .i64 (n : Int), .int .i64 ((m : Int) - 2 * n)], .int .i64 1, .bool true]) (by simp [results, Try.results89, go_sem]) rfl ?_
        refine ⟨by rw [HV.out, HP.out.1, HP.out.2.1, HP.out.2.2], ?_⟩
        exact ((below_drewN (below_two w _ _) _).setCell (Nat.le_succ _) _).setCell (Nat.le_succ _) _
      · have HP : Hid (((parM m n : Nat) : Int) = (m : Int) - 2 * n ∧ ((parN m n : Nat) : Int) = n ∧ ((parK m n : Nat) : Int) = 2) := hid (by unfold parM parN parK; rw [if_neg l1, if_neg l1, if_neg l1, if_neg l2, if_neg l2, if_neg l2]; omega)
        have T2 : ¬ (m : Int) < 3 * (n : Int) := by omega
        clear e h l1 l2
        go_enter Try.func89, Try.ntmps89
        go_wp2_with fail
        go_quiet (fail)
        go_wp2_with fail
        refine bodyPost_ret (v := .tuple #[.agg #[.int .i64 ((m : Int) - 2 * n), .int .i64 (n : Int)], .int .i64 2, .bool true]) (by simp [results, Try.results89, go_sem]) rfl ?_
        refine ⟨by rw [HV.out, HP.out.1, HP.out.2.1, HP.out.2.2], ?_⟩
        exact ((below_drewN (below_two w _ _) _).setCell (Nat.le_succ _) _).setCell (Nat.le_succ _) _

set_option maxRecDepth 100000 in
set_option maxHeartbeats 2000000 in
theorem nodeDepth_any : ∀ (f m n : Nat), Nd m n → m ≤ f → m ≤ 316 → ∀ w : World, Calls Try.prog 90 #[.agg #[.int .i64 (m : Int), .int .i64 (n : Int)]] w fun e w' => e = .returned (.int .i64 (depN m n : Nat)) ∧ Below w.heap.size w w' := by
  intro f
  induction f with
  | zero => intro m n h h1; have := h.2.1; omega
  | succ f ih =>
    intro m n h h1 hm w
    have HP := hid (fun wx => nodeParent_any h hm wx)
    by_cases e : m = 2 * n
    · have HV : Hid (nparT m n = .tuple #[.agg #[.int .i64 0, .int .i64 0], .int .i64 0, .bool false]) := hid (by unfold nparT; rw [if_pos e])
      have HD := hid (dep_root e)
      rw [HD.out]
      rw [HV.out] at HP
      clear e h h1 ih
      go_enter Try.func90, Try.ntmps90
      go_wp2_with fail
      refine (HP.out _).mono ?_
      rintro e w2 ⟨rfl, hb2⟩
      have HB2 := hid ((below_box w (.cells #[.int .i64 (m : Int), .int .i64 (n : Int)] 95)).trans (hb2.mono (by simp)))
      clear hb2
      go_wp2_with fail
      go_ret
      exact ⟨rfl, HB2.out.alloc HB2.out.size _⟩
    · have HV : Hid (nparT m n = .tuple #[.agg #[.int .i64 (parM m n : Nat), .int .i64 (parN m n : Nat)], .int .i64 (parK m n : Nat), .bool true]) := hid (by unfold nparT; rw [if_neg e])
      have HD := hid (dep_step h e)
      have hp := par_nd h e
      have IH := hid (fun wx => ih (parM m n) (parN m n) hp.1 (by omega) (by omega) wx)
      have hdl : depN (parM m n) (parN m n) ≤ 316 := Nat.le_trans (dep_le _ _ _) (by omega)
      rw [HD.out]
      rw [HV.out] at HP
      obtain ⟨P, hP⟩ : ∃ P, P = parM m n := ⟨_, rfl⟩
      obtain ⟨Q, hQ⟩ : ∃ Q, Q = parN m n := ⟨_, rfl⟩
      rw [← hP, ← hQ] at HP IH hdl ⊢
      obtain ⟨D, hD⟩ : ∃ D, D = depN P Q := ⟨_, rfl⟩
      rw [← hD] at IH hdl ⊢
      clear e h h1 ih hp hP hQ hD HD HV
      go_enter Try.func90, Try.ntmps90
      go_wp2_with fail
      refine (HP.out _).mono ?_
      rintro e w2 ⟨rfl, hb2⟩
      have HB2 := hid ((below_box w (.cells #[.int .i64 (m : Int), .int .i64 (n : Int)] 95)).trans (hb2.mono (by simp)))
      clear hb2
      go_wp2_with fail
      refine (IH.out _).mono ?_
      rintro e w3 ⟨rfl, hb3⟩
      have HB3 := hid ((HB2.out.alloc HB2.out.size (.cells #[.int .i64 (P : Int), .int .i64 (Q : Int)] 95)).trans (hb3.mono (by have := HB2.out.size; simp; omega)))
      clear hb3
      go_wp2_with fail
      go_ret
      exact ⟨retI (by push_cast; rfl), HB3.out⟩

theorem cells3 {w w2 : World} {a b c : Value} {t : TypeId} (hb : Below (w.alloc (.cells #[a, b, c] t)).heap.size (w.alloc (.cells #[a, b, c] t)) w2) : w2.cell? ⟨w.heap.size, 0, none⟩ = some a ∧ w2.cell? ⟨w.heap.size, 1, none⟩ = some b ∧ w2.cell? ⟨w.heap.size, 2, none⟩ = some c := by
  have e0 := (hb.block w.heap.size (by simp)).trans (heap_alloc_new _ _)
  exact ⟨by simp [World.cell?, e0], by simp [World.cell?, e0], by simp [World.cell?, e0]⟩

set_option maxRecDepth 100000 in
set_option maxHeartbeats 1000000 in
theorem tripleIs_any (a b c : Int) (w : World) : Calls Try.prog 35 #[.int .i64 a, .int .i64 b, .int .i64 c] w fun e w' => e = .returned (.bool (triB a b c)) ∧ Below w.heap.size w w' := by
  go_enter Try.func35, Try.ntmps35
  go_wp2_with (go_at_call 82; refine (triValid_any a b c _).mono ?_; rintro e w2 ⟨rfl, hb2⟩)
  go_ret
  exact ⟨rfl, hb2⟩

theorem mkp_no {m n : Int} (h : makeOk m n = false) : makeV m n = .tuple #[.int .i64 0, .int .i64 0, .int .i64 0, .bool false] := by unfold makeV v4; rw [h]; rfl
set_option maxRecDepth 100000 in
set_option maxHeartbeats 2000000 in
theorem tripleMake_any (m n : Int) (w : World) : Calls Try.prog 39 #[.int .i64 m, .int .i64 n] w fun e w' => e = .returned (makeV m n) ∧ Below w.heap.size w w' := by
  rcases inR_cases m 2 316 with ⟨m1, m2, M⟩ | ⟨m1, M⟩ | ⟨m1, m2, M⟩
  · rcases inR_cases n 1 (m - 1) with ⟨n1, n2, N⟩ | ⟨n1, N⟩ | ⟨n1, n2, N⟩
    · obtain ⟨K, rfl⟩ := Int.eq_ofNat_of_zero_le (show 0 ≤ m by omega)
      obtain ⟨L, rfl⟩ := Int.eq_ofNat_of_zero_le (show 0 ≤ n by omega)
      have HT := hid (fun wx => nodeTriple_any K L (by omega) (by omega) wx)
      have HV := hid (fun wx => triTold_any (triA K L) (triBb K L) (triC K L) wx)
      have HM : Hid (makeV K L = v4 (triB (triA K L) (triBb K L) (triC K L)) (triA K L) (triBb K L) (triC K L)) := hid (by unfold makeV makeOk; rw [M, N]; rfl)
      obtain ⟨x0, x1, x2, o, hx⟩ := v4_form (triB (triA K L) (triBb K L) (triC K L)) (triA K L) (triBb K L) (triC K L)
      rw [hx] at HV HM
      obtain ⟨a, ha⟩ : ∃ a, a = triA K L := ⟨_, rfl⟩
      obtain ⟨b, hb⟩ : ∃ b, b = triBb K L := ⟨_, rfl⟩
      obtain ⟨c, hc⟩ : ∃ c, c = triC K L := ⟨_, rfl⟩
      rw [← ha, ← hb, ← hc] at HT HV
      clear hx ha hb hc
      go_enter Try.func39, Try.ntmps39
      go_wp2_with fail
      refine (HT.out _).mono ?_
      rintro e w2 ⟨rfl, hb2⟩
      go_wp2_with fail
      refine (HV.out _).mono ?_
      rintro e w3 ⟨rfl, hb3⟩
      go_wp2_with fail
      refine bodyPost_ret (results_tmp4 rfl _ _ _) rfl ?_
      exact ⟨retV HM.out.symm, hb2.trans (hb3.mono hb2.size)⟩
    all_goals
      have HV := hid (mkp_no (m := m) (n := n) (by unfold makeOk; rw [N, Bool.false_and, Bool.and_false]))
      go_enter Try.func39, Try.ntmps39
      go_wp2_with fail
      refine bodyPost_ret (results_tmp4 rfl _ _ _) rfl ?_
      exact ⟨retV HV.out.symm, Below.refl _ _⟩
  all_goals
    have HV := hid (mkp_no (m := m) (n := n) (by unfold makeOk; rw [M]; rfl))
    go_enter Try.func39, Try.ntmps39
    go_wp2_with fail
    refine bodyPost_ret (results_tmp4 rfl _ _ _) rfl ?_
    exact ⟨retV HV.out.symm, Below.refl _ _⟩

set_option maxRecDepth 100000 in
set_option maxHeartbeats 2000000 in
theorem tripleDepth_any (a b c : Int) (w : World) : Calls Try.prog 45 #[.int .i64 a, .int .i64 b, .int .i64 c] w fun e w' => e = .returned (.int .i64 (depthV a b c)) ∧ Below w.heap.size w w' := by
  have HV := hid (fun wx => triValid_any a b c wx)
  cases ht : triB a b c with
  | false =>
    have HT := hid ht
    have HE : Hid (depthV a b c = -1) := hid (by unfold depthV; rw [ht]; rfl)
    clear ht
    go_enter Try.func45, Try.ntmps45
    go_wp2_with fail
    refine (HV.out _).mono ?_
    rintro e w2 ⟨rfl, hb2⟩
    rw [HT.out]
    go_wp2_with fail
    go_ret
    exact ⟨retI HE.out.symm, (below_box _ _).trans (hb2.mono (by simp))⟩
  | true =>
    obtain ⟨m, n, hn, hm, hk, rfl, rfl, rfl, hm3, _⟩ := tri_back ht
    have hc := nd_c hn ht
    have HT := hid ht
    have HE : Hid (depthV (triA m n) (triBb m n) (triC m n) = (depN m n : Nat)) := hid (by unfold depthV; rw [ht, if_pos rfl, hm, hk])
    have HN := hid (fun wx => triNode_any hn hc wx)
    have HD := hid (fun wx => nodeDepth_any m m n hn (Nat.le_refl _) hm3 wx)
    rw [HE.out]
    obtain ⟨a, ha⟩ : ∃ a, a = triA m n := ⟨_, rfl⟩
    obtain ⟨b, hb⟩ : ∃ b, b = triBb m n := ⟨_, rfl⟩
    obtain ⟨c, hc'⟩ : ∃ c, c = triC m n := ⟨_, rfl⟩
    obtain ⟨D, hD⟩ : ∃ D, D = depN m n := ⟨_, rfl⟩
    rw [← ha, ← hb, ← hc'] at HV HT HN ⊢
    rw [← hD] at HD ⊢
    clear ht ha hb hc' hc hn hm hk HE hD
    go_enter Try.func45, Try.ntmps45
    go_wp2_with fail
    refine (HV.out _).mono ?_
    rintro e w2 ⟨rfl, hb2⟩
    rw [HT.out]
    obtain ⟨c0, c1, c2⟩ := cells3 hb2
    have HB2 := hid ((below_box w (.cells #[.int .i64 a, .int .i64 b, .int .i64 c] 94)).trans (hb2.mono (by simp)))
    clear hb2
    go_wp2_with fail
    refine (HN.out _).mono ?_
    rintro e w3 ⟨rfl, hb3⟩
    have HB3 := hid (HB2.out.trans (hb3.mono HB2.out.size))
    clear hb3 c0 c1 c2
    go_wp2_with fail
    refine (HD.out _).mono ?_
    rintro e w4 ⟨rfl, hb4⟩
    go_wp2_with fail
    go_ret
    exact ⟨rfl, HB3.out.trans (hb4.mono HB3.out.size)⟩

theorem fld2 (x y : Value) : (∀ w, (Instr.field 95 (.agg #[x, y]) 0).run Try.prog w = .ok x w) ∧ (∀ w, (Instr.field 95 (.agg #[x, y]) 1).run Try.prog w = .ok y w) := ⟨fun _ => by kernel_rfl, fun _ => by kernel_rfl⟩
set_option maxRecDepth 100000 in
set_option maxHeartbeats 2000000 in
theorem tripleBack_any (a b c : Int) (w : World) : Calls Try.prog 37 #[.int .i64 a, .int .i64 b, .int .i64 c] w fun e w' => e = .returned (tbackV a b c) ∧ Below w.heap.size w w' := by
  have HV := hid (fun wx => triValid_any a b c wx)
  cases ht : triB a b c with
  | false =>
    have HT := hid ht
    have HE : Hid (tbackV a b c = .tuple #[.int .i64 0, .int .i64 0, .bool false]) := hid (by unfold tbackV; rw [ht]; rfl)
    clear ht
    go_enter Try.func37, Try.ntmps37
    go_wp2_with fail
    refine (HV.out _).mono ?_
    rintro e w2 ⟨rfl, hb2⟩
    rw [HT.out]
    go_wp2_with fail
    go_ret3
    exact ⟨retV HE.out.symm, (below_box _ _).trans (hb2.mono (by simp))⟩
  | true =>
    obtain ⟨m, n, hn, hm, hk, rfl, rfl, rfl, hm3, _⟩ := tri_back ht
    have hc := nd_c hn ht
    have HT := hid ht
    have HE : Hid (tbackV (triA m n) (triBb m n) (triC m n) = .tuple #[.int .i64 (m : Int), .int .i64 (n : Int), .bool true]) := hid (by unfold tbackV; rw [ht, hm, hk]; rfl)
    have HN := hid (fun wx => triNode_any hn hc wx)
    obtain ⟨a, ha⟩ : ∃ a, a = triA m n := ⟨_, rfl⟩
    obtain ⟨b, hb⟩ : ∃ b, b = triBb m n := ⟨_, rfl⟩
    obtain ⟨c, hc'⟩ : ∃ c, c = triC m n := ⟨_, rfl⟩
    rw [← ha, ← hb, ← hc'] at HV HT HN HE ⊢
    clear ht ha hb hc' hc hn hm hk
    go_enter Try.func37, Try.ntmps37
    go_wp2_with fail
    refine (HV.out _).mono ?_
    rintro e w2 ⟨rfl, hb2⟩
    rw [HT.out]
    obtain ⟨c0, c1, c2⟩ := cells3 hb2
    have hs2 : w.heap.size + 1 ≤ w2.heap.size := by have := hb2.size; simpa using this
    have HB2 := hid ((below_box w (.cells #[.int .i64 a, .int .i64 b, .int .i64 c] 94)).trans (hb2.mono (by simp)))
    clear hb2
    go_wp2_with fail
    have hr := Below.refl w2.heap.size w2.drew
    obtain ⟨fl0, fl1⟩ := fld2 (.int .i64 (m : Int)) (.int .i64 (n : Int))
    have d0 : w2.drew.cell? ⟨w.heap.size, 0, none⟩ = some (.int .i64 a) := c0
    have d1 : w2.drew.cell? ⟨w.heap.size, 1, none⟩ = some (.int .i64 b) := c1
    have d2 : w2.drew.cell? ⟨w.heap.size, 2, none⟩ = some (.int .i64 c) := c2
    go_region_held3 (fun wx => Below w2.heap.size w2.drew wx ∧ wx.cell? ⟨w.heap.size, 0, none⟩ = some (.int .i64 a) ∧ wx.cell? ⟨w.heap.size, 1, none⟩ = some (.int .i64 b) ∧ wx.cell? ⟨w.heap.size, 2, none⟩ = some (.int .i64 c)) (first | exact ⟨q4, x0, x1, x2⟩ | exact ⟨q3, y0, y1, y2⟩ | exact ⟨hr, d0, d1, d2⟩)
      (first | (have m3 := q3; go_at_call 84; refine (HN.out _).mono ?_; rintro e w4 ⟨rfl, hb4⟩; have q4 : Below w2.heap.size w2.drew w4 := q3.trans (hb4.mono q3.size); have x0 : w4.cell? ⟨w.heap.size, 0, none⟩ = some (.int .i64 a) := cell_later hb4 y0; have x1 : w4.cell? ⟨w.heap.size, 1, none⟩ = some (.int .i64 b) := cell_later hb4 y1; have x2 : w4.cell? ⟨w.heap.size, 2, none⟩ = some (.int .i64 c) := cell_later hb4 y2) | (go_at_call 84; refine (HN.out _).mono ?_; rintro e w3 ⟨rfl, hb3⟩; have q3 : Below w2.heap.size w2.drew w3 := hr.trans (hb3.mono hr.size); have y0 : w3.cell? ⟨w.heap.size, 0, none⟩ = some (.int .i64 a) := cell_later hb3 d0; have y1 : w3.cell? ⟨w.heap.size, 1, none⟩ = some (.int .i64 b) := cell_later hb3 d1; have y2 : w3.cell? ⟨w.heap.size, 2, none⟩ = some (.int .i64 c) := cell_later hb3 d2))
    go_wp2
    go_ret3
    exact ⟨retV HE.out.symm, (below_drewN HB2.out 1).trans (q4.mono HB2.out.size)⟩

theorem nchi_v4 {m n : Nat} {k : Int} (k0 : 0 ≤ k) (k2 : k ≤ 2) : nchiV k m n = v4 (triB (triA (chiM k.toNat m n) (chiN k.toNat m n)) (triBb (chiM k.toNat m n) (chiN k.toNat m n)) (triC (chiM k.toNat m n) (chiN k.toNat m n))) (triA (chiM k.toNat m n) (chiN k.toNat m n)) (triBb (chiM k.toNat m n) (chiN k.toNat m n)) (triC (chiM k.toNat m n) (chiN k.toNat m n)) := by
  unfold nchiV inR
  rw [decide_eq_true k0, decide_eq_true k2]; rfl
theorem chi_1000 {m n : Nat} (hm : m ≤ 316) (hn : n ≤ 316) (k : Nat) : chiM k m n ≤ 1000 ∧ chiN k m n ≤ 1000 := by
  unfold chiM chiN
  constructor <;> split <;> (try split) <;> omega
set_option maxRecDepth 100000 in
set_option maxHeartbeats 4000000 in
theorem tripleChild_any (a b c k : Int) (w : World) : Calls Try.prog 41 #[.int .i64 a, .int .i64 b, .int .i64 c, .int .i64 k] w fun e w' => e = .returned (childV a b c k) ∧ Below w.heap.size w w' := by
  have HV := hid (fun wx => triValid_any a b c wx)
  cases ht : triB a b c with
  | false =>
    have HT := hid ht
    have HE : Hid (childV a b c k = .tuple #[.int .i64 0, .int .i64 0, .int .i64 0, .bool false]) := hid (by unfold childV; rw [ht]; rfl)
    clear ht
    go_enter Try.func41, Try.ntmps41
    go_wp2_with fail
    refine (HV.out _).mono ?_
    rintro e w2 ⟨rfl, hb2⟩
    rw [HT.out]
    go_wp2_with fail
    refine bodyPost_ret (results_tmp4 rfl _ _ _) rfl ?_
    exact ⟨retV HE.out.symm, (below_box _ _).trans (hb2.mono (by simp))⟩
  | true =>
    obtain ⟨m, n, hn, hm, hk, rfl, rfl, rfl, hm3, hn3⟩ := tri_back ht
    have hc := nd_c hn ht
    have HT := hid ht
    have HN := hid (fun wx => triNode_any hn hc wx)
    by_cases hkk : 0 ≤ k ∧ k ≤ 2
    · obtain ⟨k0, k2⟩ := hkk
      have HE : Hid (childV (triA m n) (triBb m n) (triC m n) k = nchiV k m n) := hid (by unfold childV; rw [ht, if_pos rfl, hm, hk])
      rw [HE.out, nchi_v4 k0 k2]
      have h10 := chi_1000 hm3 hn3 k.toNat
      have HC := hid (fun wx => nodeChild_any hn hm3 k k0 k2 wx)
      have HTR := hid (fun wx => nodeTriple_any (chiM k.toNat m n) (chiN k.toNat m n) h10.1 h10.2 wx)
      obtain ⟨M, hM⟩ : ∃ M, M = chiM k.toNat m n := ⟨_, rfl⟩
      obtain ⟨N, hN⟩ : ∃ N, N = chiN k.toNat m n := ⟨_, rfl⟩
      rw [← hM, ← hN] at HC HTR ⊢
      have HTL := hid (fun wx => triTold_any (triA M N) (triBb M N) (triC M N) wx)
      obtain ⟨x0, x1, x2, o, hx⟩ := v4_form (triB (triA M N) (triBb M N) (triC M N)) (triA M N) (triBb M N) (triC M N)
      rw [hx] at HTL ⊢
      obtain ⟨a, ha⟩ : ∃ a, a = triA m n := ⟨_, rfl⟩
      obtain ⟨b, hb⟩ : ∃ b, b = triBb m n := ⟨_, rfl⟩
      obtain ⟨c, hc'⟩ : ∃ c, c = triC m n := ⟨_, rfl⟩
      rw [← ha, ← hb, ← hc'] at HV HT HN ⊢
      obtain ⟨d, hd⟩ : ∃ a, a = triA M N := ⟨_, rfl⟩
      obtain ⟨f, hf⟩ : ∃ b, b = triBb M N := ⟨_, rfl⟩
      obtain ⟨g, hg⟩ : ∃ c, c = triC M N := ⟨_, rfl⟩
      rw [← hd, ← hf, ← hg] at HTL HTR
      clear ht ha hb hc' hc hn hm hk HE hM hN hx hd hf hg h10
      go_enter Try.func41, Try.ntmps41
      go_wp2_with fail
      refine (HV.out _).mono ?_
      rintro e w2 ⟨rfl, hb2⟩
      rw [HT.out]
      obtain ⟨c0, c1, c2⟩ := cells3 hb2
      have HB2 := hid ((below_box w (.cells #[.int .i64 a, .int .i64 b, .int .i64 c] 94)).trans (hb2.mono (by simp)))
      clear hb2
      go_wp2_with fail
      refine (HN.out _).mono ?_
      rintro e w3 ⟨rfl, hb3⟩
      have HB3 := hid (HB2.out.trans (hb3.mono HB2.out.size))
      clear hb3 c0 c1 c2
      go_wp2_with fail
      refine (HC.out _).mono ?_
      rintro e w4 ⟨rfl, hb4⟩
      have HB4 := hid (HB3.out.trans (hb4.mono HB3.out.size))
      clear hb4
      go_wp2_with fail
      refine (HTR.out _).mono ?_
      rintro e w5 ⟨rfl, hb5⟩
      have HB5 := hid (HB4.out.trans (hb5.mono HB4.out.size))
      clear hb5
      go_wp2_with fail
      refine (HTL.out _).mono ?_
      rintro e w6 ⟨rfl, hb6⟩
      go_wp2_with fail
      refine bodyPost_ret (results_tmp4 rfl _ _ _) rfl ?_
      exact ⟨rfl, HB5.out.trans (hb6.mono HB5.out.size)⟩
    · have HE : Hid (childV (triA m n) (triBb m n) (triC m n) k = .tuple #[.int .i64 0, .int .i64 0, .int .i64 0, .bool false]) := hid (by
        have : inR k 0 2 = false := by
          unfold inR
          by_cases h0 : 0 ≤ k
          · rw [decide_eq_false (show ¬ k ≤ 2 from fun h => hkk ⟨h0, h⟩), Bool.and_false]
          · rw [decide_eq_false h0]; rfl
        unfold childV nchiV v4; rw [ht, if_pos rfl, this]; rfl)
      obtain ⟨a, ha⟩ : ∃ a, a = triA m n := ⟨_, rfl⟩
      obtain ⟨b, hb⟩ : ∃ b, b = triBb m n := ⟨_, rfl⟩
      obtain ⟨c, hc'⟩ : ∃ c, c = triC m n := ⟨_, rfl⟩
      rw [← ha, ← hb, ← hc'] at HV HT HE ⊢
      clear ht ha hb hc' hc hn hm hk HN
      have hk3 : k < 0 ∨ (0 ≤ k ∧ 2 < k) := by omega
      clear hkk
      rcases hk3 with hk3 | ⟨hk4, hk3⟩
      all_goals
        go_enter Try.func41, Try.ntmps41
        go_wp2_with fail
        refine (HV.out _).mono ?_
        rintro e w2 ⟨rfl, hb2⟩
        rw [HT.out]
        go_wp2_with fail
        refine bodyPost_ret (results_tmp4 rfl _ _ _) rfl ?_
        exact ⟨retV HE.out.symm, (below_box _ _).trans (hb2.mono (by simp))⟩

set_option maxRecDepth 100000 in
set_option maxHeartbeats 4000000 in
theorem tripleParent_any (a b c : Int) (w : World) : Calls Try.prog 44 #[.int .i64 a, .int .i64 b, .int .i64 c] w fun e w' => e = .returned (parentV a b c) ∧ Below w.heap.size w w' := by
  have HV := hid (fun wx => triValid_any a b c wx)
  cases ht : triB a b c with
  | false =>
    have HT := hid ht
    have HE : Hid (parentV a b c = .tuple #[.int .i64 0, .int .i64 0, .int .i64 0, .int .i64 0, .bool false]) := hid (by unfold parentV; rw [ht]; rfl)
    clear ht
    go_enter Try.func44, Try.ntmps44
    go_wp2_with fail
    refine (HV.out _).mono ?_
    rintro e w2 ⟨rfl, hb2⟩
    rw [HT.out]
    go_wp2_with fail
    refine bodyPost_ret (results_tmp5 rfl _ _ _) rfl ?_
    exact ⟨retV HE.out.symm, (below_box _ _).trans (hb2.mono (by simp))⟩
  | true =>
    obtain ⟨m, n, hn, hm, hk, rfl, rfl, rfl, hm3, hn3⟩ := tri_back ht
    have hc := nd_c hn ht
    have HT := hid ht
    have HN := hid (fun wx => triNode_any hn hc wx)
    have HP := hid (fun wx => nodeParent_any hn hm3 wx)
    have HE : Hid (parentV (triA m n) (triBb m n) (triC m n) = nparV m n) := hid (by unfold parentV; rw [ht, if_pos rfl, hm, hk])
    by_cases e : m = 2 * n
    · have HE2 : Hid (parentV (triA m n) (triBb m n) (triC m n) = .tuple #[.int .i64 0, .int .i64 0, .int .i64 0, .int .i64 0, .bool false]) := hid (by rw [HE.out]; unfold nparV; rw [decide_eq_false (by omega)]; rfl)
      have hv : nparT m n = .tuple #[.agg #[.int .i64 0, .int .i64 0], .int .i64 0, .bool false] := by unfold nparT; rw [if_pos e]
      rw [hv] at HP
      obtain ⟨a, ha⟩ : ∃ a, a = triA m n := ⟨_, rfl⟩
      obtain ⟨b, hb⟩ : ∃ b, b = triBb m n := ⟨_, rfl⟩
      obtain ⟨c, hc'⟩ : ∃ c, c = triC m n := ⟨_, rfl⟩
      rw [← ha, ← hb, ← hc'] at HV HT HN HE2 ⊢
      clear ht ha hb hc' hc hn hm hk HE hv e
      go_enter Try.func44, Try.ntmps44
      go_wp2_with fail
      refine (HV.out _).mono ?_
      rintro e w2 ⟨rfl, hb2⟩
      rw [HT.out]
      obtain ⟨c0, c1, c2⟩ := cells3 hb2
      have HB2 := hid ((below_box w (.cells #[.int .i64 a, .int .i64 b, .int .i64 c] 94)).trans (hb2.mono (by simp)))
      clear hb2
      go_wp2_with fail
      refine (HN.out _).mono ?_
      rintro e w3 ⟨rfl, hb3⟩
      have HB3 := hid (HB2.out.trans (hb3.mono HB2.out.size))
      clear hb3 c0 c1 c2
      go_wp2_with fail
      refine (HP.out _).mono ?_
      rintro e w4 ⟨rfl, hb4⟩
      have HB4 := hid (HB3.out.trans (hb4.mono HB3.out.size))
      clear hb4
      go_wp2_with fail
      refine bodyPost_ret (results_tmp5 rfl _ _ _) rfl ?_
      exact ⟨retV HE2.out.symm, HB4.out.alloc HB4.out.size _⟩
    · have hv : nparT m n = .tuple #[.agg #[.int .i64 (parM m n : Nat), .int .i64 (parN m n : Nat)], .int .i64 (parK m n : Nat), .bool true] := by unfold nparT; rw [if_neg e]
      have HE2 : Hid (parentV (triA m n) (triBb m n) (triC m n) = .tuple #[.int .i64 (triA (parM m n) (parN m n)), .int .i64 (triBb (parM m n) (parN m n)), .int .i64 (triC (parM m n) (parN m n)), .int .i64 (parK m n : Nat), .bool true]) := hid (by rw [HE.out]; unfold nparV; rw [decide_eq_true e]; rfl)
      rw [hv] at HP
      have hpb := par_nd hn e
      have HTR := hid (fun wx => nodeTriple_any (parM m n) (parN m n) (by omega) (by omega) wx)
      obtain ⟨M, hM⟩ : ∃ M, M = parM m n := ⟨_, rfl⟩
      obtain ⟨N, hN⟩ : ∃ N, N = parN m n := ⟨_, rfl⟩
      obtain ⟨K, hK⟩ : ∃ K, K = parK m n := ⟨_, rfl⟩
      rw [← hM, ← hN] at HP HTR HE2
      rw [← hK] at HP HE2
      obtain ⟨a, ha⟩ : ∃ a, a = triA m n := ⟨_, rfl⟩
      obtain ⟨b, hb⟩ : ∃ b, b = triBb m n := ⟨_, rfl⟩
      obtain ⟨c, hc'⟩ : ∃ c, c = triC m n := ⟨_, rfl⟩
      rw [← ha, ← hb, ← hc'] at HV HT HN HE2 ⊢
      obtain ⟨d, hd⟩ : ∃ a, a = triA M N := ⟨_, rfl⟩
      obtain ⟨f, hf⟩ : ∃ b, b = triBb M N := ⟨_, rfl⟩
      obtain ⟨g, hg⟩ : ∃ c, c = triC M N := ⟨_, rfl⟩
      rw [← hd, ← hf, ← hg] at HTR HE2
      clear ht ha hb hc' hc hn hm hk HE hv e hpb hM hN hK hd hf hg
      go_enter Try.func44, Try.ntmps44
      go_wp2_with fail
      refine (HV.out _).mono ?_
      rintro e w2 ⟨rfl, hb2⟩
      rw [HT.out]
      obtain ⟨c0, c1, c2⟩ := cells3 hb2
      have HB2 := hid ((below_box w (.cells #[.int .i64 a, .int .i64 b, .int .i64 c] 94)).trans (hb2.mono (by simp)))
      clear hb2
      go_wp2_with fail
      refine (HN.out _).mono ?_
      rintro e w3 ⟨rfl, hb3⟩
      have HB3 := hid (HB2.out.trans (hb3.mono HB2.out.size))
      clear hb3 c0 c1 c2
      go_wp2_with fail
      refine (HP.out _).mono ?_
      rintro e w4 ⟨rfl, hb4⟩
      have HB4 := hid (HB3.out.trans (hb4.mono HB3.out.size))
      clear hb4
      go_wp2_with fail
      refine (HTR.out _).mono ?_
      rintro e w5 ⟨rfl, hb5⟩
      have HB5 := hid ((HB4.out.alloc HB4.out.size (.cells #[.int .i64 (M : Int), .int .i64 (N : Int)] 95)).trans (hb5.mono (by have := HB4.out.size; simp; omega)))
      clear hb5
      go_wp2_with fail
      go_quiet (fail)
      go_wp2_with fail
      refine bodyPost_ret (results_tmp5 rfl _ _ _) rfl ?_
      exact ⟨retV HE2.out.symm, below_drewN (HB5.out.alloc HB5.out.size _) _⟩

end Go.Proofs.Ytenibnblibnocab

set_option linter.unusedVariables false
namespace Go.Proofs.Ytenibnblibnocab
open Go.RowKit

set_option maxRecDepth 100000 in
set_option maxHeartbeats 2000000 in
theorem drawTripleIs_any (v : Value) (n : Nat) (w : World) (h : CodeIn w v n) : Calls Try.prog 34 #[v] w (Drew3 (fun _ _ _ => True) w) := by
  go_enter Try.func34, Try.ntmps34
  go_wp2_with fail
  refine (open_any v n _ h).mono ?_
  rintro e w1 ⟨v1, n1, rfl, HR, HB⟩
  have hsz := HB.size
  go_wp2_with fail
  refine (triple_any _ _ _ _ 0 (by omega) _ HR.out (by omega)).mono ?_
  rintro e w2 ⟨x, y, z, q, rfl, hq, HA, HO⟩
  go_wp2
  go_ret3
  exact Drew3.mk trivial (only_below HB HO.out)

set_option maxRecDepth 100000 in
set_option maxHeartbeats 2000000 in
theorem drawTripleParent_any (v : Value) (n : Nat) (w : World) (h : CodeIn w v n) : Calls Try.prog 46 #[v] w (Drew3 (fun _ _ _ => True) w) := by
  go_enter Try.func46, Try.ntmps46
  go_wp2_with fail
  refine (open_any v n _ h).mono ?_
  rintro e w1 ⟨v1, n1, rfl, HR, HB⟩
  have hsz := HB.size
  go_wp2_with fail
  refine (triple_any _ _ _ _ 0 (by omega) _ HR.out (by omega)).mono ?_
  rintro e w2 ⟨x, y, z, q, rfl, hq, HA, HO⟩
  go_wp2
  go_ret3
  exact Drew3.mk trivial (only_below HB HO.out)

set_option maxRecDepth 100000 in
set_option maxHeartbeats 2000000 in
theorem drawTripleDepth_any (v : Value) (n : Nat) (w : World) (h : CodeIn w v n) : Calls Try.prog 48 #[v] w (Drew3 (fun _ _ _ => True) w) := by
  go_enter Try.func48, Try.ntmps48
  go_wp2_with fail
  refine (open_any v n _ h).mono ?_
  rintro e w1 ⟨v1, n1, rfl, HR, HB⟩
  have hsz := HB.size
  go_wp2_with fail
  refine (triple_any _ _ _ _ 0 (by omega) _ HR.out (by omega)).mono ?_
  rintro e w2 ⟨x, y, z, q, rfl, hq, HA, HO⟩
  go_wp2
  go_ret3
  exact Drew3.mk trivial (only_below HB HO.out)

def Drew4 (P : Int → Int → Int → Int → Prop) (w : World) (e : Ending) (w' : World) : Prop := ∃ x y z t : Int, e = .returned (.tuple #[.int .i64 x, .int .i64 y, .int .i64 z, .int .i64 t]) ∧ P x y z t ∧ Below w.heap.size w w'
theorem Drew4.mk {P : Int → Int → Int → Int → Prop} {w w' : World} {x y z t : Int} (h : P x y z t) (hb : Below w.heap.size w w') : Drew4 P w (.returned (.tuple #[.int .i64 x, .int .i64 y, .int .i64 z, .int .i64 t])) w' := ⟨x, y, z, t, rfl, h, hb⟩
set_option maxRecDepth 100000 in
set_option maxHeartbeats 2000000 in
theorem drawTripleChild_any (v : Value) (n : Nat) (w : World) (h : CodeIn w v n) : Calls Try.prog 42 #[v] w (Drew4 (fun _ _ _ t => -1 ≤ t ∧ t ≤ 3) w) := by
  go_enter Try.func42, Try.ntmps42
  go_wp2_with fail
  refine (open_any v n _ h).mono ?_
  rintro e w1 ⟨v1, n1, rfl, HR, HB⟩
  have hsz := HB.size
  go_wp2_with fail
  refine (triple_any _ _ _ _ 0 (by omega) _ HR.out (by omega)).mono ?_
  rintro e w2 ⟨x, y, z, q, rfl, hq, HA, HO⟩
  go_wp2_with fail
  refine (pick_any _ _ _ _ q 4 (by omega) (by omega) (by omega) _ (HA.out)).mono ?_
  rintro e wHC ⟨t, r, rfl, ht0, ht1, _, hr, HC, HP⟩
  replace ht1 := ht1 (by omega)
  go_wp2_with fail
  refine (pick_any _ _ _ _ r 12 (by omega) (by omega) (by omega) _ (HC.out)).mono ?_
  rintro e wHD ⟨u, s, rfl, hu0, hu1, _, hs, HD, HQ⟩
  replace hu1 := hu1 (by omega)
  have hu3 : 0 ≤ u / 11 := Int.ediv_nonneg hu0 (by omega)
  have hu4 : u / 11 ≤ 1 := by omega
  obtain ⟨k, hk⟩ : ∃ k, k = u / 11 := ⟨_, rfl⟩
  rw [← hk] at hu3 hu4
  go_wp2
  refine bodyPost_ret (results_tmp4 rfl _ _ _) rfl ?_
  exact Drew4.mk (by omega) (only_below HB ((HO.out.trans HP.out).trans HQ.out))

end Go.Proofs.Ytenibnblibnocab

set_option linter.unusedVariables false
namespace Go.Proofs.Ytenibnblibnocab
open Go.RowKit

theorem all_eq_of {xs ys : List Int} (hl : xs.length = ys.length) (h : ∀ j, j < xs.length → xs.getD j 0 = ys.getD j 0) : xs = ys := by
  refine List.ext_getElem hl fun j h1 h2 => ?_
  have := h j h1
  simpa [List.getD, List.getElem?_eq_getElem h1, List.getElem?_eq_getElem h2] using this

theorem eqs_len {a b : Int} (h : a ≠ b) : (a != b) = true := by rw [bne_iff_ne]; exact h
theorem eqs_same {a b : Int} (h : a = b) : (a != b) = false := by rw [h]; simp

set_option maxHeartbeats 1000000 in
theorem eqIntS_any (v u : Value) (xs ys : List Int) (w : World) (hx : Rd w v xs) (hy : Rd w u ys) :
    Calls Try.prog 53 #[v, u] w fun e w' => e = .returned (.bool (decide (xs = ys))) ∧ ∃ k, w' = w.drewN k := by
  have form : ∀ {z : Value} {zs : List Int}, Rd w z zs → ∃ a cap, z = .slice a zs.length cap ∧ zs.length ≤ maxLen := by
    rintro z zs (⟨a, cap, rfl, rfl⟩ | ⟨b, o, cap, rfl, _, hm, _⟩)
    · exact ⟨a, cap, rfl, by simp⟩
    · exact ⟨_, _, rfl, hm⟩
  by_cases hl : xs.length = ys.length
  · rcases hx with ⟨a, cap, rfl, rfl⟩ | ⟨b, o, cap, rfl, hp, hm, hcx⟩
    · obtain ⟨a', cap', rfl, _⟩ := form hy
      have e : ys = [] := List.length_eq_zero_iff.1 hl.symm
      have HD : Hid (decide (([] : List Int) = ys) = true) := by show _ = _; rw [e]; rfl
      have HL : ys.length = 0 := hl.symm
      rw [HL]
      clear e hl HL hy
      go_enter Try.func53, Try.ntmps53
      go_wp2
      go_loop [5] (fun i => i = .int .i64 0) (fun _ => 0)
      case atStart => rfl
      case round =>
        obtain rfl := hrel
        go_wp2
        go_ret
        exact ⟨retB (by first | exact HD.out.symm | (rw [eq_comm]; exact HD.out.symm) | (have h := HD.out; simp at h; simp [← h])), 0, rfl⟩
    · rcases hy with ⟨a', cap', rfl, rfl⟩ | ⟨b', o', cap', rfl, _, _, hcy⟩
      · exact absurd hl (by simp; intro e; rw [e] at hp; simp at hp)
      · have T : ((xs.length : Int) != ys.length) = false := eqs_same (by omega)
        unfold maxLen at hm
        have HX := hid hcx
        have HY := hid hcy
        have HL := hid hl
        clear hcx hcy
        go_enter Try.func53, Try.ntmps53
        rw [← hl] at T ⊢
        clear hl
        go_wp2
        go_loopw [5] (fun i wr => ∃ K k : Nat, i = .int .i64 K ∧ K ≤ xs.length ∧ Hid (∀ j, j < K → xs.getD j 0 = ys.getD j 0) ∧ wr = w.drewN k) (fun i _ => xs.length - (intOf i).toNat)
        case atStart => exact ⟨0, 0, rfl, by omega, hid (by omega), rfl⟩
        case round =>
          obtain ⟨K, k, rfl, hK, HE, rfl⟩ := hrel
          by_cases hlt : K < xs.length
          · obtain ⟨x, hx⟩ : ∃ x, x = xs.getD K 0 := ⟨_, rfl⟩
            obtain ⟨y, hy⟩ : ∃ y, y = ys.getD K 0 := ⟨_, rfl⟩
            have c1 := HX.out K hlt
            have c2 := HY.out K (by have := HL.out; omega)
            rw [← hx] at c1
            rw [← hy] at c2
            have Hx := hid hx
            have Hy := hid hy
            clear hx hy
            have hi : (K : Int) < (xs.length : Int) := by omega
            by_cases hxy : x = y
            · have T2 : (x != y) = false := eqs_same hxy
              have HXY := hid hxy
              clear hxy
              go_wp2
              go_quiet (fail)
              go_wp2
              go_roundw
              case rel =>
                exact ⟨K + 1, _, by go_num, by omega, hid (by intro j hj; by_cases e : j = K; (· rw [e, ← Hx.out, ← Hy.out, HXY.out]); (· exact HE.out j (by omega))), by first | rfl | exact World.drewN_drewN ..⟩
              case measure => simp only [intOf]; omega
            · have T2 : (x != y) = true := eqs_len hxy
              have HXY := hid hxy
              clear hxy
              go_wp2
              go_quiet (fail)
              go_wp2
              go_ret
              refine ⟨retB (decide_eq_false fun e => HXY.out ?_).symm, _, by first | rfl | exact World.drewN_drewN ..⟩
              rw [Hx.out, Hy.out, e]
          · go_wp2
            go_ret
            refine ⟨retB (decide_eq_true (all_eq_of HL.out fun j hj => HE.out j (by omega))).symm, _, rfl⟩
  · obtain ⟨a, cap, rfl, m1⟩ := form hx
    obtain ⟨a', cap', rfl, m2⟩ := form hy
    have T : ((xs.length : Int) != ys.length) = true := eqs_len (by omega)
    have HD : Hid (decide (xs = ys) = false) := hid (decide_eq_false fun e => hl (by rw [e]))
    clear hl hx hy
    go_enter Try.func53, Try.ntmps53
    go_wp2
    go_ret
    exact ⟨retB HD.out.symm, 0, rfl⟩

/-- k, k + 1, .. -/
def marksL (k : Int) (n : Nat) : List Int := (List.range n).map (fun (i : Nat) => k + (i : Int))
theorem marksL_len (k : Int) (n : Nat) : (marksL k n).length = n := by simp [marksL]
theorem marksL_get (k : Int) (n i : Nat) (h : i < n) : (marksL k n).getD i 0 = k + i := by simp [marksL, List.getD, h]

/-- the first i numbers are marked -/
def halfL (k : Int) (i : Nat) (xs : List Int) : List Int := marksL k i ++ xs.drop i
theorem halfL_len (k : Int) (i : Nat) (xs : List Int) (h : i ≤ xs.length) : (halfL k i xs).length = xs.length := by simp [halfL, marksL_len]; omega
theorem halfL_step (k : Int) (i : Nat) (xs : List Int) (h : i < xs.length) : (halfL k i xs).set i (k + i) = halfL k (i + 1) xs := by
  unfold halfL
  rw [List.set_append_right _ _ (by simp [marksL_len]), marksL_len, Nat.sub_self, List.drop_eq_getElem_cons h, List.set_cons_zero]
  simp [marksL, List.range_succ]
theorem halfL_end (k : Int) (xs : List Int) : halfL k xs.length xs = marksL k xs.length := by simp [halfL]

end Go.Proofs.Ytenibnblibnocab

set_option linter.unusedVariables false
namespace Go.Proofs.Ytenibnblibnocab
open Go.RowKit

set_option maxHeartbeats 1000000 in
theorem sameInts_any (v u : Value) (xs ys : List Int) (w : World) (hx : Rd w v xs) (hy : Rd w u ys) :
    Calls Try.prog 21 #[v, u] w fun e w' => e = .returned (.bool (decide (xs = ys))) ∧ ∃ k, w' = w.drewN k := by
  have form : ∀ {z : Value} {zs : List Int}, Rd w z zs → ∃ a cap, z = .slice a zs.length cap ∧ zs.length ≤ maxLen := by
    rintro z zs (⟨a, cap, rfl, rfl⟩ | ⟨b, o, cap, rfl, _, hm, _⟩)
    · exact ⟨a, cap, rfl, by simp⟩
    · exact ⟨_, _, rfl, hm⟩
  by_cases hl : xs.length = ys.length
  · rcases hx with ⟨a, cap, rfl, rfl⟩ | ⟨b, o, cap, rfl, hp, hm, hcx⟩
    · obtain ⟨a', cap', rfl, _⟩ := form hy
      have e : ys = [] := List.length_eq_zero_iff.1 hl.symm
      have HD : Hid (decide (([] : List Int) = ys) = true) := by show _ = _; rw [e]; rfl
      have HL : ys.length = 0 := hl.symm
      rw [HL]
      clear e hl HL hy
      go_enter Try.func21, Try.ntmps21
      go_wp2
      go_loop [5] (fun i => i = .int .i64 0) (fun _ => 0)
      case atStart => rfl
      case round =>
        obtain rfl := hrel
        go_wp2
        go_ret
        exact ⟨retB (by first | exact HD.out.symm | (rw [eq_comm]; exact HD.out.symm) | (have h := HD.out; simp at h; simp [← h])), 0, rfl⟩
    · rcases hy with ⟨a', cap', rfl, rfl⟩ | ⟨b', o', cap', rfl, _, _, hcy⟩
      · exact absurd hl (by simp; intro e; rw [e] at hp; simp at hp)
      · have T : ((xs.length : Int) != ys.length) = false := eqs_same (by omega)
        unfold maxLen at hm
        have HX := hid hcx
        have HY := hid hcy
        have HL := hid hl
        clear hcx hcy
        go_enter Try.func21, Try.ntmps21
        rw [← hl] at T ⊢
        clear hl
        go_wp2
        go_loopw [5] (fun i wr => ∃ K k : Nat, i = .int .i64 K ∧ K ≤ xs.length ∧ Hid (∀ j, j < K → xs.getD j 0 = ys.getD j 0) ∧ wr = w.drewN k) (fun i _ => xs.length - (intOf i).toNat)
        case atStart => exact ⟨0, 0, rfl, by omega, hid (by omega), rfl⟩
        case round =>
          obtain ⟨K, k, rfl, hK, HE, rfl⟩ := hrel
          by_cases hlt : K < xs.length
          · obtain ⟨x, hx⟩ : ∃ x, x = xs.getD K 0 := ⟨_, rfl⟩
            obtain ⟨y, hy⟩ : ∃ y, y = ys.getD K 0 := ⟨_, rfl⟩
            have c1 := HX.out K hlt
            have c2 := HY.out K (by have := HL.out; omega)
            rw [← hx] at c1
            rw [← hy] at c2
            have Hx := hid hx
            have Hy := hid hy
            clear hx hy
            have hi : (K : Int) < (xs.length : Int) := by omega
            by_cases hxy : x = y
            · have T2 : (x != y) = false := eqs_same hxy
              have HXY := hid hxy
              clear hxy
              go_wp2
              go_quiet (fail)
              go_wp2
              go_roundw
              case rel =>
                exact ⟨K + 1, _, by go_num, by omega, hid (by intro j hj; by_cases e : j = K; (· rw [e, ← Hx.out, ← Hy.out, HXY.out]); (· exact HE.out j (by omega))), by first | rfl | exact World.drewN_drewN ..⟩
              case measure => simp only [intOf]; omega
            · have T2 : (x != y) = true := eqs_len hxy
              have HXY := hid hxy
              clear hxy
              go_wp2
              go_quiet (fail)
              go_wp2
              go_ret
              refine ⟨retB (decide_eq_false fun e => HXY.out ?_).symm, _, by first | rfl | exact World.drewN_drewN ..⟩
              rw [Hx.out, Hy.out, e]
          · go_wp2
            go_ret
            refine ⟨retB (decide_eq_true (all_eq_of HL.out fun j hj => HE.out j (by omega))).symm, _, rfl⟩
  · obtain ⟨a, cap, rfl, m1⟩ := form hx
    obtain ⟨a', cap', rfl, m2⟩ := form hy
    have T : ((xs.length : Int) != ys.length) = true := eqs_len (by omega)
    have HD : Hid (decide (xs = ys) = false) := hid (decide_eq_false fun e => hl (by rw [e]))
    clear hl hx hy
    go_enter Try.func21, Try.ntmps21
    go_wp2
    go_ret
    exact ⟨retB HD.out.symm, 0, rfl⟩

theorem rd_one {w : World} {k : Nat} (x : Int) (h : w.cell? ⟨k, 0, none⟩ = some (.int .i64 x)) : Rd w (.slice (some ⟨k, 0, none⟩) 1 1) [x] := by
  right
  refine ⟨k, 0, 1, rfl, by simp, by unfold maxLen; simp, fun i hi => ?_⟩
  obtain rfl : i = 0 := by simp at hi; exact hi
  simpa using h

end Go.Proofs.Ytenibnblibnocab

namespace Go.Proofs.Ytenibnblibnocab.fnTriple
open Go.ChangeShapes Go.WideShapes Go.ChangeAt Go.RowKit
open Go.ChangeMaps (open_string shut_string)
set_option linter.unusedVariables false
theorem triple_zero {a b c : Int} (h : triB a b c = true) : zeroB [1, 1, -1] [a, b, c] = true ∧ plainL [a, b, c] = [a, b, c] ∧ c % 2 = 1 ∧ a < c ∧ b < c := by
  obtain ⟨⟨a1, a2⟩, ⟨b1, b2⟩, ⟨c1, c2⟩, e, ho, hg⟩ := triB_iff.1 h
  have hev := tri_even e ho
  have hc2 : c % 2 = 1 := by
    rcases sq_mod4 a with h1 | h1 <;> rcases sq_mod4 b with h2 | h2 <;> rcases sq_mod4 c with h3 | h3 <;> omega
  have p1 : 0 < a * a := Int.mul_pos (by omega) (by omega)
  have p2 : 0 < b * b := Int.mul_pos (by omega) (by omega)
  have lt : ∀ x : Int, 1 ≤ x → x * x < c * c → x < c := fun x hx hl => Int.not_le.1 fun hle => by
    have := Int.mul_le_mul hle hle (by omega) (by omega)
    omega
  refine ⟨zeroB_iff.2 ⟨fun v hv => ?_, by decide, rfl, ⟨a, by simp, by omega⟩, ?_⟩, ?_, hc2, lt a a1 (by omega), lt b b1 (by omega)⟩
  · simp only [List.mem_cons, List.not_mem_nil, or_false] at hv
    rcases hv with rfl | rfl | rfl <;> omega
  · show valI [1, 1, -1] [a, b, c] 3 = 0
    rw [valT3]
    unfold q3
    rw [Int.one_mul, Int.one_mul, Int.neg_one_mul, Int.neg_mul]
    omega
  · have hs : signL [a, b, c] = 1 := by
      unfold signL
      rw [if_neg (by omega), if_neg (by omega)]
    have hgl : gcdL [a, b, c] = 1 := by
      show Nat.gcd (Nat.gcd (Nat.gcd 0 a.natAbs) b.natAbs) c.natAbs = 1
      rw [Nat.gcd_zero_left, hg, Nat.gcd_one_left]
    unfold plainL
    rw [hs, hgl]
    simp
theorem tri_back3 {a b c : Int} (h : triB a b c = true) : ∃ x y : Int, tbackV a b c = .tuple #[.int .i64 x, .int .i64 y, .bool true] := by
  unfold tbackV v3
  rw [h]
  exact ⟨_, _, rfl⟩
set_option maxRecDepth 100000 in
set_option maxHeartbeats 4000000 in
theorem walk (a0 : Option Addr) (len0 cap0 : Nat) (z0 : List Int) (w : World) (w0 : IsRow .u8 w a0 len0 cap0 z0) :
    Calls Try.prog 8 #[.slice a0 len0 cap0] w fun e w' => e = .returned (.bool true) ∧ Below w.heap.size w w' := by
  have HC := hid (codeIn_of w0)
  clear w0
  by_cases hl : (1048576 : Int) < (len0 : Int)
  · go_enter Try.func8, Try.ntmps8
    go_wp2
    go_ret
    exact ⟨rfl, Below.refl _ _⟩
  · go_enter Try.func8, Try.ntmps8
    go_wp2_with fail
    refine (drawTripleIs_any _ len0 _ HC.out).mono ?_
    rintro e w1 ⟨a, b, c, rfl, _, hb⟩
    have HB1 := hid hb
    clear hb
    have HM := hid (fun wx => tripleIs_any a b c wx)
    have HS := hid (fun wx => tripleIsS_any a b c wx)
    cases ht : triB a b c with
    | false =>
      rw [ht] at HM HS
      clear ht
      go_wp2_with fail
      refine (HM.out _).mono ?_
      rintro e w2 ⟨rfl, hb2⟩
      have HB2 := hid (HB1.out.trans (hb2.mono HB1.out.size))
      clear hb2
      go_wp2_with fail
      refine (HS.out _).mono ?_
      rintro e w3 ⟨rfl, rfl⟩
      go_wp2
      go_ret
      exact ⟨rfl, HB2.out⟩
    | true =>
      obtain ⟨hz, hp, hc, h1, h2⟩ := triple_zero ht
      obtain ⟨x, y, hbk⟩ := tri_back3 ht
      have HT := hid (fun wx => tripleBack_any a b c wx)
      rw [hbk] at HT
      rw [ht] at HM HS
      have HZ := hid hz
      have HZP : Hid (zplainL [1, 1, -1] [a, b, c] = [a, b, c]) := hid (by unfold zplainL; rw [hz, if_pos rfl, hp])
      have TC : (c % 2 == 1) = true := by rw [beq_iff_eq]; exact hc
      have hc0 : 0 ≤ c := by have := (triB_iff.1 ht).2.2.1.1; omega
      clear ht hz hp hbk hc
      go_wp2_with fail
      refine (HM.out _).mono ?_
      rintro e w2 ⟨rfl, hb2⟩
      have HB2 := hid (HB1.out.trans (hb2.mono HB1.out.size))
      clear hb2
      go_wp2_with fail
      refine (HS.out _).mono ?_
      rintro e w3 ⟨rfl, rfl⟩
      have HO1 := hid (owns_lit (B := w.heap.size) (W := w2) [1, 1, -1] _ rfl HB2.out.size (by unfold maxLen; simp))
      have HB3 := hid (HB2.out.alloc HB2.out.size (.cells #[.int .i64 1, .int .i64 1, .int .i64 (-1)] 3))
      have HO2 := hid (owns_lit (B := w.heap.size) (W := w2.alloc (.cells #[.int .i64 1, .int .i64 1, .int .i64 (-1)] 3)) [a, b, c] _ rfl HB3.out.size (by unfold maxLen; simp))
      have HR1 : Hid (Rd ((w2.alloc (.cells #[.int .i64 1, .int .i64 1, .int .i64 (-1)] 3)).alloc (.cells #[.int .i64 a, .int .i64 b, .int .i64 c] 3)) (.slice (some ⟨w2.heap.size, 0, none⟩) 3 3) [1, 1, -1]) := hid (Owns.rd (show Owns _ w.heap.size _ [1, 1, -1] from HO1.out.alloc _))
      have HR2 : Hid (Rd ((w2.alloc (.cells #[.int .i64 1, .int .i64 1, .int .i64 (-1)] 3)).alloc (.cells #[.int .i64 a, .int .i64 b, .int .i64 c] 3)) (.slice (some ⟨w2.heap.size + 1, 0, none⟩) 3 3) [a, b, c]) := hid (by have h := HO2.out.rd; rw [World.size_alloc] at h; exact h)
      have HB4 := hid (HB3.out.alloc HB3.out.size (.cells #[.int .i64 a, .int .i64 b, .int .i64 c] 3))
      clear HO1 HO2 HB3
      go_wp2_with fail
      refine (zeroPlain_any _ _ [1, 1, -1] [a, b, c] _ HR1.out HR2.out).mono ?_
      rw [HZ.out, HZP.out]
      rintro e w5 ⟨u, rfl, ho, hb5⟩
      have HB5 := hid (HB4.out.trans (hb5.mono HB4.out.size))
      have HV5 := hid (HR2.out.keep hb5)
      have HU5 := hid ho.rd
      clear ho hb5 HR1 HR2
      go_wp2_with fail
      refine (HT.out _).mono ?_
      rintro e w6 ⟨rfl, hb6⟩
      have HB6 := hid (HB5.out.trans (hb6.mono HB5.out.size))
      have HV6 := hid (HV5.out.keep hb6)
      have HU6 := hid (HU5.out.keep hb6)
      clear hb6
      obtain ⟨J, hJ⟩ : ∃ J, J = [a, b, c] := ⟨_, rfl⟩
      have HV7 : Hid (Rd w6 _ J) := hid (by rw [hJ]; exact HV6.out)
      have HU7 : Hid (Rd w6 u J) := hid (by rw [hJ]; exact HU6.out)
      have HD : decide (J = J) = true := by simp
      clear hJ
      go_wp2_with fail
      refine (sameInts_any _ _ J J _ HU7.out HV7.out).mono ?_
      rintro e w7 ⟨rfl, k7, rfl⟩
      go_wp2
      go_ret
      exact ⟨rfl, below_drewN HB6.out k7⟩
theorem own : ownKnob Try.prog.godebug = none := by kernel_rfl
theorem laidOut : laidOutB Try.prog = true := by kernel_rfl
set_option maxRecDepth 100000 in
theorem lifted (os : Os) (started : os.Started) (H : Type) (enc : TypeId × Value → H) :
    ReturnsInHanded {} Try.checked os 8 .any (Rows.fnTripleSpec.pre6 enc Try.prog Try.f8 Rows.fnTripleRow.domain false) (Rows.fnTripleSpec.post enc Try.prog Try.f8 false true false false) := by
  refine returnsInHanded_of_change (C := Try.checked) own started (by kernel_rfl) Try.func8
    (ChangeSpec.witness6 (enc := enc) (C := Try.checked) false ⟨#[], #[.slice none 0 0], []⟩ 8 (by kernel_rfl) (by kernel_rfl) (by kernel_rfl) (by kernel_rfl)) ?_
  intro W base args ds gs before hval0 hW hcnd _
  have hval : ∀ (j : Nat) t v, Try.f8.params[j]? = some t → args[j]? = some v → Value.okWide Try.prog W .any base t v := hval0
  have hW' := hW
  obtain ⟨p, q, hA0, hV, rfl, hfz, hnd⟩ := hW
  have hA : DataW.TrodAll enc Try.prog W 0 (fun _ => true) true Try.f8.params.toList args.toList ds p := hA0
  rw [Try.params8] at hA hval
  obtain ⟨v0, vs0, d0, ds0, p0, q0, hargs, rfl, rfl, h0, r0⟩ := trodAll_cons hA
  obtain ⟨rfl, rfl, rfl⟩ := trodAll_nil r0
  obtain rfl : args = #[v0] := by cases args; simp_all
  obtain ⟨rfl, rfl⟩ := trodVars_none hV
  obtain ⟨a0, len0, cap0, rfl⟩ := okWide_slice Try.underlying22 (hval 0 22 v0 rfl rfl)
  have k0 := h0
  have lt0 : ∀ x ∈ p0, x.block < W.heap.size := by obtain ⟨m, hm⟩ := k0; exact DataW.trod_lt m _ _ _ hm
  obtain ⟨z0, w0⟩ : ∃ zs, IsRow .u8 W a0 len0 cap0 zs := by
    obtain ⟨fuel, hf⟩ := h0
    rcases open_ints Try.underlying22 Try.underlying5 (by kernel_rfl) hf with ⟨hcs, _⟩ | ⟨x, l, c, zs, hcs, _, hl, hm, hz, _, hcell, hwz⟩
    · simp [Value.cells] at hcs
      obtain ⟨rfl, rfl, rfl⟩ := hcs
      exact ⟨[], .inl ⟨rfl, rfl, rfl, rfl⟩⟩
    · simp [Value.cells] at hcs
      obtain ⟨rfl, rfl, rfl⟩ := hcs
      exact ⟨zs, .inr ⟨_, rfl, hl, hm, by simpa using hz, hcell, hwz⟩⟩
  clear hA0 hval0
  refine (walk a0 len0 cap0 z0 W w0).mono fun e W' ⟨he, bel⟩ => ?_
  subst he
  exact ⟨_, rfl, _, _, _, [], _, [], hW', trodAll_mk1 (shut_bool Try.underlying4 _), (trodAll_cons_mk (Below.trod laidOut (by kernel_rfl) (of_decide_eq_true (by kernel_rfl)) k0 bel lt0) trodAll_mk0), rfl, bel.frame _, fun h => by cases h⟩
theorem over : Rows.fnTripleRow.holds Try.pinned (OpenSpec.ofChange Rows.fnTripleSpec) :=
  OpenClaim.holds_of_wide 8 Try.f8 rfl rfl rfl rfl rfl rfl rfl ⟨rfl, rfl, rfl, rfl, rfl⟩ rfl rfl rfl rfl rfl (by kernel_rfl) Try.func8 (by kernel_rfl)
    (of_decide_eq_true (by kernel_rfl)) (by unfold Func.isWrapper; first | (rw [if_pos (by decide +kernel)]; kernel_rfl) | (rw [if_neg (by decide +kernel)]; exact ⟨rfl, rfl⟩))
    (fun os started H enc _ => lifted os started H enc)
theorem proved : Rows.FnTripleSaid := over
end Go.Proofs.Ytenibnblibnocab.fnTriple
