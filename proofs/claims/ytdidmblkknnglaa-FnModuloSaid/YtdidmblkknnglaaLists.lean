/-
  Contracts: the primes of a number as a list (program and model).
-/
import Derived.Test.YtdidmblkknnglaaRes
import Derived.Test.YtdidmblkknnglaaOwn
import Derived.Maps.AppendAt
set_option linter.unusedVariables false
namespace Go.Proofs.Ytdidmblkknnglaa
open Go.RowKit Go.Shelf
attribute [local go_sem] Oper.semAt_some

theorem infoInt : (Try.prog.info? 3).map (fun i => (i.zero, i.size, i.bytes)) = some (some (.int .i64 0), 1, 8) := by kernel_rfl

def natsI (l : List Nat) : List Int := l.map (fun (k : Nat) => (k : Int))

theorem plGo_some {f p L : Nat} (hle : p * p ≤ L) (hd : L % p = 0) : plGo (f + 1) p L = p :: plGo f (p + 1) (L / p ^ val L p) := by
  conv => lhs; unfold plGo
  rw [if_pos hle, if_pos hd]
theorem plGo_none {f p L : Nat} (hle : p * p ≤ L) (hd : ¬ L % p = 0) : plGo (f + 1) p L = plGo f (p + 1) L := by
  conv => lhs; unfold plGo
  rw [if_pos hle, if_neg hd]
theorem plGo_end {f p L : Nat} (hle : ¬ p * p ≤ L) : plGo (f + 1) p L = if 1 < L then [L] else [] := by
  conv => lhs; unfold plGo
  rw [if_neg hle]

set_option maxRecDepth 100000 in
set_option maxHeartbeats 2000000 in
theorem l1Primes_any (n : Int) (h0 : n ≠ 0) (a1 : -5000 ≤ n) (a2 : n ≤ 5000) (w : World) :
    Calls Try.prog 97 #[.int .i64 n] w fun e w' => ∃ v, e = .returned v ∧ Owns w' w.heap.size v (natsI (plist n.natAbs)) ∧ Below w.heap.size w w' := by
  obtain ⟨i0, hi, hz0, hz1, hz2⟩ := info_parts infoInt
  obtain ⟨N, hN⟩ : ∃ N, N = n.natAbs := ⟨_, rfl⟩
  rw [← hN]
  have hN1 : 1 ≤ N := by omega
  have hN2 : N ≤ 5000 := by omega
  have HN := hid hN
  clear hN
  go_enter Try.func97, Try.ntmps97
  go_wp2_with (go_at_call 107; refine (l1Size_any _ (by omega) (by omega) _).mono ?_; rw [← HN.out]; rintro e w' ⟨rfl, rfl⟩)
  go_loopw [0, 3, 4] (fun sl so sp wr => ∃ (pre : List Nat) (L p f : Nat), sl = .int .i64 L ∧ sp = .int .i64 p ∧ 1 ≤ L ∧ L ≤ 5000 ∧ 2 ≤ p ∧ p ≤ 71 ∧ p + f = 72 ∧ pre.length ≤ p ∧ Hid (plist N = pre ++ plGo f p L) ∧ wr.ownsRow w.heap.size 3 1 so pre.length ((natsI pre).map (Value.int .i64)) ∧ Below w.heap.size w wr)
    (fun _ _ sp _ => (71 - intOf sp).toNat)
  case atStart =>
    refine ⟨[], N, 2, 70, rfl, rfl, hN1, hN2, by omega, by omega, rfl, by simp, hid rfl, ?_, (Below.refl _ _).alloc (Nat.le_refl _) _⟩
    exact World.ownsRow_made (size := 1) w #[] 0 (Nat.le_refl _) (by unfold maxLen; omega) rfl
  case round =>
    obtain ⟨pre, L, p, f, rfl, rfl, hL1, hL2, hp2, hp7, hf, hpl, HP, hown, hB⟩ := hrel
    have hKK := mul_bd (show p ≤ 71 by omega) (show p ≤ 71 by omega)
    obtain ⟨g, rfl⟩ : ∃ g, f = g + 1 := ⟨f - 1, by omega⟩
    by_cases hle : (p : Int) * p ≤ L
    · have hle' : p * p ≤ L := by exact_mod_cast hle
      have hp70 := sq_le hle' hL2
      by_cases hd : L % p = 0
      · have T : ((L : Int) % p == 0) = true := by rw [beq_iff_eq]; exact_mod_cast hd
        have HE := hid (plGo_some (f := g) hle' hd)
        have HD := hid (val_dvd p hp2 L L (Nat.le_refl _) (by omega))
        clear hd hle'
        go_wp2_with (at_builtin; refine wpList_append_own _ rfl _ _ 28 rfl w.heap.size 3 i0 (.int .i64 0) 1 8 Try.underlying28 hi hz0 hz1 hz2 rfl (by decide) _ _ _ rfl (hown.alloc _) ⟨wr.heap.size, 0, none⟩ 1 1 [.int .i64 p] rfl rfl (cell_one_new _ _ _) (by simp [Value.oneCell']) (by unfold maxLen; omega) (by omega) (by have := hB.size; simp; omega) ?_; intro v' w1 hown' hgrow _)
        have hB1 : Below w.heap.size w w1 := (hB.alloc hB.size _).grown hgrow (by have := hB.size; simp; omega) (fun k e => (hown.lt k e).1)
        go_loop [0] (fun sl => ∃ M j : Nat, sl = .int .i64 M ∧ 1 ≤ M ∧ M ≤ 5000 ∧ Hid (val M p + j = val L p ∧ M * p ^ j = L)) (fun sl => (intOf sl).toNat)
        case atStart => exact ⟨L, 0, rfl, hL1, hL2, hid ⟨rfl, by simp⟩⟩
        case round =>
          obtain ⟨M, j, rfl, hM1, hM2, HM⟩ := hrel
          have hdd := ediv_bd (b := p) hM2
          have hd0 := hdd.1
          have hd1 := hdd.2
          clear hdd
          by_cases hm : M % p = 0
          · have T2 : ((M : Int) % p == 0) = true := by rw [beq_iff_eq]; exact_mod_cast hm
            have hdv := Nat.dvd_of_mod_eq_zero hm
            have hq1 : 1 ≤ M / p := Nat.div_pos (Nat.le_of_dvd (by omega) hdv) (by omega)
            have hq2 : M / p < M := Nat.div_lt_self (by omega) (by omega)
            have HS := hid (val_step hp2 (show 0 < M by omega) hm)
            have HV := hid (Nat.div_mul_cancel hdv)
            clear hm hdv
            go_wp2
            go_round
            case rel => exact ⟨M / p, j + 1, vI (by push_cast; rfl), hq1, by omega, hid ⟨by have := HM.out.1; have := HS.out; omega, by rw [Nat.pow_succ, Nat.mul_comm (p ^ j), ← Nat.mul_assoc, HV.out]; exact HM.out.2⟩⟩
            case measure =>
              simp only [intOf]
              have e : (M : Int) / p = ((M / p : Nat) : Int) := by push_cast; rfl
              rw [e]
              exact Int.toNat_lt_toNat (by omega) |>.2 (Int.ofNat_lt.2 hq2)
          · have T2 : ((M : Int) % p == 0) = false := by rw [beq_eq_false_iff_ne]; exact_mod_cast hm
            have HS := hid (val_stop hm)
            have HJ : Hid (M = L / p ^ val L p) := by
              show _ = _
              have h1 := HM.out.1
              rw [HS.out, Nat.zero_add] at h1
              rw [← h1]
              conv => rhs; lhs; rw [← HM.out.2]
              rw [Nat.mul_div_cancel _ (Nat.pow_pos (by omega))]
            clear hm
            go_wp2
            go_roundw
            case rel =>
              refine ⟨pre ++ [p], M, p + 1, g, rfl, by go_num, hM1, hM2, by omega, by omega, by omega, by simp; omega, hid (by rw [HP.out, HE.out, HJ.out]; simp), ?_, hB1⟩
              have := hown'
              simpa [natsI] using this
            case measure => simp only [intOf]; omega
      · have T : ((L : Int) % p == 0) = false := by rw [beq_eq_false_iff_ne]; exact_mod_cast hd
        have HE := hid (plGo_none (f := g) hle' hd)
        clear hd hle'
        go_wp2
        go_loop [0] (fun sl => sl = .int .i64 L) (fun sl => 0)
        case atStart => rfl
        case round =>
          obtain rfl := hrel
          go_wp2
          go_roundw
          case rel => exact ⟨pre, L, p + 1, g, rfl, by go_num, hL1, hL2, by omega, by omega, by omega, by omega, hid (by rw [HP.out, HE.out]), hown, hB⟩
          case measure => simp only [intOf]; omega
    · have hle' : ¬ p * p ≤ L := fun h => hle (by exact_mod_cast h)
      have HE := hid (plGo_end (f := g) hle')
      clear hle'
      by_cases hL : 1 < L
      · have HF : Hid (plist N = pre ++ [L]) := by show _ = _; rw [HP.out, HE.out, if_pos hL]
        go_wp2_with (at_builtin; refine wpList_append_own _ rfl _ _ 28 rfl w.heap.size 3 i0 (.int .i64 0) 1 8 Try.underlying28 hi hz0 hz1 hz2 rfl (by decide) _ _ _ rfl (hown.alloc _) ⟨wr.heap.size, 0, none⟩ 1 1 [.int .i64 L] rfl rfl (cell_one_new _ _ _) (by simp [Value.oneCell']) (by unfold maxLen; omega) (by omega) (by have := hB.size; simp; omega) ?_; intro v' w1 hown' hgrow _)
        have hB1 : Below w.heap.size w w1 := (hB.alloc hB.size _).grown hgrow (by have := hB.size; simp; omega) (fun k e => (hown.lt k e).1)
        go_ret
        exact ⟨_, rfl, by unfold Owns; rw [HF.out]; simpa [natsI] using hown', hB1⟩
      · have HF : Hid (plist N = pre) := by show _ = _; rw [HP.out, HE.out, if_neg hL, List.append_nil]
        go_wp2
        go_ret
        exact ⟨_, rfl, by unfold Owns; rw [HF.out]; simpa [natsI] using hown, hB⟩

theorem natsI_len (l : List Nat) : (natsI l).length = l.length := by simp [natsI]
def fsts (l : List PP) : List Nat := l.map (fun x => x.1.1)
theorem fsts_snoc (l : List PP) (x : PP) : fsts (l ++ [x]) = fsts l ++ [x.1.1] := by simp [fsts]
theorem fsts_all {l : List PP} {N : Nat} (h : l.map (·.1) = ppow N) : fsts l = (ppow N).map (·.1) := by rw [← h]; simp [fsts]
theorem natsI_snoc (l : List Nat) (x : Nat) : natsI (l ++ [x]) = natsI l ++ [(x : Int)] := by simp [natsI]
theorem ppGo_len : ∀ f p L, (ppGo f p L).length ≤ f
  | 0, _, _ => Nat.le_refl _
  | f + 1, p, L => by
    unfold ppGo
    have := ppGo_len f
    split
    · split
      · simp; exact this _ _
      · exact Nat.le_succ_of_le (this _ _)
    · split <;> simp
theorem ppow_len (N : Nat) : (ppow N).length ≤ 70 := ppGo_len _ _ _

theorem primes_len (n : Int) : (natsI (if factB n then plist n.natAbs else [])).length ≤ 1000000 := by
  rw [natsI_len]
  split
  · rw [plist_eq, List.length_map]
    have := ppow_len n.natAbs
    omega
  · simp

end Go.Proofs.Ytdidmblkknnglaa
