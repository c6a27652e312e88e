/-
  Contracts of the program's chapter 7: is a table a move.
-/
import Derived.Test.YtacjejnbomdhbabMpK
import Derived.Test.YtacjejnbomdhbabPg
set_option linter.unusedVariables false
namespace Go.Proofs.Ytacjejnbomdhbab
open Go.RowKit

theorem rd_firm {W : World} {v : Value} {xs : List Int} (h : Rd W v xs) (h0 : 0 < xs.length) : Firm v := by
  obtain ⟨b, o, c, rfl, _⟩ := rd_cells h h0
  exact .inr ⟨_, _, _, rfl⟩
set_option maxRecDepth 100000 in
set_option maxHeartbeats 4000000 in
theorem concatM_any (v : Value) (R : List (List Int)) (n : Nat) (w : World) (h : RdM w v R) (hs : Sq n R) (hn1 : 1 ≤ n) (hn3 : n ≤ 3) :
    Calls Try.prog 96 #[v] w fun e w' => ∃ u, e = .returned u ∧ Owns w' w.heap.size u R.flatten ∧ Below w.heap.size w w' := by
  have HM := hid h
  obtain ⟨a, cap, rfl⟩ := h.form
  have HS := hid hs
  have hRl := hs.1
  have HRL := hid hRl
  have hfl := flat_len (n := n) R hs.2
  have hfl1 : 1 ≤ R.flatten.length := by rw [hfl, hRl]; exact Nat.mul_pos hn1 hn1
  have hfl9 : R.flatten.length ≤ 9 := by rw [hfl, hRl]; exact Nat.mul_le_mul hn3 hn3
  have HTL : Hid (∀ K, K ≤ R.length → (R.take K).flatten.length ≤ 9) := hid (fun K hK => by
    rw [flat_len (n := n) _ (fun r hr => hs.2 r (List.mem_of_mem_take hr)), List.length_take]
    have : min K R.length ≤ 3 := by omega
    exact Nat.mul_le_mul this hn3)
  have HFN : Hid (∀ K, K < R.length → (R.getD K []).length = n) := hid (fun K hK => hs.2 _ (by rw [List.getD_eq_getElem?_getD, List.getElem?_eq_getElem hK]; exact List.getElem_mem _))
  have hR3 : R.length ≤ 3 := by omega
  clear h hs hRl hfl
  go_enter Try.func96, Try.ntmps96
  go_wp2_with fail
  go_loop [3, 11] (fun so si => ∃ (K L : Nat), si = .int .i64 K ∧ K ≤ R.length ∧ so = .int .i64 (L : Int) ∧ L ≤ 9 ∧ Hid (L = (R.take K).flatten.length)) (fun _ si => R.length - (intOf si).toNat)
  case atStart => exact ⟨0, 0, rfl, by omega, rfl, by omega, hid rfl⟩
  case round =>
    obtain ⟨K, L, rfl, hK, rfl, hL9, HLE⟩ := hrel
    by_cases hlt : K < R.length
    · obtain ⟨b, o, u, rfl, hc, hr⟩ := HM.out.row hlt
      have hlen := HFN.out K hlt
      have HFT : Hid (((R.take (K + 1)).flatten.length : Nat) = (R.take K).flatten.length + n) := hid (by rw [flat_take hlt, List.length_append, hlen])
      obtain ⟨ar, cr, rfl, _⟩ := hr.form
      rw [hlen] at hc
      have h9 : L + n ≤ 9 := by
        have := HTL.out (K + 1) hlt
        rw [HFT.out, ← HLE.out] at this
        exact this
      have hKi : (K : Int) < (R.length : Int) := by omega
      have HLT := hid hlt
      clear hr hlen hlt
      go_wp2_with fail
      go_round
      case measure => simp only [intOf]; have := HLT.out; omega
      case rel => exact ⟨K + 1, L + n, by go_num, HLT.out, by go_num, h9, hid (by rw [HFT.out, ← HLE.out])⟩
    · obtain rfl : K = R.length := by omega
      have hL1 : 1 ≤ L := by have h := HLE.out; rw [List.take_length] at h; omega
      clear hlt hfl1 hfl9
      go_wp2_with fail
      refine (growNil_any _ (by omega) (by omega) _).mono ?_
      rintro e w2 ⟨v, rfl, ho, hb⟩
      have HO := hid ho
      have HB := hid hb
      clear ho hb
      go_wp2_with fail
      go_loopw [6, 27] (fun so si wr => ∃ K : Nat, si = .int .i64 K ∧ K ≤ R.length ∧ Hid (Below w.heap.size w wr) ∧ Hid (Owns wr w.heap.size so (R.take K).flatten)) (fun _ si _ => R.length - (intOf si).toNat)
      case atStart => exact ⟨0, rfl, by omega, HB, HO⟩
      case round =>
        obtain ⟨K, rfl, hK, HBr, HOr⟩ := hrel
        rename World => wr
        by_cases hlt : K < R.length
        · have hsz := HBr.out.size
          have h9 := HTL.out K hK
          obtain ⟨b, o, u, rfl, hc, hr⟩ := (HM.out.keep HBr.out).row hlt
          have hlen := HFN.out K hlt
          have HFT := hid (flat_take hlt)
          obtain ⟨xs, hxs⟩ : ∃ xs, xs = R.getD K [] := ⟨_, rfl⟩
          rw [← hxs] at hr hlen HFT
          have HXr := hid hr
          have FX := hid (rd_firm hr (by omega))
          obtain ⟨ar, cr, rfl, _⟩ := hr.form
          obtain ⟨pre, hpre⟩ : ∃ pre, pre = (R.take K).flatten := ⟨_, rfl⟩
          rw [← hpre] at HOr HFT h9
          have hx3 : xs.length ≤ 3 := by omega
          have hKi : (K : Int) < (R.length : Int) := by omega
          have HLT := hid hlt
          clear hr hlen hxs hpre hlt
          go_wp2_with (at_builtin; refine append_rd rfl _ _ rfl w.heap.size _ pre rfl HOr.out _ xs rfl HXr.out FX.out (by omega) hsz ?_; intro v3 w3 o3 g3)
          have hO3 := hid o3
          have HB3 := hid (HBr.out.grown g3 hsz (fun k e => HOr.out.ge k e))
          clear o3 g3
          go_roundw
          case measure => simp only [intOf]; have := HLT.out; omega
          case rel => exact ⟨K + 1, by go_num, HLT.out, HB3, hid (by rw [HFT.out]; exact hO3.out)⟩
        · obtain rfl : K = R.length := by omega
          have HE : Hid ((R.take R.length).flatten = R.flatten) := hid (by rw [List.take_length])
          clear hlt
          go_wp2_with fail
          go_ret
          exact ⟨_, rfl, by rw [← HE.out]; exact HOr.out, HBr.out⟩

end Go.Proofs.Ytacjejnbomdhbab
