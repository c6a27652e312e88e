/-
  Contracts of the program's chapter 4: two forms; the discriminant; vanishing and being alike at a place.
-/
import Derived.Test.YtdclmjmefkgbbabQImp4B
import Derived.Test.YtdclmjmefkgbbabQCore2
set_option linter.unusedVariables false
namespace Go.Proofs.Ytdclmjmefkgbbab
open Go.RowKit

theorem quadraticOf_no (v : Value) (xs : List Int) (w : World) (h : Rd w v xs) (hf : fvB xs = false) : Calls Try.prog 70 #[v] w fun e w' => e = .returned (.tuple #[.nilIface, .bool false]) ∧ w = w' := by
  refine (quadraticOf_any v xs w h).mono ?_
  rintro e w' (⟨_, rfl, rfl⟩ | ⟨h2, _⟩)
  · exact ⟨rfl, rfl⟩
  · rw [hf] at h2; cases h2
theorem quadraticOf_yes (v : Value) (xs : List Int) (w : World) (h : Rd w v xs) (hf : fvB xs = true) : Calls Try.prog 70 #[v] w fun e w' => e = .returned (.tuple #[quadV v w.heap.size, .bool true]) ∧ w' = w.alloc (.map #[] 0) := by
  refine (quadraticOf_any v xs w h).mono ?_
  rintro e w' (⟨h2, _⟩ | ⟨_, rfl, rfl⟩)
  · rw [hf] at h2; cases h2
  · exact ⟨rfl, rfl⟩



theorem diaCount_is (v : Value) (xs : List Int) (m : Nat) (w : World) (h : Rd w v xs) (k : Int) (hk : (xs.length : Int) = k) : Calls Try.prog 127 #[diaV v m] w fun e w' => e = .returned (.int .i64 k) ∧ Below w.heap.size w w' := by
  subst hk
  exact diaCount_any v xs m w h

set_option maxRecDepth 100000 in
set_option maxHeartbeats 4000000 in
theorem vanishesAt_any (v : Value) (xs : List Int) (q : Int) (m n : Nat) (w0 w : World) (h : Quad w0 w m n v xs) (hq : plI q = true) (hn : n < 9000000) :
    Calls Try.prog 72 #[quadV v m, .int .i64 q] w fun e w' => e = .returned (.bool (vanB xs q)) ∧ Quad w0 w' m (n + 1) v xs ∧ Beside m w w' := by
  have Q0 := hid h
  have HF := hid h.ok
  have HQ := hid hq
  have hqb := plI_bd hq
  have hq1 := hqb.1
  have hq2 := hqb.2
  have HP := hid (prod_full h.ok)
  have hlen := (fvB_iff.1 h.ok).2
  have hp1 := HP.out.2.1
  have hp2 := HP.out.2.2
  have P0 : Hid (prodI xs ≠ 0) := hid HP.out.1
  have PN : Hid (-(prodI xs) ≠ 0) := hid (by have := HP.out.1; omega)
  obtain ⟨p, hp⟩ : ∃ p, p = prodI xs := ⟨_, rfl⟩
  have HPE := hid hp.symm
  rw [← hp] at hp1 hp2 P0 PN
  have hle := less_le xs
  clear h hq hqb hp
  by_cases q0 : q = 0
  · subst q0
    have HV : Hid (vanB xs 0 = (decide (0 < lessN xs) && decide (lessN xs < xs.length))) := hid rfl
    obtain ⟨N, hN⟩ : ∃ N, N = lessN xs := ⟨_, rfl⟩
    have HN := hid hN.symm
    rw [← hN] at HV hle
    clear hN
    by_cases n0 : N = 0
    · have HR : Hid (vanB xs 0 = false) := hid (by rw [HV.out, n0]; rfl)
      subst n0
      unfold quadV
      go_enter Try.func72, Try.ntmps72
      go_wp2_with fail
      refine (diaLess_any v xs m _ Q0.out.read HF.out).mono ?_
      rw [HN.out]
      rintro e w' ⟨rfl, hb1⟩
      have Q1 := hid (Q0.out.step hb1)
      have S1 := hid (Below.beside (m := m) hb1)
      clear hb1
      go_wp2_with fail
      go_ret
      exact ⟨retB HR.out.symm, Q1.out.more (by omega), S1.out⟩
    · have N1 : ((N : Nat) : Int) > 0 := by omega
      by_cases nl : N < xs.length
      · have HR : Hid (vanB xs 0 = true) := hid (by rw [HV.out, decide_eq_true nl, decide_eq_true (show 0 < N by omega)]; rfl)
        have N2 : ((N : Nat) : Int) < ((xs.length : Nat) : Int) := by omega
        clear n0 nl
        unfold quadV
        go_enter Try.func72, Try.ntmps72
        go_wp2_with fail
        refine (diaLess_any v xs m _ Q0.out.read HF.out).mono ?_
        rw [HN.out]
        rintro e w' ⟨rfl, hb1⟩
        have Q1 := hid (Q0.out.step hb1)
        have S1 := hid (Below.beside (m := m) hb1)
        clear hb1
        go_wp2_with fail
        refine (diaLess_any v xs m _ Q1.out.read HF.out).mono ?_
        rw [HN.out]
        rintro e w' ⟨rfl, hb1⟩
        have Q2 := hid (Q1.out.step hb1)
        have S2 := hid (S1.out.trans (Below.beside (m := m) hb1))
        clear hb1
        go_wp2_with fail
        refine (diaCount_any v xs m _ Q2.out.read).mono ?_
        rintro e w' ⟨rfl, hb1⟩
        have Q3 := hid (Q2.out.step hb1)
        have S3 := hid (S2.out.trans (Below.beside (m := m) hb1))
        clear hb1
        go_wp2_with fail
        go_ret
        exact ⟨retB HR.out.symm, Q3.out.more (by omega), S3.out⟩
      · have HR : Hid (vanB xs 0 = false) := hid (by rw [HV.out, decide_eq_false nl, Bool.and_false])
        have HR' : Hid (vanB xs 0 = decide (N < xs.length)) := hid (by rw [HR.out, decide_eq_false nl])
        have N2 : ¬ ((N : Nat) : Int) < ((xs.length : Nat) : Int) := by omega
        clear n0 nl
        unfold quadV
        go_enter Try.func72, Try.ntmps72
        go_wp2_with fail
        refine (diaLess_any v xs m _ Q0.out.read HF.out).mono ?_
        rw [HN.out]
        rintro e w' ⟨rfl, hb1⟩
        have Q1 := hid (Q0.out.step hb1)
        have S1 := hid (Below.beside (m := m) hb1)
        clear hb1
        go_wp2_with fail
        refine (diaLess_any v xs m _ Q1.out.read HF.out).mono ?_
        rw [HN.out]
        rintro e w' ⟨rfl, hb1⟩
        have Q2 := hid (Q1.out.step hb1)
        have S2 := hid (S1.out.trans (Below.beside (m := m) hb1))
        clear hb1
        go_wp2_with fail
        refine (diaCount_any v xs m _ Q2.out.read).mono ?_
        rintro e w' ⟨rfl, hb1⟩
        have Q3 := hid (Q2.out.step hb1)
        have S3 := hid (S2.out.trans (Below.beside (m := m) hb1))
        clear hb1
        go_wp2_with fail
        go_ret
        first | exact ⟨retB HR.out.symm, Q3.out.more (by omega), S3.out⟩ | exact ⟨retB HR'.out.symm, Q3.out.more (by omega), S3.out⟩
  · have T0 : (q == 0) = false := by rw [beq_eq_false_iff_ne]; exact q0
    have hcase : xs.length = 1 ∨ xs.length = 2 ∨ xs.length = 3 ∨ xs.length = 4 := by omega
    rcases hcase with hl | hl | hl | hl
    · have HR := hid (van_one (q := q) q0 hl)
      have HL : Hid ((xs.length : Int) = 1) := hid (by omega)
      clear q0 hl hlen hle
      unfold quadV
      go_enter Try.func72, Try.ntmps72
      go_wp2_with fail
      refine (diaCount_is v xs m _ Q0.out.read 1 HL.out).mono ?_
      rintro e w' ⟨rfl, hb1⟩
      have Q1 := hid (Q0.out.step hb1)
      have S1 := hid (Below.beside (m := m) hb1)
      clear hb1
      go_wp2_with fail
      go_ret
      exact ⟨retB HR.out.symm, Q1.out.more (by omega), S1.out⟩
    · have HR := hid (van_two (q := q) q0 hl)
      have HL : Hid ((xs.length : Int) = 2) := hid (by omega)
      rw [HPE.out] at HR
      clear q0 hl hlen hle
      unfold quadV
      go_enter Try.func72, Try.ntmps72
      go_wp2_with fail
      refine (diaCount_is v xs m _ Q0.out.read 2 HL.out).mono ?_
      rintro e w' ⟨rfl, hb1⟩
      have Q1 := hid (Q0.out.step hb1)
      have S1 := hid (Below.beside (m := m) hb1)
      clear hb1
      go_wp2_with fail
      refine (diaProduct_any v xs m _ Q1.out.read HF.out).mono ?_
      rw [HPE.out]
      rintro e w' ⟨rfl, hb1⟩
      have Q2 := hid (Q1.out.step hb1)
      have S2 := hid (S1.out.trans (Below.beside (m := m) hb1))
      clear hb1
      go_wp2_with fail
      refine (plSquare_any (-p) q PN.out (by omega) (by omega) HQ.out _).mono ?_
      rintro e w' ⟨rfl, hb1⟩
      have Q3 := hid (Q2.out.step hb1)
      have S3 := hid (S2.out.trans (Below.beside (m := m) hb1))
      clear hb1
      go_wp2_with fail
      go_ret
      exact ⟨retB HR.out.symm, Q3.out.more (by omega), S3.out⟩
    · have HR := hid (van_three (q := q) q0 hl)
      have HL : Hid ((xs.length : Int) = 3) := hid (by omega)
      rw [HPE.out] at HR
      clear q0 hl hlen hle
      unfold quadV
      go_enter Try.func72, Try.ntmps72
      go_wp2_with fail
      refine (diaCount_is v xs m _ Q0.out.read 3 HL.out).mono ?_
      rintro e w' ⟨rfl, hb1⟩
      have Q1 := hid (Q0.out.step hb1)
      have S1 := hid (Below.beside (m := m) hb1)
      clear hb1
      go_wp2_with fail
      refine (diaInv_any v xs q m n w0 _ Q1.out HQ.out hn).mono ?_
      rintro e w' ⟨rfl, hq2, hs2⟩
      have Q2 := hid hq2
      have S2 := hid (S1.out.trans hs2)
      clear hq2 hs2
      go_wp2_with fail
      refine (symbolAt_any q HQ.out _).mono ?_
      rintro e w' ⟨fv, rfl, hfs, hb3⟩
      have Q3 := hid (Q2.out.step hb3)
      have S3 := hid (S2.out.trans (Below.beside (m := m) hb3))
      have HFS := hid hfs
      clear hb3 hfs
      go_wp2_with fail
      refine (diaProduct_any v xs m _ Q3.out.read HF.out).mono ?_
      rw [HPE.out]
      rintro e w' ⟨rfl, hb1⟩
      have Q4 := hid (Q3.out.step hb1)
      have S4 := hid (S3.out.trans (Below.beside (m := m) hb1))
      have hsy := isSym_calls (HFS.out.keep hb1)
      clear hb1 HFS
      obtain ⟨y, hy⟩ : ∃ y, y = symV (-1) (-p) q := ⟨_, rfl⟩
      obtain ⟨hF, hhF⟩ : ∃ z, z = hasF xs q := ⟨_, rfl⟩
      rw [← hy, ← hhF] at HR
      have HY := hid hy.symm
      rw [← hhF]
      clear hy hhF
      rcases hsy with ⟨rfl, hcall⟩ | ⟨rfl, hcall⟩ | ⟨C, rfl, hcall⟩
      all_goals
        have HC := hid hcall
        clear hcall
        go_wp2_with fail
        refine (HC.out (-1) (-p) (by decide) PN.out (by omega) (by omega) (by omega) (by omega)).mono ?_
        rw [HY.out]
        rintro e w' ⟨rfl, rfl⟩
        go_wp2_with fail
        go_ret
        exact ⟨retB HR.out.symm, Q4.out, S4.out⟩
    · have HR := hid (van_four (q := q) q0 hl)
      have HL : Hid ((xs.length : Int) = 4) := hid (by omega)
      rw [HPE.out] at HR
      clear q0 hl hlen hle
      cases hsq : sqAt p q with
      | false =>
        have HS := hid hsq
        have HR2 : Hid (vanB xs q = true) := hid (by rw [HR.out, hsq]; rfl)
        clear hsq
        unfold quadV
        go_enter Try.func72, Try.ntmps72
        go_wp2_with fail
        refine (diaCount_is v xs m _ Q0.out.read 4 HL.out).mono ?_
        rintro e w' ⟨rfl, hb1⟩
        have Q1 := hid (Q0.out.step hb1)
        have S1 := hid (Below.beside (m := m) hb1)
        clear hb1
        go_wp2_with fail
        refine (diaProduct_any v xs m _ Q1.out.read HF.out).mono ?_
        rw [HPE.out]
        rintro e w' ⟨rfl, hb1⟩
        have Q2 := hid (Q1.out.step hb1)
        have S2 := hid (S1.out.trans (Below.beside (m := m) hb1))
        clear hb1
        go_wp2_with fail
        refine (plSquare_any p q P0.out (by omega) (by omega) HQ.out _).mono ?_
        rw [HS.out]
        rintro e w' ⟨rfl, hb1⟩
        have Q3 := hid (Q2.out.step hb1)
        have S3 := hid (S2.out.trans (Below.beside (m := m) hb1))
        clear hb1
        go_wp2_with fail
        go_ret
        exact ⟨retB HR2.out.symm, Q3.out.more (by omega), S3.out⟩
      | true =>
        have HS := hid hsq
        have HR2 : Hid (vanB xs q = (hasF xs q == symV (-1) (-1) q)) := hid (by rw [HR.out, hsq]; rfl)
        clear hsq HR
        unfold quadV
        go_enter Try.func72, Try.ntmps72
        go_wp2_with fail
        refine (diaCount_is v xs m _ Q0.out.read 4 HL.out).mono ?_
        rintro e w' ⟨rfl, hb1⟩
        have Q1 := hid (Q0.out.step hb1)
        have S1 := hid (Below.beside (m := m) hb1)
        clear hb1
        go_wp2_with fail
        refine (diaProduct_any v xs m _ Q1.out.read HF.out).mono ?_
        rw [HPE.out]
        rintro e w' ⟨rfl, hb1⟩
        have Q2 := hid (Q1.out.step hb1)
        have S2 := hid (S1.out.trans (Below.beside (m := m) hb1))
        clear hb1
        go_wp2_with fail
        refine (plSquare_any p q P0.out (by omega) (by omega) HQ.out _).mono ?_
        rw [HS.out]
        rintro e w' ⟨rfl, hb1⟩
        have Q3 := hid (Q2.out.step hb1)
        have S3 := hid (S2.out.trans (Below.beside (m := m) hb1))
        clear hb1
        go_wp2_with fail
        refine (diaInv_any v xs q m n w0 _ Q3.out HQ.out hn).mono ?_
        rintro e w' ⟨rfl, hq2, hs2⟩
        have Q4 := hid hq2
        have S4 := hid (S3.out.trans hs2)
        clear hq2 hs2
        go_wp2_with fail
        refine (symbolAt_any q HQ.out _).mono ?_
        rintro e w' ⟨fv, rfl, hfs, hb3⟩
        have Q5 := hid (Q4.out.step hb3)
        have S5 := hid (S4.out.trans (Below.beside (m := m) hb3))
        have hsy := isSym_calls hfs
        clear hb3 hfs
        obtain ⟨y, hy⟩ : ∃ y, y = symV (-1) (-1) q := ⟨_, rfl⟩
        obtain ⟨hF, hhF⟩ : ∃ z, z = hasF xs q := ⟨_, rfl⟩
        rw [← hy, ← hhF] at HR2
        have HY := hid hy.symm
        rw [← hhF]
        clear hy hhF
        rcases hsy with ⟨rfl, hcall⟩ | ⟨rfl, hcall⟩ | ⟨C, rfl, hcall⟩
        all_goals
          have HC := hid hcall
          clear hcall
          go_wp2_with fail
          refine (HC.out (-1) (-1) (by decide) (by decide) (by omega) (by omega) (by omega) (by omega)).mono ?_
          rw [HY.out]
          rintro e w' ⟨rfl, rfl⟩
          go_wp2_with fail
          go_ret
          exact ⟨retB HR2.out.symm, Q5.out, S5.out⟩

end Go.Proofs.Ytdclmjmefkgbbab
