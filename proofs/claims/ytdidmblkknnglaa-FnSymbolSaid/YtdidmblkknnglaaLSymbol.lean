/-
  Proves: for every two codes: a symbol does not know the order, knows the classes alone, multiplies in the second number, and is 1 for a number and its opposite.
  Conditions: none beyond the given statement's own.
-/
import Derived.Test.YtdidmblkknnglaaRows
import Derived.Test.YtdidmblkknnglaaSymLaw
import Derived.Test.YtdidmblkknnglaaDraws3
import Derived.Test.YtdidmblkknnglaaLists
import Derived.Test.YtdidmblkknnglaaRowWord
import Derived.Test.YtdidmblkknnglaaImp3B
import Derived.Test.YtdidmblkknnglaaImpC
import Derived.ProofKit
import Derived.OpenShut
import Derived.ShutString
import Derived.ChangeOld
namespace Go.Proofs.Ytdidmblkknnglaa.fnSymbol
open Go.ChangeShapes Go.WideShapes Go.ChangeAt Go.RowKit
open Go.ChangeMaps (open_string shut_string)
set_option linter.unusedVariables false
theorem symbol_facts {a b c q : Int} (hp : prOk q) (h1 : okAt a q = true) (h2 : okAt b q = true) (hc : c ∈ namesOf q) :
    okAt c q = true ∧ symOfV b a q = symV a b q ∧ symOfV (nameOf a q) (nameOf b q) q = symV a b q ∧ symOfV a (nameOf (b * c) q) q = symV a b q * symV a c q ∧ symOfV a c q = symV a c q ∧ symOfV a (0 - a) q = 1 ∧ (symV a c q = 1 ∨ symV a c q = -1) := by
  obtain ⟨_, _, a0, hq⟩ := okAt_split h1
  obtain ⟨_, _, b0, _⟩ := okAt_split h2
  have hcb := names_drawn hp hq c hc
  have c0 := names_ne hq c hc
  have hcO := okAt_yes hcb.1 hcb.2 c0 hq
  have bc0 := Int.mul_ne_zero b0 c0
  refine ⟨hcO, ?_, ?_, ?_, symOf_yes (okAB_of h1 hcO) hq, ?_, symV_val a0 c0 hq⟩
  · rw [symOf_yes (okAB_of h2 h1) hq]; exact (symV_comm a0 b0 hq).symm
  · rw [symOf_yes (okAB_of (okAt_name hp a0 hq) (okAt_name hp b0 hq)) hq]
    exact symV_congr (cls_name a0 hq) (cls_name b0 hq)
  · rw [symOf_yes (okAB_of h1 (okAt_name hp bc0 hq)) hq, symV_congr rfl (cls_name bc0 hq)]
    exact symV_mul a0 b0 c0 hq
  · rw [symOf_yes (okAB_of h1 (okAt_minus h1)) hq, Int.zero_sub]
    exact symV_minus a0 hq

set_option maxRecDepth 100000 in
set_option maxHeartbeats 2000000 in
theorem walk  (a0 : Option Addr) (len0 cap0 : Nat) (z0 : List Int) (a1 : Option Addr) (len1 cap1 : Nat) (z1 : List Int) (w : World) (w0 : IsRow .u8 w a0 len0 cap0 z0) (w1 : IsRow .u8 w a1 len1 cap1 z1) :
    Calls Try.prog 3 #[.slice a0 len0 cap0, .slice a1 len1 cap1] w fun e w' => e = .returned (.bool true) ∧ Below w.heap.size w w' := by
  have HC := hid (codeIn_of w0)
  clear w0 w1
  by_cases hl : (1048576 : Int) < (len0 : Int)
  · go_enter Try.func3, Try.ntmps3
    go_wp2
    go_ret
    exact ⟨rfl, Below.refl _ _⟩
  by_cases hl1 : (1048576 : Int) < (len1 : Int)
  · go_enter Try.func3, Try.ntmps3
    go_wp2
    go_ret
    exact ⟨rfl, Below.refl _ _⟩
  · go_enter Try.func3, Try.ntmps3
    go_wp2_with fail
    refine (drawSymbolOf_any _ len0 _ HC.out).mono ?_
    rintro e w1 ⟨a, b, q, rfl, ⟨ha, _, hp⟩, hb⟩
    have hsa := numOk_small ha
    have a1 := hsa.1
    have a2 := hsa.2
    rcases symbol_split a b q with hV | ⟨h1, h2, hV, hpm⟩
    · have P := hid hV
      clear hV hp ha hsa
      go_wp2_with fail
      refine (symbolOf_any a b q _).mono ?_
      rw [P.out]
      rintro e w' ⟨rfl, hb1⟩
      have hB1 := hb.trans (hb1.mono hb.size)
      go_wp2_with fail
      refine (symbolOfS_any a b q _).mono ?_
      rw [P.out]
      rintro e w' ⟨rfl, rfl⟩
      go_wp2
      go_ret
      exact ⟨rfl, hB1⟩
    · obtain ⟨_, _, a0', hq⟩ := okAt_split h1
      have HL : Hid (lnamesL q = namesOf q) := hid (by unfold lnamesL; rw [hq]; rfl)
      have HQ := hid hq
      have hl8 : 0 < (namesOf q).length ∧ (namesOf q).length ≤ 8 := by
        rw [names_len hq]; unfold clsList; split; (· decide); (· split <;> decide)
      obtain ⟨I, hI⟩ : ∃ I, I = len1 % (namesOf q).length := ⟨_, rfl⟩
      have hIl : I < (namesOf q).length := by rw [hI]; exact Nat.mod_lt _ hl8.1
      have hIe : (len1 : Int) % ((namesOf q).length : Int) = (I : Int) := by rw [hI]; push_cast; rfl
      obtain ⟨c, hc⟩ : ∃ c, c = (namesOf q).getD I 0 := ⟨_, rfl⟩
      have hcm : c ∈ namesOf q := by rw [hc, getD_at _ _ hIl]; exact List.getElem_mem _
      obtain ⟨g0, g1, g2, g3, g4, g5, g6⟩ := symbol_facts hp h1 h2 hcm
      have P := hid hV
      have F1 := hid (lnameV_yes h1)
      have F2 := hid (lnameV_yes h2)
      have F3 := hid (lmulV_yes h2 g0)
      obtain ⟨so, hso⟩ : ∃ so, so = symV a b q := ⟨_, rfl⟩
      obtain ⟨sc, hsc⟩ : ∃ sc, sc = symV a c q := ⟨_, rfl⟩
      obtain ⟨X, hX⟩ : ∃ X, X = nameOf a q := ⟨_, rfl⟩
      obtain ⟨Y, hY⟩ : ∃ Y, Y = nameOf b q := ⟨_, rfl⟩
      obtain ⟨Z, hZ⟩ : ∃ Z, Z = nameOf (b * c) q := ⟨_, rfl⟩
      rw [← hso] at g1 g2 g3 hpm P
      rw [← hsc] at g3 g4 g6
      rw [← hX] at g2 F1
      rw [← hY] at g2 F2
      rw [← hZ] at g3 F3
      have G1 := hid g1
      have G2 := hid g2
      have G3 := hid g3
      have G4 := hid g4
      have G5 : Hid (symOfV a (-a) q = 1) := hid (by rw [← Int.zero_sub]; exact g5)
      have hm := small_mul (show -1 ≤ so by omega) (show so ≤ 1 by omega) (show -1 ≤ sc by omega) (show sc ≤ 1 by omega)
      have m1 := hm.1
      have m2 := hm.2
      have HCE := hid hc
      obtain ⟨L, hLe⟩ : ∃ L, L = namesOf q := ⟨_, rfl⟩
      rw [← hLe] at HL hl8 hIl hIe HCE
      have l1 := hl8.1
      have l2 := hl8.2
      have hT : (so == 0) = false := by rw [beq_eq_false_iff_ne]; omega
      clear hV hp ha hsa h1 h2 a0' hq hI hcm g0 g1 g2 g3 g4 g5 hso hsc hX hY hZ hLe hm hc hl8
      go_wp2_with fail
      refine (symbolOf_any a b q _).mono ?_
      rw [P.out]
      rintro e w' ⟨rfl, hb1⟩
      have hB1 := hb.trans (hb1.mono hb.size)
      go_wp2_with fail
      refine (symbolOfS_any a b q _).mono ?_
      rw [P.out]
      rintro e w' ⟨rfl, rfl⟩
      go_wp2_with fail
      refine (localName_any a q _).mono ?_
      rw [F1.out]
      rintro e w' ⟨rfl, hb2⟩
      have hB2 := hB1.trans (hb2.mono hB1.size)
      go_wp2_with fail
      refine (localName_any b q _).mono ?_
      rw [F2.out]
      rintro e w' ⟨rfl, hb3⟩
      have hB3 := hB2.trans (hb3.mono hB2.size)
      go_wp2_with fail
      refine (localNames_any q _).mono ?_
      rw [HQ.out, HL.out]
      rintro e w5 ⟨v, rfl, ho, hb4⟩
      have hB4 := hB3.trans (hb4.mono hB3.size)
      obtain ⟨ad, cap, rfl, hform⟩ := ho.rd.form
      obtain ⟨bb, o, rfl, hml, hcell⟩ := hform l1
      have c1 := hcell I hIl
      rw [← HCE.out] at c1
      have hIi : (I : Int) < (L.length : Int) := by omega
      unfold maxLen at hml
      clear hform hcell ho
      go_wp2_with fail
      refine (localMul_any b c q _).mono ?_
      rw [F3.out]
      rintro e w' ⟨rfl, hb5⟩
      have hB5 := hB4.trans (hb5.mono hB4.size)
      go_wp2_with fail
      refine (symbolOf_any b a q _).mono ?_
      rw [G1.out]
      rintro e w' ⟨rfl, hb6⟩
      have hB6 := hB5.trans (hb6.mono hB5.size)
      go_wp2_with fail
      refine (symbolOf_any X Y q _).mono ?_
      rw [G2.out]
      rintro e w' ⟨rfl, hb7⟩
      have hB7 := hB6.trans (hb7.mono hB6.size)
      go_wp2_with fail
      refine (symbolOf_any a Z q _).mono ?_
      rw [G3.out]
      rintro e w' ⟨rfl, hb8⟩
      have hB8 := hB7.trans (hb8.mono hB7.size)
      go_wp2_with fail
      refine (symbolOf_any a c q _).mono ?_
      rw [G4.out]
      rintro e w' ⟨rfl, hb9⟩
      have hB9 := hB8.trans (hb9.mono hB8.size)
      go_wp2_with fail
      refine (symbolOf_any a _ q _).mono ?_
      rw [G5.out]
      rintro e w' ⟨rfl, hb10⟩
      have hB10 := hB9.trans (hb10.mono hB9.size)
      go_wp2
      go_ret
      exact ⟨rfl, hB10⟩
theorem own : ownKnob Try.prog.godebug = none := by kernel_rfl
theorem laidOut : laidOutB Try.prog = true := by kernel_rfl
set_option maxRecDepth 100000 in
theorem lifted (os : Os) (started : os.Started) (H : Type) (enc : TypeId × Value → H) :
    ReturnsInHanded {} Try.checked os 3 .any (Rows.fnSymbolSpec.pre6 enc Try.prog Try.f3 Rows.fnSymbolRow.domain false) (Rows.fnSymbolSpec.post enc Try.prog Try.f3 false true false false) := by
  refine returnsInHanded_of_change (C := Try.checked) own started (by kernel_rfl) Try.func3
    (ChangeSpec.witness6 (enc := enc) (C := Try.checked) false ⟨#[], #[.slice none 0 0, .slice none 0 0], []⟩ 8 (by kernel_rfl) (by kernel_rfl) (by kernel_rfl) (by kernel_rfl)) ?_
  intro W base args ds gs before hval0 hW hcnd _
  have hval : ∀ (j : Nat) t v, Try.f3.params[j]? = some t → args[j]? = some v → Value.okWide Try.prog W .any base t v := hval0
  have hW' := hW
  obtain ⟨p, q, hA0, hV, rfl, hfz, hnd⟩ := hW
  have hA : DataW.TrodAll enc Try.prog W 0 (fun _ => true) true Try.f3.params.toList args.toList ds p := hA0
  rw [Try.params3] at hA hval
  obtain ⟨v0, vs0, d0, ds0, p0, q0, hargs, rfl, rfl, h0, r0⟩ := trodAll_cons hA
  obtain ⟨v1, vs1, d1, ds1, p1, q1, rfl, rfl, rfl, h1, r1⟩ := trodAll_cons r0
  obtain ⟨rfl, rfl, rfl⟩ := trodAll_nil r1
  obtain rfl : args = #[v0, v1] := by cases args; simp_all
  obtain ⟨rfl, rfl⟩ := trodVars_none hV
  obtain ⟨a0, len0, cap0, rfl⟩ := okWide_slice Try.underlying22 (hval 0 22 v0 rfl rfl)
  have k0 := h0
  have lt0 : ∀ x ∈ p0, x.block < W.heap.size := by obtain ⟨m, hm⟩ := k0; exact DataW.trod_lt m _ _ _ hm
  obtain ⟨z0, w0⟩ : ∃ zs, IsRow .u8 W a0 len0 cap0 zs := by
    obtain ⟨fuel, hf⟩ := h0
    rcases open_ints Try.underlying22 Try.underlying5 (by kernel_rfl) hf with ⟨hcs, _⟩ | ⟨x, l, c, zs, hcs, _, hl, hm, hz, _, hcell, hwz⟩
    · simp [Value.cells] at hcs
      obtain ⟨rfl, rfl, rfl⟩ := hcs
      exact ⟨[], .inl ⟨rfl, rfl, rfl, rfl⟩⟩
    · simp [Value.cells] at hcs
      obtain ⟨rfl, rfl, rfl⟩ := hcs
      exact ⟨zs, .inr ⟨_, rfl, hl, hm, by simpa using hz, hcell, hwz⟩⟩
  obtain ⟨a1, len1, cap1, rfl⟩ := okWide_slice Try.underlying22 (hval 1 22 v1 rfl rfl)
  have k1 := h1
  have lt1 : ∀ x ∈ p1, x.block < W.heap.size := by obtain ⟨m, hm⟩ := k1; exact DataW.trod_lt m _ _ _ hm
  obtain ⟨z1, w1⟩ : ∃ zs, IsRow .u8 W a1 len1 cap1 zs := by
    obtain ⟨fuel, hf⟩ := h1
    rcases open_ints Try.underlying22 Try.underlying5 (by kernel_rfl) hf with ⟨hcs, _⟩ | ⟨x, l, c, zs, hcs, _, hl, hm, hz, _, hcell, hwz⟩
    · simp [Value.cells] at hcs
      obtain ⟨rfl, rfl, rfl⟩ := hcs
      exact ⟨[], .inl ⟨rfl, rfl, rfl, rfl⟩⟩
    · simp [Value.cells] at hcs
      obtain ⟨rfl, rfl, rfl⟩ := hcs
      exact ⟨zs, .inr ⟨_, rfl, hl, hm, by simpa using hz, hcell, hwz⟩⟩
  clear hA0 hval0
  refine (walk a0 len0 cap0 z0 a1 len1 cap1 z1 W w0 w1).mono fun e W' ⟨he, bel⟩ => ?_
  subst he
  exact ⟨_, rfl, _, _, _, [], _, [], hW', trodAll_mk1 (shut_bool Try.underlying4 _), (trodAll_cons_mk (Below.trod laidOut (by kernel_rfl) (of_decide_eq_true (by kernel_rfl)) k0 bel lt0) (trodAll_cons_mk (Below.trod laidOut (by kernel_rfl) (of_decide_eq_true (by kernel_rfl)) k1 bel lt1) trodAll_mk0)), rfl, bel.frame _, fun h => by cases h⟩
theorem over : Rows.fnSymbolRow.holds Try.pinned (OpenSpec.ofChange Rows.fnSymbolSpec) :=
  OpenClaim.holds_of_wide 3 Try.f3 rfl rfl rfl rfl rfl rfl rfl ⟨rfl, rfl, rfl, rfl, rfl⟩ rfl rfl rfl rfl rfl (by kernel_rfl) Try.func3 (by kernel_rfl)
    (of_decide_eq_true (by kernel_rfl)) (by unfold Func.isWrapper; first | (rw [if_pos (by decide +kernel)]; kernel_rfl) | (rw [if_neg (by decide +kernel)]; exact ⟨rfl, rfl⟩))
    (fun os started H enc _ => lifted os started H enc)
theorem proved : Rows.FnSymbolSaid := over
end Go.Proofs.Ytdidmblkknnglaa.fnSymbol
