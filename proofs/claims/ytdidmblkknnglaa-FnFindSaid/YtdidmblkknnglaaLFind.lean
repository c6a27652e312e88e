/-
  Proves: for every code: where a number is no local square the first name with the symbol -1 is found, and there is one.
  Conditions: none beyond the given statement's own.
-/
import Derived.Test.YtdidmblkknnglaaRows
import Derived.Test.YtdidmblkknnglaaSymLaw
import Derived.Test.YtdidmblkknnglaaDraws3
import Derived.Test.YtdidmblkknnglaaLists
import Derived.Test.YtdidmblkknnglaaRowWord
import Derived.Test.YtdidmblkknnglaaLawKit
import Derived.Test.YtdidmblkknnglaaImp3B
import Derived.Test.YtdidmblkknnglaaImp3F
import Derived.Test.YtdidmblkknnglaaImpC
import Derived.ProofKit
import Derived.OpenShut
import Derived.ShutString
import Derived.ChangeOld
namespace Go.Proofs.Ytdidmblkknnglaa.fnFind
open Go.ChangeShapes Go.WideShapes Go.ChangeAt Go.RowKit
open Go.ChangeMaps (open_string shut_string)
set_option linter.unusedVariables false
theorem find_facts {a q : Int} (hp : prOk q) (h : okAt a q = true) (hs : sqAt a q = false) :
    findI a q < (namesOf q).length ∧ symOfV a ((namesOf q).getD (findI a q) 0) q = -1 ∧ ∀ i, i < findI a q → symOfV a ((namesOf q).getD i 0) q = 1 := by
  obtain ⟨_, _, h0, hq⟩ := okAt_split h
  have hI := findI_lt h0 hq hs
  have hok : ∀ i, i < (namesOf q).length → symOfV a ((namesOf q).getD i 0) q = symV a ((namesOf q).getD i 0) q ∧ (namesOf q).getD i 0 ≠ 0 := fun i hi => by
    have hm : (namesOf q).getD i 0 ∈ namesOf q := by rw [getD_at _ _ hi]; exact List.getElem_mem _
    have hb := names_drawn hp hq _ hm
    exact ⟨symOf_yes (okAB_of h (okAt_yes hb.1 hb.2 (names_ne hq _ hm) hq)) hq, names_ne hq _ hm⟩
  refine ⟨hI, ?_, fun i hi => ?_⟩
  · rw [(hok _ hI).1]
    rcases symV_val h0 (hok _ hI).2 hq with e | e
    · exact absurd e (findI_at hI)
    · exact e
  · rw [(hok i (by omega)).1]
    exact findI_below hi (by omega)
theorem sfind_split (a q : Int) : (∃ x : Int, sfindV a q = .tuple #[.int .i64 x, .bool false]) ∨ (okAt a q = true ∧ sqAt a q = false ∧ sfindV a q = .tuple #[.int .i64 ((namesOf q).getD (findI a q) 0), .bool true]) := by
  unfold sfindV
  by_cases h : (okAt a q && !sqAt a q) = true
  · rw [if_pos h]
    rw [Bool.and_eq_true] at h
    exact .inr ⟨h.1, by simpa using h.2, rfl⟩
  · rw [if_neg h]; exact .inl ⟨0, rfl⟩

set_option maxRecDepth 100000 in
set_option maxHeartbeats 2000000 in
theorem walk  (a0 : Option Addr) (len0 cap0 : Nat) (z0 : List Int) (w : World) (w0 : IsRow .u8 w a0 len0 cap0 z0) :
    Calls Try.prog 14 #[.slice a0 len0 cap0] w fun e w' => e = .returned (.bool true) ∧ Below w.heap.size w w' := by
  have HC := hid (codeIn_of w0)
  clear w0
  by_cases hl : (1048576 : Int) < (len0 : Int)
  · go_enter Try.func14, Try.ntmps14
    go_wp2
    go_ret
    exact ⟨rfl, Below.refl _ _⟩
  · go_enter Try.func14, Try.ntmps14
    go_wp2_with fail
    refine (drawSymbolFind_any _ len0 _ HC.out).mono ?_
    rintro e w1 ⟨a, q, rfl, ⟨_, hp⟩, hb⟩
    rcases sfind_split a q with ⟨x, hV⟩ | ⟨hO, hs, hV⟩
    · have P := hid hV
      clear hV hp
      go_wp2_with fail
      refine (symbolFind_any a q _).mono ?_
      rw [P.out]
      rintro e w' ⟨rfl, hb1⟩
      have hB1 := hb.trans (hb1.mono hb.size)
      go_wp2_with fail
      refine (symbolFindS_any a q _).mono ?_
      rw [P.out]
      rintro e w' ⟨rfl, hb2⟩
      have hB2 := hB1.trans (hb2.mono hB1.size)
      go_wp2
      go_ret
      exact ⟨rfl, hB2⟩
    · obtain ⟨f1, f2, f3⟩ := find_facts hp hO hs
      obtain ⟨_, _, _, hq⟩ := okAt_split hO
      have HL : Hid (lnamesL q = namesOf q) := hid (by unfold lnamesL; rw [hq]; rfl)
      have HQ := hid hq
      have HLS : Hid (lsV a q = false) := hid (by unfold lsV; rw [hs, Bool.and_false])
      obtain ⟨I, hI⟩ : ∃ I, I = findI a q := ⟨_, rfl⟩
      obtain ⟨L, hLe⟩ : ∃ L, L = namesOf q := ⟨_, rfl⟩
      rw [← hI, ← hLe] at f2 f3 hV f1
      rw [← hLe] at HL
      obtain ⟨O, hOe⟩ : ∃ O, O = L.getD I 0 := ⟨_, rfl⟩
      rw [← hOe] at f2 hV
      have HMEM : Hid (decide (O ∈ L) = true) := hid (decide_eq_true (by rw [hOe, getD_at _ _ f1]; exact List.getElem_mem _))
      have P := hid hV
      have F2 := hid f2
      have F3 := hid f3
      have HOE := hid hOe
      clear hV hp hO hs hq hI hLe f2 f3 hOe
      go_wp2_with fail
      refine (symbolFind_any a q _).mono ?_
      rw [P.out]
      rintro e w' ⟨rfl, hb1⟩
      have hB1 := hb.trans (hb1.mono hb.size)
      go_wp2_with fail
      refine (symbolFindS_any a q _).mono ?_
      rw [P.out]
      rintro e w' ⟨rfl, hb2⟩
      have hB2 := hB1.trans (hb2.mono hB1.size)
      go_wp2_with fail
      refine (localNames_any q _).mono ?_
      rw [HQ.out, HL.out]
      rintro e w4 ⟨v, rfl, ho, hb3⟩
      have HB4 := hid (hB2.trans (hb3.mono hB2.size))
      obtain ⟨ad, cap, rfl, hform⟩ := ho.rd.form
      obtain ⟨bb, o, rfl, hml, hc⟩ := hform (by omega)
      have HO := hid ho
      have HX : Hid (∀ wx : World, Below w4.heap.size w4 wx → ∀ i, i < L.length → wx.cell? ⟨bb, o + i, none⟩ = some (.int .i64 (L.getD i 0))) := hid (fun wx hbx i hi => by
        rw [hbx.cell (p := ⟨bb, o + i, none⟩) (ho.lt bb rfl)]; exact hc i hi)
      have HR : Hid (∀ wx : World, Below w4.heap.size w4 wx → Rd wx (.slice (some ⟨bb, o, none⟩) L.length cap) L) := hid (fun wx hbx => (HO.out.keep HO.out.lt hbx).rd)
      have hs4 := HB4.out.size
      unfold maxLen at hml
      clear ho hc hform hb hb1 hb2 hb3 hB1 hB2
      go_wp2_with fail
      go_loopw [11] (fun si wr => ∃ K : Nat, si = .int .i64 K ∧ K ≤ I ∧ Below w4.heap.size w4 wr) (fun si _ => I - (intOf si).toNat)
      case atStart => exact ⟨0, rfl, by omega, Below.refl _ _⟩
      case round =>
        obtain ⟨K, rfl, hK, hBr⟩ := hrel
        have hKl : K < L.length := by omega
        have c1 := HX.out _ hBr K hKl
        have hi : (K : Int) < (L.length : Int) := by omega
        by_cases e : K = I
        · subst e
          rw [← HOE.out] at c1
          have HRD := hid (HR.out _ hBr)
          go_wp2_with (first | (go_at_call 52; refine (hasInt_any _ L _ _ ?_).mono ?_; (exact HRD.out); rw [HMEM.out]; rintro e w' ⟨rfl, rfl⟩) | (go_at_call 16; refine (symbolOf_any _ _ _ _).mono ?_; rw [F2.out]; rintro e w6 ⟨rfl, hb6⟩) | (go_at_call 26; refine (localSquare_any _ _ _).mono ?_; rw [HLS.out]; rintro e w7 ⟨rfl, hb7⟩))
          go_ret
          exact ⟨rfl, (HB4.out.trans (hBr.mono hs4)).trans ((hb6.mono (Nat.le_trans hs4 hBr.size)).trans (hb7.mono (Nat.le_trans (Nat.le_trans hs4 hBr.size) hb6.size)))⟩
        · obtain ⟨x, hx⟩ : ∃ x, x = L.getD K 0 := ⟨_, rfl⟩
          rw [← hx] at c1
          have f4 := F3.out K (by omega)
          rw [← hx] at f4
          have F4 := hid f4
          have T : (x != O) = true := by
            rw [bne_iff_ne]
            intro e2
            rw [e2, F2.out] at f4
            cases f4
          clear f4 hx
          go_wp2_with (go_at_call 16; refine (symbolOf_any _ _ _ _).mono ?_; rw [F4.out]; rintro e w6 ⟨rfl, hb6⟩)
          go_round
          case measure => simp only [intOf]; omega
          case rel => exact ⟨K + 1, by go_num, by omega, hBr.trans (hb6.mono hBr.size)⟩
theorem own : ownKnob Try.prog.godebug = none := by kernel_rfl
theorem laidOut : laidOutB Try.prog = true := by kernel_rfl
set_option maxRecDepth 100000 in
theorem lifted (os : Os) (started : os.Started) (H : Type) (enc : TypeId × Value → H) :
    ReturnsInHanded {} Try.checked os 14 .any (Rows.fnFindSpec.pre6 enc Try.prog Try.f14 Rows.fnFindRow.domain false) (Rows.fnFindSpec.post enc Try.prog Try.f14 false true false false) := by
  refine returnsInHanded_of_change (C := Try.checked) own started (by kernel_rfl) Try.func14
    (ChangeSpec.witness6 (enc := enc) (C := Try.checked) false ⟨#[], #[.slice none 0 0], []⟩ 8 (by kernel_rfl) (by kernel_rfl) (by kernel_rfl) (by kernel_rfl)) ?_
  intro W base args ds gs before hval0 hW hcnd _
  have hval : ∀ (j : Nat) t v, Try.f14.params[j]? = some t → args[j]? = some v → Value.okWide Try.prog W .any base t v := hval0
  have hW' := hW
  obtain ⟨p, q, hA0, hV, rfl, hfz, hnd⟩ := hW
  have hA : DataW.TrodAll enc Try.prog W 0 (fun _ => true) true Try.f14.params.toList args.toList ds p := hA0
  rw [Try.params14] at hA hval
  obtain ⟨v0, vs0, d0, ds0, p0, q0, hargs, rfl, rfl, h0, r0⟩ := trodAll_cons hA
  obtain ⟨rfl, rfl, rfl⟩ := trodAll_nil r0
  obtain rfl : args = #[v0] := by cases args; simp_all
  obtain ⟨rfl, rfl⟩ := trodVars_none hV
  obtain ⟨a0, len0, cap0, rfl⟩ := okWide_slice Try.underlying22 (hval 0 22 v0 rfl rfl)
  have k0 := h0
  have lt0 : ∀ x ∈ p0, x.block < W.heap.size := by obtain ⟨m, hm⟩ := k0; exact DataW.trod_lt m _ _ _ hm
  obtain ⟨z0, w0⟩ : ∃ zs, IsRow .u8 W a0 len0 cap0 zs := by
    obtain ⟨fuel, hf⟩ := h0
    rcases open_ints Try.underlying22 Try.underlying5 (by kernel_rfl) hf with ⟨hcs, _⟩ | ⟨x, l, c, zs, hcs, _, hl, hm, hz, _, hcell, hwz⟩
    · simp [Value.cells] at hcs
      obtain ⟨rfl, rfl, rfl⟩ := hcs
      exact ⟨[], .inl ⟨rfl, rfl, rfl, rfl⟩⟩
    · simp [Value.cells] at hcs
      obtain ⟨rfl, rfl, rfl⟩ := hcs
      exact ⟨zs, .inr ⟨_, rfl, hl, hm, by simpa using hz, hcell, hwz⟩⟩
  clear hA0 hval0
  refine (walk a0 len0 cap0 z0 W w0).mono fun e W' ⟨he, bel⟩ => ?_
  subst he
  exact ⟨_, rfl, _, _, _, [], _, [], hW', trodAll_mk1 (shut_bool Try.underlying4 _), (trodAll_cons_mk (Below.trod laidOut (by kernel_rfl) (of_decide_eq_true (by kernel_rfl)) k0 bel lt0) trodAll_mk0), rfl, bel.frame _, fun h => by cases h⟩
theorem over : Rows.fnFindRow.holds Try.pinned (OpenSpec.ofChange Rows.fnFindSpec) :=
  OpenClaim.holds_of_wide 14 Try.f14 rfl rfl rfl rfl rfl rfl rfl ⟨rfl, rfl, rfl, rfl, rfl⟩ rfl rfl rfl rfl rfl (by kernel_rfl) Try.func14 (by kernel_rfl)
    (of_decide_eq_true (by kernel_rfl)) (by unfold Func.isWrapper; first | (rw [if_pos (by decide +kernel)]; kernel_rfl) | (rw [if_neg (by decide +kernel)]; exact ⟨rfl, rfl⟩))
    (fun os started H enc _ => lifted os started H enc)
theorem proved : Rows.FnFindSaid := over
end Go.Proofs.Ytdidmblkknnglaa.fnFind
