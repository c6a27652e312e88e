/-
  Proves: for every code: all classes of a place are norms of a local square, half of them otherwise.
  Conditions: none beyond the given statement's own.
-/
import Derived.Test.YtdidmblkknnglaaRows
import Derived.Test.YtdidmblkknnglaaSym5
import Derived.Test.YtdidmblkknnglaaLawCls
import Derived.Test.YtdidmblkknnglaaDraws3
import Derived.Test.YtdidmblkknnglaaLists
import Derived.Test.YtdidmblkknnglaaRowWord
import Derived.Test.YtdidmblkknnglaaImp3E
import Derived.Test.YtdidmblkknnglaaImpC
import Derived.ProofKit
import Derived.OpenShut
import Derived.ShutString
import Derived.ChangeOld
namespace Go.Proofs.Ytdidmblkknnglaa.fnNorm
open Go.ChangeShapes Go.WideShapes Go.ChangeAt Go.RowKit
open Go.ChangeMaps (open_string shut_string)
set_option linter.unusedVariables false
def normK (k : Nat) (c : Nat × Int) : Nat := ((listK k).filter (fun d => decide (symK k c d = 1))).length
theorem norm_cls (a q : Int) (hq : plI q = true) : normC a q = normK (kOf q) (cls a q) := by
  unfold normC normK
  rw [← clsList_k, ← names_cls hq, List.filter_map, List.length_map]
  congr 1
  refine List.filter_congr fun m hm => ?_
  simp only [Function.comp]
  unfold symV
  rw [sym_k]
theorem normK_half {q : Int} {c : Nat × Int} (hc : c ∈ clsList q) : if c = (0, 1) then normK (kOf q) c = (listK (kOf q)).length else 2 * normK (kOf q) c = (listK (kOf q)).length := by
  have := K_all (Q := fun k c _ _ => if c = (0, 1) then normK k c == (listK k).length else 2 * normK k c == (listK k).length) (by decide +kernel) hc hc hc
  split at this
  · next h => rw [if_pos h]; exact beq_iff_eq.1 this
  · next h => rw [if_neg h]; exact beq_iff_eq.1 this
theorem norm_facts {a q : Int} (h : okAt a q = true) : (sqAt a q = true ∧ normC a q = (namesOf q).length) ∨ (sqAt a q = false ∧ 2 * normC a q = (namesOf q).length) := by
  obtain ⟨_, _, h0, hq⟩ := okAt_split h
  have hh := normK_half (cls_mem h0 hq)
  rw [← norm_cls a q hq, ← clsList_k, ← names_len hq] at hh
  unfold sqAt
  by_cases e : cls a q = (0, 1)
  · rw [if_pos e] at hh
    left; exact ⟨by rw [beq_iff_eq]; exact e, hh⟩
  · rw [if_neg e] at hh
    right; exact ⟨by rw [beq_eq_false_iff_ne]; exact e, hh⟩

set_option maxRecDepth 100000 in
set_option maxHeartbeats 2000000 in
theorem walk  (a0 : Option Addr) (len0 cap0 : Nat) (z0 : List Int) (w : World) (w0 : IsRow .u8 w a0 len0 cap0 z0) :
    Calls Try.prog 13 #[.slice a0 len0 cap0] w fun e w' => e = .returned (.bool true) ∧ Below w.heap.size w w' := by
  have HC := hid (codeIn_of w0)
  clear w0
  by_cases hl : (1048576 : Int) < (len0 : Int)
  · go_enter Try.func13, Try.ntmps13
    go_wp2
    go_ret
    exact ⟨rfl, Below.refl _ _⟩
  · go_enter Try.func13, Try.ntmps13
    go_wp2_with fail
    refine (drawSymbolNorm_any _ len0 _ HC.out).mono ?_
    rintro e w1 ⟨a, q, rfl, _, hb⟩
    cases hO : okAt a q with
    | false =>
      have P : Hid (normV a q = -1) := hid (by unfold normV; rw [hO]; rfl)
      clear hO
      go_wp2_with fail
      refine (symbolNorm_any a q _).mono ?_
      rw [P.out]
      rintro e w' ⟨rfl, hb1⟩
      have hB1 := hb.trans (hb1.mono hb.size)
      go_wp2_with fail
      refine (symbolNormS_any a q _).mono ?_
      rw [P.out]
      rintro e w' ⟨rfl, hb2⟩
      have hB2 := hB1.trans (hb2.mono hB1.size)
      go_wp2
      go_ret
      exact ⟨rfl, hB2⟩
    | true =>
      have P : Hid (normV a q = ((normC a q : Nat) : Int)) := hid (by unfold normV; rw [hO]; rfl)
      have hf := norm_facts hO
      have HQ : Hid (plI q = true) := hid (okAt_split hO).2.2.2
      have HL : Hid (lnamesL q = namesOf q) := hid (by unfold lnamesL; rw [HQ.out]; rfl)
      have HLS : Hid (lsV a q = sqAt a q) := hid (by unfold lsV; rw [hO, Bool.true_and])
      have hl8 : (namesOf q).length ≤ 8 := by
        rw [names_len HQ.out]; unfold clsList; split; (· decide); (· split <;> decide)
      obtain ⟨c, hc⟩ : ∃ c, c = normC a q := ⟨_, rfl⟩
      obtain ⟨L, hLe⟩ : ∃ L, L = namesOf q := ⟨_, rfl⟩
      rw [← hc] at P hf
      rw [← hLe] at hf HL hl8
      clear hO hc hLe
      rcases hf with ⟨hs, hf⟩ | ⟨hs, hf⟩
      · rw [hs] at HLS
        have hci : (c : Int) = (L.length : Int) := by omega
        have T : ((c : Int) == (L.length : Int)) = true := by rw [beq_iff_eq]; exact hci
        clear hs hf hci
        go_wp2_with fail
        refine (symbolNorm_any a q _).mono ?_
        rw [P.out]
        rintro e w' ⟨rfl, hb1⟩
        have hB1 := hb.trans (hb1.mono hb.size)
        go_wp2_with fail
        refine (symbolNormS_any a q _).mono ?_
        rw [P.out]
        rintro e w' ⟨rfl, hb2⟩
        have hB2 := hB1.trans (hb2.mono hB1.size)
        go_wp2_with fail
        refine (localNames_any q _).mono ?_
        rw [HQ.out, HL.out]
        rintro e w3 ⟨v, rfl, ho, hb3⟩
        have hB3 := hB2.trans (hb3.mono hB2.size)
        obtain ⟨ad, cap, rfl, _⟩ := ho.rd.form
        go_wp2_with fail
        refine (localSquare_any a q _).mono ?_
        rw [HLS.out]
        rintro e w' ⟨rfl, hb4⟩
        have hB4 := hB3.trans (hb4.mono hB3.size)
        go_wp2
        go_ret
        exact ⟨rfl, hB4⟩
      · rw [hs] at HLS
        have hci : 2 * (c : Int) = (L.length : Int) := by omega
        have T : (2 * (c : Int) == (L.length : Int)) = true := by rw [beq_iff_eq]; exact hci
        clear hs hci
        go_wp2_with fail
        refine (symbolNorm_any a q _).mono ?_
        rw [P.out]
        rintro e w' ⟨rfl, hb1⟩
        have hB1 := hb.trans (hb1.mono hb.size)
        go_wp2_with fail
        refine (symbolNormS_any a q _).mono ?_
        rw [P.out]
        rintro e w' ⟨rfl, hb2⟩
        have hB2 := hB1.trans (hb2.mono hB1.size)
        go_wp2_with fail
        refine (localNames_any q _).mono ?_
        rw [HQ.out, HL.out]
        rintro e w3 ⟨v, rfl, ho, hb3⟩
        have hB3 := hB2.trans (hb3.mono hB2.size)
        obtain ⟨ad, cap, rfl, _⟩ := ho.rd.form
        go_wp2_with fail
        refine (localSquare_any a q _).mono ?_
        rw [HLS.out]
        rintro e w' ⟨rfl, hb4⟩
        have hB4 := hB3.trans (hb4.mono hB3.size)
        go_wp2
        go_ret
        exact ⟨rfl, hB4⟩
theorem own : ownKnob Try.prog.godebug = none := by kernel_rfl
theorem laidOut : laidOutB Try.prog = true := by kernel_rfl
set_option maxRecDepth 100000 in
theorem lifted (os : Os) (started : os.Started) (H : Type) (enc : TypeId × Value → H) :
    ReturnsInHanded {} Try.checked os 13 .any (Rows.fnNormSpec.pre6 enc Try.prog Try.f13 Rows.fnNormRow.domain false) (Rows.fnNormSpec.post enc Try.prog Try.f13 false true false false) := by
  refine returnsInHanded_of_change (C := Try.checked) own started (by kernel_rfl) Try.func13
    (ChangeSpec.witness6 (enc := enc) (C := Try.checked) false ⟨#[], #[.slice none 0 0], []⟩ 8 (by kernel_rfl) (by kernel_rfl) (by kernel_rfl) (by kernel_rfl)) ?_
  intro W base args ds gs before hval0 hW hcnd _
  have hval : ∀ (j : Nat) t v, Try.f13.params[j]? = some t → args[j]? = some v → Value.okWide Try.prog W .any base t v := hval0
  have hW' := hW
  obtain ⟨p, q, hA0, hV, rfl, hfz, hnd⟩ := hW
  have hA : DataW.TrodAll enc Try.prog W 0 (fun _ => true) true Try.f13.params.toList args.toList ds p := hA0
  rw [Try.params13] at hA hval
  obtain ⟨v0, vs0, d0, ds0, p0, q0, hargs, rfl, rfl, h0, r0⟩ := trodAll_cons hA
  obtain ⟨rfl, rfl, rfl⟩ := trodAll_nil r0
  obtain rfl : args = #[v0] := by cases args; simp_all
  obtain ⟨rfl, rfl⟩ := trodVars_none hV
  obtain ⟨a0, len0, cap0, rfl⟩ := okWide_slice Try.underlying22 (hval 0 22 v0 rfl rfl)
  have k0 := h0
  have lt0 : ∀ x ∈ p0, x.block < W.heap.size := by obtain ⟨m, hm⟩ := k0; exact DataW.trod_lt m _ _ _ hm
  obtain ⟨z0, w0⟩ : ∃ zs, IsRow .u8 W a0 len0 cap0 zs := by
    obtain ⟨fuel, hf⟩ := h0
    rcases open_ints Try.underlying22 Try.underlying5 (by kernel_rfl) hf with ⟨hcs, _⟩ | ⟨x, l, c, zs, hcs, _, hl, hm, hz, _, hcell, hwz⟩
    · simp [Value.cells] at hcs
      obtain ⟨rfl, rfl, rfl⟩ := hcs
      exact ⟨[], .inl ⟨rfl, rfl, rfl, rfl⟩⟩
    · simp [Value.cells] at hcs
      obtain ⟨rfl, rfl, rfl⟩ := hcs
      exact ⟨zs, .inr ⟨_, rfl, hl, hm, by simpa using hz, hcell, hwz⟩⟩
  clear hA0 hval0
  refine (walk a0 len0 cap0 z0 W w0).mono fun e W' ⟨he, bel⟩ => ?_
  subst he
  exact ⟨_, rfl, _, _, _, [], _, [], hW', trodAll_mk1 (shut_bool Try.underlying4 _), (trodAll_cons_mk (Below.trod laidOut (by kernel_rfl) (of_decide_eq_true (by kernel_rfl)) k0 bel lt0) trodAll_mk0), rfl, bel.frame _, fun h => by cases h⟩
theorem over : Rows.fnNormRow.holds Try.pinned (OpenSpec.ofChange Rows.fnNormSpec) :=
  OpenClaim.holds_of_wide 13 Try.f13 rfl rfl rfl rfl rfl rfl rfl ⟨rfl, rfl, rfl, rfl, rfl⟩ rfl rfl rfl rfl rfl (by kernel_rfl) Try.func13 (by kernel_rfl)
    (of_decide_eq_true (by kernel_rfl)) (by unfold Func.isWrapper; first | (rw [if_pos (by decide +kernel)]; kernel_rfl) | (rw [if_neg (by decide +kernel)]; exact ⟨rfl, rfl⟩))
    (fun os started H enc _ => lifted os started H enc)
theorem proved : Rows.FnNormSaid := over
end Go.Proofs.Ytdidmblkknnglaa.fnNorm
