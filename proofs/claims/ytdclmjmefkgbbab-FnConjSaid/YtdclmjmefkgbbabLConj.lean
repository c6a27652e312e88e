/-
  Proves: for every code: a quaternion's conjugate and back again.
  Conditions: none beyond the given statement's own.
-/
import Derived.Test.YtdclmjmefkgbbabRows
import Derived.Test.YtdclmjmefkgbbabQuB
import Derived.Test.YtdclmjmefkgbbabQuC
import Derived.Test.YtdclmjmefkgbbabDraws25
import Derived.Test.YtdclmjmefkgbbabQBun22
import Derived.Test.YtdclmjmefkgbbabQRowWord
import Derived.ProofKit
import Derived.OpenShut
import Derived.ShutString
import Derived.ChangeOld
namespace Go.Proofs.Ytdclmjmefkgbbab.fnConj
open Go.ChangeShapes Go.WideShapes Go.ChangeAt Go.RowKit
open Go.ChangeMaps (open_string shut_string)
set_option linter.unusedVariables false
theorem dec_selfq (l : List Int) : decide (l = l) = true := by simp
theorem conj_back {a b c d : Int} (ha : InQ a) (hb : InQ b) (hc : InQ c) (hd : InQ d) {u : Value} {w : World} (h : Rd w u [a, -b, -c, -d]) : Calls Try.prog 48 #[u] w fun e w' => ∃ v, e = .returned (.tuple #[v, .bool true]) ∧ Owns w' w.heap.size v [a, b, c, d] ∧ Below w.heap.size w w' := by
  have hq : quatB [a, -b, -c, -d] = true := quat_of ha hb.neg hc.neg hd.neg
  refine (quatConj_any u _ w h).mono ?_
  unfold QPost
  rw [hq, qconj_yes hq, Int.neg_neg, Int.neg_neg, Int.neg_neg]
  exact fun _ _ q => q
set_option maxRecDepth 100000 in
set_option maxHeartbeats 4000000 in
theorem walk (a0 : Option Addr) (len0 cap0 : Nat) (z0 : List Int) (w : World) (w0 : IsRow .u8 w a0 len0 cap0 z0) :
    Calls Try.prog 13 #[.slice a0 len0 cap0] w fun e w' => e = .returned (.bool true) ∧ Below w.heap.size w w' := by
  have HC := hid (codeIn_of w0)
  clear w0
  by_cases hl : (1048576 : Int) < (len0 : Int)
  · go_enter Try.func13, Try.ntmps13
    go_wp2
    go_ret
    exact ⟨rfl, Below.refl _ _⟩
  · go_enter Try.func13, Try.ntmps13
    go_wp2_with fail
    refine (drawQuatConj_any _ len0 _ HC.out).mono ?_
    rintro e w1 ⟨q0, ys, rfl, HT, HQ1, HF, hb⟩
    have HB1 := hid hb
    have HI := hid (fun (w : World) (h : Rd w q0 ys) => quatConj_any q0 ys w h)
    have HS := hid (fun (w : World) (h : Rd w q0 ys) => quatConjS_any q0 ys w h)
    clear hb HC HT HF
    cases hq : quatB ys with
    | false =>
      rw [hq, qconj_no hq] at HI HS
      clear hq
      go_wp2_with fail
      refine (HI.out _ HQ1.out).mono ?_
      rintro e w2 ⟨u, rfl, ho2, hb2⟩
      have HOu := hid ho2
      have HQ2 := hid (HQ1.out.keep hb2)
      have HB2 := hid (HB1.out.trans (hb2.mono HB1.out.size))
      clear ho2 hb2
      go_wp2_with fail
      refine (HS.out _ HQ2.out).mono ?_
      rintro e w3 ⟨zz, rfl, ho3, hb3⟩
      have HZ3 := hid ho3.rd
      have HU3 := hid (HOu.out.keep HOu.out.lt hb3).rd
      have HB3 := hid (HB2.out.trans (hb3.mono HB2.out.size))
      clear ho3 hb3
      go_wp2_with fail
      refine (sameInts_any _ _ [] [] _ HU3.out HZ3.out).mono ?_
      rw [dec_selfq]
      rintro e w4 ⟨rfl, hk4⟩
      have HB4 : Hid (Below w.heap.size w w4) := hid (by obtain ⟨k, rfl⟩ := hk4; exact below_drewN HB3.out k)
      have HU4 : Hid (Rd w4 u []) := hid (by obtain ⟨k, rfl⟩ := hk4; exact HU3.out.drewN k)
      have HZ4 : Hid (Rd w4 zz []) := hid (by obtain ⟨k, rfl⟩ := hk4; exact HZ3.out.drewN k)
      clear hk4
      go_wp2_with fail
      refine (sameInts_any _ _ [] [] _ HU4.out HZ4.out).mono ?_
      rw [dec_selfq]
      rintro e w5 ⟨rfl, hk5⟩
      have HB5 : Hid (Below w.heap.size w w5) := hid (by obtain ⟨k, rfl⟩ := hk5; exact below_drewN HB4.out k)
      clear hk5
      go_wp2
      go_ret
      exact ⟨rfl, HB5.out⟩
    | true =>
      obtain ⟨a, b, c, d, rfl, ha, hb, hc, hd⟩ := quat_list hq
      rw [hq, qconj_yes hq] at HI HS
      clear hq
      have HX := hid (fun (u : Value) (w : World) (h : Rd w u [a, -b, -c, -d]) => conj_back ha hb hc hd h)
      obtain ⟨a0', a1'⟩ := ha
      obtain ⟨b0', b1'⟩ := hb
      obtain ⟨c0', c1'⟩ := hc
      obtain ⟨d0', d1'⟩ := hd
      go_wp2_with fail
      refine (HI.out _ HQ1.out).mono ?_
      rintro e w2 ⟨u, rfl, ho2, hb2⟩
      have HOu := hid ho2
      have HQ2 := hid (HQ1.out.keep hb2)
      have HB2 := hid (HB1.out.trans (hb2.mono HB1.out.size))
      clear ho2 hb2
      go_wp2_with fail
      refine (HS.out _ HQ2.out).mono ?_
      rintro e w3 ⟨zz, rfl, ho3, hb3⟩
      have HZ3 := hid ho3.rd
      have HQ3 := hid (HQ2.out.keep hb3)
      have HU3 := hid (HOu.out.keep HOu.out.lt hb3).rd
      have HB3 := hid (HB2.out.trans (hb3.mono HB2.out.size))
      clear ho3 hb3
      go_wp2_with fail
      refine (sameInts_any _ _ [a, -b, -c, -d] [a, -b, -c, -d] _ HU3.out HZ3.out).mono ?_
      rw [dec_selfq]
      rintro e w4 ⟨rfl, hk4⟩
      have HB4 : Hid (Below w.heap.size w w4) := hid (by obtain ⟨k, rfl⟩ := hk4; exact below_drewN HB3.out k)
      have HU4 : Hid (Rd w4 u [a, -b, -c, -d]) := hid (by obtain ⟨k, rfl⟩ := hk4; exact HU3.out.drewN k)
      have HQ4 : Hid (Rd w4 q0 [a, b, c, d]) := hid (by obtain ⟨k, rfl⟩ := hk4; exact HQ3.out.drewN k)
      clear hk4
      go_wp2_with fail
      refine (HX.out _ _ HU4.out).mono ?_
      rintro e w5 ⟨x, rfl, ho5, hb5⟩
      have HX5 := hid ho5.rd
      have HU5 := hid (HU4.out.keep hb5)
      have HQ5 := hid (HQ4.out.keep hb5)
      have HB5 := hid (HB4.out.trans (hb5.mono HB4.out.size))
      clear ho5 hb5
      have HSQ : Hid (∀ m : Nat, Calls Try.prog 35 #[x, q0] (w5.drewN m) fun e w'' => e = .returned (.bool true) ∧ ∃ k, w'' = w5.drewN k) := hid (fun m => (sameInts_any x q0 _ _ (w5.drewN m) (HX5.out.drewN m) (HQ5.out.drewN m)).mono fun e w'' q => by
        obtain ⟨rfl, k, rfl⟩ := q
        rw [dec_selfq]
        exact ⟨rfl, m + k, by simp⟩)
      obtain ⟨ad, cap, eu, hform⟩ := HU5.out.form
      obtain ⟨g, o, eg, _, hc⟩ := hform (by simp)
      obtain ⟨ad2, cap2, eq, hform2⟩ := HQ5.out.form
      obtain ⟨g2, o2, eg2, _, hc2⟩ := hform2 (by simp)
      subst eu eg eq eg2
      have k0 : w5.cell? ⟨g, o, none⟩ = some (.int .i64 a) := hc 0 (by simp)
      have k1 : w5.cell? ⟨g, o + 1, none⟩ = some (.int .i64 (-b)) := hc 1 (by simp)
      have k2 : w5.cell? ⟨g, o + 2, none⟩ = some (.int .i64 (-c)) := hc 2 (by simp)
      have k3 : w5.cell? ⟨g, o + 3, none⟩ = some (.int .i64 (-d)) := hc 3 (by simp)
      have j0 : w5.cell? ⟨g2, o2, none⟩ = some (.int .i64 a) := hc2 0 (by simp)
      have j1 : w5.cell? ⟨g2, o2 + 1, none⟩ = some (.int .i64 b) := hc2 1 (by simp)
      have j2 : w5.cell? ⟨g2, o2 + 2, none⟩ = some (.int .i64 c) := hc2 2 (by simp)
      have j3 : w5.cell? ⟨g2, o2 + 3, none⟩ = some (.int .i64 d) := hc2 3 (by simp)
      have W1 : IntKind.i64.wrap (-b + b) = 0 := by rw [Int.add_left_neg]; decide
      have W2 : IntKind.i64.wrap (-c + c) = 0 := by rw [Int.add_left_neg]; decide
      have W3 : IntKind.i64.wrap (-d + d) = 0 := by rw [Int.add_left_neg]; decide
      clear hform hc hform2 hc2
      go_wp2_with fail
      go_quiet ((go_at_call 35; exact HSQ.out _))
      go_wp2
      go_ret
      exact ⟨rfl, below_drewN HB5.out _⟩
theorem own : ownKnob Try.prog.godebug = none := by kernel_rfl
theorem laidOut : laidOutB Try.prog = true := by kernel_rfl
set_option maxRecDepth 100000 in
theorem lifted (os : Os) (started : os.Started) (H : Type) (enc : TypeId × Value → H) :
    ReturnsInHanded {} Try.checked os 13 .any (Rows.fnConjSpec.pre6 enc Try.prog Try.f13 Rows.fnConjRow.domain false) (Rows.fnConjSpec.post enc Try.prog Try.f13 false true false false) := by
  refine returnsInHanded_of_change (C := Try.checked) own started (by kernel_rfl) Try.func13
    (ChangeSpec.witness6 (enc := enc) (C := Try.checked) false ⟨#[], #[.slice none 0 0], []⟩ 8 (by kernel_rfl) (by kernel_rfl) (by kernel_rfl) (by kernel_rfl)) ?_
  intro W base args ds gs before hval0 hW hcnd _
  have hval : ∀ (j : Nat) t v, Try.f13.params[j]? = some t → args[j]? = some v → Value.okWide Try.prog W .any base t v := hval0
  have hW' := hW
  obtain ⟨p, q, hA0, hV, rfl, hfz, hnd⟩ := hW
  have hA : DataW.TrodAll enc Try.prog W 0 (fun _ => true) true Try.f13.params.toList args.toList ds p := hA0
  rw [Try.params13] at hA hval
  obtain ⟨v0, vs0, d0, ds0, p0, q0, hargs, rfl, rfl, h0, r0⟩ := trodAll_cons hA
  obtain ⟨rfl, rfl, rfl⟩ := trodAll_nil r0
  obtain rfl : args = #[v0] := by cases args; simp_all
  obtain ⟨rfl, rfl⟩ := trodVars_none hV
  obtain ⟨a0, len0, cap0, rfl⟩ := okWide_slice Try.underlying22 (hval 0 22 v0 rfl rfl)
  have k0 := h0
  have lt0 : ∀ x ∈ p0, x.block < W.heap.size := by obtain ⟨m, hm⟩ := k0; exact DataW.trod_lt m _ _ _ hm
  obtain ⟨z0, w0⟩ : ∃ zs, IsRow .u8 W a0 len0 cap0 zs := by
    obtain ⟨fuel, hf⟩ := h0
    rcases open_ints Try.underlying22 Try.underlying5 (by kernel_rfl) hf with ⟨hcs, _⟩ | ⟨x, l, c, zs, hcs, _, hl, hm, hz, _, hcell, hwz⟩
    · simp [Value.cells] at hcs
      obtain ⟨rfl, rfl, rfl⟩ := hcs
      exact ⟨[], .inl ⟨rfl, rfl, rfl, rfl⟩⟩
    · simp [Value.cells] at hcs
      obtain ⟨rfl, rfl, rfl⟩ := hcs
      exact ⟨zs, .inr ⟨_, rfl, hl, hm, by simpa using hz, hcell, hwz⟩⟩
  clear hA0 hval0
  refine (walk a0 len0 cap0 z0 W w0).mono fun e W' ⟨he, bel⟩ => ?_
  subst he
  exact ⟨_, rfl, _, _, _, [], _, [], hW', trodAll_mk1 (shut_bool Try.underlying4 _), (trodAll_cons_mk (Below.trod laidOut (by kernel_rfl) (of_decide_eq_true (by kernel_rfl)) k0 bel lt0) trodAll_mk0), rfl, bel.frame _, fun h => by cases h⟩
theorem over : Rows.fnConjRow.holds Try.pinned (OpenSpec.ofChange Rows.fnConjSpec) :=
  OpenClaim.holds_of_wide 13 Try.f13 rfl rfl rfl rfl rfl rfl rfl ⟨rfl, rfl, rfl, rfl, rfl⟩ rfl rfl rfl rfl rfl (by kernel_rfl) Try.func13 (by kernel_rfl)
    (of_decide_eq_true (by kernel_rfl)) (by unfold Func.isWrapper; first | (rw [if_pos (by decide +kernel)]; kernel_rfl) | (rw [if_neg (by decide +kernel)]; exact ⟨rfl, rfl⟩))
    (fun os started H enc _ => lifted os started H enc)
theorem proved : Rows.FnConjSaid := over
end Go.Proofs.Ytdclmjmefkgbbab.fnConj
