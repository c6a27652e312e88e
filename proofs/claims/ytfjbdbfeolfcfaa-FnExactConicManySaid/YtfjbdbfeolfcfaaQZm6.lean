/-
  Contracts of the model's chapter 5: what finds a zero.
-/
import Derived.Test.YtfjbdbfeolfcfaaQBun44
import Derived.Deep.RegionWith
import Derived.StillTailTactics
set_option linter.unusedVariables false
namespace Go.Proofs.Ytfjbdbfeolfcfaa
open Go.RowKit

/-- the plain one of a list that has just been laid -/
theorem plainLitN_any (V : List Int) (cur : Array Value) (hc : cur = (V.map (Value.int .i64)).toArray) (hl : V.length ≤ 4) (h6 : Vec6 V) (hs : ∃ x ∈ V, x ≠ 0) (W : World) : Calls Try.prog 48 #[.slice (some ⟨W.heap.size, 0, none⟩) V.length V.length] (W.alloc (.cells cur 3)) fun e w' => ∃ u, e = .returned u ∧ Owns w' W.heap.size u (plainL V) ∧ Below W.heap.size W w' := by
  have hb : Below W.heap.size W (W.alloc (.cells cur 3)) := (Below.refl _ _).alloc (Nat.le_refl _) _
  have ho := owns_lit (W := W) (B := W.heap.size) V cur hc (Nat.le_refl _) (by unfold maxLen; omega)
  refine (l5Plain_any _ V _ ho.rd hl h6 hs).mono ?_
  rintro e w' ⟨u, rfl, h1, h2⟩
  exact ⟨u, rfl, h1.down hb.size, hb.trans (h2.mono hb.size)⟩
/-- the plain one of a list that has just been laid, the order drawn -/
theorem plainLit_any (V : List Int) (cur : Array Value) (hc : cur = (V.map (Value.int .i64)).toArray) (hl : V.length ≤ 4) (h6 : Vec6 V) (hs : ∃ x ∈ V, x ≠ 0) (W : World) : Calls Try.prog 48 #[.slice (some ⟨W.heap.size, 0, none⟩) V.length V.length] (W.alloc (.cells cur 3)).drew fun e w' => ∃ u, e = .returned u ∧ Owns w' W.heap.size u (plainL V) ∧ Below W.heap.size W w' := by
  have hb : Below W.heap.size W (W.alloc (.cells cur 3)) := (Below.refl _ _).alloc (Nat.le_refl _) _
  have hb2 : Below W.heap.size W (W.alloc (.cells cur 3)).drew := ⟨hb.os, hb.tape, hb.output, hb.size, hb.block⟩
  have ho := owns_lit (W := W) (B := W.heap.size) V cur hc (Nat.le_refl _) (by unfold maxLen; omega)
  have hr : Rd (W.alloc (.cells cur 3)).drew (.slice (some ⟨W.heap.size, 0, none⟩) V.length V.length) V := ho.rd
  refine (l5Plain_any _ V _ hr hl h6 hs).mono ?_
  rintro e w' ⟨u, rfl, h1, h2⟩
  exact ⟨u, rfl, h1.down hb2.size, hb2.trans (h2.mono hb2.size)⟩
theorem wrap_s {x n : Int} (hn : n ≤ 1000000000) (h1 : -n ≤ x) (h2 : x ≤ n) : IntKind.i64.wrap x = x := by rw [IntKind.wrap_i64]; omega

set_option maxRecDepth 100000 in
set_option maxHeartbeats 4000000 in
theorem l5Three_any (v : Value) (a b c : Int) (ok : Ok3 a b c) (w : World) (h : Rd w v [a, b, c]) : Calls Try.prog 77 #[v] w (SearchPost (threeO a b c) w) := by
  have HH := hid h
  have HOK := hid ok
  have hn := ok.nrm
  have hml := hn.minv.le hn.nz
  have HLIM := hid (T3.lim_of hn.nz (Nat.le_trans hn.lim (by omega)))
  obtain ⟨ad, cap, rfl, _⟩ := h.form
  have ET : Hid (threeO a b c = (searchO (nT a b c)).map (fun l => plainL (vec3 a b c l))) := hid rfl
  have HV : Hid (∀ l, searchO (nT a b c) = some l → Three a b c (vec3 a b c l)) := hid (fun l hl => vec3_ok ok hl)
  have HFD : Hid (∀ l, searchO (nT a b c) = some l → ∃ x y z, l = [x, y, z]) := hid (fun l hl => by
    obtain ⟨x, y, z, e, _⟩ := search_found hl
    exact ⟨_, _, _, e⟩)
  clear h ok hn hml
  go_enter Try.func77, Try.ntmps77
  go_wp2_with fail
  refine (l5Normal_any _ a b c HOK.out _ HH.out).mono ?_
  rintro e w2 ⟨u, z, rfl, ho, hm, hne, hb2⟩
  have HO := hid ho
  have HM := hid hm
  have HB2 := hid hb2
  obtain ⟨gt, ct, rfl, _, _⟩ := ho.block_of (by simp [T3.toL])
  clear ho hne hb2
  go_wp2_with fail
  refine (l5Search_any _ (nT a b c) HLIM.out _ HO.out.rd).mono ?_
  rintro e w3 ⟨s, rfl, hos, hb3⟩
  have HB3 := hid (HB2.out.trans (hb3.mono HB2.out.size))
  have HM3 := hid (HM.out.keep HM.out.lt hb3)
  clear hb3 hm
  cases hs : searchO (nT a b c) with
  | none =>
    have HE : Hid (threeO a b c = none) := hid (by rw [ET.out, hs]; rfl)
    rw [hs] at hos
    clear hs hos
    go_wp2_with fail
    go_ret2
    have hs3 := HB3.out.size
    refine ⟨_, by rw [HE.out]; rfl, ?_, HB3.out.alloc hs3 _⟩
    rw [HE.out]
    exact World.ownsRow_made (size := 1) _ #[] 0 hs3 (by unfold maxLen; omega) rfl
  | some l =>
    have HE : Hid (threeO a b c = some (plainL (vec3 a b c l))) := hid (by rw [ET.out, hs]; rfl)
    have h3 := HV.out l hs
    obtain ⟨x, y, q, rfl⟩ := HFD.out l hs
    rw [hs] at hos
    have hos' : Owns w3 w2.heap.size s [x, y, q] := hos
    obtain ⟨m, hm⟩ : ∃ m, m = nM a b c := ⟨_, rfl⟩
    have EV : vec3 a b c [x, y, q] = [m.a * x, m.b * y, m.c * q] := by rw [hm]; rfl
    rw [EV] at h3 HE
    rw [← hm] at HM3
    have k1 := h3.small (m.a * x) (by simp)
    have k2 := h3.small (m.b * y) (by simp)
    have k3 := h3.small (m.c * q) (by simp)
    have h31 := k1.1
    have h32 := k1.2
    have h33 := k2.1
    have h34 := k2.2
    have h35 := k3.1
    have h36 := k3.2
    have hw1 := wrap_s (by decide) k1.1 k1.2
    have hw2 := wrap_s (by decide) k2.1 k2.2
    have hw3 := wrap_s (by decide) k3.1 k3.2
    have HP := hid (plainLitN_any [m.a * x, m.b * y, m.c * q] _ rfl (by simp) (fun u hu => by have := h3.small u hu; omega) h3.some)
    obtain ⟨gs, cs, rfl, _, _⟩ := hos'.block_of (by simp)
    have HMX : Owns w3 w.heap.size z [m.a, m.b, m.c] := HM3.out
    obtain ⟨gm, cm, rfl, _, _⟩ := HMX.block_of (by simp)
    have p0 := hos'.elem (i := 0) (by simp)
    have p1 := hos'.elem (i := 1) (by simp)
    have p2 := hos'.elem (i := 2) (by simp)
    have q0 : w3.cell? ⟨gm, 0, none⟩ = some (.int .i64 m.a) := HMX.elem (i := 0) (by simp)
    have q1 : w3.cell? ⟨gm, 1, none⟩ = some (.int .i64 m.b) := HMX.elem (i := 1) (by simp)
    have q2 : w3.cell? ⟨gm, 2, none⟩ = some (.int .i64 m.c) := HMX.elem (i := 2) (by simp)
    clear HM3 HMX
    simp only [List.getD_cons_zero, List.getD_cons_succ] at p0 p1 p2
    have hs3 := HB3.out.size
    clear hs hos hos' h3 k1 k2 k3 hm EV
    go_wp2_with fail
    have HBD : Hid (Below w.heap.size w w3.drew) := hid ⟨HB3.out.os, HB3.out.tape, HB3.out.output, HB3.out.size, HB3.out.block⟩
    go_still_tail 21, (by kernel_rfl)
    change wpList _ _ _ _ _ w3.drew
    generalize w3.drew = wd at HBD ⊢
    have hsd := HBD.out.size
    go_wp2_with (go_at_call 48; refine (HP.out _).mono ?_; rintro e w4 ⟨u, rfl, ho4, hb4⟩)
    go_ret2
    exact ⟨_, by rw [HE.out]; rfl, by rw [HE.out]; exact ho4.down hsd, HBD.out.trans (hb4.mono hsd)⟩

end Go.Proofs.Ytfjbdbfeolfcfaa
