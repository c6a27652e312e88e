/-
  Some texts in one file: Vecs Zp4b.
-/
import Derived.Test.YtbhlgdleklfonabBun20
import Derived.Test.YtbhlgdleklfonabZp4
import Derived.Test.YtbhlgdleklfonabBun19
/-! Vecs -/
set_option linter.unusedVariables false
namespace Go.Proofs.Ytbhlgdleklfonab
open Go.RowKit

def dig (b c K j : Nat) : Nat := K / b ^ (c - 1 - j) % b
/-- the K-th vector, its last t integers the least ones -/
def vecPart (lo : Int) (b c K t : Nat) : List Int := (List.range c).map (fun j => if j < c - t then lo + ((dig b c K j : Nat) : Int) else lo)
def vecAt (lo : Int) (b c K : Nat) : List Int := (List.range c).map (fun j => lo + ((dig b c K j : Nat) : Int))
def vecsL (lo : Int) (b c : Nat) : List (List Int) := (List.range (b ^ c)).map (vecAt lo b c)
theorem vecAt_len (lo : Int) (b c K : Nat) : (vecAt lo b c K).length = c := by unfold vecAt; simp
theorem vecPart_len (lo : Int) (b c K t : Nat) : (vecPart lo b c K t).length = c := by unfold vecPart; simp
theorem vecAt_get {lo : Int} {b c K j : Nat} (h : j < (vecAt lo b c K).length) : (vecAt lo b c K)[j] = lo + ((dig b c K j : Nat) : Int) := by
  simp [vecAt]
theorem vecPart_get {lo : Int} {b c K t j : Nat} (h : j < (vecPart lo b c K t).length) : (vecPart lo b c K t)[j] = if j < c - t then lo + ((dig b c K j : Nat) : Int) else lo := by
  simp [vecPart]
theorem vecPart_zero (lo : Int) (b c K : Nat) : vecPart lo b c K 0 = vecAt lo b c K := by
  unfold vecPart vecAt
  refine List.map_congr_left fun j hj => ?_
  have := List.mem_range.1 hj
  rw [if_pos (by omega)]
theorem vecAt_first (lo : Int) (b c : Nat) : vecAt lo b c 0 = List.replicate c lo := by
  unfold vecAt dig
  refine List.eq_replicate_iff.2 ⟨by simp, fun x hx => ?_⟩
  obtain ⟨j, _, rfl⟩ := List.mem_map.1 hx
  simp
theorem vecAt_bd {lo : Int} {b c K : Nat} (hb : 1 ≤ b) : ∀ x ∈ vecAt lo b c K, lo ≤ x ∧ x < lo + b := by
  intro x hx
  obtain ⟨j, _, rfl⟩ := List.mem_map.1 hx
  have : dig b c K j < b := Nat.mod_lt _ (by omega)
  omega
theorem vecPart_at {lo : Int} {b c K t : Nat} (ht : t < c) : (vecPart lo b c K t).getD (c - 1 - t) 0 = lo + ((K / b ^ t % b : Nat) : Int) := by
  rw [getD_at _ _ (by rw [vecPart_len]; omega), vecPart_get, if_pos (by omega)]
  unfold dig
  rw [show c - 1 - (c - 1 - t) = t by omega]
theorem part_lo {lo : Int} {b c K t : Nat} (ht : t < c) : (vecPart lo b c K t).set (c - 1 - t) lo = vecPart lo b c K (t + 1) := by
  refine List.ext_getElem (by rw [List.length_set, vecPart_len, vecPart_len]) fun j h1 h2 => ?_
  have h3 := h2
  rw [vecPart_len] at h3
  rw [List.getElem_set, vecPart_get h2]
  by_cases h : c - 1 - t = j
  · rw [if_pos h, if_neg (by omega)]
  · rw [if_neg h, vecPart_get (by rw [vecPart_len]; exact h3)]
    by_cases h4 : j < c - t
    · rw [if_pos h4, if_pos (by omega)]
    · rw [if_neg h4, if_neg (by omega)]
theorem carry {b K t : Nat} (hb : 1 ≤ b) (h : (K + 1) % b ^ t = 0) (hd : K / b ^ t % b = b - 1) : (K + 1) % b ^ (t + 1) = 0 := by
  have hp : 0 < b ^ t := Nat.pow_pos (by omega)
  have e : (K + 1) / b ^ t = K / b ^ t + 1 := by rw [Nat.succ_div_of_dvd (Nat.dvd_of_mod_eq_zero h)]
  have e2 : (K / b ^ t + 1) % b = 0 := by
    rw [Nat.add_mod, hd]
    by_cases h1 : b = 1
    · subst h1; exact Nat.mod_one _
    · rw [Nat.mod_eq_of_lt (show 1 < b by omega), show b - 1 + 1 = b by omega, Nat.mod_self]
  obtain ⟨m, hm⟩ := Nat.dvd_of_mod_eq_zero h
  rw [hm, Nat.mul_div_cancel_left _ hp] at e
  rw [← e] at e2
  obtain ⟨q, rfl⟩ := Nat.dvd_of_mod_eq_zero e2
  rw [hm, Nat.pow_succ, ← Nat.mul_assoc]
  exact Nat.mul_mod_right _ _
theorem carried {b K c : Nat} (h : (K + 1) % b ^ c = 0) (hK : K < b ^ c) : K + 1 = b ^ c := by
  obtain ⟨m, hm⟩ := Nat.dvd_of_mod_eq_zero h
  have h1 : m ≠ 0 := by rintro rfl; rw [Nat.mul_zero] at hm; omega
  by_cases h2 : m = 1
  · rw [hm, h2, Nat.mul_one]
  · have : b ^ c * 2 ≤ b ^ c * m := Nat.mul_le_mul_left _ (by omega)
    omega
theorem part_next {lo : Int} {b c K t : Nat} (hb : 1 ≤ b) (ht : t < c) (h : (K + 1) % b ^ t = 0) (hd : K / b ^ t % b ≠ b - 1) : (vecPart lo b c K t).set (c - 1 - t) (lo + ((K / b ^ t % b : Nat) : Int) + 1) = vecAt lo b c (K + 1) := by
  have hlt : K / b ^ t % b < b := Nat.mod_lt _ (by omega)
  have e : (K + 1) / b ^ t = K / b ^ t + 1 := by rw [Nat.succ_div_of_dvd (Nat.dvd_of_mod_eq_zero h)]
  have e2 : (K / b ^ t + 1) % b = K / b ^ t % b + 1 := by
    rw [Nat.add_mod, Nat.mod_eq_of_lt (show 1 < b by omega), Nat.mod_eq_of_lt (by omega)]
  refine List.ext_getElem (by rw [List.length_set, vecPart_len, vecAt_len]) fun j h1 h2 => ?_
  have h9 := h2
  rw [vecAt_len] at h9
  rw [List.getElem_set, vecAt_get h2]
  by_cases hj : c - 1 - t = j
  · subst hj
    rw [if_pos rfl]
    unfold dig
    rw [show c - 1 - (c - 1 - t) = t by omega, e, e2]
    push_cast
    omega
  · rw [if_neg hj, vecPart_get (by rw [vecPart_len]; exact h9)]
    by_cases h3 : j < c - t
    · rw [if_pos h3]
      congr 2
      unfold dig
      rw [Nat.succ_div_of_not_dvd]
      intro hdv
      have hd1 : b ^ (t + 1) ∣ K + 1 := Nat.dvd_trans (Nat.pow_dvd_pow b (show t + 1 ≤ c - 1 - j by omega)) hdv
      obtain ⟨m, hm⟩ := hd1
      rw [hm, Nat.pow_succ, Nat.mul_assoc, Nat.mul_div_cancel_left _ (Nat.pow_pos (by omega))] at e
      rw [← e, Nat.mul_mod_right] at e2
      omega
    · rw [if_neg h3]
      have hdv : b ^ (c - 1 - j + 1) ∣ K + 1 := Nat.dvd_trans (Nat.pow_dvd_pow b (show c - 1 - j + 1 ≤ t by omega)) (Nat.dvd_of_mod_eq_zero h)
      obtain ⟨m, hm⟩ := hdv
      unfold dig
      rw [hm, Nat.pow_succ, Nat.mul_assoc, Nat.mul_div_cancel_left _ (Nat.pow_pos (by omega)), Nat.mul_mod_right]
      simp
theorem vecs_len (lo : Int) (b c : Nat) : (vecsL lo b c).length = b ^ c := by unfold vecsL; simp
theorem vecs_take {lo : Int} {b c K : Nat} (h : K < b ^ c) : (vecsL lo b c).take (K + 1) = (vecsL lo b c).take K ++ [vecAt lo b c K] := by
  rw [List.take_add_one, List.getElem?_eq_getElem (by rw [vecs_len]; exact h)]
  unfold vecsL
  simp

end Go.Proofs.Ytbhlgdleklfonab

/-! Zp4b -/
set_option linter.unusedVariables false
namespace Go.Proofs.Ytbhlgdleklfonab
open Go.RowKit

theorem fs_flat {α β γ : Type} (g : α → List β) (f : β → Option γ) : ∀ l : List α, (l.flatMap g).findSome? f = l.findSome? (fun x => (g x).findSome? f)
  | [] => rfl
  | x :: l => by
    rw [List.flatMap_cons, List.findSome?_append, List.findSome?_cons, fs_flat g f l]
    cases (g x).findSome? f <;> rfl
theorem fs_mapO {α β γ : Type} (g : β → γ) (f : α → Option β) : ∀ l : List α, (l.findSome? f).map g = l.findSome? (fun x => (f x).map g)
  | [] => rfl
  | x :: l => by
    rw [List.findSome?_cons, List.findSome?_cons, ← fs_mapO g f l]
    cases f x <;> rfl
theorem fs_first {α β : Type} {f : α → Option β} {L front : List α} {x : α} {b : β} (h : front ++ [x] <+: L) (hn : ∀ y ∈ front, f y = none) (hx : f x = some b) : L.findSome? f = some b := by
  obtain ⟨t, rfl⟩ := h
  rw [List.append_assoc, List.findSome?_append, List.findSome?_eq_none_iff.2 hn, Option.none_or, List.singleton_append, List.findSome?_cons, hx]
def alongO (a b c d : Int) (x y : Nat) : Option (List Int) := if splitV a b x y = 0 then some [(x : Int), (y : Int), 0, 0] else (zfindO [c, d, coreG (splitV a b x y)]).map (vec4 (rootG (splitV a b x y)) x y)
theorem split_along {a b c d : Int} (h : Ok4 a b c d) (x y : Nat) : splitO a b c d x y = if x = 0 ∧ y = 0 then none else (alongO a b c d x y).map plainL := by
  unfold splitO alongO
  by_cases h0 : x = 0 ∧ y = 0
  · rw [if_pos h0, if_pos h0]
  · rw [if_neg h0, if_neg h0]
    by_cases hz : splitV a b x y = 0
    · rw [if_pos hz, if_pos hz]; rfl
    · rw [if_neg hz, if_neg hz]
      by_cases hc : (coreG (splitV a b x y)).natAbs ≤ 30
      · rw [if_pos hc, show zfindO [c, d, coreG (splitV a b x y)] = threeO c d (coreG (splitV a b x y)) from by
          unfold zfindO; rw [ok3_fv (h.ok3 hz hc), if_pos rfl]; rfl]
        cases threeO c d (coreG (splitV a b x y)) <;> rfl
      · rw [if_neg hc]
        cases hf : fvB [c, d, coreG (splitV a b x y)] with
        | false => unfold zfindO; rw [hf]; rfl
        | true =>
          exfalso
          have k := ok3_of hf
          have k1 := k.c1
          have k2 := k.c2
          omega
def fourM (a b c d : Int) (vs : List Int) : Option (List Int) := if vs.getD 0 0 = 0 ∧ vs.getD 1 0 = 0 then none else alongO a b c d (vs.getD 0 0).toNat (vs.getD 1 0).toNat
def fourR (a b c d : Int) : Option (List Int) := (vecsL 0 4 2).findSome? (fourM a b c d)
theorem vecs_42 : vecsL 0 4 2 = (List.range 4).flatMap (fun x => (List.range 4).map (fun y => [((x : Nat) : Int), ((y : Nat) : Int)])) := by decide +kernel
theorem four_is {a b c d : Int} (h : Ok4 a b c d) : fourO a b c d = (fourR a b c d).map plainL := by
  unfold fourO fourR rowF firstR
  rw [vecs_42, fs_flat, fs_mapO]
  congr 1
  funext x
  rw [List.findSome?_map, fs_mapO]
  congr 1
  funext y
  rw [split_along h, Function.comp]
  unfold fourM
  simp only [List.getD_cons_zero, List.getD_cons_succ, Int.toNat_natCast]
  by_cases h0 : x = 0 ∧ y = 0
  · rw [if_pos h0, if_pos (by omega)]; rfl
  · rw [if_neg h0, if_neg (by omega)]

/-- an empty list, laid anew -/
theorem none_post {w w2 : World} {o : Option (List Int)} (ho : o = none) (hb : Below w.heap.size w w2) : SearchPost o w (.returned (.tuple #[.slice (some ⟨w2.heap.size, 0, none⟩) 0 0, .bool false])) (w2.alloc (.cells #[] 3)) := by
  subst ho
  exact ⟨_, rfl, World.ownsRow_made (size := 1) _ #[] 0 hb.size (by unfold maxLen; omega) rfl, hb.alloc hb.size _⟩
theorem some_post {w w2 w3 : World} {o : Option (List Int)} {l : List Int} {u : Value} (ho : o = some l) (hb : Below w.heap.size w w2) (hu : Owns w3 w2.heap.size u l) (hb3 : Below w2.heap.size w2 w3) : SearchPost o w (.returned (.tuple #[u, .bool true])) w3 := by
  subst ho
  exact ⟨_, rfl, hu.down hb.size, hb.trans (hb3.mono hb.size)⟩

set_option maxRecDepth 100000 in
set_option maxHeartbeats 2000000 in
theorem zeroFind_bad (v : Value) (xs : List Int) (hf : fvB xs = false) (w : World) (h : Rd w v xs) : Calls Try.prog 25 #[v] w (SearchPost (zfindO xs) w) := by
  have HH := hid h
  have HF := hid hf
  have HR : Hid (zfindO xs = none) := hid (by unfold zfindO; rw [hf]; rfl)
  obtain ⟨ad, cap, rfl, _⟩ := h.form
  clear hf h
  go_enter Try.func25, Try.ntmps25
  go_wp2_with (go_at_call 37; refine (formValidP_any _ xs _ HH.out).mono ?_; rw [HF.out]; rintro e w' ⟨rfl, rfl⟩)
  go_ret2
  exact none_post HR.out (Below.refl _ _)
set_option maxRecDepth 100000 in
set_option maxHeartbeats 2000000 in
theorem zeroFind_one (v : Value) (a : Int) (hf : fvB [a] = true) (w : World) (h : Rd w v [a]) : Calls Try.prog 25 #[v] w (SearchPost (zfindO [a]) w) := by
  have HH := hid h
  have HF := hid hf
  have HR : Hid (zfindO [a] = none) := hid (by unfold zfindO; rw [hf]; rfl)
  have HB1 := hid ((Below.refl w.heap.size w).alloc (Nat.le_refl _) (.cells #[] 3))
  obtain ⟨ad, cap, rfl, _⟩ := h.form
  clear hf h
  go_enter Try.func25, Try.ntmps25
  go_wp2_with (go_at_call 37; refine (formValidP_any _ _ _ HH.out).mono ?_; rw [HF.out]; rintro e w' ⟨rfl, rfl⟩)
  go_ret2
  have hp := none_post HR.out HB1.out
  simp only [World.size_alloc] at hp
  exact hp
set_option maxRecDepth 100000 in
set_option maxHeartbeats 2000000 in
theorem zeroFind_two (v : Value) (a b : Int) (hf : fvB [a, b] = true) (w : World) (h : Rd w v [a, b]) : Calls Try.prog 25 #[v] w (SearchPost (zfindO [a, b]) w) := by
  have HH := hid h
  have HF := hid hf
  have HR : Hid (zfindO [a, b] = twoO a b) := hid (by unfold zfindO; rw [hf, if_pos rfl]; rfl)
  have HB1 := hid ((Below.refl w.heap.size w).alloc (Nat.le_refl _) (.cells #[] 3))
  have hb := (fvB_iff.1 hf).1
  have ha := hb a (by simp)
  have hbb := hb b (by simp)
  obtain ⟨ra1, ra2⟩ := root_30 ha.1 ha.2.1 ha.2.2
  obtain ⟨rb1, rb2⟩ := root_30 hbb.1 hbb.2.1 hbb.2.2
  obtain ⟨ad, cap, rfl, _⟩ := h.form
  have HRAW := hid (zeroOfTwo_any (.slice ad [a, b].length cap) a b ha.1 ha.2.1 ha.2.2 hbb.1 hbb.2.1 hbb.2.2 (w.alloc (.cells #[] 3)) (h.keep HB1.out))
  obtain ⟨D, hD⟩ : ∃ D, D = decide (coreG a + coreG b = 0) := ⟨_, rfl⟩
  have HT : Hid (twoO a b = if D = true then some (plainL [(rootG b : Int), (rootG a : Int)]) else none) := hid (by
    unfold twoO
    rw [hD]
    by_cases h0 : coreG a + coreG b = 0
    · rw [if_pos h0, decide_eq_true h0]; rfl
    · rw [if_neg h0, decide_eq_false h0]; rfl)
  have HPL : Hid (∀ (vv : Value) (wx : World), Rd wx vv [(rootG b : Int), (rootG a : Int)] → Calls Try.prog 42 #[vv] wx fun e w' => ∃ u, e = .returned u ∧ Owns w' wx.heap.size u (plainL [(rootG b : Int), (rootG a : Int)]) ∧ Below wx.heap.size wx w') := hid (fun vv wx hr => plainOf_any vv _ wx hr (by simp) (fun u hu => by simp only [List.mem_cons, List.not_mem_nil, or_false] at hu; omega) ⟨(rootG b : Int), by simp, by omega⟩)
  obtain ⟨l, hl⟩ : ∃ l, l = [(rootG b : Int), (rootG a : Int)] := ⟨_, rfl⟩
  rw [← hD] at HRAW
  rw [← hl] at HRAW HT HPL
  clear hf h hb ha hbb hD hl ra1 ra2 rb1 rb2
  cases D with
  | false =>
    have HN : Hid (zfindO [a, b] = none) := hid (by rw [HR.out, HT.out]; rfl)
    go_enter Try.func25, Try.ntmps25
    go_wp2_with (first
      | (go_at_call 37; refine (formValidP_any _ _ _ HH.out).mono ?_; rw [HF.out]; rintro e w' ⟨rfl, rfl⟩)
      | (go_at_call 56; refine (HRAW.out).mono ?_; rintro e w2 ⟨u, rfl, hu, hb2⟩; have hbx := HB1.out.trans (hb2.mono HB1.out.size)))
    go_ret2
    exact none_post HN.out hbx
  | true =>
    have HN : Hid (zfindO [a, b] = some (plainL l)) := hid (by rw [HR.out, HT.out]; rfl)
    go_enter Try.func25, Try.ntmps25
    go_wp2_with (first
      | (go_at_call 37; refine (formValidP_any _ _ _ HH.out).mono ?_; rw [HF.out]; rintro e w' ⟨rfl, rfl⟩)
      | (go_at_call 42; refine (HPL.out _ _ hu.rd).mono ?_; rintro e w3 ⟨u3, rfl, hu3, hb3⟩)
      | (go_at_call 56; refine (HRAW.out).mono ?_; rintro e w2 ⟨u, rfl, hu, hb2⟩; have hbx := HB1.out.trans (hb2.mono HB1.out.size)))
    go_ret2
    exact some_post HN.out hbx hu3 hb3
set_option maxRecDepth 100000 in
set_option maxHeartbeats 2000000 in
theorem zeroFind_three (v : Value) (a b c : Int) (hf : fvB [a, b, c] = true) (w : World) (h : Rd w v [a, b, c]) : Calls Try.prog 25 #[v] w (SearchPost (zfindO [a, b, c]) w) := by
  have HH := hid h
  have HF := hid hf
  have HR : Hid (zfindO [a, b, c] = (three0 a b c).map plainL) := hid (by unfold zfindO; rw [hf, if_pos rfl]; exact three_is a b c)
  have HB1 := hid ((Below.refl w.heap.size w).alloc (Nat.le_refl _) (.cells #[] 3))
  have HGD : Hid (∀ l, three0 a b c = some l → l.length ≤ 4 ∧ Vec6 l ∧ ∃ x ∈ l, x ≠ 0) := hid (fun l hl => by
    unfold three0 at hl
    obtain ⟨l0, h0, rfl⟩ := Option.map_eq_some_iff.1 hl
    have k := vec3_ok (ok3_of HF.out) h0
    exact ⟨by show 3 ≤ 4; decide, fun u hu => by have := k.small u hu; omega, k.some⟩)
  obtain ⟨ad, cap, rfl, _⟩ := h.form
  have HRAW : Hid (Calls Try.prog 57 #[.slice ad [a, b, c].length cap] (w.alloc (.cells #[] 3)) (SearchPost (three0 a b c) (w.alloc (.cells #[] 3)))) := hid (zeroOfThree_any _ a b c (ok3_of HF.out) _ (h.keep HB1.out))
  obtain ⟨o, ho⟩ : ∃ o, o = three0 a b c := ⟨_, rfl⟩
  rw [← ho] at HR HRAW HGD
  clear hf h ho
  cases o with
  | none =>
    go_enter Try.func25, Try.ntmps25
    go_wp2_with (first
      | (go_at_call 37; refine (formValidP_any _ _ _ HH.out).mono ?_; rw [HF.out]; rintro e w' ⟨rfl, rfl⟩)
      | (go_at_call 57; refine (HRAW.out).mono ?_; rintro e w2 ⟨u, rfl, hu, hb2⟩; have hbx := HB1.out.trans (hb2.mono HB1.out.size)))
    go_ret2
    exact none_post HR.out hbx
  | some l =>
    obtain ⟨hl4, hv6, hsm⟩ := HGD.out l rfl
    have HPL : Hid (∀ (vv : Value) (wx : World), Rd wx vv l → Calls Try.prog 42 #[vv] wx fun e w' => ∃ u, e = .returned u ∧ Owns w' wx.heap.size u (plainL l) ∧ Below wx.heap.size wx w') := hid (fun vv wx hr => plainOf_any vv l wx hr hl4 hv6 hsm)
    clear hl4 hv6 hsm
    go_enter Try.func25, Try.ntmps25
    go_wp2_with (first
      | (go_at_call 37; refine (formValidP_any _ _ _ HH.out).mono ?_; rw [HF.out]; rintro e w' ⟨rfl, rfl⟩)
      | (go_at_call 42; refine (HPL.out _ _ hu.rd).mono ?_; rintro e w3 ⟨u3, rfl, hu3, hb3⟩)
      | (go_at_call 57; refine (HRAW.out).mono ?_; rintro e w2 ⟨u, rfl, hu, hb2⟩; have hbx := HB1.out.trans (hb2.mono HB1.out.size)))
    go_ret2
    exact some_post HR.out hbx hu3 hb3
theorem zeroFind_low (v : Value) (xs : List Int) (hl : xs.length ≤ 3) (w : World) (h : Rd w v xs) : Calls Try.prog 25 #[v] w (SearchPost (zfindO xs) w) := by
  cases hf : fvB xs with
  | false => exact zeroFind_bad v xs hf w h
  | true =>
    have hb := fvB_iff.1 hf
    have hc : xs.length = 1 ∨ xs.length = 2 ∨ xs.length = 3 := by omega
    rcases hc with e | e | e
    · obtain ⟨a, rfl⟩ := list_one e
      exact zeroFind_one v a hf w h
    · obtain ⟨a, b, rfl⟩ := list_two e
      exact zeroFind_two v a b hf w h
    · obtain ⟨a, b, c, rfl⟩ := list_three e
      exact zeroFind_three v a b c hf w h

end Go.Proofs.Ytbhlgdleklfonab
