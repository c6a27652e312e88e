/-
  Some texts in one file: Vecs Zp4b Zp4c.
-/
import Derived.Test.YtenibnblibnocacQBun28
import Derived.Test.YtenibnblibnocacQBun44
import Derived.BigQuiet
import Derived.Deep.RegionWith
/-! Vecs -/
set_option linter.unusedVariables false
namespace Go.Proofs.Ytenibnblibnocac
open Go.RowKit

def dig (b c K j : Nat) : Nat := K / b ^ (c - 1 - j) % b
/-- the K-th vector, its last t integers the least ones -/
def vecPart (lo : Int) (b c K t : Nat) : List Int := (List.range c).map (fun j => if j < c - t then lo + ((dig b c K j : Nat) : Int) else lo)
def vecAt (lo : Int) (b c K : Nat) : List Int := (List.range c).map (fun j => lo + ((dig b c K j : Nat) : Int))
def vecsL (lo : Int) (b c : Nat) : List (List Int) := (List.range (b ^ c)).map (vecAt lo b c)
theorem vecAt_len (lo : Int) (b c K : Nat) : (vecAt lo b c K).length = c := by unfold vecAt; simp
theorem vecPart_len (lo : Int) (b c K t : Nat) : (vecPart lo b c K t).length = c := by unfold vecPart; simp
theorem vecAt_get {lo : Int} {b c K j : Nat} (h : j < (vecAt lo b c K).length) : (vecAt lo b c K)[j] = lo + ((dig b c K j : Nat) : Int) := by
  simp [vecAt]
theorem vecPart_get {lo : Int} {b c K t j : Nat} (h : j < (vecPart lo b c K t).length) : (vecPart lo b c K t)[j] = if j < c - t then lo + ((dig b c K j : Nat) : Int) else lo := by
  simp [vecPart]
theorem vecPart_zero (lo : Int) (b c K : Nat) : vecPart lo b c K 0 = vecAt lo b c K := by
  unfold vecPart vecAt
  refine List.map_congr_left fun j hj => ?_
  have := List.mem_range.1 hj
  rw [if_pos (by omega)]
theorem vecAt_first (lo : Int) (b c : Nat) : vecAt lo b c 0 = List.replicate c lo := by
  unfold vecAt dig
  refine List.eq_replicate_iff.2 ⟨by simp, fun x hx => ?_⟩
  obtain ⟨j, _, rfl⟩ := List.mem_map.1 hx
  simp
theorem vecAt_bd {lo : Int} {b c K : Nat} (hb : 1 ≤ b) : ∀ x ∈ vecAt lo b c K, lo ≤ x ∧ x < lo + b := by
  intro x hx
  obtain ⟨j, _, rfl⟩ := List.mem_map.1 hx
  have : dig b c K j < b := Nat.mod_lt _ (by omega)
  omega
theorem vecPart_at {lo : Int} {b c K t : Nat} (ht : t < c) : (vecPart lo b c K t).getD (c - 1 - t) 0 = lo + ((K / b ^ t % b : Nat) : Int) := by
  rw [getD_at _ _ (by rw [vecPart_len]; omega), vecPart_get, if_pos (by omega)]
  unfold dig
  rw [show c - 1 - (c - 1 - t) = t by omega]
theorem part_lo {lo : Int} {b c K t : Nat} (ht : t < c) : (vecPart lo b c K t).set (c - 1 - t) lo = vecPart lo b c K (t + 1) := by
  refine List.ext_getElem (by rw [List.length_set, vecPart_len, vecPart_len]) fun j h1 h2 => ?_
  have h3 := h2
  rw [vecPart_len] at h3
  rw [List.getElem_set, vecPart_get h2]
  by_cases h : c - 1 - t = j
  · rw [if_pos h, if_neg (by omega)]
  · rw [if_neg h, vecPart_get (by rw [vecPart_len]; exact h3)]
    by_cases h4 : j < c - t
    · rw [if_pos h4, if_pos (by omega)]
    · rw [if_neg h4, if_neg (by omega)]
theorem carry {b K t : Nat} (hb : 1 ≤ b) (h : (K + 1) % b ^ t = 0) (hd : K / b ^ t % b = b - 1) : (K + 1) % b ^ (t + 1) = 0 := by
  have hp : 0 < b ^ t := Nat.pow_pos (by omega)
  have e : (K + 1) / b ^ t = K / b ^ t + 1 := by rw [Nat.succ_div_of_dvd (Nat.dvd_of_mod_eq_zero h)]
  have e2 : (K / b ^ t + 1) % b = 0 := by
    rw [Nat.add_mod, hd]
    by_cases h1 : b = 1
    · subst h1; exact Nat.mod_one _
    · rw [Nat.mod_eq_of_lt (show 1 < b by omega), show b - 1 + 1 = b by omega, Nat.mod_self]
  obtain ⟨m, hm⟩ := Nat.dvd_of_mod_eq_zero h
  rw [hm, Nat.mul_div_cancel_left _ hp] at e
  rw [← e] at e2
  obtain ⟨q, rfl⟩ := Nat.dvd_of_mod_eq_zero e2
  rw [hm, Nat.pow_succ, ← Nat.mul_assoc]
  exact Nat.mul_mod_right _ _
theorem carried {b K c : Nat} (h : (K + 1) % b ^ c = 0) (hK : K < b ^ c) : K + 1 = b ^ c := by
  obtain ⟨m, hm⟩ := Nat.dvd_of_mod_eq_zero h
  have h1 : m ≠ 0 := by rintro rfl; rw [Nat.mul_zero] at hm; omega
  by_cases h2 : m = 1
  · rw [hm, h2, Nat.mul_one]
  · have : b ^ c * 2 ≤ b ^ c * m := Nat.mul_le_mul_left _ (by omega)
    omega
theorem part_next {lo : Int} {b c K t : Nat} (hb : 1 ≤ b) (ht : t < c) (h : (K + 1) % b ^ t = 0) (hd : K / b ^ t % b ≠ b - 1) : (vecPart lo b c K t).set (c - 1 - t) (lo + ((K / b ^ t % b : Nat) : Int) + 1) = vecAt lo b c (K + 1) := by
  have hlt : K / b ^ t % b < b := Nat.mod_lt _ (by omega)
  have e : (K + 1) / b ^ t = K / b ^ t + 1 := by rw [Nat.succ_div_of_dvd (Nat.dvd_of_mod_eq_zero h)]
  have e2 : (K / b ^ t + 1) % b = K / b ^ t % b + 1 := by
    rw [Nat.add_mod, Nat.mod_eq_of_lt (show 1 < b by omega), Nat.mod_eq_of_lt (by omega)]
  refine List.ext_getElem (by rw [List.length_set, vecPart_len, vecAt_len]) fun j h1 h2 => ?_
  have h9 := h2
  rw [vecAt_len] at h9
  rw [List.getElem_set, vecAt_get h2]
  by_cases hj : c - 1 - t = j
  · subst hj
    rw [if_pos rfl]
    unfold dig
    rw [show c - 1 - (c - 1 - t) = t by omega, e, e2]
    push_cast
    omega
  · rw [if_neg hj, vecPart_get (by rw [vecPart_len]; exact h9)]
    by_cases h3 : j < c - t
    · rw [if_pos h3]
      congr 2
      unfold dig
      rw [Nat.succ_div_of_not_dvd]
      intro hdv
      have hd1 : b ^ (t + 1) ∣ K + 1 := Nat.dvd_trans (Nat.pow_dvd_pow b (show t + 1 ≤ c - 1 - j by omega)) hdv
      obtain ⟨m, hm⟩ := hd1
      rw [hm, Nat.pow_succ, Nat.mul_assoc, Nat.mul_div_cancel_left _ (Nat.pow_pos (by omega))] at e
      rw [← e, Nat.mul_mod_right] at e2
      omega
    · rw [if_neg h3]
      have hdv : b ^ (c - 1 - j + 1) ∣ K + 1 := Nat.dvd_trans (Nat.pow_dvd_pow b (show c - 1 - j + 1 ≤ t by omega)) (Nat.dvd_of_mod_eq_zero h)
      obtain ⟨m, hm⟩ := hdv
      unfold dig
      rw [hm, Nat.pow_succ, Nat.mul_assoc, Nat.mul_div_cancel_left _ (Nat.pow_pos (by omega)), Nat.mul_mod_right]
      simp
theorem vecs_len (lo : Int) (b c : Nat) : (vecsL lo b c).length = b ^ c := by unfold vecsL; simp
theorem vecs_take {lo : Int} {b c K : Nat} (h : K < b ^ c) : (vecsL lo b c).take (K + 1) = (vecsL lo b c).take K ++ [vecAt lo b c K] := by
  rw [List.take_add_one, List.getElem?_eq_getElem (by rw [vecs_len]; exact h)]
  unfold vecsL
  simp

end Go.Proofs.Ytenibnblibnocac

/-! Zp4b -/
set_option linter.unusedVariables false
namespace Go.Proofs.Ytenibnblibnocac
open Go.RowKit

theorem fs_flat {α β γ : Type} (g : α → List β) (f : β → Option γ) : ∀ l : List α, (l.flatMap g).findSome? f = l.findSome? (fun x => (g x).findSome? f)
  | [] => rfl
  | x :: l => by
    rw [List.flatMap_cons, List.findSome?_append, List.findSome?_cons, fs_flat g f l]
    cases (g x).findSome? f <;> rfl
theorem fs_mapO {α β γ : Type} (g : β → γ) (f : α → Option β) : ∀ l : List α, (l.findSome? f).map g = l.findSome? (fun x => (f x).map g)
  | [] => rfl
  | x :: l => by
    rw [List.findSome?_cons, List.findSome?_cons, ← fs_mapO g f l]
    cases f x <;> rfl
theorem fs_first {α β : Type} {f : α → Option β} {L front : List α} {x : α} {b : β} (h : front ++ [x] <+: L) (hn : ∀ y ∈ front, f y = none) (hx : f x = some b) : L.findSome? f = some b := by
  obtain ⟨t, rfl⟩ := h
  rw [List.append_assoc, List.findSome?_append, List.findSome?_eq_none_iff.2 hn, Option.none_or, List.singleton_append, List.findSome?_cons, hx]
def alongO (a b c d : Int) (x y : Nat) : Option (List Int) := if splitV a b x y = 0 then some [(x : Int), (y : Int), 0, 0] else (zfindO [c, d, coreG (splitV a b x y)]).map (vec4 (rootG (splitV a b x y)) x y)
theorem split_along {a b c d : Int} (h : Ok4 a b c d) (x y : Nat) : splitO a b c d x y = if x = 0 ∧ y = 0 then none else (alongO a b c d x y).map plainL := by
  unfold splitO alongO
  by_cases h0 : x = 0 ∧ y = 0
  · rw [if_pos h0, if_pos h0]
  · rw [if_neg h0, if_neg h0]
    by_cases hz : splitV a b x y = 0
    · rw [if_pos hz, if_pos hz]; rfl
    · rw [if_neg hz, if_neg hz]
      by_cases hc : (coreG (splitV a b x y)).natAbs ≤ 30
      · rw [if_pos hc, show zfindO [c, d, coreG (splitV a b x y)] = threeO c d (coreG (splitV a b x y)) from by
          unfold zfindO; rw [ok3_fv (h.ok3 hz hc), if_pos rfl]; rfl]
        cases threeO c d (coreG (splitV a b x y)) <;> rfl
      · rw [if_neg hc]
        cases hf : fvB [c, d, coreG (splitV a b x y)] with
        | false => unfold zfindO; rw [hf]; rfl
        | true =>
          exfalso
          have k := ok3_of hf
          have k1 := k.c1
          have k2 := k.c2
          omega
def fourM (a b c d : Int) (vs : List Int) : Option (List Int) := if vs.getD 0 0 = 0 ∧ vs.getD 1 0 = 0 then none else alongO a b c d (vs.getD 0 0).toNat (vs.getD 1 0).toNat
def fourR (a b c d : Int) : Option (List Int) := (vecsL 0 4 2).findSome? (fourM a b c d)
theorem vecs_42 : vecsL 0 4 2 = (List.range 4).flatMap (fun x => (List.range 4).map (fun y => [((x : Nat) : Int), ((y : Nat) : Int)])) := by decide +kernel
theorem four_is {a b c d : Int} (h : Ok4 a b c d) : fourO a b c d = (fourR a b c d).map plainL := by
  unfold fourO fourR rowF firstR
  rw [vecs_42, fs_flat, fs_mapO]
  congr 1
  funext x
  rw [List.findSome?_map, fs_mapO]
  congr 1
  funext y
  rw [split_along h, Function.comp]
  unfold fourM
  simp only [List.getD_cons_zero, List.getD_cons_succ, Int.toNat_natCast]
  by_cases h0 : x = 0 ∧ y = 0
  · rw [if_pos h0, if_pos (by omega)]; rfl
  · rw [if_neg h0, if_neg (by omega)]

/-- an empty list, laid anew -/
theorem none_post {w w2 : World} {o : Option (List Int)} (ho : o = none) (hb : Below w.heap.size w w2) : SearchPost o w (.returned (.tuple #[.slice (some ⟨w2.heap.size, 0, none⟩) 0 0, .bool false])) (w2.alloc (.cells #[] 3)) := by
  subst ho
  exact ⟨_, rfl, World.ownsRow_made (size := 1) _ #[] 0 hb.size (by unfold maxLen; omega) rfl, hb.alloc hb.size _⟩
theorem some_post {w w2 w3 : World} {o : Option (List Int)} {l : List Int} {u : Value} (ho : o = some l) (hb : Below w.heap.size w w2) (hu : Owns w3 w2.heap.size u l) (hb3 : Below w2.heap.size w2 w3) : SearchPost o w (.returned (.tuple #[u, .bool true])) w3 := by
  subst ho
  exact ⟨_, rfl, hu.down hb.size, hb.trans (hb3.mono hb.size)⟩

set_option maxRecDepth 100000 in
set_option maxHeartbeats 2000000 in
theorem zeroFind_bad (v : Value) (xs : List Int) (hf : fvB xs = false) (w : World) (h : Rd w v xs) : Calls Try.prog 17 #[v] w (SearchPost (zfindO xs) w) := by
  have HH := hid h
  have HF := hid hf
  have HR : Hid (zfindO xs = none) := hid (by unfold zfindO; rw [hf]; rfl)
  obtain ⟨ad, cap, rfl, _⟩ := h.form
  clear hf h
  go_enter Try.func17, Try.ntmps17
  go_wp2_with (go_at_call 19; refine (formValidP_any _ xs _ HH.out).mono ?_; rw [HF.out]; rintro e w' ⟨rfl, rfl⟩)
  go_ret2
  exact none_post HR.out (Below.refl _ _)
set_option maxRecDepth 100000 in
set_option maxHeartbeats 2000000 in
theorem zeroFind_one (v : Value) (a : Int) (hf : fvB [a] = true) (w : World) (h : Rd w v [a]) : Calls Try.prog 17 #[v] w (SearchPost (zfindO [a]) w) := by
  have HH := hid h
  have HF := hid hf
  have HR : Hid (zfindO [a] = none) := hid (by unfold zfindO; rw [hf]; rfl)
  have HB1 := hid ((Below.refl w.heap.size w).alloc (Nat.le_refl _) (.cells #[] 3))
  obtain ⟨ad, cap, rfl, _⟩ := h.form
  clear hf h
  go_enter Try.func17, Try.ntmps17
  go_wp2_with (go_at_call 19; refine (formValidP_any _ _ _ HH.out).mono ?_; rw [HF.out]; rintro e w' ⟨rfl, rfl⟩)
  go_ret2
  have hp := none_post HR.out HB1.out
  simp only [World.size_alloc] at hp
  exact hp
set_option maxRecDepth 100000 in
set_option maxHeartbeats 2000000 in
theorem zeroFind_two (v : Value) (a b : Int) (hf : fvB [a, b] = true) (w : World) (h : Rd w v [a, b]) : Calls Try.prog 17 #[v] w (SearchPost (zfindO [a, b]) w) := by
  have HH := hid h
  have HF := hid hf
  have HR : Hid (zfindO [a, b] = twoO a b) := hid (by unfold zfindO; rw [hf, if_pos rfl]; rfl)
  have HB1 := hid ((Below.refl w.heap.size w).alloc (Nat.le_refl _) (.cells #[] 3))
  have hb := (fvB_iff.1 hf).1
  have ha := hb a (by simp)
  have hbb := hb b (by simp)
  obtain ⟨ra1, ra2⟩ := root_30 ha.1 ha.2.1 ha.2.2
  obtain ⟨rb1, rb2⟩ := root_30 hbb.1 hbb.2.1 hbb.2.2
  obtain ⟨ad, cap, rfl, _⟩ := h.form
  have HRAW := hid (zeroOfTwo_any (.slice ad [a, b].length cap) a b ha.1 ha.2.1 ha.2.2 hbb.1 hbb.2.1 hbb.2.2 (w.alloc (.cells #[] 3)) (h.keep HB1.out))
  obtain ⟨D, hD⟩ : ∃ D, D = decide (coreG a + coreG b = 0) := ⟨_, rfl⟩
  have HT : Hid (twoO a b = if D = true then some (plainL [(rootG b : Int), (rootG a : Int)]) else none) := hid (by
    unfold twoO
    rw [hD]
    by_cases h0 : coreG a + coreG b = 0
    · rw [if_pos h0, decide_eq_true h0]; rfl
    · rw [if_neg h0, decide_eq_false h0]; rfl)
  have HPL : Hid (∀ (vv : Value) (wx : World), Rd wx vv [(rootG b : Int), (rootG a : Int)] → Calls Try.prog 50 #[vv] wx fun e w' => ∃ u, e = .returned u ∧ Owns w' wx.heap.size u (plainL [(rootG b : Int), (rootG a : Int)]) ∧ Below wx.heap.size wx w') := hid (fun vv wx hr => plainOf_any vv _ wx hr (by simp) (fun u hu => by simp only [List.mem_cons, List.not_mem_nil, or_false] at hu; omega) ⟨(rootG b : Int), by simp, by omega⟩)
  obtain ⟨l, hl⟩ : ∃ l, l = [(rootG b : Int), (rootG a : Int)] := ⟨_, rfl⟩
  rw [← hD] at HRAW
  rw [← hl] at HRAW HT HPL
  clear hf h hb ha hbb hD hl ra1 ra2 rb1 rb2
  cases D with
  | false =>
    have HN : Hid (zfindO [a, b] = none) := hid (by rw [HR.out, HT.out]; rfl)
    go_enter Try.func17, Try.ntmps17
    go_wp2_with (first
      | (go_at_call 19; refine (formValidP_any _ _ _ HH.out).mono ?_; rw [HF.out]; rintro e w' ⟨rfl, rfl⟩)
      | (go_at_call 47; refine (HRAW.out).mono ?_; rintro e w2 ⟨u, rfl, hu, hb2⟩; have hbx := HB1.out.trans (hb2.mono HB1.out.size)))
    go_ret2
    exact none_post HN.out hbx
  | true =>
    have HN : Hid (zfindO [a, b] = some (plainL l)) := hid (by rw [HR.out, HT.out]; rfl)
    go_enter Try.func17, Try.ntmps17
    go_wp2_with (first
      | (go_at_call 19; refine (formValidP_any _ _ _ HH.out).mono ?_; rw [HF.out]; rintro e w' ⟨rfl, rfl⟩)
      | (go_at_call 50; refine (HPL.out _ _ hu.rd).mono ?_; rintro e w3 ⟨u3, rfl, hu3, hb3⟩)
      | (go_at_call 47; refine (HRAW.out).mono ?_; rintro e w2 ⟨u, rfl, hu, hb2⟩; have hbx := HB1.out.trans (hb2.mono HB1.out.size)))
    go_ret2
    exact some_post HN.out hbx hu3 hb3
set_option maxRecDepth 100000 in
set_option maxHeartbeats 2000000 in
theorem zeroFind_three (v : Value) (a b c : Int) (hf : fvB [a, b, c] = true) (w : World) (h : Rd w v [a, b, c]) : Calls Try.prog 17 #[v] w (SearchPost (zfindO [a, b, c]) w) := by
  have HH := hid h
  have HF := hid hf
  have HR : Hid (zfindO [a, b, c] = (three0 a b c).map plainL) := hid (by unfold zfindO; rw [hf, if_pos rfl]; exact three_is a b c)
  have HB1 := hid ((Below.refl w.heap.size w).alloc (Nat.le_refl _) (.cells #[] 3))
  have HGD : Hid (∀ l, three0 a b c = some l → l.length ≤ 4 ∧ Vec6 l ∧ ∃ x ∈ l, x ≠ 0) := hid (fun l hl => by
    unfold three0 at hl
    obtain ⟨l0, h0, rfl⟩ := Option.map_eq_some_iff.1 hl
    have k := vec3_ok (ok3_of HF.out) h0
    exact ⟨by show 3 ≤ 4; decide, fun u hu => by have := k.small u hu; omega, k.some⟩)
  obtain ⟨ad, cap, rfl, _⟩ := h.form
  have HRAW : Hid (Calls Try.prog 48 #[.slice ad [a, b, c].length cap] (w.alloc (.cells #[] 3)) (SearchPost (three0 a b c) (w.alloc (.cells #[] 3)))) := hid (zeroOfThree_any _ a b c (ok3_of HF.out) _ (h.keep HB1.out))
  obtain ⟨o, ho⟩ : ∃ o, o = three0 a b c := ⟨_, rfl⟩
  rw [← ho] at HR HRAW HGD
  clear hf h ho
  cases o with
  | none =>
    go_enter Try.func17, Try.ntmps17
    go_wp2_with (first
      | (go_at_call 19; refine (formValidP_any _ _ _ HH.out).mono ?_; rw [HF.out]; rintro e w' ⟨rfl, rfl⟩)
      | (go_at_call 48; refine (HRAW.out).mono ?_; rintro e w2 ⟨u, rfl, hu, hb2⟩; have hbx := HB1.out.trans (hb2.mono HB1.out.size)))
    go_ret2
    exact none_post HR.out hbx
  | some l =>
    obtain ⟨hl4, hv6, hsm⟩ := HGD.out l rfl
    have HPL : Hid (∀ (vv : Value) (wx : World), Rd wx vv l → Calls Try.prog 50 #[vv] wx fun e w' => ∃ u, e = .returned u ∧ Owns w' wx.heap.size u (plainL l) ∧ Below wx.heap.size wx w') := hid (fun vv wx hr => plainOf_any vv l wx hr hl4 hv6 hsm)
    clear hl4 hv6 hsm
    go_enter Try.func17, Try.ntmps17
    go_wp2_with (first
      | (go_at_call 19; refine (formValidP_any _ _ _ HH.out).mono ?_; rw [HF.out]; rintro e w' ⟨rfl, rfl⟩)
      | (go_at_call 50; refine (HPL.out _ _ hu.rd).mono ?_; rintro e w3 ⟨u3, rfl, hu3, hb3⟩)
      | (go_at_call 48; refine (HRAW.out).mono ?_; rintro e w2 ⟨u, rfl, hu, hb2⟩; have hbx := HB1.out.trans (hb2.mono HB1.out.size)))
    go_ret2
    exact some_post HR.out hbx hu3 hb3
theorem zeroFind_low (v : Value) (xs : List Int) (hl : xs.length ≤ 3) (w : World) (h : Rd w v xs) : Calls Try.prog 17 #[v] w (SearchPost (zfindO xs) w) := by
  cases hf : fvB xs with
  | false => exact zeroFind_bad v xs hf w h
  | true =>
    have hb := fvB_iff.1 hf
    have hc : xs.length = 1 ∨ xs.length = 2 ∨ xs.length = 3 := by omega
    rcases hc with e | e | e
    · obtain ⟨a, rfl⟩ := list_one e
      exact zeroFind_one v a hf w h
    · obtain ⟨a, b, rfl⟩ := list_two e
      exact zeroFind_two v a b hf w h
    · obtain ⟨a, b, c, rfl⟩ := list_three e
      exact zeroFind_three v a b c hf w h

end Go.Proofs.Ytenibnblibnocac

/-! Zp4c -/
set_option linter.unusedVariables false
namespace Go.Proofs.Ytenibnblibnocac
open Go.RowKit

theorem along_bd {a b c d : Int} (ok : Ok4 a b c d) {x y : Nat} (hx : x ≤ 3) (hy : y ≤ 3) : (-540 ≤ splitV a b x y ∧ splitV a b x y ≤ 540) := by
  have hb := splitV_bd ok.a1 ok.a2 ok.b1 ok.b2 hx hy
  unfold splitV
  omega
theorem mul_23 {u : Nat} {n : Int} (hu : u ≤ 23) (h1 : -2000 ≤ n) (h2 : n ≤ 2000) : -46000 ≤ (u : Int) * n ∧ (u : Int) * n ≤ 46000 := by
  have : ((u : Int) * n).natAbs ≤ 23 * 2000 := by rw [Int.natAbs_mul, Int.natAbs_natCast]; exact Nat.mul_le_mul hu (by omega)
  omega

set_option maxRecDepth 100000 in
set_option maxHeartbeats 8000000 in
theorem zeroAlong_any (v : Value) (a b c d : Int) (x y : Nat) (ok : Ok4 a b c d) (hx : x ≤ 3) (hy : y ≤ 3) (w : World) (h : Rd w v [a, b, c, d]) :
    Calls Try.prog 66 #[v, .int .i64 x, .int .i64 y] w (SearchPost (alongO a b c d x y) w) := by
  have HH := hid h
  have HOK := hid ok
  obtain ⟨ad, cap, rfl, hform⟩ := h.form
  obtain ⟨g, o, rfl, _, hc⟩ := hform (by simp)
  have HK : Hid (∀ W : World, Below w.heap.size w W → W.cell? ⟨g, o, none⟩ = some (.int .i64 a) ∧ W.cell? ⟨g, o + 1, none⟩ = some (.int .i64 b) ∧ W.cell? ⟨g, o + 2, none⟩ = some (.int .i64 c) ∧ W.cell? ⟨g, o + 3, none⟩ = some (.int .i64 d)) := hid (fun W hW => by
    obtain ⟨ad2, cap2, e, hform2⟩ := (HH.out.keep hW).form
    cases e
    obtain ⟨g2, o2, e2, _, hc2⟩ := hform2 (by simp)
    cases e2
    exact ⟨hc2 0 (by simp), hc2 1 (by simp), hc2 2 (by simp), hc2 3 (by simp)⟩)
  obtain ⟨k0, k1, k2, k3⟩ := HK.out w (Below.refl _ _)
  have hb := splitV_bd ok.a1 ok.a2 ok.b1 ok.b2 hx hy
  obtain ⟨ht1, ht2⟩ := along_bd ok hx hy
  have HAL : Hid (alongO a b c d x y = if splitV a b x y = 0 then some [(x : Int), (y : Int), 0, 0] else (zfindO [c, d, coreG (splitV a b x y)]).map (vec4 (rootG (splitV a b x y)) x y)) := hid rfl
  have HRT : Hid (splitV a b x y ≠ 0 → rootG (splitV a b x y) ≤ 23) := hid (fun h0 => (root_24 h0 ht1 ht2).2)
  have hx3 : (x : Int) ≤ 3 := by omega
  have hy3 : (y : Int) ≤ 3 := by omega
  have hx0 : (0 : Int) ≤ (x : Int) := by omega
  have hy0 : (0 : Int) ≤ (y : Int) := by omega
  unfold splitV at HAL ht1 ht2 HRT
  obtain ⟨X, hX⟩ : ∃ X : Int, X = (x : Int) := ⟨_, rfl⟩
  obtain ⟨Y, hY⟩ : ∃ Y : Int, Y = (y : Int) := ⟨_, rfl⟩
  rw [← hX, ← hY] at HAL ht1 ht2 HRT hb
  rw [← hX] at hx3 hx0 ⊢
  rw [← hY] at hy3 hy0 ⊢
  have HXM : Hid (∀ n : Int, -2000 ≤ n → n ≤ 2000 → -46000 ≤ X * n ∧ X * n ≤ 46000) := hid (fun n h1 h2 => by rw [hX]; exact mul_23 (by omega) h1 h2)
  have HYM : Hid (∀ n : Int, -2000 ≤ n → n ≤ 2000 → -46000 ≤ Y * n ∧ Y * n ≤ 46000) := hid (fun n h1 h2 => by rw [hY]; exact mul_23 (by omega) h1 h2)
  have w1 := wrap_4 (x := a * X) (by omega) (by omega)
  have w2 := wrap_4 (x := a * X * X) (by omega) (by omega)
  have w3 := wrap_4 (x := b * Y) (by omega) (by omega)
  have w4 := wrap_4 (x := b * Y * Y) (by omega) (by omega)
  have w5 := wrap_4 (x := a * X * X + b * Y * Y) (by omega) (by omega)
  obtain ⟨o', ho'⟩ : ∃ o', o' = alongO a b c d x y := ⟨_, rfl⟩
  rw [← ho'] at HAL ⊢
  clear h hform hc hb ok hX hY ho' hx hy
  by_cases h0 : a * X * X + b * Y * Y = 0
  · have T0 : (a * X * X + b * Y * Y == 0) = true := by rw [beq_iff_eq]; exact h0
    rw [if_pos h0] at HAL
    clear h0 HRT
    go_enter Try.func66, Try.ntmps66
    go_wp2_with fail
    go_quiet (fail)
    go_wp2_with fail
    go_ret2
    exact some_post HAL.out (below_drewN (Below.refl _ _) _) (owns_lit [X, Y, 0, 0] _ rfl (Nat.le_refl _) (by unfold maxLen; simp)) ((Below.refl _ _).alloc (Nat.le_refl _) _)
  · have T0 : (a * X * X + b * Y * Y == 0) = false := by rw [beq_eq_false_iff_ne]; exact h0
    rw [if_neg h0] at HAL
    have hr := HRT.out h0
    have HCO : Hid (∀ W, Calls Try.prog 38 #[.int .i64 (a * X * X + b * Y * Y)] W fun e w' => e = .returned (.tuple #[.int .i64 (coreG (a * X * X + b * Y * Y)), .int .i64 (rootG (a * X * X + b * Y * Y) : Nat)]) ∧ Below W.heap.size W w') := hid (fun W => numCore_any _ h0 (by omega) (by omega) W)
    obtain ⟨A, hA⟩ : ∃ A, A = coreG (a * X * X + b * Y * Y) := ⟨_, rfl⟩
    obtain ⟨r, hr'⟩ : ∃ r, r = rootG (a * X * X + b * Y * Y) := ⟨_, rfl⟩
    rw [← hA, ← hr'] at HAL HCO
    rw [← hr'] at hr
    have HZF : Hid (∀ W : World, Calls Try.prog 17 #[.slice (some ⟨W.heap.size, 0, none⟩) 3 3] (W.alloc (.cells #[.int .i64 c, .int .i64 d, .int .i64 A] 3)).drew (SearchPost (zfindO [c, d, A]) (W.alloc (.cells #[.int .i64 c, .int .i64 d, .int .i64 A] 3)).drew)) := hid (fun W => zeroFind_low _ [c, d, A] (by simp) _ (show Owns (W.alloc (.cells #[.int .i64 c, .int .i64 d, .int .i64 A] 3)).drew W.heap.size (.slice (some ⟨W.heap.size, 0, none⟩) 3 3) [c, d, A] from owns_lit (B := W.heap.size) [c, d, A] _ rfl (Nat.le_refl _) (by unfold maxLen; simp)).rd)
    have HGOT : Hid (∀ l, zfindO [c, d, A] = some l → ∃ p q s, l = [p, q, s] ∧ (-2000 ≤ p ∧ p ≤ 2000) ∧ (-2000 ≤ q ∧ q ≤ 2000) ∧ (-2000 ≤ s ∧ s ≤ 2000)) := hid (fun l hl => by
      have k := find_got hl
      have e : l.length = 3 := (zeroB_iff.1 k.zero).2.2.1
      obtain ⟨p, q, s, rfl⟩ := list_three e
      exact ⟨p, q, s, rfl, k.small p (by simp), k.small q (by simp), k.small s (by simp)⟩)
    clear h0 HRT hA hr'
    go_enter Try.func66, Try.ntmps66
    go_wp2_with fail
    go_quiet (fail)
    go_wp2_with fail
    refine (HCO.out _).mono ?_
    rintro e w6 ⟨rfl, hb6⟩
    have HB6 := hid ((below_drewN (Below.refl w.heap.size w) _).trans (hb6.mono (by simp)))
    obtain ⟨_, _, c2, c3⟩ := HK.out w6 HB6.out
    have HA7 := hid (HB6.out.alloc HB6.out.size (.cells #[.int .i64 c, .int .i64 d, .int .i64 A] 3)).drew
    obtain ⟨o2, ho2⟩ : ∃ o2, o2 = zfindO [c, d, A] := ⟨_, rfl⟩
    rw [← ho2] at HZF HAL HGOT
    clear hb6 k0 k1 k2 k3 w1 w2 w3 w4 w5 T0 ho2
    go_wp2_with fail
    cases o2 with
    | none =>
      go_region_with (go_at_call 17; refine (HZF.out _).mono ?_; rintro e w8 ⟨u, rfl, hu, hb8⟩; have hbx := HA7.out.trans (hb8.mono HA7.out.size))
      all_goals (
        go_wp2_with fail
        go_ret2
        exact none_post HAL.out hbx)
    | some l =>
      obtain ⟨p, q, s, rfl, ⟨p1, p2⟩, ⟨q1, q2⟩, ⟨s1, s2⟩⟩ := HGOT.out l rfl
      obtain ⟨x1, x2⟩ := HXM.out s s1 s2
      obtain ⟨y1, y2⟩ := HYM.out s s1 s2
      obtain ⟨u1, u2⟩ := mul_23 (u := r) (n := p) hr p1 p2
      obtain ⟨v1, v2⟩ := mul_23 (u := r) (n := q) hr q1 q2
      have w1 := wrap_4 (x := X * s) (by omega) (by omega)
      have w2 := wrap_4 (x := Y * s) (by omega) (by omega)
      have w3 := wrap_4 (x := (r : Int) * p) (by omega) (by omega)
      have w4 := wrap_4 (x := (r : Int) * q) (by omega) (by omega)
      go_region_with (go_at_call 17; refine (HZF.out _).mono ?_; rintro e w8 ⟨u, rfl, hu, hb8⟩; have hbx := HA7.out.trans (hb8.mono HA7.out.size); obtain ⟨gz, zcap, rfl, hz1, hz2⟩ := hu.block_of (Nat.succ_pos _); have z0 : w8.cell? ⟨gz, 0, none⟩ = some (.int .i64 p) := hu.elem (i := 0) (show 0 < 3 by decide); have z1 : w8.cell? ⟨gz, 1, none⟩ = some (.int .i64 q) := hu.elem (i := 1) (show 1 < 3 by decide); have z2 : w8.cell? ⟨gz, 2, none⟩ = some (.int .i64 s) := hu.elem (i := 2) (show 2 < 3 by decide))
      all_goals (
        go_wp2_with fail
        go_quiet (fail)
        go_wp2_with fail
        go_ret2
        exact some_post HAL.out (below_drewN hbx _) (owns_lit [X * s, Y * s, (r : Int) * p, (r : Int) * q] _ rfl (Nat.le_refl _) (by unfold maxLen; simp)) ((Below.refl _ _).alloc (Nat.le_refl _) _))

end Go.Proofs.Ytenibnblibnocac
