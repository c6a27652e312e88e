/-
  Some texts in one file: Zm4 Zm5.
-/
import Derived.Test.YtenibnblibnocacQBun33
import Derived.Deep.LoopGhost
/-! Zm4 -/
set_option linter.unusedVariables false
namespace Go.Proofs.Ytenibnblibnocac
open Go.RowKit

def nrm1 (x : Int) : Bool := !(x == 0) && (inR x (-30000) 30000 && decide (rootG x = 1))
theorem nrm1_iff {x : Int} : nrm1 x = true ↔ x ≠ 0 ∧ (-30000 ≤ x ∧ x ≤ 30000) ∧ rootG x = 1 := by
  unfold nrm1 inR
  rw [Bool.and_eq_true, Bool.and_eq_true, Bool.and_eq_true, Bool.not_eq_true', beq_eq_false_iff_ne, decide_eq_true_eq, decide_eq_true_eq, decide_eq_true_eq]
theorem nrmB_all {xs : List Int} (h : nrmB xs = true) : (∀ x ∈ xs, nrm1 x = true) ∧ (prodI xs).natAbs ≤ 30000 := by
  unfold nrmB at h
  rw [Bool.and_eq_true, Bool.and_eq_true, Bool.and_eq_true, decide_eq_true_eq, decide_eq_true_eq, decide_eq_true_eq] at h
  exact ⟨List.all_eq_true.1 h.2.1, h.2.2.1⟩
theorem nrmB_term {xs : List Int} {x : Int} (hm : x ∈ xs) (h : nrm1 x = false) : nrmB xs = false := by
  cases hb : nrmB xs with
  | false => rfl
  | true =>
    have := (nrmB_all hb).1 x hm
    rw [h] at this
    cases this
theorem prod_part {xs : List Int} (h : ∀ x ∈ xs, x ≠ 0) (K : Nat) : (prodI (xs.take K)).natAbs ≤ (prodI xs).natAbs := by
  have e : prodI xs = prodI (xs.take K) * prodI (xs.drop K) := by rw [← prodI_app, List.take_append_drop]
  have h2 : prodI (xs.drop K) ≠ 0 := prodI_ne fun x hx => h x (List.mem_of_mem_drop hx)
  rw [e, Int.natAbs_mul]
  exact Nat.le_mul_of_pos_right _ (by omega)
theorem nrmB_prod {xs : List Int} {K : Nat} (h : 30000 < (prodI (xs.take K)).natAbs) : nrmB xs = false := by
  cases hb : nrmB xs with
  | false => rfl
  | true =>
    obtain ⟨h1, h2⟩ := nrmB_all hb
    have := prod_part (fun x hx => (nrm1_iff.1 (h1 x hx)).1) K
    omega
theorem nrmB_end {a b c : Int} (h : ∀ i, i < 3 → nrm1 ([a, b, c].getD i 0) = true) (hp : (prodI [a, b, c]).natAbs ≤ 30000) : nrmB [a, b, c] = decide (twoD a b c = 1) := by
  have h0 : nrm1 a = true := h 0 (by omega)
  have h1 : nrm1 b = true := h 1 (by omega)
  have h2 : nrm1 c = true := h 2 (by omega)
  have e : nrmB [a, b, c] = (decide (([a, b, c] : List Int).length = 3) && ((nrm1 a && (nrm1 b && (nrm1 c && true))) && (decide ((prodI [a, b, c]).natAbs ≤ 30000) && decide (twoD a b c = 1)))) := rfl
  rw [e, h0, h1, h2, decide_eq_true hp]
  rfl
theorem nrmB_lim {xs : List Int} (h : nrmB xs = true) : ∃ a b c, xs = [a, b, c] ∧ (T3.of xs).Lim := by
  by_cases hl : xs.length = 3
  · obtain ⟨a, b, c, rfl⟩ := list_three hl
    have hn := nrmB_iff.1 h
    refine ⟨a, b, c, rfl, T3.lim_of (t := ⟨a, b, c⟩) hn.1 ?_⟩
    have := hn.2.2.2.1
    rw [Int.natAbs_mul, Int.natAbs_mul] at this
    exact this
  · rw [nrm_len hl] at h; cases h



end Go.Proofs.Ytenibnblibnocac

/-! Zm5 -/
set_option linter.unusedVariables false
namespace Go.Proofs.Ytenibnblibnocac
open Go.RowKit

/-- a list that owns its memory apart from one block -/
def Apart (v : Value) (g : Nat) : Prop := ∀ k, v.ownBlock = some k → k ≠ g
theorem root_le {x : Int} (h0 : x ≠ 0) (h1 : -30 ≤ x) (h2 : x ≤ 30) : rootG x ≤ 5 := by
  obtain ⟨c0, e, _, _, r1⟩ := core_small h0
  refine Classical.byContradiction fun h => ?_
  have h3 := Nat.mul_le_mul (show 6 ≤ rootG x by omega) (show 6 ≤ rootG x by omega)
  have h4 := Nat.le_mul_of_pos_left (rootG x * rootG x) (show 0 < (coreG x).natAbs by omega)
  omega
theorem rr_le {r s : Nat} (hr : r ≤ 5) (hs : s ≤ 5) : 0 ≤ (r : Int) * s ∧ (r : Int) * s ≤ 25 := by
  have h := Nat.mul_le_mul hr hs
  have e : (r : Int) * s = ((r * s : Nat) : Int) := by push_cast; rfl
  rw [e]; omega
theorem norm_step {f : Nat} {t : T3} (h : twoD t.a t.b t.c ≠ 1) : normT (f + 1) t = normT f (stepI t) := by
  show (if twoD t.a t.b t.c = 1 then t else normT f (stepI t)) = _
  rw [if_neg h]
theorem normM_step {f : Nat} {t m : T3} (h : twoD t.a t.b t.c ≠ 1) : normM (f + 1) t m = normM f (stepI t) (stepM t m) := by
  show (if twoD t.a t.b t.c = 1 then m else normM f (stepI t) (stepM t m)) = _
  rw [if_neg h]
theorem norm_stop : ∀ {f : Nat} {t : T3}, twoD t.a t.b t.c = 1 → normT f t = t
  | 0, _, _ => rfl
  | f + 1, t, h => by show (if twoD t.a t.b t.c = 1 then t else _) = t; rw [if_pos h]
theorem normM_stop : ∀ {f : Nat} {t m : T3}, twoD t.a t.b t.c = 1 → normM f t m = m
  | 0, _, _, _ => rfl
  | f + 1, t, m, h => by show (if twoD t.a t.b t.c = 1 then m else _) = m; rw [if_pos h]
/-- what the descent keeps -/
structure Desc (N M : T3) (f : Nat) (t m : T3) : Prop where
  eqn : N = normT f t
  eqm : M = normM f t m
  two : twoD N.a N.b N.c = 1
  nz : t.nz
  prod : t.prod ≤ 27000
  inv : MInv 900 t m
theorem Desc.step {N M : T3} {f : Nat} {t m : T3} (h : Desc N M f t m) (h1 : twoD t.a t.b t.c ≠ 1) : ∃ f', f = f' + 1 ∧ Desc N M f' (stepI t) (stepM t m) := by
  cases f with
  | zero =>
    have := h.two
    rw [h.eqn] at this
    exact absurd this h1
  | succ f =>
    refine ⟨f, rfl, h.eqn.trans (norm_step h1), h.eqm.trans (normM_step h1), h.two, (step_ok h.nz h1).1, ?_, step_minv h1 h.inv⟩
    obtain ⟨h2, h3⟩ := step_prod h1
    have h4 := Nat.le_mul_of_pos_right (stepI t).prod (show 0 < twoD t.a t.b t.c by omega)
    exact Nat.le_trans h4 (Nat.le_trans h2 h.prod)
theorem Desc.stop {N M : T3} {f : Nat} {t m : T3} (h : Desc N M f t m) (h1 : twoD t.a t.b t.c = 1) : N = t ∧ M = m := ⟨h.eqn.trans (norm_stop h1), h.eqm.trans (normM_stop h1)⟩
theorem Ok3.desc {a b c : Int} (h : Ok3 a b c) : Desc (nT a b c) (nM a b c) 20 (coreT a b c) (rootM a b c) :=
  ⟨rfl, rfl, h.nrm.two, h.small.nz, Nat.le_trans h.prod.1 h.prod.2, h.minv⟩
theorem m_le {K m p : Nat} (hp : 1 ≤ p) (h : m * m * p ≤ K) (hK : K ≤ 900) : m ≤ 30 := by
  refine Classical.byContradiction fun h2 => ?_
  have h3 := Nat.mul_le_mul (show 31 ≤ m by omega) (show 31 ≤ m by omega)
  have h4 := Nat.le_mul_of_pos_right (m * m) (show 0 < p by omega)
  omega
theorem MInv.le {t m : T3} (h : MInv 900 t m) (ht : t.nz) : (1 ≤ m.a ∧ m.a ≤ 30) ∧ (1 ≤ m.b ∧ m.b ≤ 30) ∧ (1 ≤ m.c ∧ m.c ≤ 30) := by
  obtain ⟨h1, h2, h3, h4, h5, h6⟩ := h
  obtain ⟨ta, tb, tc⟩ := ht
  have pos : ∀ x y : Int, x ≠ 0 → y ≠ 0 → 1 ≤ x.natAbs * y.natAbs := fun x y hx hy => Nat.mul_pos (by omega) (by omega)
  have a1 := m_le (pos _ _ tb tc) h4 (Nat.le_refl _)
  have b1 := m_le (pos _ _ ta tc) h5 (Nat.le_refl _)
  have c1 := m_le (pos _ _ ta tb) h6 (Nat.le_refl _)
  omega
theorem T3.le {t : T3} (h : t.nz) (hp : t.prod ≤ 27000) : (-27000 ≤ t.a ∧ t.a ≤ 27000) ∧ (-27000 ≤ t.b ∧ t.b ≤ 27000) ∧ (-27000 ≤ t.c ∧ t.c ≤ 27000) := by
  obtain ⟨h1, h2, h3, _⟩ := T3.bd h hp
  omega
theorem tdiv_le {x : Int} {p : Nat} (h1 : -27000 ≤ x) (h2 : x ≤ 27000) : -27000 ≤ x.tdiv (p : Int) ∧ x.tdiv (p : Int) ≤ 27000 := by
  have : (x.tdiv (p : Int)).natAbs ≤ 27000 := by
    rw [Int.natAbs_tdiv]
    exact Nat.le_trans (Nat.div_le_self _ _) (by omega)
  omega
theorem mulp_le {x : Int} {p : Nat} (h1 : -27000 ≤ x) (h2 : x ≤ 27000) (hp : p ≤ 27000) : -729000000 ≤ x * (p : Int) ∧ x * (p : Int) ≤ 729000000 := by
  have : (x * (p : Int)).natAbs ≤ 27000 * 27000 := by rw [Int.natAbs_mul, Int.natAbs_natCast]; exact Nat.mul_le_mul (by omega) hp
  omega
theorem step_k2 {t m : T3} (h : twoK t.a t.b t.c = 2) : stepI t = ⟨t.a.tdiv (twoD t.a t.b t.c), t.b.tdiv (twoD t.a t.b t.c), thirdI t.c (twoD t.a t.b t.c)⟩ ∧ stepM t m = ⟨m.a, m.b, thirdM t.c (twoD t.a t.b t.c) m.c⟩ := by
  unfold stepI stepM; rw [if_pos h, if_pos h]; exact ⟨rfl, rfl⟩
theorem step_k1 {t m : T3} (h : twoK t.a t.b t.c = 1) : stepI t = ⟨t.a.tdiv (twoD t.a t.b t.c), thirdI t.b (twoD t.a t.b t.c), t.c.tdiv (twoD t.a t.b t.c)⟩ ∧ stepM t m = ⟨m.a, thirdM t.b (twoD t.a t.b t.c) m.b, m.c⟩ := by
  have h2 : ¬ twoK t.a t.b t.c = 2 := by omega
  unfold stepI stepM; rw [if_neg h2, if_neg h2, if_pos h, if_pos h]; exact ⟨rfl, rfl⟩
theorem step_k0 {t m : T3} (h : twoK t.a t.b t.c = 0) : stepI t = ⟨thirdI t.a (twoD t.a t.b t.c), t.b.tdiv (twoD t.a t.b t.c), t.c.tdiv (twoD t.a t.b t.c)⟩ ∧ stepM t m = ⟨thirdM t.a (twoD t.a t.b t.c) m.a, m.b, m.c⟩ := by
  have h2 : ¬ twoK t.a t.b t.c = 2 := by omega
  have h1 : ¬ twoK t.a t.b t.c = 1 := by omega
  unfold stepI stepM; rw [if_neg h2, if_neg h2, if_neg h1, if_neg h1]; exact ⟨rfl, rfl⟩
theorem two_le {t : T3} (h : t.nz) (hp : t.prod ≤ 27000) : twoD t.a t.b t.c ≤ 27000 := by
  obtain ⟨⟨a1, a2⟩, ⟨b1, b2⟩, c1, c2⟩ := T3.le h hp
  obtain ⟨ta, tb, tc⟩ := h
  have D : ∀ {p : Nat} {x : Int}, (p : Int) ∣ x → x ≠ 0 → -27000 ≤ x → x ≤ 27000 → p ≤ 27000 := fun {p x} hd h0 h1 h2 => by
    have := Nat.le_of_dvd (by omega) (Int.ofNat_dvd_left.1 hd)
    omega
  rcases two_cases t.a t.b t.c with ⟨e, _⟩ | ⟨_, ⟨_, h1, _⟩ | ⟨_, h1, _⟩ | ⟨_, h1, _⟩⟩
  · omega
  · exact D h1 ta a1 a2
  · exact D h1 ta a1 a2
  · exact D h1 tb b1 b2

/-- what the rounds of the descent keep in memory -/
def NormRel (a b c : Int) (w : World) (gt ct gm cm : Nat) (f : Nat) (sp sk : Value) (wr : World) : Prop :=
  ∃ t m : T3, sp = .int .i64 (twoD t.a t.b t.c : Nat) ∧ sk = .int .i64 (twoK t.a t.b t.c : Nat) ∧ Hid (Desc (nT a b c) (nM a b c) f t m) ∧ Hid (Owns wr w.heap.size (.slice (some ⟨gt, 0, none⟩) 3 ct) t.toL) ∧ Hid (Owns wr w.heap.size (.slice (some ⟨gm, 0, none⟩) 3 cm) m.toL) ∧ Hid (Below w.heap.size w wr)
set_option maxRecDepth 100000 in
set_option maxHeartbeats 8000000 in
theorem l5Normal_any (v : Value) (a b c : Int) (ok : Ok3 a b c) (w : World) (h : Rd w v [a, b, c]) : Calls Try.prog 33 #[v] w fun e w' => ∃ u z, e = .returned (.tuple #[u, z]) ∧ Owns w' w.heap.size u (nT a b c).toL ∧ Owns w' w.heap.size z (nM a b c).toL ∧ (∃ g k, u.ownBlock = some g ∧ z.ownBlock = some k ∧ g ≠ k) ∧ Below w.heap.size w w' := by
  obtain ⟨i0, hi, hz0, hz1, hz2⟩ := info_parts infoInt
  obtain ⟨wr0, wr1, wr2, wr3, wr4⟩ := wrap5
  have HH := hid h
  have HOK := hid ok
  have HA0 := hid ok.a0
  have HB0 := hid ok.b0
  have HC0 := hid ok.c0
  have a1 := ok.a1
  have a2 := ok.a2
  have b1 := ok.b1
  have b2 := ok.b2
  have c1 := ok.c1
  have c2 := ok.c2
  have ra := root_le ok.a0 a1 a2
  have rb := root_le ok.b0 b1 b2
  have rc := root_le ok.c0 c1 c2
  have ca := (core_small ok.a0).2.2.1
  have cb := (core_small ok.b0).2.2.1
  have cc := (core_small ok.c0).2.2.1
  have EM : Hid (rootM a b c = ⟨(rootG b : Int) * rootG c, (rootG a : Int) * rootG c, (rootG a : Int) * rootG b⟩) := hid rfl
  have ET : Hid (coreT a b c = ⟨coreG a, coreG b, coreG c⟩) := hid rfl
  obtain ⟨A, hA⟩ : ∃ A, A = coreG a := ⟨_, rfl⟩
  obtain ⟨B, hB⟩ : ∃ B, B = coreG b := ⟨_, rfl⟩
  obtain ⟨C, hC⟩ : ∃ C, C = coreG c := ⟨_, rfl⟩
  obtain ⟨r, hr⟩ : ∃ r, r = rootG a := ⟨_, rfl⟩
  obtain ⟨s, hs⟩ : ∃ s, s = rootG b := ⟨_, rfl⟩
  obtain ⟨q, hq⟩ : ∃ q, q = rootG c := ⟨_, rfl⟩
  have QA := hid hA.symm
  have QB := hid hB.symm
  have QC := hid hC.symm
  have QR := hid hr.symm
  have QS := hid hs.symm
  have QQ := hid hq.symm
  rw [← hA] at ca ET
  rw [← hB] at cb ET
  rw [← hC] at cc ET
  rw [← hr] at ra EM
  rw [← hs] at rb EM
  rw [← hq] at rc EM
  have rs := rr_le ra rb
  have rq := rr_le ra rc
  have sq := rr_le rb rc
  have rs1 := rs.1
  have rs2 := rs.2
  have rq1 := rq.1
  have rq2 := rq.2
  have sq1 := sq.1
  have sq2 := sq.2
  obtain ⟨gv, ov, cap, rfl, k0, k1, k2⟩ := rd_three h
  have HK : Hid (∀ W : World, Below w.heap.size w W → W.cell? ⟨gv, ov, none⟩ = some (.int .i64 a) ∧ W.cell? ⟨gv, ov + 1, none⟩ = some (.int .i64 b) ∧ W.cell? ⟨gv, ov + 2, none⟩ = some (.int .i64 c)) := hid (fun W hW => by
    obtain ⟨g2, o2, cap2, e, j0, j1, j2⟩ := rd_three (HH.out.keep hW)
    cases e
    exact ⟨j0, j1, j2⟩)
  have hb0 : Below w.heap.size w ((w.alloc (.cells #[] 3)).alloc (.cells #[.int .i64 1, .int .i64 1, .int .i64 1] 3)) := ((Below.refl _ _).alloc (Nat.le_refl _) _).alloc (by simp) _
  have ho0 : Owns ((w.alloc (.cells #[] 3)).alloc (.cells #[.int .i64 1, .int .i64 1, .int .i64 1] 3)) w.heap.size (.slice (some ⟨w.heap.size, 0, none⟩) 0 0) [] := by
    have : Owns (w.alloc (.cells #[] 3)) w.heap.size (.slice (some ⟨w.heap.size, 0, none⟩) 0 0) [] := World.ownsRow_made (size := 1) w #[] 0 (Nat.le_refl _) (by unfold maxLen; omega) rfl
    exact this.alloc _
  have hm0 : Owns ((w.alloc (.cells #[] 3)).alloc (.cells #[.int .i64 1, .int .i64 1, .int .i64 1] 3)) w.heap.size (.slice (some ⟨w.heap.size + 1, 0, none⟩) 3 3) [1, 1, 1] := by
    have := owns_lit (W := w.alloc (.cells #[] 3)) (B := w.heap.size) [1, 1, 1] _ rfl (by simp) (by unfold maxLen; simp)
    simpa using this
  have HB00 := hid hb0
  have HO00 := hid ho0
  have HM00 := hid hm0
  clear h ok hA hB hC hr hs hq rs rq sq hb0 ho0 hm0
  go_enter Try.func33, Try.ntmps33
  go_wp2_with fail
  go_loopw [4, 6] (fun sst si wr => ∃ (K : Nat) (L Z : List Int) (st : Value), st = sst ∧ si = .int .i64 K ∧ ((K = 0 ∧ L = [] ∧ Z = [1, 1, 1]) ∨ (K = 1 ∧ L = [A] ∧ Z = [1, (r : Int), (r : Int)]) ∨ (K = 2 ∧ L = [A, B] ∧ Z = [(s : Int), (r : Int), (r : Int) * s]) ∨ (K = 3 ∧ L = [A, B, C] ∧ Z = [(s : Int) * q, (r : Int) * q, (r : Int) * s])) ∧ Hid (Owns wr w.heap.size st L) ∧ Hid (Apart st (w.heap.size + 1)) ∧ Hid (Owns wr w.heap.size (.slice (some ⟨w.heap.size + 1, 0, none⟩) 3 3) Z) ∧ Hid (Below w.heap.size w wr)) (fun _ si _ => 3 - (intOf si).toNat)
  case atStart => exact ⟨0, [], [1, 1, 1], _, rfl, rfl, .inl ⟨rfl, rfl, rfl⟩, HO00, hid (fun k e => by have : k = w.heap.size := (Option.some.inj e).symm; omega), HM00, HB00⟩
  case round =>
    obtain ⟨K, L, Z, st, rfl, rfl, hK, HO, HAP, HM, HB⟩ := hrel
    rename World => wr
    have hsz := HB.out.size
    have hgm := HM.out.lt (w.heap.size + 1) rfl
    obtain ⟨j0, j1, j2⟩ := HK.out wr HB.out
    rcases hK with ⟨rfl, hL, rfl⟩ | ⟨rfl, hL, rfl⟩ | ⟨rfl, hL, rfl⟩ | ⟨rfl, rfl, rfl⟩
    · have hll : L.length = 0 := by rw [hL]; rfl
      have HL := hid hL
      have FACT : ∀ (v' : Value) (w3 : World), w3.ownsRow w.heap.size 3 1 v' (L.length + 1) (L.map (Value.int .i64) ++ [.int .i64 A]) → (wr.alloc (.cells #[.int .i64 A] 3)).grownBy w3 st.ownBlock → (v'.ownBlock = st.ownBlock ∨ v'.ownBlock = some (wr.alloc (.cells #[.int .i64 A] 3)).heap.size) →
          w3.cell? ⟨w.heap.size + 1, 1, none⟩ = some (.int .i64 (1)) ∧ w3.frozen? ⟨w.heap.size + 1, 1, none⟩ = false ∧ (w3.setCell ⟨w.heap.size + 1, 1, none⟩ (.int .i64 ((r : Int)))).cell? ⟨w.heap.size + 1, 2, none⟩ = some (.int .i64 (1)) ∧ (w3.setCell ⟨w.heap.size + 1, 1, none⟩ (.int .i64 ((r : Int)))).frozen? ⟨w.heap.size + 1, 2, none⟩ = false ∧ w.heap.size + 1 < w3.heap.size ∧ Hid (Owns ((w3.setCell ⟨w.heap.size + 1, 1, none⟩ (.int .i64 ((r : Int)))).setCell ⟨w.heap.size + 1, 2, none⟩ (.int .i64 ((r : Int)))) w.heap.size v' [A]) ∧ Hid (Apart v' (w.heap.size + 1)) ∧ Hid (Owns ((w3.setCell ⟨w.heap.size + 1, 1, none⟩ (.int .i64 ((r : Int)))).setCell ⟨w.heap.size + 1, 2, none⟩ (.int .i64 ((r : Int)))) w.heap.size (.slice (some ⟨w.heap.size + 1, 0, none⟩) 3 3) [1, (r : Int), (r : Int)]) ∧ Hid (Below w.heap.size w ((w3.setCell ⟨w.heap.size + 1, 1, none⟩ (.int .i64 ((r : Int)))).setCell ⟨w.heap.size + 1, 2, none⟩ (.int .i64 ((r : Int))))) := fun v' w3 hown' hgrow hat => by
        have hsg := hgrow.size
        simp only [World.size_alloc] at hsg
        have HO2' : Owns w3 w.heap.size v' (L ++ [A]) := by unfold Owns; simpa using hown'
        have HO2 : Owns w3 w.heap.size v' [A] := by have h := HO2'; rw [hL] at h; exact h
        have HAP2 : Apart v' (w.heap.size + 1) := fun k e => by
          rcases hat with h | h
          · exact HAP.out k (h.symm.trans e)
          · have : k = (wr.alloc (.cells #[.int .i64 A] 3)).heap.size := Option.some.inj (e.symm.trans h)
            rw [this]; simp; omega
        have HM2 : Owns w3 w.heap.size (.slice (some ⟨w.heap.size + 1, 0, none⟩) 3 3) [1, 1, 1] := (World.ownsRow.kept (show World.ownsRow _ _ _ _ _ _ _ from HM.out.alloc (.cells #[.int .i64 A] 3)) hgrow (.inr (fun e2 => HAP.out (w.heap.size + 1) e2.symm rfl)))
        have HB2 := (HB.out.alloc hsz (.cells #[.int .i64 A] 3)).grown hgrow (by simp; omega) (fun k e => (HO.out.ge k e))
        have q1 : w3.cell? ⟨w.heap.size + 1, 1, none⟩ = some (.int .i64 (1)) := HM2.elem (i := 1) (by simp)
        have f1 := HM2.thaw 1
        have HS1 := HM2.storeAt 1 ((r : Int))
        have HM3 : Owns (w3.setCell ⟨w.heap.size + 1, 1, none⟩ (.int .i64 ((r : Int)))) w.heap.size (.slice (some ⟨w.heap.size + 1, 0, none⟩) 3 3) [1, (r : Int), 1] := HS1.1
        have q2 : (w3.setCell ⟨w.heap.size + 1, 1, none⟩ (.int .i64 ((r : Int)))).cell? ⟨w.heap.size + 1, 2, none⟩ = some (.int .i64 (1)) := HM3.elem (i := 2) (by simp)
        have f2 := HM3.thaw 2
        have HS2 := HM3.storeAt 2 ((r : Int))
        have HM4 : Owns ((w3.setCell ⟨w.heap.size + 1, 1, none⟩ (.int .i64 ((r : Int)))).setCell ⟨w.heap.size + 1, 2, none⟩ (.int .i64 ((r : Int)))) w.heap.size (.slice (some ⟨w.heap.size + 1, 0, none⟩) 3 3) [1, (r : Int), (r : Int)] := HS2.1
        have HO4 := (HO2.other HS1.2 HAP2).other HS2.2 HAP2
        have HB3 := HB2.grown HS1.2 HB2.size (fun k e => by cases e; omega)
        have HB4 := HB3.grown HS2.2 HB3.size (fun k e => by cases e; omega)
        exact ⟨q1, f1, q2, f2, by omega, hid HO4, hid HAP2, hid HM4, hid HB4⟩
      have HF := hid FACT
      clear hL FACT
      go_wp2_with (first | (go_at_call 51; refine (l1CoreG_any _ HA0.out (by omega) (by omega) _).mono ?_; rw [QA.out, QR.out]; rintro e w' ⟨rfl, rfl⟩) | (at_builtin; refine wpList_append_own_at _ rfl _ _ 23 rfl w.heap.size 3 i0 (.int .i64 0) 1 8 Try.underlying23 hi hz0 hz1 hz2 rfl (by decide) _ _ _ rfl ((show World.ownsRow _ _ _ _ _ _ _ from HO.out).alloc _) ⟨wr.heap.size, 0, none⟩ 1 1 [.int .i64 A] rfl rfl (cell_one_new _ _ _) (by simp [Value.oneCell']) (by unfold maxLen; omega) (by omega) (by simp; omega) ?_; intro v' w3 hown' hgrow _ hat; obtain ⟨q1, f1, q2, f2, hgl3, HO4, HAP2, HM4, HB4⟩ := HF.out _ _ hown' hgrow hat; clear hown' hgrow hat))
      go_roundw
      case measure => simp only [intOf]; omega
      case rel => exact ⟨1, [A], [1, (r : Int), (r : Int)], _, rfl, by first | rfl | go_num, .inr (.inl ⟨rfl, rfl, rfl⟩), HO4, HAP2, HM4, HB4⟩
    · have hll : L.length = 1 := by rw [hL]; rfl
      have HL := hid hL
      have FACT : ∀ (v' : Value) (w3 : World), w3.ownsRow w.heap.size 3 1 v' (L.length + 1) (L.map (Value.int .i64) ++ [.int .i64 B]) → (wr.alloc (.cells #[.int .i64 B] 3)).grownBy w3 st.ownBlock → (v'.ownBlock = st.ownBlock ∨ v'.ownBlock = some (wr.alloc (.cells #[.int .i64 B] 3)).heap.size) →
          w3.cell? ⟨w.heap.size + 1, 2, none⟩ = some (.int .i64 ((r : Int))) ∧ w3.frozen? ⟨w.heap.size + 1, 2, none⟩ = false ∧ (w3.setCell ⟨w.heap.size + 1, 2, none⟩ (.int .i64 ((r : Int) * s))).cell? ⟨w.heap.size + 1, 0, none⟩ = some (.int .i64 (1)) ∧ (w3.setCell ⟨w.heap.size + 1, 2, none⟩ (.int .i64 ((r : Int) * s))).frozen? ⟨w.heap.size + 1, 0, none⟩ = false ∧ w.heap.size + 1 < w3.heap.size ∧ Hid (Owns ((w3.setCell ⟨w.heap.size + 1, 2, none⟩ (.int .i64 ((r : Int) * s))).setCell ⟨w.heap.size + 1, 0, none⟩ (.int .i64 ((s : Int)))) w.heap.size v' [A, B]) ∧ Hid (Apart v' (w.heap.size + 1)) ∧ Hid (Owns ((w3.setCell ⟨w.heap.size + 1, 2, none⟩ (.int .i64 ((r : Int) * s))).setCell ⟨w.heap.size + 1, 0, none⟩ (.int .i64 ((s : Int)))) w.heap.size (.slice (some ⟨w.heap.size + 1, 0, none⟩) 3 3) [(s : Int), (r : Int), (r : Int) * s]) ∧ Hid (Below w.heap.size w ((w3.setCell ⟨w.heap.size + 1, 2, none⟩ (.int .i64 ((r : Int) * s))).setCell ⟨w.heap.size + 1, 0, none⟩ (.int .i64 ((s : Int))))) := fun v' w3 hown' hgrow hat => by
        have hsg := hgrow.size
        simp only [World.size_alloc] at hsg
        have HO2' : Owns w3 w.heap.size v' (L ++ [B]) := by unfold Owns; simpa using hown'
        have HO2 : Owns w3 w.heap.size v' [A, B] := by have h := HO2'; rw [hL] at h; exact h
        have HAP2 : Apart v' (w.heap.size + 1) := fun k e => by
          rcases hat with h | h
          · exact HAP.out k (h.symm.trans e)
          · have : k = (wr.alloc (.cells #[.int .i64 B] 3)).heap.size := Option.some.inj (e.symm.trans h)
            rw [this]; simp; omega
        have HM2 : Owns w3 w.heap.size (.slice (some ⟨w.heap.size + 1, 0, none⟩) 3 3) [1, (r : Int), (r : Int)] := (World.ownsRow.kept (show World.ownsRow _ _ _ _ _ _ _ from HM.out.alloc (.cells #[.int .i64 B] 3)) hgrow (.inr (fun e2 => HAP.out (w.heap.size + 1) e2.symm rfl)))
        have HB2 := (HB.out.alloc hsz (.cells #[.int .i64 B] 3)).grown hgrow (by simp; omega) (fun k e => (HO.out.ge k e))
        have q1 : w3.cell? ⟨w.heap.size + 1, 2, none⟩ = some (.int .i64 ((r : Int))) := HM2.elem (i := 2) (by simp)
        have f1 := HM2.thaw 2
        have HS1 := HM2.storeAt 2 ((r : Int) * s)
        have HM3 : Owns (w3.setCell ⟨w.heap.size + 1, 2, none⟩ (.int .i64 ((r : Int) * s))) w.heap.size (.slice (some ⟨w.heap.size + 1, 0, none⟩) 3 3) [1, (r : Int), (r : Int) * s] := HS1.1
        have q2 : (w3.setCell ⟨w.heap.size + 1, 2, none⟩ (.int .i64 ((r : Int) * s))).cell? ⟨w.heap.size + 1, 0, none⟩ = some (.int .i64 (1)) := HM3.elem (i := 0) (by simp)
        have f2 := HM3.thaw 0
        have HS2 := HM3.storeAt 0 ((s : Int))
        have HM4 : Owns ((w3.setCell ⟨w.heap.size + 1, 2, none⟩ (.int .i64 ((r : Int) * s))).setCell ⟨w.heap.size + 1, 0, none⟩ (.int .i64 ((s : Int)))) w.heap.size (.slice (some ⟨w.heap.size + 1, 0, none⟩) 3 3) [(s : Int), (r : Int), (r : Int) * s] := HS2.1
        have HO4 := (HO2.other HS1.2 HAP2).other HS2.2 HAP2
        have HB3 := HB2.grown HS1.2 HB2.size (fun k e => by cases e; omega)
        have HB4 := HB3.grown HS2.2 HB3.size (fun k e => by cases e; omega)
        exact ⟨q1, f1, q2, f2, by omega, hid HO4, hid HAP2, hid HM4, hid HB4⟩
      have HF := hid FACT
      clear hL FACT
      go_wp2_with (first | (go_at_call 51; refine (l1CoreG_any _ HB0.out (by omega) (by omega) _).mono ?_; rw [QB.out, QS.out]; rintro e w' ⟨rfl, rfl⟩) | (at_builtin; refine wpList_append_own_at _ rfl _ _ 23 rfl w.heap.size 3 i0 (.int .i64 0) 1 8 Try.underlying23 hi hz0 hz1 hz2 rfl (by decide) _ _ _ rfl ((show World.ownsRow _ _ _ _ _ _ _ from HO.out).alloc _) ⟨wr.heap.size, 0, none⟩ 1 1 [.int .i64 B] rfl rfl (cell_one_new _ _ _) (by simp [Value.oneCell']) (by unfold maxLen; omega) (by omega) (by simp; omega) ?_; intro v' w3 hown' hgrow _ hat; obtain ⟨q1, f1, q2, f2, hgl3, HO4, HAP2, HM4, HB4⟩ := HF.out _ _ hown' hgrow hat; clear hown' hgrow hat))
      go_roundw
      case measure => simp only [intOf]; omega
      case rel => exact ⟨2, [A, B], [(s : Int), (r : Int), (r : Int) * s], _, rfl, by first | rfl | go_num, .inr (.inr (.inl ⟨rfl, rfl, rfl⟩)), HO4, HAP2, HM4, HB4⟩
    · have hll : L.length = 2 := by rw [hL]; rfl
      have HL := hid hL
      have FACT : ∀ (v' : Value) (w3 : World), w3.ownsRow w.heap.size 3 1 v' (L.length + 1) (L.map (Value.int .i64) ++ [.int .i64 C]) → (wr.alloc (.cells #[.int .i64 C] 3)).grownBy w3 st.ownBlock → (v'.ownBlock = st.ownBlock ∨ v'.ownBlock = some (wr.alloc (.cells #[.int .i64 C] 3)).heap.size) →
          w3.cell? ⟨w.heap.size + 1, 0, none⟩ = some (.int .i64 ((s : Int))) ∧ w3.frozen? ⟨w.heap.size + 1, 0, none⟩ = false ∧ (w3.setCell ⟨w.heap.size + 1, 0, none⟩ (.int .i64 ((s : Int) * q))).cell? ⟨w.heap.size + 1, 1, none⟩ = some (.int .i64 ((r : Int))) ∧ (w3.setCell ⟨w.heap.size + 1, 0, none⟩ (.int .i64 ((s : Int) * q))).frozen? ⟨w.heap.size + 1, 1, none⟩ = false ∧ w.heap.size + 1 < w3.heap.size ∧ Hid (Owns ((w3.setCell ⟨w.heap.size + 1, 0, none⟩ (.int .i64 ((s : Int) * q))).setCell ⟨w.heap.size + 1, 1, none⟩ (.int .i64 ((r : Int) * q))) w.heap.size v' [A, B, C]) ∧ Hid (Apart v' (w.heap.size + 1)) ∧ Hid (Owns ((w3.setCell ⟨w.heap.size + 1, 0, none⟩ (.int .i64 ((s : Int) * q))).setCell ⟨w.heap.size + 1, 1, none⟩ (.int .i64 ((r : Int) * q))) w.heap.size (.slice (some ⟨w.heap.size + 1, 0, none⟩) 3 3) [(s : Int) * q, (r : Int) * q, (r : Int) * s]) ∧ Hid (Below w.heap.size w ((w3.setCell ⟨w.heap.size + 1, 0, none⟩ (.int .i64 ((s : Int) * q))).setCell ⟨w.heap.size + 1, 1, none⟩ (.int .i64 ((r : Int) * q)))) := fun v' w3 hown' hgrow hat => by
        have hsg := hgrow.size
        simp only [World.size_alloc] at hsg
        have HO2' : Owns w3 w.heap.size v' (L ++ [C]) := by unfold Owns; simpa using hown'
        have HO2 : Owns w3 w.heap.size v' [A, B, C] := by have h := HO2'; rw [hL] at h; exact h
        have HAP2 : Apart v' (w.heap.size + 1) := fun k e => by
          rcases hat with h | h
          · exact HAP.out k (h.symm.trans e)
          · have : k = (wr.alloc (.cells #[.int .i64 C] 3)).heap.size := Option.some.inj (e.symm.trans h)
            rw [this]; simp; omega
        have HM2 : Owns w3 w.heap.size (.slice (some ⟨w.heap.size + 1, 0, none⟩) 3 3) [(s : Int), (r : Int), (r : Int) * s] := (World.ownsRow.kept (show World.ownsRow _ _ _ _ _ _ _ from HM.out.alloc (.cells #[.int .i64 C] 3)) hgrow (.inr (fun e2 => HAP.out (w.heap.size + 1) e2.symm rfl)))
        have HB2 := (HB.out.alloc hsz (.cells #[.int .i64 C] 3)).grown hgrow (by simp; omega) (fun k e => (HO.out.ge k e))
        have q1 : w3.cell? ⟨w.heap.size + 1, 0, none⟩ = some (.int .i64 ((s : Int))) := HM2.elem (i := 0) (by simp)
        have f1 := HM2.thaw 0
        have HS1 := HM2.storeAt 0 ((s : Int) * q)
        have HM3 : Owns (w3.setCell ⟨w.heap.size + 1, 0, none⟩ (.int .i64 ((s : Int) * q))) w.heap.size (.slice (some ⟨w.heap.size + 1, 0, none⟩) 3 3) [(s : Int) * q, (r : Int), (r : Int) * s] := HS1.1
        have q2 : (w3.setCell ⟨w.heap.size + 1, 0, none⟩ (.int .i64 ((s : Int) * q))).cell? ⟨w.heap.size + 1, 1, none⟩ = some (.int .i64 ((r : Int))) := HM3.elem (i := 1) (by simp)
        have f2 := HM3.thaw 1
        have HS2 := HM3.storeAt 1 ((r : Int) * q)
        have HM4 : Owns ((w3.setCell ⟨w.heap.size + 1, 0, none⟩ (.int .i64 ((s : Int) * q))).setCell ⟨w.heap.size + 1, 1, none⟩ (.int .i64 ((r : Int) * q))) w.heap.size (.slice (some ⟨w.heap.size + 1, 0, none⟩) 3 3) [(s : Int) * q, (r : Int) * q, (r : Int) * s] := HS2.1
        have HO4 := (HO2.other HS1.2 HAP2).other HS2.2 HAP2
        have HB3 := HB2.grown HS1.2 HB2.size (fun k e => by cases e; omega)
        have HB4 := HB3.grown HS2.2 HB3.size (fun k e => by cases e; omega)
        exact ⟨q1, f1, q2, f2, by omega, hid HO4, hid HAP2, hid HM4, hid HB4⟩
      have HF := hid FACT
      clear hL FACT
      go_wp2_with (first | (go_at_call 51; refine (l1CoreG_any _ HC0.out (by omega) (by omega) _).mono ?_; rw [QC.out, QQ.out]; rintro e w' ⟨rfl, rfl⟩) | (at_builtin; refine wpList_append_own_at _ rfl _ _ 23 rfl w.heap.size 3 i0 (.int .i64 0) 1 8 Try.underlying23 hi hz0 hz1 hz2 rfl (by decide) _ _ _ rfl ((show World.ownsRow _ _ _ _ _ _ _ from HO.out).alloc _) ⟨wr.heap.size, 0, none⟩ 1 1 [.int .i64 C] rfl rfl (cell_one_new _ _ _) (by simp [Value.oneCell']) (by unfold maxLen; omega) (by omega) (by simp; omega) ?_; intro v' w3 hown' hgrow _ hat; obtain ⟨q1, f1, q2, f2, hgl3, HO4, HAP2, HM4, HB4⟩ := HF.out _ _ hown' hgrow hat; clear hown' hgrow hat))
      go_roundw
      case measure => simp only [intOf]; omega
      case rel => exact ⟨3, [A, B, C], [(s : Int) * q, (r : Int) * q, (r : Int) * s], _, rfl, by first | rfl | go_num, .inr (.inr (.inr (⟨rfl, rfl, rfl⟩))), HO4, HAP2, HM4, HB4⟩
    · obtain ⟨gt, ct, rfl, hgt, hgl⟩ := HO.out.block_of (by simp)
      have HNE : Hid (gt ≠ w.heap.size + 1) := hid (HAP.out gt rfl)
      have HD := hid HOK.out.desc
      rw [ET.out, EM.out] at HD
      have HDZ := hid HD.out.nz
      have HDL := hid (T3.le HD.out.nz HD.out.prod)
      have HTW := hid (l5Two_any _ A B C HDZ.out.1 HDZ.out.2.1 HDZ.out.2.2 (by have := HDL.out.1; dsimp only at this; omega) (by have := HDL.out.1; dsimp only at this; omega) (by have := HDL.out.2.1; dsimp only at this; omega) (by have := HDL.out.2.1; dsimp only at this; omega) (by have := HDL.out.2.2; dsimp only at this; omega) (by have := HDL.out.2.2; dsimp only at this; omega) wr HO.out.rd)
      go_wp2_with fail
      refine (HTW.out).mono ?_
      rintro e w2 ⟨rfl, hb2⟩
      have HO2 := hid (HO.out.keep HO.out.lt hb2)
      have HM2 := hid (HM.out.keep HM.out.lt hb2)
      have HB2 := hid (HB.out.trans (hb2.mono hsz))
      clear hb2 HTW HDZ HDL HO HM HB HAP
      go_wp2_with fail
      go_loopg [9, 10] 20 (NormRel a b c w gt ct (w.heap.size + 1) 3)
      case atStart => exact ⟨⟨A, B, C⟩, ⟨(s : Int) * q, (r : Int) * q, (r : Int) * s⟩, rfl, rfl, HD, HO2, HM2, HB2⟩
      case round =>
        obtain ⟨t, m, rfl, rfl, HD, HO, HM, HB⟩ := hrel
        rename World => wx
        have hsx := HB.out.size
        have hgtx := HO.out.lt gt rfl
        have hgmx := HM.out.lt (w.heap.size + 1) rfl
        by_cases h1 : twoD t.a t.b t.c = 1
        · have hst := HD.out.stop h1
          have HO3 : Hid (Owns wx w.heap.size (.slice (some ⟨gt, 0, none⟩) 3 ct) (nT a b c).toL) := hid (by rw [hst.1]; exact HO.out)
          have HM3 : Hid (Owns wx w.heap.size (.slice (some ⟨w.heap.size + 1, 0, none⟩) 3 3) (nM a b c).toL) := hid (by rw [hst.2]; exact HM.out)
          rw [h1]
          clear hst h1
          go_wp2_with fail
          go_ret2
          exact ⟨_, _, rfl, HO3.out, HM3.out, ⟨gt, w.heap.size + 1, rfl, rfl, HNE.out⟩, HB.out⟩
        · obtain ⟨f', rfl, hds⟩ := HD.out.step h1
          have hle := T3.le HD.out.nz HD.out.prod
          have hml := HD.out.inv.le HD.out.nz
          have hpl := two_le HD.out.nz HD.out.prod
          have hcs := two_cases t.a t.b t.c
          have hk2 := step_k2 (t := t) (m := m)
          have hk1 := step_k1 (t := t) (m := m)
          have hk0 := step_k0 (t := t) (m := m)
          have hst := (step_prod h1).2
          have HZ2 := hid (hds.nz)
          have HL2 := hid (T3.le hds.nz hds.prod)
          have HDS := hid hds
          obtain ⟨p, hp⟩ : ∃ p, p = twoD t.a t.b t.c := ⟨_, rfl⟩
          rw [← hp] at hpl hcs hk2 hk1 hk0 hst h1 ⊢
          obtain ⟨ta, tb, tc⟩ := t
          obtain ⟨ma, mb, mc⟩ := m
          dsimp only at hle hml hcs hk2 hk1 hk0 hp ⊢
          obtain ⟨⟨ta1, ta2⟩, ⟨tb1, tb2⟩, tc1, tc2⟩ := hle
          obtain ⟨⟨ma1, ma2⟩, ⟨mb1, mb2⟩, mc1, mc2⟩ := hml
          have hp1 : (1 : Int) < (p : Int) := by omega
          have P0 : ((p : Int) == 0) = false := by rw [beq_eq_false_iff_ne]; omega
          have HO' : Owns wx w.heap.size (.slice (some ⟨gt, 0, none⟩) 3 ct) [ta, tb, tc] := HO.out
          have HM' : Owns wx w.heap.size (.slice (some ⟨w.heap.size + 1, 0, none⟩) 3 3) [ma, mb, mc] := HM.out
          have da := tdiv_le (p := p) ta1 ta2
          have db := tdiv_le (p := p) tb1 tb2
          have dc := tdiv_le (p := p) tc1 tc2
          have da1 := da.1
          have da2 := da.2
          have db1 := db.1
          have db2 := db.2
          have dc1 := dc.1
          have dc2 := dc.2
          have mpa := mulp_le (p := p) ta1 ta2 hpl
          have mpb := mulp_le (p := p) tb1 tb2 hpl
          have mpc := mulp_le (p := p) tc1 tc2 hpl
          have nma := mulp_le (p := p) (x := ma) (by omega) (by omega) hpl
          have nmb := mulp_le (p := p) (x := mb) (by omega) (by omega) hpl
          have nmc := mulp_le (p := p) (x := mc) (by omega) (by omega) hpl
          have mpa1 := mpa.1
          have mpa2 := mpa.2
          have mpb1 := mpb.1
          have mpb2 := mpb.2
          have mpc1 := mpc.1
          have mpc2 := mpc.2
          have nma1 := nma.1
          have nma2 := nma.2
          have nmb1 := nmb.1
          have nmb2 := nmb.2
          have nmc1 := nmc.1
          have nmc2 := nmc.2
          have HHP := hid hp
          have HNE1 := HNE.out
          have HOO := hid HO'
          have HMM := hid HM'
          clear da db dc mpa mpb mpc nma nmb nmc hds hp HO HM HO' HM' HD
          rcases hcs with ⟨e, _⟩ | ⟨_, hcs⟩
          · exact absurd e h1
          have hcs2 : twoK ta tb tc = 2 ∨ twoK ta tb tc = 1 ∨ twoK ta tb tc = 0 := by
            rcases hcs with ⟨h, _⟩ | ⟨h, _⟩ | ⟨h, _⟩
            · exact .inl h
            · exact .inr (.inl h)
            · exact .inr (.inr h)
          clear hcs h1 hst
          rcases hcs2 with hk | hk | hk
          · have hE := hk2 hk
            rw [hk]
            clear hk hk0 hk1 hk2
            rw [hE.1, hE.2] at HDS
            rw [hE.1] at HZ2 HL2
            clear hE
            have o1 := HOO.out.elem (i := 0) (by simp)
            have f1 := HOO.out.thaw 0
            have HS1 := hid (HOO.out.storeAt 0 (ta.tdiv (p : Int)))
            obtain ⟨w1, hw1⟩ : ∃ w1, w1 = wx.setCell ⟨gt, 0, none⟩ (.int .i64 (ta.tdiv (p : Int))) := ⟨_, rfl⟩
            rw [← hw1] at HS1
            have o2 := HS1.out.1.elem (i := 1) (by simp)
            have f2 := HS1.out.1.thaw 1
            have HS2 := hid (HS1.out.1.storeAt 1 (tb.tdiv (p : Int)))
            have HMA := hid (HMM.out.other HS1.out.2 (fun k e => by cases e; exact fun h => HNE1 h.symm))
            have HBA := hid (HB.out.grown HS1.out.2 HB.out.size (fun k e => by cases e; exact hgt))
            obtain ⟨w2, hw2⟩ : ∃ w2, w2 = w1.setCell ⟨gt, 1, none⟩ (.int .i64 (tb.tdiv (p : Int))) := ⟨_, rfl⟩
            rw [← hw2] at HS2
            have o3 := HS2.out.1.elem (i := 2) (by simp)
            have f3 := HS2.out.1.thaw 2
            have HMB := hid (HMA.out.other HS2.out.2 (fun k e => by cases e; exact fun h => HNE1 h.symm))
            have HBB := hid (HBA.out.grown HS2.out.2 HBA.out.size (fun k e => by cases e; exact hgt))
            have z3 := HMB.out.elem (i := 2) (by simp)
            have g3 := HMB.out.thaw 2
            simp only [List.set_cons_zero, List.set_cons_succ, List.getD_cons_zero, List.getD_cons_succ] at o1 o2 o3 z3
            have TZ := tmod_zero (n := tc) (c := (p : Int))
            have hsw1 : wx.setCell ⟨gt, 0, none⟩ (.int .i64 (ta.tdiv (p : Int))) = w1 := hw1.symm
            have hsw2 : w1.setCell ⟨gt, 1, none⟩ (.int .i64 (tb.tdiv (p : Int))) = w2 := hw2.symm
            have hgt2 : gt < w2.heap.size := HS2.out.1.lt gt rfl
            by_cases hd : tc.tmod (p : Int) = 0
            · have TD : (tc.tmod (p : Int) == 0) = true := by rw [beq_iff_eq]; exact hd
              have E3 : thirdI tc p = tc.tdiv (p : Int) := by unfold thirdI; rw [if_pos (TZ.1 hd)]
              have E4 : thirdM tc p mc = mc := by unfold thirdM; rw [if_pos (TZ.1 hd)]
              rw [E3, E4] at HDS
              rw [E3] at HZ2 HL2
              have HS3 := hid (HS2.out.1.storeAt 2 (tc.tdiv (p : Int)))
              have HMC := hid (HMB.out.other HS3.out.2 (fun k e => by cases e; exact fun h => HNE1 h.symm))
              have HBC := hid (HBB.out.grown HS3.out.2 HBB.out.size (fun k e => by cases e; exact hgt))
              obtain ⟨w3, hw3⟩ : ∃ w3, w3 = w2.setCell ⟨gt, 2, none⟩ (.int .i64 (tc.tdiv (p : Int))) := ⟨_, rfl⟩
              rw [← hw3] at HS3 HMC HBC
              have hsw3 : w2.setCell ⟨gt, 2, none⟩ (.int .i64 (tc.tdiv (p : Int))) = w3 := hw3.symm
              have HTW := hid (l5Two_any _ (ta.tdiv (p : Int)) (tb.tdiv (p : Int)) (tc.tdiv (p : Int)) HZ2.out.1 HZ2.out.2.1 HZ2.out.2.2 (by have h : -27000 ≤ (ta.tdiv (p : Int)) := HL2.out.1.1; omega) (by have h : (ta.tdiv (p : Int)) ≤ 27000 := HL2.out.1.2; omega) (by have h : -27000 ≤ (tb.tdiv (p : Int)) := HL2.out.2.1.1; omega) (by have h : (tb.tdiv (p : Int)) ≤ 27000 := HL2.out.2.1.2; omega) (by have h : -27000 ≤ (tc.tdiv (p : Int)) := HL2.out.2.2.1; omega) (by have h : (tc.tdiv (p : Int)) ≤ 27000 := HL2.out.2.2.2; omega) w3 HS3.out.1.rd)
              have HSO := hid HS3.out.1
              have hs3 := HBC.out.size
              clear hw1 hw2 hw3 HS1 HS2 HS3 HMA HMB HBA HBB E3 E4 TZ hd
              go_wp2_with fail
              refine (HTW.out).mono ?_
              rintro e w4 ⟨rfl, hb4⟩
              have HO4 := hid (HSO.out.keep HSO.out.lt hb4)
              have HM4 := hid (HMC.out.keep HMC.out.lt hb4)
              have HB4 := hid (HBC.out.trans (hb4.mono hs3))
              clear hb4 HTW
              go_wp2_with fail
              go_roundg f'
              case measure => omega
              case rel => exact ⟨_, _, rfl, rfl, HDS, HO4, HM4, HB4⟩
            · have TD : (tc.tmod (p : Int) == 0) = false := by rw [beq_eq_false_iff_ne]; exact hd
              have E3 : thirdI tc p = tc * (p : Int) := by unfold thirdI; rw [if_neg (fun h => hd (TZ.2 h))]
              have E4 : thirdM tc p mc = mc * (p : Int) := by unfold thirdM; rw [if_neg (fun h => hd (TZ.2 h))]
              rw [E3, E4] at HDS
              rw [E3] at HZ2 HL2
              have HS3 := hid (HS2.out.1.storeAt 2 (tc * (p : Int)))
              have HMC := hid (HMB.out.other HS3.out.2 (fun k e => by cases e; exact fun h => HNE1 h.symm))
              have HBC := hid (HBB.out.grown HS3.out.2 HBB.out.size (fun k e => by cases e; exact hgt))
              obtain ⟨w3, hw3⟩ : ∃ w3, w3 = w2.setCell ⟨gt, 2, none⟩ (.int .i64 (tc * (p : Int))) := ⟨_, rfl⟩
              rw [← hw3] at HS3 HMC HBC
              have hsw3 : w2.setCell ⟨gt, 2, none⟩ (.int .i64 (tc * (p : Int))) = w3 := hw3.symm
              have z4 : w3.cell? ⟨w.heap.size + 1, 2, none⟩ = some (.int .i64 mc) := HMC.out.elem (i := 2) (by simp)
              have g4 := HMC.out.thaw 2
              have HS4 := hid (HMC.out.storeAt 2 (mc * (p : Int)))
              have HOD := hid (HS3.out.1.other HS4.out.2 (fun k e => by cases e; exact HNE1))
              have HBD := hid (HBC.out.grown HS4.out.2 HBC.out.size (fun k e => by cases e; omega))
              obtain ⟨w5, hw5⟩ : ∃ w5, w5 = w3.setCell ⟨w.heap.size + 1, 2, none⟩ (.int .i64 (mc * (p : Int))) := ⟨_, rfl⟩
              rw [← hw5] at HS4 HOD HBD
              have hsw5 : w3.setCell ⟨w.heap.size + 1, 2, none⟩ (.int .i64 (mc * (p : Int))) = w5 := hw5.symm
              have HTW := hid (l5Two_any _ (ta.tdiv (p : Int)) (tb.tdiv (p : Int)) (tc * (p : Int)) HZ2.out.1 HZ2.out.2.1 HZ2.out.2.2 (by have h : -27000 ≤ (ta.tdiv (p : Int)) := HL2.out.1.1; omega) (by have h : (ta.tdiv (p : Int)) ≤ 27000 := HL2.out.1.2; omega) (by have h : -27000 ≤ (tb.tdiv (p : Int)) := HL2.out.2.1.1; omega) (by have h : (tb.tdiv (p : Int)) ≤ 27000 := HL2.out.2.1.2; omega) (by have h : -27000 ≤ (tc * (p : Int)) := HL2.out.2.2.1; omega) (by have h : (tc * (p : Int)) ≤ 27000 := HL2.out.2.2.2; omega) w5 HOD.out.rd)
              have HSM := hid HS4.out.1
              have hs5 := HBD.out.size
              clear hw1 hw2 hw3 hw5 HS1 HS2 HS3 HS4 HMA HMB HBA HBB HMC HBC E3 E4 TZ hd
              go_wp2_with fail
              refine (HTW.out).mono ?_
              rintro e w4 ⟨rfl, hb4⟩
              have HO4 := hid (HOD.out.keep HOD.out.lt hb4)
              have HM4 := hid (HSM.out.keep HSM.out.lt hb4)
              have HB4 := hid (HBD.out.trans (hb4.mono hs5))
              clear hb4 HTW
              go_wp2_with fail
              go_roundg f'
              case measure => omega
              case rel => exact ⟨_, _, rfl, rfl, HDS, HO4, HM4, HB4⟩
          · have hE := hk1 hk
            rw [hk]
            clear hk hk0 hk1 hk2
            rw [hE.1, hE.2] at HDS
            rw [hE.1] at HZ2 HL2
            clear hE
            have o1 := HOO.out.elem (i := 2) (by simp)
            have f1 := HOO.out.thaw 2
            have HS1 := hid (HOO.out.storeAt 2 (tc.tdiv (p : Int)))
            obtain ⟨w1, hw1⟩ : ∃ w1, w1 = wx.setCell ⟨gt, 2, none⟩ (.int .i64 (tc.tdiv (p : Int))) := ⟨_, rfl⟩
            rw [← hw1] at HS1
            have o2 := HS1.out.1.elem (i := 0) (by simp)
            have f2 := HS1.out.1.thaw 0
            have HS2 := hid (HS1.out.1.storeAt 0 (ta.tdiv (p : Int)))
            have HMA := hid (HMM.out.other HS1.out.2 (fun k e => by cases e; exact fun h => HNE1 h.symm))
            have HBA := hid (HB.out.grown HS1.out.2 HB.out.size (fun k e => by cases e; exact hgt))
            obtain ⟨w2, hw2⟩ : ∃ w2, w2 = w1.setCell ⟨gt, 0, none⟩ (.int .i64 (ta.tdiv (p : Int))) := ⟨_, rfl⟩
            rw [← hw2] at HS2
            have o3 := HS2.out.1.elem (i := 1) (by simp)
            have f3 := HS2.out.1.thaw 1
            have HMB := hid (HMA.out.other HS2.out.2 (fun k e => by cases e; exact fun h => HNE1 h.symm))
            have HBB := hid (HBA.out.grown HS2.out.2 HBA.out.size (fun k e => by cases e; exact hgt))
            have z3 := HMB.out.elem (i := 1) (by simp)
            have g3 := HMB.out.thaw 1
            simp only [List.set_cons_zero, List.set_cons_succ, List.getD_cons_zero, List.getD_cons_succ] at o1 o2 o3 z3
            have TZ := tmod_zero (n := tb) (c := (p : Int))
            have hsw1 : wx.setCell ⟨gt, 2, none⟩ (.int .i64 (tc.tdiv (p : Int))) = w1 := hw1.symm
            have hsw2 : w1.setCell ⟨gt, 0, none⟩ (.int .i64 (ta.tdiv (p : Int))) = w2 := hw2.symm
            have hgt2 : gt < w2.heap.size := HS2.out.1.lt gt rfl
            by_cases hd : tb.tmod (p : Int) = 0
            · have TD : (tb.tmod (p : Int) == 0) = true := by rw [beq_iff_eq]; exact hd
              have E3 : thirdI tb p = tb.tdiv (p : Int) := by unfold thirdI; rw [if_pos (TZ.1 hd)]
              have E4 : thirdM tb p mb = mb := by unfold thirdM; rw [if_pos (TZ.1 hd)]
              rw [E3, E4] at HDS
              rw [E3] at HZ2 HL2
              have HS3 := hid (HS2.out.1.storeAt 1 (tb.tdiv (p : Int)))
              have HMC := hid (HMB.out.other HS3.out.2 (fun k e => by cases e; exact fun h => HNE1 h.symm))
              have HBC := hid (HBB.out.grown HS3.out.2 HBB.out.size (fun k e => by cases e; exact hgt))
              obtain ⟨w3, hw3⟩ : ∃ w3, w3 = w2.setCell ⟨gt, 1, none⟩ (.int .i64 (tb.tdiv (p : Int))) := ⟨_, rfl⟩
              rw [← hw3] at HS3 HMC HBC
              have hsw3 : w2.setCell ⟨gt, 1, none⟩ (.int .i64 (tb.tdiv (p : Int))) = w3 := hw3.symm
              have HTW := hid (l5Two_any _ (ta.tdiv (p : Int)) (tb.tdiv (p : Int)) (tc.tdiv (p : Int)) HZ2.out.1 HZ2.out.2.1 HZ2.out.2.2 (by have h : -27000 ≤ (ta.tdiv (p : Int)) := HL2.out.1.1; omega) (by have h : (ta.tdiv (p : Int)) ≤ 27000 := HL2.out.1.2; omega) (by have h : -27000 ≤ (tb.tdiv (p : Int)) := HL2.out.2.1.1; omega) (by have h : (tb.tdiv (p : Int)) ≤ 27000 := HL2.out.2.1.2; omega) (by have h : -27000 ≤ (tc.tdiv (p : Int)) := HL2.out.2.2.1; omega) (by have h : (tc.tdiv (p : Int)) ≤ 27000 := HL2.out.2.2.2; omega) w3 HS3.out.1.rd)
              have HSO := hid HS3.out.1
              have hs3 := HBC.out.size
              clear hw1 hw2 hw3 HS1 HS2 HS3 HMA HMB HBA HBB E3 E4 TZ hd
              go_wp2_with fail
              refine (HTW.out).mono ?_
              rintro e w4 ⟨rfl, hb4⟩
              have HO4 := hid (HSO.out.keep HSO.out.lt hb4)
              have HM4 := hid (HMC.out.keep HMC.out.lt hb4)
              have HB4 := hid (HBC.out.trans (hb4.mono hs3))
              clear hb4 HTW
              go_wp2_with fail
              go_roundg f'
              case measure => omega
              case rel => exact ⟨_, _, rfl, rfl, HDS, HO4, HM4, HB4⟩
            · have TD : (tb.tmod (p : Int) == 0) = false := by rw [beq_eq_false_iff_ne]; exact hd
              have E3 : thirdI tb p = tb * (p : Int) := by unfold thirdI; rw [if_neg (fun h => hd (TZ.2 h))]
              have E4 : thirdM tb p mb = mb * (p : Int) := by unfold thirdM; rw [if_neg (fun h => hd (TZ.2 h))]
              rw [E3, E4] at HDS
              rw [E3] at HZ2 HL2
              have HS3 := hid (HS2.out.1.storeAt 1 (tb * (p : Int)))
              have HMC := hid (HMB.out.other HS3.out.2 (fun k e => by cases e; exact fun h => HNE1 h.symm))
              have HBC := hid (HBB.out.grown HS3.out.2 HBB.out.size (fun k e => by cases e; exact hgt))
              obtain ⟨w3, hw3⟩ : ∃ w3, w3 = w2.setCell ⟨gt, 1, none⟩ (.int .i64 (tb * (p : Int))) := ⟨_, rfl⟩
              rw [← hw3] at HS3 HMC HBC
              have hsw3 : w2.setCell ⟨gt, 1, none⟩ (.int .i64 (tb * (p : Int))) = w3 := hw3.symm
              have z4 : w3.cell? ⟨w.heap.size + 1, 1, none⟩ = some (.int .i64 mb) := HMC.out.elem (i := 1) (by simp)
              have g4 := HMC.out.thaw 1
              have HS4 := hid (HMC.out.storeAt 1 (mb * (p : Int)))
              have HOD := hid (HS3.out.1.other HS4.out.2 (fun k e => by cases e; exact HNE1))
              have HBD := hid (HBC.out.grown HS4.out.2 HBC.out.size (fun k e => by cases e; omega))
              obtain ⟨w5, hw5⟩ : ∃ w5, w5 = w3.setCell ⟨w.heap.size + 1, 1, none⟩ (.int .i64 (mb * (p : Int))) := ⟨_, rfl⟩
              rw [← hw5] at HS4 HOD HBD
              have hsw5 : w3.setCell ⟨w.heap.size + 1, 1, none⟩ (.int .i64 (mb * (p : Int))) = w5 := hw5.symm
              have HTW := hid (l5Two_any _ (ta.tdiv (p : Int)) (tb * (p : Int)) (tc.tdiv (p : Int)) HZ2.out.1 HZ2.out.2.1 HZ2.out.2.2 (by have h : -27000 ≤ (ta.tdiv (p : Int)) := HL2.out.1.1; omega) (by have h : (ta.tdiv (p : Int)) ≤ 27000 := HL2.out.1.2; omega) (by have h : -27000 ≤ (tb * (p : Int)) := HL2.out.2.1.1; omega) (by have h : (tb * (p : Int)) ≤ 27000 := HL2.out.2.1.2; omega) (by have h : -27000 ≤ (tc.tdiv (p : Int)) := HL2.out.2.2.1; omega) (by have h : (tc.tdiv (p : Int)) ≤ 27000 := HL2.out.2.2.2; omega) w5 HOD.out.rd)
              have HSM := hid HS4.out.1
              have hs5 := HBD.out.size
              clear hw1 hw2 hw3 hw5 HS1 HS2 HS3 HS4 HMA HMB HBA HBB HMC HBC E3 E4 TZ hd
              go_wp2_with fail
              refine (HTW.out).mono ?_
              rintro e w4 ⟨rfl, hb4⟩
              have HO4 := hid (HOD.out.keep HOD.out.lt hb4)
              have HM4 := hid (HSM.out.keep HSM.out.lt hb4)
              have HB4 := hid (HBD.out.trans (hb4.mono hs5))
              clear hb4 HTW
              go_wp2_with fail
              go_roundg f'
              case measure => omega
              case rel => exact ⟨_, _, rfl, rfl, HDS, HO4, HM4, HB4⟩
          · have hE := hk0 hk
            rw [hk]
            clear hk hk0 hk1 hk2
            rw [hE.1, hE.2] at HDS
            rw [hE.1] at HZ2 HL2
            clear hE
            have o1 := HOO.out.elem (i := 1) (by simp)
            have f1 := HOO.out.thaw 1
            have HS1 := hid (HOO.out.storeAt 1 (tb.tdiv (p : Int)))
            obtain ⟨w1, hw1⟩ : ∃ w1, w1 = wx.setCell ⟨gt, 1, none⟩ (.int .i64 (tb.tdiv (p : Int))) := ⟨_, rfl⟩
            rw [← hw1] at HS1
            have o2 := HS1.out.1.elem (i := 2) (by simp)
            have f2 := HS1.out.1.thaw 2
            have HS2 := hid (HS1.out.1.storeAt 2 (tc.tdiv (p : Int)))
            have HMA := hid (HMM.out.other HS1.out.2 (fun k e => by cases e; exact fun h => HNE1 h.symm))
            have HBA := hid (HB.out.grown HS1.out.2 HB.out.size (fun k e => by cases e; exact hgt))
            obtain ⟨w2, hw2⟩ : ∃ w2, w2 = w1.setCell ⟨gt, 2, none⟩ (.int .i64 (tc.tdiv (p : Int))) := ⟨_, rfl⟩
            rw [← hw2] at HS2
            have o3 := HS2.out.1.elem (i := 0) (by simp)
            have f3 := HS2.out.1.thaw 0
            have HMB := hid (HMA.out.other HS2.out.2 (fun k e => by cases e; exact fun h => HNE1 h.symm))
            have HBB := hid (HBA.out.grown HS2.out.2 HBA.out.size (fun k e => by cases e; exact hgt))
            have z3 := HMB.out.elem (i := 0) (by simp)
            have g3 := HMB.out.thaw 0
            simp only [List.set_cons_zero, List.set_cons_succ, List.getD_cons_zero, List.getD_cons_succ] at o1 o2 o3 z3
            have TZ := tmod_zero (n := ta) (c := (p : Int))
            have hsw1 : wx.setCell ⟨gt, 1, none⟩ (.int .i64 (tb.tdiv (p : Int))) = w1 := hw1.symm
            have hsw2 : w1.setCell ⟨gt, 2, none⟩ (.int .i64 (tc.tdiv (p : Int))) = w2 := hw2.symm
            have hgt2 : gt < w2.heap.size := HS2.out.1.lt gt rfl
            by_cases hd : ta.tmod (p : Int) = 0
            · have TD : (ta.tmod (p : Int) == 0) = true := by rw [beq_iff_eq]; exact hd
              have E3 : thirdI ta p = ta.tdiv (p : Int) := by unfold thirdI; rw [if_pos (TZ.1 hd)]
              have E4 : thirdM ta p ma = ma := by unfold thirdM; rw [if_pos (TZ.1 hd)]
              rw [E3, E4] at HDS
              rw [E3] at HZ2 HL2
              have HS3 := hid (HS2.out.1.storeAt 0 (ta.tdiv (p : Int)))
              have HMC := hid (HMB.out.other HS3.out.2 (fun k e => by cases e; exact fun h => HNE1 h.symm))
              have HBC := hid (HBB.out.grown HS3.out.2 HBB.out.size (fun k e => by cases e; exact hgt))
              obtain ⟨w3, hw3⟩ : ∃ w3, w3 = w2.setCell ⟨gt, 0, none⟩ (.int .i64 (ta.tdiv (p : Int))) := ⟨_, rfl⟩
              rw [← hw3] at HS3 HMC HBC
              have hsw3 : w2.setCell ⟨gt, 0, none⟩ (.int .i64 (ta.tdiv (p : Int))) = w3 := hw3.symm
              have HTW := hid (l5Two_any _ (ta.tdiv (p : Int)) (tb.tdiv (p : Int)) (tc.tdiv (p : Int)) HZ2.out.1 HZ2.out.2.1 HZ2.out.2.2 (by have h : -27000 ≤ (ta.tdiv (p : Int)) := HL2.out.1.1; omega) (by have h : (ta.tdiv (p : Int)) ≤ 27000 := HL2.out.1.2; omega) (by have h : -27000 ≤ (tb.tdiv (p : Int)) := HL2.out.2.1.1; omega) (by have h : (tb.tdiv (p : Int)) ≤ 27000 := HL2.out.2.1.2; omega) (by have h : -27000 ≤ (tc.tdiv (p : Int)) := HL2.out.2.2.1; omega) (by have h : (tc.tdiv (p : Int)) ≤ 27000 := HL2.out.2.2.2; omega) w3 HS3.out.1.rd)
              have HSO := hid HS3.out.1
              have hs3 := HBC.out.size
              clear hw1 hw2 hw3 HS1 HS2 HS3 HMA HMB HBA HBB E3 E4 TZ hd
              go_wp2_with fail
              refine (HTW.out).mono ?_
              rintro e w4 ⟨rfl, hb4⟩
              have HO4 := hid (HSO.out.keep HSO.out.lt hb4)
              have HM4 := hid (HMC.out.keep HMC.out.lt hb4)
              have HB4 := hid (HBC.out.trans (hb4.mono hs3))
              clear hb4 HTW
              go_wp2_with fail
              go_roundg f'
              case measure => omega
              case rel => exact ⟨_, _, rfl, rfl, HDS, HO4, HM4, HB4⟩
            · have TD : (ta.tmod (p : Int) == 0) = false := by rw [beq_eq_false_iff_ne]; exact hd
              have E3 : thirdI ta p = ta * (p : Int) := by unfold thirdI; rw [if_neg (fun h => hd (TZ.2 h))]
              have E4 : thirdM ta p ma = ma * (p : Int) := by unfold thirdM; rw [if_neg (fun h => hd (TZ.2 h))]
              rw [E3, E4] at HDS
              rw [E3] at HZ2 HL2
              have HS3 := hid (HS2.out.1.storeAt 0 (ta * (p : Int)))
              have HMC := hid (HMB.out.other HS3.out.2 (fun k e => by cases e; exact fun h => HNE1 h.symm))
              have HBC := hid (HBB.out.grown HS3.out.2 HBB.out.size (fun k e => by cases e; exact hgt))
              obtain ⟨w3, hw3⟩ : ∃ w3, w3 = w2.setCell ⟨gt, 0, none⟩ (.int .i64 (ta * (p : Int))) := ⟨_, rfl⟩
              rw [← hw3] at HS3 HMC HBC
              have hsw3 : w2.setCell ⟨gt, 0, none⟩ (.int .i64 (ta * (p : Int))) = w3 := hw3.symm
              have z4 : w3.cell? ⟨w.heap.size + 1, 0, none⟩ = some (.int .i64 ma) := HMC.out.elem (i := 0) (by simp)
              have g4 := HMC.out.thaw 0
              have HS4 := hid (HMC.out.storeAt 0 (ma * (p : Int)))
              have HOD := hid (HS3.out.1.other HS4.out.2 (fun k e => by cases e; exact HNE1))
              have HBD := hid (HBC.out.grown HS4.out.2 HBC.out.size (fun k e => by cases e; omega))
              obtain ⟨w5, hw5⟩ : ∃ w5, w5 = w3.setCell ⟨w.heap.size + 1, 0, none⟩ (.int .i64 (ma * (p : Int))) := ⟨_, rfl⟩
              rw [← hw5] at HS4 HOD HBD
              have hsw5 : w3.setCell ⟨w.heap.size + 1, 0, none⟩ (.int .i64 (ma * (p : Int))) = w5 := hw5.symm
              have HTW := hid (l5Two_any _ (ta * (p : Int)) (tb.tdiv (p : Int)) (tc.tdiv (p : Int)) HZ2.out.1 HZ2.out.2.1 HZ2.out.2.2 (by have h : -27000 ≤ (ta * (p : Int)) := HL2.out.1.1; omega) (by have h : (ta * (p : Int)) ≤ 27000 := HL2.out.1.2; omega) (by have h : -27000 ≤ (tb.tdiv (p : Int)) := HL2.out.2.1.1; omega) (by have h : (tb.tdiv (p : Int)) ≤ 27000 := HL2.out.2.1.2; omega) (by have h : -27000 ≤ (tc.tdiv (p : Int)) := HL2.out.2.2.1; omega) (by have h : (tc.tdiv (p : Int)) ≤ 27000 := HL2.out.2.2.2; omega) w5 HOD.out.rd)
              have HSM := hid HS4.out.1
              have hs5 := HBD.out.size
              clear hw1 hw2 hw3 hw5 HS1 HS2 HS3 HS4 HMA HMB HBA HBB HMC HBC E3 E4 TZ hd
              go_wp2_with fail
              refine (HTW.out).mono ?_
              rintro e w4 ⟨rfl, hb4⟩
              have HO4 := hid (HOD.out.keep HOD.out.lt hb4)
              have HM4 := hid (HSM.out.keep HSM.out.lt hb4)
              have HB4 := hid (HBD.out.trans (hb4.mono hs5))
              clear hb4 HTW
              go_wp2_with fail
              go_roundg f'
              case measure => omega
              case rel => exact ⟨_, _, rfl, rfl, HDS, HO4, HM4, HB4⟩

/-- what ZeroNormal answers -/
def z3B (xs : List Int) : Bool := fvB xs && decide (xs.length = 3)
def znT (xs : List Int) : List Int := if z3B xs then (nT (xs.getD 0 0) (xs.getD 1 0) (xs.getD 2 0)).toL else []
def znM (xs : List Int) : List Int := if z3B xs then (nM (xs.getD 0 0) (xs.getD 1 0) (xs.getD 2 0)).toL else []
def NormPost (xs : List Int) (w : World) (e : Ending) (w' : World) : Prop := ∃ u z, e = .returned (.tuple #[u, z, .bool (z3B xs)]) ∧ Owns w' w.heap.size u (znT xs) ∧ Owns w' w.heap.size z (znM xs) ∧ (∃ g k, u.ownBlock = some g ∧ z.ownBlock = some k ∧ g ≠ k) ∧ Below w.heap.size w w'
theorem norm_empty {w w2 : World} (hb : Below w.heap.size w w2) : Owns ((w2.alloc (.cells #[] 3)).alloc (.cells #[] 3)) w.heap.size (.slice (some ⟨w2.heap.size, 0, none⟩) 0 0) [] ∧ Owns ((w2.alloc (.cells #[] 3)).alloc (.cells #[] 3)) w.heap.size (.slice (some ⟨w2.heap.size + 1, 0, none⟩) 0 0) [] ∧ Below w.heap.size w ((w2.alloc (.cells #[] 3)).alloc (.cells #[] 3)) := by
  have hs := hb.size
  refine ⟨?_, ?_, (hb.alloc hs _).alloc (by simp; omega) _⟩
  · have : Owns (w2.alloc (.cells #[] 3)) w.heap.size (.slice (some ⟨w2.heap.size, 0, none⟩) 0 0) [] := World.ownsRow_made (size := 1) w2 #[] 0 hs (by unfold maxLen; omega) rfl
    exact this.alloc _
  · have := World.ownsRow_made (size := 1) (w2.alloc (.cells #[] 3)) #[] 0 (base := w.heap.size) (by simp; omega) (by unfold maxLen; omega) (e := 3) rfl
    simp only [World.size_alloc] at this
    exact this
set_option maxRecDepth 100000 in
set_option maxHeartbeats 1000000 in
theorem zeroNormalS_any (v : Value) (xs : List Int) (w : World) (h : Rd w v xs) : Calls Try.prog 8 #[v] w (NormPost xs w) := by
  have HH := hid h
  have hmx := rd_max h
  obtain ⟨ad, cap, rfl, _⟩ := h.form
  have HE := hid (norm_empty (Below.refl w.heap.size w))
  have hno : z3B xs = false → znT xs = [] ∧ znM xs = [] := fun e => by unfold znT znM; rw [e]; exact ⟨rfl, rfl⟩
  clear h
  cases hf : fvB xs with
  | false =>
    have HF := hid hf
    have hz : z3B xs = false := by unfold z3B; rw [hf]; rfl
    have HZ := hid hz
    have HN := hid (hno hz)
    clear hf hz hno
    go_enter Try.func8, Try.ntmps8
    go_wp2_with (go_at_call 32; refine (formValidS_any _ xs _ HH.out).mono ?_; rw [HF.out]; rintro e w' ⟨rfl, rfl⟩)
    go_ret3
    exact ⟨_, _, by rw [HZ.out]; rfl, by rw [HN.out.1]; exact HE.out.1, by rw [HN.out.2]; exact HE.out.2.1, ⟨w.heap.size, w.heap.size + 1, rfl, rfl, by omega⟩, HE.out.2.2⟩
  | true =>
    have HF := hid hf
    by_cases hl : xs.length = 3
    · have hli : (xs.length : Int) = 3 := by omega
      have T : ((xs.length : Int) != 3) = false := by rw [bne_eq_false_iff_eq]; exact hli
      obtain ⟨a, b, c, rfl⟩ := list_three hl
      have HZ : Hid (z3B [a, b, c] = true) := hid (by unfold z3B; rw [hf]; rfl)
      have HN : Hid (znT [a, b, c] = (nT a b c).toL ∧ znM [a, b, c] = (nM a b c).toL) := hid (by unfold znT znM; rw [HZ.out]; exact ⟨rfl, rfl⟩)
      have HOK := hid (ok3_of hf)
      clear hf hno hl hli HE
      go_enter Try.func8, Try.ntmps8
      go_wp2_with (go_at_call 32; refine (formValidS_any _ _ _ HH.out).mono ?_; rw [HF.out]; rintro e w' ⟨rfl, rfl⟩)
      refine (l5Normal_any _ a b c HOK.out _ HH.out).mono ?_
      rintro e w2 ⟨u, z, rfl, ho, hm, hne, hb2⟩
      have HX := hid hne
      clear hne
      go_wp2_with fail
      go_ret3
      exact ⟨u, z, by rw [HZ.out]; rfl, by rw [HN.out.1]; exact ho, by rw [HN.out.2]; exact hm, HX.out, hb2⟩
    · have T : ((xs.length : Int) != 3) = true := by rw [bne_iff_ne]; omega
      have hz : z3B xs = false := by unfold z3B; rw [decide_eq_false hl, Bool.and_false]
      have HZ := hid hz
      have HN := hid (hno hz)
      clear hf hz hno hl
      go_enter Try.func8, Try.ntmps8
      go_wp2_with (go_at_call 32; refine (formValidS_any _ xs _ HH.out).mono ?_; rw [HF.out]; rintro e w' ⟨rfl, rfl⟩)
      go_ret3
      exact ⟨_, _, by rw [HZ.out]; rfl, by rw [HN.out.1]; exact HE.out.1, by rw [HN.out.2]; exact HE.out.2.1, ⟨w.heap.size, w.heap.size + 1, rfl, rfl, by omega⟩, HE.out.2.2⟩

end Go.Proofs.Ytenibnblibnocac
