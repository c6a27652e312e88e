/-
  Some texts in one file: Zm5 Draws16 Vals7.
-/
import Derived.Test.YtfjbdbfeolfcfaaQBun43
import Derived.Deep.LoopGhost
import Derived.Test.YtfjbdbfeolfcfaaQBun34
import Derived.Test.YtfjbdbfeolfcfaaQVals6
/-! Zm5 -/
set_option linter.unusedVariables false
namespace Go.Proofs.Ytfjbdbfeolfcfaa
open Go.RowKit

/-- a list that owns its memory apart from one block -/
def Apart (v : Value) (g : Nat) : Prop := ∀ k, v.ownBlock = some k → k ≠ g
theorem root_le {x : Int} (h0 : x ≠ 0) (h1 : -30 ≤ x) (h2 : x ≤ 30) : rootG x ≤ 5 := by
  obtain ⟨c0, e, _, _, r1⟩ := core_small h0
  refine Classical.byContradiction fun h => ?_
  have h3 := Nat.mul_le_mul (show 6 ≤ rootG x by omega) (show 6 ≤ rootG x by omega)
  have h4 := Nat.le_mul_of_pos_left (rootG x * rootG x) (show 0 < (coreG x).natAbs by omega)
  omega
theorem rr_le {r s : Nat} (hr : r ≤ 5) (hs : s ≤ 5) : 0 ≤ (r : Int) * s ∧ (r : Int) * s ≤ 25 := by
  have h := Nat.mul_le_mul hr hs
  have e : (r : Int) * s = ((r * s : Nat) : Int) := by push_cast; rfl
  rw [e]; omega
theorem norm_step {f : Nat} {t : T3} (h : twoD t.a t.b t.c ≠ 1) : normT (f + 1) t = normT f (stepI t) := by
  show (if twoD t.a t.b t.c = 1 then t else normT f (stepI t)) = _
  rw [if_neg h]
theorem normM_step {f : Nat} {t m : T3} (h : twoD t.a t.b t.c ≠ 1) : normM (f + 1) t m = normM f (stepI t) (stepM t m) := by
  show (if twoD t.a t.b t.c = 1 then m else normM f (stepI t) (stepM t m)) = _
  rw [if_neg h]
theorem norm_stop : ∀ {f : Nat} {t : T3}, twoD t.a t.b t.c = 1 → normT f t = t
  | 0, _, _ => rfl
  | f + 1, t, h => by show (if twoD t.a t.b t.c = 1 then t else _) = t; rw [if_pos h]
theorem normM_stop : ∀ {f : Nat} {t m : T3}, twoD t.a t.b t.c = 1 → normM f t m = m
  | 0, _, _, _ => rfl
  | f + 1, t, m, h => by show (if twoD t.a t.b t.c = 1 then m else _) = m; rw [if_pos h]
/-- what the descent keeps -/
structure Desc (N M : T3) (f : Nat) (t m : T3) : Prop where
  eqn : N = normT f t
  eqm : M = normM f t m
  two : twoD N.a N.b N.c = 1
  nz : t.nz
  prod : t.prod ≤ 27000
  inv : MInv 900 t m
theorem Desc.step {N M : T3} {f : Nat} {t m : T3} (h : Desc N M f t m) (h1 : twoD t.a t.b t.c ≠ 1) : ∃ f', f = f' + 1 ∧ Desc N M f' (stepI t) (stepM t m) := by
  cases f with
  | zero =>
    have := h.two
    rw [h.eqn] at this
    exact absurd this h1
  | succ f =>
    refine ⟨f, rfl, h.eqn.trans (norm_step h1), h.eqm.trans (normM_step h1), h.two, (step_ok h.nz h1).1, ?_, step_minv h1 h.inv⟩
    obtain ⟨h2, h3⟩ := step_prod h1
    have h4 := Nat.le_mul_of_pos_right (stepI t).prod (show 0 < twoD t.a t.b t.c by omega)
    exact Nat.le_trans h4 (Nat.le_trans h2 h.prod)
theorem Desc.stop {N M : T3} {f : Nat} {t m : T3} (h : Desc N M f t m) (h1 : twoD t.a t.b t.c = 1) : N = t ∧ M = m := ⟨h.eqn.trans (norm_stop h1), h.eqm.trans (normM_stop h1)⟩
theorem Ok3.desc {a b c : Int} (h : Ok3 a b c) : Desc (nT a b c) (nM a b c) 20 (coreT a b c) (rootM a b c) :=
  ⟨rfl, rfl, h.nrm.two, h.small.nz, Nat.le_trans h.prod.1 h.prod.2, h.minv⟩
theorem m_le {K m p : Nat} (hp : 1 ≤ p) (h : m * m * p ≤ K) (hK : K ≤ 900) : m ≤ 30 := by
  refine Classical.byContradiction fun h2 => ?_
  have h3 := Nat.mul_le_mul (show 31 ≤ m by omega) (show 31 ≤ m by omega)
  have h4 := Nat.le_mul_of_pos_right (m * m) (show 0 < p by omega)
  omega
theorem MInv.le {t m : T3} (h : MInv 900 t m) (ht : t.nz) : (1 ≤ m.a ∧ m.a ≤ 30) ∧ (1 ≤ m.b ∧ m.b ≤ 30) ∧ (1 ≤ m.c ∧ m.c ≤ 30) := by
  obtain ⟨h1, h2, h3, h4, h5, h6⟩ := h
  obtain ⟨ta, tb, tc⟩ := ht
  have pos : ∀ x y : Int, x ≠ 0 → y ≠ 0 → 1 ≤ x.natAbs * y.natAbs := fun x y hx hy => Nat.mul_pos (by omega) (by omega)
  have a1 := m_le (pos _ _ tb tc) h4 (Nat.le_refl _)
  have b1 := m_le (pos _ _ ta tc) h5 (Nat.le_refl _)
  have c1 := m_le (pos _ _ ta tb) h6 (Nat.le_refl _)
  omega
theorem T3.le {t : T3} (h : t.nz) (hp : t.prod ≤ 27000) : (-27000 ≤ t.a ∧ t.a ≤ 27000) ∧ (-27000 ≤ t.b ∧ t.b ≤ 27000) ∧ (-27000 ≤ t.c ∧ t.c ≤ 27000) := by
  obtain ⟨h1, h2, h3, _⟩ := T3.bd h hp
  omega
theorem tdiv_le {x : Int} {p : Nat} (h1 : -27000 ≤ x) (h2 : x ≤ 27000) : -27000 ≤ x.tdiv (p : Int) ∧ x.tdiv (p : Int) ≤ 27000 := by
  have : (x.tdiv (p : Int)).natAbs ≤ 27000 := by
    rw [Int.natAbs_tdiv]
    exact Nat.le_trans (Nat.div_le_self _ _) (by omega)
  omega
theorem mulp_le {x : Int} {p : Nat} (h1 : -27000 ≤ x) (h2 : x ≤ 27000) (hp : p ≤ 27000) : -729000000 ≤ x * (p : Int) ∧ x * (p : Int) ≤ 729000000 := by
  have : (x * (p : Int)).natAbs ≤ 27000 * 27000 := by rw [Int.natAbs_mul, Int.natAbs_natCast]; exact Nat.mul_le_mul (by omega) hp
  omega
theorem step_k2 {t m : T3} (h : twoK t.a t.b t.c = 2) : stepI t = ⟨t.a.tdiv (twoD t.a t.b t.c), t.b.tdiv (twoD t.a t.b t.c), thirdI t.c (twoD t.a t.b t.c)⟩ ∧ stepM t m = ⟨m.a, m.b, thirdM t.c (twoD t.a t.b t.c) m.c⟩ := by
  unfold stepI stepM; rw [if_pos h, if_pos h]; exact ⟨rfl, rfl⟩
theorem step_k1 {t m : T3} (h : twoK t.a t.b t.c = 1) : stepI t = ⟨t.a.tdiv (twoD t.a t.b t.c), thirdI t.b (twoD t.a t.b t.c), t.c.tdiv (twoD t.a t.b t.c)⟩ ∧ stepM t m = ⟨m.a, thirdM t.b (twoD t.a t.b t.c) m.b, m.c⟩ := by
  have h2 : ¬ twoK t.a t.b t.c = 2 := by omega
  unfold stepI stepM; rw [if_neg h2, if_neg h2, if_pos h, if_pos h]; exact ⟨rfl, rfl⟩
theorem step_k0 {t m : T3} (h : twoK t.a t.b t.c = 0) : stepI t = ⟨thirdI t.a (twoD t.a t.b t.c), t.b.tdiv (twoD t.a t.b t.c), t.c.tdiv (twoD t.a t.b t.c)⟩ ∧ stepM t m = ⟨thirdM t.a (twoD t.a t.b t.c) m.a, m.b, m.c⟩ := by
  have h2 : ¬ twoK t.a t.b t.c = 2 := by omega
  have h1 : ¬ twoK t.a t.b t.c = 1 := by omega
  unfold stepI stepM; rw [if_neg h2, if_neg h2, if_neg h1, if_neg h1]; exact ⟨rfl, rfl⟩
theorem two_le {t : T3} (h : t.nz) (hp : t.prod ≤ 27000) : twoD t.a t.b t.c ≤ 27000 := by
  obtain ⟨⟨a1, a2⟩, ⟨b1, b2⟩, c1, c2⟩ := T3.le h hp
  obtain ⟨ta, tb, tc⟩ := h
  have D : ∀ {p : Nat} {x : Int}, (p : Int) ∣ x → x ≠ 0 → -27000 ≤ x → x ≤ 27000 → p ≤ 27000 := fun {p x} hd h0 h1 h2 => by
    have := Nat.le_of_dvd (by omega) (Int.ofNat_dvd_left.1 hd)
    omega
  rcases two_cases t.a t.b t.c with ⟨e, _⟩ | ⟨_, ⟨_, h1, _⟩ | ⟨_, h1, _⟩ | ⟨_, h1, _⟩⟩
  · omega
  · exact D h1 ta a1 a2
  · exact D h1 ta a1 a2
  · exact D h1 tb b1 b2

/-- what the rounds of the descent keep in memory -/
def NormRel (a b c : Int) (w : World) (gt ct gm cm : Nat) (f : Nat) (sp sk : Value) (wr : World) : Prop :=
  ∃ t m : T3, sp = .int .i64 (twoD t.a t.b t.c : Nat) ∧ sk = .int .i64 (twoK t.a t.b t.c : Nat) ∧ Hid (Desc (nT a b c) (nM a b c) f t m) ∧ Hid (Owns wr w.heap.size (.slice (some ⟨gt, 0, none⟩) 3 ct) t.toL) ∧ Hid (Owns wr w.heap.size (.slice (some ⟨gm, 0, none⟩) 3 cm) m.toL) ∧ Hid (Below w.heap.size w wr)
set_option maxRecDepth 100000 in
set_option maxHeartbeats 8000000 in
theorem l5Normal_any (v : Value) (a b c : Int) (ok : Ok3 a b c) (w : World) (h : Rd w v [a, b, c]) : Calls Try.prog 81 #[v] w fun e w' => ∃ u z, e = .returned (.tuple #[u, z]) ∧ Owns w' w.heap.size u (nT a b c).toL ∧ Owns w' w.heap.size z (nM a b c).toL ∧ (∃ g k, u.ownBlock = some g ∧ z.ownBlock = some k ∧ g ≠ k) ∧ Below w.heap.size w w' := by
  obtain ⟨i0, hi, hz0, hz1, hz2⟩ := info_parts infoInt
  obtain ⟨wr0, wr1, wr2, wr3, wr4⟩ := wrap5
  have HH := hid h
  have HOK := hid ok
  have HA0 := hid ok.a0
  have HB0 := hid ok.b0
  have HC0 := hid ok.c0
  have a1 := ok.a1
  have a2 := ok.a2
  have b1 := ok.b1
  have b2 := ok.b2
  have c1 := ok.c1
  have c2 := ok.c2
  have ra := root_le ok.a0 a1 a2
  have rb := root_le ok.b0 b1 b2
  have rc := root_le ok.c0 c1 c2
  have ca := (core_small ok.a0).2.2.1
  have cb := (core_small ok.b0).2.2.1
  have cc := (core_small ok.c0).2.2.1
  have EM : Hid (rootM a b c = ⟨(rootG b : Int) * rootG c, (rootG a : Int) * rootG c, (rootG a : Int) * rootG b⟩) := hid rfl
  have ET : Hid (coreT a b c = ⟨coreG a, coreG b, coreG c⟩) := hid rfl
  obtain ⟨A, hA⟩ : ∃ A, A = coreG a := ⟨_, rfl⟩
  obtain ⟨B, hB⟩ : ∃ B, B = coreG b := ⟨_, rfl⟩
  obtain ⟨C, hC⟩ : ∃ C, C = coreG c := ⟨_, rfl⟩
  obtain ⟨r, hr⟩ : ∃ r, r = rootG a := ⟨_, rfl⟩
  obtain ⟨s, hs⟩ : ∃ s, s = rootG b := ⟨_, rfl⟩
  obtain ⟨q, hq⟩ : ∃ q, q = rootG c := ⟨_, rfl⟩
  have QA := hid hA.symm
  have QB := hid hB.symm
  have QC := hid hC.symm
  have QR := hid hr.symm
  have QS := hid hs.symm
  have QQ := hid hq.symm
  rw [← hA] at ca ET
  rw [← hB] at cb ET
  rw [← hC] at cc ET
  rw [← hr] at ra EM
  rw [← hs] at rb EM
  rw [← hq] at rc EM
  have rs := rr_le ra rb
  have rq := rr_le ra rc
  have sq := rr_le rb rc
  have rs1 := rs.1
  have rs2 := rs.2
  have rq1 := rq.1
  have rq2 := rq.2
  have sq1 := sq.1
  have sq2 := sq.2
  obtain ⟨gv, ov, cap, rfl, k0, k1, k2⟩ := rd_three h
  have HK : Hid (∀ W : World, Below w.heap.size w W → W.cell? ⟨gv, ov, none⟩ = some (.int .i64 a) ∧ W.cell? ⟨gv, ov + 1, none⟩ = some (.int .i64 b) ∧ W.cell? ⟨gv, ov + 2, none⟩ = some (.int .i64 c)) := hid (fun W hW => by
    obtain ⟨g2, o2, cap2, e, j0, j1, j2⟩ := rd_three (HH.out.keep hW)
    cases e
    exact ⟨j0, j1, j2⟩)
  have hb0 : Below w.heap.size w ((w.alloc (.cells #[] 3)).alloc (.cells #[.int .i64 1, .int .i64 1, .int .i64 1] 3)) := ((Below.refl _ _).alloc (Nat.le_refl _) _).alloc (by simp) _
  have ho0 : Owns ((w.alloc (.cells #[] 3)).alloc (.cells #[.int .i64 1, .int .i64 1, .int .i64 1] 3)) w.heap.size (.slice (some ⟨w.heap.size, 0, none⟩) 0 0) [] := by
    have : Owns (w.alloc (.cells #[] 3)) w.heap.size (.slice (some ⟨w.heap.size, 0, none⟩) 0 0) [] := World.ownsRow_made (size := 1) w #[] 0 (Nat.le_refl _) (by unfold maxLen; omega) rfl
    exact this.alloc _
  have hm0 : Owns ((w.alloc (.cells #[] 3)).alloc (.cells #[.int .i64 1, .int .i64 1, .int .i64 1] 3)) w.heap.size (.slice (some ⟨w.heap.size + 1, 0, none⟩) 3 3) [1, 1, 1] := by
    have := owns_lit (W := w.alloc (.cells #[] 3)) (B := w.heap.size) [1, 1, 1] _ rfl (by simp) (by unfold maxLen; simp)
    simpa using this
  have HB00 := hid hb0
  have HO00 := hid ho0
  have HM00 := hid hm0
  clear h ok hA hB hC hr hs hq rs rq sq hb0 ho0 hm0
  go_enter Try.func81, Try.ntmps81
  go_wp2_with fail
  go_loopw [4, 6] (fun sst si wr => ∃ (K : Nat) (L Z : List Int) (st : Value), st = sst ∧ si = .int .i64 K ∧ ((K = 0 ∧ L = [] ∧ Z = [1, 1, 1]) ∨ (K = 1 ∧ L = [A] ∧ Z = [1, (r : Int), (r : Int)]) ∨ (K = 2 ∧ L = [A, B] ∧ Z = [(s : Int), (r : Int), (r : Int) * s]) ∨ (K = 3 ∧ L = [A, B, C] ∧ Z = [(s : Int) * q, (r : Int) * q, (r : Int) * s])) ∧ Hid (Owns wr w.heap.size st L) ∧ Hid (Apart st (w.heap.size + 1)) ∧ Hid (Owns wr w.heap.size (.slice (some ⟨w.heap.size + 1, 0, none⟩) 3 3) Z) ∧ Hid (Below w.heap.size w wr)) (fun _ si _ => 3 - (intOf si).toNat)
  case atStart => exact ⟨0, [], [1, 1, 1], _, rfl, rfl, .inl ⟨rfl, rfl, rfl⟩, HO00, hid (fun k e => by have : k = w.heap.size := (Option.some.inj e).symm; omega), HM00, HB00⟩
  case round =>
    obtain ⟨K, L, Z, st, rfl, rfl, hK, HO, HAP, HM, HB⟩ := hrel
    rename World => wr
    have hsz := HB.out.size
    have hgm := HM.out.lt (w.heap.size + 1) rfl
    obtain ⟨j0, j1, j2⟩ := HK.out wr HB.out
    rcases hK with ⟨rfl, hL, rfl⟩ | ⟨rfl, hL, rfl⟩ | ⟨rfl, hL, rfl⟩ | ⟨rfl, rfl, rfl⟩
    · have hll : L.length = 0 := by rw [hL]; rfl
      have HL := hid hL
      have FACT : ∀ (v' : Value) (w3 : World), w3.ownsRow w.heap.size 3 1 v' (L.length + 1) (L.map (Value.int .i64) ++ [.int .i64 A]) → (wr.alloc (.cells #[.int .i64 A] 3)).grownBy w3 st.ownBlock → (v'.ownBlock = st.ownBlock ∨ v'.ownBlock = some (wr.alloc (.cells #[.int .i64 A] 3)).heap.size) →
          w3.cell? ⟨w.heap.size + 1, 1, none⟩ = some (.int .i64 (1)) ∧ w3.frozen? ⟨w.heap.size + 1, 1, none⟩ = false ∧ (w3.setCell ⟨w.heap.size + 1, 1, none⟩ (.int .i64 ((r : Int)))).cell? ⟨w.heap.size + 1, 2, none⟩ = some (.int .i64 (1)) ∧ (w3.setCell ⟨w.heap.size + 1, 1, none⟩ (.int .i64 ((r : Int)))).frozen? ⟨w.heap.size + 1, 2, none⟩ = false ∧ w.heap.size + 1 < w3.heap.size ∧ Hid (Owns ((w3.setCell ⟨w.heap.size + 1, 1, none⟩ (.int .i64 ((r : Int)))).setCell ⟨w.heap.size + 1, 2, none⟩ (.int .i64 ((r : Int)))) w.heap.size v' [A]) ∧ Hid (Apart v' (w.heap.size + 1)) ∧ Hid (Owns ((w3.setCell ⟨w.heap.size + 1, 1, none⟩ (.int .i64 ((r : Int)))).setCell ⟨w.heap.size + 1, 2, none⟩ (.int .i64 ((r : Int)))) w.heap.size (.slice (some ⟨w.heap.size + 1, 0, none⟩) 3 3) [1, (r : Int), (r : Int)]) ∧ Hid (Below w.heap.size w ((w3.setCell ⟨w.heap.size + 1, 1, none⟩ (.int .i64 ((r : Int)))).setCell ⟨w.heap.size + 1, 2, none⟩ (.int .i64 ((r : Int))))) := fun v' w3 hown' hgrow hat => by
        have hsg := hgrow.size
        simp only [World.size_alloc] at hsg
        have HO2' : Owns w3 w.heap.size v' (L ++ [A]) := by unfold Owns; simpa using hown'
        have HO2 : Owns w3 w.heap.size v' [A] := by have h := HO2'; rw [hL] at h; exact h
        have HAP2 : Apart v' (w.heap.size + 1) := fun k e => by
          rcases hat with h | h
          · exact HAP.out k (h.symm.trans e)
          · have : k = (wr.alloc (.cells #[.int .i64 A] 3)).heap.size := Option.some.inj (e.symm.trans h)
            rw [this]; simp; omega
        have HM2 : Owns w3 w.heap.size (.slice (some ⟨w.heap.size + 1, 0, none⟩) 3 3) [1, 1, 1] := (World.ownsRow.kept (show World.ownsRow _ _ _ _ _ _ _ from HM.out.alloc (.cells #[.int .i64 A] 3)) hgrow (.inr (fun e2 => HAP.out (w.heap.size + 1) e2.symm rfl)))
        have HB2 := (HB.out.alloc hsz (.cells #[.int .i64 A] 3)).grown hgrow (by simp; omega) (fun k e => (HO.out.ge k e))
        have q1 : w3.cell? ⟨w.heap.size + 1, 1, none⟩ = some (.int .i64 (1)) := HM2.elem (i := 1) (by simp)
        have f1 := HM2.thaw 1
        have HS1 := HM2.storeAt 1 ((r : Int))
        have HM3 : Owns (w3.setCell ⟨w.heap.size + 1, 1, none⟩ (.int .i64 ((r : Int)))) w.heap.size (.slice (some ⟨w.heap.size + 1, 0, none⟩) 3 3) [1, (r : Int), 1] := HS1.1
        have q2 : (w3.setCell ⟨w.heap.size + 1, 1, none⟩ (.int .i64 ((r : Int)))).cell? ⟨w.heap.size + 1, 2, none⟩ = some (.int .i64 (1)) := HM3.elem (i := 2) (by simp)
        have f2 := HM3.thaw 2
        have HS2 := HM3.storeAt 2 ((r : Int))
        have HM4 : Owns ((w3.setCell ⟨w.heap.size + 1, 1, none⟩ (.int .i64 ((r : Int)))).setCell ⟨w.heap.size + 1, 2, none⟩ (.int .i64 ((r : Int)))) w.heap.size (.slice (some ⟨w.heap.size + 1, 0, none⟩) 3 3) [1, (r : Int), (r : Int)] := HS2.1
        have HO4 := (HO2.other HS1.2 HAP2).other HS2.2 HAP2
        have HB3 := HB2.grown HS1.2 HB2.size (fun k e => by cases e; omega)
        have HB4 := HB3.grown HS2.2 HB3.size (fun k e => by cases e; omega)
        exact ⟨q1, f1, q2, f2, by omega, hid HO4, hid HAP2, hid HM4, hid HB4⟩
      have HF := hid FACT
      clear hL FACT
      go_wp2_with (first | (go_at_call 76; refine (l1CoreG_any _ HA0.out (by omega) (by omega) _).mono ?_; rw [QA.out, QR.out]; rintro e w' ⟨rfl, rfl⟩) | (at_builtin; refine wpList_append_own_at _ rfl _ _ 23 rfl w.heap.size 3 i0 (.int .i64 0) 1 8 Try.underlying23 hi hz0 hz1 hz2 rfl (by decide) _ _ _ rfl ((show World.ownsRow _ _ _ _ _ _ _ from HO.out).alloc _) ⟨wr.heap.size, 0, none⟩ 1 1 [.int .i64 A] rfl rfl (cell_one_new _ _ _) (by simp [Value.oneCell']) (by unfold maxLen; omega) (by omega) (by simp; omega) ?_; intro v' w3 hown' hgrow _ hat; obtain ⟨q1, f1, q2, f2, hgl3, HO4, HAP2, HM4, HB4⟩ := HF.out _ _ hown' hgrow hat; clear hown' hgrow hat))
      go_roundw
      case measure => simp only [intOf]; omega
      case rel => exact ⟨1, [A], [1, (r : Int), (r : Int)], _, rfl, by first | rfl | go_num, .inr (.inl ⟨rfl, rfl, rfl⟩), HO4, HAP2, HM4, HB4⟩
    · have hll : L.length = 1 := by rw [hL]; rfl
      have HL := hid hL
      have FACT : ∀ (v' : Value) (w3 : World), w3.ownsRow w.heap.size 3 1 v' (L.length + 1) (L.map (Value.int .i64) ++ [.int .i64 B]) → (wr.alloc (.cells #[.int .i64 B] 3)).grownBy w3 st.ownBlock → (v'.ownBlock = st.ownBlock ∨ v'.ownBlock = some (wr.alloc (.cells #[.int .i64 B] 3)).heap.size) →
          w3.cell? ⟨w.heap.size + 1, 2, none⟩ = some (.int .i64 ((r : Int))) ∧ w3.frozen? ⟨w.heap.size + 1, 2, none⟩ = false ∧ (w3.setCell ⟨w.heap.size + 1, 2, none⟩ (.int .i64 ((r : Int) * s))).cell? ⟨w.heap.size + 1, 0, none⟩ = some (.int .i64 (1)) ∧ (w3.setCell ⟨w.heap.size + 1, 2, none⟩ (.int .i64 ((r : Int) * s))).frozen? ⟨w.heap.size + 1, 0, none⟩ = false ∧ w.heap.size + 1 < w3.heap.size ∧ Hid (Owns ((w3.setCell ⟨w.heap.size + 1, 2, none⟩ (.int .i64 ((r : Int) * s))).setCell ⟨w.heap.size + 1, 0, none⟩ (.int .i64 ((s : Int)))) w.heap.size v' [A, B]) ∧ Hid (Apart v' (w.heap.size + 1)) ∧ Hid (Owns ((w3.setCell ⟨w.heap.size + 1, 2, none⟩ (.int .i64 ((r : Int) * s))).setCell ⟨w.heap.size + 1, 0, none⟩ (.int .i64 ((s : Int)))) w.heap.size (.slice (some ⟨w.heap.size + 1, 0, none⟩) 3 3) [(s : Int), (r : Int), (r : Int) * s]) ∧ Hid (Below w.heap.size w ((w3.setCell ⟨w.heap.size + 1, 2, none⟩ (.int .i64 ((r : Int) * s))).setCell ⟨w.heap.size + 1, 0, none⟩ (.int .i64 ((s : Int))))) := fun v' w3 hown' hgrow hat => by
        have hsg := hgrow.size
        simp only [World.size_alloc] at hsg
        have HO2' : Owns w3 w.heap.size v' (L ++ [B]) := by unfold Owns; simpa using hown'
        have HO2 : Owns w3 w.heap.size v' [A, B] := by have h := HO2'; rw [hL] at h; exact h
        have HAP2 : Apart v' (w.heap.size + 1) := fun k e => by
          rcases hat with h | h
          · exact HAP.out k (h.symm.trans e)
          · have : k = (wr.alloc (.cells #[.int .i64 B] 3)).heap.size := Option.some.inj (e.symm.trans h)
            rw [this]; simp; omega
        have HM2 : Owns w3 w.heap.size (.slice (some ⟨w.heap.size + 1, 0, none⟩) 3 3) [1, (r : Int), (r : Int)] := (World.ownsRow.kept (show World.ownsRow _ _ _ _ _ _ _ from HM.out.alloc (.cells #[.int .i64 B] 3)) hgrow (.inr (fun e2 => HAP.out (w.heap.size + 1) e2.symm rfl)))
        have HB2 := (HB.out.alloc hsz (.cells #[.int .i64 B] 3)).grown hgrow (by simp; omega) (fun k e => (HO.out.ge k e))
        have q1 : w3.cell? ⟨w.heap.size + 1, 2, none⟩ = some (.int .i64 ((r : Int))) := HM2.elem (i := 2) (by simp)
        have f1 := HM2.thaw 2
        have HS1 := HM2.storeAt 2 ((r : Int) * s)
        have HM3 : Owns (w3.setCell ⟨w.heap.size + 1, 2, none⟩ (.int .i64 ((r : Int) * s))) w.heap.size (.slice (some ⟨w.heap.size + 1, 0, none⟩) 3 3) [1, (r : Int), (r : Int) * s] := HS1.1
        have q2 : (w3.setCell ⟨w.heap.size + 1, 2, none⟩ (.int .i64 ((r : Int) * s))).cell? ⟨w.heap.size + 1, 0, none⟩ = some (.int .i64 (1)) := HM3.elem (i := 0) (by simp)
        have f2 := HM3.thaw 0
        have HS2 := HM3.storeAt 0 ((s : Int))
        have HM4 : Owns ((w3.setCell ⟨w.heap.size + 1, 2, none⟩ (.int .i64 ((r : Int) * s))).setCell ⟨w.heap.size + 1, 0, none⟩ (.int .i64 ((s : Int)))) w.heap.size (.slice (some ⟨w.heap.size + 1, 0, none⟩) 3 3) [(s : Int), (r : Int), (r : Int) * s] := HS2.1
        have HO4 := (HO2.other HS1.2 HAP2).other HS2.2 HAP2
        have HB3 := HB2.grown HS1.2 HB2.size (fun k e => by cases e; omega)
        have HB4 := HB3.grown HS2.2 HB3.size (fun k e => by cases e; omega)
        exact ⟨q1, f1, q2, f2, by omega, hid HO4, hid HAP2, hid HM4, hid HB4⟩
      have HF := hid FACT
      clear hL FACT
      go_wp2_with (first | (go_at_call 76; refine (l1CoreG_any _ HB0.out (by omega) (by omega) _).mono ?_; rw [QB.out, QS.out]; rintro e w' ⟨rfl, rfl⟩) | (at_builtin; refine wpList_append_own_at _ rfl _ _ 23 rfl w.heap.size 3 i0 (.int .i64 0) 1 8 Try.underlying23 hi hz0 hz1 hz2 rfl (by decide) _ _ _ rfl ((show World.ownsRow _ _ _ _ _ _ _ from HO.out).alloc _) ⟨wr.heap.size, 0, none⟩ 1 1 [.int .i64 B] rfl rfl (cell_one_new _ _ _) (by simp [Value.oneCell']) (by unfold maxLen; omega) (by omega) (by simp; omega) ?_; intro v' w3 hown' hgrow _ hat; obtain ⟨q1, f1, q2, f2, hgl3, HO4, HAP2, HM4, HB4⟩ := HF.out _ _ hown' hgrow hat; clear hown' hgrow hat))
      go_roundw
      case measure => simp only [intOf]; omega
      case rel => exact ⟨2, [A, B], [(s : Int), (r : Int), (r : Int) * s], _, rfl, by first | rfl | go_num, .inr (.inr (.inl ⟨rfl, rfl, rfl⟩)), HO4, HAP2, HM4, HB4⟩
    · have hll : L.length = 2 := by rw [hL]; rfl
      have HL := hid hL
      have FACT : ∀ (v' : Value) (w3 : World), w3.ownsRow w.heap.size 3 1 v' (L.length + 1) (L.map (Value.int .i64) ++ [.int .i64 C]) → (wr.alloc (.cells #[.int .i64 C] 3)).grownBy w3 st.ownBlock → (v'.ownBlock = st.ownBlock ∨ v'.ownBlock = some (wr.alloc (.cells #[.int .i64 C] 3)).heap.size) →
          w3.cell? ⟨w.heap.size + 1, 0, none⟩ = some (.int .i64 ((s : Int))) ∧ w3.frozen? ⟨w.heap.size + 1, 0, none⟩ = false ∧ (w3.setCell ⟨w.heap.size + 1, 0, none⟩ (.int .i64 ((s : Int) * q))).cell? ⟨w.heap.size + 1, 1, none⟩ = some (.int .i64 ((r : Int))) ∧ (w3.setCell ⟨w.heap.size + 1, 0, none⟩ (.int .i64 ((s : Int) * q))).frozen? ⟨w.heap.size + 1, 1, none⟩ = false ∧ w.heap.size + 1 < w3.heap.size ∧ Hid (Owns ((w3.setCell ⟨w.heap.size + 1, 0, none⟩ (.int .i64 ((s : Int) * q))).setCell ⟨w.heap.size + 1, 1, none⟩ (.int .i64 ((r : Int) * q))) w.heap.size v' [A, B, C]) ∧ Hid (Apart v' (w.heap.size + 1)) ∧ Hid (Owns ((w3.setCell ⟨w.heap.size + 1, 0, none⟩ (.int .i64 ((s : Int) * q))).setCell ⟨w.heap.size + 1, 1, none⟩ (.int .i64 ((r : Int) * q))) w.heap.size (.slice (some ⟨w.heap.size + 1, 0, none⟩) 3 3) [(s : Int) * q, (r : Int) * q, (r : Int) * s]) ∧ Hid (Below w.heap.size w ((w3.setCell ⟨w.heap.size + 1, 0, none⟩ (.int .i64 ((s : Int) * q))).setCell ⟨w.heap.size + 1, 1, none⟩ (.int .i64 ((r : Int) * q)))) := fun v' w3 hown' hgrow hat => by
        have hsg := hgrow.size
        simp only [World.size_alloc] at hsg
        have HO2' : Owns w3 w.heap.size v' (L ++ [C]) := by unfold Owns; simpa using hown'
        have HO2 : Owns w3 w.heap.size v' [A, B, C] := by have h := HO2'; rw [hL] at h; exact h
        have HAP2 : Apart v' (w.heap.size + 1) := fun k e => by
          rcases hat with h | h
          · exact HAP.out k (h.symm.trans e)
          · have : k = (wr.alloc (.cells #[.int .i64 C] 3)).heap.size := Option.some.inj (e.symm.trans h)
            rw [this]; simp; omega
        have HM2 : Owns w3 w.heap.size (.slice (some ⟨w.heap.size + 1, 0, none⟩) 3 3) [(s : Int), (r : Int), (r : Int) * s] := (World.ownsRow.kept (show World.ownsRow _ _ _ _ _ _ _ from HM.out.alloc (.cells #[.int .i64 C] 3)) hgrow (.inr (fun e2 => HAP.out (w.heap.size + 1) e2.symm rfl)))
        have HB2 := (HB.out.alloc hsz (.cells #[.int .i64 C] 3)).grown hgrow (by simp; omega) (fun k e => (HO.out.ge k e))
        have q1 : w3.cell? ⟨w.heap.size + 1, 0, none⟩ = some (.int .i64 ((s : Int))) := HM2.elem (i := 0) (by simp)
        have f1 := HM2.thaw 0
        have HS1 := HM2.storeAt 0 ((s : Int) * q)
        have HM3 : Owns (w3.setCell ⟨w.heap.size + 1, 0, none⟩ (.int .i64 ((s : Int) * q))) w.heap.size (.slice (some ⟨w.heap.size + 1, 0, none⟩) 3 3) [(s : Int) * q, (r : Int), (r : Int) * s] := HS1.1
        have q2 : (w3.setCell ⟨w.heap.size + 1, 0, none⟩ (.int .i64 ((s : Int) * q))).cell? ⟨w.heap.size + 1, 1, none⟩ = some (.int .i64 ((r : Int))) := HM3.elem (i := 1) (by simp)
        have f2 := HM3.thaw 1
        have HS2 := HM3.storeAt 1 ((r : Int) * q)
        have HM4 : Owns ((w3.setCell ⟨w.heap.size + 1, 0, none⟩ (.int .i64 ((s : Int) * q))).setCell ⟨w.heap.size + 1, 1, none⟩ (.int .i64 ((r : Int) * q))) w.heap.size (.slice (some ⟨w.heap.size + 1, 0, none⟩) 3 3) [(s : Int) * q, (r : Int) * q, (r : Int) * s] := HS2.1
        have HO4 := (HO2.other HS1.2 HAP2).other HS2.2 HAP2
        have HB3 := HB2.grown HS1.2 HB2.size (fun k e => by cases e; omega)
        have HB4 := HB3.grown HS2.2 HB3.size (fun k e => by cases e; omega)
        exact ⟨q1, f1, q2, f2, by omega, hid HO4, hid HAP2, hid HM4, hid HB4⟩
      have HF := hid FACT
      clear hL FACT
      go_wp2_with (first | (go_at_call 76; refine (l1CoreG_any _ HC0.out (by omega) (by omega) _).mono ?_; rw [QC.out, QQ.out]; rintro e w' ⟨rfl, rfl⟩) | (at_builtin; refine wpList_append_own_at _ rfl _ _ 23 rfl w.heap.size 3 i0 (.int .i64 0) 1 8 Try.underlying23 hi hz0 hz1 hz2 rfl (by decide) _ _ _ rfl ((show World.ownsRow _ _ _ _ _ _ _ from HO.out).alloc _) ⟨wr.heap.size, 0, none⟩ 1 1 [.int .i64 C] rfl rfl (cell_one_new _ _ _) (by simp [Value.oneCell']) (by unfold maxLen; omega) (by omega) (by simp; omega) ?_; intro v' w3 hown' hgrow _ hat; obtain ⟨q1, f1, q2, f2, hgl3, HO4, HAP2, HM4, HB4⟩ := HF.out _ _ hown' hgrow hat; clear hown' hgrow hat))
      go_roundw
      case measure => simp only [intOf]; omega
      case rel => exact ⟨3, [A, B, C], [(s : Int) * q, (r : Int) * q, (r : Int) * s], _, rfl, by first | rfl | go_num, .inr (.inr (.inr (⟨rfl, rfl, rfl⟩))), HO4, HAP2, HM4, HB4⟩
    · obtain ⟨gt, ct, rfl, hgt, hgl⟩ := HO.out.block_of (by simp)
      have HNE : Hid (gt ≠ w.heap.size + 1) := hid (HAP.out gt rfl)
      have HD := hid HOK.out.desc
      rw [ET.out, EM.out] at HD
      have HDZ := hid HD.out.nz
      have HDL := hid (T3.le HD.out.nz HD.out.prod)
      have HTW := hid (l5Two_any _ A B C HDZ.out.1 HDZ.out.2.1 HDZ.out.2.2 (by have := HDL.out.1; dsimp only at this; omega) (by have := HDL.out.1; dsimp only at this; omega) (by have := HDL.out.2.1; dsimp only at this; omega) (by have := HDL.out.2.1; dsimp only at this; omega) (by have := HDL.out.2.2; dsimp only at this; omega) (by have := HDL.out.2.2; dsimp only at this; omega) wr HO.out.rd)
      go_wp2_with fail
      refine (HTW.out).mono ?_
      rintro e w2 ⟨rfl, hb2⟩
      have HO2 := hid (HO.out.keep HO.out.lt hb2)
      have HM2 := hid (HM.out.keep HM.out.lt hb2)
      have HB2 := hid (HB.out.trans (hb2.mono hsz))
      clear hb2 HTW HDZ HDL HO HM HB HAP
      go_wp2_with fail
      go_loopg [9, 10] 20 (NormRel a b c w gt ct (w.heap.size + 1) 3)
      case atStart => exact ⟨⟨A, B, C⟩, ⟨(s : Int) * q, (r : Int) * q, (r : Int) * s⟩, rfl, rfl, HD, HO2, HM2, HB2⟩
      case round =>
        obtain ⟨t, m, rfl, rfl, HD, HO, HM, HB⟩ := hrel
        rename World => wx
        have hsx := HB.out.size
        have hgtx := HO.out.lt gt rfl
        have hgmx := HM.out.lt (w.heap.size + 1) rfl
        by_cases h1 : twoD t.a t.b t.c = 1
        · have hst := HD.out.stop h1
          have HO3 : Hid (Owns wx w.heap.size (.slice (some ⟨gt, 0, none⟩) 3 ct) (nT a b c).toL) := hid (by rw [hst.1]; exact HO.out)
          have HM3 : Hid (Owns wx w.heap.size (.slice (some ⟨w.heap.size + 1, 0, none⟩) 3 3) (nM a b c).toL) := hid (by rw [hst.2]; exact HM.out)
          rw [h1]
          clear hst h1
          go_wp2_with fail
          go_ret2
          exact ⟨_, _, rfl, HO3.out, HM3.out, ⟨gt, w.heap.size + 1, rfl, rfl, HNE.out⟩, HB.out⟩
        · obtain ⟨f', rfl, hds⟩ := HD.out.step h1
          have hle := T3.le HD.out.nz HD.out.prod
          have hml := HD.out.inv.le HD.out.nz
          have hpl := two_le HD.out.nz HD.out.prod
          have hcs := two_cases t.a t.b t.c
          have hk2 := step_k2 (t := t) (m := m)
          have hk1 := step_k1 (t := t) (m := m)
          have hk0 := step_k0 (t := t) (m := m)
          have hst := (step_prod h1).2
          have HZ2 := hid (hds.nz)
          have HL2 := hid (T3.le hds.nz hds.prod)
          have HDS := hid hds
          obtain ⟨p, hp⟩ : ∃ p, p = twoD t.a t.b t.c := ⟨_, rfl⟩
          rw [← hp] at hpl hcs hk2 hk1 hk0 hst h1 ⊢
          obtain ⟨ta, tb, tc⟩ := t
          obtain ⟨ma, mb, mc⟩ := m
          dsimp only at hle hml hcs hk2 hk1 hk0 hp ⊢
          obtain ⟨⟨ta1, ta2⟩, ⟨tb1, tb2⟩, tc1, tc2⟩ := hle
          obtain ⟨⟨ma1, ma2⟩, ⟨mb1, mb2⟩, mc1, mc2⟩ := hml
          have hp1 : (1 : Int) < (p : Int) := by omega
          have P0 : ((p : Int) == 0) = false := by rw [beq_eq_false_iff_ne]; omega
          have HO' : Owns wx w.heap.size (.slice (some ⟨gt, 0, none⟩) 3 ct) [ta, tb, tc] := HO.out
          have HM' : Owns wx w.heap.size (.slice (some ⟨w.heap.size + 1, 0, none⟩) 3 3) [ma, mb, mc] := HM.out
          have da := tdiv_le (p := p) ta1 ta2
          have db := tdiv_le (p := p) tb1 tb2
          have dc := tdiv_le (p := p) tc1 tc2
          have da1 := da.1
          have da2 := da.2
          have db1 := db.1
          have db2 := db.2
          have dc1 := dc.1
          have dc2 := dc.2
          have mpa := mulp_le (p := p) ta1 ta2 hpl
          have mpb := mulp_le (p := p) tb1 tb2 hpl
          have mpc := mulp_le (p := p) tc1 tc2 hpl
          have nma := mulp_le (p := p) (x := ma) (by omega) (by omega) hpl
          have nmb := mulp_le (p := p) (x := mb) (by omega) (by omega) hpl
          have nmc := mulp_le (p := p) (x := mc) (by omega) (by omega) hpl
          have mpa1 := mpa.1
          have mpa2 := mpa.2
          have mpb1 := mpb.1
          have mpb2 := mpb.2
          have mpc1 := mpc.1
          have mpc2 := mpc.2
          have nma1 := nma.1
          have nma2 := nma.2
          have nmb1 := nmb.1
          have nmb2 := nmb.2
          have nmc1 := nmc.1
          have nmc2 := nmc.2
          have HHP := hid hp
          have HNE1 := HNE.out
          have HOO := hid HO'
          have HMM := hid HM'
          clear da db dc mpa mpb mpc nma nmb nmc hds hp HO HM HO' HM' HD
          rcases hcs with ⟨e, _⟩ | ⟨_, hcs⟩
          · exact absurd e h1
          have hcs2 : twoK ta tb tc = 2 ∨ twoK ta tb tc = 1 ∨ twoK ta tb tc = 0 := by
            rcases hcs with ⟨h, _⟩ | ⟨h, _⟩ | ⟨h, _⟩
            · exact .inl h
            · exact .inr (.inl h)
            · exact .inr (.inr h)
          clear hcs h1 hst
          rcases hcs2 with hk | hk | hk
          · have hE := hk2 hk
            rw [hk]
            clear hk hk0 hk1 hk2
            rw [hE.1, hE.2] at HDS
            rw [hE.1] at HZ2 HL2
            clear hE
            have o1 := HOO.out.elem (i := 0) (by simp)
            have f1 := HOO.out.thaw 0
            have HS1 := hid (HOO.out.storeAt 0 (ta.tdiv (p : Int)))
            obtain ⟨w1, hw1⟩ : ∃ w1, w1 = wx.setCell ⟨gt, 0, none⟩ (.int .i64 (ta.tdiv (p : Int))) := ⟨_, rfl⟩
            rw [← hw1] at HS1
            have o2 := HS1.out.1.elem (i := 1) (by simp)
            have f2 := HS1.out.1.thaw 1
            have HS2 := hid (HS1.out.1.storeAt 1 (tb.tdiv (p : Int)))
            have HMA := hid (HMM.out.other HS1.out.2 (fun k e => by cases e; exact fun h => HNE1 h.symm))
            have HBA := hid (HB.out.grown HS1.out.2 HB.out.size (fun k e => by cases e; exact hgt))
            obtain ⟨w2, hw2⟩ : ∃ w2, w2 = w1.setCell ⟨gt, 1, none⟩ (.int .i64 (tb.tdiv (p : Int))) := ⟨_, rfl⟩
            rw [← hw2] at HS2
            have o3 := HS2.out.1.elem (i := 2) (by simp)
            have f3 := HS2.out.1.thaw 2
            have HMB := hid (HMA.out.other HS2.out.2 (fun k e => by cases e; exact fun h => HNE1 h.symm))
            have HBB := hid (HBA.out.grown HS2.out.2 HBA.out.size (fun k e => by cases e; exact hgt))
            have z3 := HMB.out.elem (i := 2) (by simp)
            have g3 := HMB.out.thaw 2
            simp only [List.set_cons_zero, List.set_cons_succ, List.getD_cons_zero, List.getD_cons_succ] at o1 o2 o3 z3
            have TZ := tmod_zero (n := tc) (c := (p : Int))
            have hsw1 : wx.setCell ⟨gt, 0, none⟩ (.int .i64 (ta.tdiv (p : Int))) = w1 := hw1.symm
            have hsw2 : w1.setCell ⟨gt, 1, none⟩ (.int .i64 (tb.tdiv (p : Int))) = w2 := hw2.symm
            have hgt2 : gt < w2.heap.size := HS2.out.1.lt gt rfl
            by_cases hd : tc.tmod (p : Int) = 0
            · have TD : (tc.tmod (p : Int) == 0) = true := by rw [beq_iff_eq]; exact hd
              have E3 : thirdI tc p = tc.tdiv (p : Int) := by unfold thirdI; rw [if_pos (TZ.1 hd)]
              have E4 : thirdM tc p mc = mc := by unfold thirdM; rw [if_pos (TZ.1 hd)]
              rw [E3, E4] at HDS
              rw [E3] at HZ2 HL2
              have HS3 := hid (HS2.out.1.storeAt 2 (tc.tdiv (p : Int)))
              have HMC := hid (HMB.out.other HS3.out.2 (fun k e => by cases e; exact fun h => HNE1 h.symm))
              have HBC := hid (HBB.out.grown HS3.out.2 HBB.out.size (fun k e => by cases e; exact hgt))
              obtain ⟨w3, hw3⟩ : ∃ w3, w3 = w2.setCell ⟨gt, 2, none⟩ (.int .i64 (tc.tdiv (p : Int))) := ⟨_, rfl⟩
              rw [← hw3] at HS3 HMC HBC
              have hsw3 : w2.setCell ⟨gt, 2, none⟩ (.int .i64 (tc.tdiv (p : Int))) = w3 := hw3.symm
              have HTW := hid (l5Two_any _ (ta.tdiv (p : Int)) (tb.tdiv (p : Int)) (tc.tdiv (p : Int)) HZ2.out.1 HZ2.out.2.1 HZ2.out.2.2 (by have h : -27000 ≤ (ta.tdiv (p : Int)) := HL2.out.1.1; omega) (by have h : (ta.tdiv (p : Int)) ≤ 27000 := HL2.out.1.2; omega) (by have h : -27000 ≤ (tb.tdiv (p : Int)) := HL2.out.2.1.1; omega) (by have h : (tb.tdiv (p : Int)) ≤ 27000 := HL2.out.2.1.2; omega) (by have h : -27000 ≤ (tc.tdiv (p : Int)) := HL2.out.2.2.1; omega) (by have h : (tc.tdiv (p : Int)) ≤ 27000 := HL2.out.2.2.2; omega) w3 HS3.out.1.rd)
              have HSO := hid HS3.out.1
              have hs3 := HBC.out.size
              clear hw1 hw2 hw3 HS1 HS2 HS3 HMA HMB HBA HBB E3 E4 TZ hd
              go_wp2_with fail
              refine (HTW.out).mono ?_
              rintro e w4 ⟨rfl, hb4⟩
              have HO4 := hid (HSO.out.keep HSO.out.lt hb4)
              have HM4 := hid (HMC.out.keep HMC.out.lt hb4)
              have HB4 := hid (HBC.out.trans (hb4.mono hs3))
              clear hb4 HTW
              go_wp2_with fail
              go_roundg f'
              case measure => omega
              case rel => exact ⟨_, _, rfl, rfl, HDS, HO4, HM4, HB4⟩
            · have TD : (tc.tmod (p : Int) == 0) = false := by rw [beq_eq_false_iff_ne]; exact hd
              have E3 : thirdI tc p = tc * (p : Int) := by unfold thirdI; rw [if_neg (fun h => hd (TZ.2 h))]
              have E4 : thirdM tc p mc = mc * (p : Int) := by unfold thirdM; rw [if_neg (fun h => hd (TZ.2 h))]
              rw [E3, E4] at HDS
              rw [E3] at HZ2 HL2
              have HS3 := hid (HS2.out.1.storeAt 2 (tc * (p : Int)))
              have HMC := hid (HMB.out.other HS3.out.2 (fun k e => by cases e; exact fun h => HNE1 h.symm))
              have HBC := hid (HBB.out.grown HS3.out.2 HBB.out.size (fun k e => by cases e; exact hgt))
              obtain ⟨w3, hw3⟩ : ∃ w3, w3 = w2.setCell ⟨gt, 2, none⟩ (.int .i64 (tc * (p : Int))) := ⟨_, rfl⟩
              rw [← hw3] at HS3 HMC HBC
              have hsw3 : w2.setCell ⟨gt, 2, none⟩ (.int .i64 (tc * (p : Int))) = w3 := hw3.symm
              have z4 : w3.cell? ⟨w.heap.size + 1, 2, none⟩ = some (.int .i64 mc) := HMC.out.elem (i := 2) (by simp)
              have g4 := HMC.out.thaw 2
              have HS4 := hid (HMC.out.storeAt 2 (mc * (p : Int)))
              have HOD := hid (HS3.out.1.other HS4.out.2 (fun k e => by cases e; exact HNE1))
              have HBD := hid (HBC.out.grown HS4.out.2 HBC.out.size (fun k e => by cases e; omega))
              obtain ⟨w5, hw5⟩ : ∃ w5, w5 = w3.setCell ⟨w.heap.size + 1, 2, none⟩ (.int .i64 (mc * (p : Int))) := ⟨_, rfl⟩
              rw [← hw5] at HS4 HOD HBD
              have hsw5 : w3.setCell ⟨w.heap.size + 1, 2, none⟩ (.int .i64 (mc * (p : Int))) = w5 := hw5.symm
              have HTW := hid (l5Two_any _ (ta.tdiv (p : Int)) (tb.tdiv (p : Int)) (tc * (p : Int)) HZ2.out.1 HZ2.out.2.1 HZ2.out.2.2 (by have h : -27000 ≤ (ta.tdiv (p : Int)) := HL2.out.1.1; omega) (by have h : (ta.tdiv (p : Int)) ≤ 27000 := HL2.out.1.2; omega) (by have h : -27000 ≤ (tb.tdiv (p : Int)) := HL2.out.2.1.1; omega) (by have h : (tb.tdiv (p : Int)) ≤ 27000 := HL2.out.2.1.2; omega) (by have h : -27000 ≤ (tc * (p : Int)) := HL2.out.2.2.1; omega) (by have h : (tc * (p : Int)) ≤ 27000 := HL2.out.2.2.2; omega) w5 HOD.out.rd)
              have HSM := hid HS4.out.1
              have hs5 := HBD.out.size
              clear hw1 hw2 hw3 hw5 HS1 HS2 HS3 HS4 HMA HMB HBA HBB HMC HBC E3 E4 TZ hd
              go_wp2_with fail
              refine (HTW.out).mono ?_
              rintro e w4 ⟨rfl, hb4⟩
              have HO4 := hid (HOD.out.keep HOD.out.lt hb4)
              have HM4 := hid (HSM.out.keep HSM.out.lt hb4)
              have HB4 := hid (HBD.out.trans (hb4.mono hs5))
              clear hb4 HTW
              go_wp2_with fail
              go_roundg f'
              case measure => omega
              case rel => exact ⟨_, _, rfl, rfl, HDS, HO4, HM4, HB4⟩
          · have hE := hk1 hk
            rw [hk]
            clear hk hk0 hk1 hk2
            rw [hE.1, hE.2] at HDS
            rw [hE.1] at HZ2 HL2
            clear hE
            have o1 := HOO.out.elem (i := 2) (by simp)
            have f1 := HOO.out.thaw 2
            have HS1 := hid (HOO.out.storeAt 2 (tc.tdiv (p : Int)))
            obtain ⟨w1, hw1⟩ : ∃ w1, w1 = wx.setCell ⟨gt, 2, none⟩ (.int .i64 (tc.tdiv (p : Int))) := ⟨_, rfl⟩
            rw [← hw1] at HS1
            have o2 := HS1.out.1.elem (i := 0) (by simp)
            have f2 := HS1.out.1.thaw 0
            have HS2 := hid (HS1.out.1.storeAt 0 (ta.tdiv (p : Int)))
            have HMA := hid (HMM.out.other HS1.out.2 (fun k e => by cases e; exact fun h => HNE1 h.symm))
            have HBA := hid (HB.out.grown HS1.out.2 HB.out.size (fun k e => by cases e; exact hgt))
            obtain ⟨w2, hw2⟩ : ∃ w2, w2 = w1.setCell ⟨gt, 0, none⟩ (.int .i64 (ta.tdiv (p : Int))) := ⟨_, rfl⟩
            rw [← hw2] at HS2
            have o3 := HS2.out.1.elem (i := 1) (by simp)
            have f3 := HS2.out.1.thaw 1
            have HMB := hid (HMA.out.other HS2.out.2 (fun k e => by cases e; exact fun h => HNE1 h.symm))
            have HBB := hid (HBA.out.grown HS2.out.2 HBA.out.size (fun k e => by cases e; exact hgt))
            have z3 := HMB.out.elem (i := 1) (by simp)
            have g3 := HMB.out.thaw 1
            simp only [List.set_cons_zero, List.set_cons_succ, List.getD_cons_zero, List.getD_cons_succ] at o1 o2 o3 z3
            have TZ := tmod_zero (n := tb) (c := (p : Int))
            have hsw1 : wx.setCell ⟨gt, 2, none⟩ (.int .i64 (tc.tdiv (p : Int))) = w1 := hw1.symm
            have hsw2 : w1.setCell ⟨gt, 0, none⟩ (.int .i64 (ta.tdiv (p : Int))) = w2 := hw2.symm
            have hgt2 : gt < w2.heap.size := HS2.out.1.lt gt rfl
            by_cases hd : tb.tmod (p : Int) = 0
            · have TD : (tb.tmod (p : Int) == 0) = true := by rw [beq_iff_eq]; exact hd
              have E3 : thirdI tb p = tb.tdiv (p : Int) := by unfold thirdI; rw [if_pos (TZ.1 hd)]
              have E4 : thirdM tb p mb = mb := by unfold thirdM; rw [if_pos (TZ.1 hd)]
              rw [E3, E4] at HDS
              rw [E3] at HZ2 HL2
              have HS3 := hid (HS2.out.1.storeAt 1 (tb.tdiv (p : Int)))
              have HMC := hid (HMB.out.other HS3.out.2 (fun k e => by cases e; exact fun h => HNE1 h.symm))
              have HBC := hid (HBB.out.grown HS3.out.2 HBB.out.size (fun k e => by cases e; exact hgt))
              obtain ⟨w3, hw3⟩ : ∃ w3, w3 = w2.setCell ⟨gt, 1, none⟩ (.int .i64 (tb.tdiv (p : Int))) := ⟨_, rfl⟩
              rw [← hw3] at HS3 HMC HBC
              have hsw3 : w2.setCell ⟨gt, 1, none⟩ (.int .i64 (tb.tdiv (p : Int))) = w3 := hw3.symm
              have HTW := hid (l5Two_any _ (ta.tdiv (p : Int)) (tb.tdiv (p : Int)) (tc.tdiv (p : Int)) HZ2.out.1 HZ2.out.2.1 HZ2.out.2.2 (by have h : -27000 ≤ (ta.tdiv (p : Int)) := HL2.out.1.1; omega) (by have h : (ta.tdiv (p : Int)) ≤ 27000 := HL2.out.1.2; omega) (by have h : -27000 ≤ (tb.tdiv (p : Int)) := HL2.out.2.1.1; omega) (by have h : (tb.tdiv (p : Int)) ≤ 27000 := HL2.out.2.1.2; omega) (by have h : -27000 ≤ (tc.tdiv (p : Int)) := HL2.out.2.2.1; omega) (by have h : (tc.tdiv (p : Int)) ≤ 27000 := HL2.out.2.2.2; omega) w3 HS3.out.1.rd)
              have HSO := hid HS3.out.1
              have hs3 := HBC.out.size
              clear hw1 hw2 hw3 HS1 HS2 HS3 HMA HMB HBA HBB E3 E4 TZ hd
              go_wp2_with fail
              refine (HTW.out).mono ?_
              rintro e w4 ⟨rfl, hb4⟩
              have HO4 := hid (HSO.out.keep HSO.out.lt hb4)
              have HM4 := hid (HMC.out.keep HMC.out.lt hb4)
              have HB4 := hid (HBC.out.trans (hb4.mono hs3))
              clear hb4 HTW
              go_wp2_with fail
              go_roundg f'
              case measure => omega
              case rel => exact ⟨_, _, rfl, rfl, HDS, HO4, HM4, HB4⟩
            · have TD : (tb.tmod (p : Int) == 0) = false := by rw [beq_eq_false_iff_ne]; exact hd
              have E3 : thirdI tb p = tb * (p : Int) := by unfold thirdI; rw [if_neg (fun h => hd (TZ.2 h))]
              have E4 : thirdM tb p mb = mb * (p : Int) := by unfold thirdM; rw [if_neg (fun h => hd (TZ.2 h))]
              rw [E3, E4] at HDS
              rw [E3] at HZ2 HL2
              have HS3 := hid (HS2.out.1.storeAt 1 (tb * (p : Int)))
              have HMC := hid (HMB.out.other HS3.out.2 (fun k e => by cases e; exact fun h => HNE1 h.symm))
              have HBC := hid (HBB.out.grown HS3.out.2 HBB.out.size (fun k e => by cases e; exact hgt))
              obtain ⟨w3, hw3⟩ : ∃ w3, w3 = w2.setCell ⟨gt, 1, none⟩ (.int .i64 (tb * (p : Int))) := ⟨_, rfl⟩
              rw [← hw3] at HS3 HMC HBC
              have hsw3 : w2.setCell ⟨gt, 1, none⟩ (.int .i64 (tb * (p : Int))) = w3 := hw3.symm
              have z4 : w3.cell? ⟨w.heap.size + 1, 1, none⟩ = some (.int .i64 mb) := HMC.out.elem (i := 1) (by simp)
              have g4 := HMC.out.thaw 1
              have HS4 := hid (HMC.out.storeAt 1 (mb * (p : Int)))
              have HOD := hid (HS3.out.1.other HS4.out.2 (fun k e => by cases e; exact HNE1))
              have HBD := hid (HBC.out.grown HS4.out.2 HBC.out.size (fun k e => by cases e; omega))
              obtain ⟨w5, hw5⟩ : ∃ w5, w5 = w3.setCell ⟨w.heap.size + 1, 1, none⟩ (.int .i64 (mb * (p : Int))) := ⟨_, rfl⟩
              rw [← hw5] at HS4 HOD HBD
              have hsw5 : w3.setCell ⟨w.heap.size + 1, 1, none⟩ (.int .i64 (mb * (p : Int))) = w5 := hw5.symm
              have HTW := hid (l5Two_any _ (ta.tdiv (p : Int)) (tb * (p : Int)) (tc.tdiv (p : Int)) HZ2.out.1 HZ2.out.2.1 HZ2.out.2.2 (by have h : -27000 ≤ (ta.tdiv (p : Int)) := HL2.out.1.1; omega) (by have h : (ta.tdiv (p : Int)) ≤ 27000 := HL2.out.1.2; omega) (by have h : -27000 ≤ (tb * (p : Int)) := HL2.out.2.1.1; omega) (by have h : (tb * (p : Int)) ≤ 27000 := HL2.out.2.1.2; omega) (by have h : -27000 ≤ (tc.tdiv (p : Int)) := HL2.out.2.2.1; omega) (by have h : (tc.tdiv (p : Int)) ≤ 27000 := HL2.out.2.2.2; omega) w5 HOD.out.rd)
              have HSM := hid HS4.out.1
              have hs5 := HBD.out.size
              clear hw1 hw2 hw3 hw5 HS1 HS2 HS3 HS4 HMA HMB HBA HBB HMC HBC E3 E4 TZ hd
              go_wp2_with fail
              refine (HTW.out).mono ?_
              rintro e w4 ⟨rfl, hb4⟩
              have HO4 := hid (HOD.out.keep HOD.out.lt hb4)
              have HM4 := hid (HSM.out.keep HSM.out.lt hb4)
              have HB4 := hid (HBD.out.trans (hb4.mono hs5))
              clear hb4 HTW
              go_wp2_with fail
              go_roundg f'
              case measure => omega
              case rel => exact ⟨_, _, rfl, rfl, HDS, HO4, HM4, HB4⟩
          · have hE := hk0 hk
            rw [hk]
            clear hk hk0 hk1 hk2
            rw [hE.1, hE.2] at HDS
            rw [hE.1] at HZ2 HL2
            clear hE
            have o1 := HOO.out.elem (i := 1) (by simp)
            have f1 := HOO.out.thaw 1
            have HS1 := hid (HOO.out.storeAt 1 (tb.tdiv (p : Int)))
            obtain ⟨w1, hw1⟩ : ∃ w1, w1 = wx.setCell ⟨gt, 1, none⟩ (.int .i64 (tb.tdiv (p : Int))) := ⟨_, rfl⟩
            rw [← hw1] at HS1
            have o2 := HS1.out.1.elem (i := 2) (by simp)
            have f2 := HS1.out.1.thaw 2
            have HS2 := hid (HS1.out.1.storeAt 2 (tc.tdiv (p : Int)))
            have HMA := hid (HMM.out.other HS1.out.2 (fun k e => by cases e; exact fun h => HNE1 h.symm))
            have HBA := hid (HB.out.grown HS1.out.2 HB.out.size (fun k e => by cases e; exact hgt))
            obtain ⟨w2, hw2⟩ : ∃ w2, w2 = w1.setCell ⟨gt, 2, none⟩ (.int .i64 (tc.tdiv (p : Int))) := ⟨_, rfl⟩
            rw [← hw2] at HS2
            have o3 := HS2.out.1.elem (i := 0) (by simp)
            have f3 := HS2.out.1.thaw 0
            have HMB := hid (HMA.out.other HS2.out.2 (fun k e => by cases e; exact fun h => HNE1 h.symm))
            have HBB := hid (HBA.out.grown HS2.out.2 HBA.out.size (fun k e => by cases e; exact hgt))
            have z3 := HMB.out.elem (i := 0) (by simp)
            have g3 := HMB.out.thaw 0
            simp only [List.set_cons_zero, List.set_cons_succ, List.getD_cons_zero, List.getD_cons_succ] at o1 o2 o3 z3
            have TZ := tmod_zero (n := ta) (c := (p : Int))
            have hsw1 : wx.setCell ⟨gt, 1, none⟩ (.int .i64 (tb.tdiv (p : Int))) = w1 := hw1.symm
            have hsw2 : w1.setCell ⟨gt, 2, none⟩ (.int .i64 (tc.tdiv (p : Int))) = w2 := hw2.symm
            have hgt2 : gt < w2.heap.size := HS2.out.1.lt gt rfl
            by_cases hd : ta.tmod (p : Int) = 0
            · have TD : (ta.tmod (p : Int) == 0) = true := by rw [beq_iff_eq]; exact hd
              have E3 : thirdI ta p = ta.tdiv (p : Int) := by unfold thirdI; rw [if_pos (TZ.1 hd)]
              have E4 : thirdM ta p ma = ma := by unfold thirdM; rw [if_pos (TZ.1 hd)]
              rw [E3, E4] at HDS
              rw [E3] at HZ2 HL2
              have HS3 := hid (HS2.out.1.storeAt 0 (ta.tdiv (p : Int)))
              have HMC := hid (HMB.out.other HS3.out.2 (fun k e => by cases e; exact fun h => HNE1 h.symm))
              have HBC := hid (HBB.out.grown HS3.out.2 HBB.out.size (fun k e => by cases e; exact hgt))
              obtain ⟨w3, hw3⟩ : ∃ w3, w3 = w2.setCell ⟨gt, 0, none⟩ (.int .i64 (ta.tdiv (p : Int))) := ⟨_, rfl⟩
              rw [← hw3] at HS3 HMC HBC
              have hsw3 : w2.setCell ⟨gt, 0, none⟩ (.int .i64 (ta.tdiv (p : Int))) = w3 := hw3.symm
              have HTW := hid (l5Two_any _ (ta.tdiv (p : Int)) (tb.tdiv (p : Int)) (tc.tdiv (p : Int)) HZ2.out.1 HZ2.out.2.1 HZ2.out.2.2 (by have h : -27000 ≤ (ta.tdiv (p : Int)) := HL2.out.1.1; omega) (by have h : (ta.tdiv (p : Int)) ≤ 27000 := HL2.out.1.2; omega) (by have h : -27000 ≤ (tb.tdiv (p : Int)) := HL2.out.2.1.1; omega) (by have h : (tb.tdiv (p : Int)) ≤ 27000 := HL2.out.2.1.2; omega) (by have h : -27000 ≤ (tc.tdiv (p : Int)) := HL2.out.2.2.1; omega) (by have h : (tc.tdiv (p : Int)) ≤ 27000 := HL2.out.2.2.2; omega) w3 HS3.out.1.rd)
              have HSO := hid HS3.out.1
              have hs3 := HBC.out.size
              clear hw1 hw2 hw3 HS1 HS2 HS3 HMA HMB HBA HBB E3 E4 TZ hd
              go_wp2_with fail
              refine (HTW.out).mono ?_
              rintro e w4 ⟨rfl, hb4⟩
              have HO4 := hid (HSO.out.keep HSO.out.lt hb4)
              have HM4 := hid (HMC.out.keep HMC.out.lt hb4)
              have HB4 := hid (HBC.out.trans (hb4.mono hs3))
              clear hb4 HTW
              go_wp2_with fail
              go_roundg f'
              case measure => omega
              case rel => exact ⟨_, _, rfl, rfl, HDS, HO4, HM4, HB4⟩
            · have TD : (ta.tmod (p : Int) == 0) = false := by rw [beq_eq_false_iff_ne]; exact hd
              have E3 : thirdI ta p = ta * (p : Int) := by unfold thirdI; rw [if_neg (fun h => hd (TZ.2 h))]
              have E4 : thirdM ta p ma = ma * (p : Int) := by unfold thirdM; rw [if_neg (fun h => hd (TZ.2 h))]
              rw [E3, E4] at HDS
              rw [E3] at HZ2 HL2
              have HS3 := hid (HS2.out.1.storeAt 0 (ta * (p : Int)))
              have HMC := hid (HMB.out.other HS3.out.2 (fun k e => by cases e; exact fun h => HNE1 h.symm))
              have HBC := hid (HBB.out.grown HS3.out.2 HBB.out.size (fun k e => by cases e; exact hgt))
              obtain ⟨w3, hw3⟩ : ∃ w3, w3 = w2.setCell ⟨gt, 0, none⟩ (.int .i64 (ta * (p : Int))) := ⟨_, rfl⟩
              rw [← hw3] at HS3 HMC HBC
              have hsw3 : w2.setCell ⟨gt, 0, none⟩ (.int .i64 (ta * (p : Int))) = w3 := hw3.symm
              have z4 : w3.cell? ⟨w.heap.size + 1, 0, none⟩ = some (.int .i64 ma) := HMC.out.elem (i := 0) (by simp)
              have g4 := HMC.out.thaw 0
              have HS4 := hid (HMC.out.storeAt 0 (ma * (p : Int)))
              have HOD := hid (HS3.out.1.other HS4.out.2 (fun k e => by cases e; exact HNE1))
              have HBD := hid (HBC.out.grown HS4.out.2 HBC.out.size (fun k e => by cases e; omega))
              obtain ⟨w5, hw5⟩ : ∃ w5, w5 = w3.setCell ⟨w.heap.size + 1, 0, none⟩ (.int .i64 (ma * (p : Int))) := ⟨_, rfl⟩
              rw [← hw5] at HS4 HOD HBD
              have hsw5 : w3.setCell ⟨w.heap.size + 1, 0, none⟩ (.int .i64 (ma * (p : Int))) = w5 := hw5.symm
              have HTW := hid (l5Two_any _ (ta * (p : Int)) (tb.tdiv (p : Int)) (tc.tdiv (p : Int)) HZ2.out.1 HZ2.out.2.1 HZ2.out.2.2 (by have h : -27000 ≤ (ta * (p : Int)) := HL2.out.1.1; omega) (by have h : (ta * (p : Int)) ≤ 27000 := HL2.out.1.2; omega) (by have h : -27000 ≤ (tb.tdiv (p : Int)) := HL2.out.2.1.1; omega) (by have h : (tb.tdiv (p : Int)) ≤ 27000 := HL2.out.2.1.2; omega) (by have h : -27000 ≤ (tc.tdiv (p : Int)) := HL2.out.2.2.1; omega) (by have h : (tc.tdiv (p : Int)) ≤ 27000 := HL2.out.2.2.2; omega) w5 HOD.out.rd)
              have HSM := hid HS4.out.1
              have hs5 := HBD.out.size
              clear hw1 hw2 hw3 hw5 HS1 HS2 HS3 HS4 HMA HMB HBA HBB HMC HBC E3 E4 TZ hd
              go_wp2_with fail
              refine (HTW.out).mono ?_
              rintro e w4 ⟨rfl, hb4⟩
              have HO4 := hid (HOD.out.keep HOD.out.lt hb4)
              have HM4 := hid (HSM.out.keep HSM.out.lt hb4)
              have HB4 := hid (HBD.out.trans (hb4.mono hs5))
              clear hb4 HTW
              go_wp2_with fail
              go_roundg f'
              case measure => omega
              case rel => exact ⟨_, _, rfl, rfl, HDS, HO4, HM4, HB4⟩


end Go.Proofs.Ytfjbdbfeolfcfaa

/-! Draws16 -/
set_option linter.unusedVariables false
namespace Go.Proofs.Ytfjbdbfeolfcfaa
open Go.RowKit

def DrewFFF (P : List Int → List Int → List Int → Prop) (w : World) (e : Ending) (w' : World) : Prop := ∃ (u v z : Value) (xs ys zs : List Int), e = .returned (.tuple #[u, v, z]) ∧ P xs ys zs ∧ Hid (Owns w' w.heap.size u xs) ∧ Hid (Rd w' v ys) ∧ Hid (Rd w' z zs) ∧ Below w.heap.size w w'
theorem DrewFFF.mk {P : List Int → List Int → List Int → Prop} {w w' : World} {u v z : Value} {xs ys zs : List Int} (h : P xs ys zs) (ho : Owns w' w.heap.size u xs) (hr : Rd w' v ys) (hz : Rd w' z zs) (hb : Below w.heap.size w w') : DrewFFF P w (.returned (.tuple #[u, v, z])) w' := ⟨u, v, z, xs, ys, zs, rfl, h, hid ho, hid hr, hid hz, hb⟩
def DrewFII (P : List Int → Int → Int → Prop) (w : World) (e : Ending) (w' : World) : Prop := ∃ (u : Value) (xs : List Int) (y z : Int), e = .returned (.tuple #[u, .int .i64 y, .int .i64 z]) ∧ P xs y z ∧ Hid (Owns w' w.heap.size u xs) ∧ Below w.heap.size w w'
theorem DrewFII.mk {P : List Int → Int → Int → Prop} {w w' : World} {u : Value} {xs : List Int} {y z : Int} (h : P xs y z) (ho : Owns w' w.heap.size u xs) (hb : Below w.heap.size w w') : DrewFII P w (.returned (.tuple #[u, .int .i64 y, .int .i64 z])) w' := ⟨u, xs, y, z, rfl, h, hid ho, hb⟩







end Go.Proofs.Ytfjbdbfeolfcfaa

/-! Vals7 -/
set_option linter.unusedVariables false
namespace Go.Proofs.Ytfjbdbfeolfcfaa
open Go.RowKit

theorem sq_small {u n N : Nat} (h : u * u ≤ N) (hn : N < (n + 1) * (n + 1)) : u ≤ n := by
  refine Classical.byContradiction fun hc => ?_
  have := Nat.mul_le_mul (show n + 1 ≤ u by omega) (show n + 1 ≤ u by omega)
  omega
theorem mx_sq {m x B K : Nat} (hx : x * x ≤ B) (h : m * m * B ≤ K) : m * x * (m * x) ≤ K := by
  have e : m * x * (m * x) = m * m * (x * x) := by simp only [Nat.mul_comm, Nat.mul_left_comm]
  rw [e]
  exact Nat.le_trans (Nat.mul_le_mul_left _ hx) h
theorem z_sq {A B C x y z : Nat} (hC : 0 < C) (h : C * (z * z) ≤ A * (x * x) + B * (y * y)) (hx : x * x ≤ B * C) (hy : y * y ≤ A * C) : z * z ≤ 2 * (A * B) := by
  have h1 := Nat.mul_le_mul_left A hx
  have h2 := Nat.mul_le_mul_left B hy
  have e1 : A * (B * C) = C * (A * B) := by simp only [Nat.mul_comm, Nat.mul_left_comm]
  have e2 : B * (A * C) = C * (A * B) := by simp only [Nat.mul_comm, Nat.mul_left_comm]
  rw [e1] at h1
  rw [e2] at h2
  refine Nat.le_of_mul_le_mul_left ?_ hC
  have e3 : C * (2 * (A * B)) = C * (A * B) + C * (A * B) := by rw [Nat.mul_left_comm]; omega
  rw [e3]
  omega
theorem abs3 {P Q R : Int} (h : P + Q + R = 0) : R.natAbs ≤ P.natAbs + Q.natAbs := by omega
theorem abs_sq (a : Int) (x : Nat) : (a * (x : Int) * (x : Int)).natAbs = a.natAbs * (x * x) := by rw [Int.natAbs_mul, Int.natAbs_mul, Int.natAbs_natCast, Nat.mul_assoc]

/-- what is found of three normal terms, multiplied -/
def vec3 (a b c : Int) (l : List Int) : List Int := [(nM a b c).a * l.getD 0 0, (nM a b c).b * l.getD 1 0, (nM a b c).c * l.getD 2 0]
structure Three (a b c : Int) (v : List Int) : Prop where
  three : ∃ x y z, v = [x, y, z]
  zero : valI [a, b, c] v 3 = 0
  small : ∀ u ∈ v, -60 ≤ u ∧ u ≤ 60
  some : ∃ u ∈ v, u ≠ 0
theorem vec3_ok {a b c : Int} (h : Ok3 a b c) {l : List Int} (hl : searchO (nT a b c) = some l) : Three a b c (vec3 a b c l) := by
  obtain ⟨x, y, z, rfl, hf⟩ := search_found hl
  have hn := h.nrm
  obtain ⟨m1, m2, m3, k1, k2, k3⟩ := hn.minv
  obtain ⟨ta, tb, tc⟩ := hn.nz
  have hz := hn.carry x y z hf.zero
  obtain ⟨t, ht⟩ : ∃ t, t = nT a b c := ⟨_, rfl⟩
  obtain ⟨m, hm⟩ : ∃ m, m = nM a b c := ⟨_, rfl⟩
  unfold vec3
  rw [← ht] at k1 k2 k3 ta tb tc hf
  rw [← hm] at m1 m2 m3 k1 k2 k3 hz ⊢
  have hx := hf.xle
  have hy := hf.yle
  rw [Int.natAbs_mul] at hx hy
  have hzz : z * z ≤ 2 * (t.a.natAbs * t.b.natAbs) := by
    refine z_sq (show 0 < t.c.natAbs by omega) ?_ hx hy
    have := abs3 hf.zero
    rwa [abs_sq, abs_sq, abs_sq] at this
  have ux := sq_small (n := 30) (mx_sq hx k1) (by decide)
  have uy := sq_small (n := 30) (mx_sq hy k2) (by decide)
  have uz : m.c.natAbs * z ≤ 42 := by
    have h1 : m.c.natAbs * m.c.natAbs * (2 * (t.a.natAbs * t.b.natAbs)) ≤ 1800 := by rw [Nat.mul_left_comm]; omega
    exact sq_small (n := 42) (mx_sq hzz h1) (by decide)
  have B : ∀ (k : Int) (u n : Nat), k.natAbs * u ≤ n → -(n : Int) ≤ k * (u : Int) ∧ k * (u : Int) ≤ (n : Int) := fun k u n hu => by
    have e : (k * (u : Int)).natAbs = k.natAbs * u := by rw [Int.natAbs_mul, Int.natAbs_natCast]
    omega
  have bx := B _ _ _ ux
  have by' := B _ _ _ uy
  have bz := B _ _ _ uz
  refine ⟨⟨_, _, _, rfl⟩, ?_, ?_, ?_⟩
  · rw [val3]; exact hz
  · intro u hu
    simp only [List.getD_cons_zero, List.getD_cons_succ, List.mem_cons, List.not_mem_nil, or_false] at hu
    rcases hu with rfl | rfl | rfl <;> omega
  · have hs := hf.some
    by_cases hx0 : x = 0
    · have hy0 : y ≠ 0 := fun e => hs ⟨hx0, e⟩
      exact ⟨m.b * (y : Int), by simp, Int.mul_ne_zero (by omega) (by omega)⟩
    · exact ⟨m.a * (x : Int), by simp, Int.mul_ne_zero (by omega) (by omega)⟩
theorem plain_small {n : Int} {vs : List Int} (hn : 0 ≤ n) (h : ∀ u ∈ vs, -n ≤ u ∧ u ≤ n) : ∀ u ∈ plainL vs, -n ≤ u ∧ u ≤ n := fun u hu => by
  unfold plainL at hu
  obtain ⟨v, hv, rfl⟩ := List.mem_map.1 hu
  have hb := h v hv
  have h1 : ((signL vs * v).tdiv (gcdL vs : Int)).natAbs ≤ v.natAbs := by
    rw [Int.natAbs_tdiv]
    refine Nat.le_trans (Nat.div_le_self _ _) ?_
    rcases signL_pm vs with e | e <;> rw [e] <;> omega
  omega
theorem plain_three {a b c : Int} {v : List Int} (h : Three a b c v) : Three a b c (plainL v) := by
  obtain ⟨⟨x, y, z, rfl⟩, h2, h3, h4⟩ := h
  refine ⟨⟨_, _, _, rfl⟩, ?_, plain_small (by decide) h3, plain_some h4⟩
  have e := plain_back [x, y, z]
  have h5 := val_scale [a, b, c] (signL [x, y, z] * (gcdL [x, y, z] : Int)) (plainL [x, y, z]) 3
  rw [e, h2] at h5
  have hs := sg_ne h4
  rcases Int.mul_eq_zero.1 h5.symm with h6 | h6
  · exact absurd h6 (Int.mul_ne_zero hs hs)
  · exact h6
def threeO (a b c : Int) : Option (List Int) := (searchO (nT a b c)).map (fun l => plainL (vec3 a b c l))
theorem threeO_ok {a b c : Int} (h : Ok3 a b c) {v : List Int} (hv : threeO a b c = some v) : Three a b c v ∧ plainL v = v := by
  unfold threeO at hv
  cases hs : searchO (nT a b c) with
  | none => rw [hs] at hv; cases hv
  | some l =>
    rw [hs] at hv
    cases hv
    have h1 := vec3_ok h hs
    exact ⟨plain_three h1, plain_plain h1.some⟩

/-- four terms: the value at two small integers -/
def vec4 (r x y : Int) (v : List Int) : List Int := [x * v.getD 2 0, y * v.getD 2 0, r * v.getD 0 0, r * v.getD 1 0]
def splitV (a b : Int) (x y : Nat) : Int := a * x * x + b * y * y
def splitO (a b c d : Int) (x y : Nat) : Option (List Int) :=
  if x = 0 ∧ y = 0 then none
  else if splitV a b x y = 0 then some (plainL [(x : Int), (y : Int), 0, 0])
  else if (coreG (splitV a b x y)).natAbs ≤ 30 then (threeO c d (coreG (splitV a b x y))).map (fun v => plainL (vec4 (rootG (splitV a b x y)) x y v))
  else none
def firstR {α : Type} (f : Nat → Option α) (N : Nat) : Option α := (List.range N).findSome? f
theorem firstR_none {α : Type} {f : Nat → Option α} {N : Nat} (h : ∀ i, i < N → f i = none) : firstR f N = none := by
  unfold firstR
  rw [List.findSome?_eq_none_iff]
  exact fun i hi => h i (List.mem_range.1 hi)
theorem firstR_some {α : Type} {f : Nat → Option α} {N k : Nat} {a : α} (h : ∀ i, i < k → f i = none) (hk : k < N) (ha : f k = some a) : firstR f N = some a := by
  unfold firstR
  rw [show N = k + (1 + (N - k - 1)) by omega, List.range_add, List.findSome?_append, List.findSome?_eq_none_iff.2 (fun i hi => h i (List.mem_range.1 hi)), Option.none_or, List.range_add, List.map_append, List.findSome?_append]
  simp [ha]
theorem firstR_mem {α : Type} {f : Nat → Option α} {N : Nat} {a : α} (h : firstR f N = some a) : ∃ k, k < N ∧ f k = some a := by
  unfold firstR at h
  obtain ⟨k, h1, hk⟩ := List.exists_of_findSome?_eq_some h
  exact ⟨k, List.mem_range.1 h1, hk⟩
def rowF (a b c d : Int) (x : Nat) : Option (List Int) := firstR (splitO a b c d x) 4
def fourO (a b c d : Int) : Option (List Int) := firstR (rowF a b c d) 4
theorem splitV_bd {a b : Int} {x y : Nat} (a1 : -30 ≤ a) (a2 : a ≤ 30) (b1 : -30 ≤ b) (b2 : b ≤ 30) (hx : x ≤ 3) (hy : y ≤ 3) : (-90 ≤ a * x ∧ a * x ≤ 90) ∧ (-270 ≤ a * x * x ∧ a * x * x ≤ 270) ∧ (-90 ≤ b * y ∧ b * y ≤ 90) ∧ (-270 ≤ b * y * y ∧ b * y * y ≤ 270) := by
  have B : ∀ (k : Int) (u : Nat), -30 ≤ k → k ≤ 30 → u ≤ 3 → (-90 ≤ k * (u : Int) ∧ k * (u : Int) ≤ 90) ∧ (-270 ≤ k * (u : Int) * (u : Int) ∧ k * (u : Int) * (u : Int) ≤ 270) := fun k u h1 h2 h3 => by
    have e1 : (k * (u : Int)).natAbs ≤ 30 * 3 := by rw [Int.natAbs_mul, Int.natAbs_natCast]; exact Nat.mul_le_mul (by omega) h3
    have e2 : (k * (u : Int) * (u : Int)).natAbs ≤ 30 * 3 * 3 := by rw [Int.natAbs_mul, Int.natAbs_natCast]; exact Nat.mul_le_mul e1 h3
    omega
  have h1 := B a x a1 a2 hx
  have h2 := B b y b1 b2 hy
  exact ⟨h1.1, h1.2, h2.1, h2.2⟩
theorem root_24 {t : Int} (h0 : t ≠ 0) (h1 : -540 ≤ t) (h2 : t ≤ 540) : 1 ≤ rootG t ∧ rootG t ≤ 23 := by
  obtain ⟨c0, e, _, _, r1⟩ := core_small h0
  refine ⟨r1, sq_small (n := 23) (N := 540) ?_ (by decide)⟩
  have := Nat.le_mul_of_pos_left (rootG t * rootG t) (show 0 < (coreG t).natAbs by omega)
  omega
/-- what a zero of four terms keeps -/
structure Four (a b c d : Int) (v : List Int) : Prop where
  four : ∃ x y z u, v = [x, y, z, u]
  zero : valI [a, b, c, d] v 4 = 0
  small : ∀ u ∈ v, -2000 ≤ u ∧ u ≤ 2000
  some : ∃ u ∈ v, u ≠ 0
theorem plain_four {a b c d : Int} {v : List Int} (h : Four a b c d v) : Four a b c d (plainL v) := by
  obtain ⟨⟨x, y, z, u, rfl⟩, h2, h3, h4⟩ := h
  refine ⟨⟨_, _, _, _, rfl⟩, ?_, plain_small (by decide) h3, plain_some h4⟩
  have e := plain_back [x, y, z, u]
  have h5 := val_scale [a, b, c, d] (signL [x, y, z, u] * (gcdL [x, y, z, u] : Int)) (plainL [x, y, z, u]) 4
  rw [e, h2] at h5
  have hs := sg_ne h4
  rcases Int.mul_eq_zero.1 h5.symm with h6 | h6
  · exact absurd h6 (Int.mul_ne_zero hs hs)
  · exact h6
theorem axis_four {a b c d : Int} {x y : Nat} (hx : x ≤ 3) (hy : y ≤ 3) (h0 : ¬ (x = 0 ∧ y = 0)) (hz : splitV a b x y = 0) : Four a b c d [(x : Int), (y : Int), 0, 0] := by
  refine ⟨⟨_, _, _, _, rfl⟩, ?_, ?_, ?_⟩
  · rw [val4]; unfold splitV at hz; rw [hz]; simp
  · intro u hu
    simp only [List.mem_cons, List.not_mem_nil, or_false] at hu
    omega
  · by_cases hx0 : x = 0
    · exact ⟨(y : Int), by simp, fun e => h0 ⟨hx0, by omega⟩⟩
    · exact ⟨(x : Int), by simp, by omega⟩
theorem vec4_ok {a b c d : Int} {x y : Nat} {v : List Int} (hx : x ≤ 3) (hy : y ≤ 3) (h0 : ¬ (x = 0 ∧ y = 0)) (ht0 : splitV a b x y ≠ 0) (ht1 : -540 ≤ splitV a b x y) (ht2 : splitV a b x y ≤ 540) (h : Three c d (coreG (splitV a b x y)) v) : Four a b c d (vec4 (rootG (splitV a b x y)) x y v) := by
  obtain ⟨⟨p, q, s, rfl⟩, h2, h3, h4⟩ := h
  obtain ⟨r1, r2⟩ := root_24 ht0 ht1 ht2
  have ec := (core_is ht0).eq
  obtain ⟨r, hr⟩ : ∃ r, r = rootG (splitV a b x y) := ⟨_, rfl⟩
  obtain ⟨k, hk⟩ : ∃ k, k = coreG (splitV a b x y) := ⟨_, rfl⟩
  rw [← hr] at r1 r2 ec ⊢
  rw [← hk] at ec h2
  have hp := h3 p (by simp)
  have hq := h3 q (by simp)
  have hs := h3 s (by simp)
  have B : ∀ (u : Nat) (n : Int), u ≤ 23 → -60 ≤ n → n ≤ 60 → -2000 ≤ (u : Int) * n ∧ (u : Int) * n ≤ 2000 := fun u n hu h1 h2 => by
    have : ((u : Int) * n).natAbs ≤ 23 * 60 := by rw [Int.natAbs_mul, Int.natAbs_natCast]; exact Nat.mul_le_mul hu (by omega)
    omega
  refine ⟨⟨_, _, _, _, rfl⟩, ?_, ?_, ?_⟩
  · rw [val3] at h2
    show valI [a, b, c, d] [(x : Int) * s, (y : Int) * s, (r : Int) * p, (r : Int) * q] 4 = 0
    rw [val4]
    unfold splitV at ec
    have e : a * ((x : Int) * s) * ((x : Int) * s) + b * ((y : Int) * s) * ((y : Int) * s) + c * ((r : Int) * p) * ((r : Int) * p) + d * ((r : Int) * q) * ((r : Int) * q) = (a * x * x + b * y * y) * (s * s) + (r : Int) * r * (c * p * p + d * q * q) := by
      simp only [Int.mul_add, Int.add_mul, Int.mul_assoc, Int.mul_comm, Int.mul_left_comm]
      omega
    rw [e, ← ec]
    have e3 : k * ((r : Int) * r) * (s * s) = (r : Int) * r * (k * s * s) := by simp only [Int.mul_assoc, Int.mul_comm, Int.mul_left_comm]
    have e2 : k * ((r : Int) * r) * (s * s) + (r : Int) * r * (c * p * p + d * q * q) = (r : Int) * r * (c * p * p + d * q * q + k * s * s) := by
      rw [e3, Int.mul_add _ _ (k * s * s), Int.add_comm]
    rw [e2, h2, Int.mul_zero]
  · intro u hu
    have g1 := B x s (by omega) hs.1 hs.2
    have g2 := B y s (by omega) hs.1 hs.2
    have g3 := B r p r2 hp.1 hp.2
    have g4 := B r q r2 hq.1 hq.2
    have hu : u ∈ [(x : Int) * s, (y : Int) * s, (r : Int) * p, (r : Int) * q] := hu
    simp only [List.mem_cons, List.not_mem_nil, or_false] at hu
    rcases hu with rfl | rfl | rfl | rfl
    · exact g1
    · exact g2
    · exact g3
    · exact g4
  · show ∃ u ∈ [(x : Int) * s, (y : Int) * s, (r : Int) * p, (r : Int) * q], u ≠ 0
    by_cases hs0 : s = 0
    · obtain ⟨u, hu, hu0⟩ := h4
      simp only [List.mem_cons, List.not_mem_nil, or_false] at hu
      rcases hu with rfl | rfl | rfl
      · exact ⟨(r : Int) * u, by simp, Int.mul_ne_zero (by omega) hu0⟩
      · exact ⟨(r : Int) * u, by simp, Int.mul_ne_zero (by omega) hu0⟩
      · exact absurd hs0 hu0
    · by_cases hx0 : x = 0
      · exact ⟨(y : Int) * s, by simp, Int.mul_ne_zero (fun e => h0 ⟨hx0, by omega⟩) hs0⟩
      · exact ⟨(x : Int) * s, by simp, Int.mul_ne_zero (by omega) hs0⟩
structure Ok4 (a b c d : Int) : Prop where
  a0 : a ≠ 0
  b0 : b ≠ 0
  c0 : c ≠ 0
  d0 : d ≠ 0
  a1 : -30 ≤ a
  a2 : a ≤ 30
  b1 : -30 ≤ b
  b2 : b ≤ 30
  c1 : -30 ≤ c
  c2 : c ≤ 30
  d1 : -30 ≤ d
  d2 : d ≤ 30
theorem ok4_of {a b c d : Int} (h : fvB [a, b, c, d] = true) : Ok4 a b c d := by
  have h1 := (fvB_iff.1 h).1
  have ha := h1 a (by simp)
  have hb := h1 b (by simp)
  have hc := h1 c (by simp)
  have hd := h1 d (by simp)
  exact ⟨ha.1, hb.1, hc.1, hd.1, ha.2.1, ha.2.2, hb.2.1, hb.2.2, hc.2.1, hc.2.2, hd.2.1, hd.2.2⟩
theorem Ok4.ok3 {a b c d t : Int} (h : Ok4 a b c d) (h0 : t ≠ 0) (ht : (coreG t).natAbs ≤ 30) : Ok3 c d (coreG t) :=
  ⟨h.c0, h.d0, (core_small h0).1, h.c1, h.c2, h.d1, h.d2, by omega, by omega⟩
theorem splitO_ok {a b c d : Int} {x y : Nat} (h : Ok4 a b c d) (hx : x ≤ 3) (hy : y ≤ 3) {v : List Int} (hv : splitO a b c d x y = some v) : Four a b c d v ∧ plainL v = v := by
  unfold splitO at hv
  by_cases h0 : x = 0 ∧ y = 0
  · rw [if_pos h0] at hv; cases hv
  · rw [if_neg h0] at hv
    have hb := splitV_bd h.a1 h.a2 h.b1 h.b2 hx hy
    have t1 : -540 ≤ splitV a b x y := by unfold splitV; omega
    have t2 : splitV a b x y ≤ 540 := by unfold splitV; omega
    by_cases hz : splitV a b x y = 0
    · rw [if_pos hz] at hv
      cases hv
      have h1 := axis_four (c := c) (d := d) hx hy h0 hz
      exact ⟨plain_four h1, plain_plain h1.some⟩
    · rw [if_neg hz] at hv
      by_cases hc : (coreG (splitV a b x y)).natAbs ≤ 30
      · rw [if_pos hc] at hv
        cases h3 : threeO c d (coreG (splitV a b x y)) with
        | none => rw [h3] at hv; cases hv
        | some l =>
          rw [h3] at hv
          cases hv
          have h4 := vec4_ok hx hy h0 hz t1 t2 (threeO_ok (h.ok3 hz hc) h3).1
          exact ⟨plain_four h4, plain_plain h4.some⟩
      · rw [if_neg hc] at hv; cases hv
theorem fourO_ok {a b c d : Int} (h : Ok4 a b c d) {v : List Int} (hv : fourO a b c d = some v) : Four a b c d v ∧ plainL v = v := by
  obtain ⟨x, hx, h1⟩ := firstR_mem hv
  obtain ⟨y, hy, h2⟩ := firstR_mem h1
  exact splitO_ok h (by omega) (by omega) h2

/-- what ZeroFind answers -/
def twoO (a b : Int) : Option (List Int) := if coreG a + coreG b = 0 then some (plainL [(rootG b : Int), (rootG a : Int)]) else none
def findL : List Int → Option (List Int)
  | [a, b] => twoO a b
  | [a, b, c] => threeO a b c
  | [a, b, c, d] => fourO a b c d
  | _ => none
def zfindO (xs : List Int) : Option (List Int) := if fvB xs then findL xs else none
theorem two_zero {a b : Int} (ha : a ≠ 0) (hb : b ≠ 0) (h : coreG a + coreG b = 0) : a * (rootG b : Int) * (rootG b : Int) + b * (rootG a : Int) * (rootG a : Int) = 0 := by
  have ea := (core_is ha).eq
  have eb := (core_is hb).eq
  obtain ⟨r, hr⟩ : ∃ r : Int, r = rootG a := ⟨_, rfl⟩
  obtain ⟨s, hs⟩ : ∃ s : Int, s = rootG b := ⟨_, rfl⟩
  obtain ⟨A, hA⟩ : ∃ A, A = coreG a := ⟨_, rfl⟩
  rw [show coreG b = -A by omega] at eb
  rw [← hr] at ea ⊢
  rw [← hs] at eb ⊢
  rw [← hA] at ea
  rw [← ea, ← eb]
  simp only [Int.mul_comm, Int.mul_left_comm, Int.mul_neg]
  omega
theorem root_30 {x : Int} (h0 : x ≠ 0) (h1 : -30 ≤ x) (h2 : x ≤ 30) : 1 ≤ rootG x ∧ rootG x ≤ 5 := by
  obtain ⟨c0, e, _, _, r1⟩ := core_small h0
  refine ⟨r1, sq_small (n := 5) (N := 30) ?_ (by decide)⟩
  have := Nat.le_mul_of_pos_left (rootG x * rootG x) (show 0 < (coreG x).natAbs by omega)
  omega
/-- what is found: a zero, a plain one, of small integers -/
structure Got (xs v : List Int) : Prop where
  zero : zeroB xs v = true
  plain : plainL v = v
  small : ∀ u ∈ v, -2000 ≤ u ∧ u ≤ 2000
theorem got_of {xs v : List Int} (hf : fvB xs = true) (hl : v.length = xs.length) (hz : valI xs v xs.length = 0) (hs : ∃ u ∈ v, u ≠ 0) (hb : ∀ u ∈ v, -2000 ≤ u ∧ u ≤ 2000) (hp : plainL v = v) : Got xs v :=
  ⟨zeroB_iff.2 ⟨fun u hu => by have := hb u hu; omega, hf, hl, hs, hz⟩, hp, hb⟩
theorem find_got {xs v : List Int} (h : zfindO xs = some v) : Got xs v := by
  unfold zfindO at h
  cases hf : fvB xs with
  | false => rw [hf] at h; cases h
  | true =>
    rw [hf, if_pos rfl] at h
    have hb := fvB_iff.1 hf
    have hc : xs.length = 1 ∨ xs.length = 2 ∨ xs.length = 3 ∨ xs.length = 4 := by omega
    rcases hc with e | e | e | e
    · obtain ⟨a, rfl⟩ := list_one e
      cases h
    · obtain ⟨a, b, rfl⟩ := list_two e
      have ha := hb.1 a (by simp)
      have hbb := hb.1 b (by simp)
      have h : twoO a b = some v := h
      unfold twoO at h
      by_cases h0 : coreG a + coreG b = 0
      · rw [if_pos h0] at h
        cases h
        obtain ⟨r1, r2⟩ := root_30 ha.1 ha.2.1 ha.2.2
        obtain ⟨s1, s2⟩ := root_30 hbb.1 hbb.2.1 hbb.2.2
        have hs : ∃ u ∈ [(rootG b : Int), (rootG a : Int)], u ≠ 0 := ⟨(rootG b : Int), by simp, by omega⟩
        have hz : zeroB [a, b] [(rootG b : Int), (rootG a : Int)] = true := zeroB_iff.2 ⟨fun u hu => by
          simp only [List.mem_cons, List.not_mem_nil, or_false] at hu
          omega, hf, rfl, hs, by show valI [a, b] [(rootG b : Int), (rootG a : Int)] 2 = 0; rw [val2]; exact two_zero ha.1 hbb.1 h0⟩
        exact ⟨plain_zero hz, plain_plain hs, plain_small (by decide) fun u hu => by
          simp only [List.mem_cons, List.not_mem_nil, or_false] at hu
          omega⟩
      · rw [if_neg h0] at h; cases h
    · obtain ⟨a, b, c, rfl⟩ := list_three e
      have h1 := threeO_ok (ok3_of hf) (show threeO a b c = some v from h)
      obtain ⟨⟨x, y, z, rfl⟩, h2, h3, h4⟩ := h1.1
      exact got_of hf rfl h2 h4 (fun u hu => by have := h3 u hu; omega) h1.2
    · obtain ⟨a, b, c, d, rfl⟩ := list_four e
      have h1 := fourO_ok (ok4_of hf) (show fourO a b c d = some v from h)
      obtain ⟨⟨x, y, z, w, rfl⟩, h2, h3, h4⟩ := h1.1
      exact got_of hf rfl h2 h4 h3 h1.2

end Go.Proofs.Ytfjbdbfeolfcfaa
