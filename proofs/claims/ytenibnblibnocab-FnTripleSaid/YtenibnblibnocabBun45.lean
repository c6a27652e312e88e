/-
  Some texts in one file: Vecs2 RangeW RowWord.
-/
import Derived.Test.YtenibnblibnocabBun43
import Derived.Test.YtenibnblibnocabVals5b
import Derived.Test.YtenibnblibnocabZvec2
import Derived.Below
/-! Vecs2 -/
set_option linter.unusedVariables false
namespace Go.Proofs.Ytenibnblibnocab
open Go.RowKit

theorem vecAt_cons {lo : Int} {b c d K : Nat} (hb : 1 ≤ b) (hd : d < b) (hK : K < b ^ c) : vecAt lo b (c + 1) (d * b ^ c + K) = (lo + ((d : Nat) : Int)) :: vecAt lo b c K := by
  refine List.ext_getElem (by rw [vecAt_len, List.length_cons, vecAt_len]) fun j h1 h2 => ?_
  rw [vecAt_get h1]
  have h3 := h1
  rw [vecAt_len] at h3
  match j with
  | 0 =>
    rw [List.getElem_cons_zero]
    congr 2
    unfold dig
    rw [show c + 1 - 1 - 0 = c by omega, Nat.mul_comm, Nat.mul_add_div (Nat.pow_pos (by omega)), Nat.div_eq_of_lt hK, Nat.add_zero, Nat.mod_eq_of_lt hd]
  | j + 1 =>
    rw [List.getElem_cons_succ, vecAt_get]
    congr 2
    unfold dig
    have e : b ^ c = b ^ (c - 1 - j) * (b * b ^ j) := by rw [← Nat.pow_succ', ← Nat.pow_add]; congr 1; omega
    rw [show c + 1 - 1 - (j + 1) = c - 1 - j by omega, e, Nat.mul_left_comm, Nat.mul_add_div (Nat.pow_pos (by omega)), Nat.mul_left_comm d, Nat.mul_add_mod]
theorem range_mul (N : Nat) : ∀ b, List.range (b * N) = (List.range b).flatMap (fun d => (List.range N).map (fun k => d * N + k))
  | 0 => by rw [Nat.zero_mul]; rfl
  | b + 1 => by
    rw [Nat.succ_mul, List.range_add, range_mul N b, List.range_succ, List.flatMap_append]
    simp
theorem vecsL_succ {lo : Int} {b c : Nat} (hb : 1 ≤ b) : vecsL lo b (c + 1) = (List.range b).flatMap (fun d => (vecsL lo b c).map (fun v => (lo + ((d : Nat) : Int)) :: v)) := by
  unfold vecsL
  rw [Nat.pow_succ', range_mul, List.map_flatMap]
  have h : ∀ l : List Nat, (∀ d ∈ l, d < b) → l.flatMap (fun d => ((List.range (b ^ c)).map (fun k => d * b ^ c + k)).map (vecAt lo b (c + 1))) = l.flatMap (fun d => ((List.range (b ^ c)).map (vecAt lo b c)).map (fun v => (lo + ((d : Nat) : Int)) :: v)) := by
    intro l
    induction l with
    | nil => intro _; rfl
    | cons d l ih =>
      intro hl
      rw [List.flatMap_cons, List.flatMap_cons, ih fun x hx => hl x (List.mem_cons_of_mem _ hx)]
      congr 1
      rw [List.map_map, List.map_map]
      refine List.map_congr_left fun k hk => ?_
      exact vecAt_cons hb (hl d (List.mem_cons_self ..)) (List.mem_range.1 hk)
  exact h _ fun d hd => List.mem_range.1 hd
theorem vecsL_zero (lo : Int) (b : Nat) : vecsL lo b 0 = [[]] := by unfold vecsL; rw [Nat.pow_zero]; rfl
theorem mem_vecs {lo : Int} {b : Nat} (hb : 1 ≤ b) : ∀ {us : List Int}, (∀ u ∈ us, lo ≤ u ∧ u < lo + b) → us ∈ vecsL lo b us.length
  | [], _ => by rw [List.length_nil, vecsL_zero]; exact List.mem_singleton.2 rfl
  | u :: us, h => by
    have h1 := h u (List.mem_cons_self ..)
    rw [List.length_cons, vecsL_succ hb]
    refine List.mem_flatMap.2 ⟨(u - lo).toNat, List.mem_range.2 (by omega), List.mem_map.2 ⟨us, mem_vecs hb fun x hx => h x (List.mem_cons_of_mem _ hx), ?_⟩⟩
    rw [show lo + (((u - lo).toNat : Nat) : Int) = u by omega]
theorem vecs_mem {lo : Int} {b c : Nat} (hb : 1 ≤ b) {v : List Int} (h : v ∈ vecsL lo b c) : v.length = c ∧ ∀ u ∈ v, lo ≤ u ∧ u < lo + b := by
  obtain ⟨K, _, rfl⟩ := List.mem_map.1 h
  exact ⟨vecAt_len .., vecAt_bd hb⟩
theorem mod_vecs (xs : List Int) (P m c : Nat) (hm : 1 ≤ m) : modR xs P m c [] = (vecsL 0 m c).any (modHit xs P m) := by
  rw [Bool.eq_iff_iff, modR_iff, List.any_eq_true]
  constructor
  · rintro ⟨us, rfl, hu, hh⟩
    exact ⟨us, mem_vecs hm fun u h => by have := hu u h; omega, hh⟩
  · rintro ⟨v, hv, hh⟩
    obtain ⟨h1, h2⟩ := vecs_mem hm hv
    exact ⟨v, h1, fun u h => by have := h2 u h; omega, hh⟩
theorem many_vecs (xs : List Int) (n : Int) (h0 : 0 ≤ n) : ∀ (c : Nat) (vs : List Int), manyR xs n c vs = (((vecsL (-n) (2 * n + 1).toNat c).countP (fun us => goodB xs (vs ++ us)) : Nat) : Int)
  | 0, vs => by
    rw [vecsL_zero]
    unfold manyR
    simp only [List.countP_cons, List.countP_nil, List.append_nil]
    cases goodB xs vs <;> rfl
  | c + 1, vs => by
    have hs : ∀ k, sumZ (fun x => manyR xs n c (vs ++ [x])) (-n) k = ((((List.range k).flatMap (fun d => (vecsL (-n) (2 * n + 1).toNat c).map (fun v => (-n + ((d : Nat) : Int)) :: v))).countP (fun us => goodB xs (vs ++ us)) : Nat) : Int) := by
      intro k
      induction k with
      | zero => rfl
      | succ k ih =>
        rw [sumZ_succ, ih, List.range_succ, List.flatMap_append, List.countP_append, many_vecs xs n h0 c]
        simp only [List.flatMap_cons, List.flatMap_nil, List.append_nil, List.countP_map]
        push_cast
        congr 3
        funext us
        simp [Function.comp]
    rw [vecsL_succ (by omega)]
    exact hs _

end Go.Proofs.Ytenibnblibnocab

/-! RangeW -/
set_option linter.unusedVariables false
namespace Go.Proofs.Ytenibnblibnocab
open Go.RowKit

/-- the iterator's contract: at each yield, H says what the element is -/
def RoundsW {α : Type} (F : Fence) (n : Nat) (P : Program) (g : Nat) (lb : Array Value) (encs : α → Array Value) (H : Nat → α → World → Prop) (B0 B1 : Nat) (S Sp : List α → Prop) (N : Nat) (w : World) : Prop :=
  ∀ (l : Nat) (J Jx : List α → World → Prop) (W : World), Below w.heap.size w W → Turns W.heap.size J →
    (∀ pre x V, J pre V → H W.heap.size x V → pre.length < N → YieldAt F (n - 1) P l (encs x) V fun e V' =>
      (e = .returned (.bool true) ∧ J (pre ++ [x]) V' ∧ Stay W.heap.size V V' ∧ Hold B0 B1 V V') ∨ (e = .returned (.bool false) ∧ Jx (pre ++ [x]) V')) →
    J [] W →
    CallsIn F n P g (#[.func (.yield l) #[] #[]] ++ lb) W fun e V => (∃ v, e = .returned v) ∧ ((∃ xs, S xs ∧ J xs V) ∨ (∃ pre, Sp pre ∧ Jx pre V))

variable {F : Fence} {n : Nat} {P : Program}

/-- one round: what is asked at its end, out of how its body is left -/
theorem roundPost_w {α : Type} {D : Nat} {rec : LoopState → Option Code → Loop} (hrec : ∀ st pe st' pe', { rec st pe with state := st', pending := pe' } = rec st' pe') {I : List α → World → Prop} {Ix : Code → List α → World → Prop} (hI : Turns D I) {xs : List α} (hIx : ∀ c W' o, Ix c xs W' → Ix c xs (W'.putObj (D + 1) o)) {V W : World} (hb : Book D (rec .busy none) W) (hV : V.heap.size ≤ W.heap.size) (hVW : Stay (D + 2) V W) (hD : D + 2 ≤ V.heap.size) {C : Nat} (hC : D + 2 ≤ C) {B0 B1 : Nat} (hB0 : B0 ≤ D) (hB1 : B1 ≤ D) (hH : Hold B0 B1 V W) :
    ∀ (e : Exit) (a : Act) (W' : World), endsV B0 I Ix xs W e a W' → roundPost P (D + 1) (fun e V' => (e = .returned (.bool true) ∧ (I xs V' ∧ Book D (rec .ready none) V') ∧ Stay C V V' ∧ Hold B0 B1 V V') ∨ (e = .returned (.bool false) ∧ ∃ c, Ix c xs V' ∧ Book D (rec .done (some c)) V')) e a W' := by
  have fin : ∀ (jump : Option Code) (W' : World), Stay D W W' → (Instr.endRound (D + 1) jump).run P W' = .ok (.bool jump.isNone) (W'.putObj (D + 1) (.loop (rec (if jump.isNone then .ready else .done) jump))) ∧ Book D (rec (if jump.isNone then .ready else .done) jump) (W'.putObj (D + 1) (.loop (rec (if jump.isNone then .ready else .done) jump))) := fun jump W' hs => by
    have hb' := hb.stay hs
    have hr := run_endRound (P := P) jump hb'.2
    rw [hrec] at hr
    exact ⟨hr, hb'.put _⟩
  intro e a W' h
  cases e with
  | normal =>
    obtain ⟨hr, hb'⟩ := fin none W' (h.1.mono hB0)
    refine ⟨_, _, hr, .inl ⟨rfl, ⟨hI.put _ h.2 (by omega), hb'⟩, ?_, hH.trans ((h.1.hold (by omega)).trans (Hold.put (by omega) _ _))⟩⟩
    refine (hVW.trans (h.1.mono (by omega))).mono hC |>.trans ⟨by simp, fun k hk _ => World.putObj_heap_other (by omega)⟩
  | ret =>
    obtain ⟨hr, hb'⟩ := fin (some .ret) W' (h.1.mono hB0)
    exact ⟨_, _, hr, .inr ⟨rfl, .ret, hIx _ _ _ h.2, hb'⟩⟩
  | exit id =>
    obtain ⟨hr, hb'⟩ := fin (some (.exit id)) W' (h.1.mono hB0)
    exact ⟨_, _, hr, .inr ⟨rfl, .exit id, hIx _ _ _ h.2, hb'⟩⟩
  | goto t =>
    obtain ⟨hr, hb'⟩ := fin (some (.goto t)) W' (h.1.mono hB0)
    exact ⟨_, _, hr, .inr ⟨rfl, .goto t, hIx _ _ _ h.2, hb'⟩⟩
  | panic ch => exact h.elim
  | outgrown => exact h.elim

/-- a loop over such an iterator -/
theorem wpIn_rangeW {α : Type} {g : Operand} {ps : Array Tmp} {assign body : Code} {Q : Exit → Act → World → Prop} {a : Act} {w : World}
    (hro : F.round = none) (h1 : 1 ≤ n) {gf : Nat} {lb : Array Value} (hg : a.eval g = .func (.func gf) #[] lb) (hFg : F.fn gf) (eg : ∀ args W, (callFunc gf args).run P W = .ok (.enter gf args) W)
    {encs : α → Array Value} {H : Nat → α → World → Prop} {B0 B1 : Nat} (hB0 : B0 ≤ w.heap.size) (hB1 : B1 ≤ w.heap.size) {S Sp : List α → Prop} {N : Nat} {w0 : World} (hseq : RoundsW F (n - 1) P gf lb encs H B0 B1 S Sp N w0) (hb0 : Below w0.heap.size w0 w) (hps : ∀ x, (encs x).size = ps.size)
    (hH : ∀ x W k r o, H (w.heap.size + 2) x W → W.heap[k]? = some (.loop r) → H (w.heap.size + 2) x (W.putObj k o))
    (I : List α → World → Prop) (Ix : Code → List α → World → Prop) (hI : Turns w.heap.size I) (hIx : ∀ c pre W o, Ix c pre W → Ix c pre (W.putObj (w.heap.size + 1) o)) (h0 : I [] w) (a₁ : α → Act)
    (hassign : ∀ (l : Nat) (x : α) (W : World) (K : Act → World → Prop), K (a₁ x) W →
      assign.wpIn (F.inRound l) (n - 1 - 1) P (Exit.then K (fun _ _ _ => False)) { tmps := (ps.zip (encs x)).foldl (fun t (p, v) => t.setIfInBounds p v) a.tmps, defers := [] } W)
    (hbody : ∀ (l : Nat) (pre : List α) (x : α) (W : World), I pre W → H (w.heap.size + 2) x W → w.heap.size + 2 ≤ W.heap.size → pre.length < N → body.wpIn (F.inRound l) (n - 1 - 1) P (endsV B0 I Ix (pre ++ [x]) W) (a₁ x) W)
    (hdone : ∀ (xs : List α) (W : World), S xs → I xs W → W.heap[w.heap.size]? = some (.deferred (some [])) → Q .normal { a with defers := { target := .collected w.heap.size, args := #[] } :: a.defers } W)
    (hstop : ∀ (c : Code) (pre : List α) (W : World), Sp pre → Ix c pre W → W.heap[w.heap.size]? = some (.deferred (some [])) → c.wpIn F n P Q { a with defers := { target := .collected w.heap.size, args := #[] } :: a.defers } W) :
    (Code.rangeFunc g ps assign body).wpIn F n P Q a w := by
  refine wpIn_rangeFunc fun fn hfn => ?_
  rw [hro]
  obtain ⟨rec, hrec⟩ : ∃ rec : LoopState → Option Code → Loop, rec = fun st pe => { state := st, pending := pe, fn, tmps := a.tmps, params := ps, assign, body, defers := w.heap.size } := ⟨_, rfl⟩
  have hrr : ∀ st pe st' pe', { rec st pe with state := st', pending := pe' } = rec st' pe' := fun st pe st' pe' => by rw [hrec]
  have hbk := Book.new w (rec .ready none)
  have hI1 := hI.lay (.loop (rec .ready none)) (hI.lay (.deferred (some [])) h0)
  have hbl := hb0.trans ((((Below.refl _ w).alloc (Nat.le_refl _) (.deferred (some []))).alloc (by simp) (.loop (rec .ready none))).mono hb0.size)
  have hen := run_enterLoop_outer (P := P) (w := w) fn a.tmps ps assign body
  have hsz : ((w.alloc (.deferred (some []))).alloc (.loop (rec .ready none))).heap.size = w.heap.size + 2 := by simp
  have hrd : ((w.alloc (.deferred (some []))).alloc (.loop { state := .ready, pending := none, fn, tmps := a.tmps, params := ps, assign, body, defers := w.heap.size })) = ((w.alloc (.deferred (some []))).alloc (.loop (rec .ready none))) := by rw [hrec]
  rw [hrd] at hen
  obtain ⟨W1, hW1⟩ : ∃ W1, W1 = (w.alloc (.deferred (some []))).alloc (.loop (rec .ready none)) := ⟨_, rfl⟩
  rw [← hW1] at hbk hI1 hbl hen hsz
  refine ⟨w.heap.size + 1, [{ target := .collected w.heap.size, args := #[] }], W1, { target := .fn (.func gf) lb, args := #[.func (.yield (w.heap.size + 1)) #[] #[]] }, W1, gf, #[.func (.yield (w.heap.size + 1)) #[] #[]] ++ lb, W1, hen, ?_, ?_, ?_, fun _ => h1, ?_⟩
  · simp only [resolve, hg]
    simp [go_sem]
  · intro f' hf'
    simp [Target.leads] at hf'
    subst hf'
    exact hFg
  · simp [invoke, go_sem, eg]
  · refine (hseq (w.heap.size + 1) (fun pre W => I pre W ∧ Book w.heap.size (rec .ready none) W) (fun pre W => ∃ c, Ix c pre W ∧ Book w.heap.size (rec .done (some c)) W) W1 hbl ?_ ?_ ⟨hI1, hbk⟩).mono ?_
    · exact Turns.and (fun s A B row hs hgr hr => hI s A B row hs hgr (fun r e => by have := hr r e; omega)) (Book.turns (by omega) fun _ => _)
    · rintro pre x V ⟨hi, hb⟩ hx hlen
      have hlt := (Array.getElem?_eq_some_iff.1 hb.2).1
      have hy := run_yield (P := P) (args := encs x) hb.2 (by rw [hrec]; exact hps x)
      have hbr := run_beginRound (P := P) hb.2 (by rw [hrec])
      rw [show ({ rec .ready none with state := .busy } : Loop) = rec .busy none by rw [hrec]] at hbr
      have hb2 := hb.put (rec .busy none)
      have hx2 := hH x V _ _ (.loop (rec .busy none)) (by rw [← hsz]; exact hx) hb.2
      have hi2 := hI.put (.loop (rec .busy none)) hi (show w.heap.size ≤ w.heap.size + 1 by omega)
      have hst : Stay (w.heap.size + 2) V (V.putObj (w.heap.size + 1) (.loop (rec .busy none))) := ⟨by simp, fun k hk _ => World.putObj_heap_other (by omega)⟩
      rw [hrec] at hy
      refine ⟨fn, _, assign, body, hy, roundIn_of_wpIn hfn (hassign _ x V _ ⟨_, hbr, ?_⟩)⟩
      exact wpIn_mono (hbody _ pre x _ hi2 hx2 (by simp; omega) hlen) (roundPost_w hrr hI (fun c W' o h => hIx c _ W' o h) hb2 (by simp) hst (by omega) (by omega) hB0 hB1 (Hold.put (by omega) _ _))
    · rintro e W2 ⟨⟨v, rfl⟩, ⟨xs, hS, hi, hb⟩ | ⟨pre, hSp, c, hi, hb⟩⟩
      · have he := run_endLoop (P := P) hb.2 (by rw [hrec]; simp)
        refine ⟨_, _, he, ?_⟩
        rw [hrec] at *
        exact hdone xs _ hS (hI.put _ hi (by omega)) ((World.putObj_heap_other (by omega)).trans hb.1)
      · have he := run_endLoop (P := P) hb.2 (by rw [hrec]; simp)
        refine ⟨_, _, he, ?_⟩
        rw [hrec] at *
        exact hstop c pre _ hSp (hIx c _ _ _ hi) ((World.putObj_heap_other (by omega)).trans hb.1)


theorem vec_roundsW (n B0 : Nat) (lo : Int) (b c : Nat) (hl1 : -32 ≤ lo) (hl2 : lo ≤ 32) (hb1 : 1 ≤ b) (hb2 : b ≤ 64) (hc1 : 1 ≤ c) (hc4 : c ≤ 4) (w : World) (hB : B0 + 3 ≤ w.heap.size) (hc : CaptV B0 lo b c w) :
    RoundsW Fence.wide n Try.prog 106 #[.pointer (some ⟨B0 + 1, 0, none⟩), .pointer (some ⟨B0, 0, none⟩), .pointer (some ⟨B0 + 2, 0, none⟩)] encV (YieldsV lo b c) B0 (B0 + 3) (fun xs => xs.map (·.2) = vecsL lo b c) (fun pre => pre.map (·.2) <+: vecsL lo b c) (b ^ c) w :=
  fun l J Jx W hW hJ hY hJ0 => vec_in n l B0 lo b c hl1 hl2 hb1 hb2 hc1 hc4 J Jx W hJ hY (hc.below hW hB) (Nat.le_trans hB hW.size) hJ0

end Go.Proofs.Ytenibnblibnocab

/-! RowWord -/
namespace Go.Proofs.Ytenibnblibnocab
open Go.RowKit
/-- it is nil; or it leads to a row of 'cap' cells, the numbers 'zs' (the first 'len' are its elements), each fitting its kind -/
def IsRow (k : IntKind) (w : World) (a : Option Addr) (len cap : Nat) (zs : List Int) : Prop :=
  (a = none ∧ len = 0 ∧ cap = 0 ∧ zs = []) ∨
  ∃ x, a = some x ∧ len ≤ cap ∧ cap ≤ maxLen ∧ zs.length = cap ∧ (∀ i, i < zs.length → w.cell? (x.add i) = some (.int k (zs.getD i 0))) ∧ ∀ n ∈ zs, (Lit.int k n).wf = true
end Go.Proofs.Ytenibnblibnocab
