/-
  Some texts in one file: RangeV Zvec1 Zvec2 RangeW Vecs2 SlEq Zp1b Zp5.
-/
import Derived.Test.YtenibnblibnocacQBun0
import Derived.RangeFuncNested
import Derived.Test.YtenibnblibnocacQBun28
import Derived.Laws.CopyOwn
import Derived.Laws.OwnMore
import Derived.Deep.OwnRows
import Derived.BigQuiet
import Derived.StillTailTactics
import Derived.Test.YtenibnblibnocacQBun45
import Derived.Test.YtenibnblibnocacQBun24
import Derived.Sort.LoopGhostIn
import Derived.Sort.BigQuietIn
import Derived.Test.YtenibnblibnocacQBun13
import Derived.Test.YtenibnblibnocacQBun26
/-! RangeV -/
set_option linter.unusedVariables false
namespace Go.Proofs.Ytenibnblibnocac
open Go.RowKit

/-- whatever lies at B or behind it is left as it lay -/
structure Stay (B : Nat) (W W' : World) : Prop where
  size : W.heap.size ≤ W'.heap.size
  block : ∀ k, B ≤ k → k < W.heap.size → W'.heap[k]? = W.heap[k]?
theorem Stay.refl (B : Nat) (W : World) : Stay B W W := ⟨Nat.le_refl _, fun _ _ _ => rfl⟩
theorem Stay.trans {B : Nat} {X Y Z : World} (h : Stay B X Y) (k : Stay B Y Z) : Stay B X Z :=
  ⟨Nat.le_trans h.size k.size, fun i hB hi => (k.block i hB (Nat.lt_of_lt_of_le hi h.size)).trans (h.block i hB hi)⟩
theorem Stay.mono {B C : Nat} {W W' : World} (h : Stay B W W') (hc : B ≤ C) : Stay C W W' := ⟨h.size, fun k hk hl => h.block k (Nat.le_trans hc hk) hl⟩
theorem Stay.of_below {B : Nat} {W W' : World} (h : Below W.heap.size W W') : Stay B W W' := ⟨h.size, fun k _ hl => h.block k hl⟩
theorem Stay.setCell {B : Nat} {W : World} {a : Addr} (ha : a.block < B) (v : Value) : Stay B W (W.setCell a v) :=
  ⟨by simp [World.setCell], fun k hk _ => Below.heap_setCell _ _ _ k (fun e => by omega)⟩
theorem Stay.drewN (B : Nat) (W : World) (n : Nat) : Stay B W (W.drewN n) := ⟨Nat.le_refl _, fun _ _ _ => rfl⟩
theorem Stay.at_block {B k : Nat} {W W' : World} {o : Obj} (h : Stay B W W') (hk : B ≤ k) (ho : W.heap[k]? = some o) : W'.heap[k]? = some o :=
  (h.block k hk (Array.getElem?_eq_some_iff.1 ho).1).trans ho
/-- these blocks are left as they lay -/
def Hold (B0 B1 : Nat) (W W' : World) : Prop := ∀ k, B0 ≤ k → k < B1 → W'.heap[k]? = W.heap[k]?
theorem Hold.trans {B0 B1 : Nat} {X Y Z : World} (h : Hold B0 B1 X Y) (k : Hold B0 B1 Y Z) : Hold B0 B1 X Z := fun i h1 h2 => (k i h1 h2).trans (h i h1 h2)
theorem Hold.put {B0 B1 k : Nat} (hk : B1 ≤ k) (W : World) (o : Obj) : Hold B0 B1 W (W.putObj k o) := fun i _ h2 => World.putObj_heap_other (by omega)
theorem Stay.hold {B0 B1 : Nat} {W W' : World} (h : Stay B0 W W') (hB : B1 ≤ W.heap.size) : Hold B0 B1 W W' := fun k h1 h2 => h.block k h1 (by omega)
/-- what is said abides new blocks, and the turn of one block at B or behind it -/
def Turns {β : Type} (B : Nat) (J : β → World → Prop) : Prop :=
  ∀ s W W' row, J s W → W.grownBy W' row → (∀ r, row = some r → B ≤ r) → J s W'
theorem Turns.and {β : Type} {B : Nat} {J K : β → World → Prop} (h : Turns B J) (k : Turns B K) : Turns B (fun s W => J s W ∧ K s W) :=
  fun s W W' row hs hg hr => ⟨h s W W' row hs.1 hg hr, k s W W' row hs.2 hg hr⟩
theorem turns_pure {β : Type} (B : Nat) (p : β → Prop) : Turns B (fun s (_ : World) => p s) := fun _ _ _ _ hs _ _ => hs
theorem turns_below {β : Type} {n B : Nat} {w : World} (hn : n ≤ w.heap.size) (hB : n ≤ B) : Turns B (fun (_ : β) W => Below n w W) :=
  fun _ _ _ _ hs hg hr => hs.grown hg (Nat.le_trans hn hs.size) (fun k e => Nat.le_trans hB (hr k e))
theorem turns_block {β : Type} {B k : Nat} (hk : k < B) (f : β → Obj) : Turns B (fun s W => W.heap[k]? = some (f s)) :=
  fun s W W' row hs hg hr => (hg.block k (Array.getElem?_eq_some_iff.1 hs).1 (fun e => by have := hr k e.symm; omega)).trans hs
theorem Turns.put {β : Type} {B : Nat} {J : β → World → Prop} (h : Turns B J) {s : β} {W : World} {k : Nat} (o : Obj) (hs : J s W) (hk : B ≤ k) : J s (W.putObj k o) :=
  h s W _ (some k) hs (grownBy_putObj' W k o) (fun r e => by cases e; exact hk)
theorem Turns.lay {β : Type} {B : Nat} {J : β → World → Prop} (h : Turns B J) {s : β} {W : World} (o : Obj) (hs : J s W) : J s (W.alloc o) :=
  h s W _ none hs (World.grownBy_alloc W o none) (fun r e => by cases e)

/-- the iterator's contract: at each yield, H says what the element is -/
def RoundsV {α : Type} (F : Fence) (n : Nat) (P : Program) (g : Nat) (lb : Array Value) (encs : α → Array Value) (H : Nat → α → World → Prop) (B0 B1 : Nat) (S Sp : List α → Prop) (N : Nat) (w : World) : Prop :=
  ∀ (l : Nat) (J Jx : List α → World → Prop) (W : World), Below w.heap.size w W → Turns W.heap.size J → Turns W.heap.size Jx →
    (∀ pre x V, J pre V → H W.heap.size x V → pre.length < N → YieldAt F (n - 1) P l (encs x) V fun e V' =>
      (e = .returned (.bool true) ∧ J (pre ++ [x]) V' ∧ Stay W.heap.size V V' ∧ Hold B0 B1 V V') ∨ (e = .returned (.bool false) ∧ Jx (pre ++ [x]) V')) →
    J [] W →
    CallsIn F n P g (#[.func (.yield l) #[] #[]] ++ lb) W fun e V => (∃ v, e = .returned v) ∧ ((∃ xs, S xs ∧ J xs V) ∨ (∃ pre, Sp pre ∧ Jx pre V))

/-- the two blocks of a loop: its record, and the block for deferred calls ahead of it -/
def Book (D : Nat) (r : Loop) (W : World) : Prop := W.heap[D]? = some (.deferred (some [])) ∧ W.heap[D + 1]? = some (.loop r)
theorem Book.put {D : Nat} {r : Loop} {W : World} (h : Book D r W) (r' : Loop) : Book D r' (W.putObj (D + 1) (.loop r')) :=
  ⟨(World.putObj_heap_other (by omega)).trans h.1, World.putObj_heap_same (Array.getElem?_eq_some_iff.1 h.2).1⟩
theorem Book.stay {D : Nat} {r : Loop} {W W' : World} (h : Book D r W) (hs : Stay D W W') : Book D r W' :=
  ⟨hs.at_block (Nat.le_refl _) h.1, hs.at_block (by omega) h.2⟩
theorem Book.turns {β : Type} {D B : Nat} (hB : D + 2 ≤ B) (r : β → Loop) : Turns B (fun s W => Book D (r s) W) :=
  Turns.and (turns_block (by omega) fun _ => _) (turns_block (by omega) fun s => .loop (r s))
theorem Book.new (w : World) (r : Loop) : Book w.heap.size r ((w.alloc (.deferred (some []))).alloc (.loop r)) := by
  refine ⟨(Below.heap_alloc _ _ _ (by simp)).trans (World.alloc_heap_new w _), ?_⟩
  have h := World.alloc_heap_new (w.alloc (.deferred (some []))) (.loop r)
  rwa [World.size_alloc] at h
/-- how a round's body is left -/
def endsV {α : Type} (B : Nat) (I : List α → World → Prop) (Ix : Code → List α → World → Prop) (xs : List α) (W : World) : Exit → Act → World → Prop
  | .normal, _, W' => Stay B W W' ∧ I xs W'
  | .ret, _, W' => Stay B W W' ∧ Ix .ret xs W'
  | .exit id, _, W' => Stay B W W' ∧ Ix (.exit id) xs W'
  | .goto t, _, W' => Stay B W W' ∧ Ix (.goto t) xs W'
  | _, _, _ => False

variable {F : Fence} {n : Nat} {P : Program}

/-- one round: what is asked at its end, out of how its body is left -/
theorem roundPost_of {α : Type} {D : Nat} {rec : LoopState → Option Code → Loop} (hrec : ∀ st pe st' pe', { rec st pe with state := st', pending := pe' } = rec st' pe') {I : List α → World → Prop} {Ix : Code → List α → World → Prop} (hI : Turns D I) (hIx : ∀ c, Turns D (Ix c)) {xs : List α} {V W : World} (hb : Book D (rec .busy none) W) (hV : V.heap.size ≤ W.heap.size) (hVW : Stay (D + 2) V W) (hD : D + 2 ≤ V.heap.size) {C : Nat} (hC : D + 2 ≤ C) {B0 B1 : Nat} (hB0 : B0 ≤ D) (hB1 : B1 ≤ D) (hH : Hold B0 B1 V W) :
    ∀ (e : Exit) (a : Act) (W' : World), endsV B0 I Ix xs W e a W' → roundPost P (D + 1) (fun e V' => (e = .returned (.bool true) ∧ (I xs V' ∧ Book D (rec .ready none) V') ∧ Stay C V V' ∧ Hold B0 B1 V V') ∨ (e = .returned (.bool false) ∧ ∃ c, Ix c xs V' ∧ Book D (rec .done (some c)) V')) e a W' := by
  have fin : ∀ (jump : Option Code) (W' : World), Stay D W W' → (Instr.endRound (D + 1) jump).run P W' = .ok (.bool jump.isNone) (W'.putObj (D + 1) (.loop (rec (if jump.isNone then .ready else .done) jump))) ∧ Book D (rec (if jump.isNone then .ready else .done) jump) (W'.putObj (D + 1) (.loop (rec (if jump.isNone then .ready else .done) jump))) := fun jump W' hs => by
    have hb' := hb.stay hs
    have hr := run_endRound (P := P) jump hb'.2
    rw [hrec] at hr
    exact ⟨hr, hb'.put _⟩
  intro e a W' h
  cases e with
  | normal =>
    obtain ⟨hr, hb'⟩ := fin none W' (h.1.mono hB0)
    refine ⟨_, _, hr, .inl ⟨rfl, ⟨hI.put _ h.2 (by omega), hb'⟩, ?_, hH.trans ((h.1.hold (by omega)).trans (Hold.put (by omega) _ _))⟩⟩
    refine (hVW.trans (h.1.mono (by omega))).mono hC |>.trans ⟨by simp, fun k hk _ => World.putObj_heap_other (by omega)⟩
  | ret =>
    obtain ⟨hr, hb'⟩ := fin (some .ret) W' (h.1.mono hB0)
    exact ⟨_, _, hr, .inr ⟨rfl, .ret, (hIx _).put _ h.2 (by omega), hb'⟩⟩
  | exit id =>
    obtain ⟨hr, hb'⟩ := fin (some (.exit id)) W' (h.1.mono hB0)
    exact ⟨_, _, hr, .inr ⟨rfl, .exit id, (hIx _).put _ h.2 (by omega), hb'⟩⟩
  | goto t =>
    obtain ⟨hr, hb'⟩ := fin (some (.goto t)) W' (h.1.mono hB0)
    exact ⟨_, _, hr, .inr ⟨rfl, .goto t, (hIx _).put _ h.2 (by omega), hb'⟩⟩
  | panic ch => exact h.elim
  | outgrown => exact h.elim

/-- a loop over such an iterator -/
theorem wpIn_rangeV {α : Type} {g : Operand} {ps : Array Tmp} {assign body : Code} {Q : Exit → Act → World → Prop} {a : Act} {w : World}
    (hro : F.round = none) (h1 : 1 ≤ n) {gf : Nat} {lb : Array Value} (hg : a.eval g = .func (.func gf) #[] lb) (hFg : F.fn gf) (eg : ∀ args W, (callFunc gf args).run P W = .ok (.enter gf args) W)
    {encs : α → Array Value} {H : Nat → α → World → Prop} {B0 B1 : Nat} (hB0 : B0 ≤ w.heap.size) (hB1 : B1 ≤ w.heap.size) {S Sp : List α → Prop} {N : Nat} {w0 : World} (hseq : RoundsV F (n - 1) P gf lb encs H B0 B1 S Sp N w0) (hb0 : Below w0.heap.size w0 w) (hps : ∀ x, (encs x).size = ps.size)
    (hH : ∀ x W k r o, H (w.heap.size + 2) x W → W.heap[k]? = some (.loop r) → H (w.heap.size + 2) x (W.putObj k o))
    (I : List α → World → Prop) (Ix : Code → List α → World → Prop) (hI : Turns w.heap.size I) (hIx : ∀ c, Turns w.heap.size (Ix c)) (h0 : I [] w) (a₁ : α → Act)
    (hassign : ∀ (l : Nat) (x : α) (W : World) (K : Act → World → Prop), K (a₁ x) W →
      assign.wpIn (F.inRound l) (n - 1 - 1) P (Exit.then K (fun _ _ _ => False)) { tmps := (ps.zip (encs x)).foldl (fun t (p, v) => t.setIfInBounds p v) a.tmps, defers := [] } W)
    (hbody : ∀ (l : Nat) (pre : List α) (x : α) (W : World), I pre W → H (w.heap.size + 2) x W → w.heap.size + 2 ≤ W.heap.size → pre.length < N → body.wpIn (F.inRound l) (n - 1 - 1) P (endsV B0 I Ix (pre ++ [x]) W) (a₁ x) W)
    (hdone : ∀ (xs : List α) (W : World), S xs → I xs W → W.heap[w.heap.size]? = some (.deferred (some [])) → Q .normal { a with defers := { target := .collected w.heap.size, args := #[] } :: a.defers } W)
    (hstop : ∀ (c : Code) (pre : List α) (W : World), Sp pre → Ix c pre W → W.heap[w.heap.size]? = some (.deferred (some [])) → c.wpIn F n P Q { a with defers := { target := .collected w.heap.size, args := #[] } :: a.defers } W) :
    (Code.rangeFunc g ps assign body).wpIn F n P Q a w := by
  refine wpIn_rangeFunc fun fn hfn => ?_
  rw [hro]
  obtain ⟨rec, hrec⟩ : ∃ rec : LoopState → Option Code → Loop, rec = fun st pe => { state := st, pending := pe, fn, tmps := a.tmps, params := ps, assign, body, defers := w.heap.size } := ⟨_, rfl⟩
  have hrr : ∀ st pe st' pe', { rec st pe with state := st', pending := pe' } = rec st' pe' := fun st pe st' pe' => by rw [hrec]
  have hbk := Book.new w (rec .ready none)
  have hI1 := hI.lay (.loop (rec .ready none)) (hI.lay (.deferred (some [])) h0)
  have hbl := hb0.trans ((((Below.refl _ w).alloc (Nat.le_refl _) (.deferred (some []))).alloc (by simp) (.loop (rec .ready none))).mono hb0.size)
  have hen := run_enterLoop_outer (P := P) (w := w) fn a.tmps ps assign body
  have hsz : ((w.alloc (.deferred (some []))).alloc (.loop (rec .ready none))).heap.size = w.heap.size + 2 := by simp
  have hrd : ((w.alloc (.deferred (some []))).alloc (.loop { state := .ready, pending := none, fn, tmps := a.tmps, params := ps, assign, body, defers := w.heap.size })) = ((w.alloc (.deferred (some []))).alloc (.loop (rec .ready none))) := by rw [hrec]
  rw [hrd] at hen
  obtain ⟨W1, hW1⟩ : ∃ W1, W1 = (w.alloc (.deferred (some []))).alloc (.loop (rec .ready none)) := ⟨_, rfl⟩
  rw [← hW1] at hbk hI1 hbl hen hsz
  refine ⟨w.heap.size + 1, [{ target := .collected w.heap.size, args := #[] }], W1, { target := .fn (.func gf) lb, args := #[.func (.yield (w.heap.size + 1)) #[] #[]] }, W1, gf, #[.func (.yield (w.heap.size + 1)) #[] #[]] ++ lb, W1, hen, ?_, ?_, ?_, fun _ => h1, ?_⟩
  · simp only [resolve, hg]
    simp [go_sem]
  · intro f' hf'
    simp [Target.leads] at hf'
    subst hf'
    exact hFg
  · simp [invoke, go_sem, eg]
  · refine (hseq (w.heap.size + 1) (fun pre W => I pre W ∧ Book w.heap.size (rec .ready none) W) (fun pre W => ∃ c, Ix c pre W ∧ Book w.heap.size (rec .done (some c)) W) W1 hbl ?_ ?_ ?_ ⟨hI1, hbk⟩).mono ?_
    · exact Turns.and (fun s A B row hs hgr hr => hI s A B row hs hgr (fun r e => by have := hr r e; omega)) (Book.turns (by omega) fun _ => _)
    · rintro s A B row ⟨c, hc, hbc⟩ hgr hr
      exact ⟨c, hIx c s A B row hc hgr (fun r e => by have := hr r e; omega), Book.turns (β := Unit) (B := W1.heap.size) (by omega) (fun _ => rec .done (some c)) () A B row hbc hgr hr⟩
    · rintro pre x V ⟨hi, hb⟩ hx hlen
      have hlt := (Array.getElem?_eq_some_iff.1 hb.2).1
      have hy := run_yield (P := P) (args := encs x) hb.2 (by rw [hrec]; exact hps x)
      have hbr := run_beginRound (P := P) hb.2 (by rw [hrec])
      rw [show ({ rec .ready none with state := .busy } : Loop) = rec .busy none by rw [hrec]] at hbr
      have hb2 := hb.put (rec .busy none)
      have hx2 := hH x V _ _ (.loop (rec .busy none)) (by rw [← hsz]; exact hx) hb.2
      have hi2 := hI.put (.loop (rec .busy none)) hi (show w.heap.size ≤ w.heap.size + 1 by omega)
      have hst : Stay (w.heap.size + 2) V (V.putObj (w.heap.size + 1) (.loop (rec .busy none))) := ⟨by simp, fun k hk _ => World.putObj_heap_other (by omega)⟩
      rw [hrec] at hy
      refine ⟨fn, _, assign, body, hy, roundIn_of_wpIn hfn (hassign _ x V _ ⟨_, hbr, ?_⟩)⟩
      exact wpIn_mono (hbody _ pre x _ hi2 hx2 (by simp; omega) hlen) (roundPost_of hrr hI hIx hb2 (by simp) hst (by omega) (by omega) hB0 hB1 (Hold.put (by omega) _ _))
    · rintro e W2 ⟨⟨v, rfl⟩, ⟨xs, hS, hi, hb⟩ | ⟨pre, hSp, c, hi, hb⟩⟩
      · have he := run_endLoop (P := P) hb.2 (by rw [hrec]; simp)
        refine ⟨_, _, he, ?_⟩
        rw [hrec] at *
        exact hdone xs _ hS (hI.put _ hi (by omega)) ((World.putObj_heap_other (by omega)).trans hb.1)
      · have he := run_endLoop (P := P) hb.2 (by rw [hrec]; simp)
        refine ⟨_, _, he, ?_⟩
        rw [hrec] at *
        exact hstop c pre _ hSp ((hIx c).put _ hi (by omega)) ((World.putObj_heap_other (by omega)).trans hb.1)

end Go.Proofs.Ytenibnblibnocac

/-! Zvec1 -/
set_option linter.unusedVariables false
namespace Go.Proofs.Ytenibnblibnocac
open Go.RowKit

set_option maxRecDepth 100000 in
set_option maxHeartbeats 2000000 in
theorem mul64_any (c : Nat) (h1 : 1 ≤ c) (h4 : c ≤ 4) (w : World) : Calls Try.prog 90 #[.int .u64 1, .int .u64 (c : Int)] w fun e w' => e = .returned (.tuple #[.int .u64 0, .int .u64 (c : Int)]) ∧ w = w' := by
  have hc : c = 1 ∨ c = 2 ∨ c = 3 ∨ c = 4 := by omega
  rcases hc with rfl | rfl | rfl | rfl
  all_goals (
    go_enter Try.func90, Try.ntmps90
    go_wp2
    go_ret2
    exact ⟨rfl, rfl⟩)

set_option maxRecDepth 100000 in
set_option maxHeartbeats 2000000 in
theorem mul_any (c : Nat) (h1 : 1 ≤ c) (h4 : c ≤ 4) (w : World) : Calls Try.prog 85 #[.int .u64 1, .int .u64 (c : Int)] w fun e w' => e = .returned (.tuple #[.int .u64 0, .int .u64 (c : Int)]) ∧ w = w' := by
  have HM := hid (fun w => mul64_any c h1 h4 w)
  go_enter Try.func85, Try.ntmps85
  go_wp2_with (go_at_call 90; refine (HM.out _).mono ?_; rintro e w' ⟨rfl, rfl⟩)
  go_ret2
  exact ⟨rfl, rfl⟩

theorem rd_one9 {w : World} {v : Value} {x : Int} (h : Rd w v [x]) : ∃ g o cap, v = .slice (some ⟨g, o, none⟩) 1 cap ∧ w.cell? ⟨g, o, none⟩ = some (.int .i64 x) := by
  obtain ⟨ad, cap, rfl, hform⟩ := h.form
  obtain ⟨g, o, rfl, _, hc⟩ := hform (by simp)
  exact ⟨g, o, cap, rfl, hc 0 (by simp)⟩

theorem made_row (c : Nat) (h1 : 1 ≤ c) (h4 : c ≤ 4) : (madeCells #[.int .i64 0] c : Array Value) = (List.replicate c (.int .i64 0) : List Value).toArray := by
  exact Array.toList_inj.1 (toList_madeCells_one _ _)
theorem one_at {w : World} {a : Addr} {x : Int} (h : w.cell? a = some (.int .i64 x)) : ∀ (j : Nat) (v : Value), [Value.int .i64 x][j]? = some v → w.cell? (a.add j) = some v := by
  intro j v hj
  match j with
  | 0 => simp at hj; subst hj; simpa [Addr.add] using h
  | j + 1 => simp at hj
def rowR (x : Int) (c K : Nat) : List Value := List.replicate K (.int .i64 x) ++ List.replicate (c - K) (.int .i64 0)
theorem rowR_len (x : Int) {c K : Nat} (h : K ≤ c) : (rowR x c K).length = c := by unfold rowR; rw [List.length_append, List.length_replicate, List.length_replicate]; omega
theorem rowR_splice (x : Int) {c K : Nat} (h : K ≤ c) (m : Nat) (hm : K + m ≤ c) : splice (rowR x c K) K (List.replicate m (.int .i64 x)) = rowR x c (K + m) := by
  unfold splice rowR
  rw [List.take_append_of_le_length (by simp), List.take_of_length_le (by simp), List.length_replicate, List.drop_append, List.drop_eq_nil_of_le (by simp), List.nil_append, List.length_replicate, List.drop_replicate, ← List.append_assoc, List.replicate_append_replicate]
  congr 2
  omega
theorem rowR_at (x : Int) {c K j : Nat} (h : j < K) : (rowR x c K)[j]? = some (.int .i64 x) := by
  unfold rowR
  rw [List.getElem?_append_left (by simpa using h), List.getElem?_replicate, if_pos h]
theorem rowR_full (x : Int) (c : Nat) : rowR x c c = (List.replicate c x).map (Value.int .i64) := by
  unfold rowR; rw [Nat.sub_self]; simp

theorem owns_row {W : World} {B g c : Nat} {xs : List Int} (h : W.heap[g]? = some (.cells ((xs).map (Value.int .i64)).toArray 3 (0, 0))) (hB : B ≤ g) (hl : xs.length = c) (hm : c ≤ maxLen) : Owns W B (.slice (some ⟨g, 0, none⟩) c c) xs := by
  subst hl
  refine ⟨by simp, .inr ⟨g, xs.length, _, rfl, hB, h, Nat.le_refl _, hm, by simp, ?_⟩⟩
  rw [List.take_of_length_le (by simp)]

theorem copy_run (wd : World) (g dLen dCap sLen sCap : Nat) (rk : List Value) (hg : wd.heap[g]? = some (.cells rk.toArray 3 (0, 0))) (cs : List Value) {m : Nat} (hl : cs.length = m) (hsrc : ∀ (j : Nat) (v : Value), cs[j]? = some v → wd.cell? ((⟨g, 0, none⟩ : Addr).add j) = some v) {K : Nat} (hfit : K + m ≤ rk.length) (hm : m = min sLen dLen) (h1 : ∀ v ∈ cs, v.oneCell' = true) (hsz : (Try.prog.info? 3).map (·.size) = some 1) :
    (Builtin.copy_ #[23, 23] 3 #[.slice (some ⟨g, K, none⟩) dLen dCap, .slice (some ⟨g, 0, none⟩) sLen sCap]).run Try.prog wd = .ok (goInt m) (wd.setRow g (splice rk K cs).toArray) := by
  have h := run_copy_row (P := Try.prog) wd 23 23 3 3 g K dLen dCap ⟨g, 0, none⟩ sLen sCap rk.toArray 3 cs Try.underlying23 hsz hg (by rw [hl, hm]) hsrc (by simpa [hl] using hfit) h1
  rw [hl] at h
  rw [h]
  unfold splice
  simp [hl]
theorem copy_below {w wd : World} {g : Nat} {rk : List Value} (hb : Below g w wd) (hg : wd.heap[g]? = some (.cells rk.toArray 3 (0, 0))) (l : List Value) : Below g w (wd.setRow g l.toArray) ∧ (wd.setRow g l.toArray).heap[g]? = some (.cells l.toArray 3 (0, 0)) :=
  ⟨below_setRow hb (Nat.le_refl _) _, setRow_heap wd g _ _ 3 _ hg⟩

set_option maxRecDepth 100000 in
set_option maxHeartbeats 400000 in
theorem repeat_any (a : Value) (x : Int) (c : Nat) (h1 : 1 ≤ c) (h4 : c ≤ 4) (w : World) (h : Rd w a [x]) :
    Calls Try.prog 70 #[a, .int .i64 (c : Int)] w fun e w' => e = .returned (.slice (some ⟨w.heap.size, 0, none⟩) c c) ∧ Owns w' w.heap.size (.slice (some ⟨w.heap.size, 0, none⟩) c c) (List.replicate c x) ∧ Below w.heap.size w w' := by
  obtain ⟨i0, hi, hz0, hz1, hz2⟩ := info_parts infoInt
  obtain ⟨g, o, cap, rfl, hcell⟩ := rd_one9 h
  have hg : g < w.heap.size := by
    obtain ⟨ob, ho, _⟩ := cells_of_cell hcell
    exact (Array.getElem?_eq_some_iff.1 ho).1
  have HM := hid (fun w => mul_any c h1 h4 w)
  have HB := hid ((Below.refl w.heap.size w).alloc (Nat.le_refl _) (.cells (rowR x c 0).toArray 3))
  have HR : Hid (((w.alloc (.cells (rowR x c 0).toArray 3))).heap[w.heap.size]? = some (.cells (rowR x c 0).toArray 3 (0, 0))) := hid (World.alloc_heap_new w _)
  have HC : Hid ((w.alloc (.cells (rowR x c 0).toArray 3)).cell? ⟨g, o, none⟩ = some (.int .i64 x)) := hid ((HB.out.cell (p := ⟨g, o, none⟩) hg).trans hcell)
  have HMR : Hid ((madeCells #[.int .i64 0] c : Array Value) = (rowR x c 0).toArray) := hid (made_row c h1 h4)
  clear h
  go_enter Try.func70, Try.ntmps70
  have wr2 : IntKind.i64.wrap 2 = 2 := by decide
  have wr3 : IntKind.i64.wrap 3 = 3 := by decide
  have wr4 : IntKind.i64.wrap 4 = 4 := by decide
  have HSZ : (i0 |> fun i => (Try.prog.info? 3).map (·.size)) = some 1 := by rw [hi]; simp [hz1]
  go_wp2_with (first | (go_at_call 85; refine (HM.out _).mono ?_; rintro e w' ⟨rfl, rfl⟩) | (at_make; refine wpList_make_row _ rfl _ _ 23 rfl 3 i0 (.int .i64 0) Try.underlying23 hi hz0 hz1 rfl .i64 .i64 c rfl rfl (by rw [hz2]; omega) (by omega) ?_; rw [HMR.out]) | (with_reducible refine wpList_copy_splice (o := ⟨some 33, _, _, _, _, _⟩) rfl _ _ 23 23 rfl 3 Try.underlying23 HSZ _ _ _ _ _ _ rfl rfl w.heap.size 0 (rowR x c 0) 3 HR.out [.int .i64 x] (show 1 = min 1 c by omega) (fun _ => ⟨rfl, _, rfl, one_at HC.out⟩) (by rw [rowR_len x (Nat.zero_le _)]; simp; omega) (by simp [Value.oneCell']) w.heap.size w HB.out (Nat.le_refl _) ?_; intro w2 HR2 hb2))
  have hs2 := hb2.size
  have HCW : Hid (∀ wx : World, Below w.heap.size w wx → wx.heap[w.heap.size]? = some (.cells (rowR x c c).toArray 3 (0, 0)) → Owns wx w.heap.size (.slice (some ⟨w.heap.size, 0, none⟩) c c) (List.replicate c x)) := hid (fun wx hb hh => by
    rw [rowR_full] at hh
    exact owns_row hh (Nat.le_refl _) (List.length_replicate ..) (by unfold maxLen; omega))
  have HR3 : Hid (w2.heap[w.heap.size]? = some (.cells (rowR x c 1).toArray 3 (0, 0))) := hid (by
    have h := HR2.out
    rw [show [Value.int .i64 x] = List.replicate 1 (Value.int .i64 x) from rfl, rowR_splice x (Nat.zero_le _) 1 (by omega)] at h
    exact h)
  have HB2 := hid hb2
  clear HR2 hb2 HM HMR HB HR HC hcell hg
  go_loopw [8] (fun si wr => ∃ K : Nat, si = .int .i64 K ∧ 1 ≤ K ∧ K ≤ c ∧ Hid (wr.heap[w.heap.size]? = some (.cells (rowR x c K).toArray 3 (0, 0))) ∧ Hid (Below w.heap.size w wr)) (fun si _ => 10 - (intOf si).toNat)
  case atStart => exact ⟨1, rfl, by omega, h1, HR3, HB2⟩
  case round =>
    obtain ⟨K, rfl, hK1, hKc, HRr, HBr⟩ := hrel
    rename World => wr
    by_cases hlt : K < c
    · obtain ⟨m, hm⟩ : ∃ m, m = min K (c - K) := ⟨_, rfl⟩
      have hm1 : 1 ≤ m := by omega
      have hmK : K + m ≤ c := by omega
      have HM2 := hid hm
      obtain ⟨cs, hcs⟩ : ∃ cs, cs = List.replicate m (Value.int .i64 x) := ⟨_, rfl⟩
      obtain ⟨rk, hrk⟩ : ∃ rk, rk = rowR x c K := ⟨_, rfl⟩
      have HSP : Hid (splice rk K cs = rowR x c (K + m)) := hid (by rw [hrk, hcs]; exact rowR_splice x hKc m hmK)
      have HCL : Hid (cs.length = m) := hid (by rw [hcs, List.length_replicate])
      have HRL : Hid (rk.length = c) := hid (by rw [hrk]; exact rowR_len x hKc)
      have HC1 : Hid (∀ v ∈ cs, v.oneCell' = true) := hid (by intro v hv; rw [hcs] at hv; rw [List.eq_of_mem_replicate hv]; rfl)
      rw [← hrk] at HRr
      have HBD : Hid (Below w.heap.size w wr.drew) := hid ⟨HBr.out.os, HBr.out.tape, HBr.out.output, HBr.out.size, HBr.out.block⟩
      have HRD : Hid (wr.drew.heap[w.heap.size]? = some (.cells rk.toArray 3 (0, 0))) := hid HRr.out
      have HCD : Hid (∀ (j : Nat) (v : Value), cs[j]? = some v → wr.drew.cell? ((⟨w.heap.size, 0, none⟩ : Addr).add j) = some v) := hid (fun j v hj => by
        rw [hcs, List.getElem?_replicate] at hj
        by_cases hjm : j < m
        · rw [if_pos hjm] at hj
          cases hj
          have h := rowR_at x (c := c) (show j < K by omega)
          have e : wr.drew.cell? ⟨w.heap.size, j, none⟩ = rk.toArray[j]? := Go.cell_of_row _ _ _ _ _ _ HRD.out
          have e2 : ((⟨w.heap.size, 0, none⟩ : Addr).add j) = ⟨w.heap.size, j, none⟩ := by
            by_cases h0 : j = 0
            · subst h0; simp [Addr.add]
            · simp [Addr.add, h0]
          rw [e2, e, hrk]
          simpa using h
        · rw [if_neg hjm] at hj; cases hj)
      clear hcs hrk
      have hcK : (c = 2 ∧ K = 1 ∧ m = 1) ∨ (c = 3 ∧ K = 1 ∧ m = 1) ∨ (c = 3 ∧ K = 2 ∧ m = 1) ∨ (c = 4 ∧ K = 1 ∧ m = 1) ∨ (c = 4 ∧ K = 2 ∧ m = 2) ∨ (c = 4 ∧ K = 3 ∧ m = 1) := by omega
      clear hm
      rcases hcK with ⟨rfl, rfl, rfl⟩ | ⟨rfl, rfl, rfl⟩ | ⟨rfl, rfl, rfl⟩ | ⟨rfl, rfl, rfl⟩ | ⟨rfl, rfl, rfl⟩ | ⟨rfl, rfl, rfl⟩
      · have HRUN := copy_run wr.drew w.heap.size 1 1 1 2 rk HRD.out cs HCL.out HCD.out (by rw [HRL.out]; omega) (by omega) HC1.out HSZ
        rw [HSP.out] at HRUN
        have HW4 := hid (copy_below HBD.out HRD.out (rowR x 2 2))
        obtain ⟨w4, hw4⟩ : ∃ w4, w4 = wr.drew.setRow w.heap.size (rowR x 2 2).toArray := ⟨_, rfl⟩
        rw [← hw4] at HRUN HW4
        clear hw4
        go_wp2_with fail
        go_region
        all_goals (
          go_wp2
          go_round
          case measure => simp only [intOf]; omega
          case rel => exact ⟨(2 : Nat), by go_num, by omega, by omega, hid HW4.out.2, hid HW4.out.1⟩)
      · have HRUN := copy_run wr.drew w.heap.size 2 2 1 3 rk HRD.out cs HCL.out HCD.out (by rw [HRL.out]; omega) (by omega) HC1.out HSZ
        rw [HSP.out] at HRUN
        have HW4 := hid (copy_below HBD.out HRD.out (rowR x 3 2))
        obtain ⟨w4, hw4⟩ : ∃ w4, w4 = wr.drew.setRow w.heap.size (rowR x 3 2).toArray := ⟨_, rfl⟩
        rw [← hw4] at HRUN HW4
        clear hw4
        go_wp2_with fail
        go_region
        all_goals (
          go_wp2
          go_round
          case measure => simp only [intOf]; omega
          case rel => exact ⟨(2 : Nat), by go_num, by omega, by omega, hid HW4.out.2, hid HW4.out.1⟩)
      · have HRUN := copy_run wr.drew w.heap.size 1 1 2 3 rk HRD.out cs HCL.out HCD.out (by rw [HRL.out]; omega) (by omega) HC1.out HSZ
        rw [HSP.out] at HRUN
        have HW4 := hid (copy_below HBD.out HRD.out (rowR x 3 3))
        obtain ⟨w4, hw4⟩ : ∃ w4, w4 = wr.drew.setRow w.heap.size (rowR x 3 3).toArray := ⟨_, rfl⟩
        rw [← hw4] at HRUN HW4
        clear hw4
        go_wp2_with fail
        go_region
        all_goals (
          go_wp2
          go_round
          case measure => simp only [intOf]; omega
          case rel => exact ⟨(3 : Nat), by go_num, by omega, by omega, hid HW4.out.2, hid HW4.out.1⟩)
      · have HRUN := copy_run wr.drew w.heap.size 3 3 1 4 rk HRD.out cs HCL.out HCD.out (by rw [HRL.out]; omega) (by omega) HC1.out HSZ
        rw [HSP.out] at HRUN
        have HW4 := hid (copy_below HBD.out HRD.out (rowR x 4 2))
        obtain ⟨w4, hw4⟩ : ∃ w4, w4 = wr.drew.setRow w.heap.size (rowR x 4 2).toArray := ⟨_, rfl⟩
        rw [← hw4] at HRUN HW4
        clear hw4
        go_wp2_with fail
        go_region
        all_goals (
          go_wp2
          go_round
          case measure => simp only [intOf]; omega
          case rel => exact ⟨(2 : Nat), by go_num, by omega, by omega, hid HW4.out.2, hid HW4.out.1⟩)
      · have HRUN := copy_run wr.drew w.heap.size 2 2 2 4 rk HRD.out cs HCL.out HCD.out (by rw [HRL.out]; omega) (by omega) HC1.out HSZ
        rw [HSP.out] at HRUN
        have HW4 := hid (copy_below HBD.out HRD.out (rowR x 4 4))
        obtain ⟨w4, hw4⟩ : ∃ w4, w4 = wr.drew.setRow w.heap.size (rowR x 4 4).toArray := ⟨_, rfl⟩
        rw [← hw4] at HRUN HW4
        clear hw4
        go_wp2_with fail
        go_region
        all_goals (
          go_wp2
          go_round
          case measure => simp only [intOf]; omega
          case rel => exact ⟨(4 : Nat), by go_num, by omega, by omega, hid HW4.out.2, hid HW4.out.1⟩)
      · have HRUN := copy_run wr.drew w.heap.size 1 1 3 4 rk HRD.out cs HCL.out HCD.out (by rw [HRL.out]; omega) (by omega) HC1.out HSZ
        rw [HSP.out] at HRUN
        have HW4 := hid (copy_below HBD.out HRD.out (rowR x 4 4))
        obtain ⟨w4, hw4⟩ : ∃ w4, w4 = wr.drew.setRow w.heap.size (rowR x 4 4).toArray := ⟨_, rfl⟩
        rw [← hw4] at HRUN HW4
        clear hw4
        go_wp2_with fail
        go_region
        all_goals (
          go_wp2
          go_round
          case measure => simp only [intOf]; omega
          case rel => exact ⟨(4 : Nat), by go_num, by omega, by omega, hid HW4.out.2, hid HW4.out.1⟩)
    · obtain rfl : K = c := by omega
      clear hlt
      go_wp2_with fail
      go_ret
      exact ⟨rfl, HCW.out _ HBr.out HRr.out, HBr.out⟩

end Go.Proofs.Ytenibnblibnocac

/-! Zvec2 -/
set_option linter.unusedVariables false
namespace Go.Proofs.Ytenibnblibnocac
open Go.RowKit Go.Shelf
attribute [local go_sem] Oper.semAt_some

abbrev VE := Nat × List Int
abbrev encV (x : VE) : Array Value := #[.slice (some ⟨x.1, 0, none⟩) x.2.length x.2.length]
/-- what a yield hands out -/
def YieldsV (lo : Int) (b c B : Nat) (x : VE) (W : World) : Prop := Owns W B (.slice (some ⟨x.1, 0, none⟩) x.2.length x.2.length) x.2 ∧ x.2.length = c ∧ ∀ v ∈ x.2, lo ≤ v ∧ v < lo + b
/-- the captured variables -/
def CaptV (B0 : Nat) (lo : Int) (b c : Nat) (W : World) : Prop := Boxed W B0 3 (.int .i64 (c : Int)) ∧ Boxed W (B0 + 1) 3 (.int .i64 lo) ∧ Boxed W (B0 + 2) 3 (.int .i64 (lo + b - 1))
theorem CaptV.hold {B0 : Nat} {lo : Int} {b c : Nat} {W W' : World} (h : CaptV B0 lo b c W) (hk : Hold B0 (B0 + 3) W W') : CaptV B0 lo b c W' :=
  ⟨(hk B0 (Nat.le_refl _) (by omega)).trans h.1, (hk (B0 + 1) (by omega) (by omega)).trans h.2.1, (hk (B0 + 2) (by omega) (by omega)).trans h.2.2⟩
theorem CaptV.below {B0 n : Nat} {lo : Int} {b c : Nat} {W W' : World} (h : CaptV B0 lo b c W) (hk : Below n W W') (hn : B0 + 3 ≤ n) : CaptV B0 lo b c W' := h.hold (fun k _ h2 => hk.block k (by omega))
theorem CaptV.grown {B0 g : Nat} {lo : Int} {b c : Nat} {W W' : World} (h : CaptV B0 lo b c W) (hg : W.grownBy W' (some g)) (hB : B0 + 3 ≤ g) : CaptV B0 lo b c W' :=
  ⟨h.1.kept hg (by intro e; cases e; omega), h.2.1.kept hg (by intro e; cases e; omega), h.2.2.kept hg (by intro e; cases e; omega)⟩
theorem grows_of {W W' : World} (h : Below W.heap.size W W') : W.grownBy W' none := ⟨h.os, h.tape, h.output, h.size, fun k hk _ => h.block k hk⟩
theorem grows_drewN (W : World) (k : Nat) : W.grownBy (W.drewN k) none := ⟨rfl, rfl, rfl, Nat.le_refl _, fun _ _ _ => rfl⟩
theorem Owns.stay {W W' : World} {B C : Nat} {g n cap : Nat} {xs : List Int} (h : Owns W B (.slice (some ⟨g, 0, none⟩) n cap) xs) (hs : Stay C W W') (hC : C ≤ g) : Owns W' B (.slice (some ⟨g, 0, none⟩) n cap) xs := by
  obtain ⟨h1, h2⟩ := h
  refine ⟨h1, ?_⟩
  rcases h2 with h2 | ⟨g', cap', cur, hv, hg, hh, r⟩
  · exact .inl h2
  · cases hv
    exact .inr ⟨_, _, cur, rfl, hg, hs.at_block hC hh, r⟩
theorem vec_last {b c t K : Nat} (hb : 1 ≤ b) (ht : t < c) (h : (K + 1) % b ^ t = 0) (hd : K / b ^ t % b ≠ b - 1) (hK : K < b ^ c) : K + 1 < b ^ c := by
  refine Classical.byContradiction fun hn => hd ?_
  have e0 : K + 1 = b ^ c := by omega
  have e : (K + 1) / b ^ t = K / b ^ t + 1 := by rw [Nat.succ_div_of_dvd (Nat.dvd_of_mod_eq_zero h)]
  have e1 : b ^ c = b ^ t * (b * b ^ (c - 1 - t)) := by rw [← Nat.pow_succ', ← Nat.pow_add]; congr 1; omega
  rw [e0, e1, Nat.mul_div_cancel_left _ (Nat.pow_pos (by omega))] at e
  have hp : 0 < b ^ (c - 1 - t) := Nat.pow_pos (by omega)
  obtain ⟨m, hm⟩ : ∃ m, b ^ (c - 1 - t) = m + 1 := ⟨b ^ (c - 1 - t) - 1, by omega⟩
  rw [hm, Nat.mul_succ] at e
  rw [show K / b ^ t = b - 1 + b * m by omega, Nat.add_mul_mod_self_left, Nat.mod_eq_of_lt (by omega)]

theorem vectors_make (c lo hi : Int) (w : World) :
    Calls Try.prog 55 #[.int .i64 c, .int .i64 lo, .int .i64 hi] w fun e w' => e = .returned (.func (.func 69) #[] #[.pointer (some ⟨w.heap.size + 1, 0, none⟩), .pointer (some ⟨w.heap.size, 0, none⟩), .pointer (some ⟨w.heap.size + 2, 0, none⟩)]) ∧
      w' = ((w.alloc (.cells #[.int .i64 c] 3)).alloc (.cells #[.int .i64 lo] 3)).alloc (.cells #[.int .i64 hi] 3) := by
  go_enter Try.func55, Try.ntmps55
  go_wp2
  go_ret
  exact ⟨rfl, rfl⟩

set_option maxRecDepth 100000 in
set_option maxHeartbeats 4000000 in
theorem vec_in (n l B0 : Nat) (lo : Int) (b c : Nat) (hl1 : -32 ≤ lo) (hl2 : lo ≤ 32) (hb1 : 1 ≤ b) (hb2 : b ≤ 64) (hc1 : 1 ≤ c) (hc4 : c ≤ 4) (J Jx : List VE → World → Prop) (W : World) (hJ : Turns W.heap.size J)
    (hY : ∀ pre x V, J pre V → YieldsV lo b c W.heap.size x V → pre.length < b ^ c → YieldAt Fence.wide (n - 1) Try.prog l (encV x) V fun e V' =>
      (e = .returned (.bool true) ∧ J (pre ++ [x]) V' ∧ Stay W.heap.size V V' ∧ Hold B0 (B0 + 3) V V') ∨ (e = .returned (.bool false) ∧ Jx (pre ++ [x]) V'))
    (hC : CaptV B0 lo b c W) (hB : B0 + 3 ≤ W.heap.size) (hJ0 : J [] W) :
    CallsIn Fence.wide n Try.prog 69 #[.func (.yield l) #[] #[], .pointer (some ⟨B0 + 1, 0, none⟩), .pointer (some ⟨B0, 0, none⟩), .pointer (some ⟨B0 + 2, 0, none⟩)] W fun e V => (∃ v, e = .returned v) ∧
      ((∃ xs : List VE, xs.map (·.2) = vecsL lo b c ∧ J xs V) ∨ (∃ pre : List VE, pre.map (·.2) <+: vecsL lo b c ∧ Jx pre V)) := by
  have HYY := hid hY
  have HJT := hid hJ
  have HC0 := hid hC
  have HJ0 := hid hJ0
  have HRD : Hid (Rd (W.alloc (.cells #[.int .i64 lo] 3)) (.slice (some ⟨W.heap.size, 0, none⟩) 1 1) [lo]) := hid (owns_lit (B := W.heap.size) [lo] _ rfl (Nat.le_refl _) (by unfold maxLen; simp)).rd
  have cm0 := hC.1.cell
  have cm1 := hC.2.1.cell
  have ca0 : (W.alloc (.cells #[.int .i64 lo] 3)).cell? ⟨B0, 0, none⟩ = some (.int .i64 (c : Int)) := (hC.1.alloc _).cell
  clear hY hJ hC hJ0
  refine callsIn_of_wp Try.func69 rfl trivial ?_ rfl
  simp only [Try.ntmps69, List.size_toArray, List.length_cons, List.length_nil, Nat.reduceAdd, Nat.reduceSub, Array.replicate_succ, Array.replicate_zero, List.push_toArray, List.append_toArray, List.nil_append, List.cons_append]
  gi_wp2_with (refine ⟨trivial, wide_depth n, ?_⟩; gi_at_call 70; refine (callsIn_wide.2 (repeat_any _ lo c hc1 hc4 _ HRD.out)).mono ?_; rintro e w2 ⟨rfl, hO, hb⟩)
  have hbW : Below W.heap.size W w2 := ((Below.refl W.heap.size W).alloc (Nat.le_refl _) (.cells #[.int .i64 lo] 3)).trans (hb.mono (by simp))
  simp only [World.size_alloc] at hO
  have HO2 : Hid (Owns w2 W.heap.size (.slice (some ⟨W.heap.size + 1, 0, none⟩) c c) (vecAt lo b c 0)) := hid (by rw [vecAt_first]; exact hO.down (by omega))
  have HJ2 := hid (HJT.out _ _ _ none HJ0.out (grows_of hbW) (fun r e => by cases e))
  have HC2 := hid (HC0.out.below hbW hB)
  have hp0 : 0 < b ^ c := Nat.pow_pos (by omega)
  clear hO hb hbW HJ0 HC0 HRD cm0 cm1 ca0
  gi_loopg [6] (b ^ c) (fun k si wr => ∃ (K : Nat) (pre : List VE), k + K = b ^ c ∧ K < b ^ c ∧ Hid (pre.map (·.2) = (vecsL lo b c).take K) ∧ Hid (Owns wr W.heap.size (.slice (some ⟨W.heap.size + 1, 0, none⟩) c c) (vecAt lo b c K)) ∧ Hid (J pre wr) ∧ Hid (CaptV B0 lo b c wr))
  case atStart => exact ⟨0, [], rfl, hp0, hid rfl, HO2, HJ2, HC2⟩
  case round =>
    obtain ⟨K, pre, hkK, hK, HP, HO, HJr, HCr⟩ := hrel
    rename World => wr
    have hpl : pre.length = K := by
      have h := congrArg List.length HP.out
      rw [List.length_map, List.length_take, vecs_len] at h
      omega
    obtain ⟨fn, tmps, assign, body, hy, hR⟩ := HYY.out pre (W.heap.size + 1, vecAt lo b c K) wr HJr.out ⟨by simp only [vecAt_len]; exact HO.out, vecAt_len lo b c K, vecAt_bd hb1⟩ (by omega)
    dsimp only [encV] at hy
    rw [vecAt_len] at hy
    have HP2 : Hid ((pre ++ [(W.heap.size + 1, vecAt lo b c K)]).map (·.2) = (vecsL lo b c).take (K + 1)) := hid (by rw [vecs_take hK, List.map_append, HP.out]; rfl)
    obtain ⟨pre2, hpre2⟩ : ∃ pre2, pre2 = pre ++ [((W.heap.size + 1, vecAt lo b c K) : VE)] := ⟨_, rfl⟩
    rw [← hpre2] at HP2 hR
    clear hpre2 HP HJr
    gi_wp2
    refine ⟨wide_depth n, hR.mono ?_⟩
    rintro e w3 (⟨rfl, hJ', hS, hH⟩ | ⟨rfl, hJx'⟩)
    · have HJ3 := hid hJ'
      have HO3 : Hid (Owns w3 W.heap.size (.slice (some ⟨W.heap.size + 1, 0, none⟩) c c) (vecPart lo b c K 0)) := hid (by rw [vecPart_zero]; exact HO.out.stay hS (by omega))
      have HC3 := hid (HCr.out.hold hH)
      have cm3 := HC3.out.1.cell
      clear hJ' hS hH HO HCr hy hR
      gi_wp2
      gi_loopw [6] (fun si wr => ∃ t : Nat, si = .int .i64 ((c : Int) - 1 - (t : Int)) ∧ t ≤ c ∧ Hid ((K + 1) % b ^ t = 0) ∧ Hid (Owns wr W.heap.size (.slice (some ⟨W.heap.size + 1, 0, none⟩) c c) (vecPart lo b c K t)) ∧ Hid (J pre2 wr) ∧ Hid (CaptV B0 lo b c wr)) (fun si _ => (intOf si + 1).toNat)
      case atStart => exact ⟨0, by go_num, by omega, hid (Nat.mod_one _), HO3, HJ3, HC3⟩
      case round =>
        obtain ⟨t, rfl, ht, HD, HOt, HJt, HCt⟩ := hrel
        rename World => wt
        by_cases htc : t < c
        · obtain ⟨i, hi⟩ : ∃ i : Nat, i + t + 1 = c := ⟨c - 1 - t, by omega⟩
          have hie : (c : Int) - 1 - (t : Int) = (i : Int) := by omega
          have hie2 : c - 1 - t = i := by omega
          rw [hie]
          have h0i : (0 : Int) ≤ (i : Int) := by omega
          have hic : (i : Int) < (c : Int) := by omega
          have hg1 := HOt.out.elem (i := i) (by rw [vecPart_len]; omega)
          have hg2 := vecPart_at (lo := lo) (b := b) (c := c) (K := K) (t := t) htc
          rw [hie2] at hg2
          rw [hg2] at hg1
          have hf1 := HOt.out.thaw i
          have cb2 := HCt.out.2.2.cell
          have cb1 := HCt.out.2.1.cell
          have hq : K / b ^ t % b < b := Nat.mod_lt _ (by omega)
          have HNX : Hid (K / b ^ t % b ≠ b - 1 → (vecPart lo b c K t).set i (lo + ((K / b ^ t % b : Nat) : Int) + 1) = vecAt lo b c (K + 1) ∧ K + 1 < b ^ c) := hid (fun h => ⟨by rw [← hie2]; exact part_next hb1 htc HD.out h, vec_last hb1 htc HD.out h hK⟩)
          have HST : Hid (K / b ^ t % b = b - 1 → (K + 1) % b ^ (t + 1) = 0) := hid (fun h => carry hb1 HD.out h)
          have HLO : Hid ((vecPart lo b c K t).set i lo = vecPart lo b c K (t + 1)) := hid (by rw [← hie2]; exact part_lo htc)
          obtain ⟨q, hqe⟩ : ∃ q, q = K / b ^ t % b := ⟨_, rfl⟩
          rw [← hqe] at hg1 hq HNX HST
          clear hg2 hqe
          by_cases hqb : q = b - 1
          · have T : ((lo + (q : Int)) == (lo + (b : Int) - 1)) = true := by rw [beq_iff_eq]; omega
            have HD2 := hid (HST.out hqb)
            clear HNX HST hqb
            gi_wp2
            gi_big_quiet_th (fail)
            gi_wp2
            have HSE := hid ((HOt.out.drewN nq).storeAt i lo)
            have HJS := hid (HJT.out _ _ _ (some (W.heap.size + 1)) (HJT.out _ _ _ none HJt.out (grows_drewN wt nq) (fun r e => by cases e)) HSE.out.2 (fun r e => by cases e; omega))
            have HCS := hid (CaptV.grown (W := wt.drewN nq) HCt.out HSE.out.2 (by omega))
            go_roundw
            case measure => simp only [intOf]; omega
            case rel => exact ⟨t + 1, by go_num, by omega, HD2, hid (by have h := HSE.out.1; rw [HLO.out] at h; exact h), HJS, HCS⟩
          · have T : ((lo + (q : Int)) == (lo + (b : Int) - 1)) = false := by rw [beq_eq_false_iff_ne]; omega
            obtain ⟨hnx, hKn⟩ := HNX.out hqb
            have HNX2 := hid hnx
            clear HNX HST hqb hnx
            gi_wp2
            gi_big_quiet_th (fail)
            gi_wp2
            have HSE := hid ((HOt.out.drewN nq).storeAt i (lo + (q : Int) + 1))
            have HJS := hid (HJT.out _ _ _ (some (W.heap.size + 1)) (HJT.out _ _ _ none HJt.out (grows_drewN wt nq) (fun r e => by cases e)) HSE.out.2 (fun r e => by cases e; omega))
            have HCS := hid (CaptV.grown (W := wt.drewN nq) HCt.out HSE.out.2 (by omega))
            gi_roundg (gk - 1)
            case measure => omega
            case rel => exact ⟨K + 1, pre2, by omega, hKn, HP2, hid (by have h := HSE.out.1; rw [HNX2.out] at h; exact h), HJS, HCS⟩
        · obtain rfl : t = c := by omega
          have hm1 : ((t : Int) - 1 - (t : Int)) = -1 := by omega
          rw [hm1]
          have hfull := carried HD.out hK
          have HXS : Hid (pre2.map (·.2) = vecsL lo b t) := hid (by rw [HP2.out, hfull, ← vecs_len lo b t, List.take_length])
          clear hm1 htc
          gi_wp2
          gi_big_quiet_th (fail)
          gi_wp2
          refine bodyPost_ret (results_none rfl _ _ _) rfl ?_
          exact ⟨⟨_, rfl⟩, .inl ⟨pre2, HXS.out, HJT.out _ _ _ none HJt.out (grows_drewN wt nq) (fun r e => by cases e)⟩⟩
    · have HJX := hid hJx'
      clear hJx' hR hy
      gi_wp2
      go_end0
      exact ⟨⟨_, rfl⟩, .inr ⟨pre2, by rw [HP2.out]; exact List.take_prefix _ _, HJX.out⟩⟩

theorem vec_rounds (n B0 : Nat) (lo : Int) (b c : Nat) (hl1 : -32 ≤ lo) (hl2 : lo ≤ 32) (hb1 : 1 ≤ b) (hb2 : b ≤ 64) (hc1 : 1 ≤ c) (hc4 : c ≤ 4) (w : World) (hB : B0 + 3 ≤ w.heap.size) (hc : CaptV B0 lo b c w) :
    RoundsV Fence.wide n Try.prog 69 #[.pointer (some ⟨B0 + 1, 0, none⟩), .pointer (some ⟨B0, 0, none⟩), .pointer (some ⟨B0 + 2, 0, none⟩)] encV (YieldsV lo b c) B0 (B0 + 3) (fun xs => xs.map (·.2) = vecsL lo b c) (fun pre => pre.map (·.2) <+: vecsL lo b c) (b ^ c) w :=
  fun l J Jx W hW hJ _ hY hJ0 => vec_in n l B0 lo b c hl1 hl2 hb1 hb2 hc1 hc4 J Jx W hJ hY (hc.below hW hB) (Nat.le_trans hB hW.size) hJ0

theorem yields_put {lo : Int} {b c B k : Nat} {x : VE} {W : World} {r : Loop} (o : Obj) (h : YieldsV lo b c B x W) (hk : W.heap[k]? = some (.loop r)) : YieldsV lo b c B x (W.putObj k o) := by
  obtain ⟨⟨h1, h2⟩, h3⟩ := h
  refine ⟨⟨h1, ?_⟩, h3⟩
  rcases h2 with h2 | ⟨g, cap, cur, hv, hg, hh, r⟩
  · exact .inl h2
  · refine .inr ⟨g, cap, cur, hv, hg, (World.putObj_heap_other ?_).trans hh, r⟩
    rintro rfl
    rw [hh] at hk
    cases hk

end Go.Proofs.Ytenibnblibnocac

/-! RangeW -/
set_option linter.unusedVariables false
namespace Go.Proofs.Ytenibnblibnocac
open Go.RowKit

/-- the iterator's contract: at each yield, H says what the element is -/
def RoundsW {α : Type} (F : Fence) (n : Nat) (P : Program) (g : Nat) (lb : Array Value) (encs : α → Array Value) (H : Nat → α → World → Prop) (B0 B1 : Nat) (S Sp : List α → Prop) (N : Nat) (w : World) : Prop :=
  ∀ (l : Nat) (J Jx : List α → World → Prop) (W : World), Below w.heap.size w W → Turns W.heap.size J →
    (∀ pre x V, J pre V → H W.heap.size x V → pre.length < N → YieldAt F (n - 1) P l (encs x) V fun e V' =>
      (e = .returned (.bool true) ∧ J (pre ++ [x]) V' ∧ Stay W.heap.size V V' ∧ Hold B0 B1 V V') ∨ (e = .returned (.bool false) ∧ Jx (pre ++ [x]) V')) →
    J [] W →
    CallsIn F n P g (#[.func (.yield l) #[] #[]] ++ lb) W fun e V => (∃ v, e = .returned v) ∧ ((∃ xs, S xs ∧ J xs V) ∨ (∃ pre, Sp pre ∧ Jx pre V))

variable {F : Fence} {n : Nat} {P : Program}

/-- one round: what is asked at its end, out of how its body is left -/
theorem roundPost_w {α : Type} {D : Nat} {rec : LoopState → Option Code → Loop} (hrec : ∀ st pe st' pe', { rec st pe with state := st', pending := pe' } = rec st' pe') {I : List α → World → Prop} {Ix : Code → List α → World → Prop} (hI : Turns D I) {xs : List α} (hIx : ∀ c W' o, Ix c xs W' → Ix c xs (W'.putObj (D + 1) o)) {V W : World} (hb : Book D (rec .busy none) W) (hV : V.heap.size ≤ W.heap.size) (hVW : Stay (D + 2) V W) (hD : D + 2 ≤ V.heap.size) {C : Nat} (hC : D + 2 ≤ C) {B0 B1 : Nat} (hB0 : B0 ≤ D) (hB1 : B1 ≤ D) (hH : Hold B0 B1 V W) :
    ∀ (e : Exit) (a : Act) (W' : World), endsV B0 I Ix xs W e a W' → roundPost P (D + 1) (fun e V' => (e = .returned (.bool true) ∧ (I xs V' ∧ Book D (rec .ready none) V') ∧ Stay C V V' ∧ Hold B0 B1 V V') ∨ (e = .returned (.bool false) ∧ ∃ c, Ix c xs V' ∧ Book D (rec .done (some c)) V')) e a W' := by
  have fin : ∀ (jump : Option Code) (W' : World), Stay D W W' → (Instr.endRound (D + 1) jump).run P W' = .ok (.bool jump.isNone) (W'.putObj (D + 1) (.loop (rec (if jump.isNone then .ready else .done) jump))) ∧ Book D (rec (if jump.isNone then .ready else .done) jump) (W'.putObj (D + 1) (.loop (rec (if jump.isNone then .ready else .done) jump))) := fun jump W' hs => by
    have hb' := hb.stay hs
    have hr := run_endRound (P := P) jump hb'.2
    rw [hrec] at hr
    exact ⟨hr, hb'.put _⟩
  intro e a W' h
  cases e with
  | normal =>
    obtain ⟨hr, hb'⟩ := fin none W' (h.1.mono hB0)
    refine ⟨_, _, hr, .inl ⟨rfl, ⟨hI.put _ h.2 (by omega), hb'⟩, ?_, hH.trans ((h.1.hold (by omega)).trans (Hold.put (by omega) _ _))⟩⟩
    refine (hVW.trans (h.1.mono (by omega))).mono hC |>.trans ⟨by simp, fun k hk _ => World.putObj_heap_other (by omega)⟩
  | ret =>
    obtain ⟨hr, hb'⟩ := fin (some .ret) W' (h.1.mono hB0)
    exact ⟨_, _, hr, .inr ⟨rfl, .ret, hIx _ _ _ h.2, hb'⟩⟩
  | exit id =>
    obtain ⟨hr, hb'⟩ := fin (some (.exit id)) W' (h.1.mono hB0)
    exact ⟨_, _, hr, .inr ⟨rfl, .exit id, hIx _ _ _ h.2, hb'⟩⟩
  | goto t =>
    obtain ⟨hr, hb'⟩ := fin (some (.goto t)) W' (h.1.mono hB0)
    exact ⟨_, _, hr, .inr ⟨rfl, .goto t, hIx _ _ _ h.2, hb'⟩⟩
  | panic ch => exact h.elim
  | outgrown => exact h.elim

/-- a loop over such an iterator -/
theorem wpIn_rangeW {α : Type} {g : Operand} {ps : Array Tmp} {assign body : Code} {Q : Exit → Act → World → Prop} {a : Act} {w : World}
    (hro : F.round = none) (h1 : 1 ≤ n) {gf : Nat} {lb : Array Value} (hg : a.eval g = .func (.func gf) #[] lb) (hFg : F.fn gf) (eg : ∀ args W, (callFunc gf args).run P W = .ok (.enter gf args) W)
    {encs : α → Array Value} {H : Nat → α → World → Prop} {B0 B1 : Nat} (hB0 : B0 ≤ w.heap.size) (hB1 : B1 ≤ w.heap.size) {S Sp : List α → Prop} {N : Nat} {w0 : World} (hseq : RoundsW F (n - 1) P gf lb encs H B0 B1 S Sp N w0) (hb0 : Below w0.heap.size w0 w) (hps : ∀ x, (encs x).size = ps.size)
    (hH : ∀ x W k r o, H (w.heap.size + 2) x W → W.heap[k]? = some (.loop r) → H (w.heap.size + 2) x (W.putObj k o))
    (I : List α → World → Prop) (Ix : Code → List α → World → Prop) (hI : Turns w.heap.size I) (hIx : ∀ c pre W o, Ix c pre W → Ix c pre (W.putObj (w.heap.size + 1) o)) (h0 : I [] w) (a₁ : α → Act)
    (hassign : ∀ (l : Nat) (x : α) (W : World) (K : Act → World → Prop), K (a₁ x) W →
      assign.wpIn (F.inRound l) (n - 1 - 1) P (Exit.then K (fun _ _ _ => False)) { tmps := (ps.zip (encs x)).foldl (fun t (p, v) => t.setIfInBounds p v) a.tmps, defers := [] } W)
    (hbody : ∀ (l : Nat) (pre : List α) (x : α) (W : World), I pre W → H (w.heap.size + 2) x W → w.heap.size + 2 ≤ W.heap.size → pre.length < N → body.wpIn (F.inRound l) (n - 1 - 1) P (endsV B0 I Ix (pre ++ [x]) W) (a₁ x) W)
    (hdone : ∀ (xs : List α) (W : World), S xs → I xs W → W.heap[w.heap.size]? = some (.deferred (some [])) → Q .normal { a with defers := { target := .collected w.heap.size, args := #[] } :: a.defers } W)
    (hstop : ∀ (c : Code) (pre : List α) (W : World), Sp pre → Ix c pre W → W.heap[w.heap.size]? = some (.deferred (some [])) → c.wpIn F n P Q { a with defers := { target := .collected w.heap.size, args := #[] } :: a.defers } W) :
    (Code.rangeFunc g ps assign body).wpIn F n P Q a w := by
  refine wpIn_rangeFunc fun fn hfn => ?_
  rw [hro]
  obtain ⟨rec, hrec⟩ : ∃ rec : LoopState → Option Code → Loop, rec = fun st pe => { state := st, pending := pe, fn, tmps := a.tmps, params := ps, assign, body, defers := w.heap.size } := ⟨_, rfl⟩
  have hrr : ∀ st pe st' pe', { rec st pe with state := st', pending := pe' } = rec st' pe' := fun st pe st' pe' => by rw [hrec]
  have hbk := Book.new w (rec .ready none)
  have hI1 := hI.lay (.loop (rec .ready none)) (hI.lay (.deferred (some [])) h0)
  have hbl := hb0.trans ((((Below.refl _ w).alloc (Nat.le_refl _) (.deferred (some []))).alloc (by simp) (.loop (rec .ready none))).mono hb0.size)
  have hen := run_enterLoop_outer (P := P) (w := w) fn a.tmps ps assign body
  have hsz : ((w.alloc (.deferred (some []))).alloc (.loop (rec .ready none))).heap.size = w.heap.size + 2 := by simp
  have hrd : ((w.alloc (.deferred (some []))).alloc (.loop { state := .ready, pending := none, fn, tmps := a.tmps, params := ps, assign, body, defers := w.heap.size })) = ((w.alloc (.deferred (some []))).alloc (.loop (rec .ready none))) := by rw [hrec]
  rw [hrd] at hen
  obtain ⟨W1, hW1⟩ : ∃ W1, W1 = (w.alloc (.deferred (some []))).alloc (.loop (rec .ready none)) := ⟨_, rfl⟩
  rw [← hW1] at hbk hI1 hbl hen hsz
  refine ⟨w.heap.size + 1, [{ target := .collected w.heap.size, args := #[] }], W1, { target := .fn (.func gf) lb, args := #[.func (.yield (w.heap.size + 1)) #[] #[]] }, W1, gf, #[.func (.yield (w.heap.size + 1)) #[] #[]] ++ lb, W1, hen, ?_, ?_, ?_, fun _ => h1, ?_⟩
  · simp only [resolve, hg]
    simp [go_sem]
  · intro f' hf'
    simp [Target.leads] at hf'
    subst hf'
    exact hFg
  · simp [invoke, go_sem, eg]
  · refine (hseq (w.heap.size + 1) (fun pre W => I pre W ∧ Book w.heap.size (rec .ready none) W) (fun pre W => ∃ c, Ix c pre W ∧ Book w.heap.size (rec .done (some c)) W) W1 hbl ?_ ?_ ⟨hI1, hbk⟩).mono ?_
    · exact Turns.and (fun s A B row hs hgr hr => hI s A B row hs hgr (fun r e => by have := hr r e; omega)) (Book.turns (by omega) fun _ => _)
    · rintro pre x V ⟨hi, hb⟩ hx hlen
      have hlt := (Array.getElem?_eq_some_iff.1 hb.2).1
      have hy := run_yield (P := P) (args := encs x) hb.2 (by rw [hrec]; exact hps x)
      have hbr := run_beginRound (P := P) hb.2 (by rw [hrec])
      rw [show ({ rec .ready none with state := .busy } : Loop) = rec .busy none by rw [hrec]] at hbr
      have hb2 := hb.put (rec .busy none)
      have hx2 := hH x V _ _ (.loop (rec .busy none)) (by rw [← hsz]; exact hx) hb.2
      have hi2 := hI.put (.loop (rec .busy none)) hi (show w.heap.size ≤ w.heap.size + 1 by omega)
      have hst : Stay (w.heap.size + 2) V (V.putObj (w.heap.size + 1) (.loop (rec .busy none))) := ⟨by simp, fun k hk _ => World.putObj_heap_other (by omega)⟩
      rw [hrec] at hy
      refine ⟨fn, _, assign, body, hy, roundIn_of_wpIn hfn (hassign _ x V _ ⟨_, hbr, ?_⟩)⟩
      exact wpIn_mono (hbody _ pre x _ hi2 hx2 (by simp; omega) hlen) (roundPost_w hrr hI (fun c W' o h => hIx c _ W' o h) hb2 (by simp) hst (by omega) (by omega) hB0 hB1 (Hold.put (by omega) _ _))
    · rintro e W2 ⟨⟨v, rfl⟩, ⟨xs, hS, hi, hb⟩ | ⟨pre, hSp, c, hi, hb⟩⟩
      · have he := run_endLoop (P := P) hb.2 (by rw [hrec]; simp)
        refine ⟨_, _, he, ?_⟩
        rw [hrec] at *
        exact hdone xs _ hS (hI.put _ hi (by omega)) ((World.putObj_heap_other (by omega)).trans hb.1)
      · have he := run_endLoop (P := P) hb.2 (by rw [hrec]; simp)
        refine ⟨_, _, he, ?_⟩
        rw [hrec] at *
        exact hstop c pre _ hSp (hIx c _ _ _ hi) ((World.putObj_heap_other (by omega)).trans hb.1)


theorem vec_roundsW (n B0 : Nat) (lo : Int) (b c : Nat) (hl1 : -32 ≤ lo) (hl2 : lo ≤ 32) (hb1 : 1 ≤ b) (hb2 : b ≤ 64) (hc1 : 1 ≤ c) (hc4 : c ≤ 4) (w : World) (hB : B0 + 3 ≤ w.heap.size) (hc : CaptV B0 lo b c w) :
    RoundsW Fence.wide n Try.prog 69 #[.pointer (some ⟨B0 + 1, 0, none⟩), .pointer (some ⟨B0, 0, none⟩), .pointer (some ⟨B0 + 2, 0, none⟩)] encV (YieldsV lo b c) B0 (B0 + 3) (fun xs => xs.map (·.2) = vecsL lo b c) (fun pre => pre.map (·.2) <+: vecsL lo b c) (b ^ c) w :=
  fun l J Jx W hW hJ hY hJ0 => vec_in n l B0 lo b c hl1 hl2 hb1 hb2 hc1 hc4 J Jx W hJ hY (hc.below hW hB) (Nat.le_trans hB hW.size) hJ0

end Go.Proofs.Ytenibnblibnocac

/-! Vecs2 -/
set_option linter.unusedVariables false
namespace Go.Proofs.Ytenibnblibnocac
open Go.RowKit

theorem vecAt_cons {lo : Int} {b c d K : Nat} (hb : 1 ≤ b) (hd : d < b) (hK : K < b ^ c) : vecAt lo b (c + 1) (d * b ^ c + K) = (lo + ((d : Nat) : Int)) :: vecAt lo b c K := by
  refine List.ext_getElem (by rw [vecAt_len, List.length_cons, vecAt_len]) fun j h1 h2 => ?_
  rw [vecAt_get h1]
  have h3 := h1
  rw [vecAt_len] at h3
  match j with
  | 0 =>
    rw [List.getElem_cons_zero]
    congr 2
    unfold dig
    rw [show c + 1 - 1 - 0 = c by omega, Nat.mul_comm, Nat.mul_add_div (Nat.pow_pos (by omega)), Nat.div_eq_of_lt hK, Nat.add_zero, Nat.mod_eq_of_lt hd]
  | j + 1 =>
    rw [List.getElem_cons_succ, vecAt_get]
    congr 2
    unfold dig
    have e : b ^ c = b ^ (c - 1 - j) * (b * b ^ j) := by rw [← Nat.pow_succ', ← Nat.pow_add]; congr 1; omega
    rw [show c + 1 - 1 - (j + 1) = c - 1 - j by omega, e, Nat.mul_left_comm, Nat.mul_add_div (Nat.pow_pos (by omega)), Nat.mul_left_comm d, Nat.mul_add_mod]
theorem range_mul (N : Nat) : ∀ b, List.range (b * N) = (List.range b).flatMap (fun d => (List.range N).map (fun k => d * N + k))
  | 0 => by rw [Nat.zero_mul]; rfl
  | b + 1 => by
    rw [Nat.succ_mul, List.range_add, range_mul N b, List.range_succ, List.flatMap_append]
    simp
theorem vecsL_succ {lo : Int} {b c : Nat} (hb : 1 ≤ b) : vecsL lo b (c + 1) = (List.range b).flatMap (fun d => (vecsL lo b c).map (fun v => (lo + ((d : Nat) : Int)) :: v)) := by
  unfold vecsL
  rw [Nat.pow_succ', range_mul, List.map_flatMap]
  have h : ∀ l : List Nat, (∀ d ∈ l, d < b) → l.flatMap (fun d => ((List.range (b ^ c)).map (fun k => d * b ^ c + k)).map (vecAt lo b (c + 1))) = l.flatMap (fun d => ((List.range (b ^ c)).map (vecAt lo b c)).map (fun v => (lo + ((d : Nat) : Int)) :: v)) := by
    intro l
    induction l with
    | nil => intro _; rfl
    | cons d l ih =>
      intro hl
      rw [List.flatMap_cons, List.flatMap_cons, ih fun x hx => hl x (List.mem_cons_of_mem _ hx)]
      congr 1
      rw [List.map_map, List.map_map]
      refine List.map_congr_left fun k hk => ?_
      exact vecAt_cons hb (hl d (List.mem_cons_self ..)) (List.mem_range.1 hk)
  exact h _ fun d hd => List.mem_range.1 hd
theorem vecsL_zero (lo : Int) (b : Nat) : vecsL lo b 0 = [[]] := by unfold vecsL; rw [Nat.pow_zero]; rfl
theorem mem_vecs {lo : Int} {b : Nat} (hb : 1 ≤ b) : ∀ {us : List Int}, (∀ u ∈ us, lo ≤ u ∧ u < lo + b) → us ∈ vecsL lo b us.length
  | [], _ => by rw [List.length_nil, vecsL_zero]; exact List.mem_singleton.2 rfl
  | u :: us, h => by
    have h1 := h u (List.mem_cons_self ..)
    rw [List.length_cons, vecsL_succ hb]
    refine List.mem_flatMap.2 ⟨(u - lo).toNat, List.mem_range.2 (by omega), List.mem_map.2 ⟨us, mem_vecs hb fun x hx => h x (List.mem_cons_of_mem _ hx), ?_⟩⟩
    rw [show lo + (((u - lo).toNat : Nat) : Int) = u by omega]
theorem vecs_mem {lo : Int} {b c : Nat} (hb : 1 ≤ b) {v : List Int} (h : v ∈ vecsL lo b c) : v.length = c ∧ ∀ u ∈ v, lo ≤ u ∧ u < lo + b := by
  obtain ⟨K, _, rfl⟩ := List.mem_map.1 h
  exact ⟨vecAt_len .., vecAt_bd hb⟩
theorem mod_vecs (xs : List Int) (P m c : Nat) (hm : 1 ≤ m) : modR xs P m c [] = (vecsL 0 m c).any (modHit xs P m) := by
  rw [Bool.eq_iff_iff, modR_iff, List.any_eq_true]
  constructor
  · rintro ⟨us, rfl, hu, hh⟩
    exact ⟨us, mem_vecs hm fun u h => by have := hu u h; omega, hh⟩
  · rintro ⟨v, hv, hh⟩
    obtain ⟨h1, h2⟩ := vecs_mem hm hv
    exact ⟨v, h1, fun u h => by have := h2 u h; omega, hh⟩
theorem many_vecs (xs : List Int) (n : Int) (h0 : 0 ≤ n) : ∀ (c : Nat) (vs : List Int), manyR xs n c vs = (((vecsL (-n) (2 * n + 1).toNat c).countP (fun us => goodB xs (vs ++ us)) : Nat) : Int)
  | 0, vs => by
    rw [vecsL_zero]
    unfold manyR
    simp only [List.countP_cons, List.countP_nil, List.append_nil]
    cases goodB xs vs <;> rfl
  | c + 1, vs => by
    have hs : ∀ k, sumZ (fun x => manyR xs n c (vs ++ [x])) (-n) k = ((((List.range k).flatMap (fun d => (vecsL (-n) (2 * n + 1).toNat c).map (fun v => (-n + ((d : Nat) : Int)) :: v))).countP (fun us => goodB xs (vs ++ us)) : Nat) : Int) := by
      intro k
      induction k with
      | zero => rfl
      | succ k ih =>
        rw [sumZ_succ, ih, List.range_succ, List.flatMap_append, List.countP_append, many_vecs xs n h0 c]
        simp only [List.flatMap_cons, List.flatMap_nil, List.append_nil, List.countP_map]
        push_cast
        congr 3
        funext us
        simp [Function.comp]
    rw [vecsL_succ (by omega)]
    exact hs _

end Go.Proofs.Ytenibnblibnocac

/-! SlEq -/
set_option linter.unusedVariables false
namespace Go.Proofs.Ytenibnblibnocac
open Go.RowKit Go.Shelf

set_option maxRecDepth 100000 in
set_option maxHeartbeats 1000000 in
theorem slEq_any (va vb : Value) (X Y : List Int) (w3 : World) (hx : Rd w3 va X) (hy : Rd w3 vb Y) (hl1 : X.length ≤ 1000000000002) (hl2 : Y.length ≤ 1000000000002) :
    Calls Try.prog 71 #[va, vb] w3 fun e w' => e = .returned (.bool (decide (X = Y))) ∧ ∃ k, w' = w3.drewN k := by
  obtain ⟨ax, cx, rfl, hfx⟩ := hx.form
  obtain ⟨ay, cy, rfl, hfy⟩ := hy.form
  have HFX := hid hfx
  have HFY := hid hfy
  clear hfx hfy hx hy
  by_cases hl : X.length = Y.length
  · have T : ((X.length : Int) != (Y.length : Int)) = false := by rw [bne_eq_false_iff_eq]; omega
    have HL := hid hl
    clear hl
    go_enter Try.func71, Try.ntmps71
    go_wp2
    go_loopw [13] (fun si wr => ∃ K k : Nat, si = .int .i64 K ∧ K ≤ X.length ∧ Hid (∀ j, j < K → X.getD j 0 = Y.getD j 0) ∧ wr = w3.drewN k) (fun si _ => X.length - (intOf si).toNat)
    case atStart => exact ⟨0, 0, rfl, by omega, hid (fun j hj => absurd hj (by omega)), rfl⟩
    case round =>
      obtain ⟨K, k, rfl, hK, HE, rfl⟩ := hrel
      by_cases hlt : K < X.length
      · obtain ⟨b1, o1, rfl, m1, hc1⟩ := HFX.out (by omega)
        obtain ⟨b2, o2, rfl, m2, hc2⟩ := HFY.out (by have := HL.out; omega)
        obtain ⟨x, hx⟩ : ∃ x, x = X.getD K 0 := ⟨_, rfl⟩
        obtain ⟨y, hy⟩ : ∃ y, y = Y.getD K 0 := ⟨_, rfl⟩
        have c1 := hc1 K hlt
        have c2 := hc2 K (by have := HL.out; omega)
        rw [← hx] at c1
        rw [← hy] at c2
        have Hx := hid hx
        have Hy := hid hy
        have hi : (K : Int) < (X.length : Int) := by omega
        have hi2 : (K : Int) < (Y.length : Int) := by have := HL.out; omega
        unfold maxLen at m1 m2
        clear hc1 hc2 hx hy
        by_cases hxy : x = y
        · have T2 : (x != y) = false := by rw [bne_eq_false_iff_eq]; exact hxy
          have HXY := hid hxy
          clear hxy
          go_wp2
          go_quiet (fail)
          go_wp2
          go_roundw
          case rel => exact ⟨K + 1, _, by go_num, by omega, hid (by intro j hj; by_cases e : j = K; (· rw [e, ← Hx.out, ← Hy.out, HXY.out]); (· exact HE.out j (by omega))), by first | rfl | exact World.drewN_drewN ..⟩
          case measure => simp only [intOf]; omega
        · have T2 : (x != y) = true := by rw [bne_iff_ne]; exact hxy
          have HXY := hid hxy
          have HF : Hid (decide (X = Y) = false) := hid (decide_eq_false (fun e => HXY.out (by rw [Hx.out, Hy.out, e])))
          clear hxy
          go_wp2
          go_quiet (fail)
          go_wp2
          go_ret
          exact ⟨retB HF.out.symm, by first | exact ⟨_, rfl⟩ | (rw [World.drewN_drewN]; exact ⟨_, rfl⟩)⟩
      · obtain rfl : K = X.length := by omega
        have HT : Hid (decide (X = Y) = true) := hid (by
          refine decide_eq_true (List.ext_getElem HL.out fun j h1 h2 => ?_)
          have := HE.out j h1
          rw [getD_at _ _ h1, getD_at _ _ h2] at this
          exact this)
        clear hlt
        go_wp2
        go_ret
        exact ⟨retB HT.out.symm, ⟨k, rfl⟩⟩
  · have T : ((X.length : Int) != (Y.length : Int)) = true := by rw [bne_iff_ne]; omega
    have HF : Hid (decide (X = Y) = false) := hid (decide_eq_false (fun e => hl (by rw [e])))
    clear hl
    go_enter Try.func71, Try.ntmps71
    go_wp2
    go_ret
    exact ⟨retB HF.out.symm, ⟨0, rfl⟩⟩

end Go.Proofs.Ytenibnblibnocac

/-! Zp1b -/
set_option linter.unusedVariables false
namespace Go.Proofs.Ytenibnblibnocac
open Go.RowKit

set_option maxRecDepth 100000 in
set_option maxHeartbeats 1000000 in
theorem plainIs_any (v : Value) (vs : List Int) (w : World) (hv : Rd w v vs) (hl : vs.length ≤ 4) (h6 : Vec11 vs) : Calls Try.prog 56 #[v] w fun e w' => e = .returned (.bool (someB vs && plainB vs)) ∧ Below w.heap.size w w' := by
  have HV := hid hv
  obtain ⟨a', cap', rfl, _⟩ := hv.form
  have H6 := hid h6
  have hgb : hgtL vs ≤ 100000000000 := hgt_le fun x hx => by have := h6 x hx; omega
  clear hv h6
  cases hs : someB vs with
  | false =>
    have hg0 : ¬ (0 < hgtL vs) := fun h => by rw [hgt_some, hs] at h; cases h
    have hg : hgtL vs = 0 := by omega
    have HG := hid hg
    clear hg hg0 hs hgb
    go_enter Try.func56, Try.ntmps56
    go_wp2_with (go_at_call 45; refine (heightOfW_any _ vs _ HV.out hl H6.out).mono ?_; rw [HG.out]; rintro e w' ⟨rfl, rfl⟩)
    go_ret
    exact ⟨rfl, Below.refl _ _⟩
  | true =>
    have HS := hid (someB_iff.1 hs)
    have hg0 : 0 < hgtL vs := hgt_some.2 hs
    obtain ⟨g, hg⟩ : ∃ g, g = hgtL vs := ⟨_, rfl⟩
    rw [← hg] at hg0 hgb
    have HG := hid hg.symm
    have hg1 : (0 : Int) < (g : Int) := by omega
    have hpl := plainL_len vs
    obtain ⟨J, hJ⟩ : ∃ J, J = plainL vs := ⟨_, rfl⟩
    obtain ⟨D, hD⟩ : ∃ D, D = decide (J = vs) := ⟨_, rfl⟩
    have HD : Hid ((true && plainB vs) = D) := hid (by rw [hD, hJ]; rfl)
    have HPL : Hid (∀ (vv : Value) (wx : World), Rd wx vv vs → Calls Try.prog 50 #[vv] wx fun e w' => ∃ u, e = .returned u ∧ Owns w' wx.heap.size u J ∧ Below wx.heap.size wx w') := hid (fun vv wx hr => by rw [hJ]; exact plainOfW_any vv vs wx hr hl H6.out HS.out)
    have HEQ : Hid (∀ (va vb : Value) (wx : World), Rd wx va J → Rd wx vb vs → Calls Try.prog 71 #[va, vb] wx fun e w' => e = .returned (.bool D) ∧ ∃ n, w' = wx.drewN n) := hid (fun va vb wx h1 h2 => by rw [hD]; exact slEq_any va vb J vs wx h1 h2 (by rw [hJ, hpl]; omega) (by omega))
    clear hg hg0 hs hgb hpl hJ hD
    go_enter Try.func56, Try.ntmps56
    go_wp2_with (go_at_call 45; refine (heightOfW_any _ vs _ HV.out hl H6.out).mono ?_; rw [HG.out]; rintro e w' ⟨rfl, rfl⟩)
    refine (HPL.out _ _ HV.out).mono ?_
    rintro e w3 ⟨u, rfl, ho3, hb3⟩
    have HV3 := hid (HV.out.keep hb3)
    go_wp2_with fail
    refine (HEQ.out _ _ _ ho3.rd HV3.out).mono ?_
    rintro e w4 ⟨rfl, n4, rfl⟩
    go_wp2_with fail
    go_ret
    exact ⟨retB HD.out.symm, below_drewN hb3 n4⟩

end Go.Proofs.Ytenibnblibnocac

/-! Zp5 -/
set_option linter.unusedVariables false
namespace Go.Proofs.Ytenibnblibnocac
open Go.RowKit Go.Shelf
attribute [local go_sem] Oper.semAt_some

theorem good_zero {xs vs : List Int} (hf : fvB xs = true) (hl : vs.length = xs.length) (hb : ∀ v ∈ vs, -1000000 ≤ v ∧ v ≤ 1000000) : goodB xs vs = (zeroB xs vs && decide (plainL vs = vs)) := by
  rw [Bool.eq_iff_iff]
  unfold goodB
  rw [Bool.and_eq_true, Bool.and_eq_true, Bool.and_eq_true, zeroB_iff, someB_iff, decide_eq_true_eq, decide_eq_true_eq, hl]
  constructor
  · rintro ⟨h1, h2, h3⟩
    exact ⟨⟨hb, hf, rfl, h1, h2⟩, h3⟩
  · rintro ⟨⟨_, _, _, h1, h2⟩, h3⟩
    exact ⟨h1, h2, h3⟩
/-- a variable of a slice's type, in a block of its own -/
theorem below_three {n : Nat} {w0 w : World} (h : Below n w0 w) (hn : n ≤ w.heap.size) (o1 o2 o3 : Obj) : Below n w0 (((w.alloc o1).alloc o2).alloc o3) :=
  ((h.alloc hn _).alloc (by simp; omega) _).alloc (by simp; omega) _
theorem boxed_three {w : World} {B : Nat} {t : TypeId} {v : Value} (h : Boxed w B t v) (o1 o2 o3 : Obj) : Boxed (((w.alloc o1).alloc o2).alloc o3) B t v := ((h.alloc o1).alloc o2).alloc o3
theorem captV_new (lo : Int) (b c : Nat) (w : World) : CaptV w.heap.size lo b c (((w.alloc (.cells #[.int .i64 (c : Int)] 3)).alloc (.cells #[.int .i64 lo] 3)).alloc (.cells #[.int .i64 (lo + b - 1)] 3)) := by
  have c1 := ((Boxed.new w 3 (.int .i64 (c : Int))).alloc (.cells #[.int .i64 lo] 3)).alloc (.cells #[.int .i64 (lo + b - 1)] 3)
  have c2 := (Boxed.new (w.alloc (.cells #[.int .i64 (c : Int)] 3)) 3 (.int .i64 lo)).alloc (.cells #[.int .i64 (lo + b - 1)] 3)
  have c3 := Boxed.new ((w.alloc (.cells #[.int .i64 (c : Int)] 3)).alloc (.cells #[.int .i64 lo] 3)) 3 (.int .i64 (lo + b - 1))
  simp only [World.size_alloc] at c2 c3
  exact ⟨c1, c2, c3⟩
theorem turns_boxed {β : Type} {B k : Nat} (hk : k < B) (t : TypeId) (f : β → Value) : Turns B (fun s W => Boxed W k t (f s)) := turns_block hk fun s => .cells #[f s] t (0, 0)
theorem boxed_keeps {W W' : World} {B n : Nat} {t : TypeId} {v : Value} (h : Boxed W B t v) (hb : Below n W W') (hn : B < n) : Boxed W' B t v := (hb.block B hn).trans h

set_option maxRecDepth 100000 in
set_option maxHeartbeats 1000000 in
theorem zeroMany_main (vf : Value) (xs : List Int) (N : Nat) (hN1 : 1 ≤ N) (hN6 : N ≤ 6) (hf : fvB xs = true) (w : World) (hx : Rd w vf xs) :
    Calls Try.prog 22 #[vf, .int .i64 (N : Int)] w fun e w' => e = .returned (.int .i64 (manyR xs (N : Int) xs.length [])) ∧ Below w.heap.size w w' := by
  have hl1 := (fvB_iff.1 hf).2
  have HF := hid hf
  have HX := hid hx
  obtain ⟨a, cap, rfl, _⟩ := hx.form
  have bF := Boxed.new w 23 (.slice a xs.length cap)
  have cF := bF.cell
  have HB1 := hid ((Below.refl w.heap.size w).alloc (Nat.le_refl _) (.cells #[.slice a xs.length cap] 23))
  have HX1 := hid (HX.out.keep HB1.out)
  clear hx hf
  refine (callsIn_wide (n := 5)).1 ?_
  refine callsIn_of_wp_marks Try.func22 rfl trivial ?_ rfl
  simp only [Try.ntmps22, List.size_toArray, List.length_cons, List.length_nil, Nat.reduceAdd, Nat.reduceSub, Array.replicate_succ, Array.replicate_zero, List.push_toArray, List.append_toArray, List.nil_append, List.cons_append]
  gi_wp2_with (first | (refine ⟨trivial, ?_⟩; gi_at_call 19; refine (callsIn_wide.2 (formValidP_any _ xs _ HX1.out)).mono ?_; rw [HF.out]; rintro e w' ⟨rfl, rfl⟩))
  refine ⟨trivial, ?_⟩
  gi_at_call 55
  refine (callsIn_wide.2 (vectors_make _ _ _ _)).mono ?_
  rintro e w' ⟨rfl, rfl⟩
  simp only [World.size_alloc]
  have hpw : (2 * N + 1) ^ xs.length ≤ 28561 := Nat.le_trans (Nat.pow_le_pow_left (show 2 * N + 1 ≤ 13 by omega) _) (Nat.pow_le_pow_right (show 0 < 13 by omega) (show xs.length ≤ 4 by omega))
  have eN : -(N : Int) + ((2 * N + 1 : Nat) : Int) - 1 = (N : Int) := by omega
  have HC := captV_new (-(N : Int)) (2 * N + 1) xs.length ((w.alloc (.cells #[.slice a xs.length cap] 23)).alloc (.cells #[.int .i64 0] 3))
  rw [eN] at HC
  simp only [World.size_alloc] at HC
  have HB2 := hid (HB1.out.alloc (by simp) (.cells #[.int .i64 0] 3))
  have HB4 := below_three HB2.out (by simp; omega) (.cells #[.int .i64 (xs.length : Int)] 3) (.cells #[.int .i64 (-(N : Int))] 3) (.cells #[.int .i64 (N : Int)] 3)
  have bF4 := boxed_three (bF.alloc (.cells #[.int .i64 0] 3)) (.cells #[.int .i64 (xs.length : Int)] 3) (.cells #[.int .i64 (-(N : Int))] 3) (.cells #[.int .i64 (N : Int)] 3)
  have bC4 := boxed_three (Boxed.new (w.alloc (.cells #[.slice a xs.length cap] 23)) 3 (.int .i64 0)) (.cells #[.int .i64 (xs.length : Int)] 3) (.cells #[.int .i64 (-(N : Int))] 3) (.cells #[.int .i64 (N : Int)] 3)
  simp only [World.size_alloc] at bC4
  have HMV := hid (many_vecs xs (N : Int) (by omega) xs.length [])
  have e2N : (2 * (N : Int) + 1).toNat = 2 * N + 1 := by omega
  rw [e2N] at HMV
  simp only [List.nil_append] at HMV
  clear bF cF eN e2N
  gi_wp2_with fail
  refine wpIn_rangeV rfl (by omega) (gf := 69) (lb := #[.pointer (some ⟨w.heap.size + 1 + 1 + 1, 0, none⟩), .pointer (some ⟨w.heap.size + 1 + 1, 0, none⟩), .pointer (some ⟨w.heap.size + 1 + 1 + 2, 0, none⟩)]) rfl trivial (enters_of Try.func69 (by kernel_rfl) rfl)
    (B0 := w.heap.size + 1 + 1) (B1 := w.heap.size + 1 + 1 + 3) (by simp <;> omega) (by simp) (vec_rounds _ (w.heap.size + 1 + 1) (-(N : Int)) (2 * N + 1) xs.length (by omega) (by omega) (by omega) (by omega) hl1.1 hl1.2 _ (by simp) HC) (Below.refl _ _) (fun _ => rfl) (fun x W k r o h hk => yields_put o h hk)
    (fun (pre : List VE) W => (Boxed W w.heap.size 23 (.slice a xs.length cap) ∧ Boxed W (w.heap.size + 1) 3 (.int .i64 (((pre.map (·.2)).countP (goodB xs) : Nat) : Int))) ∧ Below w.heap.size w W)
    (fun _ _ _ => False)
    (Turns.and (Turns.and (turns_boxed (by simp <;> omega) _ _) (turns_boxed (by simp <;> omega) _ _)) (turns_below (Nat.le_refl _) (by simp <;> omega)))
    (fun _ _ _ _ _ hs _ _ => hs)
    ⟨⟨bF4, bC4⟩, HB4⟩ ?a1 ?assign ?body ?done ?stop
  case assign =>
    intro l x W K hK
    gi_wp2
    exact hK
  case body =>
    rintro l pre ⟨g, vs⟩ W ⟨⟨hFx, hCx⟩, hB⟩ ⟨ho, hvl, hv⟩ hsz hlt
    dsimp only at ho hvl hv
    simp only [World.size_alloc] at hsz
    rw [hvl] at ho
    have HV := hid ho.rd
    have HXW := hid (HX.out.keep hB)
    have hcF := hFx.cell
    have HFX := hid hFx
    have HCX := hid hCx
    have HBX := hid hB
    have hcnt := List.countP_le_length (p := goodB xs) (l := pre.map (·.2))
    rw [List.length_map] at hcnt
    have HG := hid (good_zero HF.out hvl (fun v hm => by have := hv v hm; omega))
    have HNX : Hid (((pre ++ [((g, vs) : VE)]).map (·.2)).countP (goodB xs) = (pre.map (·.2)).countP (goodB xs) + if goodB xs vs then 1 else 0) := hid (by
      rw [List.map_append, List.countP_append]
      simp [List.countP_cons])
    obtain ⟨k, hk⟩ : ∃ k, k = (pre.map (·.2)).countP (goodB xs) := ⟨_, rfl⟩
    rw [← hk] at HCX HNX hcnt
    have hk9 : k ≤ 28561 := by omega
    have hv6 : Vec6 vs := fun v hm => by have := hv v hm; omega
    have H6 := hid hv6
    clear hk hFx hCx hB hv hlt hcnt hv6 ho
    cases hz : zeroB xs vs with
    | false =>
      have HZ := hid hz
      have HGF : Hid (goodB xs vs = false) := hid (by rw [HG.out, hz]; rfl)
      clear hz
      gi_wp2_with (refine ⟨trivial, ?_⟩; gi_at_call 15; refine (CallsIn.inRound l (callsIn_wide.2 (zeroIs_any _ _ xs vs _ HXW.out HV.out))).mono ?_; rw [HZ.out]; rintro e w2 ⟨rfl, hb2⟩)
      refine ⟨trivial, ?_⟩
      gi_wp2_with fail
      refine ⟨Stay.of_below hb2, ⟨boxed_keeps HFX.out hb2 (by omega), ?_⟩, HBX.out.trans (hb2.mono HBX.out.size)⟩
      rw [HNX.out, HGF.out]
      exact boxed_keeps HCX.out hb2 (by omega)
    | true =>
      have HZ := hid hz
      have hsm : ∃ v ∈ vs, v ≠ 0 := (zeroB_iff.1 hz).2.2.2.1
      have HSM := hid hsm
      have HGT : Hid (goodB xs vs = decide (plainL vs = vs)) := hid (by rw [HG.out, hz]; rfl)
      obtain ⟨D, hD⟩ : ∃ D, D = decide (plainL vs = vs) := ⟨_, rfl⟩
      have HPI : Hid (∀ (vv : Value) (wx : World), Rd wx vv vs → Calls Try.prog 56 #[vv] wx fun e w' => e = .returned (.bool D) ∧ Below wx.heap.size wx w') := hid (fun vv wx hr => by
        have hc := plainIs_any vv vs wx hr (by omega) (vec11 H6.out)
        rw [someB_iff.2 HSM.out] at hc
        rw [hD]
        exact hc)
      rw [← hD] at HGT
      clear hz hsm hD
      gi_wp2_with (refine ⟨trivial, ?_⟩; gi_at_call 15; refine (CallsIn.inRound l (callsIn_wide.2 (zeroIs_any _ _ xs vs _ HXW.out HV.out))).mono ?_; rw [HZ.out]; rintro e w2 ⟨rfl, hb2⟩; have HV2 := hid (HV.out.keep hb2))
      refine ⟨trivial, ?_⟩
      gi_at_call 56
      refine (CallsIn.inRound l (callsIn_wide.2 (HPI.out _ _ HV2.out))).mono ?_
      rintro e w4 ⟨rfl, hb4⟩
      have hbx : Below W.heap.size W w4 := hb2.trans (hb4.mono hb2.size)
      have HF4 := hid (boxed_keeps HFX.out hbx (by omega))
      have HC4 := hid (boxed_keeps HCX.out hbx (by omega))
      have c4 := HC4.out.cell
      have f4 := HC4.out.frozen
      have HB9 := hid (HBX.out.trans (hbx.mono HBX.out.size))
      have HBX4 := hid hbx
      clear hbx
      cases D with
      | false =>
        gi_wp2
        refine ⟨Stay.of_below HBX4.out, ⟨HF4.out, ?_⟩, HB9.out⟩
        rw [HNX.out, HGT.out]
        exact HC4.out
      | true =>
        have HS4 := hid (HC4.out.set (.int .i64 ((k : Int) + 1)))
        gi_wp2
        refine ⟨(Stay.of_below HBX4.out).trans (Stay.setCell (by show w.heap.size + 1 < w.heap.size + 1 + 1; omega) _), ⟨HF4.out.other (by omega) _, ?_⟩, HB9.out.setCell (p := ⟨w.heap.size + 1, 0, none⟩) (by show w.heap.size ≤ w.heap.size + 1; omega) _⟩
        rw [HNX.out, HGT.out, if_pos rfl]
        push_cast
        exact HS4.out
  case done =>
    rintro ys W hS ⟨⟨hFx, hCx⟩, hB⟩ hK
    rw [hS] at hCx
    have hc := hCx.cell
    gi_wp2
    refine ⟨by simp, .inl ⟨_, _, rfl, run_takeDeferred hK, ?_⟩⟩
    refine ⟨_, results_tmp rfl _ _ _, ?_⟩
    exact ⟨retI (by rw [HMV.out]), hB.trans (belowK_b (w := w) (Nat.le_refl _) W _ _ _ (by simp <;> omega) hK rfl rfl)⟩
  case stop =>
    rintro c pre W _ h _
    exact h.elim

set_option maxRecDepth 100000 in
set_option maxHeartbeats 1000000 in
theorem zeroMany_any (vf : Value) (xs : List Int) (n : Int) (w : World) (hx : Rd w vf xs) : Calls Try.prog 22 #[vf, .int .i64 n] w fun e w' => e = .returned (.int .i64 (zmanyV xs n)) ∧ Below w.heap.size w w' := by
  by_cases hok : zmanyOk xs n = true
  · have hf : fvB xs = true ∧ inR n 1 6 = true := by unfold zmanyOk at hok; rwa [Bool.and_eq_true] at hok
    have hn : 1 ≤ n ∧ n ≤ 6 := by
      have h := hf.2
      unfold inR at h
      rw [Bool.and_eq_true, decide_eq_true_eq, decide_eq_true_eq] at h
      exact h
    obtain ⟨N, rfl⟩ := Int.eq_ofNat_of_zero_le (show 0 ≤ n by omega)
    have e : zmanyV xs (N : Int) = manyR xs (N : Int) xs.length [] := by unfold zmanyV; rw [hok, if_pos rfl]
    rw [e]
    exact zeroMany_main vf xs N (by omega) (by omega) hf.1 w hx
  · have hok : zmanyOk xs n = false := by simpa using hok
    have HV : Hid (zmanyV xs n = -1) := hid (by unfold zmanyV; rw [hok]; rfl)
    have HX := hid hx
    obtain ⟨a, cap, rfl, _⟩ := hx.form
    have bF := Boxed.new w 23 (.slice a xs.length cap)
    have cF := bF.cell
    have HB1 := hid ((Below.refl w.heap.size w).alloc (Nat.le_refl _) (.cells #[.slice a xs.length cap] 23))
    have HX1 := hid (HX.out.keep HB1.out)
    clear hx
    cases hf : fvB xs with
    | false =>
      have HF := hid hf
      clear hf hok
      go_enter Try.func22, Try.ntmps22
      go_wp2_with (go_at_call 19; refine (formValidP_any _ xs _ HX1.out).mono ?_; rw [HF.out]; rintro e w' ⟨rfl, rfl⟩)
      go_ret
      exact ⟨retI HV.out.symm, HB1.out⟩
    | true =>
      have HF := hid hf
      have hn : n < 1 ∨ 6 < n := by
        refine Classical.byContradiction fun hc => ?_
        have : inR n 1 6 = true := by unfold inR; rw [decide_eq_true (show 1 ≤ n by omega), decide_eq_true (show n ≤ 6 by omega)]; rfl
        unfold zmanyOk at hok
        rw [hf, this] at hok
        cases hok
      clear hf hok
      rcases hn with hn | hn
      · go_enter Try.func22, Try.ntmps22
        go_wp2_with (go_at_call 19; refine (formValidP_any _ xs _ HX1.out).mono ?_; rw [HF.out]; rintro e w' ⟨rfl, rfl⟩)
        go_ret
        exact ⟨retI HV.out.symm, HB1.out⟩
      · have hn1 : ¬ n < 1 := by omega
        go_enter Try.func22, Try.ntmps22
        go_wp2_with (go_at_call 19; refine (formValidP_any _ xs _ HX1.out).mono ?_; rw [HF.out]; rintro e w' ⟨rfl, rfl⟩)
        go_ret
        exact ⟨retI HV.out.symm, HB1.out⟩

end Go.Proofs.Ytenibnblibnocac
