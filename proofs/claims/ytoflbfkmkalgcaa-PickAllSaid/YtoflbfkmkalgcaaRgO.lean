/- Iterators whose own loop may range over another one: what a round writes lies in a set of blocks that is told. -/
import Derived.RangeFuncNested
import Derived.RangeFuncBound
import Derived.RangeFuncCalls
import Derived.RangeFuncLeaves
import Derived.Test.YtoflbfkmkalgcaaGen
namespace Go.Proofs.Ytoflbfkmkalgcaa.Ro
open Go.RowKit

variable {P : Program}

/-- It stays, whatever becomes of the blocks from B on. -/
def Free {β : Type} (B : Nat) (I : β → World → Prop) : Prop :=
  ∀ s W W' row, I s W → W.grownBy W' row → (∀ r, row = some r → B ≤ r) → I s W'
theorem Free.putObj {β : Type} {B : Nat} {I : β → World → Prop} (h : Free B I) {s : β} {W : World} {l : Nat} (o' : Obj) (hs : I s W) (hB : B ≤ l) : I s (W.putObj l o') :=
  h s W _ (some l) hs (grownBy_putObj' W l o') (fun r e => by cases e; exact hB)
theorem Free.alloc {β : Type} {B : Nat} {I : β → World → Prop} (h : Free B I) {s : β} {W : World} (o : Obj) (hs : I s W) : I s (W.alloc o) :=
  h s W _ none hs (World.grownBy_alloc W o none) (fun r e => by cases e)

/-- The iterator g gives Xs, to whatever loop whose rounds write in S alone (M: what the iterator reads). -/
def Gives {α : Type} (P : Program) (g : Nat) (lb : Array Value) (encs : α → Array Value) (Xs : List α) (M : Nat → Prop) (w : World) : Prop :=
  ∀ (n l : Nat) (S : Nat → Prop) (J Jx : List α → World → Prop) (W : World), Below w.heap.size w W → (∀ k, S k → k < W.heap.size ∧ ¬ M k) → Free W.heap.size J → Free W.heap.size Jx →
    (∀ pre x post W1, Xs = pre ++ x :: post → Out S W W1 → J pre W1 → YieldAt Fence.wide 1 P l (encs x) W1 fun e W' =>
      Out S W1 W' ∧ ((e = .returned (.bool true) ∧ J (pre ++ [x]) W') ∨ (e = .returned (.bool false) ∧ Jx (pre ++ [x]) W'))) →
    J [] W →
    CallsIn Fence.wide n P g (#[.func (.yield l) #[] #[]] ++ lb) W fun e W' => (∃ v, e = .returned v) ∧ Out S W W' ∧ (J Xs W' ∨ ∃ pre post, Xs = pre ++ post ∧ Jx pre W')

theorem Gives.later {α : Type} {g : Nat} {lb : Array Value} {encs : α → Array Value} {Xs : List α} {M : Nat → Prop} {w w' : World} (h : Gives P g lb encs Xs M w) (hb : Below w.heap.size w w') : Gives P g lb encs Xs M w' :=
  fun n l S J Jx W hW => h n l S J Jx W (hb.trans (hW.mono hb.size))

/-- How a round's body may be left. -/
def postO {α : Type} (S : Nat → Prop) (I : List α → World → Prop) (Ix : Code → List α → World → Prop) (xs : List α) (W : World) : Exit → Act → World → Prop
  | .normal, _, W' => Out S W W' ∧ I xs W'
  | .ret, _, W' => Out S W W' ∧ Ix .ret xs W'
  | .exit id, _, W' => Out S W W' ∧ Ix (.exit id) xs W'
  | .goto t, _, W' => Out S W W' ∧ Ix (.goto t) xs W'
  | .panic _, _, _ => False
  | .outgrown, _, _ => False

theorem ownFrom_out {β : Type} {S : Nat → Prop} {B : Nat} {w : World} (hB : w.heap.size ≤ B) : Free B (fun (_ : β) W => Out S w W) := fun _ X Y row hs hg hr =>
  hs.grown hg fun k e => .inr (by have := hr k e; omega)
theorem out_put {S : Nat → Prop} {w W : World} {l : Nat} (o : Obj) (h : Out S w W) (hl : S l ∨ w.heap.size ≤ l) : Out S w (W.putObj l o) := h.grown (grownBy_putObj' W l o) fun k e => by cases e; exact hl

theorem heap_out {S : Nat → Prop} {w w' : World} (h : Out S w w') {k : Nat} {o : Obj} (ho : w.heap[k]? = some o) (hn : ¬ S k) : w'.heap[k]? = some o := (h.block k (Array.getElem?_eq_some_iff.1 ho).1 hn).trans ho

/-- **The law**: a loop over such an iterator, at a function's own level. -/
theorem range_gives {α : Type} {n : Nat} {g : Operand} {ps : Array Tmp} {assign body : Code} {Q : Exit → Act → World → Prop} {a : Act} {w : World}
    {gf : Nat} {lb : Array Value} (hg : a.eval g = .func (.func gf) #[] lb) (eg : ∀ args w, (callFunc gf args).run P w = .ok (.enter gf args) w)
    {encs : α → Array Value} {Xs : List α} {M : Nat → Prop} {w0 : World} (hseq : Gives P gf lb encs Xs M w0) (hb0 : Below w0.heap.size w0 w) (hps : ∀ x, (encs x).size = ps.size)
    (S : Nat → Prop) (hS : ∀ k, S k → k < w.heap.size ∧ ¬ M k) (hM : ∀ k, M k → k < w.heap.size)
    (I : List α → World → Prop) (Ix : Code → List α → World → Prop) (hI : Free w.heap.size I) (hIx : ∀ c, Free w.heap.size (Ix c)) (h0 : I [] w) (Ax : α → Act → World → Prop) (hAx : ∀ x a', Free w.heap.size (fun (_ : Unit) W => Ax x a' W))
    (hassign : ∀ (l m : Nat) (pre : List α) (x : α) (W : World) (K : Act → World → Prop), I pre W → Out S w W → (∀ a' W', Out S W W' → I pre W' → Ax x a' W' → K a' W') →
      assign.wpIn (Fence.wide.inRound l) m P (Exit.then K (fun _ _ _ => False)) { tmps := (ps.zip (encs x)).foldl (fun t (p, v) => t.setIfInBounds p v) a.tmps, defers := [] } W)
    (hbody : ∀ (l m : Nat) (pre : List α) (x : α) (post : List α) (a' : Act) (W : World), Xs = pre ++ x :: post → Out S w W → I pre W → Ax x a' W → body.wpIn (Fence.wide.inRound l) m P (postO S I Ix (pre ++ [x]) W) a' W)
    (hdone : ∀ (D : Nat) (W : World), w.heap.size ≤ D → Out S w W → I Xs W → W.heap[D]? = some (.deferred (some [])) → Q .normal { a with defers := { target := .collected D, args := #[] } :: a.defers } W)
    (hstop : ∀ (D : Nat) (c : Code) (pre post : List α) (W : World), w.heap.size ≤ D → Out S w W → Xs = pre ++ post → Ix c pre W → W.heap[D]? = some (.deferred (some [])) → c.wpIn Fence.wide n P Q { a with defers := { target := .collected D, args := #[] } :: a.defers } W) :
    (Code.rangeFunc g ps assign body).wpIn Fence.wide n P Q a w := by
  refine wpIn_rangeFunc fun fn hfn => ?_
  rw [show Fence.wide.round = none from rfl]
  obtain ⟨rec, hrec⟩ : ∃ rec : LoopState → Option Code → Loop, rec = fun st pe => { state := st, pending := pe, fn, tmps := a.tmps, params := ps, assign, body, defers := w.heap.size } := ⟨_, rfl⟩
  obtain ⟨D, hD⟩ : ∃ D, D = w.heap.size := ⟨_, rfl⟩
  obtain ⟨W1, hW1⟩ : ∃ W1, (w.alloc (.deferred (some []))).alloc (.loop (rec .ready none)) = W1 := ⟨_, rfl⟩
  have hsz : W1.heap.size = D + 2 := by rw [← hW1, hD]; simp
  have hL1 : W1.heap[D + 1]? = some (.loop (rec .ready none)) := by
    have := World.alloc_heap_new (w.alloc (.deferred (some []))) (.loop (rec .ready none))
    rwa [World.size_alloc, hW1, ← hD] at this
  have hK1 : W1.heap[D]? = some (.deferred (some [])) := by
    rw [← hW1, hD]; exact (Below.heap_alloc _ _ _ (by simp)).trans (World.alloc_heap_new w _)
  have hb1 : Below w.heap.size w W1 := by
    rw [← hW1]; exact ((Below.refl _ w).alloc (Nat.le_refl _) _).alloc (by simp) _
  have ho1 : Out S w W1 := .of_below hb1
  have hnS : ¬ S (D + 1) := fun h => by have := (hS _ h).1; omega
  have hnD : ¬ S D := fun h => by have := (hS _ h).1; omega
  -- what a round writes, with the loop's own two blocks
  obtain ⟨S', hS'⟩ : ∃ S' : Nat → Prop, S' = fun k => S k ∨ k = D ∨ k = D + 1 := ⟨_, rfl⟩
  have up : ∀ {A B : World}, Out S A B → Out S' A B := fun h => h.more fun k _ hk => by rw [hS']; exact .inl hk
  have hl' : S' (D + 1) := by rw [hS']; exact .inr (.inr rfl)
  refine ⟨D + 1, [{ target := .collected D, args := #[] }], W1, { target := .fn (.func gf) lb, args := #[.func (.yield (D + 1)) #[] #[]] }, W1, gf,
    #[.func (.yield (D + 1)) #[] #[]] ++ lb, W1, ?_, ?_, ?_, ?_, fun e => by simp [Fence.wide] at e, ?_⟩
  · rw [← hW1, hrec, hD]; exact run_enterLoop_outer _ _ _ _ _
  · simp only [resolve, hg]; simp [go_sem]
  · intro f' hf'; trivial
  · simp [invoke, go_sem, eg]
  · have hnw : ∀ {row : Option Nat}, (∀ r, row = some r → W1.heap.size ≤ r) → (∀ r, row = some r → w.heap.size ≤ r) :=
      fun hr r e => by have := hr r e; omega
    have hne : ∀ {A B : World} {row : Option Nat} {k : Nat} {o : Obj}, A.grownBy B row → (∀ r, row = some r → W1.heap.size ≤ r) → k < D + 2 → A.heap[k]? = some o → B.heap[k]? = some o :=
      fun hg' hr hk h => (hg'.block _ (Array.getElem?_eq_some_iff.1 h).1 (fun e => by have := hr _ e.symm; omega)).trans h
    refine (hseq (n - 1) (D + 1) S'
      (fun pre W => I pre W ∧ Out S w W ∧ W.heap[D + 1]? = some (.loop (rec .ready none)) ∧ W.heap[D]? = some (.deferred (some [])))
      (fun pre W => ∃ c, Ix c pre W ∧ Out S w W ∧ W.heap[D + 1]? = some (.loop (rec .done (some c))) ∧ W.heap[D]? = some (.deferred (some [])))
      W1 (hb0.trans (hb1.mono hb0.size)) ?_
      (fun s A B row hs hg' hr => ⟨hI s A B row hs.1 hg' (hnw hr), ownFrom_out (β := Unit) (Nat.le_refl _) () A B row hs.2.1 hg' (hnw hr), hne hg' hr (by omega) hs.2.2.1, hne hg' hr (by omega) hs.2.2.2⟩)
      (fun s A B row ⟨c, hc, ho, hl, hk⟩ hg' hr => ⟨c, hIx c s A B row hc hg' (hnw hr), ownFrom_out (β := Unit) (Nat.le_refl _) () A B row ho hg' (hnw hr), hne hg' hr (by omega) hl, hne hg' hr (by omega) hk⟩)
      ?_ ⟨by rw [← hW1]; exact hI.alloc _ (hI.alloc _ h0), ho1, hL1, hK1⟩).mono ?_
    · intro k hk
      rw [hS'] at hk
      rcases hk with hk | rfl | rfl
      · have := hS k hk; exact ⟨by omega, this.2⟩
      · exact ⟨by omega, fun h => by have := hM _ h; omega⟩
      · exact ⟨by omega, fun h => by have := hM _ h; omega⟩
    · rintro pre x post W hX _ ⟨hi, how, hl, hk⟩
      have hy := run_yield (P := P) (args := encs x) hl (by rw [hrec]; exact hps x)
      rw [hrec] at hy
      refine ⟨fn, _, assign, body, hy, roundIn_of_wpIn hfn (hassign _ _ pre x W _ hi how ?_)⟩
      clear hy
      intro a' Wa ho2 hi2 hax
      replace hl := heap_out ho2 hl hnS
      replace hk := heap_out ho2 hk hnD
      have hlt : D + 1 < Wa.heap.size := (Array.getElem?_eq_some_iff.1 hl).1
      have how2 := how.trans ho2
      refine ⟨_, run_beginRound hl (by rw [hrec]), ?_⟩
      obtain ⟨W2, hW2⟩ : ∃ W2, Wa.putObj (D + 1) (.loop { rec .ready none with state := .busy }) = W2 := ⟨_, rfl⟩
      have hl2 : W2.heap[D + 1]? = some (.loop { rec .ready none with state := .busy }) := by rw [← hW2]; exact World.putObj_heap_same hlt
      have hk2 : W2.heap[D]? = some (.deferred (some [])) := by rw [← hW2]; exact (World.putObj_heap_other (by omega)).trans hk
      have how3 : Out S w W2 := by rw [← hW2]; exact out_put _ how2 (.inr (by omega))
      have hi3 : I pre W2 := by rw [← hW2]; exact hI.putObj _ hi2 (by omega)
      have hax3 : Ax x a' W2 := by rw [← hW2]; exact (hAx x a').putObj (s := ()) _ hax (by omega)
      have hu2 : Out S' W W2 := by rw [← hW2]; exact out_put _ (up ho2) (.inl hl')
      rw [hW2]
      refine wpIn_mono (hbody _ _ pre x post a' _ hX how3 hi3 hax3) ?_
      have fin : ∀ (jump : Option Code) (W3 : World), Out S W2 W3 →
          (Instr.endRound (D + 1) jump).run P W3 = .ok (.bool jump.isNone) (W3.putObj (D + 1) (.loop (rec (if jump.isNone then .ready else .done) jump))) ∧
          W3.heap[D + 1]? = some (.loop { rec .ready none with state := .busy }) ∧
          (W3.putObj (D + 1) (.loop (rec (if jump.isNone then .ready else .done) jump))).heap[D + 1]? = some (.loop (rec (if jump.isNone then .ready else .done) jump)) ∧
          (W3.putObj (D + 1) (.loop (rec (if jump.isNone then .ready else .done) jump))).heap[D]? = some (.deferred (some [])) ∧
          Out S w (W3.putObj (D + 1) (.loop (rec (if jump.isNone then .ready else .done) jump))) ∧
          Out S' W (W3.putObj (D + 1) (.loop (rec (if jump.isNone then .ready else .done) jump))) := fun jump W3 ho => by
        have hl3 := heap_out ho hl2 hnS
        have := run_endRound (P := P) jump hl3
        rw [hrec] at this ⊢
        exact ⟨this, by rw [hrec] at hl3; exact hl3, World.putObj_heap_same (Array.getElem?_eq_some_iff.1 hl3).1, (World.putObj_heap_other (by omega)).trans (heap_out ho hk2 hnD), out_put _ (how3.trans ho) (.inr (by omega)), out_put _ (hu2.trans (up ho)) (.inl hl')⟩
      rintro e a3 W3 hp
      cases e with
      | normal =>
        obtain ⟨hr, hl3, hl4, hk4, ho4, hu4⟩ := fin none W3 hp.1
        exact ⟨_, _, hr, hu4, .inl ⟨rfl, hI.putObj _ hp.2 (by omega), ho4, hl4, hk4⟩⟩
      | ret =>
        obtain ⟨hr, hl3, hl4, hk4, ho4, hu4⟩ := fin (some .ret) W3 hp.1
        exact ⟨_, _, hr, hu4, .inr ⟨rfl, .ret, (hIx _).putObj _ hp.2 (by omega), ho4, hl4, hk4⟩⟩
      | exit id =>
        obtain ⟨hr, hl3, hl4, hk4, ho4, hu4⟩ := fin (some (.exit id)) W3 hp.1
        exact ⟨_, _, hr, hu4, .inr ⟨rfl, .exit id, (hIx _).putObj _ hp.2 (by omega), ho4, hl4, hk4⟩⟩
      | goto t =>
        obtain ⟨hr, hl3, hl4, hk4, ho4, hu4⟩ := fin (some (.goto t)) W3 hp.1
        exact ⟨_, _, hr, hu4, .inr ⟨rfl, .goto t, (hIx _).putObj _ hp.2 (by omega), ho4, hl4, hk4⟩⟩
      | panic ch => exact hp.elim
      | outgrown => exact hp.elim
    · rintro e W2 ⟨⟨v, rfl⟩, -, ⟨hi, ho, hl, hk⟩ | ⟨pre, post, hX, c, hi, ho, hl, hk⟩⟩
      · exact ⟨none, _, by have := run_endLoop (P := P) hl (by rw [hrec]; simp); rw [hrec] at this; exact this, hdone D _ (by omega) (out_put _ ho (.inr (by omega))) (hI.putObj _ hi (by omega)) ((World.putObj_heap_other (by omega)).trans hk)⟩
      · exact ⟨some c, _, by have := run_endLoop (P := P) hl (by rw [hrec]; simp); rw [hrec] at this; exact this, hstop D c pre post _ (by omega) (out_put _ ho (.inr (by omega))) hX ((hIx c).putObj _ hi (by omega)) ((World.putObj_heap_other (by omega)).trans hk)⟩
end Go.Proofs.Ytoflbfkmkalgcaa.Ro
