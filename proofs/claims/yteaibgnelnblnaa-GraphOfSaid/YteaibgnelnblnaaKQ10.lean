/- Texts put together, for a law: RgT, RgU. -/
import Derived.RangeFuncNested
import Derived.RangeFuncBound
import Derived.RangeFuncCalls
import Derived.RangeFuncLeaves
import Derived.Test.YteaibgnelnblnaaKQ2
section
namespace Go.Proofs.Yteaibgnelnblnaa.Rt
open Go.RowKit

variable {P : Program}

/-- It stays, whatever becomes of the blocks from B up to T. -/
def Free {β : Type} (B T : Nat) (I : β → World → Prop) : Prop :=
  ∀ s W W', I s W → Out (fun k => B ≤ k ∧ k < T) W W' → I s W'
theorem Free.putObj {β : Type} {B T : Nat} {I : β → World → Prop} (h : Free B T I) {s : β} {W : World} {l : Nat} (o' : Obj) (hs : I s W) (hB : B ≤ l) (hT : l < T) : I s (W.putObj l o') :=
  h s W _ hs (Out.of_grown (grownBy_putObj' W l o') (fun r e _ => by cases e; exact ⟨hB, hT⟩))
theorem Free.alloc {β : Type} {B T : Nat} {I : β → World → Prop} (h : Free B T I) {s : β} {W : World} (o : Obj) (hs : I s W) : I s (W.alloc o) :=
  h s W _ hs (Out.of_below ((Below.refl _ _).alloc (Nat.le_refl _) o))

/-- The iterator g gives Xs, to whatever loop whose rounds write in S alone (M: what the iterator reads; T: where the iterator's own first blocks end). -/
def Gives {α : Type} (P : Program) (g : Nat) (lb : Array Value) (V : Nat → α → Array Value → World → Prop) (Xs : List α) (M : Nat → Prop) (w : World) : Prop :=
  ∀ (n l : Nat) (S : Nat → Nat → Prop) (J Jx : Nat → List α → World → Prop) (W : World), Below w.heap.size w W → (∀ T k, W.heap.size ≤ T → S T k → (k < W.heap.size ∨ T ≤ k) ∧ ¬ M k) →
    (∀ T, W.heap.size ≤ T → Free W.heap.size T (J T)) → (∀ T, W.heap.size ≤ T → Free W.heap.size T (Jx T)) →
    (∀ T pre x post av W1, W.heap.size ≤ T → Xs = pre ++ x :: post → T ≤ W1.heap.size → Out (S T) W W1 → J T pre W1 → V T x av W1 → YieldAt Fence.wide 1 P l av W1 fun e W' =>
      Out (S T) W1 W' ∧ ((e = .returned (.bool true) ∧ J T (pre ++ [x]) W') ∨ (e = .returned (.bool false) ∧ Jx T (pre ++ [x]) W'))) →
    (∀ T, W.heap.size ≤ T → J T [] W) →
    CallsIn Fence.wide n P g (#[.func (.yield l) #[] #[]] ++ lb) W fun e W' => (∃ v, e = .returned v) ∧ ∃ T, W.heap.size ≤ T ∧ Out (S T) W W' ∧ (J T Xs W' ∨ ∃ pre post, Xs = pre ++ post ∧ Jx T pre W')

/-- How a round's body may be left. -/
def postO {α : Type} (S : Nat → Prop) (I : List α → World → Prop) (Ix : Code → List α → World → Prop) (xs : List α) (W : World) : Exit → Act → World → Prop
  | .normal, _, W' => Out S W W' ∧ I xs W'
  | .ret, _, W' => Out S W W' ∧ Ix .ret xs W'
  | .exit id, _, W' => Out S W W' ∧ Ix (.exit id) xs W'
  | .goto t, _, W' => Out S W W' ∧ Ix (.goto t) xs W'
  | .panic _, _, _ => False
  | .outgrown, _, _ => False

theorem ownFrom_out {β : Type} {S : Nat → Prop} {B T : Nat} {w : World} (hB : w.heap.size ≤ B) : Free B T (fun (_ : β) W => Out S w W) := fun _ X Y hs hg =>
  hs.trans' hg fun k e => .inr (by omega)
theorem out_put {S : Nat → Prop} {w W : World} {l : Nat} (o : Obj) (h : Out S w W) (hl : S l ∨ w.heap.size ≤ l) : Out S w (W.putObj l o) := h.grown (grownBy_putObj' W l o) fun k e => by cases e; exact hl

theorem heap_out {S : Nat → Prop} {w w' : World} (h : Out S w w') {k : Nat} {o : Obj} (ho : w.heap[k]? = some o) (hn : ¬ S k) : w'.heap[k]? = some o := (h.block k (Array.getElem?_eq_some_iff.1 ho).1 hn).trans ho

/-- **The law**: a loop over such an iterator, at a function's own level. -/
theorem range_gives {α : Type} {n : Nat} {g : Operand} {ps : Array Tmp} {assign body : Code} {Q : Exit → Act → World → Prop} {a : Act} {w : World}
    {gf : Nat} {lb : Array Value} (hg : a.eval g = .func (.func gf) #[] lb) (eg : ∀ args w, (callFunc gf args).run P w = .ok (.enter gf args) w)
    {V : Nat → α → Array Value → World → Prop} {Xs : List α} {M : Nat → Prop} {w0 : World} (hseq : Gives P gf lb V Xs M w0) (hb0 : Below w0.heap.size w0 w) (hps : ∀ T x av W, V T x av W → av.size = ps.size)
    (S : Nat → Nat → Prop) (hS : ∀ T k, w.heap.size + 2 ≤ T → S T k → (k < w.heap.size ∨ T ≤ k) ∧ ¬ M k) (hM : ∀ k, M k → k < w.heap.size)
    (I : Nat → List α → World → Prop) (Ix : Nat → Code → List α → World → Prop) (hI : ∀ T, w.heap.size + 2 ≤ T → Free w.heap.size T (I T)) (hIx : ∀ T c, w.heap.size + 2 ≤ T → Free w.heap.size T (Ix T c)) (h0 : ∀ T, w.heap.size + 2 ≤ T → I T [] w) (Ax : Nat → α → Act → World → Prop) (hAx : ∀ T x a', w.heap.size + 2 ≤ T → Free w.heap.size T (fun (_ : Unit) W => Ax T x a' W))
    (hassign : ∀ (T l m : Nat) (pre : List α) (x : α) (av : Array Value) (W : World) (K : Act → World → Prop), w.heap.size + 2 ≤ T → T ≤ W.heap.size → V T x av W → I T pre W → Out (S T) w W → (∀ a' W', Out (S T) W W' → I T pre W' → Ax T x a' W' → K a' W') →
      assign.wpIn (Fence.wide.inRound l) m P (Exit.then K (fun _ _ _ => False)) { tmps := (ps.zip av).foldl (fun t (p, v) => t.setIfInBounds p v) a.tmps, defers := [] } W)
    (hbody : ∀ (T l m : Nat) (pre : List α) (x : α) (post : List α) (a' : Act) (W : World), w.heap.size + 2 ≤ T → Xs = pre ++ x :: post → T ≤ W.heap.size → Out (S T) w W → I T pre W → Ax T x a' W → body.wpIn (Fence.wide.inRound l) m P (postO (S T) (I T) (Ix T) (pre ++ [x]) W) a' W)
    (hdone : ∀ (T D : Nat) (W : World), w.heap.size + 2 ≤ T → D = w.heap.size → Out (S T) w W → I T Xs W → W.heap[D]? = some (.deferred (some [])) → Q .normal { a with defers := { target := .collected D, args := #[] } :: a.defers } W)
    (hstop : ∀ (T D : Nat) (c : Code) (pre post : List α) (W : World), w.heap.size + 2 ≤ T → D = w.heap.size → Out (S T) w W → Xs = pre ++ post → Ix T c pre W → W.heap[D]? = some (.deferred (some [])) → c.wpIn Fence.wide n P Q { a with defers := { target := .collected D, args := #[] } :: a.defers } W) :
    (Code.rangeFunc g ps assign body).wpIn Fence.wide n P Q a w := by
  refine wpIn_rangeFunc fun fn hfn => ?_
  rw [show Fence.wide.round = none from rfl]
  obtain ⟨rec, hrec⟩ : ∃ rec : LoopState → Option Code → Loop, rec = fun st pe => { state := st, pending := pe, fn, tmps := a.tmps, params := ps, assign, body, defers := w.heap.size } := ⟨_, rfl⟩
  obtain ⟨D, hD⟩ : ∃ D, D = w.heap.size := ⟨_, rfl⟩
  obtain ⟨W1, hW1⟩ : ∃ W1, (w.alloc (.deferred (some []))).alloc (.loop (rec .ready none)) = W1 := ⟨_, rfl⟩
  have hsz : W1.heap.size = D + 2 := by rw [← hW1, hD]; simp
  have hL1 : W1.heap[D + 1]? = some (.loop (rec .ready none)) := by
    have := World.alloc_heap_new (w.alloc (.deferred (some []))) (.loop (rec .ready none))
    rwa [World.size_alloc, hW1, ← hD] at this
  have hK1 : W1.heap[D]? = some (.deferred (some [])) := by
    rw [← hW1, hD]; exact (Below.heap_alloc _ _ _ (by simp)).trans (World.alloc_heap_new w _)
  have hb1 : Below w.heap.size w W1 := by
    rw [← hW1]; exact ((Below.refl _ w).alloc (Nat.le_refl _) _).alloc (by simp) _
  have ho1 : ∀ T, Out (S T) w W1 := fun T => .of_below hb1
  have hnS : ∀ T, w.heap.size + 2 ≤ T → ¬ S T (D + 1) := fun T hT h => by have := (hS T _ hT h).1; omega
  have hnD : ∀ T, w.heap.size + 2 ≤ T → ¬ S T D := fun T hT h => by have := (hS T _ hT h).1; omega
  -- what a round writes, with the loop's own two blocks
  obtain ⟨S', hS'⟩ : ∃ S' : Nat → Nat → Prop, S' = fun T k => S T k ∨ k = D ∨ k = D + 1 := ⟨_, rfl⟩
  have up : ∀ {T : Nat} {A B : World}, Out (S T) A B → Out (S' T) A B := fun h => h.more fun k _ hk => by rw [hS']; exact .inl hk
  have hl' : ∀ T, S' T (D + 1) := fun T => by rw [hS']; exact .inr (.inr rfl)
  refine ⟨D + 1, [{ target := .collected D, args := #[] }], W1, { target := .fn (.func gf) lb, args := #[.func (.yield (D + 1)) #[] #[]] }, W1, gf,
    #[.func (.yield (D + 1)) #[] #[]] ++ lb, W1, ?_, ?_, ?_, ?_, fun e => by simp [Fence.wide] at e, ?_⟩
  · rw [← hW1, hrec, hD]; exact run_enterLoop_outer _ _ _ _ _
  · simp only [resolve, hg]; simp [go_sem]
  · intro f' hf'; trivial
  · simp [invoke, go_sem, eg]
  · have hne : ∀ {T : Nat} {A B : World} {k : Nat} {o : Obj}, Out (fun k => W1.heap.size ≤ k ∧ k < T) A B → k < D + 2 → A.heap[k]? = some o → B.heap[k]? = some o :=
      fun ho hk h => heap_out ho h (fun e => by omega)
    have hnw : ∀ {T : Nat} {A B : World}, Out (fun k => W1.heap.size ≤ k ∧ k < T) A B → Out (fun k => w.heap.size ≤ k ∧ k < T) A B := fun ho => ho.more fun k _ e => by omega
    refine (hseq (n - 1) (D + 1) S'
      (fun T pre W => I T pre W ∧ Out (S T) w W ∧ W.heap[D + 1]? = some (.loop (rec .ready none)) ∧ W.heap[D]? = some (.deferred (some [])))
      (fun T pre W => ∃ c, Ix T c pre W ∧ Out (S T) w W ∧ W.heap[D + 1]? = some (.loop (rec .done (some c))) ∧ W.heap[D]? = some (.deferred (some [])))
      W1 (hb0.trans (hb1.mono hb0.size)) ?_
      (fun T hT s A B hs hg' => ⟨hI T (by omega) s A B hs.1 (hnw hg'), ownFrom_out (β := Unit) (Nat.le_refl _) () A B hs.2.1 (hnw hg'), hne hg' (by omega) hs.2.2.1, hne hg' (by omega) hs.2.2.2⟩)
      (fun T hT s A B ⟨c, hc, ho, hl, hk⟩ hg' => ⟨c, hIx T c (by omega) s A B hc (hnw hg'), ownFrom_out (β := Unit) (Nat.le_refl _) () A B ho (hnw hg'), hne hg' (by omega) hl, hne hg' (by omega) hk⟩)
      ?_ (fun T hT => ⟨by rw [← hW1]; exact (hI T (by omega)).alloc _ ((hI T (by omega)).alloc _ (h0 T (by omega))), ho1 T, hL1, hK1⟩)).mono ?_
    · intro T k hT hk
      rw [hS'] at hk
      rcases hk with hk | rfl | rfl
      · have := hS T k (by omega) hk; exact ⟨by omega, this.2⟩
      · exact ⟨.inl (by omega), fun h => by have := hM _ h; omega⟩
      · exact ⟨.inl (by omega), fun h => by have := hM _ h; omega⟩
    · rintro T pre x post av W hT0 hX hsz1 _ ⟨hi, how, hl, hk⟩ hv
      have hT : w.heap.size + 2 ≤ T := by omega
      have hy := run_yield (P := P) (args := av) hl (by rw [hrec]; exact hps T x av W hv)
      rw [hrec] at hy
      refine ⟨fn, _, assign, body, hy, roundIn_of_wpIn hfn (hassign T _ _ pre x av W _ hT (by omega) hv hi how ?_)⟩
      clear hy
      intro a' Wa ho2 hi2 hax
      replace hl := heap_out ho2 hl (hnS T hT)
      replace hk := heap_out ho2 hk (hnD T hT)
      have hlt : D + 1 < Wa.heap.size := (Array.getElem?_eq_some_iff.1 hl).1
      have how2 := how.trans ho2
      refine ⟨_, run_beginRound hl (by rw [hrec]), ?_⟩
      obtain ⟨W2, hW2⟩ : ∃ W2, Wa.putObj (D + 1) (.loop { rec .ready none with state := .busy }) = W2 := ⟨_, rfl⟩
      have hl2 : W2.heap[D + 1]? = some (.loop { rec .ready none with state := .busy }) := by rw [← hW2]; exact World.putObj_heap_same hlt
      have hk2 : W2.heap[D]? = some (.deferred (some [])) := by rw [← hW2]; exact (World.putObj_heap_other (by omega)).trans hk
      have how3 : Out (S T) w W2 := by rw [← hW2]; exact out_put _ how2 (.inr (by omega))
      have hi3 : I T pre W2 := by rw [← hW2]; exact (hI T hT).putObj _ hi2 (by omega) (by omega)
      have hax3 : Ax T x a' W2 := by rw [← hW2]; exact (hAx T x a' hT).putObj (s := ()) _ hax (by omega) (by omega)
      have hu2 : Out (S' T) W W2 := by rw [← hW2]; exact out_put _ (up ho2) (.inl (hl' T))
      rw [hW2]
      refine wpIn_mono (hbody T _ _ pre x post a' _ hT hX (by have := ho2.size; have : W2.heap.size = Wa.heap.size := by { rw [← hW2]; simp }; omega) how3 hi3 hax3) ?_
      have fin : ∀ (jump : Option Code) (W3 : World), Out (S T) W2 W3 →
          (Instr.endRound (D + 1) jump).run P W3 = .ok (.bool jump.isNone) (W3.putObj (D + 1) (.loop (rec (if jump.isNone then .ready else .done) jump))) ∧
          W3.heap[D + 1]? = some (.loop { rec .ready none with state := .busy }) ∧
          (W3.putObj (D + 1) (.loop (rec (if jump.isNone then .ready else .done) jump))).heap[D + 1]? = some (.loop (rec (if jump.isNone then .ready else .done) jump)) ∧
          (W3.putObj (D + 1) (.loop (rec (if jump.isNone then .ready else .done) jump))).heap[D]? = some (.deferred (some [])) ∧
          Out (S T) w (W3.putObj (D + 1) (.loop (rec (if jump.isNone then .ready else .done) jump))) ∧
          Out (S' T) W (W3.putObj (D + 1) (.loop (rec (if jump.isNone then .ready else .done) jump))) := fun jump W3 ho => by
        have hl3 := heap_out ho hl2 (hnS T hT)
        have := run_endRound (P := P) jump hl3
        rw [hrec] at this ⊢
        exact ⟨this, by rw [hrec] at hl3; exact hl3, World.putObj_heap_same (Array.getElem?_eq_some_iff.1 hl3).1, (World.putObj_heap_other (by omega)).trans (heap_out ho hk2 (hnD T hT)), out_put _ (how3.trans ho) (.inr (by omega)), out_put _ (hu2.trans (up ho)) (.inl (hl' T))⟩
      rintro e a3 W3 hp
      cases e with
      | normal =>
        obtain ⟨hr, hl3, hl4, hk4, ho4, hu4⟩ := fin none W3 hp.1
        exact ⟨_, _, hr, hu4, .inl ⟨rfl, (hI T hT).putObj _ hp.2 (by omega) (by omega), ho4, hl4, hk4⟩⟩
      | ret =>
        obtain ⟨hr, hl3, hl4, hk4, ho4, hu4⟩ := fin (some .ret) W3 hp.1
        exact ⟨_, _, hr, hu4, .inr ⟨rfl, .ret, (hIx T _ hT).putObj _ hp.2 (by omega) (by omega), ho4, hl4, hk4⟩⟩
      | exit id =>
        obtain ⟨hr, hl3, hl4, hk4, ho4, hu4⟩ := fin (some (.exit id)) W3 hp.1
        exact ⟨_, _, hr, hu4, .inr ⟨rfl, .exit id, (hIx T _ hT).putObj _ hp.2 (by omega) (by omega), ho4, hl4, hk4⟩⟩
      | goto t =>
        obtain ⟨hr, hl3, hl4, hk4, ho4, hu4⟩ := fin (some (.goto t)) W3 hp.1
        exact ⟨_, _, hr, hu4, .inr ⟨rfl, .goto t, (hIx T _ hT).putObj _ hp.2 (by omega) (by omega), ho4, hl4, hk4⟩⟩
      | panic ch => exact hp.elim
      | outgrown => exact hp.elim
    · rintro e W2 ⟨⟨v, rfl⟩, T, hT0, -, ⟨hi, ho, hl, hk⟩ | ⟨pre, post, hX, c, hi, ho, hl, hk⟩⟩
      · have hT : w.heap.size + 2 ≤ T := by omega
        exact ⟨none, _, by have := run_endLoop (P := P) hl (by rw [hrec]; simp); rw [hrec] at this; exact this, hdone T D _ hT hD (out_put _ ho (.inr (by omega))) ((hI T hT).putObj _ hi (by omega) (by omega)) ((World.putObj_heap_other (by omega)).trans hk)⟩
      · have hT : w.heap.size + 2 ≤ T := by omega
        exact ⟨some c, _, by have := run_endLoop (P := P) hl (by rw [hrec]; simp); rw [hrec] at this; exact this, hstop T D c pre post _ hT hD (out_put _ ho (.inr (by omega))) hX ((hIx T c hT).putObj _ hi (by omega) (by omega)) ((World.putObj_heap_other (by omega)).trans hk)⟩
end Go.Proofs.Yteaibgnelnblnaa.Rt
namespace Go.Proofs.Yteaibgnelnblnaa
open Go.RowKit Me
end Go.Proofs.Yteaibgnelnblnaa
end
section
namespace Go.Proofs.Yteaibgnelnblnaa.Ru
open Go.RowKit

variable {P : Program}

/-- It stays, whatever becomes of the iterator's own blocks; those may be given away, and new ones be taken. -/
def Stays {β : Type} (J : (Nat → Prop) → β → World → Prop) : Prop :=
  ∀ (O O' : Nat → Prop) (s : β) (W W' : World), J O s W → Out O W W' → (∀ k, O' k → O k ∨ W.heap.size ≤ k) → J O' s W'
/-- What a round may write: what is told, and whatever is new and not the iterator's. -/
def SO (S : Nat → Prop) (B : Nat) (O : Nat → Prop) (k : Nat) : Prop := S k ∨ (B ≤ k ∧ ¬ O k)

/-- The iterator g gives Xs, to whatever loop whose rounds write in S alone, and in what is new and not the iterator's (M: what the iterator reads). -/
def Gives {α : Type} (P : Program) (g : Nat) (lb : Array Value) (V : Nat → (Nat → Prop) → α → Array Value → World → Prop) (Xs : List α) (M : Nat → Prop) (w : World) : Prop :=
  ∀ (n l : Nat) (S : Nat → Prop) (J Jx : (Nat → Prop) → List α → World → Prop) (W : World), Below w.heap.size w W → (∀ k, S k → k < W.heap.size ∧ ¬ M k) → Stays J → Stays Jx →
    (∀ O pre x post av W1, Xs = pre ++ x :: post → (∀ k, O k → W.heap.size ≤ k ∧ k < W1.heap.size) → Out S W W1 → J O pre W1 → V W.heap.size O x av W1 → YieldAt Fence.wide 1 P l av W1 fun e W' =>
      Out (SO S W.heap.size O) W1 W' ∧ ((e = .returned (.bool true) ∧ J O (pre ++ [x]) W') ∨ (e = .returned (.bool false) ∧ Jx O (pre ++ [x]) W'))) →
    J (fun _ => False) [] W →
    CallsIn Fence.wide n P g (#[.func (.yield l) #[] #[]] ++ lb) W fun e W' => (∃ v, e = .returned v) ∧ Out S W W' ∧ ∃ O, (∀ k, O k → W.heap.size ≤ k) ∧ (J O Xs W' ∨ ∃ pre post, Xs = pre ++ post ∧ Jx O pre W')

/-- How a round's body may be left. -/
def postO {α : Type} (S : Nat → Prop) (I : List α → World → Prop) (Ix : Code → List α → World → Prop) (xs : List α) (W : World) : Exit → Act → World → Prop
  | .normal, _, W' => Out S W W' ∧ I xs W'
  | .ret, _, W' => Out S W W' ∧ Ix .ret xs W'
  | .exit id, _, W' => Out S W W' ∧ Ix (.exit id) xs W'
  | .goto t, _, W' => Out S W W' ∧ Ix (.goto t) xs W'
  | .panic _, _, _ => False
  | .outgrown, _, _ => False

theorem put_out (W : World) (l : Nat) (o : Obj) {O : Nat → Prop} (h : O l) : Out O W (W.putObj l o) := Out.of_grown (grownBy_putObj' W l o) (fun k e _ => by cases e; exact h)
theorem Stays.put {β : Type} {J : (Nat → Prop) → β → World → Prop} (h : Stays J) {O : Nat → Prop} {s : β} {W : World} {l : Nat} (o : Obj) (hs : J O s W) (hl : O l) : J O s (W.putObj l o) := h O O s W _ hs (put_out W l o hl) fun _ hk => .inl hk
theorem Stays.below {β : Type} {J : (Nat → Prop) → β → World → Prop} (h : Stays J) {O : Nat → Prop} {s : β} {W W' : World} (hs : J O s W) (hb : Below W.heap.size W W') : J O s W' := h O O s W _ hs (Out.of_below hb) fun _ hk => .inl hk
theorem Stays.less {β : Type} {J : (Nat → Prop) → β → World → Prop} (h : Stays J) {O O' : Nat → Prop} {s : β} {W : World} (hs : J O s W) (hk : ∀ k, O' k → O k ∨ W.heap.size ≤ k) : J O' s W := h O O' s W W hs (Out.refl _ _) hk

/-- **The law**: a loop over such an iterator, at a function's own level. -/
theorem range_gives {α : Type} {n : Nat} {g : Operand} {ps : Array Tmp} {assign body : Code} {Q : Exit → Act → World → Prop} {a : Act} {w : World}
    {gf : Nat} {lb : Array Value} (hg : a.eval g = .func (.func gf) #[] lb) (eg : ∀ args w, (callFunc gf args).run P w = .ok (.enter gf args) w)
    {V : Nat → (Nat → Prop) → α → Array Value → World → Prop} {Xs : List α} {M : Nat → Prop} {w0 : World} (hseq : Gives P gf lb V Xs M w0) (hb0 : Below w0.heap.size w0 w) (hps : ∀ B O x av W, V B O x av W → av.size = ps.size)
    (S : Nat → Prop) (hS : ∀ k, S k → k < w.heap.size ∧ ¬ M k) (hM : ∀ k, M k → k < w.heap.size)
    (I : (Nat → Prop) → List α → World → Prop) (Ix : Code → (Nat → Prop) → List α → World → Prop) (hI : Stays I) (hIx : ∀ c, Stays (Ix c)) (h0 : ∀ O : Nat → Prop, (∀ k, O k → w.heap.size ≤ k) → I O [] w) (Ax : (Nat → Prop) → α → Act → World → Prop) (hAx : ∀ O x a' W W', Ax O x a' W → Out (fun k => k = w.heap.size ∨ k = w.heap.size + 1) W W' → Ax O x a' W')
    (hassign : ∀ (O : Nat → Prop) (l m : Nat) (pre : List α) (x : α) (av : Array Value) (W : World) (K : Act → World → Prop), (∀ k, O k → w.heap.size ≤ k ∧ k < W.heap.size) → O w.heap.size → O (w.heap.size + 1) → V (w.heap.size + 2) (fun k => O k ∧ w.heap.size + 2 ≤ k) x av W → I O pre W → Out S w W → (∀ a' W', Out (SO S w.heap.size O) W W' → I O pre W' → Ax O x a' W' → K a' W') →
      assign.wpIn (Fence.wide.inRound l) m P (Exit.then K (fun _ _ _ => False)) { tmps := (ps.zip av).foldl (fun t (p, v) => t.setIfInBounds p v) a.tmps, defers := [] } W)
    (hbody : ∀ (O : Nat → Prop) (l m : Nat) (pre : List α) (x : α) (post : List α) (a' : Act) (W : World), Xs = pre ++ x :: post → (∀ k, O k → w.heap.size ≤ k ∧ k < W.heap.size) → O w.heap.size → O (w.heap.size + 1) → Out S w W → I O pre W → Ax O x a' W → body.wpIn (Fence.wide.inRound l) m P (postO (SO S w.heap.size O) (I O) (fun c => Ix c O) (pre ++ [x]) W) a' W)
    (hdone : ∀ (O : Nat → Prop) (D : Nat) (W : World), (∀ k, O k → w.heap.size ≤ k) → D = w.heap.size → O D → Out S w W → I O Xs W → W.heap[D]? = some (.deferred (some [])) → Q .normal { a with defers := { target := .collected D, args := #[] } :: a.defers } W)
    (hstop : ∀ (O : Nat → Prop) (D : Nat) (c : Code) (pre post : List α) (W : World), (∀ k, O k → w.heap.size ≤ k) → D = w.heap.size → O D → Out S w W → Xs = pre ++ post → Ix c O pre W → W.heap[D]? = some (.deferred (some [])) → c.wpIn Fence.wide n P Q { a with defers := { target := .collected D, args := #[] } :: a.defers } W) :
    (Code.rangeFunc g ps assign body).wpIn Fence.wide n P Q a w := by
  refine wpIn_rangeFunc fun fn hfn => ?_
  rw [show Fence.wide.round = none from rfl]
  obtain ⟨rec, hrec⟩ : ∃ rec : LoopState → Option Code → Loop, rec = fun st pe => { state := st, pending := pe, fn, tmps := a.tmps, params := ps, assign, body, defers := w.heap.size } := ⟨_, rfl⟩
  obtain ⟨D, hD⟩ : ∃ D, D = w.heap.size := ⟨_, rfl⟩
  obtain ⟨W1, hW1⟩ : ∃ W1, (w.alloc (.deferred (some []))).alloc (.loop (rec .ready none)) = W1 := ⟨_, rfl⟩
  have hsz : W1.heap.size = D + 2 := by rw [← hW1, hD]; simp
  have hL1 : W1.heap[D + 1]? = some (.loop (rec .ready none)) := by
    have := World.alloc_heap_new (w.alloc (.deferred (some []))) (.loop (rec .ready none))
    rwa [World.size_alloc, hW1, ← hD] at this
  have hK1 : W1.heap[D]? = some (.deferred (some [])) := by
    rw [← hW1, hD]; exact (Below.heap_alloc _ _ _ (by simp)).trans (World.alloc_heap_new w _)
  have hb1 : Below w.heap.size w W1 := by
    rw [← hW1]; exact ((Below.refl _ w).alloc (Nat.le_refl _) _).alloc (by simp) _
  have ho1 : Out S w W1 := .of_below hb1
  have hnS : ¬ S (D + 1) := fun h => by have := (hS _ h).1; omega
  have hnD : ¬ S D := fun h => by have := (hS _ h).1; omega
  rw [← hD] at hAx hassign hbody
  -- what a round writes, with the loop's own two blocks; the iterator's own, with these
  obtain ⟨S', hS'⟩ : ∃ S' : Nat → Prop, S' = fun k => S k ∨ k = D ∨ k = D + 1 := ⟨_, rfl⟩
  obtain ⟨up, hup⟩ : ∃ up : (Nat → Prop) → Nat → Prop, up = fun O k => O k ∨ k = D ∨ k = D + 1 := ⟨_, rfl⟩
  have ups : ∀ {J : (Nat → Prop) → List α → World → Prop}, Stays J → ∀ (O O' : Nat → Prop) s A B, J (up O) s A → Out O A B → (∀ k, O' k → O k ∨ A.heap.size ≤ k) → J (up O') s B := fun hJ O O' s A B hj ho hk => by
    refine hJ (up O) (up O') s A B hj (ho.more fun k _ h => by rw [hup]; exact .inl h) fun k hk' => ?_
    rw [hup] at hk' ⊢
    rcases hk' with h | h
    · exact (hk k h).imp .inl id
    · exact .inl (.inr h)
  refine ⟨D + 1, [{ target := .collected D, args := #[] }], W1, { target := .fn (.func gf) lb, args := #[.func (.yield (D + 1)) #[] #[]] }, W1, gf,
    #[.func (.yield (D + 1)) #[] #[]] ++ lb, W1, ?_, ?_, ?_, ?_, fun e => by simp [Fence.wide] at e, ?_⟩
  · rw [← hW1, hrec, hD]; exact run_enterLoop_outer _ _ _ _ _
  · simp only [resolve, hg]; simp [go_sem]
  · intro f' hf'; trivial
  · simp [invoke, go_sem, eg]
  · have hne : ∀ {O : Nat → Prop} {A B : World} {k : Nat} {o : Obj}, Out O A B → (∀ j, O j → D + 2 ≤ j) → k < D + 2 → A.heap[k]? = some o → B.heap[k]? = some o :=
      fun ho hO hk h => Rt.heap_out ho h (fun e => by have := hO _ e; omega)
    -- the iterator's own lies behind the loop's blocks: that is kept with the state
    refine (hseq (n - 1) (D + 1) S'
      (fun O pre W => (∀ k, O k → D + 2 ≤ k) ∧ I (up O) pre W ∧ Out S w W ∧ W.heap[D + 1]? = some (.loop (rec .ready none)) ∧ W.heap[D]? = some (.deferred (some [])))
      (fun O pre W => (∀ k, O k → D + 2 ≤ k) ∧ ∃ c, Ix c (up O) pre W ∧ Out S w W ∧ W.heap[D + 1]? = some (.loop (rec .done (some c))) ∧ W.heap[D]? = some (.deferred (some [])))
      W1 (hb0.trans (hb1.mono hb0.size)) ?_
      (fun O O' s A B hs ho hk => by
        obtain ⟨g0, g1, g2, g3, g4⟩ := hs
        have hA : D + 2 ≤ A.heap.size := by have := (Array.getElem?_eq_some_iff.1 g3).1; omega
        exact ⟨fun k h => (hk k h).elim (g0 k) (fun h => by omega), ups hI O O' s A B g1 ho hk, g2.trans' ho fun k h => .inr (by have := g0 k h; omega), hne ho g0 (by omega) g3, hne ho g0 (by omega) g4⟩)
      (fun O O' s A B hs ho hk => by
        obtain ⟨g0, c, g1, g2, g3, g4⟩ := hs
        have hA : D + 2 ≤ A.heap.size := by have := (Array.getElem?_eq_some_iff.1 g3).1; omega
        exact ⟨fun k h => (hk k h).elim (g0 k) (fun h => by omega), c, ups (hIx c) O O' s A B g1 ho hk, g2.trans' ho fun k h => .inr (by have := g0 k h; omega), hne ho g0 (by omega) g3, hne ho g0 (by omega) g4⟩)
      ?_ ⟨fun k h => h.elim, hI.below (h0 _ fun k h => ?_) hb1, ho1, hL1, hK1⟩).mono ?_
    · intro k hk
      rw [hS'] at hk
      rcases hk with hk | rfl | rfl
      · have := hS k hk; exact ⟨by omega, this.2⟩
      · exact ⟨by omega, fun h => by have := hM _ h; omega⟩
      · exact ⟨by omega, fun h => by have := hM _ h; omega⟩
    · rintro O pre x post av W hX hO _ ⟨g0, hi, how, hl, hk⟩ hv
      have hy := run_yield (P := P) (args := av) hl (by rw [hrec]; exact hps _ O x av W hv)
      rw [hrec] at hy
      have hlt0 : D + 1 < W.heap.size := (Array.getElem?_eq_some_iff.1 hl).1
      have hOw : ∀ k, up O k → D ≤ k ∧ k < W.heap.size := fun k hk' => by
        rw [hup] at hk'
        rcases hk' with h | h | h
        · exact ⟨by have := g0 k h; omega, (hO k h).2⟩
        · omega
        · omega
      have hoD : up O D := by rw [hup]; exact .inr (.inl rfl)
      have hoD1 : up O (D + 1) := by rw [hup]; exact .inr (.inr rfl)
      have e1 : (fun k => up O k ∧ D + 2 ≤ k) = O := by
        funext k
        rw [hup]
        exact propext ⟨fun h => h.1.elim id (fun h' => by omega), fun h => ⟨.inl h, g0 k h⟩⟩
      have low : ∀ {A B : World}, Out (SO S D (up O)) A B → Out (SO S' W1.heap.size O) A B := fun h => h.more fun k _ hk' => by
        rw [hup] at hk'
        rcases hk' with h | ⟨h1, h2⟩
        · exact .inl (by rw [hS']; exact .inl h)
        · refine .inr ⟨?_, fun h => h2 (.inl h)⟩
          rw [hsz]
          have h3 : k ≠ D := fun e => h2 (.inr (.inl e))
          have h4 : k ≠ D + 1 := fun e => h2 (.inr (.inr e))
          omega
      have hnU : ¬ SO S D (up O) (D + 1) := fun h => h.elim hnS (fun h => h.2 hoD1)
      have hnU0 : ¬ SO S D (up O) D := fun h => h.elim hnD (fun h => h.2 hoD)
      have old : ∀ {A B : World}, Out S w A → Out (SO S D (up O)) A B → Out S w B := fun h h' => h.trans' h' fun k hk' => hk'.elim .inl (fun h => .inr (by omega))
      refine ⟨fn, _, assign, body, hy, roundIn_of_wpIn hfn (hassign (up O) _ _ pre x av W _ hOw hoD hoD1 (by rw [e1]; rw [hsz] at hv; exact hv) hi how ?_)⟩
      clear hy
      intro a' Wa ho2 hi2 hax
      have hl0 := hl
      replace hl := Rt.heap_out ho2 hl hnU
      replace hk := Rt.heap_out ho2 hk hnU0
      have hlt : D + 1 < Wa.heap.size := (Array.getElem?_eq_some_iff.1 hl).1
      have how2 := old how ho2
      refine ⟨_, run_beginRound hl (by rw [hrec]), ?_⟩
      obtain ⟨W2, hW2⟩ : ∃ W2, Wa.putObj (D + 1) (.loop { rec .ready none with state := .busy }) = W2 := ⟨_, rfl⟩
      have hl2 : W2.heap[D + 1]? = some (.loop { rec .ready none with state := .busy }) := by rw [← hW2]; exact World.putObj_heap_same hlt
      have hk2 : W2.heap[D]? = some (.deferred (some [])) := by rw [← hW2]; exact (World.putObj_heap_other (by omega)).trans hk
      have how3 : Out S w W2 := by rw [← hW2]; exact Rt.out_put _ how2 (.inr (by omega))
      have hi3 : I (up O) pre W2 := by rw [← hW2]; exact hI.put _ hi2 hoD1
      have hax3 : Ax (up O) x a' W2 := by rw [← hW2]; exact hAx _ _ _ _ _ hax (put_out _ _ _ (.inr rfl))
      have hl' : S' (D + 1) := by rw [hS']; exact .inr (.inr rfl)
      have hu2 : Out (SO S' W1.heap.size O) W W2 := by rw [← hW2]; exact Rt.out_put _ (low ho2) (.inl (.inl hl'))
      have hsw : W.heap.size ≤ W2.heap.size := hu2.size
      rw [hW2]
      refine wpIn_mono (hbody (up O) _ _ pre x post a' _ hX (fun k hk' => by have := hOw k hk'; omega) hoD hoD1 how3 hi3 hax3) ?_
      have fin : ∀ (jump : Option Code) (W3 : World), Out (SO S D (up O)) W2 W3 →
          (Instr.endRound (D + 1) jump).run P W3 = .ok (.bool jump.isNone) (W3.putObj (D + 1) (.loop (rec (if jump.isNone then .ready else .done) jump))) ∧
          W3.heap[D + 1]? = some (.loop { rec .ready none with state := .busy }) ∧
          (W3.putObj (D + 1) (.loop (rec (if jump.isNone then .ready else .done) jump))).heap[D + 1]? = some (.loop (rec (if jump.isNone then .ready else .done) jump)) ∧
          (W3.putObj (D + 1) (.loop (rec (if jump.isNone then .ready else .done) jump))).heap[D]? = some (.deferred (some [])) ∧
          Out S w (W3.putObj (D + 1) (.loop (rec (if jump.isNone then .ready else .done) jump))) ∧
          Out (SO S' W1.heap.size O) W (W3.putObj (D + 1) (.loop (rec (if jump.isNone then .ready else .done) jump))) := fun jump W3 ho => by
        have hl3 := Rt.heap_out ho hl2 hnU
        have := run_endRound (P := P) jump hl3
        rw [hrec] at this ⊢
        exact ⟨this, by rw [hrec] at hl3; exact hl3, World.putObj_heap_same (Array.getElem?_eq_some_iff.1 hl3).1, (World.putObj_heap_other (by omega)).trans (Rt.heap_out ho hk2 hnU0), Rt.out_put _ (old how3 ho) (.inr (by omega)), Rt.out_put _ (hu2.trans (low ho)) (.inl (.inl hl'))⟩
      rintro e a3 W3 hp
      cases e with
      | normal =>
        obtain ⟨hr, hl3, hl4, hk4, ho4, hu4⟩ := fin none W3 hp.1
        exact ⟨_, _, hr, hu4, .inl ⟨rfl, g0, hI.put _ hp.2 hoD1, ho4, hl4, hk4⟩⟩
      | ret =>
        obtain ⟨hr, hl3, hl4, hk4, ho4, hu4⟩ := fin (some .ret) W3 hp.1
        exact ⟨_, _, hr, hu4, .inr ⟨rfl, g0, .ret, (hIx _).put _ hp.2 hoD1, ho4, hl4, hk4⟩⟩
      | exit id =>
        obtain ⟨hr, hl3, hl4, hk4, ho4, hu4⟩ := fin (some (.exit id)) W3 hp.1
        exact ⟨_, _, hr, hu4, .inr ⟨rfl, g0, .exit id, (hIx _).put _ hp.2 hoD1, ho4, hl4, hk4⟩⟩
      | goto t =>
        obtain ⟨hr, hl3, hl4, hk4, ho4, hu4⟩ := fin (some (.goto t)) W3 hp.1
        exact ⟨_, _, hr, hu4, .inr ⟨rfl, g0, .goto t, (hIx _).put _ hp.2 hoD1, ho4, hl4, hk4⟩⟩
      | panic ch => exact hp.elim
      | outgrown => exact hp.elim
    · rw [hup] at h
      rcases h with h | h | h
      · exact h.elim
      · omega
      · omega
    · rintro e W2 ⟨⟨v, rfl⟩, -, O, -, ⟨g0, hi, ho, hl, hk⟩ | ⟨pre, post, hX, g0, c, hi, ho, hl, hk⟩⟩
      all_goals
        have hOw : ∀ k, up O k → w.heap.size ≤ k := fun k hk' => by
          rw [hup] at hk'
          rcases hk' with h | h | h
          · have := g0 k h; omega
          · omega
          · omega
        have hoD : up O D := by rw [hup]; exact .inr (.inl rfl)
        have hoD1 : up O (D + 1) := by rw [hup]; exact .inr (.inr rfl)
      · exact ⟨none, _, by have := run_endLoop (P := P) hl (by rw [hrec]; simp); rw [hrec] at this; exact this, hdone _ D _ hOw hD hoD (Rt.out_put _ ho (.inr (by omega))) (hI.put _ hi hoD1) ((World.putObj_heap_other (by omega)).trans hk)⟩
      · exact ⟨some c, _, by have := run_endLoop (P := P) hl (by rw [hrec]; simp); rw [hrec] at this; exact this, hstop _ D c pre post _ hOw hD hoD (Rt.out_put _ ho (.inr (by omega))) hX ((hIx c).put _ hi hoD1) ((World.putObj_heap_other (by omega)).trans hk)⟩
end Go.Proofs.Yteaibgnelnblnaa.Ru
end
