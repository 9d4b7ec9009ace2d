/- Texts put together, for a law: MkS, MsQ, GqP, MkT. -/
import Derived.Test.YteaibgnelnblnaaKG18
import Derived.Test.YteaibgnelnblnaaKG8
import Derived.Test.YteaibgnelnblnaaKG6
import Derived.Test.YteaibgnelnblnaaKG2
section
namespace Go.Proofs.Yteaibgnelnblnaa
open Go.RowKit Me Tx Ed Mg Va

theorem sumOf_arcM : ∀ A : List ArcR, sumOf (arcM A) = sumA A
  | [] => rfl
  | a :: A => by
    rw [arcM_cons, sumOf_append, sumOf_arcM A]
    simp [sumOf, sumA]
    omega
/-- What holds of rows that keys have come to. -/
structure KeysOk (rows : List RowR) (last : Option EdD) (k : Nat) : Prop where
  few : rows.length ≤ k
  arcs : ∀ r ∈ rows, r.arcs ≠ [] ∧ r.arcs.length ≤ k
  none_ : last = none ↔ k = 0
  nil : rows = [] ↔ k = 0
  sum : ∀ r l, rows = r :: l → sumA r.arcs ≤ 2147483647
  fit : ∀ y, last = some y → FitE y
theorem addA_length (x : EdD) (A : List ArcR) : (addA x A).length ≤ A.length + 1 ∧ addA x A ≠ [] := by
  cases A with
  | nil => exact ⟨Nat.le_refl _, fun h => by cases h⟩
  | cons a A =>
    rw [addA]
    split
    · exact ⟨by simp, fun h => by cases h⟩
    · exact ⟨by simp, fun h => by cases h⟩
theorem KeysOk.start : KeysOk [] none 0 := ⟨Nat.le_refl _, (fun r hr => by cases hr), ⟨fun _ => rfl, fun _ => rfl⟩, ⟨fun _ => rfl, fun _ => rfl⟩, (fun r l h => by cases h), (fun y h => by cases h)⟩
theorem KeysOk.next {rows : List RowR} {last : Option EdD} {k : Nat} {x : EdD} (h : KeysOk rows last k) (hx : FitE x) (hs : hasR x rows + x.wgt ≤ 2147483647) : KeysOk (addR x rows) (some x) (k + 1) := by
  refine ⟨Nat.le_trans (addR_length x rows) (Nat.succ_le_succ h.few), fun r hr => ?_, ⟨fun e => by (cases e), fun e => by omega⟩, ⟨fun e => absurd e (addR_ne x rows), fun e => by omega⟩, fun r l e => ?_, fun y e => by injection e with e; rw [← e]; exact hx⟩
  · cases rows with
    | nil =>
      rw [addR, List.mem_singleton] at hr
      subst hr
      exact ⟨by simp, by simp⟩
    | cons r0 l =>
      rw [addR] at hr
      split at hr
      · rcases List.mem_cons.1 hr with e | e
        · subst e
          have h1 := addA_length x r0.arcs
          have h2 := (h.arcs r0 List.mem_cons_self).2
          exact ⟨h1.2, by show (addA x r0.arcs).length ≤ _; omega⟩
        · have := h.arcs r (List.mem_cons_of_mem _ e)
          exact ⟨this.1, by omega⟩
      · rcases List.mem_cons.1 hr with e | e
        · subst e
          exact ⟨by simp, by simp⟩
        · have := h.arcs r e
          exact ⟨this.1, by omega⟩
  · cases rows with
    | nil =>
      rw [addR] at e
      injection e with e
      subst e
      simp only [hasR, sumA] at hs ⊢
      simpa using hs
    | cons r0 l0 =>
      rw [addR] at e
      rw [hasR] at hs
      split at e
      · rename_i h0
        injection e with e
        subst e
        rw [if_pos h0] at hs
        show sumA (addA x r0.arcs) ≤ _
        rw [sumA_add]
        exact hs
      · rename_i h0
        injection e with e
        subst e
        rw [if_neg h0] at hs
        simp only [sumA]
        simpa using hs
end Go.Proofs.Yteaibgnelnblnaa
end
section
namespace Go.Proofs.Yteaibgnelnblnaa
open Go.RowKit Me Tx Ed Mg Va

/-- Is there a vertex that has too much, among the first ones? -/
def overE (l : List EdD) (k : Nat) : Bool := (l.take k).any fun x => decide (2147483647 < wf x.src l)
/-! The pairs of vertices. -/
theorem nodup_len {α : Type} : ∀ {a b : List α}, a.Nodup → b.Nodup → (∀ x, x ∈ a ↔ x ∈ b) → a.length = b.length
  | [], b, _, _, h => by
    cases b with
    | nil => rfl
    | cons y b => exact absurd ((h y).2 List.mem_cons_self) (by simp)
  | x :: a, b, ha, hb, h => by
    obtain ⟨b1, b2, rfl⟩ := List.append_of_mem ((h x).1 List.mem_cons_self)
    have ha' := List.nodup_cons.1 ha
    have hb' : (x :: (b1 ++ b2)).Nodup := (List.perm_middle.nodup_iff).1 hb
    have hb2 := List.nodup_cons.1 hb'
    have ih := nodup_len ha'.2 hb2.2 (fun y => by
      have := h y
      constructor
      · intro hy
        have h1 := this.1 (List.mem_cons_of_mem _ hy)
        have hne : y ≠ x := fun e => ha'.1 (e ▸ hy)
        simp only [List.mem_append, List.mem_cons] at h1 ⊢
        rcases h1 with h1 | h1 | h1
        · exact .inl h1
        · exact absurd h1 hne
        · exact .inr h1
      · intro hy
        have hne : y ≠ x := fun e => hb2.1 (e ▸ hy)
        have h1 := this.2 (by
          simp only [List.mem_append, List.mem_cons] at hy ⊢
          rcases hy with h | h
          · exact .inl h
          · exact .inr (.inr h))
        rcases List.mem_cons.1 h1 with h1 | h1
        · exact absurd h1 hne
        · exact h1)
    rw [List.length_cons, ih]
    simp only [List.length_append, List.length_cons]
    omega
/-- The pair of an edge is new behind others. -/
def fresh (l : List EdD) (x : EdD) : Bool := l.all fun y => y.src != x.src || y.dst != x.dst
/-- How many pairs there are. -/
def dis : List EdD → List (Nat × Nat)
  | l => l.foldl (fun acc x => if (x.src, x.dst) ∈ acc then acc else (x.src, x.dst) :: acc) []
theorem dis_nil : dis [] = [] := rfl
theorem dis_snoc (l : List EdD) (x : EdD) : dis (l ++ [x]) = if (x.src, x.dst) ∈ dis l then dis l else (x.src, x.dst) :: dis l := by
  unfold dis
  rw [List.foldl_append]
  rfl
theorem dis_all (l : List EdD) : (dis l).Nodup ∧ ∀ f t, (f, t) ∈ dis l ↔ ∃ x ∈ l, x.src = f ∧ x.dst = t := by
  have key : ∀ k, k ≤ l.length → (dis (l.take k)).Nodup ∧ ∀ f t, (f, t) ∈ dis (l.take k) ↔ ∃ x ∈ l.take k, x.src = f ∧ x.dst = t := by
    intro k
    induction k with
    | zero => intro _; simp [dis_nil]
    | succ k ih =>
      intro hk
      obtain ⟨h1, h2⟩ := ih (by omega)
      have hx : l[k]? = some l[k] := List.getElem?_eq_getElem (by omega)
      rw [List.take_add_one, hx]
      show (dis (l.take k ++ [l[k]])).Nodup ∧ ∀ f t, (f, t) ∈ dis (l.take k ++ [l[k]]) ↔ ∃ x ∈ l.take k ++ [l[k]], x.src = f ∧ x.dst = t
      rw [dis_snoc]
      split
      · rename_i hm
        refine ⟨h1, fun f t => ⟨fun h => ?_, fun h => ?_⟩⟩
        · obtain ⟨x, hx, hp⟩ := (h2 f t).1 h
          exact ⟨x, List.mem_append_left _ hx, hp⟩
        · obtain ⟨x, hx, hp⟩ := h
          rcases List.mem_append.1 hx with hx | hx
          · exact (h2 f t).2 ⟨x, hx, hp⟩
          · rw [List.mem_singleton.1 hx] at hp
            rw [← hp.1, ← hp.2]
            exact hm
      · rename_i hm
        refine ⟨List.nodup_cons.2 ⟨hm, h1⟩, fun f t => ⟨fun h => ?_, fun h => ?_⟩⟩
        · rcases List.mem_cons.1 h with h | h
          · injection h with ha hb
            exact ⟨l[k], List.mem_append_right _ List.mem_cons_self, ha.symm, hb.symm⟩
          · obtain ⟨x, hx, hp⟩ := (h2 f t).1 h
            exact ⟨x, List.mem_append_left _ hx, hp⟩
        · obtain ⟨x, hx, hp⟩ := h
          rcases List.mem_append.1 hx with hx | hx
          · exact List.mem_cons_of_mem _ ((h2 f t).2 ⟨x, hx, hp⟩)
          · rw [List.mem_singleton.1 hx] at hp
            rw [← hp.1, ← hp.2]
            exact List.mem_cons_self
  have := key l.length (Nat.le_refl _)
  rwa [List.take_length] at this
/-- Where edges have weights, a pair has some just if an edge has it. -/
theorem wt_pos {f t : Nat} : ∀ {l : List EdD}, (∀ x ∈ l, 0 < x.wgt) → (0 < wt f t l ↔ ∃ x ∈ l, x.src = f ∧ x.dst = t)
  | [], _ => by simp [wt]
  | x :: l, h => by
    have ih := wt_pos (f := f) (t := t) (l := l) (fun y hy => h y (List.mem_cons_of_mem _ hy))
    have hx := h x List.mem_cons_self
    rw [wt]
    by_cases hq : x.src = f ∧ x.dst = t
    · rw [if_pos hq]
      exact ⟨fun _ => ⟨x, List.mem_cons_self, hq⟩, fun _ => by omega⟩
    · rw [if_neg hq, Nat.zero_add, ih]
      constructor
      · rintro ⟨y, hy, hp⟩; exact ⟨y, List.mem_cons_of_mem _ hy, hp⟩
      · rintro ⟨y, hy, hp⟩
        rcases List.mem_cons.1 hy with rfl | hy
        · exact absurd hp hq
        · exact ⟨y, hy, hp⟩
/-- The pairs of rows. -/
def pairsR (R : List RowR) : List (Nat × Nat) := R.flatMap fun r => r.arcs.map fun a => (r.src, a.dst)
theorem pairs_mem {R : List RowR} (h : RowsOk R) (f t : Nat) : (f, t) ∈ pairsR R ↔ 0 < wtR f t R := by
  unfold pairsR
  rw [List.mem_flatMap]
  constructor
  · rintro ⟨r, hr, ha⟩
    rw [List.mem_map] at ha
    obtain ⟨a, ha, e⟩ := ha
    injection e with e1 e2
    subst e1 e2
    obtain ⟨h1, h2⟩ := (h.arc hr a).1 ha
    omega
  · intro hw
    by_cases hx : ∃ r ∈ R, r.src = f
    · obtain ⟨r, hr, rfl⟩ := hx
      refine ⟨r, hr, ?_⟩
      rw [wtR_mem h.srcs hr rfl] at hw
      rw [List.mem_map]
      by_cases hy : ∃ a ∈ r.arcs, a.dst = t
      · obtain ⟨a, ha, rfl⟩ := hy
        exact ⟨a, ha, rfl⟩
      · rw [wtA_zero (fun a ha e => hy ⟨a, ha, e⟩)] at hw
        omega
    · rw [wtR_zero (fun r hr e => hx ⟨r, hr, e⟩)] at hw
      omega
theorem pairs_row (s : Nat) : ∀ {A : List ArcR}, (A.Pairwise fun a b => b.dst < a.dst) → (A.map fun a => (s, a.dst)).Nodup
  | [], _ => by simp
  | a :: A, h => by
    obtain ⟨h1, h2⟩ := List.pairwise_cons.1 h
    rw [List.map_cons, List.nodup_cons]
    refine ⟨fun hm => ?_, pairs_row s h2⟩
    rw [List.mem_map] at hm
    obtain ⟨b, hb, e⟩ := hm
    injection e with _ e
    have := h1 b hb
    omega
theorem pairs_nodup : ∀ {R : List RowR}, (R.Pairwise fun a b => b.src < a.src) → (∀ r ∈ R, r.arcs.Pairwise fun a b => b.dst < a.dst) → (pairsR R).Nodup
  | [], _, _ => by simp [pairsR]
  | r :: R, h, k => by
    obtain ⟨h1, h2⟩ := List.pairwise_cons.1 h
    have ih := pairs_nodup h2 (fun q hq => k q (List.mem_cons_of_mem _ hq))
    show ((r.arcs.map fun a => (r.src, a.dst)) ++ pairsR R).Nodup
    rw [List.nodup_append]
    refine ⟨pairs_row _ (k r List.mem_cons_self), ih, fun p hp q hq e => ?_⟩
    subst e
    rw [List.mem_map] at hp
    obtain ⟨a, ha, rfl⟩ := hp
    unfold pairsR at hq
    rw [List.mem_flatMap] at hq
    obtain ⟨s, hs, hq⟩ := hq
    rw [List.mem_map] at hq
    obtain ⟨b, hb, e⟩ := hq
    injection e with e1 e2
    have := h1 s hs
    omega
/-- How many arcs rows have. -/
def cntR (L : List RwD) : Nat := (L.map fun r => r.2.length).sum
theorem cnt_append (a b : List RwD) : cntR (a ++ b) = cntR a + cntR b := by simp [cntR]
theorem cnt_rowM : ∀ R : List RowR, cntR (rowM R) = (pairsR R).length
  | [] => rfl
  | r :: R => by
    rw [rowM_cons, cnt_append, cnt_rowM R]
    show _ = ((r.arcs.map fun a => (r.src, a.dst)) ++ pairsR R).length
    rw [List.length_append, List.length_map]
    simp [cntR, arcM_length]
    omega
/-- Arcs that rise, the last one first. -/
theorem rises_arcQ : ∀ {A : List ArcR}, (A.Pairwise fun a b => b.dst < a.dst) → (∀ a ∈ A, 0 < a.wgt) → rises 0 (arcM A) = true ∧ ∀ a A', A = a :: A' → leastOf (arcM A) = a.dst + 1
  | [], _, _ => ⟨rfl, fun a A' h => by cases h⟩
  | a :: A, h, hp => by
    obtain ⟨h1, h2⟩ := List.pairwise_cons.1 h
    obtain ⟨i1, i2⟩ := rises_arcQ h2 (fun b hb => hp b (List.mem_cons_of_mem _ hb))
    rw [arcM_cons]
    refine ⟨?_, fun b A' e => by injection e with e1 e2; subst e1; exact leastOf_snoc _ _⟩
    rw [rises_snoc, i1]
    have h3 := hp a List.mem_cons_self
    have h4 : leastOf (arcM A) ≤ a.dst := by
      cases A with
      | nil => exact Nat.zero_le _
      | cons b A =>
        rw [i2 b A rfl]
        have := h1 b List.mem_cons_self
        omega
    simp
    omega
/-- What the law asks of rows. -/
structure SumsOk (l : List EdD) (L : List RwD) : Prop where
  may_ : ∀ r ∈ L, may r.2 = true ∧ 0 < r.2.length
  rise : ∀ i r s, L[i]? = some r → L[i + 1]? = some s → r.1 < s.1
  sums : ∀ r ∈ L, ∀ a ∈ r.2, wt r.1 a.to l = a.weight
  num : cntR L = (dis l).length
theorem rise_rowM : ∀ {R : List RowR}, (R.Pairwise fun a b => b.src < a.src) → ∀ (i : Nat) (r s : RwD), (rowM R)[i]? = some r → (rowM R)[i + 1]? = some s → r.1 < s.1
  | [], _, i, r, s, h, _ => by simp [rowM] at h
  | q :: R, h, i, r, s, hi, hj => by
    obtain ⟨h1, h2⟩ := List.pairwise_cons.1 h
    rw [rowM_cons] at hi hj
    have hlt : i + 1 < (rowM R).length + 1 := by
      have := (List.getElem?_eq_some_iff.1 hj).1
      rw [List.length_append] at this
      simpa using this
    rw [List.getElem?_append_left (by omega)] at hi
    by_cases he : i + 1 = (rowM R).length
    · rw [List.getElem?_append_right (by omega), he, Nat.sub_self] at hj
      injection hj with hj
      subst hj
      have hm := List.mem_of_getElem? hi
      unfold rowM at hm
      rw [List.mem_reverse, List.mem_map] at hm
      obtain ⟨p, hp, rfl⟩ := hm
      exact h1 p hp
    · rw [List.getElem?_append_left (by omega)] at hj
      exact rise_rowM h2 i r s hi hj
theorem sums_ok {l : List EdD} {R : List RowR} (hp : ∀ x ∈ l, 0 < x.wgt) (hR : RowsOk R) (h1 : ∀ f t, wtR f t R = wt f t l) (h2 : ∀ f, wfR f R = wf f l) (h3 : ∀ f, wf f l ≤ 2147483647) : SumsOk l (rowM R) := by
  refine ⟨fun r hr => ?_, rise_rowM hR.srcs, fun r hr a ha => ?_, ?_⟩
  · unfold rowM at hr
    rw [List.mem_reverse, List.mem_map] at hr
    obtain ⟨q, hq, rfl⟩ := hr
    refine ⟨?_, ?_⟩
    · unfold may
      rw [(rises_arcQ (hR.dsts q hq) (hR.pos q hq)).1, sumOf_arcM, Bool.true_and, decide_eq_true_eq]
      have hle : ∀ {R : List RowR}, (R.Pairwise fun a b => b.src < a.src) → q ∈ R → sumA q.arcs ≤ wfR q.src R := fun {R} _ hm => by
        induction R with
        | nil => cases hm
        | cons p R ih =>
          rw [wfR]
          rcases List.mem_cons.1 hm with rfl | hm
          · rw [if_pos rfl]; omega
          · have := ih (List.pairwise_cons.1 ‹_›).2 hm
            omega
      have := hle hR.srcs hq
      rw [h2] at this
      exact Nat.le_trans this (h3 _)
    · show 0 < (arcM q.arcs).length
      rw [arcM_length]
      exact List.length_pos_iff.2 (hR.full q hq)
  · unfold rowM at hr
    rw [List.mem_reverse, List.mem_map] at hr
    obtain ⟨q, hq, rfl⟩ := hr
    have ha' : a ∈ (q.arcs.map fun a => (⟨a.dst, a.wgt⟩ : ArcD)).reverse := ha
    rw [List.mem_reverse, List.mem_map] at ha'
    obtain ⟨b, hb, rfl⟩ := ha'
    rw [← h1]
    exact ((hR.arc hq b).1 hb).2
  · rw [cnt_rowM]
    refine nodup_len (pairs_nodup hR.srcs hR.dsts) (dis_all l).1 (fun p => ?_)
    obtain ⟨f, t⟩ := p
    rw [pairs_mem hR, h1, wt_pos hp, (dis_all l).2]
end Go.Proofs.Yteaibgnelnblnaa
end
section
namespace Go.Proofs.Yteaibgnelnblnaa
open Go.RowKit Me Tx Ed Mg Va

/-- The error of a row behind another one; the first error of rows. -/
def errN (prev : Option Nat) (r : RwD) : Int :=
  if r.2.length = 0 ∨ may r.2 = false then 3 else if (match prev with | some p => decide (r.1 ≤ p) | none => false) = true then 13 else 0
def newG (prev : Option Nat) : List RwD → Int
  | [] => 0
  | r :: l => if errN prev r = 0 then newG (some r.1) l else errN prev r
/-- The vertex of the last row. -/
def lastN (l : List RwD) : Option Nat := l.getLast?.map Prod.fst
theorem lastN_snoc (l : List RwD) (r : RwD) : lastN (l ++ [r]) = some r.1 := by simp [lastN]
/-- Rows are a graph. -/
structure GOk (l : List RwD) : Prop where
  srcs : l.Pairwise fun a b => a.1 < b.1
  full : ∀ r ∈ l, 0 < r.2.length ∧ may r.2 = true
theorem GOk.nil : GOk [] := ⟨List.Pairwise.nil, fun _ h => by cases h⟩
theorem errN_ok {prev : Option Nat} {r : RwD} (h : errN prev r = 0) : 0 < r.2.length ∧ may r.2 = true ∧ ∀ p, prev = some p → p < r.1 := by
  unfold errN at h
  split at h
  · exact absurd h (by decide)
  · rename_i h1
    have h2 : ¬ r.2.length = 0 := fun e => h1 (.inl e)
    have h3 : may r.2 = true := by cases e : may r.2 with
      | true => rfl
      | false => exact absurd (.inr e) h1
    refine ⟨by omega, h3, fun p hp => ?_⟩
    subst hp
    dsimp only at h
    by_cases h4 : r.1 ≤ p
    · rw [if_pos (by simpa using h4)] at h
      exact absurd h (by decide)
    · omega
theorem newG_go : ∀ (l : List RwD) (prev : Option Nat), newG prev l = 0 → GOk l ∧ ∀ p, prev = some p → ∀ r ∈ l, p < r.1
  | [], _, _ => ⟨GOk.nil, fun _ _ _ h => by cases h⟩
  | r :: l, prev, h => by
    rw [newG] at h
    split at h
    · rename_i h1
      obtain ⟨h2, h3, h4⟩ := errN_ok h1
      obtain ⟨h5, h6⟩ := newG_go l (some r.1) h
      refine ⟨⟨List.pairwise_cons.2 ⟨fun s hs => h6 _ rfl s hs, h5.srcs⟩, fun s hs => ?_⟩, fun p hp s hs => ?_⟩
      · rcases List.mem_cons.1 hs with rfl | hs
        · exact ⟨h2, h3⟩
        · exact h5.full s hs
      · rcases List.mem_cons.1 hs with rfl | hs
        · exact h4 p hp
        · have := h4 p hp
          have := h6 _ rfl s hs
          omega
    · rename_i h1
      exact absurd h h1
theorem newG_ok {l : List RwD} (h : newG none l = 0) : GOk l := (newG_go l none h).1
theorem errN_zero {prev : Option Nat} {r : RwD} (h1 : 0 < r.2.length) (h2 : may r.2 = true) (h3 : ∀ p, prev = some p → p < r.1) : errN prev r = 0 := by
  unfold errN
  rw [if_neg (by rintro (h | h); omega; rw [h2] at h; cases h), if_neg]
  cases prev with
  | none => simp
  | some p => have := h3 p rfl; simp; omega
theorem newG_all : ∀ (l : List RwD) (prev : Option Nat), GOk l → (∀ p, prev = some p → ∀ r ∈ l, p < r.1) → newG prev l = 0
  | [], _, _, _ => rfl
  | r :: l, prev, h, hp => by
    obtain ⟨h1, h2⟩ := List.pairwise_cons.1 h.srcs
    obtain ⟨h3, h4⟩ := h.full r List.mem_cons_self
    rw [newG, if_pos (errN_zero h3 h4 fun p e => hp p e r List.mem_cons_self)]
    refine newG_all l _ ⟨h2, fun s hs => h.full s (List.mem_cons_of_mem _ hs)⟩ fun p e s hs => ?_
    injection e with e
    subst e
    exact h1 s hs
theorem GOk.new {l : List RwD} (h : GOk l) : newG none l = 0 := newG_all l none h fun _ e => by cases e
/-- All arcs. -/
def edsR (r : RwD) : List EdD := r.2.map fun a => ⟨r.1, a.to, a.weight⟩
def edgesG (l : List RwD) : List EdD := l.flatMap edsR
theorem edgesG_append (l m : List RwD) : edgesG (l ++ m) = edgesG l ++ edgesG m := List.flatMap_append
theorem edgesG_snoc (l : List RwD) (r : RwD) : edgesG (l ++ [r]) = edgesG l ++ edsR r := by rw [edgesG_append]; simp [edgesG]
theorem wt_row (f t s : Nat) : ∀ A : List ArcR, wt f t (edsR (s, arcM A)) = if s = f then wtA t A else 0
  | [] => by simp [edsR, arcM, wt, wtA]
  | a :: A => by
    have h1 : edsR (s, arcM (a :: A)) = edsR (s, arcM A) ++ [⟨s, a.dst, a.wgt⟩] := by
      unfold edsR
      rw [arcM_cons, List.map_append]
      rfl
    rw [h1, wt_append, wt_row f t s A, wtA]
    simp only [wt]
    by_cases hs : s = f <;> by_cases hd : a.dst = t <;> simp [hs, hd] <;> omega
theorem wf_row (f s : Nat) : ∀ A : List ArcR, wf f (edsR (s, arcM A)) = if s = f then sumA A else 0
  | [] => by simp [edsR, arcM, wf, sumA]
  | a :: A => by
    have h1 : edsR (s, arcM (a :: A)) = edsR (s, arcM A) ++ [⟨s, a.dst, a.wgt⟩] := by
      unfold edsR
      rw [arcM_cons, List.map_append]
      rfl
    rw [h1, wf_append, wf_row f s A]
    simp only [wf, sumA, List.map_cons, List.sum_cons]
    by_cases hs : s = f <;> simp [hs] <;> omega
theorem wt_rows (f t : Nat) : ∀ R : List RowR, wt f t (edgesG (rowM R)) = wtR f t R
  | [] => rfl
  | r :: R => by
    rw [rowM_cons, edgesG_snoc, wt_append, wt_rows f t R, wt_row, wtR]
    omega
theorem wf_rows (f : Nat) : ∀ R : List RowR, wf f (edgesG (rowM R)) = wfR f R
  | [] => rfl
  | r :: R => by
    rw [rowM_cons, edgesG_snoc, wf_append, wf_rows f R, wf_row, wfR]
    omega
/-- The graph of edges, the last row first; or the error. -/
def ofG (l : List EdD) : List RowR × Int := if l.any (fun x => decide (x.wgt = 0)) = true then ([], 9) else rowsG [] none (sortE l)
theorem any_zero {l : List EdD} : l.any (fun x => decide (x.wgt = 0)) = false ↔ ∀ x ∈ l, 0 < x.wgt := by
  rw [List.any_eq_false]
  exact ⟨fun h x hx => Nat.pos_of_ne_zero fun e => h x hx (decide_eq_true e), fun h x hx e => by have := h x hx; have := of_decide_eq_true e; omega⟩
theorem ofG_cases (l : List EdD) : (ofG l = ([], 9) ∧ ¬ ∀ x ∈ l, 0 < x.wgt) ∨ ((∀ x ∈ l, 0 < x.wgt) ∧ ((ofG l = ([], 10)) ∨ ∃ R, ofG l = (R, 0) ∧ RowsOk R ∧ (∀ f t, wtR f t R = wt f t l) ∧ (∀ f, wfR f R = wf f l) ∧ ∀ f, wf f l ≤ 2147483647)) := by
  unfold ofG
  cases h : l.any (fun x => decide (x.wgt = 0)) with
  | true => exact .inl ⟨rfl, fun hh => by rw [any_zero.2 hh] at h; cases h⟩
  | false =>
    have hp := any_zero.1 h
    refine .inr ⟨hp, ?_⟩
    rcases rows_sort l hp with ⟨R, h1, h2⟩ | ⟨h1, -⟩
    · exact .inr ⟨R, h1, h2⟩
    · exact .inl h1
theorem ofG_bad {l : List EdD} (h : (ofG l).2 ≠ 0) : (ofG l).1 = [] := by
  rcases ofG_cases l with ⟨e, -⟩ | ⟨-, e | ⟨R, e, -⟩⟩
  · rw [e]
  · rw [e]
  · rw [e] at h; exact absurd rfl h
/-- What comes out is a graph, and has the weights of the edges. -/
structure OfOk (l : List EdD) (R : List RowR) : Prop where
  pos : ∀ x ∈ l, 0 < x.wgt
  rows : RowsOk R
  wt : ∀ f t, wtR f t R = Mg.wt f t l
  wf : ∀ f, wfR f R = Mg.wf f l
  few : ∀ f, Mg.wf f l ≤ 2147483647
theorem ofG_good {l : List EdD} (h : (ofG l).2 = 0) : OfOk l (ofG l).1 := by
  rcases ofG_cases l with ⟨e, -⟩ | ⟨hp, e | ⟨R, e, h1, h2, h3, h4⟩⟩
  · rw [e] at h; exact absurd h (by decide)
  · rw [e] at h; exact absurd h (by decide)
  · rw [e]; exact ⟨hp, h1, h2, h3, h4⟩
theorem OfOk.graph {l : List EdD} {R : List RowR} (h : OfOk l R) : GOk (rowM R) := by
  refine ⟨?_, fun r hr => ?_⟩
  · unfold rowM
    rw [List.pairwise_reverse, List.pairwise_map]
    exact h.rows.srcs
  · have := (sums_ok h.pos h.rows h.wt h.wf h.few).may_ r hr
    exact ⟨this.2, this.1⟩
theorem edges_pos {R : List RowR} (h : RowsOk R) : ∀ x ∈ edgesG (rowM R), 0 < x.wgt := by
  intro x hx
  unfold edgesG at hx
  obtain ⟨r, hr, hx⟩ := List.mem_flatMap.1 hx
  unfold rowM at hr
  rw [List.mem_reverse, List.mem_map] at hr
  obtain ⟨q, hq, rfl⟩ := hr
  unfold edsR at hx
  obtain ⟨a, ha, rfl⟩ := List.mem_map.1 hx
  unfold arcM at ha
  rw [List.mem_reverse, List.mem_map] at ha
  obtain ⟨b, hb, rfl⟩ := ha
  exact h.pos q hq b hb
/-- The graph of a graph's edges. -/
theorem OfOk.again {l : List EdD} {R : List RowR} (h : OfOk l R) : ofG (edgesG (rowM R)) = (R, 0) := by
  have hp := edges_pos h.rows
  have hw : ∀ f, Mg.wf f (edgesG (rowM R)) ≤ 2147483647 := fun f => by rw [wf_rows, h.wf]; exact h.few f
  unfold ofG
  rw [if_neg (by rw [any_zero.2 hp]; decide)]
  rcases rows_sort _ hp with ⟨S, h1, h2, h3, -⟩ | ⟨-, f, h2⟩
  · rw [h1, RowsOk.one h2 h.rows fun f t => by rw [h3, wt_rows]]
  · exact absurd (hw f) (by omega)
theorem wt_perm {l m : List EdD} (h : l.Perm m) (f t : Nat) : Mg.wt f t l = Mg.wt f t m := by
  induction h with
  | nil => rfl
  | cons x _ ih => rw [Mg.wt, Mg.wt, ih]
  | swap x y l => simp only [Mg.wt]; omega
  | trans _ _ h1 h2 => exact h1.trans h2
theorem wf_perm {l m : List EdD} (h : l.Perm m) (f : Nat) : Mg.wf f l = Mg.wf f m := by
  induction h with
  | nil => rfl
  | cons x _ ih => rw [Mg.wf, Mg.wf, ih]
  | swap x y l => simp only [Mg.wf]; omega
  | trans _ _ h1 h2 => exact h1.trans h2
/-- The order is of no account. -/
theorem ofG_perm {l m : List EdD} (h : l.Perm m) : ofG l = ofG m := by
  have ha : l.any (fun x => decide (x.wgt = 0)) = m.any (fun x => decide (x.wgt = 0)) := by
    cases e : m.any (fun x => decide (x.wgt = 0)) with
    | false => exact any_zero.2 fun x hx => any_zero.1 e x (h.mem_iff.1 hx)
    | true =>
      obtain ⟨x, hx, hz⟩ := List.any_eq_true.1 e
      exact List.any_eq_true.2 ⟨x, h.mem_iff.2 hx, hz⟩
  unfold ofG
  rw [ha]
  cases e : m.any (fun x => decide (x.wgt = 0)) with
  | true => rfl
  | false =>
    have hm := any_zero.1 e
    have hl : ∀ x ∈ l, 0 < x.wgt := fun x hx => hm x (h.mem_iff.1 hx)
    exact rows_same hl hm (wt_perm h) (wf_perm h)
/-- A vertex's arcs; is there one? -/
def arcsG (l : List RwD) (v : Nat) : List ArcD := match l.find? (fun r => decide (r.1 = v)) with
  | some r => r.2
  | none => []
def nearG (l : List ArcD) (t : Nat) : Bool := l.any fun a => decide (a.to = t)
theorem arcsG_none {l : List RwD} {v : Nat} (h : ∀ r ∈ l, r.1 ≠ v) : arcsG l v = [] := by
  unfold arcsG
  rw [List.find?_eq_none.2 fun r hr => by simpa using h r hr]
theorem arcsG_first {l : List RwD} {v k : Nat} {r : RwD} (h : l[k]? = some r) (hv : r.1 = v) (hf : ∀ j s, j < k → l[j]? = some s → s.1 ≠ v) : arcsG l v = r.2 := by
  have h1 : l.find? (fun r => decide (r.1 = v)) = some r := by
    rw [List.find?_eq_some_iff_getElem]
    obtain ⟨hk, hr⟩ := List.getElem?_eq_some_iff.1 h
    exact ⟨decide_eq_true hv, k, hk, hr, fun j hj => by have := hf j l[j] hj (List.getElem?_eq_getElem _); simpa using this⟩
  unfold arcsG
  rw [h1]
theorem arcsG_mem {l : List RwD} {v : Nat} (h : arcsG l v ≠ []) : ∃ r ∈ l, r.1 = v ∧ arcsG l v = r.2 := by
  unfold arcsG at h ⊢
  cases e : l.find? (fun r => decide (r.1 = v)) with
  | none => rw [e] at h; exact absurd rfl h
  | some r => exact ⟨r, List.mem_of_find?_eq_some e, by simpa using List.find?_some e, rfl⟩
/-- Numbers, rising, with one more. -/
def withV (l : List Nat) (v : Nat) : List Nat := l.filter (fun x => decide (x < v)) ++ v :: l.filter (fun x => decide (v < x))
def vertsE (out : List Nat) (l : List EdD) : List Nat := l.foldl (fun out e => withV (withV out e.src) e.dst) out
theorem withV_mem {l : List Nat} {v x : Nat} : x ∈ withV l v ↔ x = v ∨ x ∈ l := by
  unfold withV
  simp only [List.mem_append, List.mem_cons, List.mem_filter, decide_eq_true_eq]
  constructor
  · rintro (h | h | h)
    · exact .inr h.1
    · exact .inl h
    · exact .inr h.1
  · rintro (h | h)
    · exact .inr (.inl h)
    · rcases Nat.lt_trichotomy x v with h1 | h1 | h1
      · exact .inl ⟨h, h1⟩
      · exact .inr (.inl h1)
      · exact .inr (.inr ⟨h, h1⟩)
theorem withV_rise {l : List Nat} {v : Nat} (h : l.Pairwise (· < ·)) : (withV l v).Pairwise (· < ·) := by
  unfold withV
  rw [List.pairwise_append, List.pairwise_cons]
  refine ⟨h.filter _, ⟨fun x hx => ?_, h.filter _⟩, fun x hx y hy => ?_⟩
  · simpa using (List.mem_filter.1 hx).2
  · have h1 : x < v := by simpa using (List.mem_filter.1 hx).2
    rcases List.mem_cons.1 hy with rfl | hy
    · exact h1
    · have h2 : v < y := by simpa using (List.mem_filter.1 hy).2
      omega
theorem vertsE_ok : ∀ (l : List EdD) (out : List Nat), out.Pairwise (· < ·) → (vertsE out l).Pairwise (· < ·) ∧ ∀ x, x ∈ vertsE out l ↔ x ∈ out ∨ ∃ e ∈ l, x = e.src ∨ x = e.dst
  | [], out, h => ⟨h, fun x => by simp [vertsE]⟩
  | e :: l, out, h => by
    obtain ⟨h1, h2⟩ := vertsE_ok l (withV (withV out e.src) e.dst) (withV_rise (withV_rise h))
    refine ⟨h1, fun x => (h2 x).trans ?_⟩
    rw [withV_mem, withV_mem]
    constructor
    · rintro ((h | h | h) | ⟨y, hy, h⟩)
      · exact .inr ⟨e, List.mem_cons_self, .inr h⟩
      · exact .inr ⟨e, List.mem_cons_self, .inl h⟩
      · exact .inl h
      · exact .inr ⟨y, List.mem_cons_of_mem _ hy, h⟩
    · rintro (h | ⟨y, hy, h⟩)
      · exact .inl (.inr (.inr h))
      · rcases List.mem_cons.1 hy with rfl | hy
        · rcases h with h | h
          · exact .inl (.inr (.inl h))
          · exact .inl (.inl h)
        · exact .inr ⟨y, hy, h⟩
/-- The ends of edges. -/
def endsE (l : List EdD) : List Nat := l.flatMap fun e => [e.src, e.dst]
theorem endsE_mem {l : List EdD} {x : Nat} : x ∈ endsE l ↔ ∃ e ∈ l, x = e.src ∨ x = e.dst := by
  unfold endsE
  rw [List.mem_flatMap]
  exact ⟨fun ⟨e, he, h⟩ => ⟨e, he, by simpa using h⟩, fun ⟨e, he, h⟩ => ⟨e, he, by simpa using h⟩⟩
theorem endsE_length : ∀ l : List EdD, (endsE l).length = 2 * l.length
  | [] => rfl
  | e :: l => by
    have := endsE_length l
    unfold endsE at this ⊢
    rw [List.flatMap_cons, List.length_append, this]
    simp
    omega
theorem rise_nat {l m : List Nat} (hl : l.Pairwise (· < ·)) (hm : m.Pairwise (· < ·)) (h : ∀ x, x ∈ l ↔ x ∈ m) : l = m := by
  have h1 := rise_one (fun x : Nat => x) (l := l.reverse) (m := m.reverse) (List.pairwise_reverse.2 hl) (List.pairwise_reverse.2 hm) (fun x => by rw [List.mem_reverse, List.mem_reverse]; exact h x)
  exact List.reverse_inj.1 h1
theorem verts_one {l : List EdD} {m : List Nat} (h1 : m.Pairwise (· < ·)) (h2 : ∀ x, x ∈ m ↔ x ∈ endsE l) : m = vertsE [] l :=
  rise_nat h1 (vertsE_ok l [] List.Pairwise.nil).1 fun x => by
    rw [h2, endsE_mem, (vertsE_ok l [] List.Pairwise.nil).2]
    simp
end Go.Proofs.Yteaibgnelnblnaa
end
section
namespace Go.Proofs.Yteaibgnelnblnaa
open Go.RowKit Me Tx Ed Mg Va

/-- Rows, or an error. -/
def KsPost (w : World) (q : List RowR × Int) (e : Ending) (w' : World) : Prop :=
  ∃ A n c, e = .returned (.tuple #[.slice A n c, .int .i64 q.2]) ∧ (rowM q.1).length = n ∧ n ≤ c ∧ c ≤ 9223372036854775807 ∧ RowsAt w' w.heap.size w'.heap.size A (rowM q.1) ∧ Below w.heap.size w w'
/-- An edge's cells. -/
abbrev edB3 (x : EdD) : List Value := [.int .u32 (x.src : Int), .int .u32 (x.dst : Int), .int .u32 (x.wgt : Int)]
/-- What is known of each slot where the last row is looked at. -/
def mkG (m cc Bx s xs : Nat) (q t : Bool) (L : Option Addr) (b : Addr) : Gw.Fact := fun k v _ =>
  match k with
  | 4 | 41 => v = .slice L m cc
  | 7 => v = .pointer (some ⟨Bx, 0, none⟩)
  | 42 => v = .int .i64 (m : Int)
  | 43 | 44 => v = .bool q
  | 45 | 46 => q = true → v = .slice L m cc
  | 47 => q = true → v = .int .i64 (m : Int)
  | 48 => q = true → v = .int .i64 ((m - 1 : Nat) : Int)
  | 49 | 50 => q = true → v = .pointer (some (b.add ((m - 1) * 2)))
  | 51 => q = true → v = .int .u32 (s : Int)
  | 52 => q = true → v = .pointer (some ⟨Bx, 0, none⟩)
  | 53 => q = true → v = .int .u32 (xs : Int)
  | 54 => q = true → v = .bool t
  | 55 => v = .bool (q && t)
  | _ => True
/-- What stands between the rounds. -/
structure KsI (w wr : World) (H n : Nat) (keys : List (List UInt8)) (k m cc : Nat) (L : Option Addr) (rows : List RowR) (last : Option EdD) : Prop where
  ok : KeysOk rows last k
  len : (rowM rows).length = m
  cap : m ≤ cc ∧ cc ≤ 9223372036854775807
  at_ : RowsAt wr (H + 2) wr.heap.size L (rowM rows)
  go : keysG [] none keys = keysG rows last (keys.drop k)
  box : Blk wr (H + 1) (edB3 (last.getD ⟨0, 0, 0⟩))
  low : Below w.heap.size w wr
end Go.Proofs.Yteaibgnelnblnaa
end
