/- Texts put together, for a law: MkS, MsQ, GqP, MkT. -/
import Derived.Test.YteaibgnelnblnaaKQ17
import Derived.Test.YteaibgnelnblnaaKQ7
import Derived.Test.YteaibgnelnblnaaKQ6
import Derived.Test.YteaibgnelnblnaaKQ2
section
namespace Go.Proofs.Yteaibgnelnblnaa
open Go.RowKit Me Tx Ed Mg Va

theorem sumOf_arcM : ∀ A : List ArcR, sumOf (arcM A) = sumA A
  | [] => rfl
  | a :: A => by
    rw [arcM_cons, sumOf_append, sumOf_arcM A]
    simp [sumOf, sumA]
    omega
/-- What holds of rows that keys have come to. -/
structure KeysOk (rows : List RowR) (last : Option EdD) (k : Nat) : Prop where
  few : rows.length ≤ k
  arcs : ∀ r ∈ rows, r.arcs ≠ [] ∧ r.arcs.length ≤ k
  none_ : last = none ↔ k = 0
  nil : rows = [] ↔ k = 0
  sum : ∀ r l, rows = r :: l → sumA r.arcs ≤ 2147483647
  fit : ∀ y, last = some y → FitE y
theorem addA_length (x : EdD) (A : List ArcR) : (addA x A).length ≤ A.length + 1 ∧ addA x A ≠ [] := by
  cases A with
  | nil => exact ⟨Nat.le_refl _, fun h => by cases h⟩
  | cons a A =>
    rw [addA]
    split
    · exact ⟨by simp, fun h => by cases h⟩
    · exact ⟨by simp, fun h => by cases h⟩
theorem KeysOk.start : KeysOk [] none 0 := ⟨Nat.le_refl _, (fun r hr => by cases hr), ⟨fun _ => rfl, fun _ => rfl⟩, ⟨fun _ => rfl, fun _ => rfl⟩, (fun r l h => by cases h), (fun y h => by cases h)⟩
theorem KeysOk.next {rows : List RowR} {last : Option EdD} {k : Nat} {x : EdD} (h : KeysOk rows last k) (hx : FitE x) (hs : hasR x rows + x.wgt ≤ 2147483647) : KeysOk (addR x rows) (some x) (k + 1) := by
  refine ⟨Nat.le_trans (addR_length x rows) (Nat.succ_le_succ h.few), fun r hr => ?_, ⟨fun e => by (cases e), fun e => by omega⟩, ⟨fun e => absurd e (addR_ne x rows), fun e => by omega⟩, fun r l e => ?_, fun y e => by injection e with e; rw [← e]; exact hx⟩
  · cases rows with
    | nil =>
      rw [addR, List.mem_singleton] at hr
      subst hr
      exact ⟨by simp, by simp⟩
    | cons r0 l =>
      rw [addR] at hr
      split at hr
      · rcases List.mem_cons.1 hr with e | e
        · subst e
          have h1 := addA_length x r0.arcs
          have h2 := (h.arcs r0 List.mem_cons_self).2
          exact ⟨h1.2, by show (addA x r0.arcs).length ≤ _; omega⟩
        · have := h.arcs r (List.mem_cons_of_mem _ e)
          exact ⟨this.1, by omega⟩
      · rcases List.mem_cons.1 hr with e | e
        · subst e
          exact ⟨by simp, by simp⟩
        · have := h.arcs r e
          exact ⟨this.1, by omega⟩
  · cases rows with
    | nil =>
      rw [addR] at e
      injection e with e
      subst e
      simp only [hasR, sumA] at hs ⊢
      simpa using hs
    | cons r0 l0 =>
      rw [addR] at e
      rw [hasR] at hs
      split at e
      · rename_i h0
        injection e with e
        subst e
        rw [if_pos h0] at hs
        show sumA (addA x r0.arcs) ≤ _
        rw [sumA_add]
        exact hs
      · rename_i h0
        injection e with e
        subst e
        rw [if_neg h0] at hs
        simp only [sumA]
        simpa using hs
/-- An edge more. -/
theorem mwith_any (L : Option Addr) (n c : Nat) (rows : List RowR) (x : EdD) (hx : FitE x) (w : World) {last : Option EdD} {k : Nat} (hl : (rowM rows).length = n) (hcap : n ≤ c) (hk : KeysOk rows last k) (hkk : k ≤ 1000) (hov : hasR x rows + x.wgt ≤ 2147483647) {lo : Nat} (hlo : lo ≤ w.heap.size) (h : RowsAt w lo w.heap.size L (rowM rows)) :
    Calls Try.prog 54 #[.slice L n c, Ed.agg x] w (MwPost w lo (addR x rows)) := by
  have hn : n ≤ 100000 := by rw [← hl, rowM_length]; have := hk.few; omega
  cases rows with
  | nil => exact mwith_new L n c [] x hx w hl hn hlo h (fun r l e => by cases e)
  | cons r l =>
    by_cases hs : r.src = x.src
    · have ha := hk.arcs r List.mem_cons_self
      obtain ⟨a0, A0, hra⟩ : ∃ a0 A0, r.arcs = a0 :: A0 := by
        cases hr : r.arcs with
        | nil => exact absurd hr ha.1
        | cons a A => exact ⟨a, A, rfl⟩
      refine mwith_same L n c r l a0 A0 hra x hx w hl hn hcap (by omega) ?_ hlo h hs
      rw [hasR, if_pos hs, hra] at hov
      have : a0.wgt ≤ sumA (a0 :: A0) := by simp [sumA]
      omega
    · exact mwith_new L n c (r :: l) x hx w hl hn hlo h (fun r' l' e => by injection e with e1 e2; subst e1; exact hs)
end Go.Proofs.Yteaibgnelnblnaa
end
section
namespace Go.Proofs.Yteaibgnelnblnaa
open Go.RowKit Me Tx Ed Mg Va

/-- Is there a vertex that has too much, among the first ones? -/
def overE (l : List EdD) (k : Nat) : Bool := (l.take k).any fun x => decide (2147483647 < wf x.src l)
/-! The pairs of vertices. -/
theorem nodup_len {α : Type} : ∀ {a b : List α}, a.Nodup → b.Nodup → (∀ x, x ∈ a ↔ x ∈ b) → a.length = b.length
  | [], b, _, _, h => by
    cases b with
    | nil => rfl
    | cons y b => exact absurd ((h y).2 List.mem_cons_self) (by simp)
  | x :: a, b, ha, hb, h => by
    obtain ⟨b1, b2, rfl⟩ := List.append_of_mem ((h x).1 List.mem_cons_self)
    have ha' := List.nodup_cons.1 ha
    have hb' : (x :: (b1 ++ b2)).Nodup := (List.perm_middle.nodup_iff).1 hb
    have hb2 := List.nodup_cons.1 hb'
    have ih := nodup_len ha'.2 hb2.2 (fun y => by
      have := h y
      constructor
      · intro hy
        have h1 := this.1 (List.mem_cons_of_mem _ hy)
        have hne : y ≠ x := fun e => ha'.1 (e ▸ hy)
        simp only [List.mem_append, List.mem_cons] at h1 ⊢
        rcases h1 with h1 | h1 | h1
        · exact .inl h1
        · exact absurd h1 hne
        · exact .inr h1
      · intro hy
        have hne : y ≠ x := fun e => hb2.1 (e ▸ hy)
        have h1 := this.2 (by
          simp only [List.mem_append, List.mem_cons] at hy ⊢
          rcases hy with h | h
          · exact .inl h
          · exact .inr (.inr h))
        rcases List.mem_cons.1 h1 with h1 | h1
        · exact absurd h1 hne
        · exact h1)
    rw [List.length_cons, ih]
    simp only [List.length_append, List.length_cons]
    omega
/-- The pair of an edge is new behind others. -/
def fresh (l : List EdD) (x : EdD) : Bool := l.all fun y => y.src != x.src || y.dst != x.dst
/-- How many pairs there are. -/
def dis : List EdD → List (Nat × Nat)
  | l => l.foldl (fun acc x => if (x.src, x.dst) ∈ acc then acc else (x.src, x.dst) :: acc) []
theorem dis_nil : dis [] = [] := rfl
theorem dis_snoc (l : List EdD) (x : EdD) : dis (l ++ [x]) = if (x.src, x.dst) ∈ dis l then dis l else (x.src, x.dst) :: dis l := by
  unfold dis
  rw [List.foldl_append]
  rfl
theorem dis_all (l : List EdD) : (dis l).Nodup ∧ ∀ f t, (f, t) ∈ dis l ↔ ∃ x ∈ l, x.src = f ∧ x.dst = t := by
  have key : ∀ k, k ≤ l.length → (dis (l.take k)).Nodup ∧ ∀ f t, (f, t) ∈ dis (l.take k) ↔ ∃ x ∈ l.take k, x.src = f ∧ x.dst = t := by
    intro k
    induction k with
    | zero => intro _; simp [dis_nil]
    | succ k ih =>
      intro hk
      obtain ⟨h1, h2⟩ := ih (by omega)
      have hx : l[k]? = some l[k] := List.getElem?_eq_getElem (by omega)
      rw [List.take_add_one, hx]
      show (dis (l.take k ++ [l[k]])).Nodup ∧ ∀ f t, (f, t) ∈ dis (l.take k ++ [l[k]]) ↔ ∃ x ∈ l.take k ++ [l[k]], x.src = f ∧ x.dst = t
      rw [dis_snoc]
      split
      · rename_i hm
        refine ⟨h1, fun f t => ⟨fun h => ?_, fun h => ?_⟩⟩
        · obtain ⟨x, hx, hp⟩ := (h2 f t).1 h
          exact ⟨x, List.mem_append_left _ hx, hp⟩
        · obtain ⟨x, hx, hp⟩ := h
          rcases List.mem_append.1 hx with hx | hx
          · exact (h2 f t).2 ⟨x, hx, hp⟩
          · rw [List.mem_singleton.1 hx] at hp
            rw [← hp.1, ← hp.2]
            exact hm
      · rename_i hm
        refine ⟨List.nodup_cons.2 ⟨hm, h1⟩, fun f t => ⟨fun h => ?_, fun h => ?_⟩⟩
        · rcases List.mem_cons.1 h with h | h
          · injection h with ha hb
            exact ⟨l[k], List.mem_append_right _ List.mem_cons_self, ha.symm, hb.symm⟩
          · obtain ⟨x, hx, hp⟩ := (h2 f t).1 h
            exact ⟨x, List.mem_append_left _ hx, hp⟩
        · obtain ⟨x, hx, hp⟩ := h
          rcases List.mem_append.1 hx with hx | hx
          · exact List.mem_cons_of_mem _ ((h2 f t).2 ⟨x, hx, hp⟩)
          · rw [List.mem_singleton.1 hx] at hp
            rw [← hp.1, ← hp.2]
            exact List.mem_cons_self
  have := key l.length (Nat.le_refl _)
  rwa [List.take_length] at this
/-- Where edges have weights, a pair has some just if an edge has it. -/
theorem wt_pos {f t : Nat} : ∀ {l : List EdD}, (∀ x ∈ l, 0 < x.wgt) → (0 < wt f t l ↔ ∃ x ∈ l, x.src = f ∧ x.dst = t)
  | [], _ => by simp [wt]
  | x :: l, h => by
    have ih := wt_pos (f := f) (t := t) (l := l) (fun y hy => h y (List.mem_cons_of_mem _ hy))
    have hx := h x List.mem_cons_self
    rw [wt]
    by_cases hq : x.src = f ∧ x.dst = t
    · rw [if_pos hq]
      exact ⟨fun _ => ⟨x, List.mem_cons_self, hq⟩, fun _ => by omega⟩
    · rw [if_neg hq, Nat.zero_add, ih]
      constructor
      · rintro ⟨y, hy, hp⟩; exact ⟨y, List.mem_cons_of_mem _ hy, hp⟩
      · rintro ⟨y, hy, hp⟩
        rcases List.mem_cons.1 hy with rfl | hy
        · exact absurd hp hq
        · exact ⟨y, hy, hp⟩
/-- The pairs of rows. -/
def pairsR (R : List RowR) : List (Nat × Nat) := R.flatMap fun r => r.arcs.map fun a => (r.src, a.dst)
theorem pairs_mem {R : List RowR} (h : RowsOk R) (f t : Nat) : (f, t) ∈ pairsR R ↔ 0 < wtR f t R := by
  unfold pairsR
  rw [List.mem_flatMap]
  constructor
  · rintro ⟨r, hr, ha⟩
    rw [List.mem_map] at ha
    obtain ⟨a, ha, e⟩ := ha
    injection e with e1 e2
    subst e1 e2
    obtain ⟨h1, h2⟩ := (h.arc hr a).1 ha
    omega
  · intro hw
    by_cases hx : ∃ r ∈ R, r.src = f
    · obtain ⟨r, hr, rfl⟩ := hx
      refine ⟨r, hr, ?_⟩
      rw [wtR_mem h.srcs hr rfl] at hw
      rw [List.mem_map]
      by_cases hy : ∃ a ∈ r.arcs, a.dst = t
      · obtain ⟨a, ha, rfl⟩ := hy
        exact ⟨a, ha, rfl⟩
      · rw [wtA_zero (fun a ha e => hy ⟨a, ha, e⟩)] at hw
        omega
    · rw [wtR_zero (fun r hr e => hx ⟨r, hr, e⟩)] at hw
      omega
theorem pairs_row (s : Nat) : ∀ {A : List ArcR}, (A.Pairwise fun a b => b.dst < a.dst) → (A.map fun a => (s, a.dst)).Nodup
  | [], _ => by simp
  | a :: A, h => by
    obtain ⟨h1, h2⟩ := List.pairwise_cons.1 h
    rw [List.map_cons, List.nodup_cons]
    refine ⟨fun hm => ?_, pairs_row s h2⟩
    rw [List.mem_map] at hm
    obtain ⟨b, hb, e⟩ := hm
    injection e with _ e
    have := h1 b hb
    omega
theorem pairs_nodup : ∀ {R : List RowR}, (R.Pairwise fun a b => b.src < a.src) → (∀ r ∈ R, r.arcs.Pairwise fun a b => b.dst < a.dst) → (pairsR R).Nodup
  | [], _, _ => by simp [pairsR]
  | r :: R, h, k => by
    obtain ⟨h1, h2⟩ := List.pairwise_cons.1 h
    have ih := pairs_nodup h2 (fun q hq => k q (List.mem_cons_of_mem _ hq))
    show ((r.arcs.map fun a => (r.src, a.dst)) ++ pairsR R).Nodup
    rw [List.nodup_append]
    refine ⟨pairs_row _ (k r List.mem_cons_self), ih, fun p hp q hq e => ?_⟩
    subst e
    rw [List.mem_map] at hp
    obtain ⟨a, ha, rfl⟩ := hp
    unfold pairsR at hq
    rw [List.mem_flatMap] at hq
    obtain ⟨s, hs, hq⟩ := hq
    rw [List.mem_map] at hq
    obtain ⟨b, hb, e⟩ := hq
    injection e with e1 e2
    have := h1 s hs
    omega
/-- How many arcs rows have. -/
def cntR (L : List RwD) : Nat := (L.map fun r => r.2.length).sum
theorem cnt_append (a b : List RwD) : cntR (a ++ b) = cntR a + cntR b := by simp [cntR]
theorem cnt_rowM : ∀ R : List RowR, cntR (rowM R) = (pairsR R).length
  | [] => rfl
  | r :: R => by
    rw [rowM_cons, cnt_append, cnt_rowM R]
    show _ = ((r.arcs.map fun a => (r.src, a.dst)) ++ pairsR R).length
    rw [List.length_append, List.length_map]
    simp [cntR, arcM_length]
    omega
/-- Arcs that rise, the last one first. -/
theorem rises_arcQ : ∀ {A : List ArcR}, (A.Pairwise fun a b => b.dst < a.dst) → (∀ a ∈ A, 0 < a.wgt) → rises 0 (arcM A) = true ∧ ∀ a A', A = a :: A' → leastOf (arcM A) = a.dst + 1
  | [], _, _ => ⟨rfl, fun a A' h => by cases h⟩
  | a :: A, h, hp => by
    obtain ⟨h1, h2⟩ := List.pairwise_cons.1 h
    obtain ⟨i1, i2⟩ := rises_arcQ h2 (fun b hb => hp b (List.mem_cons_of_mem _ hb))
    rw [arcM_cons]
    refine ⟨?_, fun b A' e => by injection e with e1 e2; subst e1; exact leastOf_snoc _ _⟩
    rw [rises_snoc, i1]
    have h3 := hp a List.mem_cons_self
    have h4 : leastOf (arcM A) ≤ a.dst := by
      cases A with
      | nil => exact Nat.zero_le _
      | cons b A =>
        rw [i2 b A rfl]
        have := h1 b List.mem_cons_self
        omega
    simp
    omega
/-- What the law asks of rows. -/
structure SumsOk (l : List EdD) (L : List RwD) : Prop where
  may_ : ∀ r ∈ L, may r.2 = true ∧ 0 < r.2.length
  rise : ∀ i r s, L[i]? = some r → L[i + 1]? = some s → r.1 < s.1
  sums : ∀ r ∈ L, ∀ a ∈ r.2, wt r.1 a.to l = a.weight
  num : cntR L = (dis l).length
theorem rise_rowM : ∀ {R : List RowR}, (R.Pairwise fun a b => b.src < a.src) → ∀ (i : Nat) (r s : RwD), (rowM R)[i]? = some r → (rowM R)[i + 1]? = some s → r.1 < s.1
  | [], _, i, r, s, h, _ => by simp [rowM] at h
  | q :: R, h, i, r, s, hi, hj => by
    obtain ⟨h1, h2⟩ := List.pairwise_cons.1 h
    rw [rowM_cons] at hi hj
    have hlt : i + 1 < (rowM R).length + 1 := by
      have := (List.getElem?_eq_some_iff.1 hj).1
      rw [List.length_append] at this
      simpa using this
    rw [List.getElem?_append_left (by omega)] at hi
    by_cases he : i + 1 = (rowM R).length
    · rw [List.getElem?_append_right (by omega), he, Nat.sub_self] at hj
      injection hj with hj
      subst hj
      have hm := List.mem_of_getElem? hi
      unfold rowM at hm
      rw [List.mem_reverse, List.mem_map] at hm
      obtain ⟨p, hp, rfl⟩ := hm
      exact h1 p hp
    · rw [List.getElem?_append_left (by omega)] at hj
      exact rise_rowM h2 i r s hi hj
theorem sums_ok {l : List EdD} {R : List RowR} (hp : ∀ x ∈ l, 0 < x.wgt) (hR : RowsOk R) (h1 : ∀ f t, wtR f t R = wt f t l) (h2 : ∀ f, wfR f R = wf f l) (h3 : ∀ f, wf f l ≤ 2147483647) : SumsOk l (rowM R) := by
  refine ⟨fun r hr => ?_, rise_rowM hR.srcs, fun r hr a ha => ?_, ?_⟩
  · unfold rowM at hr
    rw [List.mem_reverse, List.mem_map] at hr
    obtain ⟨q, hq, rfl⟩ := hr
    refine ⟨?_, ?_⟩
    · unfold may
      rw [(rises_arcQ (hR.dsts q hq) (hR.pos q hq)).1, sumOf_arcM, Bool.true_and, decide_eq_true_eq]
      have hle : ∀ {R : List RowR}, (R.Pairwise fun a b => b.src < a.src) → q ∈ R → sumA q.arcs ≤ wfR q.src R := fun {R} _ hm => by
        induction R with
        | nil => cases hm
        | cons p R ih =>
          rw [wfR]
          rcases List.mem_cons.1 hm with rfl | hm
          · rw [if_pos rfl]; omega
          · have := ih (List.pairwise_cons.1 ‹_›).2 hm
            omega
      have := hle hR.srcs hq
      rw [h2] at this
      exact Nat.le_trans this (h3 _)
    · show 0 < (arcM q.arcs).length
      rw [arcM_length]
      exact List.length_pos_iff.2 (hR.full q hq)
  · unfold rowM at hr
    rw [List.mem_reverse, List.mem_map] at hr
    obtain ⟨q, hq, rfl⟩ := hr
    have ha' : a ∈ (q.arcs.map fun a => (⟨a.dst, a.wgt⟩ : ArcD)).reverse := ha
    rw [List.mem_reverse, List.mem_map] at ha'
    obtain ⟨b, hb, rfl⟩ := ha'
    rw [← h1]
    exact ((hR.arc hq b).1 hb).2
  · rw [cnt_rowM]
    refine nodup_len (pairs_nodup hR.srcs hR.dsts) (dis_all l).1 (fun p => ?_)
    obtain ⟨f, t⟩ := p
    rw [pairs_mem hR, h1, wt_pos hp, (dis_all l).2]
end Go.Proofs.Yteaibgnelnblnaa
end
section
namespace Go.Proofs.Yteaibgnelnblnaa
open Go.RowKit Me Tx Ed Mg Va

/-- The error of a row behind another one; the first error of rows. -/
def errN (prev : Option Nat) (r : RwD) : Int :=
  if r.2.length = 0 ∨ may r.2 = false then 3 else if (match prev with | some p => decide (r.1 ≤ p) | none => false) = true then 13 else 0
def newG (prev : Option Nat) : List RwD → Int
  | [] => 0
  | r :: l => if errN prev r = 0 then newG (some r.1) l else errN prev r
/-- The vertex of the last row. -/
def lastN (l : List RwD) : Option Nat := l.getLast?.map Prod.fst
/-- Rows are a graph. -/
structure GOk (l : List RwD) : Prop where
  srcs : l.Pairwise fun a b => a.1 < b.1
  full : ∀ r ∈ l, 0 < r.2.length ∧ may r.2 = true
theorem GOk.nil : GOk [] := ⟨List.Pairwise.nil, fun _ h => by cases h⟩
theorem errN_zero {prev : Option Nat} {r : RwD} (h1 : 0 < r.2.length) (h2 : may r.2 = true) (h3 : ∀ p, prev = some p → p < r.1) : errN prev r = 0 := by
  unfold errN
  rw [if_neg (by rintro (h | h); omega; rw [h2] at h; cases h), if_neg]
  cases prev with
  | none => simp
  | some p => have := h3 p rfl; simp; omega
theorem newG_all : ∀ (l : List RwD) (prev : Option Nat), GOk l → (∀ p, prev = some p → ∀ r ∈ l, p < r.1) → newG prev l = 0
  | [], _, _, _ => rfl
  | r :: l, prev, h, hp => by
    obtain ⟨h1, h2⟩ := List.pairwise_cons.1 h.srcs
    obtain ⟨h3, h4⟩ := h.full r List.mem_cons_self
    rw [newG, if_pos (errN_zero h3 h4 fun p e => hp p e r List.mem_cons_self)]
    refine newG_all l _ ⟨h2, fun s hs => h.full s (List.mem_cons_of_mem _ hs)⟩ fun p e s hs => ?_
    injection e with e
    subst e
    exact h1 s hs
theorem GOk.new {l : List RwD} (h : GOk l) : newG none l = 0 := newG_all l none h fun _ e => by cases e
/-- All arcs. -/
def edsR (r : RwD) : List EdD := r.2.map fun a => ⟨r.1, a.to, a.weight⟩
def edgesG (l : List RwD) : List EdD := l.flatMap edsR
theorem edgesG_append (l m : List RwD) : edgesG (l ++ m) = edgesG l ++ edgesG m := List.flatMap_append
theorem edgesG_snoc (l : List RwD) (r : RwD) : edgesG (l ++ [r]) = edgesG l ++ edsR r := by rw [edgesG_append]; simp [edgesG]
/-- The graph of edges, the last row first; or the error. -/
def ofG (l : List EdD) : List RowR × Int := if l.any (fun x => decide (x.wgt = 0)) = true then ([], 9) else rowsG [] none (sortE l)
theorem any_zero {l : List EdD} : l.any (fun x => decide (x.wgt = 0)) = false ↔ ∀ x ∈ l, 0 < x.wgt := by
  rw [List.any_eq_false]
  exact ⟨fun h x hx => Nat.pos_of_ne_zero fun e => h x hx (decide_eq_true e), fun h x hx e => by have := h x hx; have := of_decide_eq_true e; omega⟩
theorem ofG_cases (l : List EdD) : (ofG l = ([], 9) ∧ ¬ ∀ x ∈ l, 0 < x.wgt) ∨ ((∀ x ∈ l, 0 < x.wgt) ∧ ((ofG l = ([], 10)) ∨ ∃ R, ofG l = (R, 0) ∧ RowsOk R ∧ (∀ f t, wtR f t R = wt f t l) ∧ (∀ f, wfR f R = wf f l) ∧ ∀ f, wf f l ≤ 2147483647)) := by
  unfold ofG
  cases h : l.any (fun x => decide (x.wgt = 0)) with
  | true => exact .inl ⟨rfl, fun hh => by rw [any_zero.2 hh] at h; cases h⟩
  | false =>
    have hp := any_zero.1 h
    refine .inr ⟨hp, ?_⟩
    rcases rows_sort l hp with ⟨R, h1, h2⟩ | ⟨h1, -⟩
    · exact .inr ⟨R, h1, h2⟩
    · exact .inl h1
theorem ofG_bad {l : List EdD} (h : (ofG l).2 ≠ 0) : (ofG l).1 = [] := by
  rcases ofG_cases l with ⟨e, -⟩ | ⟨-, e | ⟨R, e, -⟩⟩
  · rw [e]
  · rw [e]
  · rw [e] at h; exact absurd rfl h
/-- What comes out is a graph, and has the weights of the edges. -/
structure OfOk (l : List EdD) (R : List RowR) : Prop where
  pos : ∀ x ∈ l, 0 < x.wgt
  rows : RowsOk R
  wt : ∀ f t, wtR f t R = Mg.wt f t l
  wf : ∀ f, wfR f R = Mg.wf f l
  few : ∀ f, Mg.wf f l ≤ 2147483647
theorem ofG_good {l : List EdD} (h : (ofG l).2 = 0) : OfOk l (ofG l).1 := by
  rcases ofG_cases l with ⟨e, -⟩ | ⟨hp, e | ⟨R, e, h1, h2, h3, h4⟩⟩
  · rw [e] at h; exact absurd h (by decide)
  · rw [e] at h; exact absurd h (by decide)
  · rw [e]; exact ⟨hp, h1, h2, h3, h4⟩
theorem OfOk.graph {l : List EdD} {R : List RowR} (h : OfOk l R) : GOk (rowM R) := by
  refine ⟨?_, fun r hr => ?_⟩
  · unfold rowM
    rw [List.pairwise_reverse, List.pairwise_map]
    exact h.rows.srcs
  · have := (sums_ok h.pos h.rows h.wt h.wf h.few).may_ r hr
    exact ⟨this.2, this.1⟩
/-- A vertex's arcs; is there one? -/
def arcsG (l : List RwD) (v : Nat) : List ArcD := match l.find? (fun r => decide (r.1 = v)) with
  | some r => r.2
  | none => []
def nearG (l : List ArcD) (t : Nat) : Bool := l.any fun a => decide (a.to = t)
theorem arcsG_none {l : List RwD} {v : Nat} (h : ∀ r ∈ l, r.1 ≠ v) : arcsG l v = [] := by
  unfold arcsG
  rw [List.find?_eq_none.2 fun r hr => by simpa using h r hr]
theorem arcsG_first {l : List RwD} {v k : Nat} {r : RwD} (h : l[k]? = some r) (hv : r.1 = v) (hf : ∀ j s, j < k → l[j]? = some s → s.1 ≠ v) : arcsG l v = r.2 := by
  have h1 : l.find? (fun r => decide (r.1 = v)) = some r := by
    rw [List.find?_eq_some_iff_getElem]
    obtain ⟨hk, hr⟩ := List.getElem?_eq_some_iff.1 h
    exact ⟨decide_eq_true hv, k, hk, hr, fun j hj => by have := hf j l[j] hj (List.getElem?_eq_getElem _); simpa using this⟩
  unfold arcsG
  rw [h1]
theorem arcsG_mem {l : List RwD} {v : Nat} (h : arcsG l v ≠ []) : ∃ r ∈ l, r.1 = v ∧ arcsG l v = r.2 := by
  unfold arcsG at h ⊢
  cases e : l.find? (fun r => decide (r.1 = v)) with
  | none => rw [e] at h; exact absurd rfl h
  | some r => exact ⟨r, List.mem_of_find?_eq_some e, by simpa using List.find?_some e, rfl⟩
/-- Numbers, rising, with one more. -/
def withV (l : List Nat) (v : Nat) : List Nat := l.filter (fun x => decide (x < v)) ++ v :: l.filter (fun x => decide (v < x))
def vertsE (out : List Nat) (l : List EdD) : List Nat := l.foldl (fun out e => withV (withV out e.src) e.dst) out
theorem withV_mem {l : List Nat} {v x : Nat} : x ∈ withV l v ↔ x = v ∨ x ∈ l := by
  unfold withV
  simp only [List.mem_append, List.mem_cons, List.mem_filter, decide_eq_true_eq]
  constructor
  · rintro (h | h | h)
    · exact .inr h.1
    · exact .inl h
    · exact .inr h.1
  · rintro (h | h)
    · exact .inr (.inl h)
    · rcases Nat.lt_trichotomy x v with h1 | h1 | h1
      · exact .inl ⟨h, h1⟩
      · exact .inr (.inl h1)
      · exact .inr (.inr ⟨h, h1⟩)
theorem withV_rise {l : List Nat} {v : Nat} (h : l.Pairwise (· < ·)) : (withV l v).Pairwise (· < ·) := by
  unfold withV
  rw [List.pairwise_append, List.pairwise_cons]
  refine ⟨h.filter _, ⟨fun x hx => ?_, h.filter _⟩, fun x hx y hy => ?_⟩
  · simpa using (List.mem_filter.1 hx).2
  · have h1 : x < v := by simpa using (List.mem_filter.1 hx).2
    rcases List.mem_cons.1 hy with rfl | hy
    · exact h1
    · have h2 : v < y := by simpa using (List.mem_filter.1 hy).2
      omega
theorem vertsE_snoc (out : List Nat) (l : List EdD) (e : EdD) : vertsE out (l ++ [e]) = withV (withV (vertsE out l) e.src) e.dst := by
  unfold vertsE
  rw [List.foldl_append]
  rfl
theorem vertsE_ok : ∀ (l : List EdD) (out : List Nat), out.Pairwise (· < ·) → (vertsE out l).Pairwise (· < ·) ∧ ∀ x, x ∈ vertsE out l ↔ x ∈ out ∨ ∃ e ∈ l, x = e.src ∨ x = e.dst
  | [], out, h => ⟨h, fun x => by simp [vertsE]⟩
  | e :: l, out, h => by
    obtain ⟨h1, h2⟩ := vertsE_ok l (withV (withV out e.src) e.dst) (withV_rise (withV_rise h))
    refine ⟨h1, fun x => (h2 x).trans ?_⟩
    rw [withV_mem, withV_mem]
    constructor
    · rintro ((h | h | h) | ⟨y, hy, h⟩)
      · exact .inr ⟨e, List.mem_cons_self, .inr h⟩
      · exact .inr ⟨e, List.mem_cons_self, .inl h⟩
      · exact .inl h
      · exact .inr ⟨y, List.mem_cons_of_mem _ hy, h⟩
    · rintro (h | ⟨y, hy, h⟩)
      · exact .inl (.inr (.inr h))
      · rcases List.mem_cons.1 hy with rfl | hy
        · rcases h with h | h
          · exact .inl (.inr (.inl h))
          · exact .inl (.inl h)
        · exact .inr ⟨y, hy, h⟩
/-- The ends of edges. -/
def endsE (l : List EdD) : List Nat := l.flatMap fun e => [e.src, e.dst]
theorem endsE_mem {l : List EdD} {x : Nat} : x ∈ endsE l ↔ ∃ e ∈ l, x = e.src ∨ x = e.dst := by
  unfold endsE
  rw [List.mem_flatMap]
  exact ⟨fun ⟨e, he, h⟩ => ⟨e, he, by simpa using h⟩, fun ⟨e, he, h⟩ => ⟨e, he, by simpa using h⟩⟩
theorem endsE_length : ∀ l : List EdD, (endsE l).length = 2 * l.length
  | [] => rfl
  | e :: l => by
    have := endsE_length l
    unfold endsE at this ⊢
    rw [List.flatMap_cons, List.length_append, this]
    simp
    omega
theorem rise_nat {l m : List Nat} (hl : l.Pairwise (· < ·)) (hm : m.Pairwise (· < ·)) (h : ∀ x, x ∈ l ↔ x ∈ m) : l = m := by
  have h1 := rise_one (fun x : Nat => x) (l := l.reverse) (m := m.reverse) (List.pairwise_reverse.2 hl) (List.pairwise_reverse.2 hm) (fun x => by rw [List.mem_reverse, List.mem_reverse]; exact h x)
  exact List.reverse_inj.1 h1
theorem verts_one {l : List EdD} {m : List Nat} (h1 : m.Pairwise (· < ·)) (h2 : ∀ x, x ∈ m ↔ x ∈ endsE l) : m = vertsE [] l :=
  rise_nat h1 (vertsE_ok l [] List.Pairwise.nil).1 fun x => by
    rw [h2, endsE_mem, (vertsE_ok l [] List.Pairwise.nil).2]
    simp
end Go.Proofs.Yteaibgnelnblnaa
end
section
namespace Go.Proofs.Yteaibgnelnblnaa
open Go.RowKit Me Tx Ed Mg Va

/-- Rows, or an error. -/
def KsPost (w : World) (q : List RowR × Int) (e : Ending) (w' : World) : Prop :=
  ∃ A n c, e = .returned (.tuple #[.slice A n c, .int .i64 q.2]) ∧ (rowM q.1).length = n ∧ n ≤ c ∧ c ≤ 9223372036854775807 ∧ RowsAt w' w.heap.size w'.heap.size A (rowM q.1) ∧ Below w.heap.size w w'
theorem ks_err {w W : World} {q : List RowR × Int} {z : Int} (hb : Below w.heap.size w W) (g : Nat) (hq : q = ([], z)) : KsPost w q (.returned (.tuple #[.slice (some ⟨g, 0, none⟩) 0 0, .int .i64 z])) W := by
  subst hq
  exact ⟨_, 0, 0, rfl, rfl, Nat.le_refl _, by omega, RowsAt.nil, hb⟩
/-- An edge's cells. -/
abbrev edB3 (x : EdD) : List Value := [.int .u32 (x.src : Int), .int .u32 (x.dst : Int), .int .u32 (x.wgt : Int)]
/-- The last row, where it is looked at. -/
theorem ks_last {rows : List RowR} (x : EdD) {w : World} {lo m : Nat} {L : Option Addr} (hl : (rowM rows).length = m) (h : RowsAt w lo w.heap.size L (rowM rows)) :
    ∃ (b : Addr) (s : Nat), (0 < m → L = some b ∧ ∀ W, Below w.heap.size w W → W.cell? (b.add ((m - 1) * 2)) = some (.int .u32 (s : Int))) ∧ (¬ (0 < m ∧ s = x.src) → hasR x rows = 0) ∧ (0 < m ∧ s = x.src → ∃ r l, rows = r :: l ∧ r.src = x.src) := by
  cases rows with
  | nil =>
    have hm : m = 0 := hl.symm
    exact ⟨⟨0, 0, none⟩, 0, fun h0 => by omega, fun _ => rfl, fun h0 => by omega⟩
  | cons r l =>
    have hm : m = l.length + 1 := by rw [← hl, rowM_length]; rfl
    obtain ⟨a, p, r1, e1, e2, e3, e4, -, -⟩ := h.at (k := m - 1) (by rw [hl]; omega)
    have e5 : r1.1 = r.src := by
      rw [rowM_cons] at e2
      have e : m - 1 = (rowM l).length := by rw [rowM_length]; omega
      rw [e, List.getElem?_append_right (Nat.le_refl _), Nat.sub_self] at e2
      injection e2 with e2
      rw [← e2]
    refine ⟨a, r.src, fun _ => ⟨e1, fun W hW => ?_⟩, fun h0 => ?_, fun h0 => ⟨r, l, rfl, h0.2⟩⟩
    · rw [← e5]; exact (hW.cell (by rw [block_add]; exact e3)).trans e4
    · rw [hasR, if_neg (fun e => h0 ⟨by omega, e⟩)]
/-- The last row's arcs. -/
theorem ks_arcs {r : RowR} {l : List RowR} {w : World} {lo m m1 : Nat} {b : Addr} (hm : m1 + 1 = m) (hl : (rowM (r :: l)).length = m) (h : RowsAt w lo w.heap.size (some b) (rowM (r :: l))) :
    ∃ (A2 : Option Addr) (n2 c2 : Nat), r.arcs.length = n2 ∧ ∀ W, Below w.heap.size w W → W.cell? ⟨(b.add (m1 * 2)).block, (b.add (m1 * 2)).off + 1, none⟩ = some (.slice A2 n2 c2) ∧ Arcs W W.heap.size A2 (arcM r.arcs) := by
  obtain ⟨a, p, r1, e1, e2, e3, -, e4, e5⟩ := h.at (k := m1) (by rw [hl]; omega)
  injection e1 with e1
  subst e1
  rw [rowM_cons] at e2
  have e : m1 = (rowM l).length := by rw [rowM_length] at hl ⊢; simp at hl; omega
  have e6 : r1 = (r.src, arcM r.arcs) := by
    rw [e, List.getElem?_append_right (Nat.le_refl _), Nat.sub_self] at e2
    injection e2 with e2
    exact e2.symm
  have e7 := e5.len
  have e8 := e5.arcs
  rw [e6] at e7 e8
  refine ⟨p.2.1, p.2.2.1, p.2.2.2, by rw [← e7]; exact (arcM_length _).symm, fun W hW => ⟨(hW.cell (by show (b.add (m1 * 2)).block < _; rw [block_add]; exact e3)).trans e4, (e8.below hW).more hW.size⟩⟩
/-- What is known of each slot where the last row is looked at. -/
def mkG (m cc Bx s xs : Nat) (q t : Bool) (L : Option Addr) (b : Addr) : Gw.Fact := fun k v _ =>
  match k with
  | 4 | 41 => v = .slice L m cc
  | 7 => v = .pointer (some ⟨Bx, 0, none⟩)
  | 42 => v = .int .i64 (m : Int)
  | 43 | 44 => v = .bool q
  | 45 | 46 => q = true → v = .slice L m cc
  | 47 => q = true → v = .int .i64 (m : Int)
  | 48 => q = true → v = .int .i64 ((m - 1 : Nat) : Int)
  | 49 | 50 => q = true → v = .pointer (some (b.add ((m - 1) * 2)))
  | 51 => q = true → v = .int .u32 (s : Int)
  | 52 => q = true → v = .pointer (some ⟨Bx, 0, none⟩)
  | 53 => q = true → v = .int .u32 (xs : Int)
  | 54 => q = true → v = .bool t
  | 55 => v = .bool (q && t)
  | _ => True
theorem ks_out3 (w : World) (b : Nat) (v0 v1 v2 : Value) : Out (fun k => k = b) w (((w.setCell ⟨b, 0, none⟩ v0).setCell ⟨b, 1, none⟩ v1).setCell ⟨b, 2, none⟩ v2) :=
  (((Out.refl (fun k => k = b) w).setCell (p := ⟨b, 0, none⟩) (.inl rfl) _).setCell (p := ⟨b, 1, none⟩) (.inl rfl) _).setCell (p := ⟨b, 2, none⟩) (.inl rfl) _
/-- What stands between the rounds. -/
structure KsI (w wr : World) (H n : Nat) (keys : List (List UInt8)) (k m cc : Nat) (L : Option Addr) (rows : List RowR) (last : Option EdD) : Prop where
  ok : KeysOk rows last k
  len : (rowM rows).length = m
  cap : m ≤ cc ∧ cc ≤ 9223372036854775807
  at_ : RowsAt wr (H + 2) wr.heap.size L (rowM rows)
  go : keysG [] none keys = keysG rows last (keys.drop k)
  box : Blk wr (H + 1) (edB3 (last.getD ⟨0, 0, 0⟩))
  low : Below w.heap.size w wr
set_option maxRecDepth 100000 in
set_option maxHeartbeats 4000000 in
theorem mkeys_any (A : Option Addr) (n c : Nat) (es : List Pc) (w : World) (hl : es.length = n) (hn : n ≤ 1000) (hr : BRows w w.heap.size A es) :
    Calls Try.prog 32 #[.slice A n c] w (KsPost w (keysG [] none (es.map (·.2)))) := by
  obtain ⟨H, hH⟩ : ∃ H, H = w.heap.size := ⟨_, rfl⟩
  obtain ⟨W0, hW0⟩ : ∃ W0, W0 = (w.alloc (.cells #[] 51)).alloc (.cells #[.int .u32 0, .int .u32 0, .int .u32 0] 58) := ⟨_, rfl⟩
  have HB0 := Lib.hid (show Below w.heap.size w W0 by rw [hW0]; exact ((Below.refl _ _).alloc (Nat.le_refl _) _).alloc (by simp) _)
  have HS0 := Lib.hid (show W0.heap.size = H + 2 by rw [hW0, hH]; simp)
  have BZ := Lib.hid (show Blk W0 (H + 1) [.int .u32 0, .int .u32 0, .int .u32 0] by rw [hW0, hH]; exact Blk.new' (w.alloc _) [.int .u32 0, .int .u32 0, .int .u32 0] _ (by simp))
  obtain ⟨keys, hkeys⟩ : ∃ keys, keys = es.map (·.2) := ⟨_, rfl⟩
  have HK := Lib.hid hkeys
  have HL := Lib.hid hl
  have HR := Lib.hid hr
  have HHE := Lib.hid hH
  have HW0 := Lib.hid hW0
  rw [← hkeys]
  clear hW0 hl hr hH hkeys
  go_enter Try.func32, Try.ntmps32
  go_upto_region 3 with fail
  rw [← HHE.out, ← HW0.out]
  go_wp2_with fail
  have HI0 := Lib.hid (show KsI w W0 H n keys 0 0 0 (some ⟨H, 0, none⟩) [] none from ⟨KeysOk.start, rfl, ⟨Nat.le_refl _, by omega⟩, RowsAt.nil, rfl, BZ.out, HB0.out⟩)
  go_loopw [4, 14] (fun v iv wr => ∃ (k m cc : Nat) (L : Option Addr) (rows : List RowR) (last : Option EdD), v = .slice L m cc ∧ iv = .int .i64 (k : Int) ∧ k ≤ n ∧ Hid (KsI w wr H n keys k m cc L rows last)) (fun _ iv _ => n - (intOf iv).toNat)
  case atStart => exact ⟨0, 0, 0, _, [], none, rfl, rfl, Nat.zero_le _, HI0⟩
  case round =>
    clear HI0
    obtain ⟨k, m, cc, L, rows, last, rfl, rfl, hk, HI⟩ := hrel
    by_cases hlt : k < n
    · obtain ⟨p, hp⟩ : ∃ p, es[k]? = some p := ⟨_, List.getElem?_eq_getElem (by rw [HL.out]; exact hlt)⟩
      obtain ⟨a, A1, n1, c1, rfl, hab, hcl, hn1, hc1, hc63, hrd⟩ := HR.out.at hp
      have cx : wr.cell? (a.add k) = some (.slice A1 n1 c1) := (HI.out.low.cell (by rw [block_add]; exact hab)).trans hcl
      have hlti : (k : Int) < (n : Int) := by omega
      have hk0 : (0 : Int) ≤ (k : Int) := by omega
      have HOF := Lib.hid (rof_any A1 n1 c1 p.2 wr hn1 hc1 hc63 ((hrd.below HI.out.low).more HI.out.low.size))
      have HDR := Lib.hid (show keys.drop k = p.2 :: keys.drop (k + 1) from by
        have hkl : k < keys.length := by rw [HK.out, List.length_map, HL.out]; exact hlt
        have hg : keys[k] = p.2 := by
          have h1 : keys[k]? = some p.2 := by rw [HK.out, List.getElem?_map, hp]; rfl
          rw [List.getElem?_eq_getElem hkl] at h1
          injection h1
        rw [List.drop_eq_getElem_cons hkl, hg])
      have HN1 := Lib.hid hn1
      clear hcl hrd hp hab hc1 hn1
      go_wp2_with fail
      refine HOF.out.mono ?_
      rintro e w3 ⟨hof, hb3⟩
      have HB3 := Lib.hid hb3
      clear HOF hb3
      by_cases h12 : n1 = 12
      · rw [if_pos h12] at hof
        subst hof
        obtain ⟨⟨xs, xd, xw⟩, hx⟩ : ∃ x, x = edB p.2 := ⟨_, rfl⟩
        have HX := Lib.hid hx
        rw [← hx]
        have hxf : FitE ⟨xs, xd, xw⟩ := by rw [hx]; exact edB_fit _
        have HXF := Lib.hid hxf
        clear hx hxf
        go_upto_region 7 with fail
        obtain ⟨w4, hw4⟩ : ∃ w4, w4 = w3.alloc (.cells #[.int .u32 (xs : Int), .int .u32 (xd : Int), .int .u32 (xw : Int)] 58) := ⟨_, rfl⟩
        obtain ⟨Bx, hBx⟩ : ∃ b, b = w3.heap.size := ⟨_, rfl⟩
        have hb34 : Below w3.heap.size w3 w4 := by rw [hw4]; exact (Below.refl _ _).alloc (Nat.le_refl _) _
        have hb4 : Below wr.heap.size wr w4 := HB3.out.trans (hb34.mono HB3.out.size)
        have HB4 := Lib.hid hb4
        have HW4 := Lib.hid (HI.out.low.trans (hb4.mono HI.out.low.size))
        have BX := Lib.hid (show Blk w4 Bx (edB3 ⟨xs, xd, xw⟩) by rw [hw4, hBx]; exact Blk.new w3 (edB3 ⟨xs, xd, xw⟩) _)
        have BLA := Lib.hid (HI.out.box.past hb4)
        rw [← hw4, ← hBx]
        have x0 : w4.cell? ⟨Bx, 0, none⟩ = some (.int .u32 (xs : Int)) := BX.out.cell rfl
        have x1 : w4.cell? ⟨Bx, 1, none⟩ = some (.int .u32 (xd : Int)) := BX.out.cell rfl
        have x2 : w4.cell? ⟨Bx, 2, none⟩ = some (.int .u32 (xw : Int)) := BX.out.cell rfl
        obtain ⟨⟨ys, yd, yw⟩, hy⟩ : ∃ y, y = last.getD ⟨0, 0, 0⟩ := ⟨_, rfl⟩
        have HY := Lib.hid hy
        rw [← hy] at BLA
        have l0 : w4.cell? ⟨H + 1, 0, none⟩ = some (.int .u32 (ys : Int)) := BLA.out.cell rfl
        have l1 : w4.cell? ⟨H + 1, 1, none⟩ = some (.int .u32 (yd : Int)) := BLA.out.cell rfl
        have l2 : w4.cell? ⟨H + 1, 2, none⟩ = some (.int .u32 (yw : Int)) := BLA.out.cell rfl
        have HBxH := Lib.hid (show w.heap.size ≤ Bx ∧ Bx ≠ H + 1 from by
          have h1 := HI.out.low.size
          have h2 := HB3.out.size
          have h3 := HI.out.box.lt
          omega)
        clear hw4 hBx hb34 hb4 hy HB3
        by_cases hw0 : xw = 0
        · have e0 : ((xw : Int) == 0) = true := by rw [hw0]; rfl
          have HE := Lib.hid (show keysG [] none keys = ([], 3) from by rw [HI.out.go, HDR.out, keysG, if_pos (.inr (by rw [← HX.out]; exact hw0))])
          have HB9 := Lib.hid (show Below w.heap.size w (w4.alloc (.cells #[] 51)) from HW4.out.alloc HW4.out.size _)
          go_wp2
          go_ret2
          exact ks_err HB9.out _ HE.out
        · have e0 : ((xw : Int) == 0) = false := by simp; omega
          have HG := Lib.hid (show keysG [] none keys = if under last ⟨xs, xd, xw⟩ then ([], 13) else if 2147483647 < hasR ⟨xs, xd, xw⟩ rows + xw then ([], 10) else keysG (addR ⟨xs, xd, xw⟩ rows) (some ⟨xs, xd, xw⟩) (keys.drop (k + 1)) from by
            rw [HI.out.go, HDR.out, keysG, ← HX.out, if_neg (fun h1 => h1.elim (fun h => h (HN1.out.trans h12)) hw0)])
          have HBE := Lib.hid (show ∀ W, Calls Try.prog 52 #[Ed.agg ⟨xs, xd, xw⟩, Ed.agg ⟨ys, yd, yw⟩] W fun e w' => e = .returned (.bool (lowE ⟨xs, xd, xw⟩ ⟨ys, yd, yw⟩)) ∧ Below W.heap.size W w' from fun W => rbelow_any _ _ W)
          clear hw0
          by_cases hkz : k = 0
          · have hkz2 : ¬ (0 : Int) < (k : Int) := by omega
            have HU := Lib.hid (show under last ⟨xs, xd, xw⟩ = false from by rw [HI.out.ok.none_.2 hkz]; rfl)
            obtain ⟨w5, hw5⟩ : ∃ w5, w5 = w4 := ⟨_, rfl⟩
            have HB5 := Lib.hid (show Below w4.heap.size w4 w5 by rw [hw5]; exact Below.refl _ _)
            go_upto_region 12 with fail
            rw [← hw5]
            clear hw5
            have HW5 := Lib.hid (HW4.out.trans (HB5.out.mono HW4.out.size))
            have BX5 := Lib.hid (BX.out.past HB5.out)
            have BL5 := Lib.hid (BLA.out.past HB5.out)
            have AT5 := Lib.hid ((HI.out.at_.past HB4.out).past HB5.out)
            have y0 : w5.cell? ⟨Bx, 0, none⟩ = some (.int .u32 (xs : Int)) := BX5.out.cell rfl
            have y1 : w5.cell? ⟨Bx, 1, none⟩ = some (.int .u32 (xd : Int)) := BX5.out.cell rfl
            have y2 : w5.cell? ⟨Bx, 2, none⟩ = some (.int .u32 (xw : Int)) := BX5.out.cell rfl
            obtain ⟨b, s, hb1, hb2, hb3⟩ := ks_last (⟨xs, xd, xw⟩ : EdD) HI.out.len AT5.out
            have HQ := Lib.hid hb1
            have HH2 := Lib.hid hb2
            have HH3 := Lib.hid hb3
            obtain ⟨q, hq⟩ : ∃ q, decide (0 < m) = q := ⟨_, rfl⟩
            have hqm : q = true ↔ 0 < m := by rw [← hq]; simp
            obtain ⟨t, ht⟩ : ∃ t, ((s : Int) == (xs : Int)) = t := ⟨_, rfl⟩
            have htm : t = true ↔ s = xs := by rw [← ht]; simp; omega
            obtain ⟨m1, hm1⟩ : ∃ z, z = m - 1 := ⟨_, rfl⟩
            have HMM := Lib.hid hm1
            have hm63 : m ≤ 1000 := by
              have h1 := HI.out.ok.few
              have h2 := HI.out.len
              rw [rowM_length] at h2
              omega
            clear hb1 hb2 hb3 hm1 hq
            refine Gw.wp_region_grow (mkG m cc Bx s xs q t L b) [41, 42, 43, 44, 45, 46, 47, 48, 49, 50, 51, 52, 53, 54, 55] [([4], none), ([41], none), ([42], none), ([43], none), ([4, 44], some (44, true)), ([4, 44], some (44, true)), ([46, 44], some (44, true)), ([47, 44], some (44, true)), ([45, 48, 44], some (44, true)), ([49, 44], some (44, true)), ([50, 44], some (44, true)), ([7, 44], some (44, true)), ([52, 44], some (44, true)), ([51, 53, 44], some (44, true)), ([44, 54], none)] 77 (by kernel_rfl) (by kernel_rfl) rfl ?h0 ?hreq ?hend
            case h0 =>
              intro t W hnd _
              unfold mkG
              split <;> first | rfl | trivial | exact absurd (by simp) hnd
            case hreq =>
              refine ⟨?_, ?_, ?_, ?_, ?_, ?_, ?_, ?_, ?_, ?_, ?_, ?_, ?_, ?_, ?_, trivial⟩
              all_goals
                intro ac W hg hk
                have z0 := (BX5.out.past hg).cell (i := 0) rfl
                simp only [Gw.Knows, mkG] at hk
                rcases Bool.eq_false_or_eq_true q with hq1 | hq1
                · obtain ⟨e1, e4⟩ := HQ.out (hqm.1 hq1)
                  have e6 := e4 W hg
                  rw [← HMM.out] at e6
                  have e0' := hqm.1 hq1
                  have e5 : (m : Int) - 1 = (m1 : Int) := by have := HMM.out; omega
                  have e8 : (m1 : Int) < (m : Int) := by omega
                  have e9 : m1 < m := by omega
                  have e10 : IntKind.i64.wrap (m1 : Int) = (m1 : Int) := IntWalk.i64_in _ (by omega)
                  have e11 : (0 : Int) < (m : Int) := by omega
                  simp [go_sem, Gw.OpReq, Gw.Ok, Gw.Post, Gw.Holds, mkG, Gw.Grows.refl, hk, hq1, ht, z0, e0', e1, e5, e6, e8, e9, e10, e11, ← HMM.out]
                  done
                · have e11 : ¬ (0 : Int) < (m : Int) := fun h => by
                    have h1 := hqm.2 (by omega)
                    rw [hq1] at h1
                    cases h1
                  have e12 : ¬ 0 < m := by omega
                  simp [go_sem, Gw.OpReq, Gw.Ok, Gw.Post, Gw.Holds, mkG, Gw.Grows.refl, hk, hq1, e11, e12]
                  done
            case hend =>
              intro y w6 hg hy
              have y55 : y 55 = .bool (q && t) := by have := (hy 55 (by simp)).now; simpa [mkG] using this
              simp only [Gw.putAll, Act.put, List.setIfInBounds_toArray, List.set_cons_zero, List.set_cons_succ]
              rw [y55]
              have hg' : Below w5.heap.size w5 w6 := hg
              have HW6 := Lib.hid (HW5.out.trans (hg'.mono HW5.out.size))
              have BX6 := Lib.hid (BX5.out.past hg')
              have BL6 := Lib.hid (BL5.out.past hg')
              have AT6 := Lib.hid (AT5.out.past hg')
              have z0 : w6.cell? ⟨Bx, 0, none⟩ = some (.int .u32 (xs : Int)) := BX6.out.cell rfl
              have z1 : w6.cell? ⟨Bx, 1, none⟩ = some (.int .u32 (xd : Int)) := BX6.out.cell rfl
              have z2 : w6.cell? ⟨Bx, 2, none⟩ = some (.int .u32 (xw : Int)) := BX6.out.cell rfl
              clear hg hy hg' y55 AT5 BX5 BL5 y0 y1 y2
              cases hqt : (q && t)
              · have HH0 := Lib.hid (show hasR ⟨xs, xd, xw⟩ rows = 0 from HH2.out (fun h => by rw [hqm.2 h.1, htm.2 h.2] at hqt; cases hqt))
                have hxw : xw < 4294967296 := HXF.out.2.2
                by_cases hov : (2147483647 : Int) < (xw : Int)
                · have HE := Lib.hid (show keysG [] none keys = ([], 10) from by rw [HG.out, HU.out, HH0.out, if_neg (by decide), if_pos (by omega)])
                  have HB9 := Lib.hid (show Below w.heap.size w (w6.alloc (.cells #[] 51)) from HW6.out.alloc HW6.out.size _)
                  go_wp2_with fail
                  go_ret2
                  exact ks_err HB9.out _ HE.out
                · have HG2 := Lib.hid (show keysG [] none keys = keysG (addR ⟨xs, xd, xw⟩ rows) (some ⟨xs, xd, xw⟩) (keys.drop (k + 1)) from by rw [HG.out, HU.out, HH0.out, if_neg (by decide), if_neg (by omega)])
                  have HWI := Lib.hid (mwith_any L m cc rows ⟨xs, xd, xw⟩ HXF.out w6 HI.out.len HI.out.cap.1 HI.out.ok (by omega) (by rw [HH0.out]; show 0 + xw ≤ _; omega) (lo := H + 2) (by have := BL6.out.lt; have := HI.out.low.size; have := HW6.out.size; have := HS0.out; have := HB0.out.size; omega) AT6.out)
                  go_wp2_with fail
                  refine HWI.out.mono ?_
                  rintro e w7 ⟨A7, n7, c7, rfl, hl7, hn7, hc7, hr7, hb7⟩
                  have BX7 := Lib.hid (BX6.out.past hb7)
                  have BL7 := Lib.hid (BL6.out.past hb7)
                  have q0 : w7.cell? ⟨Bx, 0, none⟩ = some (.int .u32 (xs : Int)) := BX7.out.cell rfl
                  have q1 : w7.cell? ⟨Bx, 1, none⟩ = some (.int .u32 (xd : Int)) := BX7.out.cell rfl
                  have q2 : w7.cell? ⟨Bx, 2, none⟩ = some (.int .u32 (xw : Int)) := BX7.out.cell rfl
                  have s0 : w7.cell? ⟨H + 1, 0, none⟩ = some (.int .u32 (ys : Int)) := BL7.out.cell rfl
                  have s1 : w7.cell? ⟨H + 1, 1, none⟩ = some (.int .u32 (yd : Int)) := BL7.out.cell rfl
                  have s2 : w7.cell? ⟨H + 1, 2, none⟩ = some (.int .u32 (yw : Int)) := BL7.out.cell rfl
                  have f0 := BL7.out.frozen 0
                  have f1 := BL7.out.frozen 1
                  have f2 := BL7.out.frozen 2
                  have HN := Lib.hid (show KsI w (((w7.setCell ⟨H + 1, 0, none⟩ (.int .u32 (xs : Int))).setCell ⟨H + 1, 1, none⟩ (.int .u32 (xd : Int))).setCell ⟨H + 1, 2, none⟩ (.int .u32 (xw : Int))) H n keys (k + 1) n7 c7 A7 (addR ⟨xs, xd, xw⟩ rows) (some ⟨xs, xd, xw⟩) from
                    ⟨HI.out.ok.next HXF.out (by rw [HH0.out]; show 0 + xw ≤ _; omega), hl7, ⟨hn7, hc7⟩, hr7.out (ks_out3 w7 (H + 1) _ _ _) (fun j hj => by omega), HG2.out, ((BL7.out.set 0 _).set 1 _).set 2 _, (((HW6.out.trans (hb7.mono HW6.out.size)).setCell (p := ⟨H + 1, 0, none⟩) (by show w.heap.size ≤ H + 1; rw [HHE.out]; omega) _).setCell (p := ⟨H + 1, 1, none⟩) (by show w.heap.size ≤ H + 1; rw [HHE.out]; omega) _).setCell (p := ⟨H + 1, 2, none⟩) (by show w.heap.size ≤ H + 1; rw [HHE.out]; omega) _⟩)
                  clear hl7 hr7 hb7 HWI
                  go_wp2_with fail
                  go_roundw
                  case rel => exact ⟨k + 1, n7, c7, A7, _, _, rfl, by first | go_num | (rw [hkz]; rfl), by omega, HN⟩
                  case measure => simp [intOf]; omega
              · exfalso
                have h1 : q = true := by cases q <;> simp_all
                have h2 := hqm.1 h1
                have h3 := HI.out.len
                rw [HI.out.ok.nil.2 hkz] at h3
                have h4 : m = 0 := h3.symm
                omega
          · have hkz2 : (0 : Int) < (k : Int) := by omega
            obtain ⟨y, hy1⟩ : ∃ y, last = some y := by
              cases hla : last with
              | none => exact absurd (HI.out.ok.none_.1 hla) hkz
              | some y => exact ⟨y, rfl⟩
            have HU := Lib.hid (show under last ⟨xs, xd, xw⟩ = lowE ⟨xs, xd, xw⟩ ⟨ys, yd, yw⟩ from by
              rw [HY.out, hy1]; rfl)
            clear hy1
            go_wp2_with fail
            refine (HBE.out _).mono ?_
            rintro e w5 ⟨rfl, hb5⟩
            have HB5 := Lib.hid hb5
            clear hb5
            cases hlow : lowE ⟨xs, xd, xw⟩ ⟨ys, yd, yw⟩
            · rw [hlow] at HU
              go_upto_region 12 with fail
              have HW5 := Lib.hid (HW4.out.trans (HB5.out.mono HW4.out.size))
              have BX5 := Lib.hid (BX.out.past HB5.out)
              have BL5 := Lib.hid (BLA.out.past HB5.out)
              have AT5 := Lib.hid ((HI.out.at_.past HB4.out).past HB5.out)
              have y0 : w5.cell? ⟨Bx, 0, none⟩ = some (.int .u32 (xs : Int)) := BX5.out.cell rfl
              have y1 : w5.cell? ⟨Bx, 1, none⟩ = some (.int .u32 (xd : Int)) := BX5.out.cell rfl
              have y2 : w5.cell? ⟨Bx, 2, none⟩ = some (.int .u32 (xw : Int)) := BX5.out.cell rfl
              obtain ⟨b, s, hb1, hb2, hb3⟩ := ks_last (⟨xs, xd, xw⟩ : EdD) HI.out.len AT5.out
              have HQ := Lib.hid hb1
              have HH2 := Lib.hid hb2
              have HH3 := Lib.hid hb3
              obtain ⟨q, hq⟩ : ∃ q, decide (0 < m) = q := ⟨_, rfl⟩
              have hqm : q = true ↔ 0 < m := by rw [← hq]; simp
              obtain ⟨t, ht⟩ : ∃ t, ((s : Int) == (xs : Int)) = t := ⟨_, rfl⟩
              have htm : t = true ↔ s = xs := by rw [← ht]; simp; omega
              obtain ⟨m1, hm1⟩ : ∃ z, z = m - 1 := ⟨_, rfl⟩
              have HMM := Lib.hid hm1
              have hm63 : m ≤ 1000 := by
                have h1 := HI.out.ok.few
                have h2 := HI.out.len
                rw [rowM_length] at h2
                omega
              clear hb1 hb2 hb3 hm1 hq
              refine Gw.wp_region_grow (mkG m cc Bx s xs q t L b) [41, 42, 43, 44, 45, 46, 47, 48, 49, 50, 51, 52, 53, 54, 55] [([4], none), ([41], none), ([42], none), ([43], none), ([4, 44], some (44, true)), ([4, 44], some (44, true)), ([46, 44], some (44, true)), ([47, 44], some (44, true)), ([45, 48, 44], some (44, true)), ([49, 44], some (44, true)), ([50, 44], some (44, true)), ([7, 44], some (44, true)), ([52, 44], some (44, true)), ([51, 53, 44], some (44, true)), ([44, 54], none)] 77 (by kernel_rfl) (by kernel_rfl) rfl ?h0 ?hreq ?hend
              case h0 =>
                intro t W hnd _
                unfold mkG
                split <;> first | rfl | trivial | exact absurd (by simp) hnd
              case hreq =>
                refine ⟨?_, ?_, ?_, ?_, ?_, ?_, ?_, ?_, ?_, ?_, ?_, ?_, ?_, ?_, ?_, trivial⟩
                all_goals
                  intro ac W hg hk
                  have z0 := (BX5.out.past hg).cell (i := 0) rfl
                  simp only [Gw.Knows, mkG] at hk
                  rcases Bool.eq_false_or_eq_true q with hq1 | hq1
                  · obtain ⟨e1, e4⟩ := HQ.out (hqm.1 hq1)
                    have e6 := e4 W hg
                    rw [← HMM.out] at e6
                    have e0' := hqm.1 hq1
                    have e5 : (m : Int) - 1 = (m1 : Int) := by have := HMM.out; omega
                    have e8 : (m1 : Int) < (m : Int) := by omega
                    have e9 : m1 < m := by omega
                    have e10 : IntKind.i64.wrap (m1 : Int) = (m1 : Int) := IntWalk.i64_in _ (by omega)
                    have e11 : (0 : Int) < (m : Int) := by omega
                    simp [go_sem, Gw.OpReq, Gw.Ok, Gw.Post, Gw.Holds, mkG, Gw.Grows.refl, hk, hq1, ht, z0, e0', e1, e5, e6, e8, e9, e10, e11, ← HMM.out]
                    done
                  · have e11 : ¬ (0 : Int) < (m : Int) := fun h => by
                      have h1 := hqm.2 (by omega)
                      rw [hq1] at h1
                      cases h1
                    have e12 : ¬ 0 < m := by omega
                    simp [go_sem, Gw.OpReq, Gw.Ok, Gw.Post, Gw.Holds, mkG, Gw.Grows.refl, hk, hq1, e11, e12]
                    done
              case hend =>
                intro y w6 hg hy
                have y55 : y 55 = .bool (q && t) := by have := (hy 55 (by simp)).now; simpa [mkG] using this
                simp only [Gw.putAll, Act.put, List.setIfInBounds_toArray, List.set_cons_zero, List.set_cons_succ]
                rw [y55]
                have hg' : Below w5.heap.size w5 w6 := hg
                have HW6 := Lib.hid (HW5.out.trans (hg'.mono HW5.out.size))
                have BX6 := Lib.hid (BX5.out.past hg')
                have BL6 := Lib.hid (BL5.out.past hg')
                have AT6 := Lib.hid (AT5.out.past hg')
                have z0 : w6.cell? ⟨Bx, 0, none⟩ = some (.int .u32 (xs : Int)) := BX6.out.cell rfl
                have z1 : w6.cell? ⟨Bx, 1, none⟩ = some (.int .u32 (xd : Int)) := BX6.out.cell rfl
                have z2 : w6.cell? ⟨Bx, 2, none⟩ = some (.int .u32 (xw : Int)) := BX6.out.cell rfl
                clear hg hy hg' y55 AT5 BX5 BL5 y0 y1 y2
                cases hqt : (q && t)
                · have HH0 := Lib.hid (show hasR ⟨xs, xd, xw⟩ rows = 0 from HH2.out (fun h => by rw [hqm.2 h.1, htm.2 h.2] at hqt; cases hqt))
                  have hxw : xw < 4294967296 := HXF.out.2.2
                  by_cases hov : (2147483647 : Int) < (xw : Int)
                  · have HE := Lib.hid (show keysG [] none keys = ([], 10) from by rw [HG.out, HU.out, HH0.out, if_neg (by decide), if_pos (by omega)])
                    have HB9 := Lib.hid (show Below w.heap.size w (w6.alloc (.cells #[] 51)) from HW6.out.alloc HW6.out.size _)
                    go_wp2_with fail
                    go_ret2
                    exact ks_err HB9.out _ HE.out
                  · have HG2 := Lib.hid (show keysG [] none keys = keysG (addR ⟨xs, xd, xw⟩ rows) (some ⟨xs, xd, xw⟩) (keys.drop (k + 1)) from by rw [HG.out, HU.out, HH0.out, if_neg (by decide), if_neg (by omega)])
                    have HWI := Lib.hid (mwith_any L m cc rows ⟨xs, xd, xw⟩ HXF.out w6 HI.out.len HI.out.cap.1 HI.out.ok (by omega) (by rw [HH0.out]; show 0 + xw ≤ _; omega) (lo := H + 2) (by have := BL6.out.lt; have := HI.out.low.size; have := HW6.out.size; have := HS0.out; have := HB0.out.size; omega) AT6.out)
                    go_wp2_with fail
                    refine HWI.out.mono ?_
                    rintro e w7 ⟨A7, n7, c7, rfl, hl7, hn7, hc7, hr7, hb7⟩
                    have BX7 := Lib.hid (BX6.out.past hb7)
                    have BL7 := Lib.hid (BL6.out.past hb7)
                    have q0 : w7.cell? ⟨Bx, 0, none⟩ = some (.int .u32 (xs : Int)) := BX7.out.cell rfl
                    have q1 : w7.cell? ⟨Bx, 1, none⟩ = some (.int .u32 (xd : Int)) := BX7.out.cell rfl
                    have q2 : w7.cell? ⟨Bx, 2, none⟩ = some (.int .u32 (xw : Int)) := BX7.out.cell rfl
                    have s0 : w7.cell? ⟨H + 1, 0, none⟩ = some (.int .u32 (ys : Int)) := BL7.out.cell rfl
                    have s1 : w7.cell? ⟨H + 1, 1, none⟩ = some (.int .u32 (yd : Int)) := BL7.out.cell rfl
                    have s2 : w7.cell? ⟨H + 1, 2, none⟩ = some (.int .u32 (yw : Int)) := BL7.out.cell rfl
                    have f0 := BL7.out.frozen 0
                    have f1 := BL7.out.frozen 1
                    have f2 := BL7.out.frozen 2
                    have HN := Lib.hid (show KsI w (((w7.setCell ⟨H + 1, 0, none⟩ (.int .u32 (xs : Int))).setCell ⟨H + 1, 1, none⟩ (.int .u32 (xd : Int))).setCell ⟨H + 1, 2, none⟩ (.int .u32 (xw : Int))) H n keys (k + 1) n7 c7 A7 (addR ⟨xs, xd, xw⟩ rows) (some ⟨xs, xd, xw⟩) from
                      ⟨HI.out.ok.next HXF.out (by rw [HH0.out]; show 0 + xw ≤ _; omega), hl7, ⟨hn7, hc7⟩, hr7.out (ks_out3 w7 (H + 1) _ _ _) (fun j hj => by omega), HG2.out, ((BL7.out.set 0 _).set 1 _).set 2 _, (((HW6.out.trans (hb7.mono HW6.out.size)).setCell (p := ⟨H + 1, 0, none⟩) (by show w.heap.size ≤ H + 1; rw [HHE.out]; omega) _).setCell (p := ⟨H + 1, 1, none⟩) (by show w.heap.size ≤ H + 1; rw [HHE.out]; omega) _).setCell (p := ⟨H + 1, 2, none⟩) (by show w.heap.size ≤ H + 1; rw [HHE.out]; omega) _⟩)
                    clear hl7 hr7 hb7 HWI
                    go_wp2_with fail
                    go_roundw
                    case rel => exact ⟨k + 1, n7, c7, A7, _, _, rfl, by first | go_num | (rw [hkz]; rfl), by omega, HN⟩
                    case measure => simp [intOf]; omega
                · have h1 : q = true := by cases q <;> simp_all
                  have h1t : t = true := by cases t <;> simp_all
                  have h2 := hqm.1 h1
                  obtain ⟨e1, -⟩ := HQ.out h2
                  subst e1
                  obtain ⟨r, l, hrl, hrs⟩ := HH3.out ⟨h2, htm.1 h1t⟩
                  subst hrl
                  obtain ⟨A2, n2, c2, ha1, ha2⟩ := ks_arcs (m1 := m1) (by have := HMM.out; omega) HI.out.len AT6.out
                  have HA2 := Lib.hid ha2
                  have k1 := (ha2 w6 (Below.refl _ _)).1
                  have e5 : (m : Int) - 1 = (m1 : Int) := by have := HMM.out; omega
                  have e8 : (m1 : Int) < (m : Int) := by have := HMM.out; omega
                  have e9 : m1 < m := by omega
                  have e10 : IntKind.i64.wrap (m1 : Int) = (m1 : Int) := IntWalk.i64_in _ (by omega)
                  have HSA := Lib.hid (HI.out.ok.sum r l rfl)
                  have HSM := Lib.hid (fun W hW => refsum_any A2 n2 c2 (arcM r.arcs) W (by rw [arcM_length]; exact ha1) (by have := (HI.out.ok.arcs r List.mem_cons_self).2; omega) (ha2 W hW).2)
                  have HHS := Lib.hid (show hasR ⟨xs, xd, xw⟩ (r :: l) = sumA r.arcs from by rw [hasR, if_pos hrs])
                  clear ha2
                  go_wp2_with fail
                  refine (HSM.out w6 (Below.refl _ _)).mono ?_
                  rintro e w6' ⟨rfl, rfl⟩
                  rw [sumOf_arcM]
                  have hS : sumA r.arcs ≤ 2147483647 := HSA.out
                  have hxw : xw < 4294967296 := HXF.out.2.2
                  by_cases hov : (2147483647 : Int) < ((sumA r.arcs : Nat) : Int) + (xw : Int)
                  · have HE := Lib.hid (show keysG [] none keys = ([], 10) from by rw [HG.out, HU.out, HHS.out, if_neg (by decide), if_pos (by show 2147483647 < sumA r.arcs + xw; omega)])
                    have HB9 := Lib.hid (show Below w.heap.size w (w6.alloc (.cells #[] 51)) from HW6.out.alloc HW6.out.size _)
                    go_wp2_with fail
                    go_ret2
                    exact ks_err HB9.out _ HE.out
                  · have HG2 := Lib.hid (show keysG [] none keys = keysG (addR ⟨xs, xd, xw⟩ (r :: l)) (some ⟨xs, xd, xw⟩) (keys.drop (k + 1)) from by rw [HG.out, HU.out, HHS.out, if_neg (by decide), if_neg (by show ¬ 2147483647 < sumA r.arcs + xw; omega)])
                    have HWI := Lib.hid (mwith_any (some b) m cc (r :: l) ⟨xs, xd, xw⟩ HXF.out w6 HI.out.len HI.out.cap.1 HI.out.ok (by omega) (by rw [HHS.out]; show sumA r.arcs + xw ≤ _; omega) (lo := H + 2) (by have := BL6.out.lt; have := HI.out.low.size; have := HW6.out.size; have := HS0.out; have := HB0.out.size; omega) AT6.out)
                    go_wp2_with fail
                    refine HWI.out.mono ?_
                    rintro e w7 ⟨A7, n7, c7, rfl, hl7, hn7, hc7, hr7, hb7⟩
                    have BX7 := Lib.hid (BX6.out.past hb7)
                    have BL7 := Lib.hid (BL6.out.past hb7)
                    have q0 : w7.cell? ⟨Bx, 0, none⟩ = some (.int .u32 (xs : Int)) := BX7.out.cell rfl
                    have q1 : w7.cell? ⟨Bx, 1, none⟩ = some (.int .u32 (xd : Int)) := BX7.out.cell rfl
                    have q2 : w7.cell? ⟨Bx, 2, none⟩ = some (.int .u32 (xw : Int)) := BX7.out.cell rfl
                    have s0 : w7.cell? ⟨H + 1, 0, none⟩ = some (.int .u32 (ys : Int)) := BL7.out.cell rfl
                    have s1 : w7.cell? ⟨H + 1, 1, none⟩ = some (.int .u32 (yd : Int)) := BL7.out.cell rfl
                    have s2 : w7.cell? ⟨H + 1, 2, none⟩ = some (.int .u32 (yw : Int)) := BL7.out.cell rfl
                    have f0 := BL7.out.frozen 0
                    have f1 := BL7.out.frozen 1
                    have f2 := BL7.out.frozen 2
                    have HN := Lib.hid (show KsI w (((w7.setCell ⟨H + 1, 0, none⟩ (.int .u32 (xs : Int))).setCell ⟨H + 1, 1, none⟩ (.int .u32 (xd : Int))).setCell ⟨H + 1, 2, none⟩ (.int .u32 (xw : Int))) H n keys (k + 1) n7 c7 A7 (addR ⟨xs, xd, xw⟩ (r :: l)) (some ⟨xs, xd, xw⟩) from
                      ⟨HI.out.ok.next HXF.out (by rw [HHS.out]; show sumA r.arcs + xw ≤ _; omega), hl7, ⟨hn7, hc7⟩, hr7.out (ks_out3 w7 (H + 1) _ _ _) (fun j hj => by omega), HG2.out, ((BL7.out.set 0 _).set 1 _).set 2 _, (((HW6.out.trans (hb7.mono HW6.out.size)).setCell (p := ⟨H + 1, 0, none⟩) (by show w.heap.size ≤ H + 1; rw [HHE.out]; omega) _).setCell (p := ⟨H + 1, 1, none⟩) (by show w.heap.size ≤ H + 1; rw [HHE.out]; omega) _).setCell (p := ⟨H + 1, 2, none⟩) (by show w.heap.size ≤ H + 1; rw [HHE.out]; omega) _⟩)
                    clear hl7 hr7 hb7 HWI
                    go_wp2_with fail
                    go_roundw
                    case rel => exact ⟨k + 1, n7, c7, A7, _, _, rfl, by first | go_num | (rw [hkz]; rfl), by omega, HN⟩
                    case measure => simp [intOf]; omega
            · have HE := Lib.hid (show keysG [] none keys = ([], 13) from by rw [HG.out, HU.out, hlow]; rfl)
              have HB9 := Lib.hid (show Below w.heap.size w (w5.alloc (.cells #[] 51)) from (HW4.out.trans (HB5.out.mono HW4.out.size)).alloc (by have := HW4.out.size; have := HB5.out.size; omega) _)
              go_wp2
              go_ret2
              exact ks_err HB9.out _ HE.out
      · rw [if_neg h12] at hof
        subst hof
        have HE := Lib.hid (show keysG [] none keys = ([], 3) from by rw [HI.out.go, HDR.out, keysG, if_pos (.inl (by rw [HN1.out]; exact h12))])
        have HB9 := Lib.hid (show Below w.heap.size w ((w3.alloc (.cells #[.int .u32 0, .int .u32 0, .int .u32 0] 58)).alloc (.cells #[] 51)) from ((HI.out.low.trans (HB3.out.mono HI.out.low.size)).alloc (by have := HI.out.low.size; have := HB3.out.size; omega) _).alloc (by rw [World.size_alloc]; have := HI.out.low.size; have := HB3.out.size; omega) _)
        go_wp2
        go_ret2
        exact ks_err HB9.out _ HE.out
    · have hkn : k = n := by omega
      subst hkn
      have hlti : ¬ (k : Int) < (k : Int) := by omega
      have HE := Lib.hid (show keysG [] none keys = (rows, 0) from by rw [HI.out.go, List.drop_eq_nil_of_le (by rw [HK.out, List.length_map, HL.out]; exact Nat.le_refl _)]; rfl)
      have FIN := Lib.hid (show KsPost w (keysG [] none keys) (.returned (.tuple #[.slice L m cc, .int .i64 0])) wr from by
        rw [HE.out]
        obtain ⟨vs, v1, v2, v3⟩ := HI.out.at_.ex
        exact ⟨L, m, cc, rfl, HI.out.len, HI.out.cap.1, HI.out.cap.2, ⟨⟨vs, v1, v2, fun i p r hp hr => { v3 i p r hp hr with low := fun a ha => by have := (v3 i p r hp hr).low a ha; have := HHE.out; omega }⟩, fun h0 a ha => by have := HI.out.at_.low h0 a ha; have := HHE.out; omega⟩, HI.out.low⟩)
      go_wp2
      go_ret2
      exact FIN.out
end Go.Proofs.Yteaibgnelnblnaa
end
