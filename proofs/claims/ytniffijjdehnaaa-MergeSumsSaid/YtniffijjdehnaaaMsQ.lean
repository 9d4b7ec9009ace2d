/- What MergeSums asks of rows, off their weights. Plain. -/
import Derived.Test.YtniffijjdehnaaaMkS
namespace Go.Proofs.Ytniffijjdehnaaa
open Go.RowKit Me Tx Ed Mg Va

theorem wt_le_wf (f t : Nat) : ∀ l : List EdD, wt f t l ≤ wf f l
  | [] => Nat.le_refl _
  | x :: l => by
    have := wt_le_wf f t l
    rw [wt, wf]
    by_cases h1 : x.src = f
    · by_cases h2 : x.dst = t
      · rw [if_pos ⟨h1, h2⟩, if_pos h1]; omega
      · rw [if_neg (fun h => h2 h.2), if_pos h1]; omega
    · rw [if_neg (fun h => h1 h.1), if_neg h1]; omega
theorem wf_none {f : Nat} : ∀ {l : List EdD}, (∀ x ∈ l, x.src ≠ f) → wf f l = 0
  | [], _ => rfl
  | x :: l, h => by rw [wf, if_neg (h x List.mem_cons_self), wf_none (fun y hy => h y (List.mem_cons_of_mem _ hy))]
theorem wf_few (f : Nat) : ∀ {l : List EdD}, (∀ x ∈ l, FitE x) → wf f l ≤ l.length * 4294967295
  | [], _ => Nat.le_refl _
  | x :: l, h => by
    have h1 := (h x List.mem_cons_self).2.2
    have h2 := wf_few f (fun y hy => h y (List.mem_cons_of_mem x hy))
    rw [wf, List.length_cons]
    split <;> omega
theorem wf_step {f : Nat} {l : List EdD} {k : Nat} {x : EdD} (h : l[k]? = some x) : wf f (l.take (k + 1)) = wf f (l.take k) + if x.src = f then x.wgt else 0 := by
  rw [List.take_add_one, h, wf_append]
  rfl
theorem wt_step {f t : Nat} {l : List EdD} {k : Nat} {x : EdD} (h : l[k]? = some x) : wt f t (l.take (k + 1)) = wt f t (l.take k) + if x.src = f ∧ x.dst = t then x.wgt else 0 := by
  rw [List.take_add_one, h, wt_append]
  rfl
theorem wf_take (f : Nat) (l : List EdD) (k : Nat) : wf f (l.take k) ≤ wf f l := by
  have := wf_mono (f := f) (l.take k) (l.drop k)
  rwa [List.take_append_drop] at this
theorem wt_take (f t : Nat) (l : List EdD) (k : Nat) : wt f t (l.take k) ≤ wt f t l := by
  have := wt_append f t (l.take k) (l.drop k)
  rw [List.take_append_drop] at this
  omega
/-- Is there a vertex that has too much, among the first ones? -/
def overE (l : List EdD) (k : Nat) : Bool := (l.take k).any fun x => decide (2147483647 < wf x.src l)
theorem overE_step {l : List EdD} {k : Nat} {x : EdD} (h : l[k]? = some x) : overE l (k + 1) = (overE l k || decide (2147483647 < wf x.src l)) := by
  unfold overE
  rw [List.take_add_one, h, List.any_append]
  simp
theorem overE_true {l : List EdD} : overE l l.length = true ↔ ∃ f, 2147483647 < wf f l := by
  unfold overE
  rw [List.take_length, List.any_eq_true]
  constructor
  · rintro ⟨x, -, h⟩
    exact ⟨x.src, of_decide_eq_true h⟩
  · rintro ⟨f, h⟩
    by_cases hx : ∃ x ∈ l, x.src = f
    · obtain ⟨x, hx, rfl⟩ := hx
      exact ⟨x, hx, decide_eq_true h⟩
    · rw [wf_none (fun x hx' e => hx ⟨x, hx', e⟩)] at h
      omega
/-! The pairs of vertices. -/
theorem nodup_len {α : Type} : ∀ {a b : List α}, a.Nodup → b.Nodup → (∀ x, x ∈ a ↔ x ∈ b) → a.length = b.length
  | [], b, _, _, h => by
    cases b with
    | nil => rfl
    | cons y b => exact absurd ((h y).2 List.mem_cons_self) (by simp)
  | x :: a, b, ha, hb, h => by
    obtain ⟨b1, b2, rfl⟩ := List.append_of_mem ((h x).1 List.mem_cons_self)
    have ha' := List.nodup_cons.1 ha
    have hb' : (x :: (b1 ++ b2)).Nodup := (List.perm_middle.nodup_iff).1 hb
    have hb2 := List.nodup_cons.1 hb'
    have ih := nodup_len ha'.2 hb2.2 (fun y => by
      have := h y
      constructor
      · intro hy
        have h1 := this.1 (List.mem_cons_of_mem _ hy)
        have hne : y ≠ x := fun e => ha'.1 (e ▸ hy)
        simp only [List.mem_append, List.mem_cons] at h1 ⊢
        rcases h1 with h1 | h1 | h1
        · exact .inl h1
        · exact absurd h1 hne
        · exact .inr h1
      · intro hy
        have hne : y ≠ x := fun e => hb2.1 (e ▸ hy)
        have h1 := this.2 (by
          simp only [List.mem_append, List.mem_cons] at hy ⊢
          rcases hy with h | h
          · exact .inl h
          · exact .inr (.inr h))
        rcases List.mem_cons.1 h1 with h1 | h1
        · exact absurd h1 hne
        · exact h1)
    rw [List.length_cons, ih]
    simp only [List.length_append, List.length_cons]
    omega
/-- The pair of an edge is new behind others. -/
def fresh (l : List EdD) (x : EdD) : Bool := l.all fun y => y.src != x.src || y.dst != x.dst
/-- How many pairs there are. -/
def dis : List EdD → List (Nat × Nat)
  | l => l.foldl (fun acc x => if (x.src, x.dst) ∈ acc then acc else (x.src, x.dst) :: acc) []
theorem dis_nil : dis [] = [] := rfl
theorem dis_snoc (l : List EdD) (x : EdD) : dis (l ++ [x]) = if (x.src, x.dst) ∈ dis l then dis l else (x.src, x.dst) :: dis l := by
  unfold dis
  rw [List.foldl_append]
  rfl
theorem dis_all (l : List EdD) : (dis l).Nodup ∧ ∀ f t, (f, t) ∈ dis l ↔ ∃ x ∈ l, x.src = f ∧ x.dst = t := by
  have key : ∀ k, k ≤ l.length → (dis (l.take k)).Nodup ∧ ∀ f t, (f, t) ∈ dis (l.take k) ↔ ∃ x ∈ l.take k, x.src = f ∧ x.dst = t := by
    intro k
    induction k with
    | zero => intro _; simp [dis_nil]
    | succ k ih =>
      intro hk
      obtain ⟨h1, h2⟩ := ih (by omega)
      have hx : l[k]? = some l[k] := List.getElem?_eq_getElem (by omega)
      rw [List.take_add_one, hx]
      show (dis (l.take k ++ [l[k]])).Nodup ∧ ∀ f t, (f, t) ∈ dis (l.take k ++ [l[k]]) ↔ ∃ x ∈ l.take k ++ [l[k]], x.src = f ∧ x.dst = t
      rw [dis_snoc]
      split
      · rename_i hm
        refine ⟨h1, fun f t => ⟨fun h => ?_, fun h => ?_⟩⟩
        · obtain ⟨x, hx, hp⟩ := (h2 f t).1 h
          exact ⟨x, List.mem_append_left _ hx, hp⟩
        · obtain ⟨x, hx, hp⟩ := h
          rcases List.mem_append.1 hx with hx | hx
          · exact (h2 f t).2 ⟨x, hx, hp⟩
          · rw [List.mem_singleton.1 hx] at hp
            rw [← hp.1, ← hp.2]
            exact hm
      · rename_i hm
        refine ⟨List.nodup_cons.2 ⟨hm, h1⟩, fun f t => ⟨fun h => ?_, fun h => ?_⟩⟩
        · rcases List.mem_cons.1 h with h | h
          · injection h with ha hb
            exact ⟨l[k], List.mem_append_right _ List.mem_cons_self, ha.symm, hb.symm⟩
          · obtain ⟨x, hx, hp⟩ := (h2 f t).1 h
            exact ⟨x, List.mem_append_left _ hx, hp⟩
        · obtain ⟨x, hx, hp⟩ := h
          rcases List.mem_append.1 hx with hx | hx
          · exact List.mem_cons_of_mem _ ((h2 f t).2 ⟨x, hx, hp⟩)
          · rw [List.mem_singleton.1 hx] at hp
            rw [← hp.1, ← hp.2]
            exact List.mem_cons_self
  have := key l.length (Nat.le_refl _)
  rwa [List.take_length] at this
theorem dis_step {l : List EdD} {k : Nat} {x : EdD} (h : l[k]? = some x) : (dis (l.take (k + 1))).length = (dis (l.take k)).length + if fresh (l.take k) x = true then 1 else 0 := by
  have hm := (dis_all (l.take k)).2 x.src x.dst
  rw [List.take_add_one, h]
  show (dis (l.take k ++ [x])).length = _
  rw [dis_snoc]
  by_cases hf : fresh (l.take k) x = true
  · rw [if_pos hf, if_neg, List.length_cons]
    intro hin
    obtain ⟨y, hy, h1, h2⟩ := hm.1 hin
    have := List.all_eq_true.1 hf y hy
    simp [h1, h2] at this
  · rw [if_neg hf, if_pos, Nat.add_zero]
    refine hm.2 ?_
    rw [fresh, List.all_eq_true] at hf
    refine Classical.byContradiction fun hc => hf fun y hy => ?_
    by_cases h1 : y.src = x.src
    · by_cases h2 : y.dst = x.dst
      · exact absurd ⟨y, hy, h1, h2⟩ hc
      · simp [h2]
    · simp [h1]
theorem fresh_step {l : List EdD} {x y : EdD} {j i : Nat} (hj : j < i) (h : l[j]? = some y) : fresh ((l.take i).take (j + 1)) x = (fresh ((l.take i).take j) x && (y.src != x.src || y.dst != x.dst)) := by
  have h1 : (l.take i)[j]? = some y := by rw [List.getElem?_take, if_pos hj]; exact h
  unfold fresh
  rw [List.take_add_one, h1, List.all_append]
  simp
/-- Where edges have weights, a pair has some just if an edge has it. -/
theorem wt_pos {f t : Nat} : ∀ {l : List EdD}, (∀ x ∈ l, 0 < x.wgt) → (0 < wt f t l ↔ ∃ x ∈ l, x.src = f ∧ x.dst = t)
  | [], _ => by simp [wt]
  | x :: l, h => by
    have ih := wt_pos (f := f) (t := t) (l := l) (fun y hy => h y (List.mem_cons_of_mem _ hy))
    have hx := h x List.mem_cons_self
    rw [wt]
    by_cases hq : x.src = f ∧ x.dst = t
    · rw [if_pos hq]
      exact ⟨fun _ => ⟨x, List.mem_cons_self, hq⟩, fun _ => by omega⟩
    · rw [if_neg hq, Nat.zero_add, ih]
      constructor
      · rintro ⟨y, hy, hp⟩; exact ⟨y, List.mem_cons_of_mem _ hy, hp⟩
      · rintro ⟨y, hy, hp⟩
        rcases List.mem_cons.1 hy with rfl | hy
        · exact absurd hp hq
        · exact ⟨y, hy, hp⟩
/-- The pairs of rows. -/
def pairsR (R : List RowR) : List (Nat × Nat) := R.flatMap fun r => r.arcs.map fun a => (r.src, a.dst)
theorem pairs_mem {R : List RowR} (h : RowsOk R) (f t : Nat) : (f, t) ∈ pairsR R ↔ 0 < wtR f t R := by
  unfold pairsR
  rw [List.mem_flatMap]
  constructor
  · rintro ⟨r, hr, ha⟩
    rw [List.mem_map] at ha
    obtain ⟨a, ha, e⟩ := ha
    injection e with e1 e2
    subst e1 e2
    obtain ⟨h1, h2⟩ := (h.arc hr a).1 ha
    omega
  · intro hw
    by_cases hx : ∃ r ∈ R, r.src = f
    · obtain ⟨r, hr, rfl⟩ := hx
      refine ⟨r, hr, ?_⟩
      rw [wtR_mem h.srcs hr rfl] at hw
      rw [List.mem_map]
      by_cases hy : ∃ a ∈ r.arcs, a.dst = t
      · obtain ⟨a, ha, rfl⟩ := hy
        exact ⟨a, ha, rfl⟩
      · rw [wtA_zero (fun a ha e => hy ⟨a, ha, e⟩)] at hw
        omega
    · rw [wtR_zero (fun r hr e => hx ⟨r, hr, e⟩)] at hw
      omega
theorem pairs_row (s : Nat) : ∀ {A : List ArcR}, (A.Pairwise fun a b => b.dst < a.dst) → (A.map fun a => (s, a.dst)).Nodup
  | [], _ => by simp
  | a :: A, h => by
    obtain ⟨h1, h2⟩ := List.pairwise_cons.1 h
    rw [List.map_cons, List.nodup_cons]
    refine ⟨fun hm => ?_, pairs_row s h2⟩
    rw [List.mem_map] at hm
    obtain ⟨b, hb, e⟩ := hm
    injection e with _ e
    have := h1 b hb
    omega
theorem pairs_nodup : ∀ {R : List RowR}, (R.Pairwise fun a b => b.src < a.src) → (∀ r ∈ R, r.arcs.Pairwise fun a b => b.dst < a.dst) → (pairsR R).Nodup
  | [], _, _ => by simp [pairsR]
  | r :: R, h, k => by
    obtain ⟨h1, h2⟩ := List.pairwise_cons.1 h
    have ih := pairs_nodup h2 (fun q hq => k q (List.mem_cons_of_mem _ hq))
    show ((r.arcs.map fun a => (r.src, a.dst)) ++ pairsR R).Nodup
    rw [List.nodup_append]
    refine ⟨pairs_row _ (k r List.mem_cons_self), ih, fun p hp q hq e => ?_⟩
    subst e
    rw [List.mem_map] at hp
    obtain ⟨a, ha, rfl⟩ := hp
    unfold pairsR at hq
    rw [List.mem_flatMap] at hq
    obtain ⟨s, hs, hq⟩ := hq
    rw [List.mem_map] at hq
    obtain ⟨b, hb, e⟩ := hq
    injection e with e1 e2
    have := h1 s hs
    omega
/-- How many arcs rows have. -/
def cntR (L : List RwD) : Nat := (L.map fun r => r.2.length).sum
theorem cnt_append (a b : List RwD) : cntR (a ++ b) = cntR a + cntR b := by simp [cntR]
theorem cnt_rowM : ∀ R : List RowR, cntR (rowM R) = (pairsR R).length
  | [] => rfl
  | r :: R => by
    rw [rowM_cons, cnt_append, cnt_rowM R]
    show _ = ((r.arcs.map fun a => (r.src, a.dst)) ++ pairsR R).length
    rw [List.length_append, List.length_map]
    simp [cntR, arcM_length]
    omega
theorem cnt_take {L : List RwD} {i : Nat} {r : RwD} (h : L[i]? = some r) : cntR (L.take (i + 1)) = cntR (L.take i) + r.2.length := by
  rw [List.take_add_one, h, cnt_append]
  simp [cntR]
/-- Arcs that rise, the last one first. -/
theorem rises_arcQ : ∀ {A : List ArcR}, (A.Pairwise fun a b => b.dst < a.dst) → (∀ a ∈ A, 0 < a.wgt) → rises 0 (arcM A) = true ∧ ∀ a A', A = a :: A' → leastOf (arcM A) = a.dst + 1
  | [], _, _ => ⟨rfl, fun a A' h => by cases h⟩
  | a :: A, h, hp => by
    obtain ⟨h1, h2⟩ := List.pairwise_cons.1 h
    obtain ⟨i1, i2⟩ := rises_arcQ h2 (fun b hb => hp b (List.mem_cons_of_mem _ hb))
    rw [arcM_cons]
    refine ⟨?_, fun b A' e => by injection e with e1 e2; subst e1; exact leastOf_snoc _ _⟩
    rw [rises_snoc, i1]
    have h3 := hp a List.mem_cons_self
    have h4 : leastOf (arcM A) ≤ a.dst := by
      cases A with
      | nil => exact Nat.zero_le _
      | cons b A =>
        rw [i2 b A rfl]
        have := h1 b List.mem_cons_self
        omega
    simp
    omega
/-- What the law asks of rows. -/
structure SumsOk (l : List EdD) (L : List RwD) : Prop where
  may_ : ∀ r ∈ L, may r.2 = true ∧ 0 < r.2.length
  rise : ∀ i r s, L[i]? = some r → L[i + 1]? = some s → r.1 < s.1
  sums : ∀ r ∈ L, ∀ a ∈ r.2, wt r.1 a.to l = a.weight
  num : cntR L = (dis l).length
theorem rise_rowM : ∀ {R : List RowR}, (R.Pairwise fun a b => b.src < a.src) → ∀ (i : Nat) (r s : RwD), (rowM R)[i]? = some r → (rowM R)[i + 1]? = some s → r.1 < s.1
  | [], _, i, r, s, h, _ => by simp [rowM] at h
  | q :: R, h, i, r, s, hi, hj => by
    obtain ⟨h1, h2⟩ := List.pairwise_cons.1 h
    rw [rowM_cons] at hi hj
    have hlt : i + 1 < (rowM R).length + 1 := by
      have := (List.getElem?_eq_some_iff.1 hj).1
      rw [List.length_append] at this
      simpa using this
    rw [List.getElem?_append_left (by omega)] at hi
    by_cases he : i + 1 = (rowM R).length
    · rw [List.getElem?_append_right (by omega), he, Nat.sub_self] at hj
      injection hj with hj
      subst hj
      have hm := List.mem_of_getElem? hi
      unfold rowM at hm
      rw [List.mem_reverse, List.mem_map] at hm
      obtain ⟨p, hp, rfl⟩ := hm
      exact h1 p hp
    · rw [List.getElem?_append_left (by omega)] at hj
      exact rise_rowM h2 i r s hi hj
theorem sums_ok {l : List EdD} {R : List RowR} (hp : ∀ x ∈ l, 0 < x.wgt) (hR : RowsOk R) (h1 : ∀ f t, wtR f t R = wt f t l) (h2 : ∀ f, wfR f R = wf f l) (h3 : ∀ f, wf f l ≤ 2147483647) : SumsOk l (rowM R) := by
  refine ⟨fun r hr => ?_, rise_rowM hR.srcs, fun r hr a ha => ?_, ?_⟩
  · unfold rowM at hr
    rw [List.mem_reverse, List.mem_map] at hr
    obtain ⟨q, hq, rfl⟩ := hr
    refine ⟨?_, ?_⟩
    · unfold may
      rw [(rises_arcQ (hR.dsts q hq) (hR.pos q hq)).1, sumOf_arcM, Bool.true_and, decide_eq_true_eq]
      have hle : ∀ {R : List RowR}, (R.Pairwise fun a b => b.src < a.src) → q ∈ R → sumA q.arcs ≤ wfR q.src R := fun {R} _ hm => by
        induction R with
        | nil => cases hm
        | cons p R ih =>
          rw [wfR]
          rcases List.mem_cons.1 hm with rfl | hm
          · rw [if_pos rfl]; omega
          · have := ih (List.pairwise_cons.1 ‹_›).2 hm
            omega
      have := hle hR.srcs hq
      rw [h2] at this
      exact Nat.le_trans this (h3 _)
    · show 0 < (arcM q.arcs).length
      rw [arcM_length]
      exact List.length_pos_iff.2 (hR.full q hq)
  · unfold rowM at hr
    rw [List.mem_reverse, List.mem_map] at hr
    obtain ⟨q, hq, rfl⟩ := hr
    have ha' : a ∈ (q.arcs.map fun a => (⟨a.dst, a.wgt⟩ : ArcD)).reverse := ha
    rw [List.mem_reverse, List.mem_map] at ha'
    obtain ⟨b, hb, rfl⟩ := ha'
    rw [← h1]
    exact ((hR.arc hq b).1 hb).2
  · rw [cnt_rowM]
    refine nodup_len (pairs_nodup hR.srcs hR.dsts) (dis_all l).1 (fun p => ?_)
    obtain ⟨f, t⟩ := p
    rw [pairs_mem hR, h1, wt_pos hp, (dis_all l).2]
theorem dis_few (l : List EdD) : ∀ k, k ≤ l.length → (dis (l.take k)).length ≤ k
  | 0, _ => by simp [dis_nil]
  | k + 1, h => by
    have hx : l[k]? = some l[k] := List.getElem?_eq_getElem (by omega)
    have := dis_few l k (by omega)
    rw [dis_step hx]
    split <;> omega
theorem cnt_le (L : List RwD) (i : Nat) : cntR (L.take i) ≤ cntR L := by
  have := cnt_append (L.take i) (L.drop i)
  rw [List.take_append_drop] at this
  omega
theorem cnt_all (L : List RwD) : cntR (L.take L.length) = cntR L := by rw [List.take_length]
end Go.Proofs.Ytniffijjdehnaaa
