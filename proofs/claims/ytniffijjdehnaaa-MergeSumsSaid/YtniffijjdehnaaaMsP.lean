/- The rows of sorted edges of which some may have no weight; an edge whose weight is split. Plain. -/
import Derived.Test.YtniffijjdehnaaaMgP
namespace Go.Proofs.Ytniffijjdehnaaa.Mg
open Ed

theorem rowsG_zero : ∀ (P : List EdD) (rows : List RowR) (last : Option EdD) (z : EdD) (S : List EdD), z.wgt = 0 → rowsG rows last (P ++ z :: S) = if (rowsG rows last P).2 = 0 then ([], 3) else rowsG rows last P
  | [], rows, last, z, S, hz => by
    rw [List.nil_append, rowsG, rowsG, if_pos hz]
    simp
  | x :: P, rows, last, z, S, hz => by
    rw [List.cons_append, rowsG, rowsG]
    split
    · simp
    · split
      · simp
      · split
        · simp
        · exact rowsG_zero P _ _ z S hz
/-- Sorted edges with weights come to the same rows if their weights are the same. -/
theorem srt_same {P Q : List EdD} (hP : Srt P) (hQ : Srt Q) (h1 : ∀ x ∈ P, 0 < x.wgt) (h2 : ∀ x ∈ Q, 0 < x.wgt) (ht : ∀ f t, wt f t P = wt f t Q) (hf : ∀ f, wf f P = wf f Q) : rowsG [] none P = rowsG [] none Q := by
  have a := rowsG_sorted P [] [] none (by simpa using hP) h1 RowsOk.nil (fun _ => ⟨rfl, rfl⟩) (fun y h => by cases h) (fun _ _ => rfl) (fun _ => rfl) (fun f => by simp [wf])
  have b := rowsG_sorted Q [] [] none (by simpa using hQ) h2 RowsOk.nil (fun _ => ⟨rfl, rfl⟩) (fun y h => by cases h) (fun _ _ => rfl) (fun _ => rfl) (fun f => by simp [wf])
  simp only [List.nil_append] at a b
  rcases a with ⟨R, e1, k1, k2, k3, k4⟩ | ⟨e1, f, k1⟩ <;> rcases b with ⟨R', e2, j1, j2, j3, j4⟩ | ⟨e2, f', j1⟩
  · rw [e1, e2, k1.one j1 (fun f t => by rw [k2, j2, ht])]
  · have := k4 f'; rw [hf] at this; omega
  · have := j4 f; rw [← hf] at this; omega
  · rw [e1, e2]
/-- The pair of vertices is below another edge's. -/
def pairB (z x : EdD) : Bool := decide (x.src < z.src) || (decide (x.src = z.src) && decide (x.dst < z.dst))
theorem wt_filter_ins (p : EdD → Bool) (f t : Nat) (x : EdD) : ∀ l : List EdD, wt f t ((insE x l).filter p) = wt f t ((x :: l).filter p)
  | [] => rfl
  | y :: l => by
    rw [insE]
    split
    · rfl
    · have ih := wt_filter_ins p f t x l
      rw [List.filter_cons] at ih
      simp only [List.filter_cons]
      cases hx : p x <;> cases hy : p y <;> simp only [hx, hy, if_true, if_false, Bool.false_eq_true, wt] at ih ⊢ <;> omega
theorem wf_filter_ins (p : EdD → Bool) (f : Nat) (x : EdD) : ∀ l : List EdD, wf f ((insE x l).filter p) = wf f ((x :: l).filter p)
  | [] => rfl
  | y :: l => by
    rw [insE]
    split
    · rfl
    · have ih := wf_filter_ins p f x l
      rw [List.filter_cons] at ih
      simp only [List.filter_cons]
      cases hx : p x <;> cases hy : p y <;> simp only [hx, hy, if_true, if_false, Bool.false_eq_true, wf] at ih ⊢ <;> omega
theorem wt_filter_cons (p : EdD → Bool) (f t : Nat) (x : EdD) (l : List EdD) : wt f t ((x :: l).filter p) = (if p x = true ∧ x.src = f ∧ x.dst = t then x.wgt else 0) + wt f t (l.filter p) := by
  rw [List.filter_cons]
  cases hx : p x <;> simp [wt]
theorem wf_filter_cons (p : EdD → Bool) (f : Nat) (x : EdD) (l : List EdD) : wf f ((x :: l).filter p) = (if p x = true ∧ x.src = f then x.wgt else 0) + wf f (l.filter p) := by
  rw [List.filter_cons]
  cases hx : p x <;> simp [wf]
theorem wt_filter_fold (p : EdD → Bool) (f t : Nat) : ∀ (l out : List EdD), wt f t ((l.foldl (fun out x => insE x out) out).filter p) = wt f t (l.filter p) + wt f t (out.filter p)
  | [], out => by simp [wt]
  | x :: l, out => by
    rw [List.foldl_cons, wt_filter_fold p f t l, wt_filter_ins, wt_filter_cons, wt_filter_cons]
    omega
theorem wf_filter_fold (p : EdD → Bool) (f : Nat) : ∀ (l out : List EdD), wf f ((l.foldl (fun out x => insE x out) out).filter p) = wf f (l.filter p) + wf f (out.filter p)
  | [], out => by simp [wf]
  | x :: l, out => by
    rw [List.foldl_cons, wf_filter_fold p f l, wf_filter_ins, wf_filter_cons, wf_filter_cons]
    omega
/-- A list up to its first edge that has no weight. -/
theorem first_zero : ∀ l : List EdD, (∀ x ∈ l, 0 < x.wgt) ∨ ∃ P z S, l = P ++ z :: S ∧ z.wgt = 0 ∧ ∀ x ∈ P, 0 < x.wgt
  | [] => .inl fun x hx => by cases hx
  | x :: l => by
    by_cases h : x.wgt = 0
    · exact .inr ⟨[], x, l, rfl, h, fun y hy => by cases hy⟩
    · rcases first_zero l with h1 | ⟨P, z, S, rfl, h1, h2⟩
      · exact .inl fun y hy => by
          rcases List.mem_cons.1 hy with rfl | hy
          · omega
          · exact h1 y hy
      · exact .inr ⟨x :: P, z, S, rfl, h1, fun y hy => by
          rcases List.mem_cons.1 hy with rfl | hy
          · omega
          · exact h2 y hy⟩
/-- What stands ahead of it is what has a lower pair. -/
theorem front_filter {P S : List EdD} {z : EdD} (hs : Srt (P ++ z :: S)) (hz : z.wgt = 0) (hp : ∀ x ∈ P, 0 < x.wgt) : (P ++ z :: S).filter (pairB z) = P := by
  unfold Srt at hs
  rw [List.pairwise_append] at hs
  obtain ⟨-, h2, h3⟩ := hs
  rw [List.filter_append, List.filter_eq_self.2, List.filter_eq_nil_iff.2, List.append_nil]
  · intro x hx
    rcases List.mem_cons.1 hx with rfl | hx
    · simp [pairB]
    · have := (List.pairwise_cons.1 h2).1 x hx
      rw [lowE_no] at this
      simp only [pairB, Bool.or_eq_true, Bool.and_eq_true, decide_eq_true_eq]
      omega
  · intro x hx
    have h := h3 x hx z (List.mem_cons_self ..)
    rw [lowE_no] at h
    have hw := hp x hx
    simp only [pairB, Bool.or_eq_true, Bool.and_eq_true, decide_eq_true_eq]
    omega
/-- Edges of which the same have no weight, and that have the same weights. -/
theorem rows_alike {l m : List EdD} (hz : ∀ z : EdD, z.wgt = 0 → (z ∈ l ↔ z ∈ m)) (ht : ∀ p f t, (∀ a b : EdD, a.src = b.src → a.dst = b.dst → p a = p b) → wt f t (l.filter p) = wt f t (m.filter p)) (hf : ∀ p f, (∀ a b : EdD, a.src = b.src → a.dst = b.dst → p a = p b) → wf f (l.filter p) = wf f (m.filter p)) : rowsG [] none (sortE l) = rowsG [] none (sortE m) := by
  have et : ∀ (q : List EdD) p f t, wt f t ((sortE q).filter p) = wt f t (q.filter p) := fun q p f t => by unfold sortE; rw [wt_filter_fold]; simp [wt]
  have ef : ∀ (q : List EdD) p f, wf f ((sortE q).filter p) = wf f (q.filter p) := fun q p f => by unfold sortE; rw [wf_filter_fold]; simp [wf]
  have FT : ∀ q : List EdD, q.filter (fun _ => true) = q := fun q => List.filter_eq_self.2 (fun _ _ => rfl)
  have hl := srt_sort l
  have hm := srt_sort m
  rcases first_zero (sortE l) with h1 | ⟨P, z, S, e1, z1, p1⟩ <;> rcases first_zero (sortE m) with h2 | ⟨P', z', S', e2, z2, p2⟩
  · refine srt_same hl hm h1 h2 (fun f t => ?_) (fun f => ?_)
    · have := ht (fun _ => true) f t (fun _ _ _ _ => rfl)
      rw [FT, FT] at this
      rw [wt_sort, wt_sort]
      exact this
    · have := hf (fun _ => true) f (fun _ _ _ _ => rfl)
      rw [FT, FT] at this
      rw [wf_sort, wf_sort]
      exact this
  · have : z' ∈ sortE l := by rw [mem_sort, hz z' z2, ← mem_sort, e2]; simp
    have := h1 z' this
    omega
  · have : z ∈ sortE m := by rw [mem_sort, ← hz z z1, ← mem_sort, e1]; simp
    have := h2 z this
    omega
  · have hs1 := hl
    have hs2 := hm
    rw [e1] at hs1
    rw [e2] at hs2
    have m1 : z' ∈ P ++ z :: S := by rw [← e1, mem_sort, hz z' z2, ← mem_sort, e2]; simp
    have m2 : z ∈ P' ++ z' :: S' := by rw [← e2, mem_sort, ← hz z z1, ← mem_sort, e1]; simp
    have low : ∀ {P S : List EdD} {z y : EdD}, Srt (P ++ z :: S) → (∀ x ∈ P, 0 < x.wgt) → y.wgt = 0 → y ∈ P ++ z :: S → lowE y z = false ∨ y = z := fun {P S z y} hs hp hy hm => by
      rcases List.mem_append.1 hm with h | h
      · have := hp y h; omega
      · rcases List.mem_cons.1 h with h | h
        · exact .inr h
        · unfold Srt at hs
          exact .inl ((List.pairwise_cons.1 (List.pairwise_append.1 hs).2.1).1 y h)
    have hzz : z'.src = z.src ∧ z'.dst = z.dst := by
      rcases low hs1 p1 z2 m1 with h | rfl
      · rcases low hs2 p2 z1 m2 with k | rfl
        · rw [lowE_no] at h k
          omega
        · exact ⟨rfl, rfl⟩
      · exact ⟨rfl, rfl⟩
    have hpp : pairB z' = pairB z := by funext x; unfold pairB; rw [hzz.1, hzz.2]
    have hpi : ∀ a b : EdD, a.src = b.src → a.dst = b.dst → pairB z a = pairB z b := fun a b h1 h2 => by unfold pairB; rw [h1, h2]
    have f1 := front_filter hs1 z1 p1
    have f2 := front_filter hs2 z2 p2
    rw [hpp] at f2
    have es : rowsG [] none P = rowsG [] none P' := by
      refine srt_same ?_ ?_ p1 p2 (fun f t => ?_) (fun f => ?_)
      · unfold Srt at hs1 ⊢; exact (List.pairwise_append.1 hs1).1
      · unfold Srt at hs2 ⊢; exact (List.pairwise_append.1 hs2).1
      · rw [← f1, ← f2, ← e1, ← e2, et, et]; exact ht _ f t hpi
      · rw [← f1, ← f2, ← e1, ← e2, ef, ef]; exact hf _ f hpi
    rw [e1, e2, rowsG_zero P _ _ z S z1, rowsG_zero P' _ _ z' S' z2, es]
/-- An edge whose weight is split into two. -/
theorem splits_same {l : List EdD} {i a : Nat} {x : EdD} (hx : l[i]? = some x) (ha : 0 < a) (hax : a < x.wgt) : rowsG [] none (sortE l) = rowsG [] none (sortE (l.set i ⟨x.src, x.dst, a⟩ ++ [⟨x.src, x.dst, x.wgt - a⟩])) := by
  obtain ⟨hi, hx⟩ := List.getElem?_eq_some_iff.1 hx
  have e : l = l.take i ++ x :: l.drop (i + 1) := by rw [← hx, List.getElem_cons_drop, List.take_append_drop]
  have e2 : l.set i ⟨x.src, x.dst, a⟩ = l.take i ++ ⟨x.src, x.dst, a⟩ :: l.drop (i + 1) := by rw [List.set_eq_take_append_cons_drop, if_pos hi]
  rw [e2]
  generalize l.take i = A at e
  generalize l.drop (i + 1) = B at e
  subst e
  refine rows_alike (fun z hz => ?_) (fun p f t hp => ?_) (fun p f hp => ?_)
  · simp only [List.mem_append, List.mem_cons, List.mem_singleton, List.not_mem_nil, or_false]
    have h1 : z ≠ x := fun e => by subst e; omega
    have h2 : z ≠ ⟨x.src, x.dst, a⟩ := fun e => by subst e; simp at hz; omega
    have h3 : z ≠ ⟨x.src, x.dst, x.wgt - a⟩ := fun e => by subst e; simp at hz; omega
    simp [h1, h2, h3]
  · have h1 := hp ⟨x.src, x.dst, a⟩ x rfl rfl
    have h2 := hp ⟨x.src, x.dst, x.wgt - a⟩ x rfl rfl
    simp only [List.filter_append, wt_append, wt_filter_cons, List.filter_nil, wt, h1, h2]
    by_cases hq : p x = true ∧ x.src = f ∧ x.dst = t
    · rw [if_pos hq, if_pos hq, if_pos hq]; omega
    · rw [if_neg hq, if_neg hq, if_neg hq]; omega
  · have h1 := hp ⟨x.src, x.dst, a⟩ x rfl rfl
    have h2 := hp ⟨x.src, x.dst, x.wgt - a⟩ x rfl rfl
    simp only [List.filter_append, wf_append, wf_filter_cons, List.filter_nil, wf, h1, h2]
    by_cases hq : p x = true ∧ x.src = f
    · rw [if_pos hq, if_pos hq, if_pos hq]; omega
    · rw [if_neg hq, if_neg hq, if_neg hq]; omega
end Go.Proofs.Ytniffijjdehnaaa.Mg
