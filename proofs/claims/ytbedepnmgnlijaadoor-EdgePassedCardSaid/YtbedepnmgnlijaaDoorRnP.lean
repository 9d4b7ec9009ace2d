/- Texts in rising order: plain mathematics. -/
import Derived.Test.YtbedepnmgnlijaaDoorGen
namespace Go.Proofs.YtbedepnmgnlijaaDoor.Rn

theorem bl_cons (a b : UInt8) (x y : List UInt8) : Op.bytesLess (a :: x) (b :: y) = true ↔ a.toNat < b.toNat ∨ (a = b ∧ Op.bytesLess x y = true) := by
  rw [Op.bytesLess, Bool.or_eq_true, Bool.and_eq_true, decide_eq_true_eq, beq_iff_eq, UInt8.lt_iff_toNat_lt]
theorem bl_nil (x : List UInt8) : Op.bytesLess x [] = false := by cases x <;> rfl
theorem bl_irrefl : ∀ x : List UInt8, Op.bytesLess x x = false
  | [] => rfl
  | a :: x => by
    rw [← Bool.not_eq_true, bl_cons, bl_irrefl x]
    simp
theorem bl_trans : ∀ {x y z : List UInt8}, Op.bytesLess x y = true → Op.bytesLess y z = true → Op.bytesLess x z = true
  | _, _, [], _, h => by rw [bl_nil] at h; cases h
  | _, [], _ :: _, h, _ => by rw [bl_nil] at h; cases h
  | [], _ :: _, _ :: _, _, _ => rfl
  | a :: x, b :: y, c :: z, h, k => by
    rw [bl_cons] at h k ⊢
    rcases h with h | ⟨rfl, h⟩
    · rcases k with k | ⟨rfl, k⟩
      · exact .inl (by omega)
      · exact .inl h
    · rcases k with k | ⟨rfl, k⟩
      · exact .inl k
      · exact .inr ⟨rfl, bl_trans h k⟩
theorem bl_total : ∀ x y : List UInt8, Op.bytesLess x y = true ∨ x = y ∨ Op.bytesLess y x = true
  | [], [] => .inr (.inl rfl)
  | [], _ :: _ => .inl rfl
  | _ :: _, [] => .inr (.inr rfl)
  | a :: x, b :: y => by
    rw [bl_cons, bl_cons]
    rcases Nat.lt_trichotomy a.toNat b.toNat with h | h | h
    · exact .inl (.inl h)
    · have e : a = b := UInt8.toNat.inj h
      subst e
      rcases bl_total x y with h | h | h
      · exact .inl (.inr ⟨rfl, h⟩)
      · exact .inr (.inl (by rw [h]))
      · exact .inr (.inr (.inr ⟨rfl, h⟩))
    · exact .inr (.inr (.inl h))
/-- Not above. -/
def leB (x y : List UInt8) : Prop := Op.bytesLess y x = false
theorem leB_refl (x : List UInt8) : leB x x := bl_irrefl x
theorem leB_of {x y : List UInt8} (h : Op.bytesLess x y = true) : leB x y := by
  unfold leB
  cases q : Op.bytesLess y x with
  | false => rfl
  | true => have := bl_trans h q; rw [bl_irrefl] at this; cases this
theorem leB_iff {x y : List UInt8} : leB x y ↔ Op.bytesLess x y = true ∨ x = y := by
  refine ⟨fun h => ?_, fun h => ?_⟩
  · rcases bl_total x y with q | q | q
    · exact .inl q
    · exact .inr q
    · unfold leB at h; rw [h] at q; cases q
  · rcases h with h | rfl
    · exact leB_of h
    · exact leB_refl x
theorem leB_trans {x y z : List UInt8} (h : leB x y) (k : leB y z) : leB x z := by
  rw [leB_iff] at h k ⊢
  rcases h with h | rfl
  · rcases k with k | rfl
    · exact .inl (bl_trans h k)
    · exact .inl h
  · exact k
theorem leB_anti {x y : List UInt8} (h : leB x y) (k : leB y x) : x = y := by
  rcases leB_iff.1 h with q | q
  · unfold leB at k; rw [k] at q; cases q
  · exact q
/-- Texts that rise. -/
def Rises (l : List (List UInt8)) : Prop := l.Pairwise leB
/-- A text among those that rise, behind those that are not above it. -/
def insL (x : List UInt8) : List (List UInt8) → List (List UInt8)
  | [] => [x]
  | y :: l => if Op.bytesLess x y then x :: y :: l else y :: insL x l
def sortL (l : List (List UInt8)) : List (List UInt8) := l.foldl (fun out x => insL x out) []
theorem insL_perm (x : List UInt8) : ∀ l : List (List UInt8), (insL x l).Perm (x :: l)
  | [] => List.Perm.refl _
  | y :: l => by
    rw [insL]
    split
    · exact List.Perm.refl _
    · exact ((insL_perm x l).cons y).trans (List.Perm.swap x y l)
theorem insL_rises {x : List UInt8} : ∀ {l : List (List UInt8)}, Rises l → Rises (insL x l)
  | [], _ => List.pairwise_singleton _ _
  | y :: l, h => by
    have hp := List.pairwise_cons.1 h
    rw [insL]
    cases q : Op.bytesLess x y with
    | true =>
      rw [if_pos rfl]
      refine List.pairwise_cons.2 ⟨fun z hz => ?_, h⟩
      rcases List.mem_cons.1 hz with rfl | hz
      · exact leB_of q
      · exact leB_trans (leB_of q) (hp.1 z hz)
    | false =>
      rw [if_neg (by simp)]
      refine List.pairwise_cons.2 ⟨fun z hz => ?_, insL_rises hp.2⟩
      rcases List.mem_cons.1 ((insL_perm x l).mem_iff.1 hz) with rfl | hz
      · exact q
      · exact hp.1 z hz
theorem sortL_perm (l : List (List UInt8)) : (sortL l).Perm l := by
  have key : ∀ (l acc : List (List UInt8)), (l.foldl (fun out x => insL x out) acc).Perm (acc ++ l) := fun l => by
    induction l with
    | nil => exact fun acc => by rw [List.append_nil]; exact List.Perm.refl _
    | cons x l ih =>
      intro acc
      refine (ih _).trans (((insL_perm x acc).append_right l).trans ?_)
      exact (List.perm_middle (a := x) (l₁ := acc) (l₂ := l)).symm
  exact key l []
theorem sortL_rises (l : List (List UInt8)) : Rises (sortL l) := by
  have key : ∀ (l acc : List (List UInt8)), Rises acc → Rises (l.foldl (fun out x => insL x out) acc) := fun l => by
    induction l with
    | nil => exact fun _ h => h
    | cons x l ih => exact fun acc h => ih _ (insL_rises h)
  exact key l [] List.Pairwise.nil
/-- Rising texts are told by which they are, and how often. -/
theorem rises_one : ∀ {l m : List (List UInt8)}, Rises l → Rises m → l.Perm m → l = m
  | [], m, _, _, h => (List.nil_perm.1 h).symm
  | a :: l, [], _, _, h => by have := h.length_eq; simp at this
  | a :: l, b :: m, hl, hm, h => by
    have pl := List.pairwise_cons.1 hl
    have pm := List.pairwise_cons.1 hm
    have e : a = b := by
      rcases List.mem_cons.1 (h.mem_iff.1 (List.mem_cons_self)) with e | h1
      · exact e
      · rcases List.mem_cons.1 (h.mem_iff.2 (List.mem_cons_self)) with e | h2
        · exact e.symm
        · exact leB_anti (pl.1 b h2) (pm.1 a h1)
    subst e
    rw [rises_one pl.2 pm.2 ((List.perm_cons a).1 h)]
theorem sortL_one {l m : List (List UInt8)} (hm : Rises m) (h : m.Perm l) : sortL l = m := rises_one (sortL_rises l) hm ((sortL_perm l).trans h.symm)
theorem sortL_id {l : List (List UInt8)} (h : Rises l) : sortL l = l := sortL_one h (List.Perm.refl _)
theorem sortL_same {l m : List (List UInt8)} (h : l.Perm m) : sortL l = sortL m := sortL_one (sortL_rises m) ((sortL_perm m).trans h.symm)
end Go.Proofs.YtbedepnmgnlijaaDoor.Rn
