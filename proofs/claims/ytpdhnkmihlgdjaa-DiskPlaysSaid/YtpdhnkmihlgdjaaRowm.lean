/- Rows of elements of some cells each: plain mathematics. -/
import Derived.Laws.CopyOwn
namespace Go.Proofs.Ytpdhnkmihlgdjaa.Rw

/-- The cells of a row. -/
def rows {α : Type} (f : α → List Value) (l : List α) : List Value := l.flatMap f
section
variable {α : Type} {f : α → List Value} {s : Nat}
theorem rows_nil : rows f [] = [] := rfl
theorem rows_cons (x : α) (l : List α) : rows f (x :: l) = f x ++ rows f l := by simp [rows]
theorem rows_append (l m : List α) : rows f (l ++ m) = rows f l ++ rows f m := by simp [rows]
theorem rows_snoc (l : List α) (x : α) : rows f (l ++ [x]) = rows f l ++ f x := by simp [rows]
theorem rows_length : ∀ {l : List α}, (∀ x ∈ l, (f x).length = s) → (rows f l).length = l.length * s
  | [], _ => by simp [rows]
  | x :: l, h => by
    rw [rows_cons, List.length_append, h x (by simp), rows_length fun y hy => h y (by simp [hy]), List.length_cons, Nat.add_mul]
    omega
theorem rows_drop : ∀ {l : List α} {k : Nat}, (∀ x ∈ l, (f x).length = s) → (rows f l).drop (k * s) = rows f (l.drop k)
  | [], k, _ => by simp [rows]
  | x :: l, 0, _ => by simp
  | x :: l, k + 1, h => by
    rw [rows_cons, List.drop_succ_cons, ← rows_drop (l := l) (k := k) fun y hy => h y (by simp [hy])]
    rw [show (k + 1) * s = (f x).length + k * s by rw [h x (by simp), Nat.add_mul]; omega]
    rw [← List.drop_drop, List.drop_left']
    rfl
theorem rows_part {l : List α} {k : Nat} {x : α} (h : ∀ x ∈ l, (f x).length = s) (hk : l[k]? = some x) : ((rows f l).drop (k * s)).take s = f x := by
  obtain ⟨hlt, e⟩ := List.getElem?_eq_some_iff.1 hk
  have hx : (f x).length = s := h x (by rw [← e]; exact List.getElem_mem _)
  rw [rows_drop h, List.drop_eq_getElem_cons hlt, e, rows_cons, ← hx, List.take_left']
  rfl
theorem rows_get {l : List α} {k j : Nat} {x : α} (h : ∀ x ∈ l, (f x).length = s) (hk : l[k]? = some x) (hj : j < s) : (rows f l)[k * s + j]? = (f x)[j]? := by
  rw [← rows_part h hk, List.getElem?_take, if_pos hj, List.getElem?_drop]
theorem rows_set : ∀ {l : List α} {k : Nat} {x : α}, (∀ x ∈ l, (f x).length = s) → (f x).length = s → k < l.length → rows f (l.set k x) = splice (rows f l) (k * s) (f x)
  | [], k, _, _, _, hk => by simp at hk
  | y :: l, 0, x, h, hx, _ => by
    have hy := h y (by simp)
    rw [List.set_cons_zero, rows_cons, rows_cons]
    unfold splice
    rw [Nat.zero_mul, List.take_zero, List.nil_append, hx, Nat.zero_add, ← hy, List.drop_left']
    rfl
  | y :: l, k + 1, x, h, hx, hk => by
    have hy := h y (by simp)
    rw [List.set_cons_succ, rows_cons, rows_cons, rows_set (fun z hz => h z (by simp [hz])) hx (by simpa using hk)]
    unfold splice
    have e : (k + 1) * s = (f y).length + k * s := by rw [hy, Nat.add_mul]; omega
    rw [e, List.take_append, List.drop_append]
    have e1 : (f y).take ((f y).length + k * s) = f y := List.take_of_length_le (by omega)
    have e2 : (f y).drop ((f y).length + k * s + (f x).length) = [] := List.drop_of_length_le (by omega)
    rw [e1, e2, List.nil_append, List.append_assoc]
    congr 3
    · congr 1; omega
    · congr 2; omega
end
theorem set_splice {L p : List Value} {o j : Nat} (v : Value) (hp : (L.drop o).take p.length = p) (ho : o + p.length ≤ L.length) (hj : j < p.length) : L.set (o + j) v = splice L o (p.set j v) := by
  have e : L = L.take o ++ (p ++ L.drop (o + p.length)) := by
    have h1 : L.drop o = p ++ L.drop (o + p.length) := by
      rw [← List.drop_drop]
      conv => lhs; rw [← List.take_append_drop p.length (L.drop o), hp]
    rw [← h1, List.take_append_drop]
  have hl : (L.take o).length = o := by rw [List.length_take]; omega
  unfold splice
  rw [List.length_set]
  conv => lhs; rw [e]
  rw [List.set_append_right _ _ (by omega), hl, Nat.add_sub_cancel_left, List.set_append_left _ _ hj]
end Go.Proofs.Ytpdhnkmihlgdjaa.Rw
