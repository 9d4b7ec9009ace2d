/- Keys of edges, and their rows: plain mathematics. -/
import Derived.Test.YtniffijjdehnaaaMgP
import Derived.WalkKit
namespace Go.Proofs.Ytniffijjdehnaaa.Mg
open Ed

/-- A number's four bytes, the highest one first. -/
def be4 (n : Nat) : List UInt8 := [UInt8.ofNat (n / 16777216), UInt8.ofNat (n / 65536 % 256), UInt8.ofNat (n / 256 % 256), UInt8.ofNat (n % 256)]
/-- The number of four bytes. -/
def nb4 : List UInt8 → Nat
  | [a, b, c, d] => 16777216 * a.toNat + 65536 * b.toNat + 256 * c.toNat + d.toNat
  | _ => 0
theorem be4_length (n : Nat) : (be4 n).length = 4 := rfl
theorem nat_u8 {n : Nat} (h : n < 256) : (UInt8.ofNat n).toNat = n := by rw [UInt8.toNat_ofNat']; omega
theorem nb4_be4 {n : Nat} (h : n < 4294967296) : nb4 (be4 n) = n := by
  show 16777216 * (UInt8.ofNat (n / 16777216)).toNat + 65536 * (UInt8.ofNat (n / 65536 % 256)).toNat + 256 * (UInt8.ofNat (n / 256 % 256)).toNat + (UInt8.ofNat (n % 256)).toNat = n
  rw [nat_u8 (by omega), nat_u8 (by omega), nat_u8 (by omega), nat_u8 (by omega)]
  omega
theorem nb4_lt (l : List UInt8) : nb4 l < 4294967296 := by
  unfold nb4
  split
  · rename_i a b c d
    have := a.toNat_lt
    have := b.toNat_lt
    have := c.toNat_lt
    have := d.toNat_lt
    omega
  · decide
theorem be4_nb4 {l : List UInt8} (h : l.length = 4) : be4 (nb4 l) = l := by
  match l, h with
  | [a, b, c, d], _ =>
    have h1 := a.toNat_lt
    have h2 := b.toNat_lt
    have h3 := c.toNat_lt
    have h4 := d.toNat_lt
    show be4 (16777216 * a.toNat + 65536 * b.toNat + 256 * c.toNat + d.toNat) = _
    unfold be4
    rw [show (16777216 * a.toNat + 65536 * b.toNat + 256 * c.toNat + d.toNat) / 16777216 = a.toNat by omega,
      show (16777216 * a.toNat + 65536 * b.toNat + 256 * c.toNat + d.toNat) / 65536 % 256 = b.toNat by omega,
      show (16777216 * a.toNat + 65536 * b.toNat + 256 * c.toNat + d.toNat) / 256 % 256 = c.toNat by omega,
      show (16777216 * a.toNat + 65536 * b.toNat + 256 * c.toNat + d.toNat) % 256 = d.toNat by omega]
    simp
theorem u8_lt {m n : Nat} (hm : m < 256) (hn : n < 256) : decide (UInt8.ofNat m < UInt8.ofNat n) = decide (m < n) := by
  rw [Bool.eq_iff_iff]
  simp only [decide_eq_true_eq, UInt8.lt_iff_toNat_lt, nat_u8 hm, nat_u8 hn]
theorem u8_eq {m n : Nat} (hm : m < 256) (hn : n < 256) : (UInt8.ofNat m == UInt8.ofNat n) = decide (m = n) := by
  rw [Bool.eq_iff_iff]
  simp only [decide_eq_true_eq, beq_iff_eq]
  refine ⟨fun h => ?_, fun h => by rw [h]⟩
  have := congrArg UInt8.toNat h
  rwa [nat_u8 hm, nat_u8 hn] at this
theorem less_be4 {m n : Nat} (hm : m < 4294967296) (hn : n < 4294967296) (x y : List UInt8) : Op.bytesLess (be4 m ++ x) (be4 n ++ y) = (decide (m < n) || (decide (m = n) && Op.bytesLess x y)) := by
  unfold be4
  simp only [List.cons_append, List.nil_append, Op.bytesLess]
  rw [u8_lt (by omega) (by omega), u8_lt (by omega) (by omega), u8_lt (by omega) (by omega), u8_lt (by omega) (by omega), u8_eq (by omega) (by omega), u8_eq (by omega) (by omega), u8_eq (by omega) (by omega), u8_eq (by omega) (by omega)]
  cases hz : Op.bytesLess x y <;> rw [Bool.eq_iff_iff] <;> simp only [Bool.or_eq_true, Bool.and_eq_true, decide_eq_true_eq, Bool.false_eq_true, and_false, or_false, and_true] <;> omega
/-- It is an edge of numbers of 32 bits. -/
def FitE (x : EdD) : Prop := x.src < 4294967296 ∧ x.dst < 4294967296 ∧ x.wgt < 4294967296
/-- An edge's key. -/
def keyB (x : EdD) : List UInt8 := be4 x.src ++ (be4 x.dst ++ be4 x.wgt)
theorem keyB_length (x : EdD) : (keyB x).length = 12 := rfl
/-- A key's edge. -/
def edB (b : List UInt8) : EdD := ⟨nb4 (b.take 4), nb4 ((b.drop 4).take 4), nb4 (b.drop 8)⟩
def ofB (b : List UInt8) : Option EdD := if b.length = 12 then some (edB b) else none
theorem edB_fit (b : List UInt8) : FitE (edB b) := ⟨nb4_lt _, nb4_lt _, nb4_lt _⟩
theorem edB_key {x : EdD} (h : FitE x) : edB (keyB x) = x := by
  show (⟨nb4 (be4 x.src), nb4 (be4 x.dst), nb4 (be4 x.wgt)⟩ : EdD) = x
  rw [nb4_be4 h.1, nb4_be4 h.2.1, nb4_be4 h.2.2]
theorem ofB_key {x : EdD} (h : FitE x) : ofB (keyB x) = some x := by
  unfold ofB
  rw [if_pos (keyB_length x), edB_key h]
theorem key_edB {b : List UInt8} (h : b.length = 12) : keyB (edB b) = b := by
  show be4 (nb4 (b.take 4)) ++ (be4 (nb4 ((b.drop 4).take 4)) ++ be4 (nb4 (b.drop 8))) = b
  rw [be4_nb4 (by rw [List.length_take]; omega), be4_nb4 (by rw [List.length_take, List.length_drop]; omega), be4_nb4 (by rw [List.length_drop]; omega)]
  have h1 : (b.drop 4).take 4 ++ b.drop 8 = b.drop 4 := by
    have := List.take_append_drop 4 (b.drop 4)
    rwa [List.drop_drop] at this
  rw [h1, List.take_append_drop]
theorem ofB_some {b : List UInt8} {x : EdD} (h : ofB b = some x) : b.length = 12 ∧ keyB x = b ∧ FitE x ∧ x = edB b := by
  unfold ofB at h
  split at h
  · rename_i hl
    injection h with h
    subst h
    exact ⟨hl, key_edB hl, edB_fit b, rfl⟩
  · cases h
/-- Keys are in the order of their edges. -/
theorem less_key {x y : EdD} (hx : FitE x) (hy : FitE y) : Op.bytesLess (keyB x) (keyB y) = lowE x y := by
  unfold keyB lowE
  rw [less_be4 hx.1 hy.1, less_be4 hx.2.1 hy.2.1]
  have h3 := less_be4 hx.2.2 hy.2.2 [] []
  rw [List.append_nil, List.append_nil] at h3
  rw [h3]
  have h4 : Op.bytesLess [] [] = false := rfl
  rw [h4, Bool.and_false, Bool.or_false]
/-- The rows of keys, behind those that are there: the last one first; or the error. -/
def keysG (rows : List RowR) (last : Option EdD) : List (List UInt8) → List RowR × Int
  | [] => (rows, 0)
  | b :: l => if b.length ≠ 12 ∨ (edB b).wgt = 0 then ([], 3) else if under last (edB b) then ([], 13) else if 2147483647 < hasR (edB b) rows + (edB b).wgt then ([], 10) else keysG (addR (edB b) rows) (some (edB b)) l
/-- The keys of edges. -/
theorem keysG_edges : ∀ (l : List EdD) (rows : List RowR) (last : Option EdD), (∀ x ∈ l, FitE x) → keysG rows last (l.map keyB) = rowsG rows last l
  | [], _, _, _ => rfl
  | x :: l, rows, last, h => by
    rw [List.map_cons, keysG, rowsG, edB_key (h x List.mem_cons_self)]
    have e : (keyB x).length ≠ 12 ∨ x.wgt = 0 ↔ x.wgt = 0 := ⟨fun h => h.elim (fun h => absurd (keyB_length x) h) id, .inr⟩
    by_cases h0 : x.wgt = 0
    · rw [if_pos h0, if_pos (.inr h0)]
    · rw [if_neg h0, if_neg (fun h => h0 (e.1 h)), keysG_edges l _ _ fun y hy => h y (List.mem_cons_of_mem _ hy)]
/-- How far keys are gone through: the rows that are there, the error, in front of the first key that has one. -/
theorem keysG_append : ∀ (a b : List (List UInt8)) (rows : List RowR) (last : Option EdD), (keysG rows last a).2 = 0 → keysG rows last (a ++ b) = keysG (keysG rows last a).1 (if h : a = [] then last else some (edB (a.getLast h))) b
  | [], b, rows, last, _ => rfl
  | k :: a, b, rows, last, h => by
    rw [List.cons_append, keysG]
    rw [keysG] at h
    conv => rhs; rw [keysG]
    split at h
    · cases h
    · rename_i h0
      rw [if_neg h0, if_neg h0]
      split at h
      · cases h
      · rename_i h1
        rw [if_neg h1, if_neg h1]
        split at h
        · cases h
        · rename_i h2
          rw [if_neg h2, if_neg h2, keysG_append a b _ _ h]
          congr 1
          rw [dif_neg (by simp : k :: a ≠ [])]
          split
          · rename_i ha
            subst ha
            rfl
          · rename_i ha
            rw [List.getLast_cons ha]
/-- The error of a key behind rows that are there. -/
def errK (rows : List RowR) (last : Option EdD) (b : List UInt8) : Int :=
  if b.length ≠ 12 ∨ (edB b).wgt = 0 then 3 else if under last (edB b) then 13 else if 2147483647 < hasR (edB b) rows + (edB b).wgt then 10 else 0
/-- Keys are gone through up to the first error: how many, the rows that are there, the last edge, the error. -/
def goK (rows : List RowR) (last : Option EdD) : List (List UInt8) → Nat × List RowR × Option EdD × Int
  | [] => (0, rows, last, 0)
  | b :: l => if errK rows last b = 0 then let q := goK (addR (edB b) rows) (some (edB b)) l; (q.1 + 1, q.2) else (0, rows, last, errK rows last b)
theorem keysG_cons (rows : List RowR) (last : Option EdD) (b : List UInt8) (l : List (List UInt8)) : keysG rows last (b :: l) = if errK rows last b = 0 then keysG (addR (edB b) rows) (some (edB b)) l else ([], errK rows last b) := by
  rw [keysG]
  unfold errK
  split
  · rfl
  · split
    · rfl
    · split
      · rfl
      · rfl
theorem keysG_go : ∀ (l : List (List UInt8)) (rows : List RowR) (last : Option EdD), keysG rows last l = if (goK rows last l).2.2.2 = 0 then ((goK rows last l).2.1, 0) else ([], (goK rows last l).2.2.2)
  | [], rows, last => rfl
  | b :: l, rows, last => by
    rw [keysG_cons, goK]
    by_cases h : errK rows last b = 0
    · rw [if_pos h, if_pos h, keysG_go l]
    · rw [if_neg h, if_neg h, if_neg h]
theorem goK_le : ∀ (l : List (List UInt8)) (rows : List RowR) (last : Option EdD), (goK rows last l).1 ≤ l.length ∧ ((goK rows last l).2.2.2 = 0 ↔ (goK rows last l).1 = l.length)
  | [], rows, last => ⟨Nat.le_refl _, ⟨fun _ => rfl, fun _ => rfl⟩⟩
  | b :: l, rows, last => by
    rw [goK]
    by_cases h : errK rows last b = 0
    · rw [if_pos h]
      have := goK_le l (addR (edB b) rows) (some (edB b))
      exact ⟨Nat.succ_le_succ this.1, this.2.trans ⟨fun e => by show _ + 1 = l.length + 1; rw [e], fun e => Nat.succ.inj e⟩⟩
    · rw [if_neg h]
      exact ⟨Nat.zero_le _, ⟨fun e => absurd e h, fun e => by cases e⟩⟩
/-- The front of keys. -/
theorem goK_take : ∀ (l : List (List UInt8)) (rows : List RowR) (last : Option EdD) (n : Nat), (n ≤ (goK rows last l).1 → (goK rows last (l.take n)).2.2.2 = 0) ∧ ((goK rows last l).1 < n → n ≤ l.length → (goK rows last (l.take n)) = goK rows last l) ∧ (n = (goK rows last l).1 → (goK rows last (l.take n)).2.1 = (goK rows last l).2.1)
  | [], rows, last, n => by
    rw [List.take_nil]
    exact ⟨fun _ => rfl, fun h1 h2 => by rfl, fun _ => rfl⟩
  | b :: l, rows, last, 0 => by
    refine ⟨fun _ => rfl, fun h => by omega, fun h => ?_⟩
    rw [goK] at h ⊢
    by_cases e : errK rows last b = 0
    · rw [if_pos e] at h
      cases h
    · rw [if_neg e]
      rfl
  | b :: l, rows, last, n + 1 => by
    rw [List.take_succ_cons, goK, goK]
    by_cases e : errK rows last b = 0
    · rw [if_pos e, if_pos e]
      obtain ⟨h1, h2, h3⟩ := goK_take l (addR (edB b) rows) (some (edB b)) n
      exact ⟨fun h => h1 (Nat.le_of_succ_le_succ h), fun h k => by show (_ + 1, _) = (_ + 1, _); rw [h2 (Nat.lt_of_succ_lt_succ h) (Nat.le_of_succ_le_succ k)], fun h => h3 (Nat.succ.inj h)⟩
    · rw [if_neg e, if_neg e]
      exact ⟨(fun h => by cases h), (fun _ _ => rfl), (fun h => by cases h)⟩
/-- There are rows behind a key. -/
theorem addR_ne (x : EdD) (rows : List RowR) : addR x rows ≠ [] := by
  cases rows with
  | nil => intro h; cases h
  | cons r l =>
    rw [addR]
    split <;> (intro h; cases h)
theorem goK_rows : ∀ (l : List (List UInt8)) (rows : List RowR) (last : Option EdD), (rows ≠ [] ∨ (goK rows last l).1 ≠ 0) → (goK rows last l).2.1 ≠ []
  | [], rows, last, h => h.elim id (fun h => absurd rfl h)
  | b :: l, rows, last, h => by
    rw [goK] at h ⊢
    by_cases e : errK rows last b = 0
    · rw [if_pos e]
      exact goK_rows l _ _ (.inl (addR_ne _ _))
    · rw [if_neg e] at h ⊢
      exact h.elim id (fun h => absurd rfl h)
/-- Rows are at most as many as keys. -/
theorem addR_length (x : EdD) (rows : List RowR) : (addR x rows).length ≤ rows.length + 1 := by
  cases rows with
  | nil => exact Nat.le_refl _
  | cons r l =>
    rw [addR]
    split <;> simp
end Go.Proofs.Ytniffijjdehnaaa.Mg
