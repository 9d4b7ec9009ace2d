/- A disk, and the document's disk: plain mathematics. -/
import Derived.Test.YtpdhnkmihlgdjaaMem
import Derived.Test.YtpdhnkmihlgdjaaRowm
namespace Go.Proofs.Ytpdhnkmihlgdjaa.Ds
open Me Rw

/-- A write: the block, its bytes. -/
structure WD where
  i : Nat
  b : List UInt8
/-- A disk. -/
structure Dsk where
  stored : List (List UInt8)
  pend : List WD
  on : Bool
  fuse : Int
/-- The document's disk. -/
structure RefM where
  count : Nat
  off : Bool
  fuse : Int
  made : List WD
  wait : List WD

def zero128 : List UInt8 := List.replicate 128 0
theorem zero128_length : zero128.length = 128 := by simp [zero128]
/-- The last one of writes of a block, or else bytes. -/
def lastW : List WD → Nat → List UInt8 → List UInt8
  | [], _, b => b
  | x :: l, i, b => lastW l i (if x.i = i then x.b else b)
theorem lastW_append : ∀ (l m : List WD) (i : Nat) (b : List UInt8), lastW (l ++ m) i b = lastW m i (lastW l i b)
  | [], _, _, _ => rfl
  | x :: l, m, i, b => by simp only [List.cons_append, lastW]; exact lastW_append l m i _
theorem lastW_snoc (l : List WD) (x : WD) (i : Nat) (b : List UInt8) : lastW (l ++ [x]) i b = if x.i = i then x.b else lastW l i b := by
  rw [lastW_append]; rfl
theorem lastW_filter : ∀ (l : List WD) (i j : Nat) (b : List UInt8), i ≠ j → lastW (l.filter fun x => decide (x.i ≠ j)) i b = lastW l i b
  | [], _, _, _, _ => rfl
  | x :: l, i, j, b, h => by
    by_cases hx : x.i = j
    · rw [List.filter_cons_of_neg (by simp [hx])]
      have : ¬ x.i = i := fun e => h (by omega)
      simp only [lastW, if_neg this]
      exact lastW_filter l i j b h
    · rw [List.filter_cons_of_pos (by simp [hx])]
      simp only [lastW]
      exact lastW_filter l i j _ h
/-- A write more for good. -/
def put (l : List WD) (x : WD) : List WD := (l.filter fun y => decide (y.i ≠ x.i)) ++ [x]
theorem lastW_put (l : List WD) (x : WD) (i : Nat) (b : List UInt8) : lastW (put l x) i b = if x.i = i then x.b else lastW l i b := by
  unfold put
  rw [lastW_snoc]
  by_cases h : x.i = i
  · rw [if_pos h, if_pos h]
  · rw [if_neg h, if_neg h, lastW_filter l i x.i b (fun e => h e.symm)]
theorem lastW_len : ∀ {l : List WD} {i : Nat} {b : List UInt8}, (∀ x ∈ l, x.b.length = 128) → b.length = 128 → (lastW l i b).length = 128
  | [], _, _, _, h => h
  | x :: l, i, b, hl, h => by
    simp only [lastW]
    refine lastW_len (fun y hy => hl y (by simp [hy])) ?_
    split
    · exact hl x (by simp)
    · exact h
theorem put_all {p : WD → Prop} {l : List WD} {x : WD} (hl : ∀ y ∈ l, p y) (hx : p x) : ∀ y ∈ put l x, p y := by
  intro y hy
  unfold put at hy
  rcases List.mem_append.1 hy with h | h
  · exact hl y (List.mem_filter.1 h).1
  · simp at h; subst h; exact hx

/-- How many bytes of write k survive. -/
def surv (keep torn : Nat) (k : Nat) : Nat := if keep.testBit (k % 64) then 128 else if torn.testBit (k % 64) then 64 else 0
/-- What becomes of the blocks when pending writes are settled, from write k on. -/
def settle (keep torn : Nat) : Nat → List WD → List (List UInt8) → List (List UInt8)
  | _, [], st => st
  | k, x :: l, st => settle keep torn (k + 1) l (st.set x.i (x.b.take (surv keep torn k) ++ (st.getD x.i []).drop (surv keep torn k)))
/-- The document's way. -/
def backR (keep torn : Nat) : Nat → List WD → List WD → List WD
  | _, [], made => made
  | k, x :: l, made => backR keep torn (k + 1) l (if keep.testBit (k % 64) then put made x else if torn.testBit (k % 64) then put made ⟨x.i, x.b.take 64 ++ (lastW made x.i zero128).drop 64⟩ else made)
/-- All are kept. -/
def syncR : List WD → List WD → List WD
  | [], made => made
  | x :: l, made => syncR l (put made x)
def ones : Nat := 18446744073709551615
theorem ones_bit (k : Nat) : ones.testBit (k % 64) = true := by
  have h : k % 64 < 64 := Nat.mod_lt _ (by omega)
  generalize k % 64 = j at h
  have e : ones = 2 ^ 64 - 1 := rfl
  rw [e, Nat.testBit_two_pow_sub_one]
  simpa using h
theorem syncR_back : ∀ (l : List WD) (k : Nat) (made : List WD), syncR l made = backR ones 0 k l made
  | [], _, _ => rfl
  | x :: l, k, made => by
    simp only [syncR, backR, ones_bit, if_true]
    exact syncR_back l (k + 1) _

/-- The blocks are what the document's writes tell. -/
def Same (st : List (List UInt8)) (made : List WD) : Prop := (∀ x ∈ made, x.b.length = 128) ∧ ∀ i, i < st.length → st[i]? = some (lastW made i zero128)
theorem Same.len {st : List (List UInt8)} {made : List WD} (h : Same st made) : ∀ b ∈ st, b.length = 128 := by
  intro b hb
  obtain ⟨i, hi, rfl⟩ := List.mem_iff_getElem.1 hb
  have := h.2 i hi
  rw [List.getElem?_eq_getElem hi] at this
  injection this with this
  rw [this]
  exact lastW_len h.1 zero128_length
theorem Same.put {st : List (List UInt8)} {made : List WD} (h : Same st made) {x : WD} (hx : x.b.length = 128) : Same (st.set x.i x.b) (put made x) := by
  refine ⟨put_all (p := fun y => y.b.length = 128) h.1 hx, fun i hi => ?_⟩
  rw [List.length_set] at hi
  rw [lastW_put, List.getElem?_set]
  by_cases e : x.i = i
  · rw [if_pos e, if_pos e, if_pos (by omega)]
  · rw [if_neg e, if_neg e]
    exact h.2 i hi
theorem Same.at {st : List (List UInt8)} {made : List WD} (h : Same st made) {i : Nat} (hi : i < st.length) : st.getD i [] = lastW made i zero128 := by
  rw [List.getD_eq_getElem?_getD, h.2 i hi]; rfl
theorem settle_length (keep torn : Nat) : ∀ (l : List WD) (k : Nat) (st : List (List UInt8)), (settle keep torn k l st).length = st.length
  | [], _, _ => rfl
  | x :: l, k, st => by rw [settle, settle_length keep torn l]; simp
/-- Both ways come to the same blocks. -/
theorem Same.settle {keep torn : Nat} : ∀ {l : List WD} {k : Nat} {st : List (List UInt8)} {made : List WD}, Same st made → (∀ x ∈ l, x.b.length = 128 ∧ x.i < st.length) → Same (settle keep torn k l st) (backR keep torn k l made)
  | [], _, _, _, h, _ => h
  | x :: l, k, st, made, h, hl => by
    obtain ⟨hx, hi⟩ := hl x (by simp)
    have hg := lastW_len (i := x.i) h.1 zero128_length
    unfold Ds.settle backR
    refine Same.settle ?_ (fun y hy => by rw [List.length_set]; exact hl y (by simp [hy]))
    rw [h.at hi]
    unfold surv
    cases hk : keep.testBit (k % 64) with
    | true =>
      simp only [if_true]
      rw [List.take_of_length_le (by omega), List.drop_of_length_le (by omega), List.append_nil]
      exact h.put hx
    | false =>
      cases ht : torn.testBit (k % 64) with
      | true =>
        simp only [if_true, Bool.false_eq_true, if_false]
        exact h.put (x := ⟨x.i, x.b.take 64 ++ (lastW made x.i zero128).drop 64⟩) (by simp; omega)
      | false =>
        simp only [Bool.false_eq_true, if_false]
        rw [List.take_zero, List.drop_zero, List.nil_append, ← h.at hi]
        have e : st.set x.i (st.getD x.i []) = st := by
          apply List.ext_getElem?
          intro j
          rw [List.getElem?_set]
          by_cases e : x.i = j
          · subst e
            rw [if_pos rfl, if_pos hi, List.getD_eq_getElem?_getD, List.getElem?_eq_getElem hi]; rfl
          · rw [if_neg e]
        rw [e]
        exact h
/-- A new disk. -/
theorem Same.new (n : Nat) : Same (List.replicate n zero128) [] := ⟨fun x hx => (by cases hx), fun i hi => (by simp at hi; simp [hi, lastW])⟩
/-- What was written last to a block. -/
def latestD (S : Dsk) (i : Nat) : List UInt8 := lastW S.pend i (S.stored.getD i [])
/-- What holds of every disk. -/
def Fine (S : Dsk) : Prop := (∀ b ∈ S.stored, b.length = 128) ∧ (∀ x ∈ S.pend, x.b.length = 128 ∧ x.i < S.stored.length) ∧ 1 ≤ S.stored.length ∧ S.stored.length ≤ 65536 ∧ -1 ≤ S.fuse ∧ S.fuse ≤ 9223372036854775807
/-- The disk is as the document's is. -/
structure Rel (S : Dsk) (m : RefM) : Prop where
  count : m.count = S.stored.length
  off : m.off = !S.on
  fuse : S.fuse = max m.fuse (-1)
  wait : m.wait = S.pend
  same : Same S.stored m.made
  good : Fine S
  low : -9223372036854775808 ≤ m.fuse
end Go.Proofs.Ytpdhnkmihlgdjaa.Ds
