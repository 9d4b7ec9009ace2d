/- Edges as lines: plain mathematics. -/
import Derived.Test.YtniffijjdehnaaaTx
namespace Go.Proofs.Ytniffijjdehnaaa.Ed
open Tx

/-- An edge. -/
structure EdD where
  src : Nat
  dst : Nat
  wgt : Nat
deriving DecidableEq
def noEd : EdD := ⟨0, 0, 0⟩
/-- The weight of a line's words behind the first two, if any: the weight, or the error. -/
def wgtS : List (List UInt8) → Nat × Int
  | [] => (1, 0)
  | w :: _ => if (numS w 2147483647).2 ≠ 0 then (0, (numS w 2147483647).2) else if (numS w 2147483647).1 = 0 then (0, 9) else ((numS w 2147483647).1, 0)
/-- The edge of a line's words; whether there is one; the error. -/
def wordsS (ws : List (List UInt8)) : EdD × Bool × Int :=
  match ws with
  | [] => (noEd, false, 0)
  | a :: r => if a.headD 0 = 35 then (noEd, false, 0) else
    match r with
    | [] => (noEd, false, 12)
    | b :: r => if 1 < r.length then (noEd, false, 12)
      else if (numS a 4294967295).2 ≠ 0 then (noEd, false, (numS a 4294967295).2)
      else if (numS b 4294967295).2 ≠ 0 then (noEd, false, (numS b 4294967295).2)
      else if (wgtS r).2 ≠ 0 then (noEd, false, (wgtS r).2)
      else (⟨(numS a 4294967295).1, (numS b 4294967295).1, (wgtS r).1⟩, true, 0)
def oneS (l : List UInt8) : EdD × Bool × Int := wordsS (wordsG [] l)
/-- The edges of lines, behind k lines with the edges acc; or the line and the error. -/
def readG (k : Nat) (acc : List EdD) : List (List UInt8) → List EdD × Nat × Int
  | [] => (acc, 0, 0)
  | l :: ls => if (oneS l).2.2 ≠ 0 then ([], k + 1, (oneS l).2.2) else readG (k + 1) (if (oneS l).2.1 then acc ++ [(oneS l).1] else acc) ls
theorem readG_nil (k : Nat) (acc : List EdD) : readG k acc [] = (acc, 0, 0) := by rw [readG]
theorem readG_bad {k : Nat} {acc : List EdD} {l : List UInt8} {ls : List (List UInt8)} (h : (oneS l).2.2 ≠ 0) : readG k acc (l :: ls) = ([], k + 1, (oneS l).2.2) := by rw [readG, if_pos h]
theorem readG_one {k : Nat} {acc : List EdD} {l : List UInt8} {ls : List (List UInt8)} (h : (oneS l).2.2 = 0) (h1 : (oneS l).2.1 = true) : readG k acc (l :: ls) = readG (k + 1) (acc ++ [(oneS l).1]) ls := by rw [readG, if_neg (by rw [h]; simp), if_pos h1]
theorem readG_no {k : Nat} {acc : List EdD} {l : List UInt8} {ls : List (List UInt8)} (h : (oneS l).2.2 = 0) (h1 : (oneS l).2.1 = false) : readG k acc (l :: ls) = readG (k + 1) acc ls := by rw [readG, if_neg (by rw [h]; simp), if_neg (by rw [h1]; simp)]
/-- An edge's line, without its line feed. -/
def lineS (e : EdD) : List UInt8 := putN e.src ++ 32 :: (putN e.dst ++ 32 :: putN e.wgt)
/-- Digits are no blanks, no line feed, no number sign. -/
theorem dig_no {u : UInt8} (h : dig u = true) : blankB u = false ∧ u ≠ 10 ∧ u ≠ 35 := by
  have hd := dig_iff.1 h
  have key : ∀ v : UInt8, v.toNat < 48 → u ≠ v := fun v hv e => by rw [e] at hd; omega
  refine ⟨?_, key 10 (by decide), key 35 (by decide)⟩
  unfold blankB
  rw [beq_eq_false_iff_ne.2 (key 32 (by decide)), beq_eq_false_iff_ne.2 (key 9 (by decide))]
  rfl
theorem putN_dig (n : Nat) : ∀ u ∈ putN n, dig u = true := List.all_eq_true.1 (putN_facts n).1
theorem putN_ne (n : Nat) : putN n ≠ [] := fun e => by have := putN_pos n; rw [e] at this; exact absurd this (by simp)
theorem putN_noBlank (n : Nat) : NoBlank (putN n) := fun u hu => (dig_no (putN_dig n u hu)).1
theorem lineS_plain (e : EdD) : Plain (lineS e) := fun u hu => by
  unfold lineS at hu
  rcases List.mem_append.1 hu with h | h
  · exact (dig_no (putN_dig _ u h)).2.1
  · rcases List.mem_cons.1 h with h | h
    · rw [h]; decide
    · rcases List.mem_append.1 h with h | h
      · exact (dig_no (putN_dig _ u h)).2.1
      · rcases List.mem_cons.1 h with h | h
        · rw [h]; decide
        · exact (dig_no (putN_dig _ u h)).2.1
theorem lineS_words (e : EdD) : wordsG [] (lineS e) = [putN e.src, putN e.dst, putN e.wgt] := by
  unfold lineS
  rw [wordsG_cut (putN_noBlank e.src) [] _ (by decide), if_neg (by simpa using putN_ne _), wordsG_cut (putN_noBlank e.dst) [] _ (by decide), if_neg (by simpa using putN_ne _), wordsG_full (putN_noBlank e.wgt) [], if_neg (by simpa using putN_ne _)]
  simp
theorem numS_putN {n most : Nat} : numS (putN n) most = if n ≤ most then (n, 0) else (0, 9) := by
  unfold numS
  rw [if_pos (putN_isNum n), (putN_facts n).2.1]
/-- What is printed is read: an edge whose numbers may be. -/
theorem oneS_line {e : EdD} (hs : e.src ≤ 4294967295) (hd : e.dst ≤ 4294967295) : oneS (lineS e) = if 1 ≤ e.wgt ∧ e.wgt ≤ 2147483647 then (e, true, 0) else (noEd, false, 9) := by
  unfold oneS
  rw [lineS_words]
  have h35 : (putN e.src).headD 0 ≠ 35 := by
    cases hq : putN e.src with
    | nil => exact absurd hq (putN_ne _)
    | cons a b => exact (dig_no (putN_dig e.src a (by rw [hq]; simp))).2.2
  have w1 : wgtS [putN e.wgt] = if 1 ≤ e.wgt ∧ e.wgt ≤ 2147483647 then (e.wgt, 0) else (0, 9) := by
    show (if (numS (putN e.wgt) 2147483647).2 ≠ 0 then (0, (numS (putN e.wgt) 2147483647).2) else if (numS (putN e.wgt) 2147483647).1 = 0 then (0, 9) else ((numS (putN e.wgt) 2147483647).1, 0)) = _
    rw [numS_putN]
    by_cases h1 : e.wgt ≤ 2147483647
    · by_cases h2 : e.wgt = 0
      · simp [h1, h2]
      · have : 1 ≤ e.wgt := by omega
        simp [h1, h2, this]
    · simp [h1]
  unfold wordsS
  simp only [if_neg h35, numS_putN, if_pos hs, if_pos hd, w1]
  by_cases h : 1 ≤ e.wgt ∧ e.wgt ≤ 2147483647
  · simp [h]
  · simp [h]
/-- A line that is passed over: blanks alone, or a note. -/
theorem oneS_blank {l : List UInt8} (h : wordsG [] l = []) : oneS l = (noEd, false, 0) := by unfold oneS; rw [h]; rfl
theorem oneS_note {l : List UInt8} {a : List UInt8} {r : List (List UInt8)} (h : wordsG [] l = a :: r) (ha : a.headD 0 = 35) : oneS l = (noEd, false, 0) := by
  unfold oneS
  rw [h]
  show (if a.headD 0 = 35 then (noEd, false, (0 : Int)) else _) = _
  rw [if_pos ha]
/-- Lines that are all fine, behind others. -/
theorem readG_append : ∀ (a b : List (List UInt8)) (k : Nat) (acc : List EdD), (readG k acc a).2.2 = 0 → readG k acc (a ++ b) = readG (k + a.length) (readG k acc a).1 b
  | [], b, k, acc, _ => by rw [readG_nil]; rfl
  | l :: a, b, k, acc, h => by
    rw [List.cons_append]
    by_cases h0 : (oneS l).2.2 = 0
    · cases h1 : (oneS l).2.1 with
      | true =>
        rw [readG_one h0 h1] at h ⊢
        rw [readG_one h0 h1, readG_append a b _ _ h, List.length_cons]
        congr 1
        omega
      | false =>
        rw [readG_no h0 h1] at h ⊢
        rw [readG_no h0 h1, readG_append a b _ _ h, List.length_cons]
        congr 1
        omega
    · rw [readG_bad h0] at h
      exact absurd h h0
theorem readG_stop : ∀ (a b : List (List UInt8)) (k : Nat) (acc : List EdD), (readG k acc a).2.2 ≠ 0 → readG k acc (a ++ b) = readG k acc a
  | [], b, k, acc, h => by rw [readG_nil] at h; exact absurd rfl h
  | l :: a, b, k, acc, h => by
    rw [List.cons_append]
    by_cases h0 : (oneS l).2.2 = 0
    · cases h1 : (oneS l).2.1 with
      | true =>
        rw [readG_one h0 h1] at h
        rw [readG_one h0 h1, readG_one h0 h1, readG_stop a b _ _ h]
      | false =>
        rw [readG_no h0 h1] at h
        rw [readG_no h0 h1, readG_no h0 h1, readG_stop a b _ _ h]
    · rw [readG_bad h0, readG_bad h0]
/-- What stands ahead goes into the answer alone. -/
theorem readG_acc : ∀ (a : List (List UInt8)) (k : Nat) (acc : List EdD), readG k acc a = if (readG 0 [] a).2.2 = 0 then (acc ++ (readG 0 [] a).1, 0, 0) else ([], k + (readG 0 [] a).2.1, (readG 0 [] a).2.2)
  | [], k, acc => by simp [readG_nil]
  | l :: a, k, acc => by
    by_cases h0 : (oneS l).2.2 = 0
    · cases h1 : (oneS l).2.1 with
      | true =>
        rw [readG_one h0 h1, readG_one h0 h1, readG_acc a (k + 1) (acc ++ [(oneS l).1]), readG_acc a (0 + 1) ([] ++ [(oneS l).1])]
        by_cases h : (readG 0 [] a).2.2 = 0
        · simp [h]
        · simp [h, Nat.add_assoc]
      | false =>
        rw [readG_no h0 h1, readG_no h0 h1, readG_acc a (k + 1) acc, readG_acc a (0 + 1) []]
        by_cases h : (readG 0 [] a).2.2 = 0
        · simp [h]
        · simp [h, Nat.add_assoc]
    · rw [readG_bad h0, readG_bad h0]
      simp [h0]
end Go.Proofs.Ytniffijjdehnaaa.Ed
