/- The numbers of an edge's line, one word behind the other: plain mathematics. -/
import Derived.Test.YtbedepnmgnlijaaDoorEdQ
namespace Go.Proofs.YtbedepnmgnlijaaDoor.Ed
open Tx

/-- What a word's number is at most, and at least. -/
def moN (i : Nat) : Nat := if i < 2 then 4294967295 else 2147483647
def leN (i : Nat) : Nat := if i < 2 then 0 else 1
/-- A word's number, or its error. -/
def fldS (i : Nat) (w : List UInt8) : Nat × Int :=
  if (numS w (moN i)).2 ≠ 0 then (0, (numS w (moN i)).2) else if (numS w (moN i)).1 < leN i then (0, 9) else ((numS w (moN i)).1, 0)
/-- The numbers of words, or the first error. -/
def parsS : Nat → List (List UInt8) → List Nat → List Nat × Int
  | _, [], n => (n, 0)
  | i, w :: r, n => if (fldS i w).2 ≠ 0 then ([0, 0, 0], (fldS i w).2) else parsS (i + 1) r (n.set i (fldS i w).1)
theorem numS_two (w : List UInt8) (m : Nat) : (numS w m).2 = 0 ∨ ((numS w m).1 = 0 ∧ (numS w m).2 ≠ 0) := by
  unfold numS
  split
  · split
    · exact .inl rfl
    · exact .inr ⟨rfl, by simp⟩
  · exact .inr ⟨rfl, by simp⟩
theorem numS_most (w : List UInt8) (m : Nat) : (numS w m).1 ≤ m := by
  unfold numS
  split
  · split
    · assumption
    · exact Nat.zero_le _
  · exact Nat.zero_le _
theorem fld_low {i : Nat} (h : i < 2) (w : List UInt8) : fldS i w = numS w 4294967295 := by
  unfold fldS moN leN
  rw [if_pos h, if_pos h]
  rcases numS_two w 4294967295 with e | ⟨e, e2⟩
  · rw [if_neg (by rw [e]; simp), if_neg (by omega)]
    rw [← e]
  · rw [if_pos e2, ← e]
theorem fld_two (w : List UInt8) (r : List (List UInt8)) : fldS 2 w = wgtS (w :: r) := by
  have h1 : moN 2 = 2147483647 := rfl
  have h2 : leN 2 = 1 := rfl
  unfold fldS
  rw [h1, h2]
  show _ = if (numS w 2147483647).2 ≠ 0 then (0, (numS w 2147483647).2) else if (numS w 2147483647).1 = 0 then (0, 9) else ((numS w 2147483647).1, 0)
  by_cases h : (numS w 2147483647).1 = 0
  · simp [h]
  · have : ¬ (numS w 2147483647).1 < 1 := by omega
    simp [h]
theorem parsS_bad {i : Nat} {w : List UInt8} {r : List (List UInt8)} {n : List Nat} (h : (fldS i w).2 ≠ 0) : parsS i (w :: r) n = ([0, 0, 0], (fldS i w).2) := by rw [parsS, if_pos h]
theorem parsS_ok {i : Nat} {w : List UInt8} {r : List (List UInt8)} {n : List Nat} (h : (fldS i w).2 = 0) : parsS i (w :: r) n = parsS (i + 1) r (n.set i (fldS i w).1) := by rw [parsS, if_neg (by rw [h]; simp)]
/-- The edge of words, as their numbers tell it. -/
theorem words_pars {a b : List UInt8} {r : List (List UInt8)} (h1 : ¬ 1 < r.length) (ha : a.headD 0 ≠ 35) :
    wordsS (a :: b :: r) = if (parsS 0 (a :: b :: r) [0, 0, 1]).2 ≠ 0 then (noEd, false, (parsS 0 (a :: b :: r) [0, 0, 1]).2)
      else (⟨(parsS 0 (a :: b :: r) [0, 0, 1]).1.getD 0 0, (parsS 0 (a :: b :: r) [0, 0, 1]).1.getD 1 0, (parsS 0 (a :: b :: r) [0, 0, 1]).1.getD 2 0⟩, true, 0) := by
  show (if a.headD 0 = 35 then (noEd, false, (0 : Int)) else if 1 < r.length then (noEd, false, 12) else if (numS a 4294967295).2 ≠ 0 then (noEd, false, (numS a 4294967295).2)
      else if (numS b 4294967295).2 ≠ 0 then (noEd, false, (numS b 4294967295).2)
      else if (wgtS r).2 ≠ 0 then (noEd, false, (wgtS r).2)
      else (⟨(numS a 4294967295).1, (numS b 4294967295).1, (wgtS r).1⟩, true, 0)) = _
  rw [if_neg ha, if_neg h1]
  by_cases e0 : (numS a 4294967295).2 = 0
  · rw [parsS_ok (by rw [fld_low (by omega)]; exact e0), fld_low (by omega)]
    by_cases e1 : (numS b 4294967295).2 = 0
    · rw [parsS_ok (by rw [fld_low (by omega)]; exact e1), fld_low (by omega)]
      cases r with
      | nil =>
        rw [parsS]
        simp [e0, e1, wgtS]
      | cons c r =>
        have hr : r = [] := by
          cases r with
          | nil => rfl
          | cons d r => simp at h1
        subst hr
        by_cases e2 : (wgtS [c]).2 = 0
        · rw [parsS_ok (by rw [fld_two c []]; exact e2), fld_two c [], parsS]
          simp [e0, e1, e2]
        · rw [parsS_bad (by rw [fld_two c []]; exact e2), fld_two c []]
          simp [e0, e1, e2]
    · rw [parsS_bad (by rw [fld_low (by omega)]; exact e1), fld_low (by omega)]
      simp [e0, e1]
  · rw [parsS_bad (by rw [fld_low (by omega)]; exact e0), fld_low (by omega)]
    simp [e0]
theorem words_short {a : List UInt8} (ha : a.headD 0 ≠ 35) : wordsS [a] = (noEd, false, 12) := by
  show (if a.headD 0 = 35 then (noEd, false, (0 : Int)) else (noEd, false, 12)) = _
  rw [if_neg ha]
theorem words_much {a b : List UInt8} {r : List (List UInt8)} (h1 : 1 < r.length) (ha : a.headD 0 ≠ 35) : wordsS (a :: b :: r) = (noEd, false, 12) := by
  show (if a.headD 0 = 35 then (noEd, false, (0 : Int)) else if 1 < r.length then (noEd, false, 12) else _) = _
  rw [if_neg ha, if_pos h1]
theorem words_note {a : List UInt8} {r : List (List UInt8)} (ha : a.headD 0 = 35) : wordsS (a :: r) = (noEd, false, 0) := by
  show (if a.headD 0 = 35 then (noEd, false, (0 : Int)) else _) = _
  rw [if_pos ha]
theorem wgtS_fits : ∀ r : List (List UInt8), (wgtS r).1 < 4294967296
  | [] => by decide
  | c :: r => by
    rw [← fld_two c r]
    unfold fldS
    have k3 := numS_most c (moN 2)
    have h1 : moN 2 = 2147483647 := rfl
    split
    · show (0 : Nat) < _; omega
    · split
      · show (0 : Nat) < _; omega
      · show (numS c (moN 2)).1 < _; omega
theorem noEd_fits : Fits noEd := ⟨by decide, by decide, by decide⟩
theorem wordsS_fits (ws : List (List UInt8)) : Fits (wordsS ws).1 := by
  match ws with
  | [] => exact noEd_fits
  | [a] =>
    by_cases h : a.headD 0 = 35
    · rw [words_note h]; exact noEd_fits
    · rw [words_short h]; exact noEd_fits
  | a :: b :: r =>
    by_cases h : a.headD 0 = 35
    · rw [words_note h]; exact noEd_fits
    · by_cases h1 : 1 < r.length
      · rw [words_much h1 h]; exact noEd_fits
      · show Fits (if a.headD 0 = 35 then (noEd, false, (0 : Int)) else if 1 < r.length then (noEd, false, 12) else if (numS a 4294967295).2 ≠ 0 then (noEd, false, (numS a 4294967295).2)
          else if (numS b 4294967295).2 ≠ 0 then (noEd, false, (numS b 4294967295).2)
          else if (wgtS r).2 ≠ 0 then (noEd, false, (wgtS r).2)
          else (⟨(numS a 4294967295).1, (numS b 4294967295).1, (wgtS r).1⟩, true, 0)).1
        rw [if_neg h, if_neg h1]
        have k1 := numS_most a 4294967295
        have k2 := numS_most b 4294967295
        have k3 := wgtS_fits r
        split
        · exact noEd_fits
        · split
          · exact noEd_fits
          · split
            · exact noEd_fits
            · refine ⟨?_, ?_, k3⟩
              · show (numS a 4294967295).1 < _; omega
              · show (numS b 4294967295).1 < _; omega
theorem oneS_fits (l : List UInt8) : Fits (oneS l).1 := wordsS_fits _
theorem parsS_length : ∀ (ws : List (List UInt8)) (i : Nat) (n : List Nat), n.length = 3 → (parsS i ws n).1.length = 3
  | [], _, n, h => h
  | w :: ws, i, n, h => by
    rw [parsS]
    split
    · rfl
    · exact parsS_length ws _ _ (by simpa using h)
end Go.Proofs.YtbedepnmgnlijaaDoor.Ed
