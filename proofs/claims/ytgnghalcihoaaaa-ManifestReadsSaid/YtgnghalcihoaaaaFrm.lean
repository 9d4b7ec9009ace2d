/- Sections as bytes: how they are put, how they are read; plain mathematics. -/
import Derived.Test.YtgnghalcihoaaaaFitA
import Derived.Test.YtgnghalcihoaaaaTur
namespace Go.Proofs.Ytgnghalcihoaaaa.Fr
open Go.RowKit Cr Me

/-- A section. -/
structure SecD where
  kind : UInt8
  body : List UInt8
def noSec : SecD := ⟨0, []⟩
/-- A head without its sum. -/
def head (k : UInt8) (n : Nat) : List UInt8 := k :: four (BitVec.ofNat 32 n)
theorem head_length (k : UInt8) (n : Nat) : (head k n).length = 5 := rfl
/-- A section's bytes. -/
def encS (s : SecD) : List UInt8 := Cr.mark (head s.kind s.body.length) ++ Cr.mark s.body
theorem encS_length (s : SecD) : (encS s).length = s.body.length + 13 := by
  unfold encS
  rw [List.length_append, mark_length, mark_length, head_length]; omega
def encAll : List SecD → List UInt8
  | [] => []
  | s :: l => encS s ++ encAll l
theorem encAll_append : ∀ l m : List SecD, encAll (l ++ m) = encAll l ++ encAll m
  | [], m => rfl
  | s :: l, m => by simp only [encAll, List.cons_append, encAll_append l m, List.append_assoc]
theorem encAll_take {l : List SecD} {k : Nat} {s : SecD} (h : l[k]? = some s) : encAll (l.take (k + 1)) = encAll (l.take k) ++ encS s := by
  rw [List.take_add_one, h, encAll_append]
  simp [encAll]
/-- The length that a head tells. -/
def lenOf (h : List UInt8) : Nat := (h.getD 1 0).toNat + 256 * (h.getD 2 0).toNat + 65536 * (h.getD 3 0).toNat + 16777216 * (h.getD 4 0).toNat
theorem lenOf_lt (h : List UInt8) : lenOf h < 4294967296 := by
  unfold lenOf
  have h1 := (h.getD 1 0).toNat_lt
  have h2 := (h.getD 2 0).toNat_lt
  have h3 := (h.getD 3 0).toNat_lt
  have h4 := (h.getD 4 0).toNat_lt
  omega
theorem lenOf_head (k : UInt8) {n : Nat} (hn : n < 4294967296) : lenOf (head k n) = n := by
  unfold lenOf head four
  have e : (BitVec.ofNat 32 n).toNat = n := by rw [BitVec.toNat_ofNat]; omega
  rw [e]
  simp only [List.getD_cons_succ, List.getD_cons_zero, UInt8.toNat_ofNat']
  omega
/-- The section in front of bytes, how many bytes it has, the error's number. -/
def getS (b : List UInt8) : SecD × Nat × Int :=
  if b.length < 9 then (noSec, 0, 2)
  else if fitB (b.take 9) = false then (noSec, 0, 5)
  else if 1048576 < lenOf (b.take 5) then (noSec, 0, 4)
  else if b.length < lenOf (b.take 5) + 13 then (noSec, 0, 2)
  else if fitB ((b.drop 9).take (lenOf (b.take 5) + 4)) = false then (noSec, 0, 5)
  else (⟨b.getD 0 0, (b.drop 9).take (lenOf (b.take 5))⟩, lenOf (b.take 5) + 13, 0)
theorem getS_short {b : List UInt8} (h : b.length < 9) : getS b = (noSec, 0, 2) := by unfold getS; rw [if_pos h]
theorem getS_head {b : List UInt8} (h : ¬ b.length < 9) (h2 : fitB (b.take 9) = false) : getS b = (noSec, 0, 5) := by unfold getS; rw [if_neg h, if_pos h2]
theorem getS_long {b : List UInt8} {n : Nat} (h : ¬ b.length < 9) (h2 : fitB (b.take 9) = true) (hn : n = lenOf (b.take 5)) (h3 : 1048576 < n) : getS b = (noSec, 0, 4) := by
  subst hn; unfold getS; rw [if_neg h, if_neg (by simp [h2]), if_pos h3]
theorem getS_cut {b : List UInt8} {n : Nat} (h : ¬ b.length < 9) (h2 : fitB (b.take 9) = true) (hn : n = lenOf (b.take 5)) (h3 : ¬ 1048576 < n) (h4 : b.length < n + 13) : getS b = (noSec, 0, 2) := by
  subst hn; unfold getS; rw [if_neg h, if_neg (by simp [h2]), if_neg h3, if_pos h4]
theorem getS_bad {b : List UInt8} {n : Nat} (h : ¬ b.length < 9) (h2 : fitB (b.take 9) = true) (hn : n = lenOf (b.take 5)) (h3 : ¬ 1048576 < n) (h4 : ¬ b.length < n + 13) (h5 : fitB ((b.drop 9).take (n + 4)) = false) : getS b = (noSec, 0, 5) := by
  subst hn; unfold getS; rw [if_neg h, if_neg (by simp [h2]), if_neg h3, if_neg h4, if_pos h5]
theorem getS_good {b : List UInt8} {n : Nat} (h : ¬ b.length < 9) (h2 : fitB (b.take 9) = true) (hn : n = lenOf (b.take 5)) (h3 : ¬ 1048576 < n) (h4 : ¬ b.length < n + 13) (h5 : fitB ((b.drop 9).take (n + 4)) = true) :
    getS b = (⟨b.getD 0 0, (b.drop 9).take n⟩, n + 13, 0) := by
  subst hn; unfold getS; rw [if_neg h, if_neg (by simp [h2]), if_neg h3, if_neg h4, if_neg (by simp [h5])]
/-- What is said of bytes alone. -/
theorem getS_cases (b : List UInt8) : (∃ x : Int, getS b = (noSec, 0, x) ∧ x ≠ 0) ∨ (∃ s n, getS b = (s, n + 13, 0) ∧ s.body.length = n ∧ n ≤ 1048576 ∧ n + 13 ≤ b.length) := by
  unfold getS
  split
  · exact .inl ⟨2, rfl, by decide⟩
  · split
    · exact .inl ⟨5, rfl, by decide⟩
    · split
      · exact .inl ⟨4, rfl, by decide⟩
      · split
        · exact .inl ⟨2, rfl, by decide⟩
        · split
          · exact .inl ⟨5, rfl, by decide⟩
          · refine .inr ⟨_, _, rfl, ?_, by omega, by omega⟩
            show ((b.drop 9).take _).length = _
            rw [List.length_take, List.length_drop]; omega
/-- What was put is read, whatever stands behind. -/
theorem getS_enc (s : SecD) (m : List UInt8) (hs : s.body.length ≤ 1048576) : getS (encS s ++ m) = (s, s.body.length + 13, 0) := by
  have hl : (Cr.mark (head s.kind s.body.length)).length = 9 := by rw [mark_length, head_length]
  have e9 : (encS s ++ m).take 9 = Cr.mark (head s.kind s.body.length) := by
    unfold encS; rw [List.append_assoc, ← hl, List.take_left]
  have e5 : (encS s ++ m).take 5 = head s.kind s.body.length := by
    have : (encS s ++ m).take 5 = ((encS s ++ m).take 9).take 5 := by rw [List.take_take]; rfl
    rw [this, e9]; unfold Cr.mark; rw [show (5 : Nat) = (head s.kind s.body.length).length from rfl, List.take_left]
  have ed : (encS s ++ m).drop 9 = Cr.mark s.body ++ m := by
    unfold encS; rw [List.append_assoc, ← hl, List.drop_left]
  have hn : lenOf ((encS s ++ m).take 5) = s.body.length := by rw [e5, lenOf_head _ (by omega)]
  have hlen : (encS s ++ m).length = s.body.length + 13 + m.length := by rw [List.length_append, encS_length]
  have et : ((encS s ++ m).drop 9).take (s.body.length + 4) = Cr.mark s.body := by rw [ed, ← mark_length, List.take_left]
  have eb : ((encS s ++ m).drop 9).take s.body.length = s.body := by rw [ed]; unfold Cr.mark; rw [List.append_assoc, List.take_left]
  have e0 : (encS s ++ m).getD 0 0 = s.kind := rfl
  rw [getS_good (n := s.body.length) (by omega) (by rw [e9]; exact fitB_mark _) hn.symm (by omega) (by omega) (by rw [et]; exact fitB_mark _), e0, eb]
/-- All sections, behind those that there are; the error's number. -/
def allS : Nat → List SecD → List UInt8 → List SecD × Int
  | 0, acc, _ => (acc, 0)
  | f + 1, acc, b => if b = [] then (acc, 0) else if (getS b).2.2 = 0 then allS f (acc ++ [(getS b).1]) (b.drop (getS b).2.1) else ([], (getS b).2.2)
theorem allS_nil (f : Nat) (acc : List SecD) : allS f acc [] = (acc, 0) := by cases f <;> simp [allS]
theorem allS_bad {f : Nat} {acc : List SecD} {b : List UInt8} {s : SecD} {n : Nat} {x : Int} (hb : b ≠ []) (h : getS b = (s, n, x)) (hx : x ≠ 0) : allS (f + 1) acc b = ([], x) := by
  rw [allS, if_neg hb, h, if_neg hx]
theorem allS_next {f : Nat} {acc : List SecD} {b : List UInt8} {s : SecD} {n : Nat} (hb : b ≠ []) (h : getS b = (s, n, 0)) : allS (f + 1) acc b = allS f (acc ++ [s]) (b.drop n) := by
  rw [allS, if_neg hb, h, if_pos rfl]
/-- All sections of bytes. -/
def secsOf (b : List UInt8) : List SecD × Int := allS b.length [] b
theorem allS_enc : ∀ (l acc : List SecD) (f : Nat), (encAll l).length ≤ f → (∀ s ∈ l, s.body.length ≤ 1048576) → allS f acc (encAll l) = (acc ++ l, 0)
  | [], acc, f, _, _ => by rw [encAll, allS_nil, List.append_nil]
  | s :: l, acc, f, hf, hl => by
    have h1 : (encAll (s :: l)).length = s.body.length + 13 + (encAll l).length := by rw [encAll, List.length_append, encS_length]
    obtain ⟨g, rfl⟩ : ∃ g, f = g + 1 := ⟨f - 1, by omega⟩
    have hne : encAll (s :: l) ≠ [] := fun e => by rw [e] at h1; simp at h1; omega
    have hd : (encAll (s :: l)).drop (s.body.length + 13) = encAll l := by rw [encAll, ← encS_length, List.drop_left]
    rw [allS_next hne (getS_enc s (encAll l) (hl s (by simp))), hd, allS_enc l (acc ++ [s]) g (by omega) (fun t ht => hl t (by simp [ht]))]
    simp
/-- **What was put is read.** -/
theorem secsOf_enc (l : List SecD) (hl : ∀ s ∈ l, s.body.length ≤ 1048576) : secsOf (encAll l) = (l, 0) := by
  unfold secsOf
  rw [allS_enc l [] _ (Nat.le_refl _) hl]
  rfl
/-- **A section of which one byte is turned isn't read**, whatever stands behind. -/
theorem getS_turned (s : SecD) (m : List UInt8) (hs : s.body.length ≤ 1048576) {i : Nat} {u x : UInt8} (hu : (encS s)[i]? = some u) (hx : x ≠ 0) : ∃ z : Int, getS ((encS s).set i (u ^^^ x) ++ m) = (noSec, 0, z) ∧ z ≠ 0 := by
  have hl : (Cr.mark (head s.kind s.body.length)).length = 9 := by rw [mark_length, head_length]
  have hi : i < (encS s).length := (List.getElem?_eq_some_iff.1 hu).1
  have hlen : ((encS s).set i (u ^^^ x) ++ m).length = s.body.length + 13 + m.length := by rw [List.length_append, List.length_set, encS_length]
  by_cases h9 : i < 9
  · have e9 : ((encS s).set i (u ^^^ x) ++ m).take 9 = (Cr.mark (head s.kind s.body.length)).set i (u ^^^ x) := by
      unfold encS
      rw [List.set_append_left _ _ (by omega), List.append_assoc, show (9 : Nat) = ((Cr.mark (head s.kind s.body.length)).set i (u ^^^ x)).length by rw [List.length_set, hl], List.take_left]
    have hu' : (Cr.mark (head s.kind s.body.length))[i]? = some u := by
      rw [← hu]; unfold encS; rw [List.getElem?_append_left (by omega)]
    exact ⟨5, getS_head (by omega) (by rw [e9]; exact set_unfit _ hu' hx), by decide⟩
  · have e9 : (encS s).set i (u ^^^ x) = Cr.mark (head s.kind s.body.length) ++ (Cr.mark s.body).set (i - 9) (u ^^^ x) := by
      unfold encS
      rw [List.set_append_right _ _ (by omega), hl]
    have hu' : (Cr.mark s.body)[i - 9]? = some u := by
      rw [← hu]; unfold encS; rw [List.getElem?_append_right (by omega), hl]
    have t9 : ((encS s).set i (u ^^^ x) ++ m).take 9 = Cr.mark (head s.kind s.body.length) := by
      rw [e9, List.append_assoc, ← hl, List.take_left]
    have t5 : ((encS s).set i (u ^^^ x) ++ m).take 5 = head s.kind s.body.length := by
      have : ((encS s).set i (u ^^^ x) ++ m).take 5 = (((encS s).set i (u ^^^ x) ++ m).take 9).take 5 := by rw [List.take_take]; rfl
      rw [this, t9]; unfold Cr.mark; rw [show (5 : Nat) = (head s.kind s.body.length).length from rfl, List.take_left]
    have hn : s.body.length = lenOf (((encS s).set i (u ^^^ x) ++ m).take 5) := by rw [t5, lenOf_head _ (by omega)]
    have td : (((encS s).set i (u ^^^ x) ++ m).drop 9).take (s.body.length + 4) = (Cr.mark s.body).set (i - 9) (u ^^^ x) := by
      rw [e9, List.append_assoc, ← hl, List.drop_left, show s.body.length + 4 = ((Cr.mark s.body).set (i - (Cr.mark (head s.kind s.body.length)).length) (u ^^^ x)).length by rw [List.length_set, mark_length], List.take_left]
    exact ⟨5, getS_bad (by omega) (by rw [t9]; exact fitB_mark _) hn (by omega) (by omega) (by rw [td]; exact set_unfit _ hu' hx), by decide⟩
end Go.Proofs.Ytgnghalcihoaaaa.Fr
