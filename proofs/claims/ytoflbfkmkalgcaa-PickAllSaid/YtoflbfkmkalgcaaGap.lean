/- Neighbours: the plain mathematics. -/
import Derived.Test.YtoflbfkmkalgcaaArc
import Derived.Test.YtoflbfkmkalgcaaVari
namespace Go.Proofs.Ytoflbfkmkalgcaa
open Go.RowKit Me Va

/-- The sum of weights. -/
def sumOf : List ArcD → Nat
  | [] => 0
  | p :: l => p.weight + sumOf l
theorem sumOf_append : ∀ l m : List ArcD, sumOf (l ++ m) = sumOf l + sumOf m
  | [], m => by simp [sumOf]
  | p :: l, m => by simp only [List.cons_append, sumOf, sumOf_append l m]; omega
theorem sumOf_take {l : List ArcD} {k : Nat} {p : ArcD} (h : l[k]? = some p) : sumOf (l.take (k + 1)) = sumOf (l.take k) + p.weight := by
  rw [List.take_add_one, h, sumOf_append]
  simp [sumOf]
theorem sumOf_le {l : List ArcD} : (∀ p ∈ l, p.fits) → sumOf l ≤ l.length * 4294967295 := by
  induction l with
  | nil => intro _; simp [sumOf]
  | cons p l ih =>
    intro h
    have h1 := (h p (by simp)).2
    have h2 := ih (fun q hq => h q (by simp [hq]))
    simp only [sumOf, List.length_cons]
    omega
theorem sumOf_take_le (l : List ArcD) (k : Nat) : sumOf (l.take k) ≤ sumOf l := by
  have := sumOf_append (l.take k) (l.drop k)
  rw [List.take_append_drop] at this
  omega
/-- Ends that rise from least on, no weight 0. -/
def rises : Nat → List ArcD → Bool
  | _, [] => true
  | least, p :: l => !(decide (p.to < least) || decide (p.weight = 0)) && rises (p.to + 1) l
/-- The least end behind some arcs. -/
def leastOf (l : List ArcD) : Nat := match l.getLast? with
  | none => 0
  | some p => p.to + 1
theorem leastOf_nil : leastOf [] = 0 := rfl
theorem leastOf_snoc (l : List ArcD) (p : ArcD) : leastOf (l ++ [p]) = p.to + 1 := by
  unfold leastOf
  rw [List.getLast?_append]
  rfl
theorem leastOf_take {l : List ArcD} {k : Nat} {p : ArcD} (h : l[k]? = some p) : leastOf (l.take (k + 1)) = p.to + 1 := by
  rw [List.take_add_one, h]
  exact leastOf_snoc _ _
theorem rises_append : ∀ (l m : List ArcD) (least : Nat), rises least (l ++ m) = (rises least l && rises (match l.getLast? with | none => least | some p => p.to + 1) m)
  | [], m, least => by simp [rises]
  | [p], m, least => by simp [rises]
  | p :: q :: l, m, least => by
    have h := rises_append (q :: l) m (p.to + 1)
    have e : (p :: q :: l).getLast? = (q :: l).getLast? := by simp
    obtain ⟨z, hz⟩ : ∃ z, (q :: l).getLast? = some z := by
      cases hz : (q :: l).getLast? with
      | none => simp at hz
      | some z => exact ⟨z, rfl⟩
    rw [e]
    rw [List.cons_append, rises, rises, h]
    rw [hz]
    rw [Bool.and_assoc]
theorem rises_more (l m : List ArcD) : rises 0 (l ++ m) = (rises 0 l && rises (leastOf l) m) := rises_append l m 0
theorem rises_one (least : Nat) (p : ArcD) : rises least [p] = !(decide (p.to < least) || decide (p.weight = 0)) := by simp [rises]
theorem rises_snoc (l : List ArcD) (p : ArcD) : rises 0 (l ++ [p]) = (rises 0 l && !(decide (p.to < leastOf l) || decide (p.weight = 0))) := by rw [rises_more, rises_one]
theorem rises_take {l : List ArcD} {k : Nat} {p : ArcD} (h : l[k]? = some p) : rises 0 (l.take (k + 1)) = (rises 0 (l.take k) && !(decide (p.to < leastOf (l.take k)) || decide (p.weight = 0))) := by
  rw [List.take_add_one, h]
  exact rises_snoc _ _
theorem rises_front {l : List ArcD} {k : Nat} (h : rises 0 (l.take k) = false) : rises 0 l = false := by
  have := rises_more (l.take k) (l.drop k)
  rw [List.take_append_drop, h] at this
  simpa using this
/-- Neighbours. -/
def may (l : List ArcD) : Bool := rises 0 l && decide (sumOf l ≤ 2147483647)
/-- Their bytes, behind so many. -/
def encGaps : Nat → List ArcD → List UInt8
  | _, [] => []
  | least, p :: l => enc (p.to - least) ++ (enc (p.weight - 1) ++ encGaps (p.to + 1) l)
def encArcs (l : List ArcD) : List UInt8 := enc l.length ++ encGaps 0 l
theorem encGaps_append : ∀ (l m : List ArcD) (least : Nat), encGaps least (l ++ m) = encGaps least l ++ encGaps (match l.getLast? with | none => least | some p => p.to + 1) m
  | [], m, least => by simp [encGaps]
  | [p], m, least => by simp [encGaps]
  | p :: q :: l, m, least => by
    have h := encGaps_append (q :: l) m (p.to + 1)
    have e : (p :: q :: l).getLast? = (q :: l).getLast? := by simp
    obtain ⟨z, hz⟩ : ∃ z, (q :: l).getLast? = some z := by
      cases hz : (q :: l).getLast? with
      | none => simp at hz
      | some z => exact ⟨z, rfl⟩
    rw [e]
    rw [List.cons_append, encGaps, encGaps, h]
    rw [hz]
    simp only [List.append_assoc]
theorem encGaps_more (l m : List ArcD) : encGaps 0 (l ++ m) = encGaps 0 l ++ encGaps (leastOf l) m := encGaps_append l m 0
theorem encGaps_one (least : Nat) (p : ArcD) : encGaps least [p] = enc (p.to - least) ++ enc (p.weight - 1) := by simp [encGaps]
theorem encGaps_take {l : List ArcD} {k : Nat} {p : ArcD} (h : l[k]? = some p) : encGaps 0 (l.take (k + 1)) = encGaps 0 (l.take k) ++ (enc (p.to - leastOf (l.take k)) ++ enc (p.weight - 1)) := by
  rw [List.take_add_one, h]
  show encGaps 0 (l.take k ++ [p]) = _
  rw [encGaps_more, encGaps_one]
theorem encGaps_length : ∀ (l : List ArcD) (least : Nat), (∀ p ∈ l, p.fits) → (encGaps least l).length ≤ l.length * 20
  | [], least, _ => by simp [encGaps]
  | p :: l, least, h => by
    have h0 := h p (by simp)
    have h1 := encGaps_length l (p.to + 1) (fun q hq => h q (by simp [hq]))
    have h2 := enc_ten (n := p.to - least) (by have := h0.1; omega)
    have h3 := enc_ten (n := p.weight - 1) (by have := h0.2; omega)
    simp only [encGaps, List.length_append, List.length_cons]
    omega
/-- What is read of neighbours: so many more, behind those. -/
def goOn : Nat → List ArcD → List UInt8 → List ArcD × List UInt8 × Int
  | 0, pre, l => (pre, l, 0)
  | n + 1, pre, l =>
    if 4294967295 < leastOf pre ∨ sumOf pre = 2147483647 then ([], [], if l.length = 0 then 2 else 9)
    else
      let r1 := numOf l 0 (4294967295 - leastOf pre)
      let r2 := numOf r1.2.1 r1.2.2 (2147483646 - sumOf pre)
      if r2.2.2 ≠ 0 then ([], r2.2.1, r2.2.2) else goOn n (pre ++ [⟨leastOf pre + r1.1, r2.1 + 1⟩]) r2.2.1
/-- What is read of a reader. -/
def getOf (l : List UInt8) (x : Int) : List ArcD × List UInt8 × Int :=
  let r := numOf l x top
  if r.2.2 ≠ 0 then ([], r.2.1, r.2.2) else goOn r.1 [] r.2.1
end Go.Proofs.Ytoflbfkmkalgcaa
