/- What is told of keys that are gone through: plain mathematics. -/
import Derived.Test.YtniffijjdehnaaaMkR
import Derived.Test.YtniffijjdehnaaaMmE
namespace Go.Proofs.Ytniffijjdehnaaa
open Go.RowKit Me Ed Mg

/-- A row that is told, the error beside it. -/
abbrev TellR := RwD × Int
/-- The rows that are complete. -/
def told (rows : List RowR) : List TellR := (rowM rows.tail).map fun r => (r, 0)
/-- What is told where keys have come to rows, and an error or none. -/
def tellQ (q : List RowR × Option EdD × Int) : List TellR := if q.2.2 = 0 then (rowM q.1).map fun r => (r, 0) else told q.1 ++ [((0, []), q.2.2)]
/-- What is told of keys. -/
def tellX (keys : List (List UInt8)) : List TellR := tellQ (goK [] none keys).2
theorem goK_app : ∀ (l m : List (List UInt8)) (rows : List RowR) (last : Option EdD), (goK rows last l).2.2.2 = 0 → (goK rows last (l ++ m)).2 = (goK (goK rows last l).2.1 (goK rows last l).2.2.1 m).2
  | [], m, rows, last, _ => rfl
  | b :: l, m, rows, last, h => by
    rw [List.cons_append, goK, goK]
    rw [goK] at h
    by_cases e : errK rows last b = 0
    · rw [if_pos e, if_pos e]
      rw [if_pos e] at h
      exact goK_app l m _ _ h
    · rw [if_neg e] at h
      exact absurd h e
theorem goK_one {rows : List RowR} {last : Option EdD} {b : List UInt8} {l : List (List UInt8)} (h : errK rows last b = 0) : (goK rows last (b :: l)).2 = (goK (addR (edB b) rows) (some (edB b)) l).2 := by rw [goK, if_pos h]
theorem goK_bad {rows : List RowR} {last : Option EdD} {b : List UInt8} {l : List (List UInt8)} (h : errK rows last b ≠ 0) : (goK rows last (b :: l)).2 = (rows, last, errK rows last b) := by rw [goK, if_neg h]
/-- One more row is complete. -/
theorem told_add (x : EdD) (rows : List RowR) : told (addR x rows) = if (mh rows).1 = x.src ∨ rows = [] then told rows else told rows ++ [(((mh rows).1, arcM (mh rows).2), 0)] := by
  cases rows with
  | nil => rw [if_pos (.inr rfl)]; rfl
  | cons r l =>
    rw [addR]
    by_cases h : r.src = x.src
    · rw [if_pos h, if_pos (.inl h)]
      rfl
    · rw [if_neg h, if_neg (fun hh => hh.elim h (fun e => by cases e))]
      show (rowM (r :: l)).map _ = (rowM l).map _ ++ _
      rw [rowM_cons, List.map_append]
      rfl
theorem told_last {rows : List RowR} (h : rows ≠ []) : (rowM rows).map (fun r => ((r, 0) : TellR)) = told rows ++ [(((mh rows).1, arcM (mh rows).2), 0)] := by
  cases rows with
  | nil => exact absurd rfl h
  | cons r l =>
    show (rowM (r :: l)).map _ = (rowM l).map _ ++ _
    rw [rowM_cons, List.map_append]
    rfl
/-- What is told goes on from the rows that are complete. -/
theorem tell_from : ∀ (m : List (List UInt8)) (rows : List RowR) (last : Option EdD), ∃ ext, tellQ (goK rows last m).2 = told rows ++ ext
  | [], rows, last => by
    by_cases h : rows = []
    · subst h
      exact ⟨[], rfl⟩
    · exact ⟨_, told_last h⟩
  | b :: m, rows, last => by
    by_cases e : errK rows last b = 0
    · rw [goK_one e]
      obtain ⟨ext, h⟩ := tell_from m (addR (edB b) rows) (some (edB b))
      rw [h, told_add]
      split
      · exact ⟨ext, rfl⟩
      · exact ⟨_, by rw [List.append_assoc]⟩
    · rw [goK_bad e]
      exact ⟨_, by unfold tellQ; rw [if_neg e]⟩
/-- Keys that have been consumed, all of them. -/
structure GoneK (keys : List (List UInt8)) (rows : List RowR) (last : Option EdD) : Prop where
  eq : (goK [] none keys).2 = (rows, last, 0)
theorem GoneK.start : GoneK [] [] none := ⟨rfl⟩
theorem GoneK.all {keys m : List (List UInt8)} {rows : List RowR} {last : Option EdD} (h : GoneK keys rows last) : (goK [] none (keys ++ m)).2 = (goK rows last m).2 := by
  have := goK_app keys m [] none (by rw [h.eq])
  rw [this, h.eq]
theorem GoneK.next {keys : List (List UInt8)} {rows : List RowR} {last : Option EdD} {b : List UInt8} (h : GoneK keys rows last) (he : errK rows last b = 0) : GoneK (keys ++ [b]) (addR (edB b) rows) (some (edB b)) := ⟨by rw [h.all, goK_one he]; rfl⟩
theorem GoneK.bad {keys m : List (List UInt8)} {rows : List RowR} {last : Option EdD} {b : List UInt8} (h : GoneK keys rows last) (he : errK rows last b ≠ 0) : tellX (keys ++ b :: m) = told rows ++ [((0, []), errK rows last b)] := by
  unfold tellX
  rw [h.all, goK_bad he]
  unfold tellQ
  rw [if_neg he]
theorem GoneK.row {keys m : List (List UInt8)} {rows : List RowR} {last : Option EdD} {b : List UInt8} (h : GoneK keys rows last) (he : errK rows last b = 0) (h1 : (mh rows).1 ≠ (edB b).src) (h2 : rows ≠ []) : ∃ ext, tellX (keys ++ b :: m) = told rows ++ (((mh rows).1, arcM (mh rows).2), 0) :: ext := by
  unfold tellX
  rw [h.all, goK_one he]
  obtain ⟨ext, e⟩ := tell_from m (addR (edB b) rows) (some (edB b))
  rw [e, told_add, if_neg (fun h => h.elim h1 h2), List.append_assoc]
  exact ⟨ext, rfl⟩
theorem GoneK.done {keys : List (List UInt8)} {rows : List RowR} {last : Option EdD} (h : GoneK keys rows last) : tellX keys = if rows = [] then told rows else told rows ++ [(((mh rows).1, arcM (mh rows).2), 0)] := by
  unfold tellX
  rw [h.eq]
  unfold tellQ
  rw [if_pos rfl]
  split
  · rename_i e
    subst e
    rfl
  · rename_i e
    exact told_last e
end Go.Proofs.Ytniffijjdehnaaa
