/- Readers and blocks of two cells, behind writes into other blocks. -/
import Derived.Test.YtegiplfgemdgdaaRef
namespace Go.Proofs.Ytegiplfgemdgdaa
open Go.RowKit Me Va

theorem Rdr.otherCell {w : World} {g : Nat} {l : List UInt8} {x : Int} (h : Rdr w g l x) {p : Addr} (hp : g < p.block) (u : Value) : Rdr (w.setCell p u) g l x :=
  h.below ((Below.refl _ _).setCell (show g + 1 ≤ p.block from hp) u)
/-- A reader does not feel what is written into another block, if its bytes lie elsewhere too. -/
theorem Rdr.apart {w w' : World} {g b : Nat} {l : List UInt8} {x : Int} (h : Rdr w g l x) (hg : w.grownBy w' (some b)) (hb : g < b) : Rdr w' g l x :=
  h.below ⟨hg.os, hg.tape, hg.output, hg.size, fun k hk => by
    have := h.here
    exact hg.block k (by omega) (fun e => by injection e; omega)⟩
theorem Rdr.alloc {w : World} {g : Nat} {l : List UInt8} {x : Int} (h : Rdr w g l x) (o : Obj) : Rdr (w.alloc o) g l x :=
  h.below ((Below.refl _ _).alloc h.here o)
theorem Rdr.drew {w : World} {g : Nat} {l : List UInt8} {x : Int} (h : Rdr w g l x) : Rdr w.drew g l x := h.below (Below.refl _ _).drew
/-- Behind a call that only made memory. -/
theorem Rdr.past {w w' : World} {g : Nat} {l : List UInt8} {x : Int} (h : Rdr w g l x) (hb : Below w.heap.size w w') : Rdr w' g l x := h.below (hb.mono h.here)
theorem grown_alloc (w : World) (o : Obj) (row : Option Nat) : w.grownBy (w.alloc o) row :=
  ⟨rfl, rfl, rfl, by simp, fun k hk _ => Below.heap_alloc w o k hk⟩
theorem grown_below {w w' : World} (h : Below w.heap.size w w') (row : Option Nat) : w.grownBy w' row := ⟨h.os, h.tape, h.output, h.size, fun k hk _ => h.block k hk⟩
theorem grown_set {w w' : World} {row : Option Nat} (h : w.grownBy w' row) {p : Addr} (hp : w.heap.size ≤ p.block) (u : Value) : w.grownBy (w'.setCell p u) row :=
  h.andThen (grownBy_set w' p u) (fun j e => by injection e with e; exact .inl (by omega))
/-- A block of two cells. -/
theorem block_two {w : World} {b : Nat} {v v' : Value} {t : TypeId} (hh : w.heap[b]? = some (.cells #[v, v'] t)) :
    w.cell? ⟨b, 0, none⟩ = some v ∧ w.cell? ⟨b, 1, none⟩ = some v' ∧ w.frozen? ⟨b, 0, none⟩ = false ∧ w.frozen? ⟨b, 1, none⟩ = false := by
  refine ⟨?_, ?_, ?_, ?_⟩
  · simp only [World.cell?, hh]; rfl
  · simp only [World.cell?, hh]; rfl
  · unfold World.frozen?; rw [hh]; simp
  · unfold World.frozen?; rw [hh]; simp
/-- Both cells laid anew. -/
theorem cells_set {h : Nat} {w1 : World} {v v' a a' : Value} (q0 : w1.cell? ⟨h, 0, none⟩ = some a) (q1 : w1.cell? ⟨h, 1, none⟩ = some a') :
    ((w1.setCell ⟨h, 0, none⟩ v).setCell ⟨h, 1, none⟩ v').cell? ⟨h, 0, none⟩ = some v ∧ ((w1.setCell ⟨h, 0, none⟩ v).setCell ⟨h, 1, none⟩ v').cell? ⟨h, 1, none⟩ = some v' := by
  have hne : (⟨h, 0, none⟩ : Addr) ≠ ⟨h, 1, none⟩ := by simp
  have hne' : (⟨h, 1, none⟩ : Addr) ≠ ⟨h, 0, none⟩ := by simp
  have e1 : (w1.setCell ⟨h, 0, none⟩ v).cell? ⟨h, 1, none⟩ = some a' := by rw [World.cell?_setCell_other _ _ _ _ hne]; exact q1
  refine ⟨?_, World.cell?_setCell_same _ _ _ e1⟩
  rw [World.cell?_setCell_other _ _ _ _ hne', World.cell?_setCell_same _ _ _ q0]
/-- A row of one's own, behind a call that has written another block. -/
theorem own_past {w w' : World} {base g size : Nat} {e : TypeId} {v : Value} {n : Nat} {xs : List Value} (h : w.ownsRow base e size v n xs) (hg : w.grownBy w' (some g)) (hlt : g < base) : w'.ownsRow base e size v n xs := by
  refine h.kept hg ?_
  cases hv : v.ownBlock with
  | none => exact .inl rfl
  | some k =>
    right
    have := (World.ownsRow.lt h k hv).1
    simp
    omega
theorem below_past {w w' : World} {g B : Nat} (hg : w.grownBy w' (some g)) (hB : B ≤ g) (hs : B ≤ w.heap.size) : Below B w w' :=
  (Below.refl B w).grown hg hs fun k hk => by cases hk; exact hB
theorem numOf_most (l : List UInt8) (x : Int) (most : Nat) : (numOf l x most).1 ≤ most := by
  unfold numOf
  split
  · exact Nat.zero_le _
  · split
    · exact Nat.zero_le _
    · split
      · exact Nat.zero_le _
      · rename_i h; simpa using h
end Go.Proofs.Ytegiplfgemdgdaa
