/- A block of two cells, not frozen, through what is written elsewhere. -/
import Derived.Test.YtegiplfgemdgdaaGet
namespace Go.Proofs.Ytegiplfgemdgdaa
open Go.RowKit Me Va

/-- Both cells of a block. -/
def Two (w : World) (b : Nat) (v v' : Value) : Prop :=
  w.cell? ⟨b, 0, none⟩ = some v ∧ w.cell? ⟨b, 1, none⟩ = some v' ∧ w.frozen? ⟨b, 0, none⟩ = false ∧ w.frozen? ⟨b, 1, none⟩ = false
section
variable {w w' : World} {b B : Nat} {v v' a a' : Value}
theorem Two.here (h : Two w b v v') : b < w.heap.size := block_lt_of_cell h.1
theorem Two.below (h : Two w b v v') (hb : Below B w w') (hlt : b < B) : Two w' b v v' :=
  ⟨(hb.cell (p := ⟨b, 0, none⟩) hlt).trans h.1, (hb.cell (p := ⟨b, 1, none⟩) hlt).trans h.2.1, (hb.frozen (p := ⟨b, 0, none⟩) hlt).trans h.2.2.1, (hb.frozen (p := ⟨b, 1, none⟩) hlt).trans h.2.2.2⟩
theorem Two.past (h : Two w b v v') (hb : Below w.heap.size w w') : Two w' b v v' := h.below hb h.here
theorem Two.grown {row : Option Nat} (h : Two w b v v') (hg : w.grownBy w' row) (hne : row ≠ some b) : Two w' b v v' :=
  have k := hg.block b h.here (fun e => hne e.symm)
  ⟨(World.cell?_of_block (a := ⟨b, 0, none⟩) k).trans h.1, (World.cell?_of_block (a := ⟨b, 1, none⟩) k).trans h.2.1, (World.frozen?_of_block (a := ⟨b, 0, none⟩) k).trans h.2.2.1, (World.frozen?_of_block (a := ⟨b, 1, none⟩) k).trans h.2.2.2⟩
theorem Two.alloc (h : Two w b v v') (o : Obj) : Two (w.alloc o) b v v' := h.past ((Below.refl _ _).alloc (Nat.le_refl _) o)
theorem Two.drew (h : Two w b v v') : Two w.drew b v v' := h.past (Below.refl _ _).drew
theorem Two.setOther (h : Two w b v v') {p : Addr} (hp : p.block ≠ b) (u : Value) : Two (w.setCell p u) b v v' :=
  h.grown (grownBy_set w p u) (by simpa using hp)
theorem Two.set (h : Two w b a a') (v v' : Value) : Two ((w.setCell ⟨b, 0, none⟩ v).setCell ⟨b, 1, none⟩ v') b v v' := by
  obtain ⟨g0, g1⟩ := cells_set (v := v) (v' := v') h.1 h.2.1
  exact ⟨g0, g1, by simpa using h.2.2.1, by simpa using h.2.2.2⟩
theorem Two.new (w : World) (v v' : Value) (t : TypeId) : Two (w.alloc (.cells #[v, v'] t)) w.heap.size v v' := block_two (heap_alloc_new w _)
theorem Two.new' {H : Nat} (w : World) (v v' : Value) (t : TypeId) (hH : w.heap.size = H) : Two (w.alloc (.cells #[v, v'] t)) H v v' := by subst hH; exact Two.new w v v' t
end
/-- The document's reader in block b: bytes of the memory that came in. -/
def Mdl (W : World) (B : Nat) (w : World) (b : Nat) (l : List UInt8) (x : Int) : Prop :=
  ∃ A n c, Two w b (.slice A n c) (.int .i64 x) ∧ l.length = n ∧ n ≤ c ∧ n ≤ 70368744177664 ∧ Rd W B A l
theorem rd_back {W w : World} {B : Nat} {A : Option Addr} {l : List UInt8} (h : Rd w B A l) (hb : Below B W w) : Rd W B A l := h.keep fun _ hp => (hb.cell hp).symm
theorem numOf_le (l : List UInt8) (x : Int) (most : Nat) : (numOf l x most).2.1.length ≤ l.length := by
  unfold numOf
  split
  · exact Nat.le_refl _
  · split
    · exact Nat.zero_le _
    · split
      · exact Nat.zero_le _
      · simp
end Go.Proofs.Ytegiplfgemdgdaa
