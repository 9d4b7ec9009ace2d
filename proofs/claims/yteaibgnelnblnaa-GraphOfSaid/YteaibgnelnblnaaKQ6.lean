/- Texts put together, for a law: Brw. -/
import Derived.Deep.Grids
import Derived.Test.YteaibgnelnblnaaKQ3
section
namespace Go.Proofs.Yteaibgnelnblnaa
open Go.RowKit Me
variable {w w' : World}

/-- A slice of bytes, the bytes. -/
abbrev Pc := Value × List UInt8
/-- It lies below a block. -/
def PcAt (w : World) (B : Nat) (p : Pc) : Prop := ∃ A n c, p.1 = .slice A n c ∧ p.2.length = n ∧ n ≤ c ∧ c ≤ 9223372036854775807 ∧ Rd w B A p.2
theorem PcAt.keep {B : Nat} {p : Pc} (h : PcAt w B p) (hk : ∀ a : Addr, a.block < B → w'.cell? a = w.cell? a) : PcAt w' B p := by
  obtain ⟨A, n, c, h1, h2, h3, h4, h5⟩ := h
  exact ⟨A, n, c, h1, h2, h3, h4, h5.keep hk⟩
open Go.ChangeShapes Go.WideShapes
/-- Rows of bytes in a row. -/
structure BRows (w : World) (B : Nat) (A : Option Addr) (es : List Pc) : Prop where
  row : Cs w B A (es.map Prod.fst)
  all : ∀ p ∈ es, PcAt w B p
theorem BRows.below {w w' : World} {B : Nat} {A : Option Addr} {es : List Pc} (h : BRows w B A es) (hb : Below B w w') : BRows w' B A es :=
  ⟨h.row.below hb, fun p hp => (h.all p hp).keep fun a ha => hb.cell ha⟩
/-- One of them. -/
theorem BRows.at {w : World} {B : Nat} {A : Option Addr} {es : List Pc} (h : BRows w B A es) {i : Nat} {p : Pc} (hi : es[i]? = some p) : ∃ a A1 n c, A = some a ∧ a.block < B ∧ w.cell? (a.add i) = some (.slice A1 n c) ∧ p.2.length = n ∧ n ≤ c ∧ c ≤ 9223372036854775807 ∧ Rd w B A1 p.2 := by
  obtain ⟨a, e, hb, hc⟩ := h.row (by rw [List.length_map]; have := (List.getElem?_eq_some_iff.1 hi).1; omega)
  obtain ⟨A1, n, c, e1, h1, h2, h3, h4⟩ := h.all p (List.mem_of_getElem? hi)
  exact ⟨a, A1, n, c, e, hb, hc i _ (by rw [List.getElem?_map, hi]; exact congrArg some e1), h1, h2, h3, h4⟩
end Go.Proofs.Yteaibgnelnblnaa
end
