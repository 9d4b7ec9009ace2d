/- Bytes of one's own that are answered with an error's number. -/
import Derived.Test.YtgnghalcihoaaaaByt
import Derived.Test.YtgnghalcihoaaaaCel0
namespace Go.Proofs.Ytgnghalcihoaaaa
open Go.RowKit Me

/-- Bytes of one's own and an error's number are answered. -/
def PutPost (w : World) (l : List UInt8) (x : Int) (e : Ending) (w' : World) : Prop :=
  ∃ v n, e = .returned (.tuple #[v, .int .i64 x]) ∧ w'.ownsRow w.heap.size 5 1 v n (cellsOf l) ∧ Below w.heap.size w w'
theorem PutPost.open {w w' : World} {l : List UInt8} {x : Int} {e : Ending} (h : PutPost w l x e w') :
    ∃ A n c, e = .returned (.tuple #[.slice A n c, .int .i64 x]) ∧ l.length = n ∧ n ≤ c ∧ w'.ownsRow w.heap.size 5 1 (.slice A n c) n (cellsOf l) ∧ Rd w' w'.heap.size A l ∧ Below w.heap.size w w' := by
  obtain ⟨v, n, he, ho, hb⟩ := h
  obtain ⟨A, n', c, e2, h1, h2, h3, h4, h5⟩ := News.open (w := w) (w' := w') (l := l) (e := .returned v) ⟨v, n, rfl, ho, hb⟩
  injection e2 with e2
  subst e2
  exact ⟨A, n', c, he, h1, h2, h3, h4, h5⟩
theorem or_bytes (k x y : Nat) (hx : x < 2 ^ k) (h1 : x < 4294967296) (h2 : 2 ^ k * y < 4294967296) : bits .or .u32 (x : Int) ((2 ^ k * y : Nat) : Int) = ((x + 2 ^ k * y : Nat) : Int) := by
  rw [u32_or_nat _ _ h1 h2, Nat.or_comm, ← Nat.two_pow_add_eq_or_of_lt hx y, Nat.add_comm]
end Go.Proofs.Ytgnghalcihoaaaa
