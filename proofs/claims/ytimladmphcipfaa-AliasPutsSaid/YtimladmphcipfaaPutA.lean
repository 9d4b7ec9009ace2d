/- Neighbours put behind bytes, the program's. -/
import Derived.Test.YtimladmphcipfaaByts
import Derived.Test.YtimladmphcipfaaSumA
namespace Go.Proofs.Ytimladmphcipfaa
open Go.RowKit Me Va

theorem may_parts {l : List ArcD} (h : may l = true) : rises 0 l = true ∧ sumOf l ≤ 2147483647 := by
  unfold may at h
  simpa using h
theorem rises_at {l : List ArcD} {k : Nat} {p : ArcD} (h : rises 0 l = true) (hp : l[k]? = some p) : leastOf (l.take k) ≤ p.to ∧ 1 ≤ p.weight := by
  have h1 : rises 0 (l.take (k + 1)) = true := by
    cases hc : rises 0 (l.take (k + 1)) with
    | true => rfl
    | false => rw [rises_front hc] at h; cases h
  rw [rises_take hp] at h1
  simp at h1
  omega
/-- What stands behind some rounds: the bytes so far. -/
def PutsRel (w : World) (b : List UInt8) (l : List ArcD) (k : Nat) (v : Value) (wr : World) : Prop :=
  ∃ m, m ≤ b.length + 10 + k * 20 ∧ wr.ownsRow w.heap.size 5 1 v m (cellsOf (b ++ enc l.length ++ encGaps 0 (l.take k))) ∧ Below w.heap.size w wr
end Go.Proofs.Ytimladmphcipfaa
