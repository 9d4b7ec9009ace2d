/- The example; the same arcs. -/
import Derived.Test.YtimladmphcipfaaRefPutA
import Derived.RegionTactic
namespace Go.Proofs.Ytimladmphcipfaa
open Go.RowKit Me Va

theorem enc_one (n : Nat) (h : n < 128) : enc n = [UInt8.ofNat n] := enc_small h
theorem example_bytes : encArcs [⟨5, 1⟩, ⟨7, 2⟩] = [2, 5, 0, 1, 1] := by
  simp only [encArcs, encGaps, List.length_cons, List.length_nil, Nat.reduceAdd, Nat.reduceSub, Nat.sub_zero, Nat.sub_self]
  rw [enc_one 2 (by decide), enc_one 5 (by decide), enc_one 0 (by decide), enc_one 1 (by decide)]
  decide
theorem example_may : may [⟨5, 1⟩, ⟨7, 2⟩] = true := by decide
end Go.Proofs.Ytimladmphcipfaa
