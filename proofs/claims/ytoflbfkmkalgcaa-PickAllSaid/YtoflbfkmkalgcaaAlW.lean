/- The example of layer 16. -/
import Derived.Test.YtoflbfkmkalgcaaAlB
namespace Go.Proofs.Ytoflbfkmkalgcaa
open Go.RowKit Me Va Al

theorem example_tab {T : List CelD} (h : Tabl [⟨1, 1⟩, ⟨2, 3⟩] T) : T = [⟨2, 1⟩, ⟨4, 1⟩] := by
  refine h.one ⟨upd 4 (beg 4 [2, 6]) 0 1, ?_, ?_, rfl⟩
  · refine .cons (i := 0) (j := 1) ⟨by decide, by decide, fun k hk => by omega⟩ ⟨by decide, by decide, fun k hk => ?_⟩ (.nil _)
    have : k = 0 := by omega
    subst this
    decide
  · intro k hk
    have : k = 0 ∨ k = 1 := by
      have : k < 2 := hk
      omega
    rcases this with rfl | rfl <;> decide
theorem at_zero (x : Addr) : x.add 0 = x := by unfold Addr.add; simp
end Go.Proofs.Ytoflbfkmkalgcaa
