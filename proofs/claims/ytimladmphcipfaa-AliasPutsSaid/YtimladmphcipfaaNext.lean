/- The next arc that is read, the program's. -/
import Derived.Test.YtimladmphcipfaaVari
import Derived.Test.YtimladmphcipfaaSumA
namespace Go.Proofs.Ytimladmphcipfaa
open Go.RowKit Me Va

/-- What no further arc brings. -/
def noMore (l : List UInt8) : Int := if l.length = 0 then 2 else 9
theorem spoil_no (l : List UInt8) : spoil l 0 (noMore l) = ([], noMore l) := by
  unfold spoil noMore
  rw [if_neg]
  split <;> simp
end Go.Proofs.Ytimladmphcipfaa
