/- Texts put together, for a law: TxE. -/
import Derived.Shelf.Abstract
import Derived.Shelf.RegionOpen
import Derived.OwnWalkIn
import Derived.TacticsInMore
import Derived.LoopNIn
import Derived.LoopIn
import Derived.WalkKit
import Derived.Test.YtcdkopbjlakebaaGreatDoorKS2
import Derived.Test.YtcdkopbjlakebaaGreatDoorKS10
import Derived.Test.YtcdkopbjlakebaaGreatDoorKS6
section
namespace Go.Proofs.YtcdkopbjlakebaaGreatDoor
open Go.RowKit Me Tx
def MemB (Bb:Nat) (A:Option Addr) (l:List UInt8) (q:Nat):Prop:=q=Bb∨(0<l.length∧∃a:Addr,A=some a∧q=a.block)
theorem callsIn_any {n m:Nat} {P:Program} {f:FuncId} {args:Array Value} {w:World} {R:Ending→World→Prop} (h:CallsIn Fence.wide n P f args w R):CallsIn Fence.wide m P f args w R:=callsIn_wide.2 (callsIn_wide.1 h)
attribute [local go_sem] Oper.semAt_some
end Go.Proofs.YtcdkopbjlakebaaGreatDoor
end
