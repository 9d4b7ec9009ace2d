/- Texts put together, for a law: TxE. -/
import Derived.Shelf.Abstract
import Derived.Shelf.RegionOpen
import Derived.OwnWalkIn
import Derived.TacticsInMore
import Derived.LoopNIn
import Derived.LoopIn
import Derived.WalkKit
import Derived.Test.YtcdkopbjlakebaaGreatDoorKP2
import Derived.Test.YtcdkopbjlakebaaGreatDoorKP10
import Derived.Test.YtcdkopbjlakebaaGreatDoorKP6
set_option maxRecDepth 100000
set_option maxHeartbeats 8000000
namespace Go.Proofs.YtcdkopbjlakebaaGreatDoor
section
open Go.RowKit Me Tx
theorem Y4 {n m:Nat} {P:Program} {f:FuncId} {args:Array Value} {w:World} {R:Ending->World->Prop} (h:CallsIn Fence.wide n P f args w R):CallsIn Fence.wide m P f args w R:=callsIn_wide.2 (callsIn_wide.1 h)
attribute [local go_sem] Oper.semAt_some
end
end Go.Proofs.YtcdkopbjlakebaaGreatDoor
