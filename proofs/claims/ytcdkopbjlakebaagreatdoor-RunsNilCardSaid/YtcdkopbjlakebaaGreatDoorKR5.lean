/- Texts put together, for a law: PhaseI. -/
import Derived.OrdersIn
import Derived.Test.YtcdkopbjlakebaaGreatDoorKR2
section
namespace Go.Proofs.YtcdkopbjlakebaaGreatDoor.Gw
open Go.RowKit
def noDefer (ops:Array Oper):Bool:=ops.all fun o=>match o.op with
 | .defer _=>false
 |_=>true
section
variable {P:Program} {ops:Array Oper} {wrs:List Nat} {R:World→World→Prop} {I:Nat→World→Prop} {G:Fact}
end
end Go.Proofs.YtcdkopbjlakebaaGreatDoor.Gw
end
