/- Texts put together, for a law: ChunkP. -/
import Derived.Lib.MinMax
import Derived.Test.YtcdkopbjlakebaaGreatDoorKS22
import Derived.Test.YtcdkopbjlakebaaGreatDoorKS17
import Derived.Test.YtcdkopbjlakebaaGreatDoorKS24
section
namespace Go.Proofs.YtcdkopbjlakebaaGreatDoor
open Go.RowKit Me Rw Ds
def chLen (t k:Nat):Nat:=min 112 (t-112*k)
def encP (a:Addr) (t:Nat) {p:Nat} (k:Fin p):Array Value:=#[.slice (some (a.add (112*k.val))) (chLen t k.val) (chLen t k.val)]
def chpG (a:Addr) (tt c c' o t e Bs Bn:Nat):Gw.Fact:=fun s v _=>
 match s with
 |1=>v=.pointer (some ⟨Bs,0,none⟩)
 |2=>v=.pointer (some ⟨Bn,0,none⟩)
 |4|15=>v=.int .i64 (o:Int)
 |13=>v=.int .i64 112
 |18|5=>v=.int .i64 (e:Int)
 |14=>v=.slice (some a) tt c
 |16=>v=.slice (some (a.add o)) t c'
 |17=>v=.int .i64 (t:Int)
 |_=>True
attribute [local go_sem] Oper.semAt_some
end Go.Proofs.YtcdkopbjlakebaaGreatDoor
end
