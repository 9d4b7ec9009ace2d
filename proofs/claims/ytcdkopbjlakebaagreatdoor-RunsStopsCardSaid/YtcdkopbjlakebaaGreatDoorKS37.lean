/- Texts put together, for a law: StPp. -/
import Derived.Test.YtcdkopbjlakebaaGreatDoorKS35
import Derived.Test.YtcdkopbjlakebaaGreatDoorKS18
import Derived.Test.YtcdkopbjlakebaaGreatDoorKS30
import Derived.Test.YtcdkopbjlakebaaGreatDoorKS5
import Derived.Test.YtcdkopbjlakebaaGreatDoorKS14
import Derived.Test.YtcdkopbjlakebaaGreatDoorKS34
section
namespace Go.Proofs.YtcdkopbjlakebaaGreatDoor
open Go.RowKit Me Mf Rw Ds
def chP (b:List UInt8) (k:Nat):List UInt8:=(b.drop (112*k)).take 112
theorem chP_length (b:List UInt8) (k:Nat):(chP b k).length=chLen b.length k:=by unfold chP chLen;rw[List.length_take,List.length_drop]
def pgB (id:Nat) (b:List UInt8) (k:Nat):List UInt8:=Pg.enc (rg id) (rg k) (chP b k)
theorem pgB_length (id:Nat) (b:List UInt8) (k:Nat):(pgB id b k).length=128:=Pg.enc_length (by rw[chP_length];unfold chLen;omega)
def ptD (S:Dsk) (id:Nat) (bl:List Int) (b:List UInt8):Nat→Dsk×Int
 |0=>(S,0)
 |k+1=>if (ptD S id bl b k).2=0 then writeD (ptD S id bl b k).1 (bl.getD k 0) (pgB id b k) else ptD S id bl b k
def putP (S:Dsk) (f:FileD) (b:List UInt8):Dsk×Int:=ptD S f.id f.blocks b (St.pages b.length)
section
variable {S:Dsk} {id:Nat} {bl:List Int} {b:List UInt8}
theorem ptD_pend:∀k,(ptD S id bl b k).1.pend.length≤S.pend.length+k
 |0=>Nat.le_refl _
 |k+1=>by
  have h:=ptD_pend k
  rw[ptD]
  split
  ·have:=writeD_pend (ptD S id bl b k).1 (bl.getD k 0) (pgB id b k)
   omega
  ·omega
def stepP (id:Nat) (bl:List Int) (b:List UInt8) {p:Nat} (q:(Dsk×Int)×Nat) (x:Fin p):(Dsk×Int)×Nat:=
 (if q.1.2=0 then writeD q.1.1 (bl.getD q.2 0) (Pg.enc (rg id) (rg q.2) (chP b x.val)) else q.1,q.2+1)
def ptL (S:Dsk) (id:Nat) (bl:List Int) (b:List UInt8) {p:Nat} (pre:List (Fin p)):(Dsk×Int)×Nat:=pre.foldl (stepP id bl b) ((S,0),0)
end
def ppG (H P B:Nat) (A3:Option Addr) (n3 c3:Nat) (kk:Int) (a5:Addr) (i:Int) (g c2:Nat) (r:Int):Gw.Fact:=fun s v _=>
 match s with
 |3=>v=.pointer (some ⟨H,0,none⟩)
 |24|25=>v=.pointer (some ⟨P,0,none⟩)
 |26=>v=.pointer (some ⟨P,0,none⟩)
 |27=>v=.pointer (some ⟨B,0,none⟩)
 |4=>v=.pointer (some ⟨H+1,0,none⟩)
 |28=>v=.pointer (some ⟨H+1,3,none⟩)
 |29=>v=.slice A3 n3 c3
 |7=>v=.pointer (some ⟨H+3,0,none⟩)
 |30=>v=.int .i64 kk
 |31=>v=.pointer (some a5)
 |32=>v=.int .i64 i
 |9|33=>v=.slice (some ⟨g,0,none⟩) 128 c2
 |34|11=>v=.int .i64 r
 |_=>True
theorem PutPost.page {w w':World} {l:List UInt8} {e:Ending} (hl:l.length=128) (h:PutPost w l 0 e w') :
 ∃g c,e=.returned (.tuple #[.slice (some ⟨g,0,none⟩) 128 c,.int .i64 0])∧128≤c∧(∀S:Nat→Prop,(∀k,S k→k<w.heap.size)→Cz w' S (some ⟨g,0,none⟩) (cellsOf l))∧Below w.heap.size w w':=by
 obtain ⟨A,n,c,rfl,h1,h2,h3,-,h5⟩:=h.open
 have hn:n=128:=by omega
 subst hn
 obtain ⟨g,c',e⟩:=ownsRow_succ h3
 injection e with e1 e2 e3
 subst e1 e3
 exact ⟨g,c,rfl,h2,fun S hS=>Cz.of_own h3 (fun k h4 _ h6=>by have:=hS k h6;omega),h5⟩
structure PSt (w:World) (B D P:Nat) (fv:List Value) (S:Dsk) (own:Nat→Prop) (r a:Int) (W:World):Prop where
 disk:∃own',DiskAt W B D S own'∧∀j,own' j→own j∨w.heap.size+6≤j
 out:Out own w W
 bs:Blk W w.heap.size [.pointer (some ⟨P,0,none⟩)]
 bf:Blk W (w.heap.size+1) fv
 br:Blk W (w.heap.size+2) [.int .i64 r]
 ba:Blk W (w.heap.size+3) [.int .i64 a]
theorem PSt.turn {w:World} {B D P:Nat} {fv:List Value} {S:Dsk} {own:Nat→Prop} {r a:Int} {X Y:World} {row:Option Nat} (h:PSt w B D P fv S own r a X) (hg:X.grownBy Y row) (hr:∀k,row=some k→w.heap.size+6≤k∧∃o:Obj,X.heap[k]?=some o∧o.isCells=false):PSt w B D P fv S own r a Y:=by
 obtain ⟨own',h1,h2⟩:=h.disk
 have ho:Out (fun k=>row=some k) X Y:=Out.of_grown hg fun k e _=>e
 refine ⟨⟨own',h1.out ho fun k hk e=>?_,h2⟩,h.out.grown hg fun k e=>.inr (by have:=(hr k e).1;omega),h.bs.grown hg ?_,h.bf.grown hg ?_,h.br.grown hg ?_,h.ba.grown hg ?_⟩
 ·obtain ⟨o,e1,e2⟩:=h1.cells hk
  obtain ⟨-,o',e3,e4⟩:=hr k e
  rw[e1] at e3
  injection e3 with e3
  subst e3
  rw[e2] at e4
  cases e4
 all_goals
  intro e
  have:=(hr _ e).1
  omega
attribute [local go_sem] Oper.semAt_some
section
variable {w w':World} {B P D M N:Nat} {X:Sto} {own ownD T:Nat→Prop}
end
end Go.Proofs.YtcdkopbjlakebaaGreatDoor
end
