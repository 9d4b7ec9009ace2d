/- Texts put together, for a law: StPl, StNx. -/
import Derived.Test.YtcdkopbjlakebaaGreatDoorKS35
import Derived.Test.YtcdkopbjlakebaaGreatDoorKS39
import Derived.Test.YtcdkopbjlakebaaGreatDoorKS18
import Derived.Test.YtcdkopbjlakebaaGreatDoorKS21
section
namespace Go.Proofs.YtcdkopbjlakebaaGreatDoor
open Go.RowKit Me Mf Rw Ds Va St
def szC (X:Sto) (x:List UInt8):Option Nat:=match X.C x with
 |some (some b)=>some b.length
 |_=>none
def listC (X:Sto) (l:List (List UInt8)):List (List UInt8×Option Nat):=l.map fun x=>(x,szC X x)
structure PlanI (fs:List FileD) (L:List (List UInt8×Option Nat)) (fr0:List Nat) (nx0:Nat) (j:Nat) (acc:List FileD) (fr:List Nat) (nx:Nat):Prop where
 eq:planL fs L fr0 nx0=(planL fs (L.drop j) fr nx).map fun r=>(acc++r.1,r.2)
theorem PlanI.zero (fs:List FileD) (L:List (List UInt8×Option Nat)) (fr:List Nat) (nx:Nat):PlanI fs L fr nx 0 [] fr nx:=⟨by simp⟩
section
variable {fs acc:List FileD} {L:List (List UInt8×Option Nat)} {fr0 fr:List Nat} {nx0 nx j s:Nat} {x:List UInt8} {f:FileD}
theorem drop_at {α:Type} {l:List α} {j:Nat} {a:α} (h:l[j]?=some a):l.drop j=a::l.drop (j+1):=by
 obtain ⟨hj,e⟩:=List.getElem?_eq_some_iff.1 h
 rw[←e,List.drop_eq_getElem_cons hj]
theorem PlanI.old (h:PlanI fs L fr0 nx0 j acc fr nx) (hx:L[j]?=some (x,none)) (hf:(fs.filter fun g=>g.name==x)=[f]):PlanI fs L fr0 nx0 (j+1) (acc++[f]) fr nx:=⟨by
 rw[h.eq,drop_at hx,planL,hf,Option.map_map]
 congr 1
 funext r
 simp⟩
theorem PlanI.new (h:PlanI fs L fr0 nx0 j acc fr nx) (hx:L[j]?=some (x,some s)) (hs:pages s≤fr.length) (hn:nx≠4294967295):PlanI fs L fr0 nx0 (j+1) (acc++[⟨x,nx,(s:Int),ints (fr.take (pages s))⟩]) (fr.drop (pages s)) (nx+1):=⟨by
 rw[h.eq,drop_at hx,planL,if_pos ⟨hs,hn⟩,Option.map_map]
 congr 1
 funext r
 simp⟩
theorem PlanI.done (h:PlanI fs L fr0 nx0 j acc fr nx) (hj:L.length≤j):planL fs L fr0 nx0=some (acc,nx):=by
 rw[h.eq,List.drop_of_length_le hj,planL];simp
end
def NextIs (X:Sto) (l:List (List UInt8)) (m:ManD):Prop:=planD X.m X.S.stored.length (listC X l)=some m∧X.m.version<18446744073709551615∧Fit m
end Go.Proofs.YtcdkopbjlakebaaGreatDoor
end
section
namespace Go.Proofs.YtcdkopbjlakebaaGreatDoor
open Go.RowKit Me Mf Rw Ds Va Go.Maps
section
variable {w w':World} {B P D M N:Nat} {X:Sto} {own ownD T:Nat→Prop}
def NxPost (w:World) (X:Sto) (own:Nat→Prop) (N:Nat) (e:Ending) (w':World):Prop:=
 Below w.heap.size w w'∧∃l,IsNames X l∧l.length≤2035+N∧((∃m A n c,NextIs X l m∧e=.returned (.tuple #[mval m.version m.next A n c,.int .i64 0])∧ManK own A n c m w') ∨
  ((∀m,¬NextIs X l m)∧e=.returned (.tuple #[mval 0 0 none 0 0,.int .i64 7])))
def nxT (own:Nat→Prop) (H B4:Nat) (v:Value):Nat→Prop:=fun k=>own k∨(H≤k∧k<B4)∨v.ownBlock=some k
def nxB (P G j fc r n0 c0 H5 id n3 c3 fc':Nat) (FA FA' A3:Option Addr) (a:Addr) (nm:List UInt8) (sz:Int):Gw.Fact:=fun t v _=>
 match t with
 |4=>v=.pointer (some ⟨G,0,none⟩)
 |59|71=>v=.pointer (some ⟨G,2,none⟩)
 |60=>v=.slice FA j fc
 |0|61|62=>v=.pointer (some ⟨P,0,none⟩)
 |63=>v=.pointer (some ⟨P,1,none⟩)
 |64=>v=.pointer (some ⟨P,3,none⟩)
 |65=>v=.slice (some a) n0 c0
 |11|66=>v=.int .i64 (r:Int)
 |67=>v=.pointer (some (a.add (r*4)))
 |68=>v=.agg #[sv nm,.int .u32 (id:Int),.int .i64 sz,.slice A3 n3 c3]
 |69=>v=.slice (some ⟨H5,0,none⟩) 1 1
 |70=>v=.slice FA' (j+1) fc'
 |_=>True
def nxC (G j fc cb nx k c H5 n3 c3 fc':Nat) (FA FA' A' A3:Option Addr) (nm:List UInt8):Gw.Fact:=fun t v _=>
 match t with
 |4=>v=.pointer (some ⟨G,0,none⟩)
 |89|101=>v=.pointer (some ⟨G,2,none⟩)
 |90=>v=.slice FA j fc
 |8|91=>v=sv nm
 |92=>v=.pointer (some ⟨G,1,none⟩)
 |93=>v=.int .u32 (nx:Int)
 |9|94=>v=.pointer (some ⟨cb,0,none⟩)
 |95=>v=.slice A' k c
 |96=>v=.int .i64 (k:Int)
 |13|97=>v=.slice A3 n3 c3
 |98=>v=.agg #[sv nm,.int .u32 (nx:Int),.int .i64 (k:Int),.slice A3 n3 c3]
 |99=>v=.slice (some ⟨H5,0,none⟩) 1 1
 |100=>v=.slice FA' (j+1) fc'
 |_=>True
def nxA (P H ver nx:Nat):Gw.Fact:=fun t v w=>
 match t with
 |0|15|16|21|22=>v=.pointer (some ⟨P,0,none⟩)
 |17|18|23=>v=.pointer (some ⟨P,1,none⟩)
 |24=>v=.pointer (some ⟨P,2,none⟩)
 |19=>v=.int .u64 (ver:Int)
 |20=>v=.int .u64 (IntKind.u64.wrap ((ver:Int)+1))
 |25=>v=.int .u32 (nx:Int)
 |26=>v=.agg #[.int .u64 (IntKind.u64.wrap ((ver:Int)+1)),.int .u32 (nx:Int),.slice none 0 0]
 |4=>∃b,v=.pointer (some ⟨b,0,none⟩)∧H≤b∧Blk w b [.int .u64 0,.int .u32 0,.slice none 0 0]
 |_=>True
end
end Go.Proofs.YtcdkopbjlakebaaGreatDoor
end
