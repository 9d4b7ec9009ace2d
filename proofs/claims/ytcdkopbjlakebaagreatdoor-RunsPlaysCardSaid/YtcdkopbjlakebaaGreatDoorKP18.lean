/- Texts put together, for a law: Ans. -/
import Derived.Test.YtcdkopbjlakebaaGreatDoorKP17
import Derived.Test.YtcdkopbjlakebaaGreatDoorKP9
set_option maxRecDepth 100000
set_option maxHeartbeats 8000000
namespace Go.Proofs.YtcdkopbjlakebaaGreatDoor
section
open Go.RowKit Me Mf
def Says (b:List UInt8) (x:Option ManD):Prop:=∀m,YG b m↔x=some m
theorem zeN (b:List UInt8):∃x,Says b x:=by
 by_cases h:∃m,YG b m
 ·obtain ⟨m,h⟩:=h;exact ⟨some m,fun m'=>⟨fun h'=>by rw[h.one h'],fun e=>by injection e with e;rw[<-e];exact h⟩⟩
 ·exact ⟨none,fun m=>⟨fun h'=>absurd ⟨m,h'⟩ h,fun e=>by cases e⟩⟩
theorem Says.one {b:List UInt8} {x y:Option ManD} (h:Says b x) (h':Says b y):x=y:=by
 cases x with
 |some m=>exact ((h' m).1 ((h m).2 rfl)).symm
 |none=>cases y with
  |none=>rfl
  |some m=>exact ((h m).1 ((h' m).2 rfl))
theorem Says.get {b:List UInt8} {x:Option ManD} {m:ManD} (h:Says b x) (hg:YG b m):x=some m:=(h m).1 hg
theorem Says.no {b:List UInt8} {x:Option ManD} (h:Says b x) (hn:∀m,¬YG b m):x=none:=by
 cases x with
 |none=>rfl
 |some m=>exact absurd ((h m).2 rfl) (hn m)
def best:Option ManD->Option ManD->Option ManD
 |a,none=>a
 |none,some m=>some m
 |some a,some m=>if a.version<m.version then some m else some a
def Z4 (T:Nat->Option ManD):Nat->Option ManD
 |0=>none
 |k+1=>best (Z4 T k) (T k)
def QF (Z:Nat->Bool):Nat->Bool
 |0=>false
 |k+1=>QF Z k||Z k
def zkJ (x:Option ManD) (z:Bool):ManD×Int:=
 match x with
 |some m=>(m,0)
 |none=>if z then (ql,0) else (ql,5)
structure RSt (T:Nat->Option ManD) (Z:Nat->Bool) (k:Nat) (fo zz:Bool) (m:ManD):Prop where
 cur:Z4 T k=if fo then some m else none
 no:fo=false->m=ql
 blk:zz=QF Z k
theorem RSt.zero (T:Nat->Option ManD) (Z:Nat->Bool):RSt T Z 0 false false ql:=⟨rfl,fun _=>rfl,rfl⟩
section
variable {T:Nat->Option ManD} {Z:Nat->Bool} {k:Nat} {fo zz zb:Bool} {m m1:ManD}
theorem RSt.none (h:RSt T Z k fo zz m) (ht:T k=Option.none) (hz:zb=(zz||Z k)):RSt T Z (k+1) fo zb m:=
 ⟨by rw[Z4,ht];unfold best;cases hc:Z4 T k<;>(rw[<-h.cur,hc]),h.no,by rw[QF,<-h.blk,hz]⟩
theorem RSt.first (h:RSt T Z k false zz m) (ht:T k=some m1) (hz:zb=(zz||Z k)):RSt T Z (k+1) true zb m1:=
 ⟨by rw[Z4,ht,h.cur];rfl,fun h=>(by cases h),by rw[QF,<-h.blk,hz]⟩
theorem RSt.more (h:RSt T Z k true zz m) (ht:T k=some m1) (hv:m.version<m1.version) (hz:zb=(zz||Z k)):RSt T Z (k+1) true zb m1:=
 ⟨by rw[Z4,ht,h.cur];exact if_pos hv,fun h=>(by cases h),by rw[QF,<-h.blk,hz]⟩
theorem RSt.less (h:RSt T Z k true zz m) (ht:T k=some m1) (hv:¬m.version<m1.version) (hz:zb=(zz||Z k)):RSt T Z (k+1) true zb m:=
 ⟨by rw[Z4,ht,h.cur];exact if_neg hv,fun h=>(by cases h),by rw[QF,<-h.blk,hz]⟩
theorem RSt.ans (h:RSt T Z k fo zz m):zkJ (Z4 T k) (QF Z k)=if fo||zz then (m,0) else (ql,5):=by
 rw[h.cur,<-h.blk]
 cases fo with
 |true=>rfl
 |false=>rw[h.no rfl];rfl
end
theorem Blk.ne {w:World} {b:Nat} {cs:List Value} {p:Addr} {v:Value} (h:Blk w b cs) (hc:w.cell? p=some v) (hv:v∉cs):p.block≠b:=fun e=>by
 obtain ⟨t,h⟩:=h;rw[<-e] at h;unfold World.cell? at hc;rw[h] at hc;simp only at hc
 split at hc
 ·cases hc
 ·rw[List.getElem?_toArray] at hc;exact hv (List.mem_of_getElem? hc)
def zbQ (w:World) (p:ManD×Int) (e:Ending) (w':World):Prop:=
 Below w.heap.size w w'/\∃A n c,e=.returned (.tuple #[mval p.1.version p.1.next A n c,.int .i64 p.2])/\ManK (fun k=>k<w.heap.size) A n c p.1 w'
end
end Go.Proofs.YtcdkopbjlakebaaGreatDoor
