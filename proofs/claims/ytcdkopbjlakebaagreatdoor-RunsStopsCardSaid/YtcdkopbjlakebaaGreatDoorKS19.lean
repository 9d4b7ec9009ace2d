/- Texts put together, for a law: Ans. -/
import Derived.Test.YtcdkopbjlakebaaGreatDoorKS18
import Derived.Test.YtcdkopbjlakebaaGreatDoorKS9
section
namespace Go.Proofs.YtcdkopbjlakebaaGreatDoor
open Go.RowKit Me Mf
def Says (b:List UInt8) (x:Option ManD):Prop:=∀m,GetsM b m↔x=some m
theorem says_any (b:List UInt8):∃x,Says b x:=by
 by_cases h:∃m,GetsM b m
 ·obtain ⟨m,h⟩:=h
  exact ⟨some m,fun m'=>⟨fun h'=>by rw[h.one h'],fun e=>by injection e with e;rw[←e];exact h⟩⟩
 ·exact ⟨none,fun m=>⟨fun h'=>absurd ⟨m,h'⟩ h,fun e=>by cases e⟩⟩
theorem Says.one {b:List UInt8} {x y:Option ManD} (h:Says b x) (h':Says b y):x=y:=by
 cases x with
 |some m=>exact ((h' m).1 ((h m).2 rfl)).symm
 |none=>cases y with
  |none=>rfl
  |some m=>exact ((h m).1 ((h' m).2 rfl))
theorem Says.get {b:List UInt8} {x:Option ManD} {m:ManD} (h:Says b x) (hg:GetsM b m):x=some m:=(h m).1 hg
theorem Says.no {b:List UInt8} {x:Option ManD} (h:Says b x) (hn:∀m,¬GetsM b m):x=none:=by
 cases x with
 |none=>rfl
 |some m=>exact absurd ((h m).2 rfl) (hn m)
def best:Option ManD→Option ManD→Option ManD
 |a,none=>a
 |none,some m=>some m
 |some a,some m=>if a.version<m.version then some m else some a
def curOf (T:Nat→Option ManD):Nat→Option ManD
 |0=>none
 |k+1=>best (curOf T k) (T k)
def blkOf (Z:Nat→Bool):Nat→Bool
 |0=>false
 |k+1=>blkOf Z k||Z k
def ansOf (x:Option ManD) (z:Bool):ManD×Int:=
 match x with
 |some m=>(m,0)
 |none=>if z then (noMan,0) else (noMan,5)
structure RSt (T:Nat→Option ManD) (Z:Nat→Bool) (k:Nat) (fo zz:Bool) (m:ManD):Prop where
 cur:curOf T k=if fo then some m else none
 no:fo=false→m=noMan
 blk:zz=blkOf Z k
theorem RSt.zero (T:Nat→Option ManD) (Z:Nat→Bool):RSt T Z 0 false false noMan:=⟨rfl,fun _=>rfl,rfl⟩
section
variable {T:Nat→Option ManD} {Z:Nat→Bool} {k:Nat} {fo zz zb:Bool} {m m1:ManD}
theorem RSt.none (h:RSt T Z k fo zz m) (ht:T k=Option.none) (hz:zb=(zz||Z k)):RSt T Z (k+1) fo zb m:=
 ⟨by rw[curOf,ht];unfold best;cases hc:curOf T k<;>(rw[←h.cur,hc]),h.no,by rw[blkOf,←h.blk,hz]⟩
theorem RSt.first (h:RSt T Z k false zz m) (ht:T k=some m1) (hz:zb=(zz||Z k)):RSt T Z (k+1) true zb m1:=
 ⟨by rw[curOf,ht,h.cur];rfl,fun h=>(by cases h),by rw[blkOf,←h.blk,hz]⟩
theorem RSt.more (h:RSt T Z k true zz m) (ht:T k=some m1) (hv:m.version<m1.version) (hz:zb=(zz||Z k)):RSt T Z (k+1) true zb m1:=
 ⟨by rw[curOf,ht,h.cur];exact if_pos hv,fun h=>(by cases h),by rw[blkOf,←h.blk,hz]⟩
theorem RSt.less (h:RSt T Z k true zz m) (ht:T k=some m1) (hv:¬m.version<m1.version) (hz:zb=(zz||Z k)):RSt T Z (k+1) true zb m:=
 ⟨by rw[curOf,ht,h.cur];exact if_neg hv,fun h=>(by cases h),by rw[blkOf,←h.blk,hz]⟩
theorem RSt.ans (h:RSt T Z k fo zz m):ansOf (curOf T k) (blkOf Z k)=if fo||zz then (m,0) else (noMan,5):=by
 rw[h.cur,←h.blk]
 cases fo with
 |true=>rfl
 |false=>rw[h.no rfl];rfl
end
theorem Blk.ne {w:World} {b:Nat} {cs:List Value} {p:Addr} {v:Value} (h:Blk w b cs) (hc:w.cell? p=some v) (hv:v∉cs):p.block≠b:=fun e=>by
 obtain ⟨t,h⟩:=h
 rw[←e] at h
 unfold World.cell? at hc
 rw[h] at hc
 simp only at hc
 split at hc
 ·cases hc
 ·rw[List.getElem?_toArray] at hc
  exact hv (List.mem_of_getElem? hc)
theorem Files.box {w w':World} {b:Nat} {v x:Int} {A L:Option Addr} {n c:Nat} {l:List FileD} (hb:Blk w b [.int .u64 v,.int .u32 x,.slice A n c]) (ho:Out (fun k=>k=b) w w') (h:Files w w.heap.size L l):Files w' w'.heap.size L l:=fun hn=>by
 obtain ⟨a,rfl,h1,hc⟩:=h hn
 have h1':=h1
 refine ⟨a,rfl,Nat.lt_of_lt_of_le h1 ho.size,fun i f hf=>?_⟩
 obtain ⟨A',n',c',g0,g1,g2,g3,g4,g5,g6,g7⟩:=hc i f hf
 have hne:(a.add (i*4)).block≠b:=hb.ne g0 (by simp[sv])
 have hlt:(a.add (i*4)).block<w.heap.size:=by rw[block_add];exact h1
 refine ⟨A',n',c',(ho.cell hlt hne).trans g0,(ho.cell (p:=⟨_,_,none⟩) hlt hne).trans g1,(ho.cell (p:=⟨_,_,none⟩) hlt hne).trans g2,(ho.cell (p:=⟨_,_,none⟩) hlt hne).trans g3,g4,g5,g6,fun hn'=>?_⟩
 obtain ⟨q,rfl,q1,q2⟩:=g7 hn'
 refine ⟨q,rfl,Nat.lt_of_lt_of_le q1 ho.size,fun j u hu=>?_⟩
 have hmem:=List.mem_of_getElem? hu
 obtain ⟨z,-,rfl⟩:=List.mem_map.1 hmem
 have hc':=q2 j _ hu
 have hne':=hb.ne hc' (by simp)
 exact (ho.cell (by rw[block_add];exact q1) hne').trans hc'
theorem ManAt.box {w w':World} {b:Nat} {v x:Int} {A L:Option Addr} {n c n' c':Nat} {m:ManD} (h:ManAt w w.heap.size L n' c' m) (hb:Blk w b [.int .u64 v,.int .u32 x,.slice A n c]) (ho:Out (fun k=>k=b) w w'):ManAt w' w'.heap.size L n' c' m:=
 {h with files:=h.files.box hb ho}
def RdPost (w:World) (p:ManD×Int) (e:Ending) (w':World):Prop:=
 Below w.heap.size w w'∧∃A n c,e=.returned (.tuple #[mval p.1.version p.1.next A n c,.int .i64 p.2])∧ManAt w' w'.heap.size A n c p.1
def RdPostK (w:World) (p:ManD×Int) (e:Ending) (w':World):Prop:=
 Below w.heap.size w w'∧∃A n c,e=.returned (.tuple #[mval p.1.version p.1.next A n c,.int .i64 p.2])∧ManK (fun k=>k<w.heap.size) A n c p.1 w'
theorem RdPostK.rd {w w':World} {p:ManD×Int} {e:Ending} (h:RdPostK w p e w'):RdPost w p e w':=by
 obtain ⟨h1,A,n,c,h2,h3⟩:=h
 exact ⟨h1,A,n,c,h2,h3.now⟩
end Go.Proofs.YtcdkopbjlakebaaGreatDoor
end
