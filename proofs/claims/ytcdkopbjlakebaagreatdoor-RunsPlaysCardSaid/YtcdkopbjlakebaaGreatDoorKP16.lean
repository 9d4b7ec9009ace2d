/- Texts put together, for a law: Xt, StA. -/
import Derived.WalkKit
import Derived.Lib.Hide
import Derived.RegionTactic
import Derived.Shelf.Abstract
import Derived.OwnWalk
import Derived.Test.YtcdkopbjlakebaaGreatDoorKP2
import Derived.Test.YtcdkopbjlakebaaGreatDoorKP15
set_option maxRecDepth 100000
set_option maxHeartbeats 8000000
namespace Go.Proofs.YtcdkopbjlakebaaGreatDoor
section
namespace Xt
def hasB (n:Nat) (i:Int):Bool:=decide (0<=i)&&decide (i<n)
theorem Zo {n:Nat} {i:Int} (h:hasB n i=true):∃k:Nat,i=(k:Int)/\k<n:=by
 unfold hasB at h;simp at h;exact ⟨i.toNat,by omega,by omega⟩
theorem ZM {n k:Nat} (h:k<n):hasB n (k:Int)=true:=by
 unfold hasB
 simp
 omega
def badI (n:Nat) (l:List Int):Bool:=l.any fun i=> !hasB n i
theorem zgK {n:Nat} {l:List Int} (h:badI n l=false):∀i∈l,∃k:Nat,i=(k:Int)/\k<n:=fun i hi=>by
 unfold badI at h;rw[List.any_eq_false] at h;exact Zo (by simpa using h i hi)
def xA (v:Bool):List Bool->List Int->List Bool
 |k,[]=>k
 |k,i::l=>xA v (k.set i.toNat v) l
def goT (t:Bool):List Bool->List Int->Option (List Bool)
 |k,[]=>some k
 |k,i::l=>if k.getD i.toNat t=t then none else goT t (k.set i.toNat t) l
def Y9 (k:List Bool) (l:List Int) (t:Bool):List Bool×Int:=
 if badI k.length l then (k,9) else match goT t k l with
  |some k'=>(k',0)
  |none=>(k,13)
theorem Xb (v:Bool):∀(l m:List Int) (k:List Bool),xA v k (l++m)=xA v (xA v k l) m
 |[],_,_=>rfl
 |i::l,m,k=>by rw[List.cons_append,xA,xA,Xb v l]
theorem zb9 (k:List Bool) (i j:Nat) (v:Bool):(k.set i v).set j v=(k.set j v).set i v:=by
 by_cases h:i=j
 ·subst h;rfl
 ·exact List.set_comm _ _ h
theorem zal (v:Bool):∀(l:List Int) (k:List Bool) (i:Nat),xA v (k.set i v) l=(xA v k l).set i v
 |[],_,_=>rfl
 |j::l,k,i=>by rw[xA,xA,zb9,zal v l]
theorem zjs {k:List Bool} {i:Nat} {v:Bool} (h:k.getD i v=v):k.set i v=k:=by
 apply List.ext_getElem?
 intro j;rw[List.getElem?_set]
 by_cases e:i=j
 ·subst e;rw[if_pos rfl]
  by_cases hi:i<k.length
  ·rw[if_pos hi];rw[List.getD_eq_getElem?_getD,List.getElem?_eq_getElem hi] at h;rw[List.getElem?_eq_getElem hi];exact congrArg some h.symm
  ·rw[if_neg hi,List.getElem?_eq_none (by omega)]
 ·rw[if_neg e]
theorem ziP {t:Bool} {k cur:List Bool} {l:List Int} {i:Int} (hk:xA (!t) cur l=k) (hi:cur.getD i.toNat (!t)= !t):xA (!t) (cur.set i.toNat t) (l++[i])=k:=by
 rw[Xb];show (xA (!t) (cur.set i.toNat t) l).set i.toNat (!t)=k
 rw[<-zal,List.set_set,zjs hi,hk]
theorem zg3 {k:List Bool} {l:List Int} (t:Bool) (h:badI k.length l=true):Y9 k l t=(k,9):=by unfold Y9;rw[if_pos h]
theorem zfL {k:List Bool} {l:List Int} {t:Bool} (h:badI k.length l=false) (hg:goT t k l=none):Y9 k l t=(k,13):=by unfold Y9;rw[if_neg (by rw[h];decide),hg]
theorem zae {k k':List Bool} {l:List Int} {t:Bool} (h:badI k.length l=false) (hg:goT t k l=some k'):Y9 k l t=(k',0):=by unfold Y9;rw[if_neg (by rw[h];decide),hg]
theorem zbz (k:List Bool) {i:Nat} (h:i<k.length) (a b:Bool):k.getD i a=k.getD i b:=by
 rw[List.getD_eq_getElem?_getD,List.getD_eq_getElem?_getD,List.getElem?_eq_getElem h];rfl
def free:List Bool->Nat
 |[]=>0
 |b::k=>(if b then 0 else 1)+free k
theorem VG:∀(k m:List Bool),free (k++m)=free k+free m
 |[],m=>by simp[free]
 |b::k,m=>by rw[List.cons_append,free,free,VG k m];omega
theorem zis:∀(k:List Bool),free k<=k.length
 |[]=>Nat.le_refl _
 |b::k=>by have:=zis k;rw[free,List.length_cons];split<;>omega
theorem VF {k:List Bool} {i:Nat} {b:Bool} (h:k[i]?=some b):free (k.take (i+1))=free (k.take i)+(if b then 0 else 1):=by
 rw[List.take_add_one,h,VG]
 cases b<;>simp[free]
def tk (k:List Bool) (n:Nat):Nat->List Bool×List Int
 |0=>(k,[])
 |i+1=>if (tk k n i).2.length<n/\k.getD i true=false then ((tk k n i).1.set i true,(tk k n i).2++[(i:Int)]) else tk k n i
theorem QX (k:List Bool) (n:Nat):∀i,(tk k n i).1.length=k.length
 |0=>rfl
 |i+1=>by
  rw[tk]
  split
  ·rw[List.length_set,QX k n i]
  ·exact QX k n i
theorem zdF (k:List Bool) (n:Nat):∀i j,i<=j->(tk k n i).1[j]?=k[j]?
 |0,_,_=>rfl
 |i+1,j,h=>by
  rw[tk]
  split
  ·show ((tk k n i).1.set i true)[j]?=_
   rw[List.getElem?_set_ne (by omega)];exact zdF k n i j (by omega)
  ·exact zdF k n i j (by omega)
theorem zeE (k:List Bool) (n:Nat):∀i,i<=k.length->(tk k n i).2.length=min n (free (k.take i))
 |0,_=>by simp[tk,free]
 |i+1,h=>by
  have ih:=zeE k n i (by omega);have hi:k[i]?=some k[i]:=List.getElem?_eq_getElem (by omega);have hd:k.getD i true=k[i]:=by rw[List.getD_eq_getElem?_getD,hi];rfl
  rw[VF hi,tk,hd]
  cases hb:k[i] with
  |true=>
   rw[if_neg (by simp),ih]
   simp
  |false=>
   by_cases hn:(tk k n i).2.length<n
   ·rw[if_pos ⟨hn,rfl⟩,List.length_append,ih]
    simp
    omega
   ·rw[if_neg (fun h=>hn h.1),ih]
    simp
    omega
theorem zg7 (k:List Bool) (n i:Nat) (h:(tk k n i).2.length=n):∀j,tk k n (i+j)=tk k n i
 |0=>rfl
 |j+1=>by
  have ih:=zg7 k n i h j;show tk k n (i+j+1)=_
  rw[tk,ih,if_neg (by omega)]
def takeD (k:List Bool) (n:Int):List Bool×List Int×Int:=
 if n<0 then (k,[],1) else if (free k:Int)<n then (k,[],7) else ((tk k n.toNat k.length).1,(tk k n.toNat k.length).2,0)
end Xt
namespace Xt
open Go.RowKit Me
theorem ziL:(Tryz.prog.info? 4).map (fun i=>(i.zero,i.size,i.bytes))=some (some (.bool false),1,1):=by kernel_rfl
theorem zbw:(Tryz.prog.info? 3).map (fun i=>(i.zero,i.size,i.bytes))=some (some (.int .i64 0),1,8):=by kernel_rfl
def XB (k:List Bool):List Value:=k.map Value.bool
theorem zgJ {k:List Bool} {i:Nat} {b:Bool} (h:k[i]?=some b):(XB k)[i]?=some (.bool b):=by simp[XB,h]
theorem zgI (k:List Bool) (i:Nat) (b:Bool):XB (k.set i b)=(XB k).set i (.bool b):=by simp[XB,List.map_set]
theorem zir {k:List Bool} {i:Nat} (h:i<k.length) (b:Bool):k[i]?=some (k.getD i b):=by rw[List.getD_eq_getElem?_getD,List.getElem?_eq_getElem h];rfl
theorem ziq {l:List Int} {i:Nat} (h:i<l.length):l[i]?=some (l.getD i 0):=by rw[List.getD_eq_getElem?_getD,List.getElem?_eq_getElem h];rfl
structure Laid (w:World) (B D:Nat) (Pv:Value) (k:List Bool) (own:Nat->Prop):Prop where
 blk:Blk w D [Pv]
 row:w.ownsRow B 4 1 Pv k.length (XB k)
 pd:Pv.ownBlock≠some D
 ld:B<=D
 own:∀j,own j↔(j=D\/Pv.ownBlock=some j)
 most:k.length<=65536
def MapAt (w:World) (B D:Nat) (k:List Bool) (own:Nat->Prop):Prop:=∃Pv,Laid w B D Pv k own
section
variable {w w':World} {B B' D:Nat} {Pv:Value} {k:List Bool} {own T:Nat->Prop}
theorem Laid.out (h:Laid w B D Pv k own) (ho:Out T w w') (hn:∀j,own j->¬T j):Laid w' B D Pv k own:=
 {h with
  blk:=h.blk.out ho (hn _ ((h.own _).2 (.inl rfl)))
  row:=zn h.row ho fun _ hk=>hn _ ((h.own _).2 (.inr hk))}
theorem Laid.lt (h:Laid w B D Pv k own) {j:Nat} (hj:own j):B<=j/\j<w.heap.size:=by
 rcases (h.own j).1 hj with rfl|hj
 ·exact ⟨h.ld,h.blk.lt⟩
 ·exact h.row.lt j hj
theorem Laid.past (h:Laid w B D Pv k own) (hb:Below w.heap.size w w'):Laid w' B D Pv k own:=h.out (T:=fun _=>False) (.of_below hb) fun _ _ h=>h
theorem Laid.slice (h:Laid w B D Pv k own):∃A c,Pv=.slice A k.length c/\k.length<=c:=zC h.row
theorem Laid.at (h:Laid w B D Pv k own) {j:Nat} (hj:j<k.length):∃g c,Pv=.slice (some ⟨g,0,none⟩) k.length c/\own g/\g≠D /\
 ∀i,i<k.length->w.cell? ⟨g,i,none⟩=some (.bool (k.getD i false))/\w.frozen? ⟨g,i,none⟩=false:=by
 obtain ⟨g,cap,hv,-,-⟩:=h.row.form (by omega);subst hv;refine ⟨g,cap,rfl,(h.own _).2 (.inr rfl),fun e=>h.pd (by rw[<-e];rfl),fun i hi=>⟨?_,h.row.frozenAt i⟩⟩;rw[h.row.cellAt i (by rw[Nat.mul_one];exact hi)];exact zgJ (zir hi false)
theorem Laid.set (h:Laid w B D Pv k own) {g c:Nat} (hv:Pv=.slice (some ⟨g,0,none⟩) k.length c) (hg:g≠D) (j:Nat) (b:Bool) :
 Laid (w.setCell ⟨g,j,none⟩ (.bool b)) B D Pv (k.set j b) own/\Out own w (w.setCell ⟨g,j,none⟩ (.bool b)):=by
 subst hv;have ho:Out (fun i=>i=g) w (w.setCell ⟨g,j,none⟩ (.bool b)):=(Out.refl (fun i=>i=g) w).setCell (p:=⟨g,j,none⟩) (.inl rfl) _;have hown:own g:=(h.own _).2 (.inr rfl);refine ⟨⟨h.blk.out ho (fun e=>hg e.symm),?_,h.pd,h.ld,h.own,by rw[List.length_set];exact h.most⟩,ho.more fun i _ e=>by rw[e];exact hown⟩;rw[List.length_set,zgI];exact (h.row.stored j (.bool b)).1
theorem MapAt.out (h:MapAt w B D k own) (ho:Out T w w') (hn:∀j,own j->¬T j):MapAt w' B D k own:=by
 obtain ⟨Pv,h⟩:=h;exact ⟨Pv,h.out ho hn⟩
theorem MapAt.past (h:MapAt w B D k own) (hb:Below w.heap.size w w'):MapAt w' B D k own:=h.out (T:=fun _=>False) (.of_below hb) fun _ _ h=>h
theorem MapAt.lt (h:MapAt w B D k own) {j:Nat} (hj:own j):B<=j/\j<w.heap.size:=by
 obtain ⟨Pv,h⟩:=h;exact h.lt hj
theorem MapAt.most (h:MapAt w B D k own):k.length<=65536:=by
 obtain ⟨Pv,h⟩:=h;exact h.most
end
def zl7 (w:World) (B D:Nat) (k:List Bool) (own:Nat->Prop) (w':World):Prop:=MapAt w' B D k own/\Out own w w'
section
variable {w:World} {B D:Nat} {k:List Bool} {own:Nat->Prop}
theorem zbx (h:MapAt w B D k own) (i:Int):Calls Tryz.prog 162 #[.pointer (some ⟨D,0,none⟩),.int .i64 i] w fun e w'=>e=.returned (.bool (hasB k.length i))/\w=w':=by
 obtain ⟨Pv,h⟩:=h;obtain ⟨A,c,rfl,-⟩:=h.slice;have c0:=h.blk.cell (i:=0) rfl;obtain ⟨n,hn⟩:∃n,n=k.length:=⟨_,rfl⟩
 rw[<-hn] at c0 ⊢;clear h hn;unfold hasB
 by_cases h0:0<=i
 ·have d0:decide (0<=i)=true:=by simp;omega
  by_cases h1:i<n
  ·have d1:decide (i<(n:Int))=true:=by simp;omega
   go_enter Tryz.func162,Tryz.ntmps162
   go_wp2
   go_ret
   exact ⟨by first|rfl|(rw[d0,d1];rfl),rfl⟩
  ·have d1:decide (i<(n:Int))=false:=by simp;omega
   go_enter Tryz.func162,Tryz.ntmps162
   go_wp2
   go_ret
   exact ⟨by first|rfl|(rw[d0,d1];rfl),rfl⟩
 ·have d0:decide (0<=i)=false:=by simp;omega
  go_enter Tryz.func162,Tryz.ntmps162
  go_wp2
  go_ret
  exact ⟨by first|rfl|(rw[d0];rfl),rfl⟩
theorem zko (h:MapAt w B D k own):Calls Tryz.prog 125 #[.pointer (some ⟨D,0,none⟩)] w fun e w'=>e=.returned (.int .i64 (free k:Int))/\w=w':=by
 obtain ⟨Pv,h⟩:=h;have hm:=h.most;obtain ⟨A,c,rfl,hc⟩:=h.slice;have c0:=h.blk.cell (i:=0) rfl;obtain ⟨n,hn⟩:∃n,n=k.length:=⟨_,rfl⟩
 rw[<-hn] at c0 hm hc;have HH:=gI h;have HN:=gI hn;clear h hn
 go_enter Tryz.func125,Tryz.ntmps125
 go_wp2
 go_loopw [13,3] (fun x y wr=>∃j f:Nat,x=.int .i64 (j:Int)/\y=.int .i64 (f:Int)/\j<=n/\f<=j/\Hid (f=free (k.take j))/\w=wr) (fun x _ _=>n-(intOf x).toNat)
 case atStart=>exact ⟨0,0,rfl,rfl,Nat.zero_le _,Nat.le_refl _,gI rfl,rfl⟩
 case round=>
  obtain ⟨j,f,rfl,rfl,hjn,hfj,HF,rfl⟩:=hrel
  by_cases hlt:j<n
  ·have hj:j<k.length:=by rw[<-HN.out];exact hlt
   obtain ⟨g,c',e,-,-,hat⟩:=HH.out.at hj;obtain ⟨e1,-⟩:=hat j hj;injection e with e2 e3 e4;subst e2;have ht:=VF (zir hj false);rw[<-HF.out] at ht
   cases hb:k.getD j false with
   |true=>
    rw[hb] at e1 ht;have HT:=gI ht;clear ht hat e3 e4 hj hb
    go_wp2
    go_roundw
    case rel=>exact ⟨j+1,f,by go_num,rfl,by omega,by omega,gI (by rw[HT.out];rfl),trivial⟩
    case measure=>simp[intOf];omega
   |false=>
    rw[hb] at e1 ht;have HT:=gI ht;clear ht hat e3 e4 hj hb
    go_wp2
    go_roundw
    case rel=>exact ⟨j+1,f+1,by go_num,by go_num,by omega,by omega,gI (by rw[HT.out];rfl),trivial⟩
    case measure=>simp[intOf];omega
  ·have hjn':j=n:=by omega
   subst hjn';have hf:=HF.out;rw[HN.out,List.take_length] at hf;have HF2:=gI hf;clear hf
   go_wp2
   go_ret
   exact ⟨by rw[HF2.out];rfl,rfl⟩
end
end Xt
namespace Xt
open Go.RowKit Me
def ZX (p:Int->Bool):List Int->Nat->Int
 |[],_=>-1
 |z::l,j=>if p z then (j:Int) else ZX p l (j+1)
theorem zaO (p:Int->Bool):∀(l:List Int) (j:Nat),decide (0<=ZX p l j)=l.any p
 |[],j=>rfl
 |z::l,j=>by
  rw[ZX,List.any_cons]
  cases h:p z with
  |true=>simp
  |false=>rw[if_neg (by decide),zaO p l (j+1)];simp
theorem zee (p:Int->Bool) {l:List Int} {j:Nat} {z:Int} (h:l[j]?=some z) (hp:p z=false):ZX p (l.drop j) j=ZX p (l.drop (j+1)) (j+1):=by
 have hlt:=(List.getElem?_eq_some_iff.1 h).1;have e:=List.drop_eq_getElem_cons hlt;rw[List.getElem?_eq_getElem hlt] at h;injection h with h;rw[e,ZX,h,if_neg (by rw[hp];decide)]
theorem zed (p:Int->Bool) {l:List Int} {j:Nat} {z:Int} (h:l[j]?=some z) (hp:p z=true):ZX p (l.drop j) j=(j:Int):=by
 have hlt:=(List.getElem?_eq_some_iff.1 h).1;have e:=List.drop_eq_getElem_cons hlt;rw[List.getElem?_eq_getElem hlt] at h;injection h with h;rw[e,ZX,h,if_pos hp]
theorem zmG {w:World} {S:Nat->Prop} {A:Option Addr} {l:List Int} (h:Cz w S A (zL l)) {j:Nat} (hj:j<l.length):∃a,A=some a/\w.cell? (a.add j)=some (.int .i64 (l.getD j 0)):=by
 obtain ⟨a,e,-,-,hc⟩:=h (by rw[zV];omega);exact ⟨a,e,hc j _ (Yz (ziq hj))⟩
theorem zih (g:Nat) (cb:Array Value) (p:Int->Bool) (w:World) (S:Nat->Prop) (A:Option Addr) (n c:Nat) (l:List Int) (eg:∀args w,(callFunc g args).run Tryz.prog w=.ok (.enter g args) w) (hl:l.length=n) (hn:n<=9223372036854775807) (hr:Cz w S A (zL l))
 (hf:∀z:Int,Calls Tryz.prog g (#[.int .i64 z]++cb) w fun e w'=>e=.returned (.bool (p z))/\w=w') :
 Calls Tryz.prog 203 #[.slice A n c,.func (.func g) #[] cb] w fun e w'=>e=.returned (.int .i64 (ZX p l 0))/\w=w':=by
 have HL:=gI hl;have HR:=gI hr;have HF:=gI hf;clear hl hr hf
 go_enter Tryz.func203,Tryz.ntmps203
 go_wp2
 go_loopw [8] (fun x wr=>∃j:Nat,x=.int .i64 (j:Int)/\j<=n/\Hid (ZX p l 0=ZX p (l.drop j) j)/\w=wr) (fun x _=>n-(intOf x).toNat)
 case atStart=>exact ⟨0,rfl,Nat.zero_le _,gI rfl,rfl⟩
 case round=>
  obtain ⟨j,rfl,hjn,HI,rfl⟩:=hrel
  by_cases hlt:j<n
  ·have hj:j<l.length:=by rw[HL.out];exact hlt
   obtain ⟨a,rfl,e1⟩:=zmG HR.out hj;have hz:=ziq hj
   generalize l.getD j 0=z at *
   cases hp:p z with
   |true=>
    have HI2:=gI (HI.out.trans (zed p hz hp));have HP:=gI hp;clear hz hp hj
    go_wp2_with fail
    refine (HF.out z).mono ?_;rw[HP.out];rintro e w1 ⟨rfl,rfl⟩
    go_wp2
    go_ret
    exact ⟨by rw[HI2.out];rfl,rfl⟩
   |false=>
    have HI2:=gI (HI.out.trans (zee p hz hp));have HP:=gI hp;clear hz hp hj
    go_wp2_with fail
    refine (HF.out z).mono ?_;rw[HP.out];rintro e w1 ⟨rfl,rfl⟩
    go_wp2
    go_roundw
    case rel=>exact ⟨j+1,by go_num,by omega,HI2,trivial⟩
    case measure=>simp[intOf];omega
  ·have hjn':j=n:=by omega
   subst hjn';have hi:=HI.out;rw[List.drop_of_length_le (by rw[HL.out];exact Nat.le_refl _)] at hi;have HI2:=gI hi;clear hi
   go_wp2
   go_ret
   exact ⟨by rw[HI2.out];rfl,rfl⟩
theorem zdj (g:Nat) (cb:Array Value) (p:Int->Bool) (w:World) (S:Nat->Prop) (A:Option Addr) (n c:Nat) (l:List Int) (eg:∀args w,(callFunc g args).run Tryz.prog w=.ok (.enter g args) w) (hl:l.length=n) (hn:n<=9223372036854775807) (hr:Cz w S A (zL l))
 (hf:∀z:Int,Calls Tryz.prog g (#[.int .i64 z]++cb) w fun e w'=>e=.returned (.bool (p z))/\w=w') :
 Calls Tryz.prog 160 #[.slice A n c,.func (.func g) #[] cb] w fun e w'=>e=.returned (.bool (l.any p))/\w=w':=by
 have HI:=gI (zih g cb p w S A n c l eg hl hn hr hf);have HP:=gI (zaO p l 0)
 generalize ZX p l 0=r at *
 clear hl hr hf
 go_enter Tryz.func160,Tryz.ntmps160
 go_wp2_with (go_at_call 203;refine HI.out.mono ?_;rintro e w' ⟨rfl,rfl⟩)
 go_ret
 exact ⟨by rw[<-HP.out];rfl,rfl⟩
section
variable {w:World} {B D H:Nat} {k:List Bool} {own:Nat->Prop}
theorem zem (h:MapAt w B D k own) (hb:w.cell? ⟨H,0,none⟩=some (.pointer (some ⟨D,0,none⟩))) (z:Int) :
 Calls Tryz.prog 161 #[.int .i64 z,.pointer (some ⟨H,0,none⟩)] w fun e w'=>e=.returned (.bool (!hasB k.length z))/\w=w':=by
 have HH:=gI (zbx h z);clear h
 go_enter Tryz.func161,Tryz.ntmps161
 go_wp2_with (go_at_call 162;refine HH.out.mono ?_;rintro e w' ⟨rfl,rfl⟩)
 go_ret
 exact ⟨rfl,rfl⟩
end
end Xt
namespace Xt
open Go.RowKit Me
def Good (n:Nat) (l:List Int):Prop:=∀z∈l,∃i:Nat,z=(i:Int)/\i<n
theorem Good.at {n:Nat} {l:List Int} (h:Good n l) {j:Nat} (hj:j<l.length):∃i:Nat,l[j]?=some (i:Int)/\i<n:=by
 obtain ⟨i,hi,hlt⟩:=h _ (List.getElem_mem hj);exact ⟨i,by rw[List.getElem?_eq_getElem hj,hi],hlt⟩
theorem Good.take {n:Nat} {l:List Int} (h:Good n l) (j:Nat):Good n (l.take j):=fun z hz=>h z (List.mem_of_mem_take hz)
theorem zdR (v:Bool) {l:List Int} {j i:Nat} (cur:List Bool) (h:l[j]?=some (i:Int)):xA v cur (l.drop j)=xA v (cur.set i v) (l.drop (j+1)):=by
 have hlt:=(List.getElem?_eq_some_iff.1 h).1;have e:=List.drop_eq_getElem_cons hlt;rw[List.getElem?_eq_getElem hlt] at h;injection h with h;rw[e,h,xA,Int.toNat_natCast]
theorem ziB {w:World} {S:Nat->Prop} {A:Option Addr} {l:List Int} (h:Cz w S A (zL l)) {j:Nat} {z:Int} (hj:l[j]?=some z):∃a,A=some a/\w.cell? (a.add j)=some (.int .i64 z):=by
 obtain ⟨a,e,-,-,hc⟩:=h (by rw[zV];have:=(List.getElem?_eq_some_iff.1 hj).1;omega);exact ⟨a,e,hc j _ (Yz hj)⟩
theorem zll {w:World} {B D:Nat} {Pv:Value} {k:List Bool} {own:Nat->Prop} (h:Laid w B D Pv k own) (A:Option Addr) (m c:Nat) (l:List Int) (v:Bool) (hl:l.length=m) (hm:m<=9223372036854775807) (hr:Cz w own A (zL l)) (hg:Good k.length l) :
 Calls Tryz.prog 163 #[.pointer (some ⟨D,0,none⟩),.slice A m c,.bool v] w fun e w'=>e=.returned (.tuple #[])/\Laid w' B D Pv (xA v k l) own/\Out own w w':=by
 obtain ⟨R,hR⟩:∃R,R=xA v k l:=⟨_,rfl⟩
 rw[<-hR];have HR0:=gI hR;have HL:=gI hl;have HH:=gI h;have HC:=gI hr;have HG:=gI hg;clear hR hl h hr hg
 go_enter Tryz.func163,Tryz.ntmps163
 go_wp2
 go_loopw [10] (fun x wr=>∃j:Nat,x=.int .i64 (j:Int)/\j<=m/\∃cur,Hid (xA v cur (l.drop j)=R/\cur.length=k.length)/\Hid (Laid wr B D Pv cur own)/\Hid (Out own w wr)) (fun x _=>m-(intOf x).toNat)
 case atStart=>exact ⟨0,rfl,Nat.zero_le _,k,gI ⟨HR0.out.symm,rfl⟩,HH,gI (Out.refl _ _)⟩
 case round=>
  obtain ⟨j,rfl,hjm,cur,HS,HK,HO⟩:=hrel
  by_cases hlt:j<m
  ·have hj:j<l.length:=by rw[HL.out];exact hlt
   obtain ⟨i,hi,hin⟩:=HG.out.at hj;obtain ⟨a,rfl,e0⟩:=ziB (HC.out.out HO.out) hi;have hin':i<cur.length:=by rw[HS.out.2];exact hin
   obtain ⟨g,c',hv,hog,hgd,hat⟩:=HK.out.at hin';obtain ⟨e1,f1⟩:=hat i hin';obtain ⟨hk2,ho2⟩:=HK.out.set hv hgd i v;have c0:=HK.out.blk.cell (i:=0) rfl;obtain ⟨n,hn⟩:∃n,n=cur.length:=⟨_,rfl⟩
   rw[hv,<-hn] at c0;have hlti:(i:Int)<(n:Int):=by omega
   have HS2:=gI (show xA v (cur.set i v) (l.drop (j+1))=R/\(cur.set i v).length=k.length from ⟨by rw[<-zdR v cur hi];exact HS.out.1,by rw[List.length_set];exact HS.out.2⟩);have HK2:=gI hk2;have HO2:=gI (HO.out.trans ho2);clear hi hin hin' hv hog hgd hat hk2 ho2 hn hj
   go_wp2
   go_roundw
   case rel=>exact ⟨j+1,by go_num,by omega,_,HS2,HK2,HO2⟩
   case measure=>simp[intOf];omega
  ·have hjm':j=m:=by omega
   subst hjm';have hs:=HS.out.1;rw[List.drop_of_length_le (by rw[HL.out];exact Nat.le_refl _)] at hs;have HS2:=gI (show cur=R from hs);clear hs
   go_wp2
   go_end0
   refine ⟨rfl,?_,HO.out⟩;rw[<-HS2.out];exact HK.out
end Xt
namespace Xt
open Go.RowKit Me
theorem zly (w:World) (v:Value) (t:TypeId):(w.alloc (.cells #[v] t)).cell? ⟨w.heap.size,0,none⟩=some v:=by
 have hh:=heap_alloc_new w (.cells #[v] t);simp only[World.cell?,hh];rfl
theorem zlR {n:Nat} {l:List Int} (h:badI n l=false):Good n l:=zgK h
structure zgQ (k cur:List Bool) (l:List Int) (t:Bool) (j:Nat):Prop where
 go:goT t k l=goT t cur (l.drop j)
 back:xA (!t) cur (l.take j)=k
 len:cur.length=k.length
theorem zgQ.next {k cur:List Bool} {l:List Int} {t:Bool} {j i:Nat} (h:zgQ k cur l t j) (hl:l[j]?=some (i:Int)) (hi:i<cur.length) (hc:cur.getD i false≠t):zgQ k (cur.set i t) l t (j+1):=by
 have hlt:=(List.getElem?_eq_some_iff.1 hl).1;have e:=List.drop_eq_getElem_cons hlt;have hlj:l[j]=(i:Int):=by rw[List.getElem?_eq_getElem hlt] at hl;injection hl
 refine ⟨?_,?_,by rw[List.length_set];exact h.len⟩
 ·rw[h.go,e,hlj,goT,Int.toNat_natCast,zbz cur hi t false,if_neg hc]
 ·rw[List.take_add_one,hl];exact ziP (i:=(i:Int)) h.back (by
   rw[Int.toNat_natCast,zbz cur hi (!t) false]
   revert hc
   cases cur.getD i false<;>cases t<;>simp)
theorem zgQ.stop {k cur:List Bool} {l:List Int} {t:Bool} {j i:Nat} (h:zgQ k cur l t j) (hl:l[j]?=some (i:Int)) (hi:i<cur.length) (hc:cur.getD i false=t):goT t k l=none:=by
 have hlt:=(List.getElem?_eq_some_iff.1 hl).1;have e:=List.drop_eq_getElem_cons hlt;have hlj:l[j]=(i:Int):=by rw[List.getElem?_eq_getElem hlt] at hl;injection hl
 rw[h.go,e,hlj,goT,Int.toNat_natCast,zbz cur hi t false,if_pos hc]
def setG (H D m c j:Nat) (A:Option Addr) (t:Bool):Gw.Fact:=fun s v _=>
 match s with
 |3=>v=.pointer (some ⟨H,0,none⟩)
 |28=>v=.pointer (some ⟨D,0,none⟩)
 |1|29=>v=.slice A m c
 |7|30=>v=.int .i64 (j:Int)
 |31=>v=.slice A j c
 |2|32=>v=.bool t
 |33=>v=.bool (!t)
 |_=>True
theorem zje {w:World} {B D:Nat} {k:List Bool} {own:Nat->Prop} (h:MapAt w B D k own) (A:Option Addr) (m c:Nat) (l:List Int) (t:Bool) (hl:l.length=m) (hmc:m<=c) (hm:m<=9223372036854775807) (hr:Cz w own A (zL l)) :
 Calls Tryz.prog 126 #[.pointer (some ⟨D,0,none⟩),.slice A m c,.bool t] w fun e w'=>e=.returned (.int .i64 (Y9 k l t).2)/\zl7 w B D (Y9 k l t).1 own w':=by
 obtain ⟨H,hH⟩:∃H,w.heap.size=H:=⟨_,rfl⟩
 obtain ⟨w1,hw1⟩:∃w1,w.alloc (.cells #[.pointer (some ⟨D,0,none⟩)] 116)=w1:=⟨_,rfl⟩
 have hb1:Below w.heap.size w w1:=by rw[<-hw1];exact (Below.refl _ _).alloc (Nat.le_refl _) _
 have hbx:w1.cell? ⟨H,0,none⟩=some (.pointer (some ⟨D,0,none⟩)):=by rw[<-hw1,<-hH];exact zly w _ _
 have hs1:w1.heap.size=H+1:=by rw[<-hw1,<-hH];simp
 obtain ⟨R,hR⟩:∃R,R=Y9 k l t:=⟨_,rfl⟩
 rw[<-hR];have hnH:¬own H:=fun ho=>by have:=(h.lt ho).2;omega
 have HB1:=gI hb1;have HBX:=gI hbx;have HH1:=gI (h.past hb1);have HC1:=gI (hr.past hb1);have HO1:=gI (Out.of_below (S:=own) hb1);have HR:=gI hR;have HL:=gI hl;have HNH:=gI hnH;have HCF:=gI (zdj 161 #[.pointer (some ⟨H,0,none⟩)] (fun z=> !hasB k.length z) w1 own A m c l (Go.Proofs.enters_of Tryz.func161 (by kernel_rfl) rfl) hl hm (hr.past hb1) (fun z=>zem (h.past hb1) hbx z));rw[show (l.any fun z=> !hasB k.length z)=badI k.length l from rfl] at HCF;clear h hr hb1 hbx hR hl hnH
 cases hbad:badI k.length l with
 |true=>
  have hR:=HR.out;rw[zg3 t hbad] at hR;rw[hbad] at HCF;subst hR;clear HR hbad
  go_enter Tryz.func126,Tryz.ntmps126
  go_wp2_with (go_at_call 160;refine HCF.out.mono ?_;rintro e w' ⟨rfl,rfl⟩)
  go_ret
  exact ⟨rfl,HH1.out,HO1.out⟩
 |false=>
  rw[hbad] at HCF;have HG:=gI (zlR hbad);have HBD:=gI hbad;clear hbad
  go_enter Tryz.func126,Tryz.ntmps126
  go_wp2_with (first|(go_at_call 160;refine HCF.out.mono ?_;rintro e w' ⟨rfl,rfl⟩)|fail)
  go_loopw [14] (fun x wr=>∃j:Nat,x=.int .i64 (j:Int)/\j<=m/\∃cur,Hid (zgQ k cur l t j)/\Hid (MapAt wr B D cur own)/\Hid (Out own w1 wr)) (fun x _=>m-(intOf x).toNat)
  case atStart=>exact ⟨0,rfl,Nat.zero_le _,k,gI ⟨rfl,rfl,rfl⟩,HH1,gI (Out.refl _ _)⟩
  case round=>
   obtain ⟨j,rfl,hjm,cur,HS,HK,HO⟩:=hrel;have hbx:=(HO.out.cell (p:=⟨H,0,none⟩) (by show H<_;omega) HNH.out).trans HBX.out
   by_cases hlt:j<m
   ·have hj:j<l.length:=by rw[HL.out];exact hlt
    obtain ⟨i,hi,hin⟩:=HG.out.at hj;obtain ⟨a,rfl,e0⟩:=ziB (HC1.out.out HO.out) hi;have hin':i<cur.length:=by rw[HS.out.len];exact hin
    obtain ⟨Pv,hK⟩:=HK.out;obtain ⟨g,c',hv,hog,hgd,hat⟩:=hK.at hin';obtain ⟨e1,f1⟩:=hat i hin';obtain ⟨hk2,ho2⟩:=hK.set hv hgd i t;have c0:=hK.blk.cell (i:=0) rfl;obtain ⟨n,hn⟩:∃n,n=cur.length:=⟨_,rfl⟩
    rw[hv,<-hn] at c0;have hlti:(i:Int)<(n:Int):=by omega
    obtain ⟨b,hb⟩:∃b,b=cur.getD i false:=⟨_,rfl⟩
    rw[<-hb] at e1
    by_cases hbt:b=t
    ·have HX:=gI (zfL HBD.out (HS.out.stop hi hin' (by rw[<-hb];exact hbt)));have d0:(b==t)=true:=by rw[hbt];simp
     have HKL:=gI hK;have HT:=gI (show Good cur.length (l.take j) by rw[HS.out.len];exact HG.out.take j);have HLT:=gI (show (l.take j).length=j by rw[List.length_take,HL.out];omega);have HCJ:=gI (show Cz wr own (some a) (zL (l.take j)) from fun h0=>by
      rw[zV,HLT.out] at h0;obtain ⟨a',e,h1,h2,h3⟩:=HC1.out.out HO.out (by rw[zV];omega);refine ⟨a',e,h1,h2,fun q v hq=>h3 q v ?_⟩;unfold zL at hq ⊢;rw[List.map_take,List.getElem?_take] at hq
      split at hq
      ·exact hq
      ·cases hq)
     have HJ:=gI hj;clear hi hin hin' hv hog hgd hat hk2 ho2 hn hj hb hbt hK;have hjc:(j:Int)<=(c:Int):=by omega
     go_wp2_with fail
     refine Gw.zN (fun _ _=>True) (fun _=>trivial) (fun _ _ _ _ _=>trivial) (fun p W=>if p=0 then W=wr.drew else Laid W B D Pv (xA (!t) cur (l.take j)) own/\Out own wr W) (setG H D m c j (some a) t) [6] [28,29,30,31,32,33,34] [([3],none,[0],false),([1],none,[0],false),([7],none,[0],false),([29,30],none,[0],false),([2],none,[0],false),([32],none,[0],false),([28,31,33],none,[0],true)] 43 1 (by kernel_rfl) (by kernel_rfl) rfl trivial (by simp) ?h0 ?hreq ?hend
     case h0=>
      intro s W hnd _;unfold setG
      split<;>first|rfl|trivial|exact absurd (by simp) hnd
     case hreq=>
      refine ⟨⟨?_,trivial⟩,⟨?_,trivial⟩,⟨?_,trivial⟩,⟨?_,trivial⟩,⟨?_,trivial⟩,⟨?_,trivial⟩,⟨?_,trivial⟩,trivial⟩
      all_goals
       intro ac W hR hI hk;rw[if_pos rfl] at hI;subst hI;simp only[Gw.Knows,setG] at hk
       try (simp[go_sem,Gw.yo,Gw.OkP,Gw.xH,Gw.zW,setG,hk,hbx];done)
      ·simp[go_sem,Gw.yo,Gw.OkP,Gw.xH,Gw.zW,setG,hk,hjc]
      ·simp[go_sem,Gw.yo,Gw.OkP,Gw.xH,Gw.zW,setG,hk];refine (zll (HKL.out.past (Below.refl _ _).drew) (some a) j c (l.take j) (!t) HLT.out (by omega) (HCJ.out.past (Below.refl _ _).drew) HT.out).mono ?_;rintro e w5 ⟨rfl,h5,h6⟩;exact ⟨⟨_,rfl⟩,h5,(xu _ _).trans h6⟩
     case hend=>
      intro x' w' _ hI hx;rw[if_neg (by simp)] at hI;have HI:=gI hI;clear hx hI;simp only[Gw.zm,Act.put,List.setIfInBounds_toArray,List.set_cons_zero,List.set_cons_succ]
      go_wp2
      go_ret
      have e:=HR.out.trans HX.out;subst e;refine ⟨rfl,⟨Pv,?_⟩,(HO1.out.trans HO.out).trans HI.out.2⟩;rw[<-HS.out.back];exact HI.out.1
    ·have HS2:=gI (HS.out.next hi hin' (by rw[<-hb];exact hbt));have d0:(b==t)=false:=by revert hbt;cases b<;>cases t<;>simp
     have HK2:=gI (show MapAt _ B D _ own from ⟨Pv,hk2⟩);have HO2:=gI (HO.out.trans ho2);clear hi hin hin' hv hog hgd hat hk2 ho2 hn hj hb hbt hK
     go_wp2
     go_roundw
     case rel=>exact ⟨j+1,by go_num,by omega,_,HS2,HK2,HO2⟩
     case measure=>simp[intOf];omega
   ·have hjm':j=m:=by omega
    subst hjm';have hg:=HS.out.go;rw[List.drop_of_length_le (by rw[HL.out];exact Nat.le_refl _)] at hg;have HX:=gI (HR.out.trans (zae HBD.out hg));clear hg
    go_wp2
    go_ret
    have e:=HX.out;subst e;exact ⟨rfl,HK.out,HO1.out.trans HO.out⟩
section
variable {w:World} {B D:Nat} {k:List Bool} {own:Nat->Prop}
theorem zki (h:MapAt w B D k own) (A:Option Addr) (m c:Nat) (l:List Int) (hl:l.length=m) (hmc:m<=c) (hm:m<=9223372036854775807) (hr:Cz w own A (zL l)) :
 Calls Tryz.prog 90 #[.pointer (some ⟨D,0,none⟩),.slice A m c] w fun e w'=>e=.returned (.int .i64 (Y9 k l true).2)/\zl7 w B D (Y9 k l true).1 own w':=by
 have HC:=gI (zje h A m c l true hl hmc hm hr)
 generalize Y9 k l true=R at *
 clear h hr
 go_enter Tryz.func90,Tryz.ntmps90
 go_wp2_with (go_at_call 126;refine HC.out.mono ?_;rintro e w1 ⟨rfl,hp⟩;have HP:=gI hp;clear hp)
 go_ret
 exact ⟨rfl,HP.out⟩
end
end Xt
namespace Xt
open Go.RowKit Me
theorem zh2 (n:Nat):(madeCells (Value.bool false).cells (n*1)).toList=XB (List.replicate n false):=by
 rw[Nat.mul_one];have e:(Value.bool false).cells=#[Value.bool false]:=rfl;rw[e];unfold madeCells XB
 apply List.ext_getElem?
 intro i
 by_cases hi:i<n
 ·simp[hi,Nat.mod_one]
 ·simp[hi]
theorem zlE {w w1:World} {v:Value} {k:List Bool} (ho:w1.ownsRow w.heap.size 4 1 v k.length (XB k)) (hb:Below w.heap.size w w1) (hm:k.length<=65536) {t:TypeId} :
 ∃own,MapAt (w1.alloc (.cells #[v] t)) w.heap.size w1.heap.size k own/\Below w.heap.size w (w1.alloc (.cells #[v] t)):=by
 have hs:=hb.size;refine ⟨fun j=>j=w1.heap.size\/v.ownBlock=some j,⟨v,⟨Blk.new w1 [v] t,own_below' ho ((Below.refl _ _).alloc (Nat.le_refl _) _),own_ne ho,hs,fun _=>Iff.rfl,hm⟩⟩,hb.alloc hs _⟩
def NewM (w:World) (k:List Bool) (e:Ending) (w':World):Prop:=∃D own,e=.returned (.pointer (some ⟨D,0,none⟩))/\MapAt w' w.heap.size D k own/\Below w.heap.size w w'
theorem zd2 (i:Int) (w:World) :
 Calls Tryz.prog 88 #[.int .i64 i] w (NewM w (List.replicate (min (max i 0) 65536).toNat false)):=by
 obtain ⟨i0,hi0,hz0,hz1,hz2⟩:=info_parts ziL;obtain ⟨n,hn⟩:∃n,n=(min (max i 0) 65536).toNat:=⟨_,rfl⟩
 rw[<-hn];have hn1:n<=65536:=by omega
 have hway:(i<0/\Hid ((0:Int)=(n:Int)))\/(¬i<0/\65536<i/\Hid ((65536:Int)=(n:Int)))\/(¬i<0/\¬65536<i/\Hid (i=(n:Int))):=by
  by_cases h1:i<0
  ·exact .inl ⟨h1,gI (by omega)⟩
  ·by_cases h2:65536<i
   ·exact .inr (.inl ⟨h1,h2,gI (by omega)⟩)
   ·exact .inr (.inr ⟨h1,h2,gI (by omega)⟩)
 have HB2:=gI (show i0.bytes*n<=281474976710656 by rw[hz2];omega);have HM1:=gI (show n<=maxLen by unfold maxLen;omega);clear hn;have hfin:∀w1:World,w1.ownsRow w.heap.size 4 1 (.slice (some ⟨w.heap.size,0,none⟩) n n) n (madeCells (Value.bool false).cells (n*1)).toList->w.grownBy w1 none ->
  ∃own,MapAt (w1.alloc (.cells #[.slice (some ⟨w.heap.size,0,none⟩) n n] 201)) w.heap.size w1.heap.size (List.replicate n false) own/\Below w.heap.size w (w1.alloc (.cells #[.slice (some ⟨w.heap.size,0,none⟩) n n] 201)):=fun w1 ho hg=>by
  rw[zh2] at ho;have hb1:Below w.heap.size w w1:=(Below.refl _ _).grown hg (Nat.le_refl _) (fun k e=>by cases e);exact zlE (k:=List.replicate n false) (by rw[List.length_replicate];exact ho) hb1 (by rw[List.length_replicate];exact hn1)
 have HF:=gI hfin;clear hfin;rcases hway with ⟨h1,HI⟩|⟨h1,h2,HI⟩|⟨h1,h2,HI⟩
 all_goals
  go_enter Tryz.func88,Tryz.ntmps88
  go_wp2_with (refine wpList_make_full w rfl _ _ 54 rfl w.heap.size 4 i0 _ 1 Tryz.underlying54 hi0 hz0 hz1 .i64 .i64 _ _ n rfl rfl HI.out HI.out HB2.out HM1.out (Nat.le_refl _) ?_
               intro w1 ho1 hg1;have HO1:=gI ho1;have HG1:=gI hg1;clear ho1 hg1)
  go_ret
  obtain ⟨own,h3,h4⟩:=HF.out w1 HO1.out HG1.out;exact ⟨_,own,rfl,h3,h4⟩
end Xt
namespace Xt
open Go.RowKit Me
def zkM (w:World) (B D:Nat) (k:List Bool) (own:Nat->Prop) (r:List Bool×List Int×Int) (e:Ending) (w':World):Prop:=
 ∃A n c,e=.returned (.tuple #[.slice A n c,.int .i64 r.2.2])/\r.2.1.length=n/\n<=c/\n<=k.length/\w'.ownsRow w.heap.size 3 1 (.slice A n c) n (zL r.2.1)/\Cz w' own A (zL r.2.1)/\zl7 w B D r.1 own w'
theorem zmi {w w':World} {B D n:Nat} {k:List Bool} {own:Nat->Prop} {A:Option Addr} {c:Nat} {vs:List Value} {e:TypeId} {size:Nat} (h:MapAt w B D k own) (ho:w'.ownsRow w.heap.size e size (.slice A n c) n vs):Cz w' own A vs:=
 Cz.of_own ho fun j hj _ hown=>by have:=(h.lt hown).2;omega
theorem zjh {k:List Bool} {n j:Nat} (hj:j<=k.length) (h:(tk k n j).2.length=n):tk k n k.length=tk k n j:=by
 have:=zg7 k n j h (k.length-j)
 rwa[show j+(k.length-j)=k.length by omega] at this
theorem zlL (w:World) (z:Int) (t:TypeId):∀j u,(zL [z])[j]?=some u->(w.alloc (.cells #[.int .i64 z] t)).cell? ((⟨w.heap.size,0,none⟩:Addr).add j)=some u:=cell_one_new w (.int .i64 z) t
theorem zeF {w:World} {B D:Nat} {k:List Bool} {own:Nat->Prop} (h:MapAt w B D k own) (i:Int) :
 Calls Tryz.prog 89 #[.pointer (some ⟨D,0,none⟩),.int .i64 i] w (zkM w B D k own (takeD k i)):=by
 obtain ⟨i0,hi0,hz0,hz1,hz2⟩:=info_parts zbw;have hf:=zko h;have hfl:=zis k;obtain ⟨R,hR⟩:∃R,R=takeD k i:=⟨_,rfl⟩
 rw[<-hR];have HH:=gI h;have HF:=gI hf
 by_cases h0:i<0
 ·have d0:decide (i<0)=true:=by simp;omega
  have HR:=gI (show R=(k,[],1) by rw[hR];unfold takeD;rw[if_pos h0]);clear h hf hR
  go_enter Tryz.func89,Tryz.ntmps89
  go_wp2
  refine bodyPost_ret (v:=.tuple #[.slice none 0 0,.int .i64 1]) (by simp[results,Tryz.results89,go_sem]) rfl ?_;rw[HR.out];exact ⟨none,0,0,rfl,rfl,Nat.le_refl _,Nat.zero_le _,World.ownsRow_nil _ _ _ _,Cz.empty,HH.out,Out.refl _ _⟩
 ·have d0:decide (i<0)=false:=by simp;omega
  obtain ⟨fk,hfk⟩:∃fk,fk=free k:=⟨_,rfl⟩
  rw[<-hfk] at HF hfl
  by_cases h1:(fk:Int)<i
  ·have d1:decide ((fk:Int)<i)=true:=by simp;omega
   have HR:=gI (show R=(k,[],7) by rw[hR];unfold takeD;rw[if_neg h0,if_pos (by rw[<-hfk];exact h1)]);clear h hf hR hfk
   go_enter Tryz.func89,Tryz.ntmps89
   go_wp2_with (go_at_call 125;refine HF.out.mono ?_;rintro e w' ⟨rfl,rfl⟩)
   refine bodyPost_ret (v:=.tuple #[.slice none 0 0,.int .i64 7]) (by simp[results,Tryz.results89,go_sem]) rfl ?_;rw[HR.out];exact ⟨none,0,0,rfl,rfl,Nat.le_refl _,Nat.zero_le _,World.ownsRow_nil _ _ _ _,Cz.empty,HH.out,Out.refl _ _⟩
  ·have d1:decide ((fk:Int)<i)=false:=by simp;omega
   obtain ⟨n,rfl⟩:∃n:Nat,i=(n:Int):=⟨i.toNat,by omega⟩
   have HR:=gI (show R=((tk k n k.length).1,(tk k n k.length).2,0) by rw[hR];unfold takeD;rw[if_neg h0,if_neg (by rw[<-hfk];exact h1),Int.toNat_natCast]);have HFK:=gI hfk;have hm:=h.most;have hnf:n<=fk:=by omega
   have d2:decide (fk<n)=false:=by simp;omega
   have HLT:=gI (fun j=>h.lt (j:=j));clear h hf hR hfk
   go_enter Tryz.func89,Tryz.ntmps89
   go_wp2_with (first|(go_at_call 125;refine HF.out.mono ?_;rintro e w' ⟨rfl,rfl⟩)|fail)
   go_loopw [6,7] (fun x y wr=>∃j q:Nat,y=.int .i64 (j:Int)/\j<=k.length/\q<=j/\q<=n/\∃A c,x=.slice A q c/\Hid ((tk k n j).2.length=q)/\Hid (wr.ownsRow w.heap.size 3 1 (.slice A q c) q (zL (tk k n j).2))/\Hid (MapAt wr B D (tk k n j).1 own)/\Hid (Out own w wr)) (fun _ y _=>k.length-(intOf y).toNat)
   case atStart=>exact ⟨0,0,rfl,Nat.zero_le _,Nat.le_refl _,Nat.zero_le _,none,0,rfl,gI rfl,gI (World.ownsRow_nil _ _ _ _),HH,gI (Out.refl _ _)⟩
   case round=>
    obtain ⟨j,q,rfl,hjk,hqj,hqn,A,c,rfl,HQ,HW,HK,HO⟩:=hrel
    by_cases hlt:q<n
    ·have hj:j<k.length:=by
      rcases Nat.lt_or_ge j k.length with hh|hh
      ·exact hh
      ·exfalso
       have e:j=k.length:=by omega
       have:=zeE k n j hjk;rw[HQ.out,e,List.take_length,<-HFK.out] at this;omega
     have hlen:=QX k n j;have hj':j<(tk k n j).1.length:=by rw[hlen];exact hj
     have hsame:=zdF k n j j (Nat.le_refl _);have hd:k.getD j true=(tk k n j).1.getD j false:=by
      rw[List.getD_eq_getElem?_getD,List.getD_eq_getElem?_getD,hsame,List.getElem?_eq_getElem hj];rfl
     obtain ⟨Pv,hK⟩:=HK.out;obtain ⟨g,c',hv,hog,hgd,hat⟩:=hK.at hj';obtain ⟨e1,f1⟩:=hat j hj';obtain ⟨hk2,ho2⟩:=hK.set hv hgd j true;have c0:=hK.blk.cell (i:=0) rfl;obtain ⟨b,hb⟩:∃b,b=(tk k n j).1.getD j false:=⟨_,rfl⟩
     obtain ⟨kn,hkn⟩:∃kn,kn=(tk k n j).1.length:=⟨_,rfl⟩
     rw[hv,<-hkn] at c0;rw[<-hb] at e1 hd;have hlti:(j:Int)<(kn:Int):=by rw[<-hkn] at hj';omega
     have hltq:(q:Int)<(n:Int):=by omega
     cases b with
     |true=>
      have htk:tk k n (j+1)=tk k n j:=by rw[tk,if_neg (by rw[hd];simp)]
      have HN:=gI (show (tk k n (j+1)).2.length=q/\wr.ownsRow w.heap.size 3 1 (.slice A q c) q (zL (tk k n (j+1)).2)/\MapAt wr B D (tk k n (j+1)).1 own from by rw[htk];exact ⟨HQ.out,HW.out,HK.out⟩);clear htk hd hb hk2 ho2 hat hv hog hgd hK hsame hlen hkn hj'
      go_wp2
      go_roundw
      case rel=>exact ⟨j+1,q,by go_num,by omega,by omega,by omega,A,c,rfl,gI HN.out.1,gI HN.out.2.1,gI HN.out.2.2,HO⟩
      case measure=>simp[intOf];omega
     |false=>
      have htk:tk k n (j+1)=((tk k n j).1.set j true,(tk k n j).2++[(j:Int)]):=by rw[tk,if_pos ⟨by rw[HQ.out];exact hlt,hd⟩]
      have HO2:=gI (HO.out.trans ho2);have HK2:=gI hk2;have HTK:=gI htk;have hw2:=zn HW.out ho2 (fun z hz hown=>by have:=(HW.out.lt z hz).1;have:=(HLT.out z hown).2;omega);have hsz:(wr.setCell ⟨g,j,none⟩ (.bool true)).heap.size=wr.heap.size:=by simp[World.setCell]
      have hnew:=zlL (wr.setCell ⟨g,j,none⟩ (.bool true)) (j:Int) 3;rw[hsz] at hnew;have HNEW:=gI hnew;have HW3:=gI (hw2.alloc (.cells #[.int .i64 (j:Int)] 3));have HBA:=gI (show w.heap.size<=((wr.setCell ⟨g,j,none⟩ (.bool true)).alloc (.cells #[.int .i64 (j:Int)] 3)).heap.size by rw[World.size_alloc,hsz];have:=HO.out.size;omega);have HO3:=gI (HO2.out.alloc (.cells #[.int .i64 (j:Int)] 3));have HK3:=gI (show MapAt ((wr.setCell ⟨g,j,none⟩ (.bool true)).alloc (.cells #[.int .i64 (j:Int)] 3)) B D ((tk k n j).1.set j true) own from MapAt.past ⟨Pv,HK2.out⟩ ((Below.refl _ _).alloc (Nat.le_refl _) _));have HMX:=gI (show q+1<=maxLen by unfold maxLen;omega);have HI1:=gI (zaJ [(j:Int)]);clear htk hd hb hk2 ho2 hat hv hog hgd hK hsame hlen hkn hj' hw2 hnew hsz
      go_wp2_with (at_builtin
                   refine wpList_append_own_at (w:=(wr.setCell ⟨g,j,none⟩ (.bool true)).alloc (.cells #[.int .i64 (j:Int)] 3)) rfl (.tmp 36) (.tmp 38) 121 rfl w.heap.size 3 i0 _ 1 8 Tryz.underlying121 hi0 hz0 hz1 hz2 rfl (by decide) (.slice A q c) q _ rfl HW3.out ⟨wr.heap.size,0,none⟩ 1 1 (zL [(j:Int)]) rfl rfl HNEW.out HI1.out HMX.out (by omega) HBA.out ?_;intro v2 w3 hown2 hg2 hnil2 hat2;have HW4:=gI hown2;have HG2:=gI hg2;clear hown2 hg2 hnil2 hat2)
      obtain ⟨A2,c2,hv2,-⟩:=zC HW4.out;subst hv2;have hout:Out (fun z=>((Value.slice A q c).ownBlock=some z)) ((wr.setCell ⟨g,j,none⟩ (.bool true)).alloc (.cells #[.int .i64 (j:Int)] 3)) w3:=Out.of_grown HG2.out (fun _ e _=>e);have hnl:∀z,(Value.slice A q c).ownBlock=some z->w.heap.size<=z:=fun z hz=>(HW.out.lt z hz).1
      have HN:=gI (show (tk k n (j+1)).2.length=q+1/\w3.ownsRow w.heap.size 3 1 (.slice A2 (q+1) c2) (q+1) (zL (tk k n (j+1)).2)/\MapAt w3 B D (tk k n (j+1)).1 own/\Out own w w3 from by
       rw[HTK.out];refine ⟨by simp[HQ.out],?_,HK3.out.out hout (fun z hz e=>?_),HO3.out.trans' hout (fun z hz=>.inr (hnl z hz))⟩
       ·show w3.ownsRow w.heap.size 3 1 (.slice A2 (q+1) c2) (q+1) (zL ((tk k n j).2++[(j:Int)]))
        rw[Xm];exact HW4.out
       ·have:=(HLT.out z hz).2;have:=hnl z e
        omega)
      clear hout hnl
      go_roundw
      case rel=>exact ⟨j+1,q+1,by go_num,by omega,by omega,by omega,A2,c2,rfl,gI HN.out.1,gI HN.out.2.1,gI HN.out.2.2.1,gI HN.out.2.2.2⟩
      case measure=>simp[intOf];omega
    ·have hqn':q=n:=by omega
     subst hqn';have he:=zjh hjk HQ.out;have HX:=gI (show R=((tk k q j).1,(tk k q j).2,0) by rw[HR.out,he]);clear he
     go_wp2
     refine bodyPost_ret (v:=.tuple #[.slice A q c,.int .i64 0]) (by simp[results,Tryz.results89,go_sem]) rfl ?_;rw[HX.out];exact ⟨A,q,c,rfl,HQ.out,Xj HW.out,by omega,HW.out,zmi HH.out HW.out,HK.out,HO.out⟩
end Xt
end
section
namespace St
open Go.RowKit Me Mf
def xG (c:Nat) (p:Nat->Bool):List Bool:=(List.range c).map p
def qH (c:Nat) (p:Nat->Bool):List Nat:=(List.range c).filter fun i=> !p i
def ints (l:List Nat):List Int:=l.map fun n:Nat=>(n:Int)
def with_ (p:Nat->Bool) (l:List Int):Nat->Bool:=fun i=>p i||decide ((i:Int)∈l)
section
variable {c:Nat} {p q:Nat->Bool}
theorem yx:(xG c p).length=c:=by simp[xG]
theorem Zu {i:Nat} (h:i<c):(xG c p)[i]?=some (p i):=by simp[xG,h]
theorem zaU {i:Nat} (h:i<c) (b:Bool):(xG c p).getD i b=p i:=by
 rw[List.getD_eq_getElem?_getD,Zu h];rfl
theorem Ym (h:∀i,i<c->p i=q i):xG c p=xG c q:=by
 unfold xG
 apply List.map_congr_left
 intro i hi;exact h i (List.mem_range.1 hi)
theorem zdl {i:Nat} (b:Bool):(xG c p).set i b=xG c (fun j=>if j=i then b else p j):=by
 apply List.ext_getElem?
 intro j;rw[List.getElem?_set]
 by_cases e:i=j
 ·subst e
  by_cases hi:i<c
  ·rw[if_pos rfl,if_pos (by rw[yx];exact hi),Zu hi,if_pos rfl]
  ·rw[if_pos rfl,if_neg (by rw[yx];exact hi),List.getElem?_eq_none (by rw[yx];omega)]
 ·rw[if_neg e]
  by_cases hj:j<c
  ·rw[Zu hj,Zu hj,if_neg (fun e'=>e e'.symm)]
  ·rw[List.getElem?_eq_none (by rw[yx];omega),List.getElem?_eq_none (by rw[yx];omega)]
theorem ziH:xG c (fun _=>false)=List.replicate c false:=by
 apply List.ext_getElem?
 intro j
 by_cases hj:j<c
 ·rw[Zu hj,List.getElem?_replicate,if_pos hj]
 ·rw[List.getElem?_eq_none (by rw[yx];omega),List.getElem?_eq_none (by simp;omega)]
theorem YW (l:List Nat):(ints l).length=l.length:=by simp[ints]
theorem zbv {l:List Nat} {i:Nat}:((i:Int)∈ints l)↔i∈l:=by
 unfold ints;rw[List.mem_map]
 constructor
 ·rintro ⟨j,hj,e⟩;have:j=i:=by omega
  rwa[<-this]
 ·exact fun h=>⟨i,h,rfl⟩
theorem zfp:∀(l:List Int) (p:Nat->Bool),(∀z∈l,∃i:Nat,z=(i:Int)/\i<c/\p i=false)->l.Nodup->Xt.goT true (xG c p) l=some (xG c (with_ p l))
 |[],p,_,_=>by rw[Xt.goT];congr 1;exact Ym fun i _=>by simp[with_]
 |z::l,p,h,hn=>by
  obtain ⟨i,rfl,hi,hp⟩:=h z (by simp);rw[List.nodup_cons] at hn;rw[Xt.goT,Int.toNat_natCast,zaU hi,if_neg (by rw[hp];decide),zdl];rw[zfp l _ (fun y hy=>?_) hn.2]
  ·congr 1
   refine Ym fun j _=>?_
   unfold with_
   by_cases e:j=i
   ·subst e;simp
   ·have:(j:Int)≠(i:Int):=by omega
    simp[e,this]
  ·obtain ⟨j,rfl,hj,hpj⟩:=h y (by simp[hy]);refine ⟨j,rfl,hj,?_⟩;have:j≠i:=fun e=>hn.1 (by rw[<-e];exact hy)
   rw[if_neg this];exact hpj
theorem zg2 {l:List Int} (h:∀z∈l,∃i:Nat,z=(i:Int)/\i<c/\p i=false) (hn:l.Nodup):Xt.Y9 (xG c p) l true=(xG c (with_ p l),0):=by
 refine Xt.zae ?_ (zfp l p h hn);unfold Xt.badI;rw[List.any_eq_false];intro z hz;obtain ⟨i,rfl,hi,-⟩:=h z hz;rw[yx,Xt.ZM hi]
 simp
theorem Zh (n:Nat) (f:Nat->Bool):(List.range (n+1)).filter f=(List.range n).filter f++(if f n then [n] else []):=by
 rw[List.range_succ,List.filter_append]
 cases h:f n<;>simp[h]
theorem zc5:∀n,n<=c->Xt.free ((xG c p).take n)=((List.range n).filter fun i=> !p i).length
 |0,_=>by simp[Xt.free]
 |n+1,h=>by
  rw[Xt.VF (Zu (by omega)),zc5 n (by omega),Zh,List.length_append]
  cases p n<;>simp
theorem zaM:Xt.free (xG c p)=(qH c p).length:=by
 have:=zc5 (c:=c) (p:=p) c (Nat.le_refl _)
 rwa[List.take_of_length_le (by rw[yx];exact Nat.le_refl _)] at this
theorem zg8 (n:Nat):∀i,i<=c->(Xt.tk (xG c p) n i).2=ints (((List.range i).filter fun j=> !p j).take n)/\(Xt.tk (xG c p) n i).1=xG c (with_ p (ints (((List.range i).filter fun j=> !p j).take n)))
 |0,_=>⟨by simp[Xt.tk,ints],by rw[Xt.tk];exact Ym fun i _=>by simp[with_,ints]⟩
 |i+1,h=>by
  obtain ⟨h1,h2⟩:=zg8 n i (by omega);have hd:=zaU (c:=c) (p:=p) (i:=i) (by omega) true;rw[Xt.tk,h1,h2,hd,Zh,YW,List.length_take]
  cases hp:p i with
  |true=>
   rw[if_neg (by simp)]
   simpa using ⟨h1,h2⟩
  |false=>
   by_cases hn:((List.range i).filter fun j=> !p j).length<n
   ·rw[if_pos ⟨by omega,rfl⟩];have e:(((List.range i).filter fun j=> !p j)++(if (!false)=true then [i] else [])).take n=((List.range i).filter fun j=> !p j).take n++[i]:=by
     rw[List.take_append,List.take_of_length_le (l:=(List.range i).filter fun j=> !p j) (by omega)]
     congr 1
     show List.take _ [i]=[i]
     rw[List.take_of_length_le (by simp;omega)]
    rw[e];refine ⟨by simp[ints],?_⟩;show (xG c _).set i true=_
    rw[zdl];refine Ym fun j _=>?_
    unfold with_;simp only[zbv,List.mem_append,List.mem_singleton]
    by_cases hj:j=i
    ·subst hj;simp
    ·simp[hj]
   ·rw[if_neg (fun h=>hn (by have:=h.1;omega))];have e:(((List.range i).filter fun j=> !p j)++(if (!false)=true then [i] else [])).take n=((List.range i).filter fun j=> !p j).take n:=List.take_append_of_le_length (by omega);rw[e];exact ⟨h1,h2⟩
theorem zb1 {n:Nat} (h:n<=(qH c p).length):Xt.takeD (xG c p) (n:Int)=(xG c (with_ p (ints ((qH c p).take n))),ints ((qH c p).take n),0):=by
 obtain ⟨h1,h2⟩:=zg8 (c:=c) (p:=p) n c (Nat.le_refl _);unfold Xt.takeD;rw[if_neg (by omega),if_neg (by rw[zaM];omega),Int.toNat_natCast,yx,h1,h2];rfl
theorem zg9 {n:Nat} (h:(qH c p).length<n):Xt.takeD (xG c p) (n:Int)=(xG c p,[],7):=by
 unfold Xt.takeD;rw[if_neg (by omega),if_pos (by rw[zaM];omega)]
theorem zcw (c:Nat):(List.range c).Pairwise (·<·):=List.pairwise_lt_range
theorem Qw:(qH c p).Pairwise (·<·):=(zcw c).filter _
theorem zci {l:List Nat} (h:l.Pairwise (·<·)):l.Nodup:=h.imp fun h=>by omega
theorem Xo {i:Nat}:i∈qH c p↔i<c/\p i=false:=by
 unfold qH
 simp
theorem zan:∀{l k:List Nat},l.Pairwise (·<·)->k.Pairwise (·<·)->(∀i,i∈l↔i∈k)->l=k
 |[],[],_,_,_=>rfl
 |[],b::k,_,_,h=>absurd ((h b).2 (by simp)) (by simp)
 |a::l,[],_,_,h=>absurd ((h a).1 (by simp)) (by simp)
 |a::l,b::k,h1,h2,h=>by
  rw[List.pairwise_cons] at h1 h2;have hab:a=b:=by
   have ha:=(h a).1 (by simp);have hb:=(h b).2 (by simp);rw[List.mem_cons] at ha hb;rcases ha with rfl|ha
   ·rfl
   ·rcases hb with rfl|hb
    ·rfl
    ·have:=h1.1 b hb;have:=h2.1 a ha;omega
  subst hab
  congr 1
  refine zan h1.2 h2.2 fun i=>?_
  have:=h i;rw[List.mem_cons,List.mem_cons] at this
  constructor
  ·intro hi;rcases this.1 (.inr hi) with rfl|h'
   ·have:=h1.1 i hi;omega
   ·exact h'
  ·intro hi;rcases this.2 (.inr hi) with rfl|h'
   ·have:=h2.1 i hi;omega
   ·exact h'
theorem zgt (n:Nat):qH c (with_ p (ints ((qH c p).take n)))=(qH c p).drop n:=by
 have hr:=Qw (c:=c) (p:=p);refine zan Qw (hr.sublist (List.drop_sublist _ _)) fun i=>?_
 rw[Xo];have hsplit:qH c p=(qH c p).take n++(qH c p).drop n:=(List.take_append_drop n _).symm;have hnd:=zci hr;rw[hsplit,List.nodup_append] at hnd;unfold with_;simp only[Bool.or_eq_false_iff,decide_eq_false_iff_not,zbv]
 constructor
 ·rintro ⟨h1,h2,h3⟩;have hm:i∈qH c p:=Xo.2 ⟨h1,h2⟩;rw[hsplit,List.mem_append] at hm;exact hm.resolve_left h3
 ·intro hi;have hm:i∈qH c p:=List.mem_of_mem_drop hi;obtain ⟨h1,h2⟩:=Xo.1 hm;exact ⟨h1,h2,fun h=>hnd.2.2 i h i hi rfl⟩
end
def vw (l:List zi):Nat->Bool:=fun i=>decide (i<32)||decide ((i:Int)∈zh l)
theorem zdG (l:List zi) (f:zi):vw (l++[f])=with_ (vw l) f.blocks:=by
 funext i
 unfold vw with_ zh;simp[List.flatMap_append,Bool.or_assoc]
theorem zdc {c:Nat} (h:32<=c):Xt.takeD (List.replicate c false) 32=(xG c (vw []),ints (List.range 32),0):=by
 rw[<-ziH];have hf:qH c (fun _=>false)=List.range c:=by unfold qH;simp
 have e:(32:Int)=((32:Nat):Int):=rfl;rw[e,zb1 (by rw[hf];simpa using h),hf];have ht:(List.range c).take 32=List.range 32:=by rw[List.take_range];congr 1;omega
 rw[ht]
 congr 1
 refine Ym fun i _=>?_
 unfold with_ vw zh;simp[zbv]
def YL (c:Nat) (l:List zi):Prop:=∀z∈zh l,z<(c:Int)
theorem zik {c:Nat} {l:List zi} {f:zi} {r:List zi} (hb:XE (l++f::r)) (hd:YL c (l++f::r)):Xt.Y9 (xG c (vw l)) f.blocks true=(xG c (vw (l++[f])),0):=by
 have hall:zh (l++f::r)=zh l++(f.blocks++zh r):=by unfold zh;simp
 have hn:=hb.2;rw[hall,List.nodup_append] at hn;have hn2:=(List.nodup_append.1 hn.2.1).1;rw[zdG];refine zg2 (fun z hz=>?_) hn2;obtain ⟨h1,h2⟩:=(hb.1 f (by simp)).2.2 z hz;have h3:=hd z (by rw[hall];simp[hz]);refine ⟨z.toNat,by omega,by omega,?_⟩;unfold vw;simp only[Bool.or_eq_false_iff,decide_eq_false_iff_not];refine ⟨by omega,fun h=>?_⟩;have e:((z.toNat:Nat):Int)=z:=by omega
 rw[e] at h;exact hn.2.2 z h z (by simp[hz]) rfl
def Yh (c:Nat) (l:List zi):List Nat:=qH c (vw l)
def pages (n:Nat):Nat:=(n+111) / 112
theorem zf5 (n:Nat):qX (n:Int)=(pages n:Int):=by
 unfold qX pages
 split
 ·have:n=0:=by omega
  subst this;rfl
 ·omega
def yX (fs:List zi):List (List UInt8×Option Nat)->List Nat->Nat->Option (List zi×Nat)
 |[],_,nx=>some ([],nx)
 |(x,none)::l,fr,nx=>(yX fs l fr nx).map fun r=>((fs.filter fun f=>f.name==x)++r.1,r.2)
 |(x,some s)::l,fr,nx=>if pages s<=fr.length/\nx≠4294967295 then (yX fs l (fr.drop (pages s)) (nx+1)).map fun r=>(⟨x,nx,(s:Int),ints (fr.take (pages s))⟩::r.1,r.2) else none
def QE (m:ManD) (c:Nat) (L:List (List UInt8×Option Nat)):Option ManD:=(yX m.files L (Yh c m.files) m.next).map fun r=>⟨m.version+1,r.2,r.1⟩
end St
end
end Go.Proofs.YtcdkopbjlakebaaGreatDoor
