/- Texts put together, for a law: Frms, Fg, Pgs. -/
import Derived.Lib.AppendZerosOnto
import Derived.Test.YtcdkopbjlakebaaGreatDoorKS12
import Derived.Test.YtcdkopbjlakebaaGreatDoorKS3
import Derived.Test.YtcdkopbjlakebaaGreatDoorKS2
section
namespace Go.Proofs.YtcdkopbjlakebaaGreatDoor.Fr
open Go.RowKit Cr Me
end Go.Proofs.YtcdkopbjlakebaaGreatDoor.Fr
namespace Go.Proofs.YtcdkopbjlakebaaGreatDoor.Fr
open Go.RowKit Cr Me
structure SecD where
 kind:UInt8
 body:List UInt8
def noSec:SecD:=⟨0,[]⟩
def head (k:UInt8) (n:Nat):List UInt8:=k::four (BitVec.ofNat 32 n)
theorem head_length (k:UInt8) (n:Nat):(head k n).length=5:=rfl
def encS (s:SecD):List UInt8:=Cr.mark (head s.kind s.body.length)++Cr.mark s.body
theorem encS_length (s:SecD):(encS s).length=s.body.length+13:=by
 unfold encS
 rw[List.length_append,mark_length,mark_length,head_length];omega
def encAll:List SecD→List UInt8
 |[]=>[]
 |s::l=>encS s++encAll l
def lenOf (h:List UInt8):Nat:=(h.getD 1 0).toNat+256*(h.getD 2 0).toNat+65536*(h.getD 3 0).toNat+16777216*(h.getD 4 0).toNat
theorem lenOf_lt (h:List UInt8):lenOf h<4294967296:=by
 unfold lenOf
 have h1:=(h.getD 1 0).toNat_lt
 have h2:=(h.getD 2 0).toNat_lt
 have h3:=(h.getD 3 0).toNat_lt
 have h4:=(h.getD 4 0).toNat_lt
 omega
theorem lenOf_head (k:UInt8) {n:Nat} (hn:n<4294967296):lenOf (head k n)=n:=by
 unfold lenOf head four
 have e:(BitVec.ofNat 32 n).toNat=n:=by rw[BitVec.toNat_ofNat];omega
 rw[e]
 simp only[List.getD_cons_succ,List.getD_cons_zero,UInt8.toNat_ofNat']
 omega
def getS (b:List UInt8):SecD×Nat×Int:=
 if b.length<9 then (noSec,0,2)
 else if fitB (b.take 9)=false then (noSec,0,5)
 else if 1048576<lenOf (b.take 5) then (noSec,0,4)
 else if b.length<lenOf (b.take 5)+13 then (noSec,0,2)
 else if fitB ((b.drop 9).take (lenOf (b.take 5)+4))=false then (noSec,0,5)
 else (⟨b.getD 0 0,(b.drop 9).take (lenOf (b.take 5))⟩,lenOf (b.take 5)+13,0)
theorem getS_short {b:List UInt8} (h:b.length<9):getS b=(noSec,0,2):=by unfold getS;rw[if_pos h]
theorem getS_head {b:List UInt8} (h:¬b.length<9) (h2:fitB (b.take 9)=false):getS b=(noSec,0,5):=by unfold getS;rw[if_neg h,if_pos h2]
theorem getS_long {b:List UInt8} {n:Nat} (h:¬b.length<9) (h2:fitB (b.take 9)=true) (hn:n=lenOf (b.take 5)) (h3:1048576<n):getS b=(noSec,0,4):=by
 subst hn;unfold getS;rw[if_neg h,if_neg (by simp[h2]),if_pos h3]
theorem getS_cut {b:List UInt8} {n:Nat} (h:¬b.length<9) (h2:fitB (b.take 9)=true) (hn:n=lenOf (b.take 5)) (h3:¬1048576<n) (h4:b.length<n+13):getS b=(noSec,0,2):=by
 subst hn;unfold getS;rw[if_neg h,if_neg (by simp[h2]),if_neg h3,if_pos h4]
theorem getS_bad {b:List UInt8} {n:Nat} (h:¬b.length<9) (h2:fitB (b.take 9)=true) (hn:n=lenOf (b.take 5)) (h3:¬1048576<n) (h4:¬b.length<n+13) (h5:fitB ((b.drop 9).take (n+4))=false):getS b=(noSec,0,5):=by
 subst hn;unfold getS;rw[if_neg h,if_neg (by simp[h2]),if_neg h3,if_neg h4,if_pos h5]
theorem getS_good {b:List UInt8} {n:Nat} (h:¬b.length<9) (h2:fitB (b.take 9)=true) (hn:n=lenOf (b.take 5)) (h3:¬1048576<n) (h4:¬b.length<n+13) (h5:fitB ((b.drop 9).take (n+4))=true) :
 getS b=(⟨b.getD 0 0,(b.drop 9).take n⟩,n+13,0):=by
 subst hn;unfold getS;rw[if_neg h,if_neg (by simp[h2]),if_neg h3,if_neg h4,if_neg (by simp[h5])]
theorem getS_enc (s:SecD) (m:List UInt8) (hs:s.body.length≤1048576):getS (encS s++m)=(s,s.body.length+13,0):=by
 have hl:(Cr.mark (head s.kind s.body.length)).length=9:=by rw[mark_length,head_length]
 have e9:(encS s++m).take 9=Cr.mark (head s.kind s.body.length):=by
  unfold encS;rw[List.append_assoc,←hl,List.take_left]
 have e5:(encS s++m).take 5=head s.kind s.body.length:=by
  have:(encS s++m).take 5=((encS s++m).take 9).take 5:=by rw[List.take_take];rfl
  rw[this,e9];unfold Cr.mark;rw[show (5:Nat)=(head s.kind s.body.length).length from rfl,List.take_left]
 have ed:(encS s++m).drop 9=Cr.mark s.body++m:=by
  unfold encS;rw[List.append_assoc,←hl,List.drop_left]
 have hn:lenOf ((encS s++m).take 5)=s.body.length:=by rw[e5,lenOf_head _ (by omega)]
 have hlen:(encS s++m).length=s.body.length+13+m.length:=by rw[List.length_append,encS_length]
 have et:((encS s++m).drop 9).take (s.body.length+4)=Cr.mark s.body:=by rw[ed,←mark_length,List.take_left]
 have eb:((encS s++m).drop 9).take s.body.length=s.body:=by rw[ed];unfold Cr.mark;rw[List.append_assoc,List.take_left]
 have e0:(encS s++m).getD 0 0=s.kind:=rfl
 rw[getS_good (n:=s.body.length) (by omega) (by rw[e9];exact fitB_mark _) hn.symm (by omega) (by omega) (by rw[et];exact fitB_mark _),e0,eb]
def allS:Nat→List SecD→List UInt8→List SecD×Int
 |0,acc,_=>(acc,0)
 |f+1,acc,b=>if b=[] then (acc,0) else if (getS b).2.2=0 then allS f (acc++[(getS b).1]) (b.drop (getS b).2.1) else ([],(getS b).2.2)
def secsOf (b:List UInt8):List SecD×Int:=allS b.length [] b
end Go.Proofs.YtcdkopbjlakebaaGreatDoor.Fr
namespace Go.Proofs.YtcdkopbjlakebaaGreatDoor
open Go.RowKit Me Fr
def BodyV (w:World) (B:Nat) (v:Value) (l:List UInt8):Prop:=∃A n c,v=.slice A n c∧l.length=n∧n≤9223372036854775807∧Rd w B A l
section
variable {w w':World} {B B':Nat} {v:Value} {l:List UInt8}
theorem BodyV.below (h:BodyV w B v l) (hb:Below B w w'):BodyV w' B v l:=by
 obtain ⟨A,n,c,h1,h2,h3,h5⟩:=h
 exact ⟨A,n,c,h1,h2,h3,h5.below hb⟩
theorem BodyV.more (h:BodyV w B v l) (hB:B≤B'):BodyV w B' v l:=by
 obtain ⟨A,n,c,h1,h2,h3,h5⟩:=h
 exact ⟨A,n,c,h1,h2,h3,h5.more hB⟩
theorem BodyV.keep (h:BodyV w B v l) (hk:∀p:Addr,p.block<B→w'.cell? p=w.cell? p):BodyV w' B v l:=by
 obtain ⟨A,n,c,h1,h2,h3,h5⟩:=h
 exact ⟨A,n,c,h1,h2,h3,h5.keep hk⟩
end
def SecCells (w:World) (B:Nat):List Value→List SecD→Prop
 |[],[]=>True
 |k::b::vs,s::l=>k=.int .u8 (s.kind.toNat:Int)∧BodyV w B b s.body∧SecCells w B vs l
 |_,_=>False
section
variable {w w':World} {B B':Nat}
theorem SecCells.keep (hk:∀p:Addr,p.block<B→w'.cell? p=w.cell? p):∀{vs:List Value} {l:List SecD},SecCells w B vs l→SecCells w' B vs l
 |[],[],_=>trivial
 |_::_::_,_::_,⟨h1,h2,h3⟩=>⟨h1,h2.keep hk,SecCells.keep hk h3⟩
 |[],_::_,h=>h.elim
 |[_],[],h=>h.elim
 |[_],_::_,h=>h.elim
 |_::_::_,[],h=>h.elim
theorem SecCells.more (hB:B≤B'):∀{vs:List Value} {l:List SecD},SecCells w B vs l→SecCells w B' vs l
 |[],[],_=>trivial
 |_::_::_,_::_,⟨h1,h2,h3⟩=>⟨h1,h2.more hB,SecCells.more hB h3⟩
 |[],_::_,h=>h.elim
 |[_],[],h=>h.elim
 |[_],_::_,h=>h.elim
 |_::_::_,[],h=>h.elim
theorem SecCells.below {vs:List Value} {l:List SecD} (h:SecCells w B vs l) (hb:Below B w w'):SecCells w' B vs l:=SecCells.keep (fun _ hp=>hb.cell hp) h
theorem SecCells.length:∀{vs:List Value} {l:List SecD},SecCells w B vs l→vs.length=l.length*2
 |[],[],_=>rfl
 |k::b::vs,s::l,⟨_,_,h3⟩=>by have:=SecCells.length h3;simp only[List.length_cons];omega
 |[],_::_,h=>h.elim
 |[_],[],h=>h.elim
 |[_],_::_,h=>h.elim
 |_::_::_,[],h=>h.elim
theorem SecCells.snoc {b:Value} {s:SecD} (hb:BodyV w B b s.body):∀{vs:List Value} {l:List SecD},SecCells w B vs l→SecCells w B (vs++[.int .u8 (s.kind.toNat:Int),b]) (l++[s])
 |[],[],_=>⟨rfl,hb,trivial⟩
 |_::_::_,_::_,⟨h1,h2,h3⟩=>⟨h1,h2,SecCells.snoc hb h3⟩
 |[],_::_,h=>h.elim
 |[_],[],h=>h.elim
 |[_],_::_,h=>h.elim
 |_::_::_,[],h=>h.elim
theorem SecCells.get:∀{vs:List Value} {l:List SecD} {k:Nat} {s:SecD},SecCells w B vs l→l[k]?=some s→vs[k*2]?=some (.int .u8 (s.kind.toNat:Int))∧∃b,vs[k*2+1]?=some b∧BodyV w B b s.body
 |k::b::vs,s::l,0,t,⟨h1,h2,_⟩,h=>by
  simp at h;subst h
  exact ⟨by rw[h1];rfl,b,rfl,h2⟩
 |k::b::vs,s::l,j+1,t,⟨_,_,h3⟩,h=>by
  have:=SecCells.get (k:=j) h3 (by simpa using h)
  rw[show (j+1)*2=j*2+1+1 by omega]
  simpa only [List.getElem?_cons_succ] using this
 |_,[],_,_,_,h=>by simp at h
 |[],_::_,_,_,h,_=>h.elim
 |[_],_::_,_,_,h,_=>h.elim
end
def SecOff (r:Option Nat):List Value→List SecD→Prop
 |[],[]=>True
 |_::b::vs,s::l=>(0<s.body.length→∀a n c,b=.slice (some a) n c→r≠some a.block)∧SecOff r vs l
 |_,_=>False
theorem SecOff.snoc {r:Option Nat} {k b:Value} {s:SecD} (hb:0<s.body.length→∀a n c,b=.slice (some a) n c→r≠some a.block):∀{vs:List Value} {l:List SecD},SecOff r vs l→SecOff r (vs++[k,b]) (l++[s])
 |[],[],_=>⟨hb,trivial⟩
 |_::_::_,_::_,⟨h2,h3⟩=>⟨h2,SecOff.snoc hb h3⟩
 |[],_::_,h=>h.elim
 |[_],[],h=>h.elim
 |[_],_::_,h=>h.elim
 |_::_::_,[],h=>h.elim
theorem SecOff.none:∀{w:World} {B:Nat} {vs:List Value} {l:List SecD},SecCells w B vs l→SecOff Option.none vs l
 |_,_,[],[],_=>trivial
 |_,_,_::_::_,_::_,⟨_,_,h3⟩=>⟨fun _ _ _ _ _ h=>(by cases h),SecOff.none h3⟩
 |_,_,[],_::_,h=>h.elim
 |_,_,[_],[],h=>h.elim
 |_,_,[_],_::_,h=>h.elim
 |_,_,_::_::_,[],h=>h.elim
theorem SecCells.grown {w w':World} {B:Nat} {r:Option Nat} (hg:w.grownBy w' r) (hB:B≤w.heap.size):∀{vs:List Value} {l:List SecD},SecCells w B vs l→SecOff r vs l→SecCells w' B vs l
 |[],[],_,_=>trivial
 |_::_::_,_::_,⟨h1,h2,h3⟩,⟨o2,o3⟩=>by
  refine ⟨h1,?_,SecCells.grown hg hB h3 o3⟩
  obtain ⟨A,m,d,rfl,e2,e3,hr⟩:=h2
  refine ⟨A,m,d,rfl,e2,e3,fun h0=>?_⟩
  obtain ⟨a,rfl,hb,hc⟩:=hr h0
  exact ⟨a,rfl,hb,fun i u hu=>(World.cell?_of_block (hg.block _ (by rw[block_add];omega) (fun e=>o2 h0 a m d rfl (by rw[block_add] at e;exact e.symm)))).trans (hc i u hu)⟩
 |[],_::_,h,_=>h.elim
 |[_],[],h,_=>h.elim
 |[_],_::_,h,_=>h.elim
 |_::_::_,[],h,_=>h.elim
def Secs (w:World) (B:Nat) (L:Option Addr) (l:List SecD):Prop:=∃vs,Cs w B L vs∧SecCells w B vs l
section
variable {w w':World} {B B':Nat} {L:Option Addr} {l:List SecD}
theorem Secs.empty:Secs w B L []:=⟨[],Cs.empty,trivial⟩
theorem Secs.below (h:Secs w B L l) (hb:Below B w w'):Secs w' B L l:=h.elim fun vs ⟨h1,h2⟩=>⟨vs,h1.below hb,h2.below hb⟩
theorem Secs.more (h:Secs w B L l) (hB:B≤B'):Secs w B' L l:=h.elim fun vs ⟨h1,h2⟩=>⟨vs,h1.more hB,h2.more hB⟩
theorem Secs.of_own {base:Nat} {e:TypeId} {n c:Nat} {vs:List Value} (h:w.ownsRow base e 2 (.slice L n c) n vs) (hs:SecCells w w.heap.size vs l):Secs w w.heap.size L l:=⟨vs,Cs.of_own h,hs⟩
theorem Secs.at {k:Nat} (h:Secs w B L l) (hk:k<l.length) :
 ∃a s A n c,L=some a∧l[k]?=some s∧a.block<B∧w.cell? (a.add (k*2))=some (.int .u8 (s.kind.toNat:Int))∧w.cell? ⟨(a.add (k*2)).block,(a.add (k*2)).off+1,none⟩=some (.slice A n c) ∧
  s.body.length=n∧n≤9223372036854775807∧Rd w B A s.body:=by
 obtain ⟨vs,h1,h2⟩:=h
 obtain ⟨a,rfl,hb,hc⟩:=h1 (by rw[h2.length];omega)
 have hs:l[k]?=some l[k]:=List.getElem?_eq_getElem hk
 obtain ⟨g0,b,g1,A,n,c,rfl,q1,q2,q4⟩:=h2.get hs
 have k1:=hc _ _ g1
 rw[add_field a (k*2) 0] at k1
 exact ⟨a,l[k],A,n,c,rfl,hs,hb,hc _ _ g0,k1,q1,q2,q4⟩
end
open Go.ChangeShapes Go.WideShapes
end Go.Proofs.YtcdkopbjlakebaaGreatDoor
namespace Go.Proofs.YtcdkopbjlakebaaGreatDoor
open Go.RowKit Cr Me
set_option maxRecDepth 100000 in
set_option maxHeartbeats 1000000 in
theorem grow_any (n:Nat) (w:World) (hn:n≤70368744177664) :
 Calls Tryz.prog 83 #[.slice none 0 0,.int .i64 (n:Int)] w fun e w'=>∃v,e=.returned v∧w'.ownsRow w.heap.size 5 1 v 0 []∧Below w.heap.size w w':=by
 obtain ⟨i0,hi0,hz0,hz1,hz2⟩:=info_parts u8_info
 by_cases h0:n=0
 ·subst h0
  go_enter Tryz.func83,Tryz.ntmps83
  go_wp2
  go_ret
  exact ⟨_,rfl,World.ownsRow_nil _ _ _ _,Below.refl _ _⟩
 ·have hpos:0<n:=by omega
  have hold:(Builtin.firstCells i0.size 0 (.slice none 0 0)).run Tryz.prog w.drew=.ok ([]:List Value).toArray w.drew:=run_firstCells_none w.drew i0.size 0 0 0
  have hrz:∀ty,(Builtin.append_ #[24,3] ty #[.slice none 0 0,.int .i64 (n:Int)]).run Tryz.prog w=_:=fun ty=>
   Lib.run_append_grow_zeros w 24 3 ty 5 i0 (.int .u8 0) .i64 .i64 Tryz.underlying24 Tryz.underlying3 hi0 hz0 none 0 0 [] hold n hpos (by omega) (by omega) (by omega) (by rw[hz2];omega)
    (by rw[hz2,Nat.zero_add];exact growslice_fits hpos (by omega))
  rw[Nat.zero_add] at hrz
  obtain ⟨G,hG⟩:∃G,G=grownCap w n 0 5:=⟨_,rfl⟩
  have hGn:n≤G:=by rw[hG];exact grownCap_ge w _ _ _
  have hG63:G≤9223372036854775807:=by
   have:=grownCap_le_maxLen w n 0 5 (by unfold maxLen;omega)
   rw[←hG] at this
   unfold maxLen at this
   omega
  rw[←hG] at hrz
  have HG:=Lib.hid hG
  clear hG hold
  obtain ⟨C,hC⟩:∃C:Array Value,C=(([]:List Value).toArray++Builtin.zeroCells (Value.int .u8 0).cells n++Builtin.zeroCells (Value.int .u8 0).cells (G-n)):=⟨_,rfl⟩
  have hCs:C.size=G*1:=by
   rw[hC]
   simp[Builtin.zeroCells,Value.cells]
   omega
  rw[←hC] at hrz
  clear hC
  have HO:=Lib.hid (show (w.drew.alloc (.cells C 5)).ownsRow w.heap.size 5 1 (.slice (some ⟨w.heap.size,0,none⟩) 0 G) 0 [] from World.ownsRow_made w.drew C G (Nat.le_refl _) (by unfold maxLen;omega) hCs)
  have HB:=Lib.hid (show Below w.heap.size w (w.drew.alloc (.cells C 5)) from ((Below.refl _ _).drew).alloc (Nat.le_refl _) _)
  clear hCs hz0 hz1 hz2 hi0
  go_enter Tryz.func83,Tryz.ntmps83
  go_wp2_with (at_builtin;refine Lib.wpList_append_run _ rfl _ _ _ _ rfl _ _ rfl rfl _ _ (hrz _) ?_)
  go_ret
  exact ⟨_,rfl,HO.out,HB.out⟩
theorem flatten_take_le (ls:List (List UInt8)) (k:Nat):(ls.take k).flatten.length≤ls.flatten.length:=by
 conv=>rhs;rw[←List.take_append_drop k ls,List.flatten_append,List.length_append]
 omega
set_option maxRecDepth 100000 in
set_option maxHeartbeats 1000000 in
theorem concat_any (L:Option Addr) (n c:Nat) (ls:List (List UInt8)) (w:World) (hl:ls.length=n) (hn:n≤70368744177664) (hf:ls.flatten.length≤70368744177664) (hp:Parts w w.heap.size L ls) :
 Calls Tryz.prog 52 #[.slice L n c] w (News w ls.flatten):=by
 obtain ⟨i0,hi0,hz0,hz1,hz2⟩:=info_parts u8_info
 have HL:=Lib.hid hl
 have HP:=Lib.hid hp
 have HF:=Lib.hid hf
 clear hl hp hf
 go_enter Tryz.func52,Tryz.ntmps52
 go_wp2
 go_loop [3,11] (fun x i=>∃k:Nat,k≤n∧i=.int .i64 k∧∃s:Nat,s≤70368744177664∧Hid (s=(ls.take k).flatten.length)∧x=.int .i64 (s:Int)) (fun _ i=>n-(intOf i).toNat)
 case atStart=>exact ⟨0,Nat.zero_le _,rfl,0,by omega,Lib.hid rfl,rfl⟩
 case round=>
  obtain ⟨k,hk,rfl,s,hs,HS,rfl⟩:=hrel
  by_cases hlt:k<n
  ·have hlt':k<ls.length:=by rw[HL.out];exact hlt
   obtain ⟨a,l,A,m,c2,rfl,hlk,-,hc,hm,hm63,hrd⟩:=HP.out.at hlt'
   obtain ⟨t,ht⟩:∃t,t=s+m:=⟨_,rfl⟩
   have htk:t=(ls.take (k+1)).flatten.length:=by rw[flatten_snoc hlk,List.length_append,←HS.out,hm,ht]
   have ht1:t≤70368744177664:=by rw[htk];exact Nat.le_trans (flatten_take_le _ _) HF.out
   have hst:(s:Int)+(m:Int)=(t:Int):=by omega
   have hneg:decide ((t:Int)<0)=false:=by simp
   have HT:=Lib.hid htk
   have hmt:m≤70368744177664:=by omega
   clear hlk hm hrd htk ht hlt'
   go_wp2
   go_round
   case rel=>exact ⟨k+1,by omega,by go_num,t,ht1,HT,by go_num⟩
   case measure=>simp[intOf];omega
  ·go_wp2_with fail
   refine (grow_any s w hs).mono ?_
   rintro e w1 ⟨v1,rfl,ho1,hb1⟩
   have HO1:=Lib.hid (show ∃m,m≤70368744177664∧w1.ownsRow w.heap.size 5 1 v1 m (cellsOf (ls.take 0).flatten)∧Below w.heap.size w w1 from ⟨0,by omega,by simpa [cellsOf] using ho1,hb1⟩)
   clear ho1 hb1
   go_wp2
   go_loopw [6,27] (fun v i wr=>∃k:Nat,k≤n∧i=.int .i64 k∧Hid (∃m,m≤70368744177664∧wr.ownsRow w.heap.size 5 1 v m (cellsOf (ls.take k).flatten)∧Below w.heap.size w wr)) (fun _ i _=>n-(intOf i).toNat)
   case atStart=>exact ⟨0,Nat.zero_le _,rfl,HO1⟩
   case round=>
    clear HO1
    obtain ⟨j,hj,rfl,HJ⟩:=hrel
    obtain ⟨q,hq,hown,hbw⟩:=HJ.out
    have HW:=Lib.hid hown
    have HB:=Lib.hid hbw
    have hsz:=hbw.size
    have hqn:=hown.1
    rw[cellsOf_length] at hqn
    have HQ:=Lib.hid hqn
    clear hown hbw HJ hqn
    by_cases hjlt:j<n
    ·have hlt':j<ls.length:=by rw[HL.out];exact hjlt
     obtain ⟨a,l,A,m,c2,rfl,hlk,-,hc,hm,hm63,hrd⟩:=(HP.out.below HB.out).at hlt'
     have hqm:q+m≤70368744177664:=by
      have h1:(ls.take (j+1)).flatten.length=q+m:=by rw[flatten_snoc hlk,List.length_append,HQ.out,hm,Nat.mul_one]
      have h2:=flatten_take_le ls (j+1)
      have h3:=HF.out
      omega
     have HM:=Lib.hid hm
     have HD:=Lib.hid hrd
     have HK:=Lib.hid hlk
     clear hlk hm hrd hlt'
     go_wp2_with (at_builtin
                  refine wpList_app rfl (.tmp 31) (.tmp 32) 24 rfl w.heap.size 5 i0 _ Tryz.underlying24 hi0 hz0 hz1 hz2 rfl u6 q _ rfl HW.out w.heap.size A m c2 l rfl HM.out HD.out (by omega) hsz ?_
                  intro v5 w5 hown5 hg5 hat5
                  have HREL:=Lib.hid (show ∃m,m≤70368744177664∧w5.ownsRow w.heap.size 5 1 v5 m (cellsOf (ls.take (j+1)).flatten)∧Below w.heap.size w w5 from
                   ⟨q+m,hqm,by rw[flatten_snoc HK.out];exact hown5,below_app HB.out HW.out (Nat.le_refl _) hsz hg5⟩)
                  clear hown5 hg5 hat5)
     go_roundw
     case rel=>exact ⟨j+1,by omega,by go_num,HREL⟩
     case measure=>simp[intOf];omega
    ·have hw:wr.ownsRow w.heap.size 5 1 u6 q (cellsOf ls.flatten):=by
      have:=HW.out
      rw[List.take_of_length_le (by rw[HL.out];omega)] at this
      exact this
     have HWE:=Lib.hid hw
     clear hw
     go_wp2
     go_ret
     exact ⟨u6,q,rfl,HWE.out,HB.out⟩
theorem parts_of3 {w:World} {B:Nat} {A A' A'':Option Addr} {m c m' c' m'' c'':Nat} {l l' l'':List UInt8} (t:TypeId) (hl:l.length=m) (hm:m≤9223372036854775807) (hl':l'.length=m') (hm':m'≤9223372036854775807) (hl'':l''.length=m'') (hm'':m''≤9223372036854775807) (hB:B≤w.heap.size) (hr:Rd w B A l) (hr':Rd w B A' l') (hr'':Rd w B A'' l'') {H:Nat} (hH:w.heap.size=H) :
 Parts (w.alloc (.cells #[.slice A m c,.slice A' m' c',.slice A'' m'' c''] t)) (w.alloc (.cells #[.slice A m c,.slice A' m' c',.slice A'' m'' c''] t)).heap.size (some ⟨H,0,none⟩) [l,l',l'']:=fun _=>by
 subst hH
 have hh:=heap_alloc_new w (.cells #[.slice A m c,.slice A' m' c',.slice A'' m'' c''] t)
 have e:∀i,(⟨w.heap.size,0,none⟩:Addr).add i=⟨w.heap.size,i,none⟩:=fun i=>by unfold Addr.add;split<;>simp_all
 refine ⟨_,rfl,by simp,fun i x hx=>?_⟩
 have hi:i<3:=by
  have:=(List.getElem?_eq_some_iff.1 hx).1
  simpa using this
 have h3:i=0∨i=1∨i=2:=by omega
 rw[e]
 rcases h3 with rfl|rfl|rfl
 ·have hll:l=x:=by simpa using hx
  subst hll
  exact ⟨A,m,c,by simp only[World.cell?,hh];rfl,hl,hm,(hr.alloc hB _).more (by simp;omega)⟩
 ·have hll:l'=x:=by simpa using hx
  subst hll
  exact ⟨A',m',c',by simp only[World.cell?,hh];rfl,hl',hm',(hr'.alloc hB _).more (by simp;omega)⟩
 ·have hll:l''=x:=by simpa using hx
  subst hll
  exact ⟨A'',m'',c'',by simp only[World.cell?,hh];rfl,hl'',hm'',(hr''.alloc hB _).more (by simp;omega)⟩
end Go.Proofs.YtcdkopbjlakebaaGreatDoor
namespace Go.Proofs.YtcdkopbjlakebaaGreatDoor
open Go.RowKit Cr Me Fr
theorem lit_head (k:UInt8) (n:Nat) (hn:n≤1048576):(#[.int .u8 (k.toNat:Int),.int .u8 ((n:Int)%256),.int .u8 ((n:Int) / 256%256),.int .u8 ((n:Int) / 65536),.int .u8 ((n:Int) / 16777216)]:Array Value).toList=cellsOf (head k n):=by
 have e:(BitVec.ofNat 32 n).toNat=n:=by rw[BitVec.toNat_ofNat];omega
 have h:=lit_four (BitVec.ofNat 32 n)
 rw[e,show (n:Int) / 65536%256=(n:Int) / 65536 by omega] at h
 show _=Value.int .u8 (k.toNat:Int)::cellsOf (four (BitVec.ofNat 32 n))
 rw[←h]
set_option maxRecDepth 100000 in
set_option maxHeartbeats 400000 in
theorem headOf_any (k:UInt8) (A:Option Addr) (n c:Nat) (w:World) (hn:n≤1048576) :
 Calls Tryz.prog 108 #[.agg #[.int .u8 (k.toNat:Int),.slice A n c]] w (News w (head k n)):=by
 have hk:=k.toNat_lt
 go_enter Tryz.func108,Tryz.ntmps108
 go_wp2
 go_ret
 have hw:(w.alloc (.cells #[.int .u8 (k.toNat:Int),.slice A n c] 144)).heap.size=w.heap.size+1:=by simp
 have ho:=World.ownsRow_lit (base:=w.heap.size) (e:=5) (size:=1) (w.alloc (.cells #[.int .u8 (k.toNat:Int),.slice A n c] 144)) #[.int .u8 (k.toNat:Int),.int .u8 ((n:Int)%256),.int .u8 ((n:Int) / 256%256),.int .u8 ((n:Int) / 65536),.int .u8 ((n:Int) / 16777216)] 5 (by simp) (by unfold maxLen;omega) rfl
 rw[lit_head k n hn,hw] at ho
 exact ⟨_,5,rfl,ho,((Below.refl _ _).alloc (Nat.le_refl _) _).alloc (by simp) _⟩
end Go.Proofs.YtcdkopbjlakebaaGreatDoor
namespace Go.Proofs.YtcdkopbjlakebaaGreatDoor
open Go.RowKit Cr Me Fr
def fputG (B H:Nat) (A M:Option Addr) (n c m d:Nat) (b:List UInt8) (s:SecD):Gw.Fact:=fun t v w=>
 match t with
 |0|12=>v=.slice A n c
 |3=>v=.pointer (some ⟨H,0,none⟩)
 |13=>v=.agg #[.int .u8 (s.kind.toNat:Int),.slice M m d]
 |14=>∃X cx,v=.slice X 5 cx∧Rd w w.heap.size X (head s.kind m)
 |15=>∃X cx,v=.slice X 9 cx∧Rd w w.heap.size X (Cr.mark (head s.kind m))
 |16=>v=.pointer (some ⟨H,1,none⟩)
 |17=>v=.slice M m d
 |18=>∃X cx,v=.slice X (m+4) cx∧Rd w w.heap.size X (Cr.mark s.body)
 |19=>∃X,v=.slice X 3 3∧Parts w w.heap.size X [b,Cr.mark (head s.kind m),Cr.mark s.body]
 |4|20=>∃k,w.ownsRow B 5 1 v k (cellsOf (b++encS s))
 |5=>v=.int .i64 0
 |_=>True
set_option maxRecDepth 100000 in
set_option maxHeartbeats 1000000 in
theorem fput_good (A:Option Addr) (n c:Nat) (b:List UInt8) (M:Option Addr) (m d:Nat) (s:SecD) (w:World) (hb:b.length=n) (hn:n≤35184372088832) (hr:Rd w w.heap.size A b)
 (hs:s.body.length=m) (hm:m≤1048576) (hrs:Rd w w.heap.size M s.body) :
 Calls Tryz.prog 69 #[.slice A n c,.agg #[.int .u8 (s.kind.toNat:Int),.slice M m d]] w (PutPost w (b++encS s) 0):=by
 have hk:=s.kind.toNat_lt
 have d1:decide ((1048576:Int)<(m:Int))=false:=by simp;omega
 have HB:=Lib.hid hb
 have HR:=Lib.hid hr
 have HS:=Lib.hid hs
 have HRS:=Lib.hid hrs
 clear hb hr hs hrs
 go_enter Tryz.func69,Tryz.ntmps69
 go_wp2_with fail
 have T:=Lib.hid (Two.new w (.int .u8 (s.kind.toNat:Int)) (.slice M m d) 144)
 have HB0:=Lib.hid (show Below w.heap.size w (w.alloc (.cells #[.int .u8 (s.kind.toNat:Int),.slice M m d] 144)) from (Below.refl _ _).alloc (Nat.le_refl _) _)
 generalize hw1:w.alloc (.cells #[.int .u8 (s.kind.toNat:Int),.slice M m d] 144)=w1 at *
 refine Gw.wp_region_grow (fputG w.heap.size w.heap.size A M n c m d b s) [12,13,14,15,16,17,18,19,20,4,5] [([0],none),([3],none),([13],none),([14],none),([3],none),([16],none),([17],none),([12,15,18],none),([19],none),([20],none),([],none)] 21 (by kernel_rfl) (by kernel_rfl) rfl ?h0 ?hreq ?hend
 case h0=>
  intro t W hnd _
  unfold fputG
  split<;>first|rfl|trivial|exact absurd (by simp) hnd
 case hreq=>
  refine ⟨?_,?_,?_,?_,?_,?_,?_,?_,?_,?_,?_,trivial⟩
  all_goals
   intro a W hg hk
   have hg':Below w1.heap.size w1 W:=hg
   obtain ⟨k1,k2,-,-⟩:=T.out.past hg'
   simp only[Gw.Knows,fputG] at hk
   try (simp[go_sem,Gw.OpReq,Gw.Ok,Gw.Post,Gw.Holds,fputG,Gw.Grows.refl,hk,k1,k2];done)
  ·simp[go_sem,Gw.OpReq,Gw.Ok,Gw.Post,Gw.Holds,fputG,Gw.Grows.refl,hk]
   refine (headOf_any s.kind M m d W hm).mono ?_
   intro e w5 h5
   obtain ⟨X,n5,c5,rfl,hl,-,-,hr5,hb5⟩:=h5.open
   have e5:n5=5:=hl.symm.trans (head_length _ _)
   subst e5
   exact ⟨_,rfl,hb5,fun W2 hW2=>⟨X,⟨c5,rfl⟩,(hr5.below hW2).more (Below.size hW2)⟩⟩
  ·obtain ⟨⟨X,cx,he,hr5⟩,-⟩:=hk
   simp[go_sem,Gw.OpReq,Gw.Ok,Gw.Post,Gw.Holds,fputG,Gw.Grows.refl,he]
   refine (mark_news X 5 cx _ W (head_length _ _) (by omega) hr5).mono ?_
   intro e w5 h5
   obtain ⟨X,n5,c5,rfl,hl,-,-,hr5,hb5⟩:=h5.open
   have e5:n5=9:=hl.symm.trans (mark_length _)
   subst e5
   exact ⟨_,rfl,hb5,fun W2 hW2=>⟨X,⟨c5,rfl⟩,(hr5.below hW2).more (Below.size hW2)⟩⟩
  ·simp[go_sem,Gw.OpReq,Gw.Ok,Gw.Post,Gw.Holds,fputG,Gw.Grows.refl,hk]
   refine (mark_news M m d s.body W HS.out (by omega) ((HRS.out.below (HB0.out.trans (hg'.mono HB0.out.size))).more (Nat.le_trans HB0.out.size hg'.size))).mono ?_
   intro e w5 h5
   obtain ⟨X,n5,c5,rfl,hl,-,-,hr5,hb5⟩:=h5.open
   have e5:n5=m+4:=by rw[←hl,mark_length,HS.out]
   subst e5
   exact ⟨_,rfl,hb5,fun W2 hW2=>⟨X,⟨c5,rfl⟩,(hr5.below hW2).more (Below.size hW2)⟩⟩
  ·obtain ⟨h12,⟨X,cx,he,hr5⟩,⟨X',cx',he',hr5'⟩,-⟩:=hk
   simp[go_sem,Gw.OpReq,Gw.Ok,Gw.Post,Gw.Holds,fputG,h12,he,he']
   have hsz:w.heap.size≤W.heap.size:=Nat.le_trans HB0.out.size hg'.size
   have hrA:=(HR.out.below (HB0.out.trans (hg'.mono HB0.out.size))).more hsz
   exact ⟨(Below.refl _ _).alloc (Nat.le_refl _) _,fun W2 hW2=>((parts_of3 24 HB.out (by omega) (show (Cr.mark (head s.kind m)).length=9 from mark_length _) (by omega) (show (Cr.mark s.body).length=m+4 from (mark_length _).trans (by rw[HS.out])) (by omega) (Nat.le_refl _) hrA hr5 hr5' rfl).below hW2).more (Below.size hW2)⟩
  ·obtain ⟨⟨X,he,hp5⟩,-⟩:=hk
   simp[go_sem,Gw.OpReq,Gw.Ok,Gw.Post,Gw.Holds,fputG,Gw.Grows.refl,he]
   have hfl:([b,Cr.mark (head s.kind m),Cr.mark s.body]:List (List UInt8)).flatten=b++encS s:=by
    unfold encS;rw[HS.out];simp
   refine (concat_any X 3 3 _ W rfl (by omega) (by rw[hfl,List.length_append,encS_length,HS.out,HB.out];omega) hp5).mono ?_
   rw[hfl]
   rintro e w5 ⟨v5,n5,rfl,ho5,hb5⟩
   have hsz:w.heap.size≤W.heap.size:=Nat.le_trans HB0.out.size hg'.size
   exact ⟨_,rfl,hb5,fun W2 hW2=>⟨n5,own_below (own_more ho5 hsz) hW2⟩⟩
  ·obtain ⟨⟨k,ho⟩,-⟩:=hk
   simp[go_sem,Gw.OpReq,Gw.Ok,Gw.Post,Gw.Holds,fputG,Gw.Grows.refl]
   exact fun W2 hW2=>⟨k,own_below ho hW2⟩
 case hend=>
  intro x w' hg hx
  obtain ⟨k,h4⟩:=(show ∃k,w'.ownsRow w.heap.size 5 1 (x 4) k (cellsOf (b++encS s)) from (hx 4 (by simp)).now)
  have h5:x 5=.int .i64 0:=(hx 5 (by simp)).now
  have HO:=Lib.hid h4
  have HE:=Lib.hid (HB0.out.trans (Below.mono (show Below w1.heap.size w1 w' from hg) HB0.out.size))
  clear h4
  simp only[Gw.putAll,Act.put,List.setIfInBounds_toArray,List.set_cons_zero,List.set_cons_succ]
  rw[h5]
  go_wp2
  exact bodyPost_ret (v:=.tuple #[x 4,.int .i64 0]) (by simp[results,Tryz.results69,go_sem]) rfl ⟨x 4,k,rfl,HO.out,HE.out⟩
set_option maxRecDepth 100000 in
set_option maxHeartbeats 400000 in
theorem fput_long (A:Option Addr) (n c:Nat) (b:List UInt8) (k:UInt8) (M:Option Addr) (m d:Nat) (w:World) (hb:b.length=n) (hn:n≤35184372088832) (hr:Rd w w.heap.size A b) (hm:1048576<m) :
 Calls Tryz.prog 69 #[.slice A n c,.agg #[.int .u8 (k.toNat:Int),.slice M m d]] w (PutPost w b 4):=by
 have hk:=k.toNat_lt
 have d1:decide ((1048576:Int)<(m:Int))=true:=by simp;omega
 have HB:=Lib.hid hb
 have HR:=Lib.hid hr
 clear hb hr
 go_enter Tryz.func69,Tryz.ntmps69
 go_wp2_with fail
 have HB0:=Lib.hid (show Below w.heap.size w (w.alloc (.cells #[.int .u8 (k.toNat:Int),.slice M m d] 144)) from (Below.refl _ _).alloc (Nat.le_refl _) _)
 refine (clone_any A n c b _ HB.out (by omega) ((HR.out.below HB0.out).more HB0.out.size)).mono ?_
 rintro e w2 ⟨v,q,rfl,ho,hb2⟩
 have HO:=Lib.hid (own_more ho HB0.out.size)
 have HB2:=Lib.hid (HB0.out.trans (hb2.mono HB0.out.size))
 clear ho hb2
 go_wp2
 exact bodyPost_ret (v:=.tuple #[v,.int .i64 4]) (by simp[results,Tryz.results69,go_sem]) rfl ⟨v,q,rfl,HO.out,HB2.out⟩
end Go.Proofs.YtcdkopbjlakebaaGreatDoor
namespace Go.Proofs.YtcdkopbjlakebaaGreatDoor
open Go.RowKit Cr Me Fr
def rfG1 (B H:Nat) (M:Option Addr) (m d:Nat) (s:SecD) (r:Reg):Gw.Fact:=fun t v w=>
 match t with
 |1|4=>v=.pointer (some ⟨H,0,none⟩)
 |5=>v=.int .u8 (s.kind.toNat:Int)
 |6=>w.ownsRow B 5 1 v 1 (cellsOf [s.kind])
 |7=>v=.pointer (some ⟨H,1,none⟩)
 |8=>v=.slice M m d
 |9=>v=.int .i64 (m:Int)
 |10=>v=.int .u32 (r.toNat:Int)
 |11=>∃X,v=.slice X 4 4∧Rd w w.heap.size X (four r)
 |_=>True
def rfG2 (B H:Nat) (X M:Option Addr) (cx m d:Nat) (s:SecD):Gw.Fact:=fun t v w=>
 match t with
 |1=>v=.pointer (some ⟨H,0,none⟩)
 |3|13=>v=.slice X 5 cx
 |14=>w.ownsRow B 5 1 v 9 (cellsOf (Cr.mark (head s.kind m)))
 |15=>v=.pointer (some ⟨H,1,none⟩)
 |16=>v=.slice M m d
 |17=>∃Y cy,v=.slice Y (m+4) cy∧Rd w w.heap.size Y (Cr.mark s.body)
 |_=>True
end Go.Proofs.YtcdkopbjlakebaaGreatDoor
namespace Go.Proofs.YtcdkopbjlakebaaGreatDoor
open Go.RowKit Cr Me Fr
theorem front_short (A:Option Addr) (n c k:Nat) (w:World) (hn:n<k+4) (hk:k≤1048576) :
 Calls Tryz.prog 114 #[.slice A n c,.int .i64 (k:Int)] w fun e w'=>e=.returned (.tuple #[.slice none 0 0,.int .i64 2])∧w=w':=by
 have h1:decide ((n:Int)<(k:Int)+4)=true:=by simp;omega
 go_enter Tryz.func114,Tryz.ntmps114
 go_wp2
 go_ret2
 exact ⟨rfl,rfl⟩
theorem front_full (A:Option Addr) (n c k:Nat) (b:List UInt8) (w:World) (hb:b.length=n) (hc:n≤c) (hn:k+4≤n) (hk:k≤1048576) (hr:Rd w w.heap.size A b) :
 Calls Tryz.prog 114 #[.slice A n c,.int .i64 (k:Int)] w fun e w'=>FTells w (fitL (b.take (k+4))) (fitC (b.take (k+4))) e w':=by
 have h1:decide ((n:Int)<(k:Int)+4)=false:=by simp;omega
 have HT:=Lib.hid (hr.take (k+4))
 have HL:=Lib.hid (show (b.take (k+4)).length=k+4 by rw[List.length_take,hb];omega)
 obtain ⟨a,rfl,-⟩:=hr (by omega)
 have HX:=Lib.hid (show ∃z,z=fitC (b.take (k+4)) from ⟨_,rfl⟩)
 clear hb hr
 have q1:(k:Int)+4≤(c:Int):=by omega
 go_enter Tryz.func114,Tryz.ntmps114
 go_wp2_with fail
 refine (fits_all (some a) (k+4) c (b.take (k+4)) w HL.out (by omega) (by omega) HT.out).mono ?_
 rintro e w' ⟨hb,X,m,d,rfl,hl,hm,hx,hnw⟩
 have HB:=Lib.hid hb
 have HLX:=Lib.hid hl
 have HRX:=Lib.hid hx
 have HNW:=Lib.hid hnw
 clear hb hl hx hnw
 go_wp2
 go_ret2
 exact ⟨HB.out,X,m,d,rfl,HLX.out,hm,HRX.out,HNW.out⟩
def bbG (a:Addr) (c:Nat) (p1 p2 p3 p4:Nat):Gw.Fact:=fun t v _=>
 match t with
 |0|3|7|13|19=>v=.slice (some a) 5 c
 |4=>v=.pointer (some (a.add 1))
 |8=>v=.pointer (some (a.add 2))
 |14=>v=.pointer (some (a.add 3))
 |20=>v=.pointer (some (a.add 4))
 |5=>v=.int .u8 (p1:Int)
 |6=>v=.int .u32 (p1:Int)
 |9=>v=.int .u8 (p2:Int)
 |10=>v=.int .u32 (p2:Int)
 |11=>v=.int .u32 ((256*p2:Nat):Int)
 |12=>v=.int .u32 ((p1+256*p2:Nat):Int)
 |15=>v=.int .u8 (p3:Int)
 |16=>v=.int .u32 (p3:Int)
 |17=>v=.int .u32 ((65536*p3:Nat):Int)
 |18=>v=.int .u32 ((p1+256*p2+65536*p3:Nat):Int)
 |21=>v=.int .u8 (p4:Int)
 |22=>v=.int .u32 (p4:Int)
 |23=>v=.int .u32 ((16777216*p4:Nat):Int)
 |2|24=>v=.int .u32 ((p1+256*p2+65536*p3+16777216*p4:Nat):Int)
 |_=>True
set_option maxRecDepth 100000 in
set_option maxHeartbeats 1000000 in
theorem bodyBytes_any (a:Addr) (c:Nat) (h:List UInt8) (w:World) (hl:h.length=5) (hr:Rd w w.heap.size (some a) h) :
 Calls Tryz.prog 115 #[.slice (some a) 5 c] w fun e w'=>e=.returned (.int .u32 (lenOf h:Int))∧Below w.heap.size w w':=by
 have cell:∀i,i<5→∃u:UInt8,h[i]?=some u∧w.cell? (a.add i)=some (.int .u8 (u.toNat:Int))∧a.block<w.heap.size:=by
  intro i hi
  obtain ⟨a',u,e,hb,hu,hcell⟩:=hr.at (k:=i) (by omega)
  cases e
  exact ⟨u,hu,hcell,hb⟩
 obtain ⟨u1,g1,c1,hab⟩:=cell 1 (by omega)
 obtain ⟨u2,g2,c2,-⟩:=cell 2 (by omega)
 obtain ⟨u3,g3,c3,-⟩:=cell 3 (by omega)
 obtain ⟨u4,g4,c4,-⟩:=cell 4 (by omega)
 have hlen:lenOf h=u1.toNat+256*u2.toNat+65536*u3.toNat+16777216*u4.toNat:=by
  unfold lenOf
  rw[List.getD_eq_getElem?_getD,List.getD_eq_getElem?_getD,List.getD_eq_getElem?_getD,List.getD_eq_getElem?_getD,g1,g2,g3,g4]
  rfl
 rw[hlen]
 have b1:u1.toNat<256:=u1.toNat_lt
 have b2:u2.toNat<256:=u2.toNat_lt
 have b3:u3.toNat<256:=u3.toNat_lt
 have b4:u4.toNat<256:=u4.toNat_lt
 clear hlen cell hl g1 g2 g3 g4
 generalize u1.toNat=p1 at *
 generalize u2.toNat=p2 at *
 generalize u3.toNat=p3 at *
 generalize u4.toNat=p4 at *
 have v1:IntKind.u32.wrap (p1:Int)=p1:=by rw[IntKind.wrap_u32];omega
 have v2:IntKind.u32.wrap (p2:Int)=p2:=by rw[IntKind.wrap_u32];omega
 have v3:IntKind.u32.wrap (p3:Int)=p3:=by rw[IntKind.wrap_u32];omega
 have v4:IntKind.u32.wrap (p4:Int)=p4:=by rw[IntKind.wrap_u32];omega
 have x2:IntKind.u32.wrap ((p2:Int)*256)=256*p2:=by rw[IntKind.wrap_u32];omega
 have x3:IntKind.u32.wrap ((p3:Int)*65536)=65536*p3:=by rw[IntKind.wrap_u32];omega
 have x4:IntKind.u32.wrap ((p4:Int)*16777216)=16777216*p4:=by rw[IntKind.wrap_u32];omega
 have o2:bits .or .u32 (p1:Int) (256*(p2:Int))=(p1:Int)+256*p2:=by
  have:=or_bytes 8 p1 p2 (by omega) (by omega) (by omega)
  simpa using this
 have o3:bits .or .u32 ((p1:Int)+256*(p2:Int)) (65536*(p3:Int))=(p1:Int)+256*p2+65536*p3:=by
  have:=or_bytes 16 (p1+256*p2) p3 (by omega) (by omega) (by omega)
  simpa using this
 have o4:bits .or .u32 ((p1:Int)+256*(p2:Int)+65536*(p3:Int)) (16777216*(p4:Int))=(p1:Int)+256*p2+65536*p3+16777216*p4:=by
  have:=or_bytes 24 (p1+256*p2+65536*p3) p4 (by omega) (by omega) (by omega)
  simpa using this
 clear hr
 go_enter Tryz.func115,Tryz.ntmps115
 go_wp2_with fail
 refine Gw.wp_region_grow (bbG a c p1 p2 p3 p4) [3,4,5,6,7,8,9,10,11,12,13,14,15,16,17,18,19,20,21,22,23,24,2] [([0],none),([3],none),([4],none),([5],none),([0],none),([7],none),([8],none),([9],none),([10],none),([6,11],none),([0],none),([13],none),([14],none),([15],none),([16],none),([12,17],none),([0],none),([19],none),([20],none),([21],none),([22],none),([18,23],none),([24],none)] 25 (by kernel_rfl) (by kernel_rfl) rfl ?h0 ?hreq ?hend
 case h0=>
  intro t W hnd _
  unfold bbG
  split<;>first|rfl|trivial|exact absurd (by simp) hnd
 case hreq=>
  refine ⟨?_,?_,?_,?_,?_,?_,?_,?_,?_,?_,?_,?_,?_,?_,?_,?_,?_,?_,?_,?_,?_,?_,?_,trivial⟩
  all_goals
   intro ac W hg hk
   have hg':Below w.heap.size w W:=hg
   have k1:W.cell? ⟨a.block,a.off+1,none⟩=_:=(hg'.cell (p:=a.add 1) (by rw[block_add];exact hab)).trans c1
   have k2:W.cell? ⟨a.block,a.off+2,none⟩=_:=(hg'.cell (p:=a.add 2) (by rw[block_add];exact hab)).trans c2
   have k3:W.cell? ⟨a.block,a.off+3,none⟩=_:=(hg'.cell (p:=a.add 3) (by rw[block_add];exact hab)).trans c3
   have k4:W.cell? ⟨a.block,a.off+4,none⟩=_:=(hg'.cell (p:=a.add 4) (by rw[block_add];exact hab)).trans c4
   simp only[Gw.Knows,bbG] at hk
   try (simp[go_sem,Gw.OpReq,Gw.Ok,Gw.Post,Gw.Holds,bbG,Gw.Grows.refl,hk,k1,k2,k3,k4,v1,v2,v3,v4,x2,x3,x4,o2,o3,o4];done)
 case hend=>
  intro x w' hg hx
  have h2:x 2=.int .u32 ((p1+256*p2+65536*p3+16777216*p4:Nat):Int):=(hx 2 (by simp)).now
  have HB:=Lib.hid (show Below w.heap.size w w' from hg)
  clear v1 v2 v3 v4 x2 x3 x4 o2 o3 o4
  simp only[Gw.putAll,Act.put,List.setIfInBounds_toArray,List.set_cons_zero,List.set_cons_succ]
  rw[h2]
  go_wp2
  go_ret
  exact ⟨rfl,HB.out⟩
end Go.Proofs.YtcdkopbjlakebaaGreatDoor
namespace Go.Proofs.YtcdkopbjlakebaaGreatDoor
open Go.RowKit Cr Me Fr
def SGetPost (w:World) (R:SecD×Nat×Int) (e:Ending) (w':World):Prop:=
 Below w.heap.size w w'∧∃A n c,e=.returned (.tuple #[.agg #[.int .u8 (R.1.kind.toNat:Int),.slice A n c],.int .i64 (R.2.1:Int),.int .i64 R.2.2])∧R.1.body.length=n∧n≤1048576∧Rd w' w'.heap.size A R.1.body∧(0<R.1.body.length→∃a,A=some a∧w.heap.size≤a.block)
theorem sget_none {w w':World} {R:SecD×Nat×Int} {x:Int} (h:R=(noSec,0,x)) (hb:Below w.heap.size w w') :
 SGetPost w R (.returned (.tuple #[.agg #[.int .u8 0,.slice none 0 0],.int .i64 0,.int .i64 x])) w':=by
 subst h
 exact ⟨hb,none,0,0,rfl,rfl,by omega,Rd.empty,fun h=>by simp[noSec] at h⟩
set_option maxRecDepth 100000 in
set_option maxHeartbeats 1000000 in
theorem fget_short (A:Option Addr) (n c:Nat) (b:List UInt8) (w:World) (hb:b.length=n) (hn:n<9) :
 Calls Tryz.prog 74 #[.slice A n c] w (SGetPost w (getS b)):=by
 have HG:=Lib.hid (getS_short (b:=b) (by omega))
 have HB:=Lib.hid (show Below w.heap.size w (w.alloc (.cells #[.int .u8 0,.slice none 0 0] 144)) from (Below.refl _ _).alloc (Nat.le_refl _) _)
 obtain ⟨r0,r1,-,-⟩:=Two.new w (.int .u8 0) (.slice none 0 0) 144
 clear hb
 go_enter Tryz.func74,Tryz.ntmps74
 go_wp2_with fail
 refine (front_short A n c 5 _ hn (by omega)).mono ?_
 rintro e w' ⟨rfl,rfl⟩
 go_wp2
 exact bodyPost_ret (v:=.tuple #[.agg #[.int .u8 0,.slice none 0 0],.int .i64 0,.int .i64 2]) (by simp[results,Tryz.results74,go_sem,r0,r1]) rfl (sget_none HG.out HB.out)
theorem fitB_nine {b:List UInt8} (hb:9≤b.length):fitC (b.take 9)=if fitB (b.take 9) then 0 else 5:=by
 unfold fitC
 rw[if_neg (by rw[List.length_take];omega)]
set_option maxRecDepth 100000 in
set_option maxHeartbeats 2000000 in
theorem fget_long (a:Addr) (n c:Nat) (b:List UInt8) (w:World) (hb:b.length=n) (hc:n≤c) (hc63:c≤9223372036854775807) (hn:9≤n) (hr:Rd w w.heap.size (some a) b) :
 Calls Tryz.prog 74 #[.slice (some a) n c] w (SGetPost w (getS b)):=by
 have T:=Lib.hid (Two.new w (.int .u8 0) (.slice none 0 0) 144)
 have HB1:=Lib.hid (show Below w.heap.size w (w.alloc (.cells #[.int .u8 0,.slice none 0 0] 144)) from (Below.refl _ _).alloc (Nat.le_refl _) _)
 have HB:=Lib.hid hb
 have HR:=Lib.hid hr
 have HF:=Lib.hid (fitB_nine (b:=b) (by omega))
 obtain ⟨z,hz⟩:∃z,z=fitC (b.take 9):=⟨_,rfl⟩
 obtain ⟨h,hh⟩:∃h,h=fitL (b.take 9):=⟨_,rfl⟩
 have HZ:=Lib.hid hz
 have HH:=Lib.hid hh
 clear hb hr hz hh
 go_enter Tryz.func74,Tryz.ntmps74
 go_wp2_with fail
 generalize w.alloc (.cells #[.int .u8 0,.slice none 0 0] 144)=w1 at *
 refine (front_full (some a) n c 5 b w1 HB.out hc (by omega) (by omega) ((HR.out.below HB1.out).more HB1.out.size)).mono ?_
 rw[←HZ.out,←HH.out]
 rintro e w2 ⟨hb2,X,m,d,rfl,hl2,-,hr2,-⟩
 have HB2:=Lib.hid (HB1.out.trans (hb2.mono HB1.out.size))
 have T2:=Lib.hid (T.out.past hb2)
 have HL2:=Lib.hid hl2
 have HR2:=Lib.hid hr2
 clear hb2 hl2 hr2
 cases hfit:fitB (b.take 9) with
 |false=>
  have hz5:z=5:=by rw[HZ.out,HF.out,hfit];rfl
  subst hz5
  have HG:=Lib.hid (getS_head (b:=b) (by rw[HB.out];omega) hfit)
  obtain ⟨r0,r1,r2,r3⟩:=T2.out
  have HX:=Lib.hid ((T2.out.set (.int .u8 0) (.slice none 0 0)))
  obtain ⟨s0,s1,-,-⟩:=HX.out
  have HE:=Lib.hid ((HB2.out.setCell (p:=⟨w.heap.size,0,none⟩) (Nat.le_refl _) (.int .u8 0)).setCell (p:=⟨w.heap.size,1,none⟩) (Nat.le_refl _) (.slice none 0 0))
  clear hfit
  go_wp2
  exact bodyPost_ret (v:=.tuple #[.agg #[.int .u8 0,.slice none 0 0],.int .i64 0,.int .i64 5]) (by simp[results,Tryz.results74,go_sem,s0,s1]) rfl (sget_none HG.out HE.out)
 |true=>
  have hz0:z=0:=by rw[HZ.out,HF.out,hfit];rfl
  subst hz0
  have hh5:h=b.take 5:=by
   rw[HH.out];unfold fitL
   rw[if_pos hfit,List.length_take,List.take_take,HB.out]
   congr 1;omega
  have hm5:m=5:=by rw[←HL2.out,hh5,List.length_take,HB.out];omega
  subst hm5
  obtain ⟨a',u0,hX,-,hu0,hcu0⟩:=HR2.out.at (k:=0) (by rw[HL2.out];omega)
  subst hX
  obtain ⟨N,hN⟩:∃N,N=lenOf h:=⟨_,rfl⟩
  have hN32:N<4294967296:=by rw[hN];exact lenOf_lt _
  have hN5:N=lenOf (b.take 5):=by rw[hN,hh5]
  have HN:=Lib.hid hN
  have HN5:=Lib.hid hN5
  have HU0:=Lib.hid (show b.getD 0 0=u0 by
   rw[hh5,List.getElem?_take,if_pos (by omega)] at hu0
   rw[List.getD_eq_getElem?_getD,hu0];rfl)
  have hu8:=u0.toNat_lt
  have HFIT:=Lib.hid hfit
  clear hN hN5 hu0 hfit hh5
  go_wp2_with fail
  refine (bodyBytes_any a' d h w2 HL2.out HR2.out).mono ?_
  rw[←HN.out]
  rintro e w3 ⟨rfl,hb3⟩
  have HB3:=Lib.hid (HB2.out.trans (hb3.mono HB2.out.size))
  have T3:=Lib.hid (T2.out.past hb3)
  have HC0:=Lib.hid ((hb3.cell (p:=a'.add 0) (block_lt_of_cell hcu0)).trans hcu0)
  have hs3:=HB3.out.size
  clear hb3 hcu0 T2
  obtain ⟨r0,r1,r2,r3⟩:=T3.out
  have HX:=Lib.hid ((T3.out.set (.int .u8 0) (.slice none 0 0)))
  have HE:=Lib.hid ((HB3.out.setCell (p:=⟨w.heap.size,0,none⟩) (Nat.le_refl _) (.int .u8 0)).setCell (p:=⟨w.heap.size,1,none⟩) (Nat.le_refl _) (.slice none 0 0))
  by_cases hlong:1048576<N
  ·have d2:decide ((1048576:Int)<(N:Int))=true:=by simp;omega
   have HG:=Lib.hid (getS_long (b:=b) (by rw[HB.out];omega) HFIT.out HN5.out hlong)
   obtain ⟨s0,s1,-,-⟩:=HX.out
   go_wp2
   exact bodyPost_ret (v:=.tuple #[.agg #[.int .u8 0,.slice none 0 0],.int .i64 0,.int .i64 4]) (by simp[results,Tryz.results74,go_sem,s0,s1]) rfl (sget_none HG.out HE.out)
  ·have d2:decide ((1048576:Int)<(N:Int))=false:=by simp;omega
   have q1:(9:Int)≤(n:Int):=by omega
   have q2:(n:Int)≤(c:Int):=by omega
   clear HX HE
   by_cases hcut:n<N+13
   ·have HG:=Lib.hid (getS_cut (b:=b) (by rw[HB.out];omega) HFIT.out HN5.out hlong (by rw[HB.out];exact hcut))
    by_cases hc9:c=9
    ·have hn9:n=9:=by omega
     subst hc9 hn9
     go_wp2_with fail
     refine (front_short (some a) 0 0 N w3 (by omega) (by omega)).mono ?_
     rintro e w' ⟨rfl,rfl⟩
     have HX:=Lib.hid ((T3.out.set (.int .u8 0) (.slice none 0 0)))
     have HE:=Lib.hid ((HB3.out.setCell (p:=⟨w.heap.size,0,none⟩) (Nat.le_refl _) (.int .u8 0)).setCell (p:=⟨w.heap.size,1,none⟩) (Nat.le_refl _) (.slice none 0 0))
     obtain ⟨s0,s1,-,-⟩:=HX.out
     go_wp2
     exact bodyPost_ret (v:=.tuple #[.agg #[.int .u8 0,.slice none 0 0],.int .i64 0,.int .i64 2]) (by simp[results,Tryz.results74,go_sem,s0,s1]) rfl (sget_none HG.out HE.out)
    ·go_wp2_with fail
     refine (front_short (some ⟨a.block,a.off+9,none⟩) (n-9) (c-9) N w3 (by omega) (by omega)).mono ?_
     rintro e w' ⟨rfl,rfl⟩
     have HX:=Lib.hid ((T3.out.set (.int .u8 0) (.slice none 0 0)))
     have HE:=Lib.hid ((HB3.out.setCell (p:=⟨w.heap.size,0,none⟩) (Nat.le_refl _) (.int .u8 0)).setCell (p:=⟨w.heap.size,1,none⟩) (Nat.le_refl _) (.slice none 0 0))
     obtain ⟨s0,s1,-,-⟩:=HX.out
     go_wp2
     exact bodyPost_ret (v:=.tuple #[.agg #[.int .u8 0,.slice none 0 0],.int .i64 0,.int .i64 2]) (by simp[results,Tryz.results74,go_sem,s0,s1]) rfl (sget_none HG.out HE.out)
   ·have hc9:¬c=9:=by omega
    have HD:=Lib.hid (show Rd w3 w3.heap.size (some ⟨a.block,a.off+9,none⟩) (b.drop 9) from by
     have:=((HR.out.below HB3.out).more hs3).drop (k:=9) (cap:=c) (by rw[HB.out];exact hc)
     rw[if_neg hc9] at this
     exact this)
    have HDL:=Lib.hid (show (b.drop 9).length=n-9 by rw[List.length_drop,HB.out])
    have HFB:=Lib.hid (show fitC ((b.drop 9).take (N+4))=if fitB ((b.drop 9).take (N+4)) then 0 else 5 by
     unfold fitC
     rw[if_neg (by rw[List.length_take,HDL.out];omega)])
    obtain ⟨y,hy⟩:∃y,y=fitC ((b.drop 9).take (N+4)):=⟨_,rfl⟩
    obtain ⟨bo,hbo⟩:∃bo,bo=fitL ((b.drop 9).take (N+4)):=⟨_,rfl⟩
    have HY:=Lib.hid hy
    have HBO:=Lib.hid hbo
    clear hy hbo
    go_wp2_with fail
    refine (front_full (some ⟨a.block,a.off+9,none⟩) (n-9) (c-9) N (b.drop 9) w3 HDL.out (by omega) (by omega) (by omega) HD.out).mono ?_
    rw[←HY.out,←HBO.out]
    rintro e w4 ⟨hb4,Y,m,dd,rfl,hl4,hm4,hr4,hnw4⟩
    have HB4:=Lib.hid (HB3.out.trans (hb4.mono hs3))
    have T4:=Lib.hid (T3.out.past hb4)
    have HC4:=Lib.hid ((hb4.cell (p:=a'.add 0) (block_lt_of_cell HC0.out)).trans HC0.out)
    have HL4:=Lib.hid hl4
    have HR4:=Lib.hid hr4
    have HNW4:=Lib.hid hnw4
    have hs4:=HB4.out.size
    clear hb4 hl4 hr4 hnw4 r0 r1 r2 r3
    obtain ⟨r0,r1,r2,r3⟩:=T4.out
    cases hfit2:fitB ((b.drop 9).take (N+4)) with
    |false=>
     have hy5:y=5:=by rw[HY.out,HFB.out,hfit2];rfl
     subst hy5
     have HG:=Lib.hid (getS_bad (b:=b) (by rw[HB.out];omega) HFIT.out HN5.out hlong (by rw[HB.out];exact hcut) hfit2)
     have HX:=Lib.hid ((T4.out.set (.int .u8 0) (.slice none 0 0)))
     have HE:=Lib.hid ((HB4.out.setCell (p:=⟨w.heap.size,0,none⟩) (Nat.le_refl _) (.int .u8 0)).setCell (p:=⟨w.heap.size,1,none⟩) (Nat.le_refl _) (.slice none 0 0))
     obtain ⟨s0,s1,-,-⟩:=HX.out
     clear hfit2
     go_wp2
     exact bodyPost_ret (v:=.tuple #[.agg #[.int .u8 0,.slice none 0 0],.int .i64 0,.int .i64 5]) (by simp[results,Tryz.results74,go_sem,s0,s1]) rfl (sget_none HG.out HE.out)
    |true=>
     have hy0:y=0:=by rw[HY.out,HFB.out,hfit2];rfl
     subst hy0
     have hbo2:bo=(b.drop 9).take N:=by
      rw[HBO.out];unfold fitL
      rw[if_pos hfit2,List.length_take,HDL.out,List.take_take]
      congr 1;omega
     have hmN:m=N:=by rw[←HL4.out,hbo2,List.length_take,HDL.out];omega
     subst hmN
     have HG:=Lib.hid (show getS b=(⟨u0,bo⟩,m+13,0) by
      rw[getS_good (b:=b) (by rw[HB.out];omega) HFIT.out HN5.out hlong (by rw[HB.out];exact hcut) hfit2,HU0.out,hbo2])
     have c0:w4.cell? ⟨a'.block,a'.off,a'.spot⟩=some (.int .u8 (u0.toNat:Int)):=HC4.out
     have HX:=Lib.hid ((T4.out.set (.int .u8 (u0.toNat:Int)) (.slice Y m dd)))
     have HE:=Lib.hid ((HB4.out.setCell (p:=⟨w.heap.size,0,none⟩) (Nat.le_refl _) (.int .u8 (u0.toNat:Int))).setCell (p:=⟨w.heap.size,1,none⟩) (Nat.le_refl _) (.slice Y m dd))
     obtain ⟨s0,s1,-,-⟩:=HX.out
     clear hfit2 hbo2
     go_wp2
     exact bodyPost_ret (v:=.tuple #[.agg #[.int .u8 (u0.toNat:Int),.slice Y m dd],.int .i64 (9+(m:Int)+4),.int .i64 0]) (by simp[results,Tryz.results74,go_sem,s0,s1]) rfl (by
      rw[HG.out]
      exact ⟨HE.out,Y,m,dd,(by rw[show (9:Int)+(m:Int)+4=((m+13:Nat):Int) by omega]),HL4.out,by omega,rd_store HR4.out HNW4.out T3.out.here _ _,fun h=>by
       obtain ⟨g,e,hg⟩:=HNW4.out h
       exact ⟨g,e,by have:=T3.out.here;omega⟩⟩)
theorem fget_any (A:Option Addr) (n c:Nat) (b:List UInt8) (w:World) (hb:b.length=n) (hc:n≤c) (hc63:c≤9223372036854775807) (hr:Rd w w.heap.size A b) :
 Calls Tryz.prog 74 #[.slice A n c] w (SGetPost w (getS b)):=by
 by_cases h:n<9
 ·exact fget_short A n c b w hb h
 ·obtain ⟨a,rfl,-⟩:=hr (by omega)
  exact fget_long a n c b w hb hc hc63 (by omega) hr
end Go.Proofs.YtcdkopbjlakebaaGreatDoor
namespace Go.Proofs.YtcdkopbjlakebaaGreatDoor
open Go.RowKit Cr Me Fr
def rlG (a:Addr) (c:Nat) (p1 p2 p3 p4:Nat):Gw.Fact:=fun t v _=>
 match t with
 |6|26|30|36|42=>v=.slice (some a) 5 c
 |27=>v=.pointer (some (a.add 1))
 |31=>v=.pointer (some (a.add 2))
 |37=>v=.pointer (some (a.add 3))
 |43=>v=.pointer (some (a.add 4))
 |28=>v=.int .u8 (p1:Int)
 |29=>v=.int .i64 (p1:Int)
 |32=>v=.int .u8 (p2:Int)
 |33=>v=.int .i64 (p2:Int)
 |34=>v=.int .i64 ((256*p2:Nat):Int)
 |35=>v=.int .i64 ((p1+256*p2:Nat):Int)
 |38=>v=.int .u8 (p3:Int)
 |39=>v=.int .i64 (p3:Int)
 |40=>v=.int .i64 ((65536*p3:Nat):Int)
 |41=>v=.int .i64 ((p1+256*p2+65536*p3:Nat):Int)
 |44=>v=.int .u8 (p4:Int)
 |45=>v=.int .i64 (p4:Int)
 |46=>v=.int .i64 ((16777216*p4:Nat):Int)
 |8|47=>v=.int .i64 ((p1+256*p2+65536*p3+16777216*p4:Nat):Int)
 |_=>True
def SGetC (w:World) (R:SecD×Nat×Int) (e:Ending) (w':World):Prop:=
 Below w.heap.size w w'∧∃A n c,e=.returned (.tuple #[.agg #[.int .u8 (R.1.kind.toNat:Int),.slice A n c],.int .i64 (R.2.1:Int),.int .i64 R.2.2])∧R.1.body.length=n∧n≤1048576∧Rd w' w'.heap.size A R.1.body∧(0<R.1.body.length→∃a,A=some a∧w.heap.size≤a.block)∧n≤c
end Go.Proofs.YtcdkopbjlakebaaGreatDoor
end
section
namespace Go.Proofs.YtcdkopbjlakebaaGreatDoor
open Go.RowKit Cr Me Fr
def FTellsB (w:World) (l:List UInt8) (code:Int) (e:Ending) (w':World):Prop:=
 Below w.heap.size w w'∧∃X n c,e=.returned (.tuple #[.slice X n c,.int .i64 code])∧l.length=n∧n≤140737488355328∧Rd w' w'.heap.size X l∧(0<l.length→∃a,X=some a∧w.heap.size≤a.block)∧n≤c∧c≤9223372036854775807∧∀a,X=some a→w.heap.size≤a.block
theorem fits_allB (A:Option Addr) (n c:Nat) (l:List UInt8) (w:World) (hl:l.length=n) (hc:n≤c) (hn:n≤70368744177664) (hr:Rd w w.heap.size A l) :
 Calls Tryz.prog 150 #[.slice A n c] w fun e w'=>FTellsB w (fitL l) (fitC l) e w':=by
 by_cases h4:n<4
 ·refine (fits_short A n c w h4).mono fun e w' ⟨he,hw⟩=>?_
  subst hw
  have hb:fitB l=false:=by unfold fitB;simp;omega
  exact ⟨Below.refl _ _,none,0,0,by rw[he];unfold fitC;rw[if_pos (by omega)],by unfold fitL;rw[hb];rfl,by omega,by unfold fitL;rw[hb];exact Rd.empty,by unfold fitL;rw[hb];exact fun h=>by simp at h,Nat.zero_le _,by omega,fun a h=>by cases h⟩
 ·obtain ⟨k,rfl⟩:∃k,n=k+4:=⟨n-4,by omega⟩
  obtain ⟨a,rfl,-⟩:=hr (by omega)
  have hf:=fitB_of hl
  refine (fits_long a k c l w hl hc (by omega) hr _ rfl).mono fun e w' ⟨hb,h⟩=>?_
  rw[←hf] at h
  cases hfb:fitB l with
  |false=>
   rw[hfb] at h
   have he:e=.returned (.tuple #[.slice none 0 0,.int .i64 5]):=h
   exact ⟨hb,none,0,0,by rw[he];unfold fitC;rw[if_neg (by omega),hfb];rfl,by unfold fitL;rw[hfb];rfl,by omega,by unfold fitL;rw[hfb];exact Rd.empty,by unfold fitL;rw[hfb];exact fun h=>by simp at h,Nat.zero_le _,by omega,fun a h=>by cases h⟩
  |true=>
   rw[hfb] at h
   obtain ⟨v,he,ho⟩:∃v,e=.returned (.tuple #[v,.int .i64 0])∧w'.ownsRow w.heap.size 5 1 v k (cellsOf (l.take k)):=h
   obtain ⟨X,cx,rfl⟩:=own_slice ho
   have e1:fitL l=l.take k:=by unfold fitL;rw[hfb,if_pos rfl,hl];simp
   exact ⟨hb,X,k,cx,by rw[he];unfold fitC;rw[if_neg (by omega),hfb];rfl,by rw[e1,List.length_take];omega,by omega,by rw[e1];exact Rd.of_own ho,fun h=>by
    have h0:0<k:=by rw[e1,List.length_take] at h;omega
    obtain ⟨g,cap,hv,hg,-⟩:=ho.form h0
    injection hv with hv
    exact ⟨_,hv,hg⟩,(own_bounds ho).1,(own_bounds ho).2,fun a h=>by subst h;exact (World.ownsRow.lt ho a.block rfl).1⟩
theorem front_fullB (A:Option Addr) (n c k:Nat) (b:List UInt8) (w:World) (hb:b.length=n) (hc:n≤c) (hn:k+4≤n) (hk:k≤1048576) (hr:Rd w w.heap.size A b) :
 Calls Tryz.prog 114 #[.slice A n c,.int .i64 (k:Int)] w fun e w'=>FTellsB w (fitL (b.take (k+4))) (fitC (b.take (k+4))) e w':=by
 have h1:decide ((n:Int)<(k:Int)+4)=false:=by simp;omega
 have HT:=Lib.hid (hr.take (k+4))
 have HL:=Lib.hid (show (b.take (k+4)).length=k+4 by rw[List.length_take,hb];omega)
 obtain ⟨a,rfl,-⟩:=hr (by omega)
 have HX:=Lib.hid (show ∃z,z=fitC (b.take (k+4)) from ⟨_,rfl⟩)
 clear hb hr
 have q1:(k:Int)+4≤(c:Int):=by omega
 go_enter Tryz.func114,Tryz.ntmps114
 go_wp2_with fail
 refine (fits_allB (some a) (k+4) c (b.take (k+4)) w HL.out (by omega) (by omega) HT.out).mono ?_
 rintro e w' ⟨hb,X,m,d,rfl,hl,hm,hx,hnw,hcd⟩
 have HB:=Lib.hid hb
 have HLX:=Lib.hid hl
 have HRX:=Lib.hid hx
 have HNW:=Lib.hid hnw
 have HCD:=Lib.hid hcd
 clear hb hl hx hnw hcd
 go_wp2
 go_ret2
 exact ⟨HB.out,X,m,d,rfl,HLX.out,hm,HRX.out,HNW.out,HCD.out⟩
def SGetB (w:World) (R:SecD×Nat×Int) (e:Ending) (w':World):Prop:=
 Below w.heap.size w w'∧∃A n c,e=.returned (.tuple #[.agg #[.int .u8 (R.1.kind.toNat:Int),.slice A n c],.int .i64 (R.2.1:Int),.int .i64 R.2.2])∧R.1.body.length=n∧n≤1048576∧Rd w' w'.heap.size A R.1.body∧(0<R.1.body.length→∃a,A=some a∧w.heap.size≤a.block)∧n≤c∧c≤9223372036854775807∧∀a,A=some a→w.heap.size≤a.block
theorem sgetb_none {w w':World} {R:SecD×Nat×Int} {x:Int} (h:R=(noSec,0,x)) (hb:Below w.heap.size w w') :
 SGetB w R (.returned (.tuple #[.agg #[.int .u8 0,.slice none 0 0],.int .i64 0,.int .i64 x])) w':=by
 subst h
 exact ⟨hb,none,0,0,rfl,rfl,by omega,Rd.empty,fun h=>by simp[noSec] at h,Nat.zero_le _,by omega,fun a h=>by cases h⟩
set_option maxRecDepth 100000 in
set_option maxHeartbeats 1000000 in
theorem fget_shortB (A:Option Addr) (n c:Nat) (b:List UInt8) (w:World) (hb:b.length=n) (hn:n<9) :
 Calls Tryz.prog 74 #[.slice A n c] w (SGetB w (getS b)):=by
 have HG:=Lib.hid (getS_short (b:=b) (by omega))
 have HB:=Lib.hid (show Below w.heap.size w (w.alloc (.cells #[.int .u8 0,.slice none 0 0] 144)) from (Below.refl _ _).alloc (Nat.le_refl _) _)
 obtain ⟨r0,r1,-,-⟩:=Two.new w (.int .u8 0) (.slice none 0 0) 144
 clear hb
 go_enter Tryz.func74,Tryz.ntmps74
 go_wp2_with fail
 refine (front_short A n c 5 _ hn (by omega)).mono ?_
 rintro e w' ⟨rfl,rfl⟩
 go_wp2
 exact bodyPost_ret (v:=.tuple #[.agg #[.int .u8 0,.slice none 0 0],.int .i64 0,.int .i64 2]) (by simp[results,Tryz.results74,go_sem,r0,r1]) rfl (sgetb_none HG.out HB.out)
set_option maxRecDepth 100000 in
set_option maxHeartbeats 2000000 in
theorem fget_longB (a:Addr) (n c:Nat) (b:List UInt8) (w:World) (hb:b.length=n) (hc:n≤c) (hc63:c≤9223372036854775807) (hn:9≤n) (hr:Rd w w.heap.size (some a) b) :
 Calls Tryz.prog 74 #[.slice (some a) n c] w (SGetB w (getS b)):=by
 have T:=Lib.hid (Two.new w (.int .u8 0) (.slice none 0 0) 144)
 have HB1:=Lib.hid (show Below w.heap.size w (w.alloc (.cells #[.int .u8 0,.slice none 0 0] 144)) from (Below.refl _ _).alloc (Nat.le_refl _) _)
 have HB:=Lib.hid hb
 have HR:=Lib.hid hr
 have HF:=Lib.hid (fitB_nine (b:=b) (by omega))
 obtain ⟨z,hz⟩:∃z,z=fitC (b.take 9):=⟨_,rfl⟩
 obtain ⟨h,hh⟩:∃h,h=fitL (b.take 9):=⟨_,rfl⟩
 have HZ:=Lib.hid hz
 have HH:=Lib.hid hh
 clear hb hr hz hh
 go_enter Tryz.func74,Tryz.ntmps74
 go_wp2_with fail
 generalize w.alloc (.cells #[.int .u8 0,.slice none 0 0] 144)=w1 at *
 refine (front_full (some a) n c 5 b w1 HB.out hc (by omega) (by omega) ((HR.out.below HB1.out).more HB1.out.size)).mono ?_
 rw[←HZ.out,←HH.out]
 rintro e w2 ⟨hb2,X,m,d,rfl,hl2,-,hr2,-⟩
 have HB2:=Lib.hid (HB1.out.trans (hb2.mono HB1.out.size))
 have T2:=Lib.hid (T.out.past hb2)
 have HL2:=Lib.hid hl2
 have HR2:=Lib.hid hr2
 clear hb2 hl2 hr2
 cases hfit:fitB (b.take 9) with
 |false=>
  have hz5:z=5:=by rw[HZ.out,HF.out,hfit];rfl
  subst hz5
  have HG:=Lib.hid (getS_head (b:=b) (by rw[HB.out];omega) hfit)
  obtain ⟨r0,r1,r2,r3⟩:=T2.out
  have HX:=Lib.hid ((T2.out.set (.int .u8 0) (.slice none 0 0)))
  obtain ⟨s0,s1,-,-⟩:=HX.out
  have HE:=Lib.hid ((HB2.out.setCell (p:=⟨w.heap.size,0,none⟩) (Nat.le_refl _) (.int .u8 0)).setCell (p:=⟨w.heap.size,1,none⟩) (Nat.le_refl _) (.slice none 0 0))
  clear hfit
  go_wp2
  exact bodyPost_ret (v:=.tuple #[.agg #[.int .u8 0,.slice none 0 0],.int .i64 0,.int .i64 5]) (by simp[results,Tryz.results74,go_sem,s0,s1]) rfl (sgetb_none HG.out HE.out)
 |true=>
  have hz0:z=0:=by rw[HZ.out,HF.out,hfit];rfl
  subst hz0
  have hh5:h=b.take 5:=by
   rw[HH.out];unfold fitL
   rw[if_pos hfit,List.length_take,List.take_take,HB.out]
   congr 1;omega
  have hm5:m=5:=by rw[←HL2.out,hh5,List.length_take,HB.out];omega
  subst hm5
  obtain ⟨a',u0,hX,-,hu0,hcu0⟩:=HR2.out.at (k:=0) (by rw[HL2.out];omega)
  subst hX
  obtain ⟨N,hN⟩:∃N,N=lenOf h:=⟨_,rfl⟩
  have hN32:N<4294967296:=by rw[hN];exact lenOf_lt _
  have hN5:N=lenOf (b.take 5):=by rw[hN,hh5]
  have HN:=Lib.hid hN
  have HN5:=Lib.hid hN5
  have HU0:=Lib.hid (show b.getD 0 0=u0 by
   rw[hh5,List.getElem?_take,if_pos (by omega)] at hu0
   rw[List.getD_eq_getElem?_getD,hu0];rfl)
  have hu8:=u0.toNat_lt
  have HFIT:=Lib.hid hfit
  clear hN hN5 hu0 hfit hh5
  go_wp2_with fail
  refine (bodyBytes_any a' d h w2 HL2.out HR2.out).mono ?_
  rw[←HN.out]
  rintro e w3 ⟨rfl,hb3⟩
  have HB3:=Lib.hid (HB2.out.trans (hb3.mono HB2.out.size))
  have T3:=Lib.hid (T2.out.past hb3)
  have HC0:=Lib.hid ((hb3.cell (p:=a'.add 0) (block_lt_of_cell hcu0)).trans hcu0)
  have hs3:=HB3.out.size
  clear hb3 hcu0 T2
  obtain ⟨r0,r1,r2,r3⟩:=T3.out
  have HX:=Lib.hid ((T3.out.set (.int .u8 0) (.slice none 0 0)))
  have HE:=Lib.hid ((HB3.out.setCell (p:=⟨w.heap.size,0,none⟩) (Nat.le_refl _) (.int .u8 0)).setCell (p:=⟨w.heap.size,1,none⟩) (Nat.le_refl _) (.slice none 0 0))
  by_cases hlong:1048576<N
  ·have d2:decide ((1048576:Int)<(N:Int))=true:=by simp;omega
   have HG:=Lib.hid (getS_long (b:=b) (by rw[HB.out];omega) HFIT.out HN5.out hlong)
   obtain ⟨s0,s1,-,-⟩:=HX.out
   go_wp2
   exact bodyPost_ret (v:=.tuple #[.agg #[.int .u8 0,.slice none 0 0],.int .i64 0,.int .i64 4]) (by simp[results,Tryz.results74,go_sem,s0,s1]) rfl (sgetb_none HG.out HE.out)
  ·have d2:decide ((1048576:Int)<(N:Int))=false:=by simp;omega
   have q1:(9:Int)≤(n:Int):=by omega
   have q2:(n:Int)≤(c:Int):=by omega
   clear HX HE
   by_cases hcut:n<N+13
   ·have HG:=Lib.hid (getS_cut (b:=b) (by rw[HB.out];omega) HFIT.out HN5.out hlong (by rw[HB.out];exact hcut))
    by_cases hc9:c=9
    ·have hn9:n=9:=by omega
     subst hc9 hn9
     go_wp2_with fail
     refine (front_short (some a) 0 0 N w3 (by omega) (by omega)).mono ?_
     rintro e w' ⟨rfl,rfl⟩
     have HX:=Lib.hid ((T3.out.set (.int .u8 0) (.slice none 0 0)))
     have HE:=Lib.hid ((HB3.out.setCell (p:=⟨w.heap.size,0,none⟩) (Nat.le_refl _) (.int .u8 0)).setCell (p:=⟨w.heap.size,1,none⟩) (Nat.le_refl _) (.slice none 0 0))
     obtain ⟨s0,s1,-,-⟩:=HX.out
     go_wp2
     exact bodyPost_ret (v:=.tuple #[.agg #[.int .u8 0,.slice none 0 0],.int .i64 0,.int .i64 2]) (by simp[results,Tryz.results74,go_sem,s0,s1]) rfl (sgetb_none HG.out HE.out)
    ·go_wp2_with fail
     refine (front_short (some ⟨a.block,a.off+9,none⟩) (n-9) (c-9) N w3 (by omega) (by omega)).mono ?_
     rintro e w' ⟨rfl,rfl⟩
     have HX:=Lib.hid ((T3.out.set (.int .u8 0) (.slice none 0 0)))
     have HE:=Lib.hid ((HB3.out.setCell (p:=⟨w.heap.size,0,none⟩) (Nat.le_refl _) (.int .u8 0)).setCell (p:=⟨w.heap.size,1,none⟩) (Nat.le_refl _) (.slice none 0 0))
     obtain ⟨s0,s1,-,-⟩:=HX.out
     go_wp2
     exact bodyPost_ret (v:=.tuple #[.agg #[.int .u8 0,.slice none 0 0],.int .i64 0,.int .i64 2]) (by simp[results,Tryz.results74,go_sem,s0,s1]) rfl (sgetb_none HG.out HE.out)
   ·have hc9:¬c=9:=by omega
    have HD:=Lib.hid (show Rd w3 w3.heap.size (some ⟨a.block,a.off+9,none⟩) (b.drop 9) from by
     have:=((HR.out.below HB3.out).more hs3).drop (k:=9) (cap:=c) (by rw[HB.out];exact hc)
     rw[if_neg hc9] at this
     exact this)
    have HDL:=Lib.hid (show (b.drop 9).length=n-9 by rw[List.length_drop,HB.out])
    have HFB:=Lib.hid (show fitC ((b.drop 9).take (N+4))=if fitB ((b.drop 9).take (N+4)) then 0 else 5 by
     unfold fitC
     rw[if_neg (by rw[List.length_take,HDL.out];omega)])
    obtain ⟨y,hy⟩:∃y,y=fitC ((b.drop 9).take (N+4)):=⟨_,rfl⟩
    obtain ⟨bo,hbo⟩:∃bo,bo=fitL ((b.drop 9).take (N+4)):=⟨_,rfl⟩
    have HY:=Lib.hid hy
    have HBO:=Lib.hid hbo
    clear hy hbo
    go_wp2_with fail
    refine (front_fullB (some ⟨a.block,a.off+9,none⟩) (n-9) (c-9) N (b.drop 9) w3 HDL.out (by omega) (by omega) (by omega) HD.out).mono ?_
    rw[←HY.out,←HBO.out]
    rintro e w4 ⟨hb4,Y,m,dd,rfl,hl4,hm4,hr4,hnw4,hcd4⟩
    have HCD:=Lib.hid hcd4
    have HB4:=Lib.hid (HB3.out.trans (hb4.mono hs3))
    have T4:=Lib.hid (T3.out.past hb4)
    have HC4:=Lib.hid ((hb4.cell (p:=a'.add 0) (block_lt_of_cell HC0.out)).trans HC0.out)
    have HL4:=Lib.hid hl4
    have HR4:=Lib.hid hr4
    have HNW4:=Lib.hid hnw4
    have hs4:=HB4.out.size
    clear hb4 hl4 hr4 hnw4 hcd4 r0 r1 r2 r3
    obtain ⟨r0,r1,r2,r3⟩:=T4.out
    cases hfit2:fitB ((b.drop 9).take (N+4)) with
    |false=>
     have hy5:y=5:=by rw[HY.out,HFB.out,hfit2];rfl
     subst hy5
     have HG:=Lib.hid (getS_bad (b:=b) (by rw[HB.out];omega) HFIT.out HN5.out hlong (by rw[HB.out];exact hcut) hfit2)
     have HX:=Lib.hid ((T4.out.set (.int .u8 0) (.slice none 0 0)))
     have HE:=Lib.hid ((HB4.out.setCell (p:=⟨w.heap.size,0,none⟩) (Nat.le_refl _) (.int .u8 0)).setCell (p:=⟨w.heap.size,1,none⟩) (Nat.le_refl _) (.slice none 0 0))
     obtain ⟨s0,s1,-,-⟩:=HX.out
     clear hfit2
     go_wp2
     exact bodyPost_ret (v:=.tuple #[.agg #[.int .u8 0,.slice none 0 0],.int .i64 0,.int .i64 5]) (by simp[results,Tryz.results74,go_sem,s0,s1]) rfl (sgetb_none HG.out HE.out)
    |true=>
     have hy0:y=0:=by rw[HY.out,HFB.out,hfit2];rfl
     subst hy0
     have hbo2:bo=(b.drop 9).take N:=by
      rw[HBO.out];unfold fitL
      rw[if_pos hfit2,List.length_take,HDL.out,List.take_take]
      congr 1;omega
     have hmN:m=N:=by rw[←HL4.out,hbo2,List.length_take,HDL.out];omega
     subst hmN
     have HG:=Lib.hid (show getS b=(⟨u0,bo⟩,m+13,0) by
      rw[getS_good (b:=b) (by rw[HB.out];omega) HFIT.out HN5.out hlong (by rw[HB.out];exact hcut) hfit2,HU0.out,hbo2])
     have c0:w4.cell? ⟨a'.block,a'.off,a'.spot⟩=some (.int .u8 (u0.toNat:Int)):=HC4.out
     have HX:=Lib.hid ((T4.out.set (.int .u8 (u0.toNat:Int)) (.slice Y m dd)))
     have HE:=Lib.hid ((HB4.out.setCell (p:=⟨w.heap.size,0,none⟩) (Nat.le_refl _) (.int .u8 (u0.toNat:Int))).setCell (p:=⟨w.heap.size,1,none⟩) (Nat.le_refl _) (.slice Y m dd))
     obtain ⟨s0,s1,-,-⟩:=HX.out
     clear hfit2 hbo2
     go_wp2
     exact bodyPost_ret (v:=.tuple #[.agg #[.int .u8 (u0.toNat:Int),.slice Y m dd],.int .i64 (9+(m:Int)+4),.int .i64 0]) (by simp[results,Tryz.results74,go_sem,s0,s1]) rfl (by
      rw[HG.out]
      exact ⟨HE.out,Y,m,dd,(by rw[show (9:Int)+(m:Int)+4=((m+13:Nat):Int) by omega]),HL4.out,by omega,rd_store HR4.out HNW4.out T3.out.here _ _,fun h=>by
       obtain ⟨g,e,hg⟩:=HNW4.out h
       exact ⟨g,e,by have:=T3.out.here;omega⟩,HCD.out.1,HCD.out.2.1,fun a ha=>by have:=HCD.out.2.2 a ha;have:=T3.out.here;omega⟩)
theorem fget_cap (A:Option Addr) (n c:Nat) (b:List UInt8) (w:World) (hb:b.length=n) (hc:n≤c) (hc63:c≤9223372036854775807) (hr:Rd w w.heap.size A b) :
 Calls Tryz.prog 74 #[.slice A n c] w (SGetB w (getS b)):=by
 by_cases h:n<9
 ·exact fget_shortB A n c b w hb h
 ·obtain ⟨a,rfl,-⟩:=hr (by omega)
  exact fget_longB a n c b w hb hc hc63 (by omega) hr
end Go.Proofs.YtcdkopbjlakebaaGreatDoor
end
section
namespace Go.Proofs.YtcdkopbjlakebaaGreatDoor.Pg
open Go.RowKit Cr Me Fr
def zeros (n:Nat):List UInt8:=List.replicate n 0
def raw (f p:Reg) (b:List UInt8):List UInt8:=four f++(four p++(four (BitVec.ofNat 32 b.length)++(b++zeros (112-b.length))))
def enc (f p:Reg) (b:List UInt8):List UInt8:=Cr.mark (raw f p b)
def num (l:List UInt8):Nat:=(l.getD 0 0).toNat+256*(l.getD 1 0).toNat+65536*(l.getD 2 0).toNat+16777216*(l.getD 3 0).toNat
def inner (k:List UInt8):List UInt8:=(k.drop 12).take (min (num (k.drop 8)) 112)
def getP (k:List UInt8) (f p:Reg):List UInt8×Int:=
 if k.length=128 then (if enc f p (inner k)==k then (inner k,0) else ([],5)) else ([],3)
theorem four_length (r:Reg):(four r).length=4:=rfl
theorem raw_length {f p:Reg} {b:List UInt8} (h:b.length≤112):(raw f p b).length=124:=by
 simp only[raw,zeros,List.length_append,four_length,List.length_replicate]
 omega
theorem enc_length {f p:Reg} {b:List UInt8} (h:b.length≤112):(enc f p b).length=128:=by
 unfold enc
 rw[mark_length,raw_length h]
theorem num_four (r:Reg) (l:List UInt8):num (four r++l)=r.toNat:=by
 have hr:=r.isLt
 simp only[num,four,List.cons_append,List.getD_cons_zero,List.getD_cons_succ,UInt8.toNat_ofNat']
 omega
theorem drop_four (r:Reg) (l:List UInt8):(four r++l).drop 4=l:=List.drop_left' rfl
section
variable {f p f' p':Reg} {b:List UInt8}
theorem enc_flat:enc f p b=four f++(four p++(four (BitVec.ofNat 32 b.length)++(b++(zeros (112-b.length)++four (crc (raw f p b)))))):=by
 show raw f p b++four _=_
 generalize crc (raw f p b)=r
 simp only[raw,List.append_assoc]
theorem enc_drop8:(enc f p b).drop 8=four (BitVec.ofNat 32 b.length)++(b++(zeros (112-b.length)++four (crc (raw f p b)))):=by
 rw[show (8:Nat)=4+4 from rfl,←List.drop_drop,enc_flat,drop_four,drop_four]
theorem enc_num (h:b.length≤112):num ((enc f p b).drop 8)=b.length:=by
 rw[enc_drop8,num_four,BitVec.toNat_ofNat]
 omega
theorem enc_drop12:(enc f p b).drop 12=b++(zeros (112-b.length)++four (crc (raw f p b))):=by
 rw[show (12:Nat)=8+4 from rfl,←List.drop_drop,enc_drop8,drop_four]
theorem part_enc (h:b.length≤112):inner (enc f p b)=b:=by
 unfold inner
 rw[enc_num h,enc_drop12,Nat.min_eq_left h,List.take_left' rfl]
theorem getP_enc (h:b.length≤112):getP (enc f p b) f p=(b,0):=by
 unfold getP
 rw[if_pos (enc_length h),part_enc h,if_pos (by simp)]
theorem part_length {k:List UInt8} (hk:k.length=128):(inner k).length=min (num (k.drop 8)) 112:=by
 unfold inner
 rw[List.length_take,List.length_drop,hk]
 omega
theorem part_le {k:List UInt8} (hk:k.length=128):(inner k).length≤112:=by rw[part_length hk];omega
theorem getP_le (k:List UInt8) (f p:Reg):(getP k f p).1.length≤112:=by
 unfold getP
 split
 ·rename_i h
  split
  ·exact part_le h
  ·simp
 ·simp
theorem getP_short {k:List UInt8} (hk:k.length≠128):getP k f p=([],3):=by unfold getP;rw[if_neg hk]
end
end Go.Proofs.YtcdkopbjlakebaaGreatDoor.Pg
namespace Go.Proofs.YtcdkopbjlakebaaGreatDoor
open Go.RowKit Cr Me Pg
def regs (rs:List Reg):List Value:=rs.map fun r=>.int .u32 (r.toNat:Int)
theorem four_snoc {rs:List Reg} {k:Nat} {r:Reg} (h:rs[k]?=some r):(rs.take (k+1)).flatMap four=(rs.take k).flatMap four++four r:=by
 rw[List.take_add_one,h,List.flatMap_append]
 simp
def EncRel (w:World) (rs:List Reg) (k:Nat) (v:Value) (wr:World):Prop:=wr.ownsRow w.heap.size 5 1 v (4*k) (cellsOf ((rs.take k).flatMap four))∧Below w.heap.size w wr
set_option maxRecDepth 100000 in
set_option maxHeartbeats 1000000 in
theorem pencoded_any (L:Option Addr) (n c:Nat) (rs:List Reg) (w:World) (hl:rs.length=n) (hn:n≤1000) (ha:Cs w w.heap.size L (regs rs)) :
 Calls Tryz.prog 181 #[.slice L n c] w (News w (rs.flatMap four)):=by
 obtain ⟨i0,hi0,hz0,hz1,hz2⟩:=info_parts u8_info
 have HL:=Lib.hid hl
 have HA:=Lib.hid ha
 have HREL:=Lib.hid (show EncRel w rs 0 (.slice none 0 0) w from ⟨World.ownsRow_nil _ _ _ _,Below.refl _ _⟩)
 clear hl ha
 go_enter Tryz.func181,Tryz.ntmps181
 go_wp2
 go_loopw [3,8] (fun v i wr=>∃k:Nat,k≤n∧i=.int .i64 k∧Hid (EncRel w rs k v wr)) (fun _ i _=>n-(intOf i).toNat)
 case atStart=>exact ⟨0,Nat.zero_le _,rfl,HREL⟩
 case round=>
  clear HREL
  obtain ⟨k,hk,rfl,HP⟩:=hrel
  obtain ⟨ho,hb⟩:=HP.out
  have HO:=Lib.hid ho
  have HB:=Lib.hid hb
  have hsz:=hb.size
  clear ho hb HP
  by_cases hlt:k<n
  ·have hlt':k<rs.length:=by rw[HL.out];exact hlt
   obtain ⟨a,rfl,hab,hc⟩:=HA.out (by unfold regs;rw[List.length_map];omega)
   obtain ⟨r,hr⟩:∃r,rs[k]?=some r:=⟨_,List.getElem?_eq_getElem hlt'⟩
   have c0:=(HB.out.cell (p:=a.add k) (by rw[block_add];exact hab)).trans (hc k _ (by unfold regs;rw[List.getElem?_map,hr];rfl))
   have HR:=Lib.hid hr
   have hr1:=reg_lt r
   have q0:(0:Int)≤(k:Int):=by omega
   have q1:(k:Int)<(n:Int):=by omega
   clear hr hc hlt'
   go_wp2_with (at_builtin
                refine wpList_app rfl (.tmp 12) (.tmp 24) 24 rfl w.heap.size 5 i0 _ Tryz.underlying24 hi0 hz0 hz1 hz2 rfl _ (4*k) _ rfl (HO.out.alloc _) (wr.heap.size+1) (some ⟨wr.heap.size,0,none⟩) 4 4 (four r) rfl rfl (Rd.lit wr _ _ _ (lit_four r)) (by omega) (by simp;omega) ?_
                intro v5 w5 hown5 hg5 _
                have HREL:=Lib.hid (show EncRel w rs (k+1) v5 w5 from ⟨by rw[four_snoc HR.out];exact hown5,below_app (HB.out.alloc hsz _) (HO.out.alloc _) (Nat.le_refl _) (by simp;omega) hg5⟩)
                clear hown5 hg5)
   go_roundw
   case rel=>exact ⟨k+1,by omega,by go_num,HREL⟩
   case measure=>simp[intOf];omega
  ·have htk:rs.take k=rs:=List.take_of_length_le (by rw[HL.out];omega)
   rw[htk] at HO
   go_wp2
   go_ret
   exact ⟨_,_,rfl,HO.out,HB.out⟩
end Go.Proofs.YtcdkopbjlakebaaGreatDoor
namespace Go.Proofs.YtcdkopbjlakebaaGreatDoor
open Go.RowKit Cr Me Pg
theorem u8_size:(Tryz.prog.info? 5).map (·.size)=some 1:=by kernel_rfl
theorem raw_made {f p:Reg} {b:List UInt8} {n:Nat} (hb:b.length=n) {x:List UInt8} (hx:x=[f,p,BitVec.ofNat 32 n].flatMap four) :
 ((List.replicate 124 (0:UInt8)).take 0++x++(List.replicate 124 (0:UInt8)).drop (0+12)).take 12++b++((List.replicate 124 (0:UInt8)).take 0++x++(List.replicate 124 (0:UInt8)).drop (0+12)).drop (12+n)=raw f p b:=by
 have hxl:x.length=12:=by rw[hx];rfl
 rw[List.take_zero,List.nil_append,List.drop_replicate,List.take_left' hxl,←List.drop_drop,List.drop_left' hxl,List.drop_replicate,hx]
 unfold raw zeros
 rw[hb]
 simp only[List.flatMap_cons,List.flatMap_nil,List.append_nil,List.append_assoc]
set_option maxRecDepth 100000 in
set_option maxHeartbeats 1000000 in
theorem pput_good (f p:Reg) (A:Option Addr) (n c:Nat) (b:List UInt8) (w:World) (hb:b.length=n) (hn:n≤112) (hr:Rd w w.heap.size A b) :
 Calls Tryz.prog 142 #[.int .u32 (f.toNat:Int),.int .u32 (p.toNat:Int),.slice A n c] w (PutPost w (enc f p b) 0):=by
 obtain ⟨i0,hi0,hz0,hz1,hz2⟩:=info_parts u8_info
 have h1:decide ((112:Int)<(n:Int))=false:=by simp;omega
 have hw:IntKind.u32.wrap (n:Int)=(n:Int):=by rw[IntKind.wrap_u32];omega
 have HN:=Lib.hid (show (BitVec.ofNat 32 n).toNat=n by rw[BitVec.toNat_ofNat];omega)
 have HB:=Lib.hid hb
 have HR:=Lib.hid hr
 clear hb hr
 go_enter Tryz.func142,Tryz.ntmps142
 go_wp2_with (refine wpList_make_full w rfl _ _ 24 rfl w.heap.size 5 i0 _ 1 Tryz.underlying24 hi0 hz0 hz1 .i64 .i64 _ _ 124 rfl rfl rfl rfl (by rw[hz2];omega) (by unfold maxLen;omega) (Nat.le_refl _) ?_
              intro w1 ho1 hg1
              rw[made_zero] at ho1
              have HB1:=Lib.hid (show Below w.heap.size w w1 from (Below.refl _ _).grown hg1 (Nat.le_refl _) (fun k e=>by cases e))
              have HO1:=Lib.hid ho1
              clear ho1 hg1)
 have HC:=Lib.hid (show Cs (w1.alloc (.cells #[.int .u32 (f.toNat:Int),.int .u32 (p.toNat:Int),.int .u32 (n:Int)] 107)) (w1.alloc (.cells #[.int .u32 (f.toNat:Int),.int .u32 (p.toNat:Int),.int .u32 (n:Int)] 107)).heap.size (some ⟨w1.heap.size,0,none⟩) (regs [f,p,BitVec.ofNat 32 n]) from by
  have:=Cs.lit w1 #[.int .u32 (f.toNat:Int),.int .u32 (p.toNat:Int),.int .u32 (n:Int)] 107
  unfold regs
  simp only[List.map_cons,List.map_nil,HN.out]
  simpa using this)
 have HB2:=Lib.hid (HB1.out.alloc HB1.out.size (.cells #[.int .u32 (f.toNat:Int),.int .u32 (p.toNat:Int),.int .u32 (n:Int)] 107))
 have HO2:=Lib.hid (HO1.out.alloc (.cells #[.int .u32 (f.toNat:Int),.int .u32 (p.toNat:Int),.int .u32 (n:Int)] 107))
 refine (pencoded_any _ 3 3 [f,p,BitVec.ofNat 32 n] _ rfl (by omega) HC.out).mono ?_
 intro e w3 h
 obtain ⟨A3,n3,c3,rfl,hl3,hc3,-,hr3,hb3⟩:=h.open
 have hn3:n3=12:=by rw[←hl3];rfl
 subst hn3
 obtain ⟨x,hx⟩:∃x,x=[f,p,BitVec.ofNat 32 n].flatMap four:=⟨_,rfl⟩
 rw[←hx] at hl3 hr3
 have HX:=Lib.hid hx
 have HL3:=Lib.hid hl3
 have HR3:=Lib.hid hr3
 have HB3:=Lib.hid (HB2.out.trans (hb3.mono HB2.out.size))
 have HO3:=Lib.hid (own_below HO2.out hb3)
 clear hx hl3 hr3 hb3 h HC HO1 HO2 HB1 HB2
 go_wp2_with (first
  |(with_reducible show wpList _ _ _ _ _ _
    refine wpList_copy_bytes (o:=⟨some 21,_,_,_,_,_⟩) rfl (.tmp 13) (.tmp 20) 24 rfl 5 Tryz.underlying24 u8_size w.heap.size w.heap.size 124 0 124 124 _ HO3.out rfl w3.heap.size A3 12 c3 x rfl HL3.out HR3.out (by omega) (by omega) w HB3.out ?_
    intro w4 ho4 hb4
    have HO4:=Lib.hid ho4
    have HB4:=Lib.hid hb4
    clear ho4 hb4)
  |(with_reducible show wpList _ _ _ _ _ _
    refine wpList_copy_bytes (o:=⟨some 25,_,_,_,_,_⟩) rfl (.tmp 23) (.tmp 24) 24 rfl 5 Tryz.underlying24 u8_size w.heap.size w.heap.size 124 12 112 112 _ HO4.out rfl w.heap.size A n c b rfl HB.out (HR.out.below HB4.out) hn (by omega) w HB4.out ?_
    intro w5 ho5 hb5
    have HO5:=Lib.hid ho5
    have HB5:=Lib.hid hb5
    clear ho5 hb5))
 have ho:=HO5.out
 rw[raw_made HB.out HX.out] at ho
 have HRW:=Lib.hid (Rd.of_own ho)
 clear ho
 refine (mark_news (some ⟨w.heap.size,0,none⟩) 124 124 (raw f p b) w5 (raw_length (by rw[HB.out];exact hn)) (by omega) HRW.out).mono ?_
 rintro e w6 ⟨v,m,rfl,ho6,hb6⟩
 have HO6:=Lib.hid (own_more ho6 HB5.out.size)
 have HB6:=Lib.hid (HB5.out.trans (hb6.mono HB5.out.size))
 clear ho6 hb6
 go_wp2
 go_ret2
 exact ⟨v,m,rfl,HO6.out,HB6.out⟩
end Go.Proofs.YtcdkopbjlakebaaGreatDoor
namespace Go.Proofs.YtcdkopbjlakebaaGreatDoor
open Go.RowKit Cr Me Pg
def ctG (d:Addr) (c:Nat) (p0 p1 p2 p3:Nat):Gw.Fact:=fun t v _=>
 match t with
 |3|7|11|17|23=>v=.slice (some d) 4 c
 |8=>v=.pointer (some d)
 |12=>v=.pointer (some (d.add 1))
 |18=>v=.pointer (some (d.add 2))
 |24=>v=.pointer (some (d.add 3))
 |9=>v=.int .u8 (p0:Int)
 |10=>v=.int .u32 (p0:Int)
 |13=>v=.int .u8 (p1:Int)
 |14=>v=.int .u32 (p1:Int)
 |15=>v=.int .u32 ((256*p1:Nat):Int)
 |16=>v=.int .u32 ((p0+256*p1:Nat):Int)
 |19=>v=.int .u8 (p2:Int)
 |20=>v=.int .u32 (p2:Int)
 |21=>v=.int .u32 ((65536*p2:Nat):Int)
 |22=>v=.int .u32 ((p0+256*p1+65536*p2:Nat):Int)
 |25=>v=.int .u8 (p3:Int)
 |26=>v=.int .u32 (p3:Int)
 |27=>v=.int .u32 ((16777216*p3:Nat):Int)
 |4|28=>v=.int .u32 ((p0+256*p1+65536*p2+16777216*p3:Nat):Int)
 |_=>True
theorem num_cells {w:World} {a:Addr} {k:List UInt8} (hl:12≤k.length) (hr:Rd w w.heap.size (some a) k) :
 ∃u0 u1 u2 u3:UInt8,num (k.drop 8)=u0.toNat+256*u1.toNat+65536*u2.toNat+16777216*u3.toNat∧w.cell? (a.add 8)=some (.int .u8 (u0.toNat:Int))∧w.cell? (a.add 9)=some (.int .u8 (u1.toNat:Int))∧w.cell? (a.add 10)=some (.int .u8 (u2.toNat:Int))∧w.cell? (a.add 11)=some (.int .u8 (u3.toNat:Int))∧a.block<w.heap.size:=by
 have cell:∀i,i<12→∃u:UInt8,k[i]?=some u∧w.cell? (a.add i)=some (.int .u8 (u.toNat:Int))∧a.block<w.heap.size:=by
  intro i hi
  obtain ⟨a',u,e,hb,hu,hcell⟩:=hr.at (k:=i) (by omega)
  cases e
  exact ⟨u,hu,hcell,hb⟩
 obtain ⟨u0,g0,c0,hab⟩:=cell 8 (by omega)
 obtain ⟨u1,g1,c1,-⟩:=cell 9 (by omega)
 obtain ⟨u2,g2,c2,-⟩:=cell 10 (by omega)
 obtain ⟨u3,g3,c3,-⟩:=cell 11 (by omega)
 refine ⟨u0,u1,u2,u3,?_,c0,c1,c2,c3,hab⟩
 unfold num
 simp only[List.getD_eq_getElem?_getD,List.getElem?_drop,g0,g1,g2,g3]
 rfl
set_option maxRecDepth 100000 in
set_option maxHeartbeats 1000000 in
theorem contained_any (a:Addr) (c:Nat) (k:List UInt8) (w:World) (hl:k.length=128) (hc:128≤c) (hr:Rd w w.heap.size (some a) k) :
 Calls Tryz.prog 192 #[.slice (some a) 128 c] w fun e w'=>e=.returned (.int .u32 ((min (num (k.drop 8)) 112:Nat):Int))∧Below w.heap.size w w':=by
 obtain ⟨u0,u1,u2,u3,hnum,c0,c1,c2,c3,hab⟩:=num_cells (by omega) hr
 rw[hnum]
 have b0:u0.toNat<256:=u0.toNat_lt
 have b1:u1.toNat<256:=u1.toNat_lt
 have b2:u2.toNat<256:=u2.toNat_lt
 have b3:u3.toNat<256:=u3.toNat_lt
 clear hnum hl hr
 generalize u0.toNat=p0 at *
 generalize u1.toNat=p1 at *
 generalize u2.toNat=p2 at *
 generalize u3.toNat=p3 at *
 have v0:IntKind.u32.wrap (p0:Int)=p0:=by rw[IntKind.wrap_u32];omega
 have v1:IntKind.u32.wrap (p1:Int)=p1:=by rw[IntKind.wrap_u32];omega
 have v2:IntKind.u32.wrap (p2:Int)=p2:=by rw[IntKind.wrap_u32];omega
 have v3:IntKind.u32.wrap (p3:Int)=p3:=by rw[IntKind.wrap_u32];omega
 have x1:IntKind.u32.wrap ((p1:Int)*256)=256*p1:=by rw[IntKind.wrap_u32];omega
 have x2:IntKind.u32.wrap ((p2:Int)*65536)=65536*p2:=by rw[IntKind.wrap_u32];omega
 have x3:IntKind.u32.wrap ((p3:Int)*16777216)=16777216*p3:=by rw[IntKind.wrap_u32];omega
 have o1:bits .or .u32 (p0:Int) (256*(p1:Int))=(p0:Int)+256*p1:=by
  have:=or_bytes 8 p0 p1 (by omega) (by omega) (by omega)
  simpa using this
 have o2:bits .or .u32 ((p0:Int)+256*(p1:Int)) (65536*(p2:Int))=(p0:Int)+256*p1+65536*p2:=by
  have:=or_bytes 16 (p0+256*p1) p2 (by omega) (by omega) (by omega)
  simpa using this
 have o3:bits .or .u32 ((p0:Int)+256*(p1:Int)+65536*(p2:Int)) (16777216*(p3:Int))=(p0:Int)+256*p1+65536*p2+16777216*p3:=by
  have:=or_bytes 24 (p0+256*p1+65536*p2) p3 (by omega) (by omega) (by omega)
  simpa using this
 obtain ⟨d,hd⟩:∃d,d=a.add 8:=⟨_,rfl⟩
 have hdb:d.block<w.heap.size:=by rw[hd,block_add];exact hab
 have d1:a.add 9=d.add 1:=by rw[hd,add_add]
 have d2:a.add 10=d.add 2:=by rw[hd,add_add]
 have d3:a.add 11=d.add 3:=by rw[hd,add_add]
 rw[d1] at c1
 rw[d2] at c2
 rw[d3] at c3
 rw[←hd] at c0
 have HD:=Lib.hid hd
 have HC0:=Lib.hid c0
 have HC1:=Lib.hid c1
 have HC2:=Lib.hid c2
 have HC3:=Lib.hid c3
 clear d1 d2 d3 c0 c1 c2 c3 hab hd
 obtain ⟨z,hz⟩:∃z:Nat,z=min (p0+256*p1+65536*p2+16777216*p3) 112:=⟨_,rfl⟩
 rw[←hz]
 have HZ:=Lib.hid hz
 clear hz
 have q1:¬c=8:=by omega
 have q2:(12:Int)≤(c:Int):=by omega
 go_enter Tryz.func192,Tryz.ntmps192
 go_wp2_with fail
 rw[show (⟨a.block,a.off+8,none⟩:Addr)=d from HD.out.symm]
 refine Gw.wp_region_grow (ctG d (c-8) p0 p1 p2 p3) [7,8,9,10,11,12,13,14,15,16,17,18,19,20,21,22,23,24,25,26,27,28,4] [([3],none),([7],none),([8],none),([9],none),([3],none),([11],none),([12],none),([13],none),([14],none),([10,15],none),([3],none),([17],none),([18],none),([19],none),([20],none),([16,21],none),([3],none),([23],none),([24],none),([25],none),([26],none),([22,27],none),([28],none)] 31 (by kernel_rfl) (by kernel_rfl) rfl ?h0 ?hreq ?hend
 case h0=>
  intro t W hnd _
  unfold ctG
  split<;>first|rfl|trivial|exact absurd (by simp) hnd
 case hreq=>
  refine ⟨?_,?_,?_,?_,?_,?_,?_,?_,?_,?_,?_,?_,?_,?_,?_,?_,?_,?_,?_,?_,?_,?_,?_,trivial⟩
  all_goals
   intro ac W hg hk
   have hg':Below w.heap.size w W:=hg
   have k0':W.cell? d=_:=(hg'.cell (p:=d) hdb).trans HC0.out
   have k1:W.cell? ⟨d.block,d.off+1,none⟩=_:=(hg'.cell (p:=d.add 1) (by rw[block_add];exact hdb)).trans HC1.out
   have k2:W.cell? ⟨d.block,d.off+2,none⟩=_:=(hg'.cell (p:=d.add 2) (by rw[block_add];exact hdb)).trans HC2.out
   have k3:W.cell? ⟨d.block,d.off+3,none⟩=_:=(hg'.cell (p:=d.add 3) (by rw[block_add];exact hdb)).trans HC3.out
   simp only[Gw.Knows,ctG] at hk
   try (simp[go_sem,Gw.OpReq,Gw.Ok,Gw.Post,Gw.Holds,ctG,Gw.Grows.refl,hk,k0',k1,k2,k3,v0,v1,v2,v3,x1,x2,x3,o1,o2,o3];done)
 case hend=>
  intro x w' hg hx
  have h2:x 4=.int .u32 ((p0+256*p1+65536*p2+16777216*p3:Nat):Int):=(hx 4 (by simp)).now
  have HB:=Lib.hid (show Below w.heap.size w w' from hg)
  clear v0 v1 v2 v3 x1 x2 x3 o1 o2 o3
  simp only[Gw.putAll,Act.put,List.setIfInBounds_toArray,List.set_cons_zero,List.set_cons_succ]
  rw[h2]
  have HZ2:=Lib.hid HZ.out
  clear HZ h2
  generalize p0+256*p1+65536*p2+16777216*p3=m at *
  by_cases hm:m≤112
  ·have m1:decide ((112:Int)<(m:Int))=false:=by simp;omega
   have HM:=Lib.hid (show z=m by have:=HZ2.out;omega)
   clear HZ2
   go_wp2
   go_ret
   exact ⟨by rw[HM.out];rfl,HB.out⟩
  ·have m1:decide ((112:Int)<(m:Int))=true:=by simp;omega
   have HM:=Lib.hid (show z=112 by have:=HZ2.out;omega)
   clear HZ2
   go_wp2
   go_ret
   exact ⟨by rw[HM.out];rfl,HB.out⟩
end Go.Proofs.YtcdkopbjlakebaaGreatDoor
namespace Go.Proofs.YtcdkopbjlakebaaGreatDoor
open Go.RowKit Cr Me Pg
def pgG (a d:Addr) (c m:Nat):Gw.Fact:=fun t v _=>
 match t with
 |0|14|16=>v=.slice (some a) 128 (c+12)
 |15=>v=.slice (some d) 116 c
 |17=>v=.int .u32 (m:Int)
 |8|18=>v=.slice (some d) m c
 |_=>True
theorem pget_short (f p:Int) (A:Option Addr) (n c:Nat) (w:World) (hn:n≠128) :
 Calls Tryz.prog 149 #[.slice A n c,.int .u32 f,.int .u32 p] w fun e w'=>e=.returned (.tuple #[.slice none 0 0,.int .i64 3])∧w=w':=by
 have h1:((n:Int)==128)=false:=by rw[beq_eq_false_iff_ne];omega
 go_enter Tryz.func149,Tryz.ntmps149
 go_wp2
 go_ret2
 exact ⟨rfl,rfl⟩
set_option maxRecDepth 100000 in
set_option maxHeartbeats 1000000 in
theorem pget_full (f p:Reg) (a:Addr) (c:Nat) (k:List UInt8) (w:World) (hl:k.length=128) (hc:128≤c) (hr:Rd w w.heap.size (some a) k) :
 Calls Tryz.prog 149 #[.slice (some a) 128 c,.int .u32 (f.toNat:Int),.int .u32 (p.toNat:Int)] w fun e w'=>FTells w (getP k f p).1 (getP k f p).2 e w':=by
 obtain ⟨cc,rfl⟩:∃cc,c=cc+12:=⟨c-12,by omega⟩
 obtain ⟨m,hm⟩:∃m,m=min (num (k.drop 8)) 112:=⟨_,rfl⟩
 have hm1:m≤112:=by omega
 have hpl:(inner k).length=m:=by rw[part_length hl,hm]
 have hpr:Rd w w.heap.size (some (a.add 12)) (inner k):=by
  have:=(hr.drop (k:=12) (cap:=cc+12) (by omega)).take m
  rw[if_neg (by omega)] at this
  unfold inner
  rw[←hm]
  exact this
 obtain ⟨d,hd⟩:∃d,d=a.add 12:=⟨_,rfl⟩
 rw[←hd] at hpr
 obtain ⟨g,hg⟩:∃g,(enc f p (inner k)==k)=g:=⟨_,rfl⟩
 have HR1:=Lib.hid (show getP k f p=if g then (inner k,0) else ([],5) by unfold getP;rw[if_pos hl,hg])
 obtain ⟨R,hR⟩:∃R,R=getP k f p:=⟨_,rfl⟩
 rw[←hR] at HR1 ⊢
 have HM:=Lib.hid hm
 have HL:=Lib.hid hl
 have HPL:=Lib.hid hpl
 have HPR:=Lib.hid hpr
 have HD:=Lib.hid hd
 have HG:=Lib.hid hg
 have HRD:=Lib.hid hr
 have HEL:=Lib.hid (show (enc f p (inner k)).length=128 from enc_length (by rw[hpl];exact hm1))
 have q1:¬cc=0:=by omega
 have q2:(m:Int)≤(cc:Int):=by omega
 clear hm hpl hpr hd hg hR hr hl
 go_enter Tryz.func149,Tryz.ntmps149
 go_wp2_with fail
 refine Gw.wp_region_grow (pgG a d cc m) [14,15,16,17,18,8] [([0],none),([14],none),([0],none),([16],none),([15,17],none),([18],none)] 32 (by kernel_rfl) (by kernel_rfl) rfl ?h0 ?hreq ?hend
 case h0=>
  intro t W hnd _
  unfold pgG
  split<;>first|rfl|trivial|exact absurd (by simp) hnd
 case hreq=>
  have e12:(⟨a.block,a.off+12,none⟩:Addr)=d:=HD.out.symm
  refine ⟨?_,?_,?_,?_,?_,?_,trivial⟩
  all_goals
   intro ac W hg hk
   simp only[Gw.Knows,pgG] at hk
   try (simp[go_sem,Gw.OpReq,Gw.Ok,Gw.Post,Gw.Holds,pgG,Gw.Grows.refl,hk,q1,q2,e12];done)
  ·simp[go_sem,Gw.OpReq,Gw.Ok,Gw.Post,Gw.Holds,pgG,Gw.Grows.refl,hk]
   refine (contained_any a (cc+12) k W HL.out (by omega) ((HRD.out.below hg).more (Below.size hg))).mono ?_
   rintro e w5 ⟨rfl,hb⟩
   rw[←HM.out]
   exact ⟨_,rfl,hb,fun _ _=>rfl⟩
 case hend=>
  intro x w1 hg hx
  have h8:x 8=.slice (some d) m cc:=(hx 8 (by simp)).now
  have HB1:=Lib.hid (show Below w.heap.size w w1 from hg)
  simp only[Gw.putAll,Act.put,List.setIfInBounds_toArray,List.set_cons_zero,List.set_cons_succ]
  rw[h8]
  clear h8 hx hg
  generalize x 14=x14
  generalize x 15=x15
  generalize x 16=x16
  generalize x 17=x17
  generalize x 18=x18
  go_wp2_with fail
  refine (pput_good f p (some d) m cc (inner k) w1 HPL.out hm1 ((HPR.out.below HB1.out).more HB1.out.size)).mono ?_
  intro e w2 h
  obtain ⟨A2,n2,c2,rfl,hl2,hc2,ho2,hr2,hb2⟩:=h.open
  have hn2:n2=128:=by rw[←hl2];exact HEL.out
  subst hn2
  have HR2:=Lib.hid hr2
  have HB2:=Lib.hid (HB1.out.trans (hb2.mono HB1.out.size))
  clear hl2 ho2 hr2 hb2 h
  go_wp2_with fail
  refine (equal_any A2 (some a) 128 c2 128 (cc+12) (enc f p (inner k)) k w2 w2.heap.size w2.heap.size HEL.out HR2.out HL.out ((HRD.out.below HB2.out).more HB2.out.size)).mono ?_
  rw[HG.out]
  rintro e w3 ⟨rfl,rfl⟩
  cases g with
  |false=>
   have HF:=Lib.hid (show R=([],5) from HR1.out)
   go_wp2
   go_ret2
   rw[HF.out]
   exact ⟨HB2.out,none,0,0,rfl,rfl,by omega,Rd.empty,fun h=>by simp at h⟩
  |true=>
   have HF:=Lib.hid (show R=(inner k,0) from HR1.out)
   go_wp2_with fail
   refine (clone_any (some d) m cc (inner k) w2 HPL.out (by omega) ((HPR.out.below HB2.out).more HB2.out.size)).mono ?_
   intro e w4 h
   obtain ⟨A4,n4,c4,rfl,hl4,hc4,ho4,hr4,hb4⟩:=h.open
   have HL4:=Lib.hid hl4
   have HR4:=Lib.hid hr4
   have HB4:=Lib.hid (HB2.out.trans (hb4.mono HB2.out.size))
   have HN4:=Lib.hid (show 0<(inner k).length→∃b,A4=some b∧w.heap.size≤b.block from fun h=>by
    obtain ⟨g,cap,hv,hg,-⟩:=ho4.form (by omega)
    injection hv with hv
    exact ⟨_,hv,Nat.le_trans HB2.out.size hg⟩)
   have hn4:n4≤112:=by have:=HPL.out;omega
   clear hl4 ho4 hr4 hb4 h
   go_wp2
   go_ret2
   rw[HF.out]
   exact ⟨HB4.out,A4,n4,c4,rfl,HL4.out,by omega,HR4.out,HN4.out⟩
theorem pget_any (f p:Reg) (A:Option Addr) (n c:Nat) (k:List UInt8) (w:World) (hl:k.length=n) (hc:n≤c) (hr:Rd w w.heap.size A k) :
 Calls Tryz.prog 149 #[.slice A n c,.int .u32 (f.toNat:Int),.int .u32 (p.toNat:Int)] w fun e w'=>FTells w (getP k f p).1 (getP k f p).2 e w':=by
 by_cases hn:n=128
 ·subst hn
  obtain ⟨a,rfl,-⟩:=hr (by omega)
  exact pget_full f p a c k w hl hc hr
 ·refine (pget_short _ _ A n c w hn).mono fun e w' ⟨he,hw⟩=>?_
  subst hw
  rw[getP_short (by omega)]
  exact ⟨Below.refl _ _,none,0,0,he,rfl,by omega,Rd.empty,fun h=>by simp at h⟩
end Go.Proofs.YtcdkopbjlakebaaGreatDoor
namespace Go.Proofs.YtcdkopbjlakebaaGreatDoor
open Go.RowKit Cr Me Pg
end Go.Proofs.YtcdkopbjlakebaaGreatDoor
end
