/- Texts put together, for a law: Frms, Fg, Pgs, FAll, RefFAll, FgR. -/
import Derived.Lib.AppendZerosOnto
import Derived.Test.YtcdkopbjlakebaaGreatDoorKP12
import Derived.Test.YtcdkopbjlakebaaGreatDoorKP3
import Derived.Test.YtcdkopbjlakebaaGreatDoorKP2
set_option maxRecDepth 100000
set_option maxHeartbeats 8000000
namespace Go.Proofs.YtcdkopbjlakebaaGreatDoor
section
namespace Fr
open Go.RowKit Cr Me
end Fr
namespace Fr
open Go.RowKit Cr Me
structure SecD where
 kind:UInt8
 body:List UInt8
def vN:SecD:=⟨0,[]⟩
def head (k:UInt8) (n:Nat):List UInt8:=k::four (BitVec.ofNat 32 n)
theorem vK (k:UInt8) (n:Nat):(head k n).length=5:=rfl
def encS (s:SecD):List UInt8:=Cr.mark (head s.kind s.body.length)++Cr.mark s.body
theorem vM (s:SecD):(encS s).length=s.body.length+13:=by
 unfold encS;rw[List.length_append,zO,zO,vK];omega
def lenOf (h:List UInt8):Nat:=(h.getD 1 0).toNat+256*(h.getD 2 0).toNat+65536*(h.getD 3 0).toNat+16777216*(h.getD 4 0).toNat
theorem zfi (h:List UInt8):lenOf h<4294967296:=by
 unfold lenOf;have h1:=(h.getD 1 0).toNat_lt;have h2:=(h.getD 2 0).toNat_lt;have h3:=(h.getD 3 0).toNat_lt;have h4:=(h.getD 4 0).toNat_lt;omega
theorem zgj (k:UInt8) {n:Nat} (hn:n<4294967296):lenOf (head k n)=n:=by
 unfold lenOf head four;have e:(BitVec.ofNat 32 n).toNat=n:=by rw[BitVec.toNat_ofNat];omega
 rw[e];simp only[List.getD_cons_succ,List.getD_cons_zero,UInt8.toNat_ofNat'];omega
def getS (b:List UInt8):SecD×Nat×Int:=
 if b.length<9 then (vN,0,2)
 else if fitB (b.take 9)=false then (vN,0,5)
 else if 1048576<lenOf (b.take 5) then (vN,0,4)
 else if b.length<lenOf (b.take 5)+13 then (vN,0,2)
 else if fitB ((b.drop 9).take (lenOf (b.take 5)+4))=false then (vN,0,5)
 else (⟨b.getD 0 0,(b.drop 9).take (lenOf (b.take 5))⟩,lenOf (b.take 5)+13,0)
theorem X4 {b:List UInt8} (h:b.length<9):getS b=(vN,0,2):=by unfold getS;rw[if_pos h]
theorem zc4 {b:List UInt8} (h:¬b.length<9) (h2:fitB (b.take 9)=false):getS b=(vN,0,5):=by unfold getS;rw[if_neg h,if_pos h2]
theorem zc3 {b:List UInt8} {n:Nat} (h:¬b.length<9) (h2:fitB (b.take 9)=true) (hn:n=lenOf (b.take 5)) (h3:1048576<n):getS b=(vN,0,4):=by
 subst hn;unfold getS;rw[if_neg h,if_neg (by simp[h2]),if_pos h3]
theorem zfr {b:List UInt8} {n:Nat} (h:¬b.length<9) (h2:fitB (b.take 9)=true) (hn:n=lenOf (b.take 5)) (h3:¬1048576<n) (h4:b.length<n+13):getS b=(vN,0,2):=by
 subst hn;unfold getS;rw[if_neg h,if_neg (by simp[h2]),if_neg h3,if_pos h4]
theorem zfs {b:List UInt8} {n:Nat} (h:¬b.length<9) (h2:fitB (b.take 9)=true) (hn:n=lenOf (b.take 5)) (h3:¬1048576<n) (h4:¬b.length<n+13) (h5:fitB ((b.drop 9).take (n+4))=false):getS b=(vN,0,5):=by
 subst hn;unfold getS;rw[if_neg h,if_neg (by simp[h2]),if_neg h3,if_neg h4,if_pos h5]
theorem VE {b:List UInt8} {n:Nat} (h:¬b.length<9) (h2:fitB (b.take 9)=true) (hn:n=lenOf (b.take 5)) (h3:¬1048576<n) (h4:¬b.length<n+13) (h5:fitB ((b.drop 9).take (n+4))=true) :
 getS b=(⟨b.getD 0 0,(b.drop 9).take n⟩,n+13,0):=by
 subst hn;unfold getS;rw[if_neg h,if_neg (by simp[h2]),if_neg h3,if_neg h4,if_neg (by simp[h5])]
theorem vg (b:List UInt8):(∃x:Int,getS b=(vN,0,x)/\x≠0)\/(∃s n,getS b=(s,n+13,0)/\s.body.length=n/\n<=1048576/\n+13<=b.length):=by
 unfold getS
 split
 ·exact .inl ⟨2,rfl,by decide⟩
 ·split
  ·exact .inl ⟨5,rfl,by decide⟩
  ·split
   ·exact .inl ⟨4,rfl,by decide⟩
   ·split
    ·exact .inl ⟨2,rfl,by decide⟩
    ·split
     ·exact .inl ⟨5,rfl,by decide⟩
     ·refine .inr ⟨_,_,rfl,?_,by omega,by omega⟩;show ((b.drop 9).take _).length=_
      rw[List.length_take,List.length_drop];omega
theorem zfq (s:SecD) (m:List UInt8) (hs:s.body.length<=1048576):getS (encS s++m)=(s,s.body.length+13,0):=by
 have hl:(Cr.mark (head s.kind s.body.length)).length=9:=by rw[zO,vK]
 have e9:(encS s++m).take 9=Cr.mark (head s.kind s.body.length):=by
  unfold encS;rw[List.append_assoc,<-hl,List.take_left]
 have e5:(encS s++m).take 5=head s.kind s.body.length:=by
  have:(encS s++m).take 5=((encS s++m).take 9).take 5:=by rw[List.take_take];rfl
  rw[this,e9];unfold Cr.mark;rw[show (5:Nat)=(head s.kind s.body.length).length from rfl,List.take_left]
 have ed:(encS s++m).drop 9=Cr.mark s.body++m:=by
  unfold encS;rw[List.append_assoc,<-hl,List.drop_left]
 have hn:lenOf ((encS s++m).take 5)=s.body.length:=by rw[e5,zgj _ (by omega)]
 have hlen:(encS s++m).length=s.body.length+13+m.length:=by rw[List.length_append,vM]
 have et:((encS s++m).drop 9).take (s.body.length+4)=Cr.mark s.body:=by rw[ed,<-zO,List.take_left]
 have eb:((encS s++m).drop 9).take s.body.length=s.body:=by rw[ed];unfold Cr.mark;rw[List.append_assoc,List.take_left]
 have e0:(encS s++m).getD 0 0=s.kind:=rfl;rw[VE (n:=s.body.length) (by omega) (by rw[e9];exact zdb _) hn.symm (by omega) (by omega) (by rw[et];exact zdb _),e0,eb]
def allS:Nat->List SecD->List UInt8->List SecD×Int
 |0,acc,_=>(acc,0)
 |f+1,acc,b=>if b=[] then (acc,0) else if (getS b).2.2=0 then allS f (acc++[(getS b).1]) (b.drop (getS b).2.1) else ([],(getS b).2.2)
theorem zfE (f:Nat) (acc:List SecD):allS f acc []=(acc,0):=by cases f<;>simp[allS]
theorem zbN {f:Nat} {acc:List SecD} {b:List UInt8} {s:SecD} {n:Nat} {x:Int} (hb:b≠[]) (h:getS b=(s,n,x)) (hx:x≠0):allS (f+1) acc b=([],x):=by
 rw[allS,if_neg hb,h,if_neg hx]
theorem VP {f:Nat} {acc:List SecD} {b:List UInt8} {s:SecD} {n:Nat} (hb:b≠[]) (h:getS b=(s,n,0)):allS (f+1) acc b=allS f (acc++[s]) (b.drop n):=by
 rw[allS,if_neg hb,h,if_pos rfl]
def qO (b:List UInt8):List SecD×Int:=allS b.length [] b
end Fr
section
open Go.RowKit Me Fr
def VQ (w:World) (B:Nat) (v:Value) (l:List UInt8):Prop:=∃A n c,v=.slice A n c/\l.length=n/\n<=9223372036854775807/\Rd w B A l
section
variable {w w':World} {B B':Nat} {v:Value} {l:List UInt8}
theorem VQ.more (h:VQ w B v l) (hB:B<=B'):VQ w B' v l:=by
 obtain ⟨A,n,c,h1,h2,h3,h5⟩:=h;exact ⟨A,n,c,h1,h2,h3,h5.more hB⟩
theorem VQ.keep (h:VQ w B v l) (hk:∀p:Addr,p.block<B->w'.cell? p=w.cell? p):VQ w' B v l:=by
 obtain ⟨A,n,c,h1,h2,h3,h5⟩:=h;exact ⟨A,n,c,h1,h2,h3,h5.keep hk⟩
end
def zA (w:World) (B:Nat):List Value->List SecD->Prop
 |[],[]=>True
 |k::b::vs,s::l=>k=.int .u8 (s.kind.toNat:Int)/\VQ w B b s.body/\zA w B vs l
 |_,_=>False
section
variable {w w':World} {B B':Nat}
theorem zA.keep (hk:∀p:Addr,p.block<B->w'.cell? p=w.cell? p):∀{vs:List Value} {l:List SecD},zA w B vs l->zA w' B vs l
 |[],[],_=>trivial
 |_::_::_,_::_,⟨h1,h2,h3⟩=>⟨h1,h2.keep hk,zA.keep hk h3⟩
 |[],_::_,h=>h.elim
 |[_],[],h=>h.elim
 |[_],_::_,h=>h.elim
 |_::_::_,[],h=>h.elim
theorem zA.more (hB:B<=B'):∀{vs:List Value} {l:List SecD},zA w B vs l->zA w B' vs l
 |[],[],_=>trivial
 |_::_::_,_::_,⟨h1,h2,h3⟩=>⟨h1,h2.more hB,zA.more hB h3⟩
 |[],_::_,h=>h.elim
 |[_],[],h=>h.elim
 |[_],_::_,h=>h.elim
 |_::_::_,[],h=>h.elim
theorem zA.below {vs:List Value} {l:List SecD} (h:zA w B vs l) (hb:Below B w w'):zA w' B vs l:=zA.keep (fun _ hp=>hb.cell hp) h
theorem zA.length:∀{vs:List Value} {l:List SecD},zA w B vs l->vs.length=l.length*2
 |[],[],_=>rfl
 |k::b::vs,s::l,⟨_,_,h3⟩=>by have:=zA.length h3;simp only[List.length_cons];omega
 |[],_::_,h=>h.elim
 |[_],[],h=>h.elim
 |[_],_::_,h=>h.elim
 |_::_::_,[],h=>h.elim
theorem zA.snoc {b:Value} {s:SecD} (hb:VQ w B b s.body):∀{vs:List Value} {l:List SecD},zA w B vs l->zA w B (vs++[.int .u8 (s.kind.toNat:Int),b]) (l++[s])
 |[],[],_=>⟨rfl,hb,trivial⟩
 |_::_::_,_::_,⟨h1,h2,h3⟩=>⟨h1,h2,zA.snoc hb h3⟩
 |[],_::_,h=>h.elim
 |[_],[],h=>h.elim
 |[_],_::_,h=>h.elim
 |_::_::_,[],h=>h.elim
theorem zA.get:∀{vs:List Value} {l:List SecD} {k:Nat} {s:SecD},zA w B vs l->l[k]?=some s->vs[k*2]?=some (.int .u8 (s.kind.toNat:Int))/\∃b,vs[k*2+1]?=some b/\VQ w B b s.body
 |k::b::vs,s::l,0,t,⟨h1,h2,_⟩,h=>by
  simp at h;subst h;exact ⟨by rw[h1];rfl,b,rfl,h2⟩
 |k::b::vs,s::l,j+1,t,⟨_,_,h3⟩,h=>by
  have:=zA.get (k:=j) h3 (by simpa using h);rw[show (j+1)*2=j*2+1+1 by omega]
  simpa only [List.getElem?_cons_succ] using this
 |_,[],_,_,_,h=>by simp at h
 |[],_::_,_,_,h,_=>h.elim
 |[_],_::_,_,_,h,_=>h.elim
end
def vY (r:Option Nat):List Value->List SecD->Prop
 |[],[]=>True
 |_::b::vs,s::l=>(0<s.body.length->∀a n c,b=.slice (some a) n c->r≠some a.block)/\vY r vs l
 |_,_=>False
theorem vY.snoc {r:Option Nat} {k b:Value} {s:SecD} (hb:0<s.body.length->∀a n c,b=.slice (some a) n c->r≠some a.block):∀{vs:List Value} {l:List SecD},vY r vs l->vY r (vs++[k,b]) (l++[s])
 |[],[],_=>⟨hb,trivial⟩
 |_::_::_,_::_,⟨h2,h3⟩=>⟨h2,vY.snoc hb h3⟩
 |[],_::_,h=>h.elim
 |[_],[],h=>h.elim
 |[_],_::_,h=>h.elim
 |_::_::_,[],h=>h.elim
theorem vY.of_new {w:World} {B g:Nat} (hg:B<=g):∀{vs:List Value} {l:List SecD},zA w B vs l->vY (some g) vs l
 |[],[],_=>trivial
 |_::_::_,_::_,⟨_,h2,h3⟩=>by
  refine ⟨fun h0 a n c e h=>?_,vY.of_new hg h3⟩;obtain ⟨A,m,d,e1,_,_,hr⟩:=h2;rw[e] at e1;injection e1 with e1;obtain ⟨a',e2,hb,_⟩:=hr h0;rw[<-e1] at e2;injection e2 with e2;injection h with h;subst e2;omega
 |[],_::_,h=>h.elim
 |[_],[],h=>h.elim
 |[_],_::_,h=>h.elim
 |_::_::_,[],h=>h.elim
theorem zA.grown {w w':World} {B:Nat} {r:Option Nat} (hg:w.grownBy w' r) (hB:B<=w.heap.size):∀{vs:List Value} {l:List SecD},zA w B vs l->vY r vs l->zA w' B vs l
 |[],[],_,_=>trivial
 |_::_::_,_::_,⟨h1,h2,h3⟩,⟨o2,o3⟩=>by
  refine ⟨h1,?_,zA.grown hg hB h3 o3⟩;obtain ⟨A,m,d,rfl,e2,e3,hr⟩:=h2;refine ⟨A,m,d,rfl,e2,e3,fun h0=>?_⟩;obtain ⟨a,rfl,hb,hc⟩:=hr h0;exact ⟨a,rfl,hb,fun i u hu=>(World.cell?_of_block (hg.block _ (by rw[block_add];omega) (fun e=>o2 h0 a m d rfl (by rw[block_add] at e;exact e.symm)))).trans (hc i u hu)⟩
 |[],_::_,h,_=>h.elim
 |[_],[],h,_=>h.elim
 |[_],_::_,h,_=>h.elim
 |_::_::_,[],h,_=>h.elim
section
variable {w w':World} {B B':Nat} {L:Option Addr} {l:List SecD}
end
open Go.ChangeShapes Go.WideShapes
theorem zbJ {H:Type} {enc:TypeId×Value->H} {P:Program} {W:World} {t e:TypeId} {fuel:Nat} {cs:List Value} {x:DataW H×List MemPlace} (ht:P.underlying t=some (.slice e)) (he:P.underlying e=some (.int .u8)) (hc:P.cellsOf e=1)
 (hf:DataW.trod enc P W 0 (fun _=>true) true fuel t cs=some x):∃v l,cs=[v]/\VQ W W.heap.size v l:=by
 rcases ChangeShapes.open_ints ht he hc hf with ⟨hcs,hx⟩|⟨a,len,cap,zs,hcs,_,hl,hm,hz,hx,hcell,hwz⟩
 ·exact ⟨_,[],hcs,_,_,_,rfl,rfl,by omega,Rd.empty⟩
 ·simp only[if_true] at hz;refine ⟨_,(zs.take len).map (fun z=>UInt8.ofNat z.toNat),hcs,_,_,_,rfl,by simp;omega,by unfold maxLen at hm;omega,fun hn=>?_⟩;have hn':0<len:=by simp at hn;omega
  have h0:=hcell 0 (by omega);have hb:=block_lt_of_cell h0;rw[Me.block_add] at hb;refine ⟨a,rfl,hb,fun i u hu=>?_⟩;rw[List.getElem?_map] at hu;have hi:i<len:=by
   rcases Nat.lt_or_ge i len with h|h
   ·exact h
   ·rw[List.getElem?_take,if_neg (by omega)] at hu;cases hu
  rw[List.getElem?_take,if_pos hi,List.getElem?_eq_getElem (by omega)] at hu;injection hu with hu;have hw:=hwz zs[i] (List.getElem_mem _);have e1:zs.getD i 0=zs[i]:=by rw[List.getD_eq_getElem?_getD,List.getElem?_eq_getElem (by omega)];rfl
  rw[hcell i (by omega),e1,<-hu];simp[Lit.wf,IntKind.min,IntKind.max,IntKind.bits,IntKind.signed] at hw
  congr 2
  rw[UInt8.toNat_ofNat'];omega
end
section
open Go.RowKit Cr Me
theorem zkj (n:Nat) (w:World) (hn:n<=70368744177664) :
 Calls Tryz.prog 83 #[.slice none 0 0,.int .i64 (n:Int)] w fun e w'=>∃v,e=.returned v/\w'.ownsRow w.heap.size 5 1 v 0 []/\Below w.heap.size w w':=by
 obtain ⟨i0,hi0,hz0,hz1,hz2⟩:=info_parts yO
 by_cases h0:n=0
 ·subst h0
  go_enter Tryz.func83,Tryz.ntmps83
  go_wp2
  go_ret
  exact ⟨_,rfl,World.ownsRow_nil _ _ _ _,Below.refl _ _⟩
 ·have hpos:0<n:=by omega
  have hold:(Builtin.firstCells i0.size 0 (.slice none 0 0)).run Tryz.prog w.drew=.ok ([]:List Value).toArray w.drew:=run_firstCells_none w.drew i0.size 0 0 0;have hrz:∀ty,(Builtin.append_ #[24,3] ty #[.slice none 0 0,.int .i64 (n:Int)]).run Tryz.prog w=_:=fun ty=>
   Lib.run_append_grow_zeros w 24 3 ty 5 i0 (.int .u8 0) .i64 .i64 Tryz.underlying24 Tryz.underlying3 hi0 hz0 none 0 0 [] hold n hpos (by omega) (by omega) (by omega) (by rw[hz2];omega)
    (by rw[hz2,Nat.zero_add];exact growslice_fits hpos (by omega))
  rw[Nat.zero_add] at hrz;obtain ⟨G,hG⟩:∃G,G=grownCap w n 0 5:=⟨_,rfl⟩
  have hGn:n<=G:=by rw[hG];exact grownCap_ge w _ _ _
  have hG63:G<=9223372036854775807:=by
   have:=grownCap_le_maxLen w n 0 5 (by unfold maxLen;omega);rw[<-hG] at this;unfold maxLen at this;omega
  rw[<-hG] at hrz;have HG:=gI hG;clear hG hold;obtain ⟨C,hC⟩:∃C:Array Value,C=(([]:List Value).toArray++Builtin.zeroCells (Value.int .u8 0).cells n++Builtin.zeroCells (Value.int .u8 0).cells (G-n)):=⟨_,rfl⟩
  have hCs:C.size=G*1:=by
   rw[hC];simp[Builtin.zeroCells,Value.cells];omega
  rw[<-hC] at hrz;clear hC;have HO:=gI (show (w.drew.alloc (.cells C 5)).ownsRow w.heap.size 5 1 (.slice (some ⟨w.heap.size,0,none⟩) 0 G) 0 [] from World.ownsRow_made w.drew C G (Nat.le_refl _) (by unfold maxLen;omega) hCs);have HB:=gI (show Below w.heap.size w (w.drew.alloc (.cells C 5)) from ((Below.refl _ _).drew).alloc (Nat.le_refl _) _);clear hCs hz0 hz1 hz2 hi0
  go_enter Tryz.func83,Tryz.ntmps83
  go_wp2_with (at_builtin;refine Lib.wpList_append_run _ rfl _ _ _ _ rfl _ _ rfl rfl _ _ (hrz _) ?_)
  go_ret
  exact ⟨_,rfl,HO.out,HB.out⟩
theorem Yi (ls:List (List UInt8)) (k:Nat):(ls.take k).flatten.length<=ls.flatten.length:=by
 conv=>rhs;rw[<-List.take_append_drop k ls,List.flatten_append,List.length_append]
 omega
theorem X9 (L:Option Addr) (n c:Nat) (ls:List (List UInt8)) (w:World) (hl:ls.length=n) (hn:n<=70368744177664) (hf:ls.flatten.length<=70368744177664) (hp:Parts w w.heap.size L ls) :
 Calls Tryz.prog 52 #[.slice L n c] w (News w ls.flatten):=by
 obtain ⟨i0,hi0,hz0,hz1,hz2⟩:=info_parts yO;have HL:=gI hl;have HP:=gI hp;have HF:=gI hf;clear hl hp hf
 go_enter Tryz.func52,Tryz.ntmps52
 go_wp2
 go_loop [3,11] (fun x i=>∃k:Nat,k<=n/\i=.int .i64 k/\∃s:Nat,s<=70368744177664/\Hid (s=(ls.take k).flatten.length)/\x=.int .i64 (s:Int)) (fun _ i=>n-(intOf i).toNat)
 case atStart=>exact ⟨0,Nat.zero_le _,rfl,0,by omega,gI rfl,rfl⟩
 case round=>
  obtain ⟨k,hk,rfl,s,hs,HS,rfl⟩:=hrel
  by_cases hlt:k<n
  ·have hlt':k<ls.length:=by rw[HL.out];exact hlt
   obtain ⟨a,l,A,m,c2,rfl,hlk,-,hc,hm,hm63,hrd⟩:=HP.out.at hlt';obtain ⟨t,ht⟩:∃t,t=s+m:=⟨_,rfl⟩
   have htk:t=(ls.take (k+1)).flatten.length:=by rw[vW hlk,List.length_append,<-HS.out,hm,ht]
   have ht1:t<=70368744177664:=by rw[htk];exact Nat.le_trans (Yi _ _) HF.out
   have hst:(s:Int)+(m:Int)=(t:Int):=by omega
   have hneg:decide ((t:Int)<0)=false:=by simp
   have HT:=gI htk;have hmt:m<=70368744177664:=by omega
   clear hlk hm hrd htk ht hlt'
   go_wp2
   go_round
   case rel=>exact ⟨k+1,by omega,by go_num,t,ht1,HT,by go_num⟩
   case measure=>simp[intOf];omega
  ·go_wp2_with fail
   refine (zkj s w hs).mono ?_;rintro e w1 ⟨v1,rfl,ho1,hb1⟩;have HO1:=gI (show ∃m,m<=70368744177664/\w1.ownsRow w.heap.size 5 1 v1 m (cellsOf (ls.take 0).flatten)/\Below w.heap.size w w1 from ⟨0,by omega,by simpa [cellsOf] using ho1,hb1⟩);clear ho1 hb1
   go_wp2
   go_loopw [6,27] (fun v i wr=>∃k:Nat,k<=n/\i=.int .i64 k/\Hid (∃m,m<=70368744177664/\wr.ownsRow w.heap.size 5 1 v m (cellsOf (ls.take k).flatten)/\Below w.heap.size w wr)) (fun _ i _=>n-(intOf i).toNat)
   case atStart=>exact ⟨0,Nat.zero_le _,rfl,HO1⟩
   case round=>
    clear HO1;obtain ⟨j,hj,rfl,HJ⟩:=hrel;obtain ⟨q,hq,hown,hbw⟩:=HJ.out;have HW:=gI hown;have HB:=gI hbw;have hsz:=hbw.size;have hqn:=hown.1;rw[za] at hqn;have HQ:=gI hqn;clear hown hbw HJ hqn
    by_cases hjlt:j<n
    ·have hlt':j<ls.length:=by rw[HL.out];exact hjlt
     obtain ⟨a,l,A,m,c2,rfl,hlk,-,hc,hm,hm63,hrd⟩:=(HP.out.below HB.out).at hlt';have hqm:q+m<=70368744177664:=by
      have h1:(ls.take (j+1)).flatten.length=q+m:=by rw[vW hlk,List.length_append,HQ.out,hm,Nat.mul_one]
      have h2:=Yi ls (j+1);have h3:=HF.out;omega
     have HM:=gI hm;have HD:=gI hrd;have HK:=gI hlk;clear hlk hm hrd hlt'
     go_wp2_with (at_builtin
                  refine zF rfl (.tmp 31) (.tmp 32) 24 rfl w.heap.size 5 i0 _ Tryz.underlying24 hi0 hz0 hz1 hz2 rfl u6 q _ rfl HW.out w.heap.size A m c2 l rfl HM.out HD.out (by omega) hsz ?_;intro v5 w5 hown5 hg5 hat5;have HREL:=gI (show ∃m,m<=70368744177664/\w5.ownsRow w.heap.size 5 1 v5 m (cellsOf (ls.take (j+1)).flatten)/\Below w.heap.size w w5 from
                   ⟨q+m,hqm,by rw[vW HK.out];exact hown5,yj HB.out HW.out (Nat.le_refl _) hsz hg5⟩)
                  clear hown5 hg5 hat5)
     go_roundw
     case rel=>exact ⟨j+1,by omega,by go_num,HREL⟩
     case measure=>simp[intOf];omega
    ·have hw:wr.ownsRow w.heap.size 5 1 u6 q (cellsOf ls.flatten):=by
      have:=HW.out;rw[List.take_of_length_le (by rw[HL.out];omega)] at this;exact this
     have HWE:=gI hw;clear hw
     go_wp2
     go_ret
     exact ⟨u6,q,rfl,HWE.out,HB.out⟩
theorem zhI {w:World} {B:Nat} {A A' A'':Option Addr} {m c m' c' m'' c'':Nat} {l l' l'':List UInt8} (t:TypeId) (hl:l.length=m) (hm:m<=9223372036854775807) (hl':l'.length=m') (hm':m'<=9223372036854775807) (hl'':l''.length=m'') (hm'':m''<=9223372036854775807) (hB:B<=w.heap.size) (hr:Rd w B A l) (hr':Rd w B A' l') (hr'':Rd w B A'' l'') {H:Nat} (hH:w.heap.size=H) :
 Parts (w.alloc (.cells #[.slice A m c,.slice A' m' c',.slice A'' m'' c''] t)) (w.alloc (.cells #[.slice A m c,.slice A' m' c',.slice A'' m'' c''] t)).heap.size (some ⟨H,0,none⟩) [l,l',l'']:=fun _=>by
 subst hH;have hh:=heap_alloc_new w (.cells #[.slice A m c,.slice A' m' c',.slice A'' m'' c''] t);have e:∀i,(⟨w.heap.size,0,none⟩:Addr).add i=⟨w.heap.size,i,none⟩:=fun i=>by unfold Addr.add;split<;>simp_all
 refine ⟨_,rfl,by simp,fun i x hx=>?_⟩;have hi:i<3:=by
  have:=(List.getElem?_eq_some_iff.1 hx).1
  simpa using this
 have h3:i=0\/i=1\/i=2:=by omega
 rw[e];rcases h3 with rfl|rfl|rfl
 ·have hll:l=x:=by simpa using hx
  subst hll;exact ⟨A,m,c,by simp only[World.cell?,hh];rfl,hl,hm,(hr.alloc hB _).more (by simp;omega)⟩
 ·have hll:l'=x:=by simpa using hx
  subst hll;exact ⟨A',m',c',by simp only[World.cell?,hh];rfl,hl',hm',(hr'.alloc hB _).more (by simp;omega)⟩
 ·have hll:l''=x:=by simpa using hx
  subst hll;exact ⟨A'',m'',c'',by simp only[World.cell?,hh];rfl,hl'',hm'',(hr''.alloc hB _).more (by simp;omega)⟩
end
section
open Go.RowKit Cr Me Fr
theorem zkb (k:UInt8) (n:Nat) (hn:n<=1048576):(#[.int .u8 (k.toNat:Int),.int .u8 ((n:Int)%256),.int .u8 ((n:Int) / 256%256),.int .u8 ((n:Int) / 65536),.int .u8 ((n:Int) / 16777216)]:Array Value).toList=cellsOf (head k n):=by
 have e:(BitVec.ofNat 32 n).toNat=n:=by rw[BitVec.toNat_ofNat];omega
 have h:=QM (BitVec.ofNat 32 n);rw[e,show (n:Int) / 65536%256=(n:Int) / 65536 by omega] at h;show _=Value.int .u8 (k.toNat:Int)::cellsOf (four (BitVec.ofNat 32 n))
 rw[<-h]
theorem zgp (k:UInt8) (A:Option Addr) (n c:Nat) (w:World) (hn:n<=1048576) :
 Calls Tryz.prog 108 #[.agg #[.int .u8 (k.toNat:Int),.slice A n c]] w (News w (head k n)):=by
 have hk:=k.toNat_lt
 go_enter Tryz.func108,Tryz.ntmps108
 go_wp2
 go_ret
 have hw:(w.alloc (.cells #[.int .u8 (k.toNat:Int),.slice A n c] 144)).heap.size=w.heap.size+1:=by simp
 have ho:=World.ownsRow_lit (base:=w.heap.size) (e:=5) (size:=1) (w.alloc (.cells #[.int .u8 (k.toNat:Int),.slice A n c] 144)) #[.int .u8 (k.toNat:Int),.int .u8 ((n:Int)%256),.int .u8 ((n:Int) / 256%256),.int .u8 ((n:Int) / 65536),.int .u8 ((n:Int) / 16777216)] 5 (by simp) (by unfold maxLen;omega) rfl;rw[zkb k n hn,hw] at ho;exact ⟨_,5,rfl,ho,((Below.refl _ _).alloc (Nat.le_refl _) _).alloc (by simp) _⟩
end
section
open Go.RowKit Cr Me Fr
def V7 (B H:Nat) (A M:Option Addr) (n c m d:Nat) (b:List UInt8) (s:SecD):Gw.Fact:=fun t v w=>
 match t with
 |0|12=>v=.slice A n c
 |3=>v=.pointer (some ⟨H,0,none⟩)
 |13=>v=.agg #[.int .u8 (s.kind.toNat:Int),.slice M m d]
 |14=>∃X cx,v=.slice X 5 cx/\Rd w w.heap.size X (head s.kind m)
 |15=>∃X cx,v=.slice X 9 cx/\Rd w w.heap.size X (Cr.mark (head s.kind m))
 |16=>v=.pointer (some ⟨H,1,none⟩)
 |17=>v=.slice M m d
 |18=>∃X cx,v=.slice X (m+4) cx/\Rd w w.heap.size X (Cr.mark s.body)
 |19=>∃X,v=.slice X 3 3/\Parts w w.heap.size X [b,Cr.mark (head s.kind m),Cr.mark s.body]
 |4|20=>∃k,w.ownsRow B 5 1 v k (cellsOf (b++encS s))
 |5=>v=.int .i64 0
 |_=>True
theorem zc6 (A:Option Addr) (n c:Nat) (b:List UInt8) (M:Option Addr) (m d:Nat) (s:SecD) (w:World) (hb:b.length=n) (hn:n<=35184372088832) (hr:Rd w w.heap.size A b)
 (hs:s.body.length=m) (hm:m<=1048576) (hrs:Rd w w.heap.size M s.body) :
 Calls Tryz.prog 69 #[.slice A n c,.agg #[.int .u8 (s.kind.toNat:Int),.slice M m d]] w (Yp w (b++encS s) 0):=by
 have hk:=s.kind.toNat_lt;have d1:decide ((1048576:Int)<(m:Int))=false:=by simp;omega
 have HB:=gI hb;have HR:=gI hr;have HS:=gI hs;have HRS:=gI hrs;clear hb hr hs hrs
 go_enter Tryz.func69,Tryz.ntmps69
 go_wp2_with fail
 have T:=gI (Two.new w (.int .u8 (s.kind.toNat:Int)) (.slice M m d) 144);have HB0:=gI (show Below w.heap.size w (w.alloc (.cells #[.int .u8 (s.kind.toNat:Int),.slice M m d] 144)) from (Below.refl _ _).alloc (Nat.le_refl _) _)
 generalize hw1:w.alloc (.cells #[.int .u8 (s.kind.toNat:Int),.slice M m d] 144)=w1 at *
 refine Gw.zl (V7 w.heap.size w.heap.size A M n c m d b s) [12,13,14,15,16,17,18,19,20,4,5] [([0],none),([3],none),([13],none),([14],none),([3],none),([16],none),([17],none),([12,15,18],none),([19],none),([20],none),([],none)] 21 (by kernel_rfl) (by kernel_rfl) rfl ?h0 ?hreq ?hend
 case h0=>
  intro t W hnd _;unfold V7
  split<;>first|rfl|trivial|exact absurd (by simp) hnd
 case hreq=>
  refine ⟨?_,?_,?_,?_,?_,?_,?_,?_,?_,?_,?_,trivial⟩
  all_goals
   intro a W hg hk;have hg':Below w1.heap.size w1 W:=hg;obtain ⟨k1,k2,-,-⟩:=T.out.past hg';simp only[Gw.Knows,V7] at hk
   try (simp[go_sem,Gw.zw,Gw.Ok,Gw.Post,Gw.Holds,V7,Gw.zk.refl,hk,k1,k2];done)
  ·simp[go_sem,Gw.zw,Gw.Ok,Gw.Post,Gw.Holds,V7,Gw.zk.refl,hk];refine (zgp s.kind M m d W hm).mono ?_;intro e w5 h5;obtain ⟨X,n5,c5,rfl,hl,-,-,hr5,hb5⟩:=h5.open;have e5:n5=5:=hl.symm.trans (vK _ _);subst e5;exact ⟨_,rfl,hb5,fun W2 hW2=>⟨X,⟨c5,rfl⟩,(hr5.below hW2).more (Below.size hW2)⟩⟩
  ·obtain ⟨⟨X,cx,he,hr5⟩,-⟩:=hk;simp[go_sem,Gw.zw,Gw.Ok,Gw.Post,Gw.Holds,V7,Gw.zk.refl,he];refine (Vq X 5 cx _ W (vK _ _) (by omega) hr5).mono ?_;intro e w5 h5;obtain ⟨X,n5,c5,rfl,hl,-,-,hr5,hb5⟩:=h5.open;have e5:n5=9:=hl.symm.trans (zO _);subst e5;exact ⟨_,rfl,hb5,fun W2 hW2=>⟨X,⟨c5,rfl⟩,(hr5.below hW2).more (Below.size hW2)⟩⟩
  ·simp[go_sem,Gw.zw,Gw.Ok,Gw.Post,Gw.Holds,V7,Gw.zk.refl,hk];refine (Vq M m d s.body W HS.out (by omega) ((HRS.out.below (HB0.out.trans (hg'.mono HB0.out.size))).more (Nat.le_trans HB0.out.size hg'.size))).mono ?_;intro e w5 h5;obtain ⟨X,n5,c5,rfl,hl,-,-,hr5,hb5⟩:=h5.open;have e5:n5=m+4:=by rw[<-hl,zO,HS.out]
   subst e5;exact ⟨_,rfl,hb5,fun W2 hW2=>⟨X,⟨c5,rfl⟩,(hr5.below hW2).more (Below.size hW2)⟩⟩
  ·obtain ⟨h12,⟨X,cx,he,hr5⟩,⟨X',cx',he',hr5'⟩,-⟩:=hk;simp[go_sem,Gw.zw,Gw.Ok,Gw.Post,Gw.Holds,V7,h12,he,he'];have hsz:w.heap.size<=W.heap.size:=Nat.le_trans HB0.out.size hg'.size;have hrA:=(HR.out.below (HB0.out.trans (hg'.mono HB0.out.size))).more hsz;exact ⟨(Below.refl _ _).alloc (Nat.le_refl _) _,fun W2 hW2=>((zhI 24 HB.out (by omega) (show (Cr.mark (head s.kind m)).length=9 from zO _) (by omega) (show (Cr.mark s.body).length=m+4 from (zO _).trans (by rw[HS.out])) (by omega) (Nat.le_refl _) hrA hr5 hr5' rfl).below hW2).more (Below.size hW2)⟩
  ·obtain ⟨⟨X,he,hp5⟩,-⟩:=hk;simp[go_sem,Gw.zw,Gw.Ok,Gw.Post,Gw.Holds,V7,Gw.zk.refl,he];have hfl:([b,Cr.mark (head s.kind m),Cr.mark s.body]:List (List UInt8)).flatten=b++encS s:=by
    unfold encS;rw[HS.out];simp
   refine (X9 X 3 3 _ W rfl (by omega) (by rw[hfl,List.length_append,vM,HS.out,HB.out];omega) hp5).mono ?_;rw[hfl];rintro e w5 ⟨v5,n5,rfl,ho5,hb5⟩;have hsz:w.heap.size<=W.heap.size:=Nat.le_trans HB0.out.size hg'.size;exact ⟨_,rfl,hb5,fun W2 hW2=>⟨n5,own_below (zU ho5 hsz) hW2⟩⟩
  ·obtain ⟨⟨k,ho⟩,-⟩:=hk;simp[go_sem,Gw.zw,Gw.Ok,Gw.Post,Gw.Holds,V7,Gw.zk.refl];exact fun W2 hW2=>⟨k,own_below ho hW2⟩
 case hend=>
  intro x w' hg hx;obtain ⟨k,h4⟩:=(show ∃k,w'.ownsRow w.heap.size 5 1 (x 4) k (cellsOf (b++encS s)) from (hx 4 (by simp)).now)
  have h5:x 5=.int .i64 0:=(hx 5 (by simp)).now;have HO:=gI h4;have HE:=gI (HB0.out.trans (Below.mono (show Below w1.heap.size w1 w' from hg) HB0.out.size));clear h4;simp only[Gw.zm,Act.put,List.setIfInBounds_toArray,List.set_cons_zero,List.set_cons_succ];rw[h5]
  go_wp2
  exact bodyPost_ret (v:=.tuple #[x 4,.int .i64 0]) (by simp[results,Tryz.results69,go_sem]) rfl ⟨x 4,k,rfl,HO.out,HE.out⟩
theorem zit (A:Option Addr) (n c:Nat) (b:List UInt8) (k:UInt8) (M:Option Addr) (m d:Nat) (w:World) (hb:b.length=n) (hn:n<=35184372088832) (hr:Rd w w.heap.size A b) (hm:1048576<m) :
 Calls Tryz.prog 69 #[.slice A n c,.agg #[.int .u8 (k.toNat:Int),.slice M m d]] w (Yp w b 4):=by
 have hk:=k.toNat_lt;have d1:decide ((1048576:Int)<(m:Int))=true:=by simp;omega
 have HB:=gI hb;have HR:=gI hr;clear hb hr
 go_enter Tryz.func69,Tryz.ntmps69
 go_wp2_with fail
 have HB0:=gI (show Below w.heap.size w (w.alloc (.cells #[.int .u8 (k.toNat:Int),.slice M m d] 144)) from (Below.refl _ _).alloc (Nat.le_refl _) _);refine (xV A n c b _ HB.out (by omega) ((HR.out.below HB0.out).more HB0.out.size)).mono ?_;rintro e w2 ⟨v,q,rfl,ho,hb2⟩;have HO:=gI (zU ho HB0.out.size);have HB2:=gI (HB0.out.trans (hb2.mono HB0.out.size));clear ho hb2
 go_wp2
 exact bodyPost_ret (v:=.tuple #[v,.int .i64 4]) (by simp[results,Tryz.results69,go_sem]) rfl ⟨v,q,rfl,HO.out,HB2.out⟩
end
section
open Go.RowKit Cr Me Fr
def rfG1 (B H:Nat) (M:Option Addr) (m d:Nat) (s:SecD) (r:Reg):Gw.Fact:=fun t v w=>
 match t with
 |1|4=>v=.pointer (some ⟨H,0,none⟩)
 |5=>v=.int .u8 (s.kind.toNat:Int)
 |6=>w.ownsRow B 5 1 v 1 (cellsOf [s.kind])
 |7=>v=.pointer (some ⟨H,1,none⟩)
 |8=>v=.slice M m d
 |9=>v=.int .i64 (m:Int)
 |10=>v=.int .u32 (r.toNat:Int)
 |11=>∃X,v=.slice X 4 4/\Rd w w.heap.size X (four r)
 |_=>True
def rfG2 (B H:Nat) (X M:Option Addr) (cx m d:Nat) (s:SecD):Gw.Fact:=fun t v w=>
 match t with
 |1=>v=.pointer (some ⟨H,0,none⟩)
 |3|13=>v=.slice X 5 cx
 |14=>w.ownsRow B 5 1 v 9 (cellsOf (Cr.mark (head s.kind m)))
 |15=>v=.pointer (some ⟨H,1,none⟩)
 |16=>v=.slice M m d
 |17=>∃Y cy,v=.slice Y (m+4) cy/\Rd w w.heap.size Y (Cr.mark s.body)
 |_=>True
theorem zcm (M:Option Addr) (m d:Nat) (s:SecD) (w:World) (hs:s.body.length=m) (hm:m<=1048576) (hrs:Rd w w.heap.size M s.body) :
 Calls Tryz.prog 99 #[.agg #[.int .u8 (s.kind.toNat:Int),.slice M m d]] w (News w (encS s)):=by
 obtain ⟨i0,hi0,hz0,hz1,hz2⟩:=info_parts yO;have hk:=s.kind.toNat_lt;have HS:=gI hs;have HRS:=gI hrs;obtain ⟨r,hr⟩:∃r:Reg,r=BitVec.ofNat 32 m:=⟨_,rfl⟩
 have hmr:(r.toNat:Int)=(m:Int):=by rw[hr,BitVec.toNat_ofNat];omega
 have HRr:=gI hr;have HMR:=gI hmr;clear hs hrs hr hmr
 go_enter Tryz.func99,Tryz.ntmps99
 go_wp2_with fail
 have T:=gI (Two.new w (.int .u8 (s.kind.toNat:Int)) (.slice M m d) 144);have HB0:=gI (show Below w.heap.size w (w.alloc (.cells #[.int .u8 (s.kind.toNat:Int),.slice M m d] 144)) from (Below.refl _ _).alloc (Nat.le_refl _) _);have hs1:(w.alloc (.cells #[.int .u8 (s.kind.toNat:Int),.slice M m d] 144)).heap.size=w.heap.size+1:=by simp
 generalize hw1:w.alloc (.cells #[.int .u8 (s.kind.toNat:Int),.slice M m d] 144)=w1 at *
 refine Gw.Za 8 (rfG1 w1.heap.size w.heap.size M m d s r) [4,5,6,7,8,9,10,11] [([1],none),([4],none),([5],none),([1],none),([7],none),([8],none),([9],none),([10],none)] 19 (by kernel_rfl) (by kernel_rfl) rfl ?h0 ?hreq rfl ?hend
 case h0=>
  intro t W hnd _;unfold rfG1
  split<;>first|rfl|trivial|exact absurd (by simp) hnd
 case hreq=>
  refine ⟨?_,?_,?_,?_,?_,?_,?_,?_,trivial⟩
  all_goals
   intro a W hg hk;have hg':Below w1.heap.size w1 W:=hg;obtain ⟨k1,k2,-,-⟩:=T.out.past hg';have hsz:w1.heap.size<=W.heap.size:=hg'.size;simp only[Gw.Knows,rfG1] at hk
   try (simp[go_sem,Gw.zw,Gw.Ok,Gw.Post,Gw.Holds,rfG1,Gw.zk.refl,hk,k1,k2];done)
  ·simp[go_sem,Gw.zw,Gw.Ok,Gw.Post,Gw.Holds,rfG1,hk];have ho:=World.ownsRow_lit (base:=w1.heap.size) (e:=5) (size:=1) W #[.int .u8 (s.kind.toNat:Int)] 1 hsz (by unfold maxLen;omega) rfl;exact ⟨(Below.refl _ _).alloc (Nat.le_refl _) _,fun W2 hW2=>own_below ho hW2⟩
  ·simp[go_sem,Gw.zw,Gw.Ok,Gw.Post,Gw.Holds,rfG1,Gw.zk.refl,hk];rw[IntKind.wrap_u32,HMR.out];omega
  ·simp[go_sem,Gw.zw,Gw.Ok,Gw.Post,Gw.Holds,rfG1,Gw.zk.refl,hk];refine (Qn r W).mono ?_;rintro e w5 ⟨rfl,hr5,hb5⟩;exact ⟨_,rfl,hb5,fun W2 hW2=>⟨_,rfl,(hr5.below hW2).more (Below.size hW2)⟩⟩
 case hend=>
  intro x w2 hg hx;have h6:w2.ownsRow w1.heap.size 5 1 (x 6) 1 (cellsOf [s.kind]):=(hx 6 (by simp)).now;obtain ⟨X,h11,hr11⟩:∃X,x 11=.slice X 4 4/\Rd w2 w2.heap.size X (four r):=(hx 11 (by simp)).now;have HB2:=gI (show Below w1.heap.size w1 w2 from hg);have T2:=gI (T.out.past HB2.out);simp only[Gw.zm,Act.put,List.setIfInBounds_toArray,List.set_cons_zero,List.set_cons_succ];rw[h11];refine Gw.zkV (.tmp 6) (.tmp 11) 24 rfl w1.heap.size 5 i0 _ Tryz.underlying24 hi0 hz0 hz1 hz2 rfl (x 6) 1 [s.kind] rfl h6 w2.heap.size X 4 4 (four r) rfl rfl hr11 (by omega) HB2.out.size ?_;intro v3 w3 hown3 hg3;refine Gw.wp_assign (.tmp 12) v3 rfl rfl ?_;have HB3:=gI (HB0.out.trans ((yj HB2.out h6 (Nat.le_refl _) HB2.out.size hg3).mono HB0.out.size));have T3:=gI (T2.out.grown hg3 (fun e=>by have:=(h6.lt _ e).1;omega));have hh:cellsOf ([s.kind]++four r)=cellsOf (head s.kind m):=by unfold head;rw[HRr.out];rfl
  rw[hh] at hown3;obtain ⟨X3,c3,rfl⟩:=zJ hown3;have HR3:=gI (Rd.of_own hown3);have hs3:w.heap.size<w3.heap.size:=by have:=T3.out.here;exact this
  clear hown3 hg3 h6 hr11 h11 hx hg hh;simp only[Gw.zX,Act.put,List.setIfInBounds_toArray,List.set_cons_zero,List.set_cons_succ]
  go_wp2_with fail
  refine Gw.Za 5 (rfG2 w3.heap.size w.heap.size X3 M c3 m d s) [13,14,15,16,17] [([3],none),([13],none),([1],none),([15],none),([16],none)] 19 (by kernel_rfl) (by kernel_rfl) rfl ?h1 ?hreq1 rfl ?hend1
  case h1=>
   intro t W hnd _;unfold rfG2
   split<;>first|rfl|trivial|exact absurd (by simp) hnd
  case hreq1=>
   refine ⟨?_,?_,?_,?_,?_,trivial⟩
   all_goals
    intro a W hg hk;have hg':Below w3.heap.size w3 W:=hg;obtain ⟨-,k2,-,-⟩:=T3.out.past hg';simp only[Gw.Knows,rfG2] at hk
    try (simp[go_sem,Gw.zw,Gw.Ok,Gw.Post,Gw.Holds,rfG2,Gw.zk.refl,hk,k2];done)
   ·simp[go_sem,Gw.zw,Gw.Ok,Gw.Post,Gw.Holds,rfG2,Gw.zk.refl,hk];refine (Yb X3 5 c3 _ W (vK _ _) (by omega) ((HR3.out.below hg').more hg'.size)).mono ?_;rintro e w5 ⟨v,rfl,ho,hb5⟩;exact ⟨_,rfl,hb5,fun W2 hW2=>own_below (zU ho hg'.size) hW2⟩
   ·simp[go_sem,Gw.zw,Gw.Ok,Gw.Post,Gw.Holds,rfG2,Gw.zk.refl,hk];have hb:=HB3.out.trans (hg'.mono HB3.out.size);refine (zbg M m d s.body W HS.out (by omega) ((HRS.out.below hb).more hb.size)).mono ?_;intro e w5 h5;obtain ⟨Y,n5,c5,rfl,hl,-,-,hr5,hb5⟩:=h5.open;have e5:n5=m+4:=by rw[<-hl,zO,HS.out]
    subst e5;exact ⟨_,rfl,hb5,fun W2 hW2=>⟨Y,⟨c5,rfl⟩,(hr5.below hW2).more (Below.size hW2)⟩⟩
  case hend1=>
   intro y w4 hg hy;have h14:w4.ownsRow w3.heap.size 5 1 (y 14) 9 (cellsOf (Cr.mark (head s.kind m))):=(hy 14 (by simp)).now;obtain ⟨Y,cy,h17,hr17⟩:∃Y cy,y 17=.slice Y (m+4) cy/\Rd w4 w4.heap.size Y (Cr.mark s.body):=(hy 17 (by simp)).now;have HB4:=gI (show Below w3.heap.size w3 w4 from hg);simp only[Gw.zm,Act.put,List.setIfInBounds_toArray,List.set_cons_zero,List.set_cons_succ];rw[h17];refine Gw.zkV (.tmp 14) (.tmp 17) 24 rfl w3.heap.size 5 i0 _ Tryz.underlying24 hi0 hz0 hz1 hz2 rfl (y 14) 9 _ rfl h14 w4.heap.size Y (m+4) cy _ rfl (by rw[zO,HS.out]) hr17 (by omega) HB4.out.size ?_;intro v5 w5 hown5 hg5;refine Gw.wp_assign (.tmp 18) v5 rfl rfl ?_;have HB5:=gI (HB3.out.trans ((yj HB4.out h14 (Nat.le_refl _) HB4.out.size hg5).mono HB3.out.size));have HO5:=gI (zU hown5 HB3.out.size);clear hown5 hg5 h14 hr17 h17 hy hg;simp only[Gw.zX,Act.put,List.setIfInBounds_toArray,List.set_cons_zero,List.set_cons_succ]
   go_wp2
   go_ret
   refine ⟨v5,9+(m+4),rfl,?_,HB5.out⟩;have:=HO5.out;unfold encS;rw[HS.out];exact this
end
section
open Go.RowKit Cr Me Fr
theorem YX (A:Option Addr) (n c k:Nat) (w:World) (hn:n<k+4) (hk:k<=1048576) :
 Calls Tryz.prog 114 #[.slice A n c,.int .i64 (k:Int)] w fun e w'=>e=.returned (.tuple #[.slice none 0 0,.int .i64 2])/\w=w':=by
 have h1:decide ((n:Int)<(k:Int)+4)=true:=by simp;omega
 go_enter Tryz.func114,Tryz.ntmps114
 go_wp2
 go_ret2
 exact ⟨rfl,rfl⟩
theorem zgs (A:Option Addr) (n c k:Nat) (b:List UInt8) (w:World) (hb:b.length=n) (hc:n<=c) (hn:k+4<=n) (hk:k<=1048576) (hr:Rd w w.heap.size A b) :
 Calls Tryz.prog 114 #[.slice A n c,.int .i64 (k:Int)] w fun e w'=>zdw w (fitL (b.take (k+4))) (fitC (b.take (k+4))) e w':=by
 have h1:decide ((n:Int)<(k:Int)+4)=false:=by simp;omega
 have HT:=gI (hr.take (k+4));have HL:=gI (show (b.take (k+4)).length=k+4 by rw[List.length_take,hb];omega);obtain ⟨a,rfl,-⟩:=hr (by omega);have HX:=gI (show ∃z,z=fitC (b.take (k+4)) from ⟨_,rfl⟩);clear hb hr;have q1:(k:Int)+4<=(c:Int):=by omega
 go_enter Tryz.func114,Tryz.ntmps114
 go_wp2_with fail
 refine (zkt (some a) (k+4) c (b.take (k+4)) w HL.out (by omega) (by omega) HT.out).mono ?_;rintro e w' ⟨hb,X,m,d,rfl,hl,hm,hx,hnw⟩;have HB:=gI hb;have HLX:=gI hl;have HRX:=gI hx;have HNW:=gI hnw;clear hb hl hx hnw
 go_wp2
 go_ret2
 exact ⟨HB.out,X,m,d,rfl,HLX.out,hm,HRX.out,HNW.out⟩
def bbG (a:Addr) (c:Nat) (p1 p2 p3 p4:Nat):Gw.Fact:=fun t v _=>
 match t with
 |0|3|7|13|19=>v=.slice (some a) 5 c
 |4=>v=.pointer (some (a.add 1))
 |8=>v=.pointer (some (a.add 2))
 |14=>v=.pointer (some (a.add 3))
 |20=>v=.pointer (some (a.add 4))
 |5=>v=.int .u8 (p1:Int)
 |6=>v=.int .u32 (p1:Int)
 |9=>v=.int .u8 (p2:Int)
 |10=>v=.int .u32 (p2:Int)
 |11=>v=.int .u32 ((256*p2:Nat):Int)
 |12=>v=.int .u32 ((p1+256*p2:Nat):Int)
 |15=>v=.int .u8 (p3:Int)
 |16=>v=.int .u32 (p3:Int)
 |17=>v=.int .u32 ((65536*p3:Nat):Int)
 |18=>v=.int .u32 ((p1+256*p2+65536*p3:Nat):Int)
 |21=>v=.int .u8 (p4:Int)
 |22=>v=.int .u32 (p4:Int)
 |23=>v=.int .u32 ((16777216*p4:Nat):Int)
 |2|24=>v=.int .u32 ((p1+256*p2+65536*p3+16777216*p4:Nat):Int)
 |_=>True
theorem zbL (a:Addr) (c:Nat) (h:List UInt8) (w:World) (hl:h.length=5) (hr:Rd w w.heap.size (some a) h) :
 Calls Tryz.prog 115 #[.slice (some a) 5 c] w fun e w'=>e=.returned (.int .u32 (lenOf h:Int))/\Below w.heap.size w w':=by
 have cell:∀i,i<5->∃u:UInt8,h[i]?=some u/\w.cell? (a.add i)=some (.int .u8 (u.toNat:Int))/\a.block<w.heap.size:=by
  intro i hi;obtain ⟨a',u,e,hb,hu,hcell⟩:=hr.at (k:=i) (by omega)
  cases e
  exact ⟨u,hu,hcell,hb⟩
 obtain ⟨u1,g1,c1,hab⟩:=cell 1 (by omega);obtain ⟨u2,g2,c2,-⟩:=cell 2 (by omega);obtain ⟨u3,g3,c3,-⟩:=cell 3 (by omega);obtain ⟨u4,g4,c4,-⟩:=cell 4 (by omega);have hlen:lenOf h=u1.toNat+256*u2.toNat+65536*u3.toNat+16777216*u4.toNat:=by
  unfold lenOf;rw[List.getD_eq_getElem?_getD,List.getD_eq_getElem?_getD,List.getD_eq_getElem?_getD,List.getD_eq_getElem?_getD,g1,g2,g3,g4];rfl
 rw[hlen];have b1:u1.toNat<256:=u1.toNat_lt;have b2:u2.toNat<256:=u2.toNat_lt;have b3:u3.toNat<256:=u3.toNat_lt;have b4:u4.toNat<256:=u4.toNat_lt;clear hlen cell hl g1 g2 g3 g4
 generalize u1.toNat=p1 at *
 generalize u2.toNat=p2 at *
 generalize u3.toNat=p3 at *
 generalize u4.toNat=p4 at *
 have v1:IntKind.u32.wrap (p1:Int)=p1:=by rw[IntKind.wrap_u32];omega
 have v2:IntKind.u32.wrap (p2:Int)=p2:=by rw[IntKind.wrap_u32];omega
 have v3:IntKind.u32.wrap (p3:Int)=p3:=by rw[IntKind.wrap_u32];omega
 have v4:IntKind.u32.wrap (p4:Int)=p4:=by rw[IntKind.wrap_u32];omega
 have x2:IntKind.u32.wrap ((p2:Int)*256)=256*p2:=by rw[IntKind.wrap_u32];omega
 have x3:IntKind.u32.wrap ((p3:Int)*65536)=65536*p3:=by rw[IntKind.wrap_u32];omega
 have x4:IntKind.u32.wrap ((p4:Int)*16777216)=16777216*p4:=by rw[IntKind.wrap_u32];omega
 have o2:bits .or .u32 (p1:Int) (256*(p2:Int))=(p1:Int)+256*p2:=by
  have:=Yx 8 p1 p2 (by omega) (by omega) (by omega)
  simpa using this
 have o3:bits .or .u32 ((p1:Int)+256*(p2:Int)) (65536*(p3:Int))=(p1:Int)+256*p2+65536*p3:=by
  have:=Yx 16 (p1+256*p2) p3 (by omega) (by omega) (by omega)
  simpa using this
 have o4:bits .or .u32 ((p1:Int)+256*(p2:Int)+65536*(p3:Int)) (16777216*(p4:Int))=(p1:Int)+256*p2+65536*p3+16777216*p4:=by
  have:=Yx 24 (p1+256*p2+65536*p3) p4 (by omega) (by omega) (by omega)
  simpa using this
 clear hr
 go_enter Tryz.func115,Tryz.ntmps115
 go_wp2_with fail
 refine Gw.zl (bbG a c p1 p2 p3 p4) [3,4,5,6,7,8,9,10,11,12,13,14,15,16,17,18,19,20,21,22,23,24,2] [([0],none),([3],none),([4],none),([5],none),([0],none),([7],none),([8],none),([9],none),([10],none),([6,11],none),([0],none),([13],none),([14],none),([15],none),([16],none),([12,17],none),([0],none),([19],none),([20],none),([21],none),([22],none),([18,23],none),([24],none)] 25 (by kernel_rfl) (by kernel_rfl) rfl ?h0 ?hreq ?hend
 case h0=>
  intro t W hnd _;unfold bbG
  split<;>first|rfl|trivial|exact absurd (by simp) hnd
 case hreq=>
  refine ⟨?_,?_,?_,?_,?_,?_,?_,?_,?_,?_,?_,?_,?_,?_,?_,?_,?_,?_,?_,?_,?_,?_,?_,trivial⟩
  all_goals
   intro ac W hg hk;have hg':Below w.heap.size w W:=hg;have k1:W.cell? ⟨a.block,a.off+1,none⟩=_:=(hg'.cell (p:=a.add 1) (by rw[block_add];exact hab)).trans c1;have k2:W.cell? ⟨a.block,a.off+2,none⟩=_:=(hg'.cell (p:=a.add 2) (by rw[block_add];exact hab)).trans c2;have k3:W.cell? ⟨a.block,a.off+3,none⟩=_:=(hg'.cell (p:=a.add 3) (by rw[block_add];exact hab)).trans c3;have k4:W.cell? ⟨a.block,a.off+4,none⟩=_:=(hg'.cell (p:=a.add 4) (by rw[block_add];exact hab)).trans c4;simp only[Gw.Knows,bbG] at hk
   try (simp[go_sem,Gw.zw,Gw.Ok,Gw.Post,Gw.Holds,bbG,Gw.zk.refl,hk,k1,k2,k3,k4,v1,v2,v3,v4,x2,x3,x4,o2,o3,o4];done)
 case hend=>
  intro x w' hg hx;have h2:x 2=.int .u32 ((p1+256*p2+65536*p3+16777216*p4:Nat):Int):=(hx 2 (by simp)).now;have HB:=gI (show Below w.heap.size w w' from hg);clear v1 v2 v3 v4 x2 x3 x4 o2 o3 o4;simp only[Gw.zm,Act.put,List.setIfInBounds_toArray,List.set_cons_zero,List.set_cons_succ];rw[h2]
  go_wp2
  go_ret
  exact ⟨rfl,HB.out⟩
end
section
open Go.RowKit Cr Me Fr
def zkO (w:World) (R:SecD×Nat×Int) (e:Ending) (w':World):Prop:=
 Below w.heap.size w w'/\∃A n c,e=.returned (.tuple #[.agg #[.int .u8 (R.1.kind.toNat:Int),.slice A n c],.int .i64 (R.2.1:Int),.int .i64 R.2.2])/\R.1.body.length=n/\n<=1048576/\Rd w' w'.heap.size A R.1.body/\(0<R.1.body.length->∃a,A=some a/\w.heap.size<=a.block)
theorem zda {b:List UInt8} (hb:9<=b.length):fitC (b.take 9)=if fitB (b.take 9) then 0 else 5:=by
 unfold fitC;rw[if_neg (by rw[List.length_take];omega)]
end
section
open Go.RowKit Cr Me Fr
def rlG (a:Addr) (c:Nat) (p1 p2 p3 p4:Nat):Gw.Fact:=fun t v _=>
 match t with
 |6|26|30|36|42=>v=.slice (some a) 5 c
 |27=>v=.pointer (some (a.add 1))
 |31=>v=.pointer (some (a.add 2))
 |37=>v=.pointer (some (a.add 3))
 |43=>v=.pointer (some (a.add 4))
 |28=>v=.int .u8 (p1:Int)
 |29=>v=.int .i64 (p1:Int)
 |32=>v=.int .u8 (p2:Int)
 |33=>v=.int .i64 (p2:Int)
 |34=>v=.int .i64 ((256*p2:Nat):Int)
 |35=>v=.int .i64 ((p1+256*p2:Nat):Int)
 |38=>v=.int .u8 (p3:Int)
 |39=>v=.int .i64 (p3:Int)
 |40=>v=.int .i64 ((65536*p3:Nat):Int)
 |41=>v=.int .i64 ((p1+256*p2+65536*p3:Nat):Int)
 |44=>v=.int .u8 (p4:Int)
 |45=>v=.int .i64 (p4:Int)
 |46=>v=.int .i64 ((16777216*p4:Nat):Int)
 |8|47=>v=.int .i64 ((p1+256*p2+65536*p3+16777216*p4:Nat):Int)
 |_=>True
theorem zgu {w:World} {a:Addr} {h:List UInt8} (hl:h.length=5) (hr:Rd w w.heap.size (some a) h) :
 ∃p1 p2 p3 p4:Nat,p1<256/\p2<256/\p3<256/\p4<256/\lenOf h=p1+256*p2+65536*p3+16777216*p4/\a.block<w.heap.size /\
  w.cell? (a.add 1)=some (.int .u8 (p1:Int))/\w.cell? (a.add 2)=some (.int .u8 (p2:Int))/\w.cell? (a.add 3)=some (.int .u8 (p3:Int))/\w.cell? (a.add 4)=some (.int .u8 (p4:Int)):=by
 have cell:∀i,i<5->∃u:UInt8,h[i]?=some u/\w.cell? (a.add i)=some (.int .u8 (u.toNat:Int))/\a.block<w.heap.size:=by
  intro i hi;obtain ⟨a',u,e,hb,hu,hcell⟩:=hr.at (k:=i) (by omega)
  cases e
  exact ⟨u,hu,hcell,hb⟩
 obtain ⟨u1,g1,c1,hab⟩:=cell 1 (by omega);obtain ⟨u2,g2,c2,-⟩:=cell 2 (by omega);obtain ⟨u3,g3,c3,-⟩:=cell 3 (by omega);obtain ⟨u4,g4,c4,-⟩:=cell 4 (by omega);refine ⟨u1.toNat,u2.toNat,u3.toNat,u4.toNat,u1.toNat_lt,u2.toNat_lt,u3.toNat_lt,u4.toNat_lt,?_,hab,c1,c2,c3,c4⟩;unfold lenOf;rw[List.getD_eq_getElem?_getD,List.getD_eq_getElem?_getD,List.getD_eq_getElem?_getD,List.getD_eq_getElem?_getD,g1,g2,g3,g4];rfl
def zkP (w:World) (R:SecD×Nat×Int) (e:Ending) (w':World):Prop:=
 Below w.heap.size w w'/\∃A n c,e=.returned (.tuple #[.agg #[.int .u8 (R.1.kind.toNat:Int),.slice A n c],.int .i64 (R.2.1:Int),.int .i64 R.2.2])/\R.1.body.length=n/\n<=1048576/\Rd w' w'.heap.size A R.1.body/\(0<R.1.body.length->∃a,A=some a/\w.heap.size<=a.block)/\n<=c
theorem Zg {w w':World} {R:SecD×Nat×Int} {x:Int} (h:R=(vN,0,x)) (hb:Below w.heap.size w w') :
 zkP w R (.returned (.tuple #[.agg #[.int .u8 0,.slice none 0 0],.int .i64 0,.int .i64 x])) w':=by
 subst h;exact ⟨hb,none,0,0,rfl,rfl,by omega,Rd.empty,fun h=>by simp[vN] at h,Nat.zero_le _⟩
theorem V5 (A:Option Addr) (n c:Nat) (b:List UInt8) (w:World) (hb:b.length=n) (hn:n<9) :
 Calls Tryz.prog 106 #[.slice A n c] w (zkP w (getS b)):=by
 have HG:=gI (X4 (b:=b) (by omega));have h1:decide ((n:Int)<9)=true:=by simp;omega
 clear hb;have hb1:Below w.heap.size w (w.alloc (.cells #[.int .u8 0,.slice none 0 0] 144)):=(Below.refl _ _).alloc (Nat.le_refl _) _;have HE:=gI (hb1.alloc hb1.size (.cells #[.int .u8 0,.slice none 0 0] 144));obtain ⟨r0,r1,-,-⟩:=(Two.new w (.int .u8 0) (.slice none 0 0) 144).alloc (.cells #[.int .u8 0,.slice none 0 0] 144);clear hb1
 go_enter Tryz.func106,Tryz.ntmps106
 go_wp2
 exact bodyPost_ret (v:=.tuple #[.agg #[.int .u8 0,.slice none 0 0],.int .i64 0,.int .i64 2]) (by simp[results,Tryz.results106,go_sem,r0,r1]) rfl (Zg HG.out HE.out)
theorem zbh (a:Addr) (n c:Nat) (b:List UInt8) (w:World) (hb:b.length=n) (hc:n<=c) (hc63:c<=9223372036854775807) (hn:9<=n) (hr:Rd w w.heap.size (some a) b) :
 Calls Tryz.prog 106 #[.slice (some a) n c] w (zkP w (getS b)):=by
 have HB:=gI hb;have HR:=gI hr;have HF:=gI (zda (b:=b) (by omega));have d1:decide ((n:Int)<9)=false:=by simp;omega
 obtain ⟨z,hz⟩:∃z,z=fitC (b.take 9):=⟨_,rfl⟩
 obtain ⟨h,hh⟩:∃h,h=fitL (b.take 9):=⟨_,rfl⟩
 have HZ:=gI hz;have HH:=gI hh;clear hb hr hz hh;have q0:(9:Int)<=(c:Int):=by omega
 have T0:=gI ((Two.new w (.int .u8 0) (.slice none 0 0) 144).alloc (.cells #[.int .u8 0,.slice none 0 0] 144));have T1:=gI (Two.new' (H:=w.heap.size+1) (w.alloc (.cells #[.int .u8 0,.slice none 0 0] 144)) (.int .u8 0) (.slice none 0 0) 144 (by simp));have hb1:Below w.heap.size w (w.alloc (.cells #[.int .u8 0,.slice none 0 0] 144)):=(Below.refl _ _).alloc (Nat.le_refl _) _;have HB1:=gI (hb1.alloc hb1.size (.cells #[.int .u8 0,.slice none 0 0] 144));clear hb1
 go_enter Tryz.func106,Tryz.ntmps106
 go_wp2_with fail
 generalize (w.alloc (.cells #[.int .u8 0,.slice none 0 0] 144)).alloc (.cells #[.int .u8 0,.slice none 0 0] 144)=w1 at *
 refine (zco (some a) 9 c (b.take 9) w1 (by rw[List.length_take,HB.out];omega) (by omega) (by omega) (((HR.out.below HB1.out).more HB1.out.size).take 9)).mono ?_;rw[<-HZ.out,<-HH.out];rintro e w2 ⟨hb2,X,m,d,rfl,hl2,-,hr2,-⟩;have HB2:=gI (HB1.out.trans (hb2.mono HB1.out.size));have T02:=gI (T0.out.past hb2);have T12:=gI (T1.out.past hb2);have HL2:=gI hl2;have HR2:=gI hr2;clear hb2 hl2 hr2
 cases hfit:fitB (b.take 9) with
 |false=>
  have hz5:z=5:=by rw[HZ.out,HF.out,hfit];rfl
  subst hz5;have HG:=gI (zc4 (b:=b) (by rw[HB.out];omega) hfit);clear hfit;obtain ⟨r0,r1,r2,r3⟩:=T02.out;obtain ⟨t0,t1,-,-⟩:=T12.out;have HX:=gI (T02.out.set (.int .u8 0) (.slice none 0 0));have HE:=gI ((HB2.out.setCell (p:=⟨w.heap.size,0,none⟩) (Nat.le_refl _) (.int .u8 0)).setCell (p:=⟨w.heap.size,1,none⟩) (Nat.le_refl _) (.slice none 0 0));obtain ⟨s0,s1,-,-⟩:=HX.out
  go_wp2
  exact bodyPost_ret (v:=.tuple #[.agg #[.int .u8 0,.slice none 0 0],.int .i64 0,.int .i64 5]) (by simp[results,Tryz.results106,go_sem,s0,s1]) rfl (Zg HG.out HE.out)
 |true=>
  have hz0:z=0:=by rw[HZ.out,HF.out,hfit];rfl
  subst hz0;have hh5:h=b.take 5:=by
   rw[HH.out];unfold fitL;rw[if_pos hfit,List.length_take,List.take_take,HB.out]
   congr 1;omega
  have hm5:m=5:=by rw[<-HL2.out,hh5,List.length_take,HB.out];omega
  subst hm5;obtain ⟨a',u0,hX,-,hu0,hcu0⟩:=HR2.out.at (k:=0) (by rw[HL2.out];omega);subst hX;obtain ⟨N,hN⟩:∃N,N=lenOf h:=⟨_,rfl⟩
  have hN32:N<4294967296:=by rw[hN];exact zfi _
  have hN5:N=lenOf (b.take 5):=by rw[hN,hh5]
  have HN:=gI hN;have HN5:=gI hN5;have HU0:=gI (show b.getD 0 0=u0 by
   rw[hh5,List.getElem?_take,if_pos (by omega)] at hu0;rw[List.getD_eq_getElem?_getD,hu0];rfl)
  have hu8:=u0.toNat_lt;have HFIT:=gI hfit;have HC0:=gI hcu0;clear hN hN5 hu0 hfit hh5 hcu0
  go_wp2_with fail
  obtain ⟨p1,p2,p3,p4,b1,b2,b3,b4,hlen,hab,c1,c2,c3,c4⟩:=zgu HL2.out HR2.out;rw[<-HN.out] at hlen;have v1:IntKind.i64.wrap (p1:Int)=p1:=IntWalk.i64_in _ (by omega);have v2:IntKind.i64.wrap (p2:Int)=p2:=IntWalk.i64_in _ (by omega);have v3:IntKind.i64.wrap (p3:Int)=p3:=IntWalk.i64_in _ (by omega);have v4:IntKind.i64.wrap (p4:Int)=p4:=IntWalk.i64_in _ (by omega);have x2:IntKind.i64.wrap (256*(p2:Int))=256*p2:=IntWalk.i64_in _ (by omega);have x3:IntKind.i64.wrap (65536*(p3:Int))=65536*p3:=IntWalk.i64_in _ (by omega);have x4:IntKind.i64.wrap (16777216*(p4:Int))=16777216*p4:=IntWalk.i64_in _ (by omega);have y2:IntKind.i64.wrap ((p1:Int)+256*(p2:Int))=p1+256*p2:=IntWalk.i64_in _ (by omega);have y3:IntKind.i64.wrap ((p1:Int)+256*(p2:Int)+65536*(p3:Int))=p1+256*p2+65536*p3:=IntWalk.i64_in _ (by omega);have y4:IntKind.i64.wrap ((p1:Int)+256*(p2:Int)+65536*(p3:Int)+16777216*(p4:Int))=p1+256*p2+65536*p3+16777216*p4:=IntWalk.i64_in _ (by omega)
  refine Gw.zl (rlG a' d p1 p2 p3 p4) [26,27,28,29,30,31,32,33,34,35,36,37,38,39,40,41,42,43,44,45,46,47,8] [([6],none),([26],none),([27],none),([28],none),([6],none),([30],none),([31],none),([32],none),([33],none),([29,34],none),([6],none),([36],none),([37],none),([38],none),([39],none),([35,40],none),([6],none),([42],none),([43],none),([44],none),([45],none),([41,46],none),([47],none)] 76 (by kernel_rfl) (by kernel_rfl) rfl ?h0 ?hreq ?hend
  case h0=>
   intro t W hnd _;unfold rlG
   split<;>first|rfl|trivial|exact absurd (by simp) hnd
  case hreq=>
   refine ⟨?_,?_,?_,?_,?_,?_,?_,?_,?_,?_,?_,?_,?_,?_,?_,?_,?_,?_,?_,?_,?_,?_,?_,trivial⟩
   all_goals
    intro ac W hg hk;have hg':Below w2.heap.size w2 W:=hg;have k1:W.cell? ⟨a'.block,a'.off+1,none⟩=_:=(hg'.cell (p:=a'.add 1) (by rw[block_add];exact hab)).trans c1;have k2:W.cell? ⟨a'.block,a'.off+2,none⟩=_:=(hg'.cell (p:=a'.add 2) (by rw[block_add];exact hab)).trans c2;have k3:W.cell? ⟨a'.block,a'.off+3,none⟩=_:=(hg'.cell (p:=a'.add 3) (by rw[block_add];exact hab)).trans c3;have k4:W.cell? ⟨a'.block,a'.off+4,none⟩=_:=(hg'.cell (p:=a'.add 4) (by rw[block_add];exact hab)).trans c4;simp only[Gw.Knows,rlG] at hk
    try (simp[go_sem,Gw.zw,Gw.Ok,Gw.Post,Gw.Holds,rlG,Gw.zk.refl,hk,k1,k2,k3,k4,v1,v2,v3,v4,x2,x3,x4,y2,y3,y4];done)
  case hend=>
   intro x w' hg hx;have h8:x 8=.int .i64 (N:Int):=by rw[hlen];exact (hx 8 (by simp)).now
   have hg3:Below w2.heap.size w2 w':=hg;clear v1 v2 v3 v4 x2 x3 x4 y2 y3 y4 c1 c2 c3 c4 hlen b1 b2 b3 b4 hx hg
   generalize w'=w3 at *
   have HB3:=gI (HB2.out.trans (hg3.mono HB2.out.size));have T03:=gI (T02.out.past hg3);have T13:=gI (T12.out.past hg3);have HC3:=gI ((hg3.cell (p:=a'.add 0) (block_lt_of_cell HC0.out)).trans HC0.out);have hs3:=HB3.out.size;clear hg3 hab;simp only[Gw.zm,Act.put,List.setIfInBounds_toArray,List.set_cons_zero,List.set_cons_succ];rw[h8];clear h8
   by_cases hlong:1048576<N
   ·have d2:decide ((1048576:Int)<(N:Int))=true:=by simp;omega
    have HG:=gI (zc3 (b:=b) (by rw[HB.out];omega) HFIT.out HN5.out hlong);obtain ⟨r0,r1,r2,r3⟩:=T03.out;obtain ⟨t0,t1,-,-⟩:=T13.out;have HX:=gI (T03.out.set (.int .u8 0) (.slice none 0 0));have HE:=gI ((HB3.out.setCell (p:=⟨w.heap.size,0,none⟩) (Nat.le_refl _) (.int .u8 0)).setCell (p:=⟨w.heap.size,1,none⟩) (Nat.le_refl _) (.slice none 0 0));obtain ⟨s0,s1,-,-⟩:=HX.out
    go_wp2
    exact bodyPost_ret (v:=.tuple #[.agg #[.int .u8 0,.slice none 0 0],.int .i64 0,.int .i64 4]) (by simp[results,Tryz.results106,go_sem,s0,s1]) rfl (Zg HG.out HE.out)
   ·have d2:decide ((1048576:Int)<(N:Int))=false:=by simp;omega
    by_cases hcut:n<N+13
    ·have d3:decide ((n:Int)<(N:Int)+13)=true:=by simp;omega
     have HG:=gI (zfr (b:=b) (by rw[HB.out];omega) HFIT.out HN5.out hlong (by rw[HB.out];exact hcut));obtain ⟨r0,r1,r2,r3⟩:=T03.out;obtain ⟨t0,t1,-,-⟩:=T13.out;have HX:=gI (T03.out.set (.int .u8 0) (.slice none 0 0));have HE:=gI ((HB3.out.setCell (p:=⟨w.heap.size,0,none⟩) (Nat.le_refl _) (.int .u8 0)).setCell (p:=⟨w.heap.size,1,none⟩) (Nat.le_refl _) (.slice none 0 0));obtain ⟨s0,s1,-,-⟩:=HX.out
     go_wp2
     exact bodyPost_ret (v:=.tuple #[.agg #[.int .u8 0,.slice none 0 0],.int .i64 0,.int .i64 2]) (by simp[results,Tryz.results106,go_sem,s0,s1]) rfl (Zg HG.out HE.out)
    ·have d3:decide ((n:Int)<(N:Int)+13)=false:=by simp;omega
     have hc9:¬c=9:=by omega
     have q3:(N:Int)+13<=(c:Int):=by omega
     have q4:(9:Int)<=(N:Int)+13:=by omega
     have HD:=gI (show Rd w3 w3.heap.size (some ⟨a.block,a.off+9,none⟩) ((b.drop 9).take (N+4)) from by
      have:=((HR.out.below HB3.out).more hs3).drop (k:=9) (cap:=c) (by rw[HB.out];exact hc);rw[if_neg hc9] at this;exact this.take _)
     have HDL:=gI (show ((b.drop 9).take (N+4)).length=N+4 by rw[List.length_take,List.length_drop,HB.out];omega);have HFB:=gI (show fitC ((b.drop 9).take (N+4))=if fitB ((b.drop 9).take (N+4)) then 0 else 5 by
      unfold fitC;rw[if_neg (by rw[HDL.out];omega)])
     obtain ⟨y,hy⟩:∃y,y=fitC ((b.drop 9).take (N+4)):=⟨_,rfl⟩
     obtain ⟨bo,hbo⟩:∃bo,bo=fitL ((b.drop 9).take (N+4)):=⟨_,rfl⟩
     have HY:=gI hy;have HBO:=gI hbo;clear hy hbo
     go_wp2_with fail
     refine (zcn (some ⟨a.block,a.off+9,none⟩) (N+4) (c-9) ((b.drop 9).take (N+4)) w3 HDL.out (by omega) (by omega) HD.out).mono ?_;rw[<-HY.out,<-HBO.out];rintro e w4 ⟨hb4,Y,m,dd,rfl,hl4,hm4,hr4,hnw4,hcd4⟩;have HCD:=gI hcd4;have HB4:=gI (HB3.out.trans (hb4.mono hs3));have T04:=gI (T03.out.past hb4);have T14:=gI (T13.out.past hb4);have HC4:=gI ((hb4.cell (p:=a'.add 0) (block_lt_of_cell HC3.out)).trans HC3.out);have HL4:=gI hl4;have HR4:=gI hr4;have HNW4:=gI hnw4;clear hb4 hl4 hr4 hnw4 hcd4
     cases hfit2:fitB ((b.drop 9).take (N+4)) with
     |false=>
      have hy5:y=5:=by rw[HY.out,HFB.out,hfit2];rfl
      subst hy5;have HG:=gI (zfs (b:=b) (by rw[HB.out];omega) HFIT.out HN5.out hlong (by rw[HB.out];exact hcut) hfit2);clear hfit2;obtain ⟨r0,r1,r2,r3⟩:=T04.out;obtain ⟨t0,t1,-,-⟩:=T14.out;have HX:=gI (T04.out.set (.int .u8 0) (.slice none 0 0));have HE:=gI ((HB4.out.setCell (p:=⟨w.heap.size,0,none⟩) (Nat.le_refl _) (.int .u8 0)).setCell (p:=⟨w.heap.size,1,none⟩) (Nat.le_refl _) (.slice none 0 0));obtain ⟨s0,s1,-,-⟩:=HX.out
      go_wp2
      exact bodyPost_ret (v:=.tuple #[.agg #[.int .u8 0,.slice none 0 0],.int .i64 0,.int .i64 5]) (by simp[results,Tryz.results106,go_sem,s0,s1]) rfl (Zg HG.out HE.out)
     |true=>
      have hy0:y=0:=by rw[HY.out,HFB.out,hfit2];rfl
      subst hy0;have hbo2:bo=(b.drop 9).take N:=by
       rw[HBO.out];unfold fitL;rw[if_pos hfit2,HDL.out,List.take_take]
       congr 1;omega
      have hmN:m=N:=by rw[<-HL4.out,hbo2,List.length_take,List.length_drop,HB.out];omega
      subst hmN;have HG:=gI (show getS b=(⟨u0,bo⟩,m+13,0) by
       rw[VE (b:=b) (by rw[HB.out];omega) HFIT.out HN5.out hlong (by rw[HB.out];exact hcut) hfit2,HU0.out,hbo2])
      have c0:w4.cell? ⟨a'.block,a'.off,a'.spot⟩=some (.int .u8 (u0.toNat:Int)):=HC4.out;obtain ⟨r0,r1,r2,r3⟩:=T04.out;have HX:=gI ((T04.out.set (.int .u8 (u0.toNat:Int)) (.slice Y m dd)));have HE:=gI ((HB4.out.setCell (p:=⟨w.heap.size,0,none⟩) (Nat.le_refl _) (.int .u8 (u0.toNat:Int))).setCell (p:=⟨w.heap.size,1,none⟩) (Nat.le_refl _) (.slice Y m dd));obtain ⟨s0,s1,-,-⟩:=HX.out;clear hfit2 hbo2
      go_wp2
      exact bodyPost_ret (v:=.tuple #[.agg #[.int .u8 (u0.toNat:Int),.slice Y m dd],.int .i64 ((m:Int)+13),.int .i64 0]) (by simp[results,Tryz.results106,go_sem,s0,s1]) rfl (by
       rw[HG.out];exact ⟨HE.out,Y,m,dd,rfl,HL4.out,by omega,zeT HR4.out HNW4.out T03.out.here _ _,fun h=>by
        obtain ⟨g,e,hg⟩:=HNW4.out h;exact ⟨g,e,by have:=T03.out.here;omega⟩,HCD.out⟩)
theorem zcp (A:Option Addr) (n c:Nat) (b:List UInt8) (w:World) (hb:b.length=n) (hc:n<=c) (hc63:c<=9223372036854775807) (hr:Rd w w.heap.size A b) :
 Calls Tryz.prog 106 #[.slice A n c] w (zkP w (getS b)):=by
 by_cases h:n<9
 ·exact V5 A n c b w hb h
 ·obtain ⟨a,rfl,-⟩:=hr (by omega);exact zbh a n c b w hb hc hc63 (by omega) hr
end
end
section
open Go.RowKit Cr Me Fr
def zi6 (w:World) (l:List UInt8) (code:Int) (e:Ending) (w':World):Prop:=
 Below w.heap.size w w'/\∃X n c,e=.returned (.tuple #[.slice X n c,.int .i64 code])/\l.length=n/\n<=140737488355328/\Rd w' w'.heap.size X l/\(0<l.length->∃a,X=some a/\w.heap.size<=a.block)/\n<=c/\c<=9223372036854775807/\∀a,X=some a->w.heap.size<=a.block
theorem ziw (A:Option Addr) (n c:Nat) (l:List UInt8) (w:World) (hl:l.length=n) (hc:n<=c) (hn:n<=70368744177664) (hr:Rd w w.heap.size A l) :
 Calls Tryz.prog 150 #[.slice A n c] w fun e w'=>zi6 w (fitL l) (fitC l) e w':=by
 by_cases h4:n<4
 ·refine (zaN A n c w h4).mono fun e w' ⟨he,hw⟩=>?_
  subst hw;have hb:fitB l=false:=by unfold fitB;simp;omega
  exact ⟨Below.refl _ _,none,0,0,by rw[he];unfold fitC;rw[if_pos (by omega)],by unfold fitL;rw[hb];rfl,by omega,by unfold fitL;rw[hb];exact Rd.empty,by unfold fitL;rw[hb];exact fun h=>by simp at h,Nat.zero_le _,by omega,fun a h=>by cases h⟩
 ·obtain ⟨k,rfl⟩:∃k,n=k+4:=⟨n-4,by omega⟩
  obtain ⟨a,rfl,-⟩:=hr (by omega);have hf:=zbC hl;refine (zc9 a k c l w hl hc (by omega) hr _ rfl).mono fun e w' ⟨hb,h⟩=>?_
  rw[<-hf] at h
  cases hfb:fitB l with
  |false=>
   rw[hfb] at h;have he:e=.returned (.tuple #[.slice none 0 0,.int .i64 5]):=h;exact ⟨hb,none,0,0,by rw[he];unfold fitC;rw[if_neg (by omega),hfb];rfl,by unfold fitL;rw[hfb];rfl,by omega,by unfold fitL;rw[hfb];exact Rd.empty,by unfold fitL;rw[hfb];exact fun h=>by simp at h,Nat.zero_le _,by omega,fun a h=>by cases h⟩
  |true=>
   rw[hfb] at h;obtain ⟨v,he,ho⟩:∃v,e=.returned (.tuple #[v,.int .i64 0])/\w'.ownsRow w.heap.size 5 1 v k (cellsOf (l.take k)):=h;obtain ⟨X,cx,rfl⟩:=zJ ho;have e1:fitL l=l.take k:=by unfold fitL;rw[hfb,if_pos rfl,hl];simp
   exact ⟨hb,X,k,cx,by rw[he];unfold fitC;rw[if_neg (by omega),hfb];rfl,by rw[e1,List.length_take];omega,by omega,by rw[e1];exact Rd.of_own ho,fun h=>by
    have h0:0<k:=by rw[e1,List.length_take] at h;omega
    obtain ⟨g,cap,hv,hg,-⟩:=ho.form h0;injection hv with hv;exact ⟨_,hv,hg⟩,(yF ho).1,(yF ho).2,fun a h=>by subst h;exact (World.ownsRow.lt ho a.block rfl).1⟩
theorem zd9 (A:Option Addr) (n c k:Nat) (b:List UInt8) (w:World) (hb:b.length=n) (hc:n<=c) (hn:k+4<=n) (hk:k<=1048576) (hr:Rd w w.heap.size A b) :
 Calls Tryz.prog 114 #[.slice A n c,.int .i64 (k:Int)] w fun e w'=>zi6 w (fitL (b.take (k+4))) (fitC (b.take (k+4))) e w':=by
 have h1:decide ((n:Int)<(k:Int)+4)=false:=by simp;omega
 have HT:=gI (hr.take (k+4));have HL:=gI (show (b.take (k+4)).length=k+4 by rw[List.length_take,hb];omega);obtain ⟨a,rfl,-⟩:=hr (by omega);have HX:=gI (show ∃z,z=fitC (b.take (k+4)) from ⟨_,rfl⟩);clear hb hr;have q1:(k:Int)+4<=(c:Int):=by omega
 go_enter Tryz.func114,Tryz.ntmps114
 go_wp2_with fail
 refine (ziw (some a) (k+4) c (b.take (k+4)) w HL.out (by omega) (by omega) HT.out).mono ?_;rintro e w' ⟨hb,X,m,d,rfl,hl,hm,hx,hnw,hcd⟩;have HB:=gI hb;have HLX:=gI hl;have HRX:=gI hx;have HNW:=gI hnw;have HCD:=gI hcd;clear hb hl hx hnw hcd
 go_wp2
 go_ret2
 exact ⟨HB.out,X,m,d,rfl,HLX.out,hm,HRX.out,HNW.out,HCD.out⟩
def zgR (w:World) (R:SecD×Nat×Int) (e:Ending) (w':World):Prop:=
 Below w.heap.size w w'/\∃A n c,e=.returned (.tuple #[.agg #[.int .u8 (R.1.kind.toNat:Int),.slice A n c],.int .i64 (R.2.1:Int),.int .i64 R.2.2])/\R.1.body.length=n/\n<=1048576/\Rd w' w'.heap.size A R.1.body/\(0<R.1.body.length->∃a,A=some a/\w.heap.size<=a.block)/\n<=c/\c<=9223372036854775807/\∀a,A=some a->w.heap.size<=a.block
theorem q9 {w w':World} {R:SecD×Nat×Int} {x:Int} (h:R=(vN,0,x)) (hb:Below w.heap.size w w') :
 zgR w R (.returned (.tuple #[.agg #[.int .u8 0,.slice none 0 0],.int .i64 0,.int .i64 x])) w':=by
 subst h;exact ⟨hb,none,0,0,rfl,rfl,by omega,Rd.empty,fun h=>by simp[vN] at h,Nat.zero_le _,by omega,fun a h=>by cases h⟩
theorem zeg (A:Option Addr) (n c:Nat) (b:List UInt8) (w:World) (hb:b.length=n) (hn:n<9) :
 Calls Tryz.prog 74 #[.slice A n c] w (zgR w (getS b)):=by
 have HG:=gI (X4 (b:=b) (by omega));have HB:=gI (show Below w.heap.size w (w.alloc (.cells #[.int .u8 0,.slice none 0 0] 144)) from (Below.refl _ _).alloc (Nat.le_refl _) _);obtain ⟨r0,r1,-,-⟩:=Two.new w (.int .u8 0) (.slice none 0 0) 144;clear hb
 go_enter Tryz.func74,Tryz.ntmps74
 go_wp2_with fail
 refine (YX A n c 5 _ hn (by omega)).mono ?_;rintro e w' ⟨rfl,rfl⟩
 go_wp2
 exact bodyPost_ret (v:=.tuple #[.agg #[.int .u8 0,.slice none 0 0],.int .i64 0,.int .i64 2]) (by simp[results,Tryz.results74,go_sem,r0,r1]) rfl (q9 HG.out HB.out)
theorem zgz (a:Addr) (n c:Nat) (b:List UInt8) (w:World) (hb:b.length=n) (hc:n<=c) (hc63:c<=9223372036854775807) (hn:9<=n) (hr:Rd w w.heap.size (some a) b) :
 Calls Tryz.prog 74 #[.slice (some a) n c] w (zgR w (getS b)):=by
 have T:=gI (Two.new w (.int .u8 0) (.slice none 0 0) 144);have HB1:=gI (show Below w.heap.size w (w.alloc (.cells #[.int .u8 0,.slice none 0 0] 144)) from (Below.refl _ _).alloc (Nat.le_refl _) _);have HB:=gI hb;have HR:=gI hr;have HF:=gI (zda (b:=b) (by omega));obtain ⟨z,hz⟩:∃z,z=fitC (b.take 9):=⟨_,rfl⟩
 obtain ⟨h,hh⟩:∃h,h=fitL (b.take 9):=⟨_,rfl⟩
 have HZ:=gI hz;have HH:=gI hh;clear hb hr hz hh
 go_enter Tryz.func74,Tryz.ntmps74
 go_wp2_with fail
 generalize w.alloc (.cells #[.int .u8 0,.slice none 0 0] 144)=w1 at *
 refine (zgs (some a) n c 5 b w1 HB.out hc (by omega) (by omega) ((HR.out.below HB1.out).more HB1.out.size)).mono ?_;rw[<-HZ.out,<-HH.out];rintro e w2 ⟨hb2,X,m,d,rfl,hl2,-,hr2,-⟩;have HB2:=gI (HB1.out.trans (hb2.mono HB1.out.size));have T2:=gI (T.out.past hb2);have HL2:=gI hl2;have HR2:=gI hr2;clear hb2 hl2 hr2
 cases hfit:fitB (b.take 9) with
 |false=>
  have hz5:z=5:=by rw[HZ.out,HF.out,hfit];rfl
  subst hz5;have HG:=gI (zc4 (b:=b) (by rw[HB.out];omega) hfit);obtain ⟨r0,r1,r2,r3⟩:=T2.out;have HX:=gI ((T2.out.set (.int .u8 0) (.slice none 0 0)));obtain ⟨s0,s1,-,-⟩:=HX.out;have HE:=gI ((HB2.out.setCell (p:=⟨w.heap.size,0,none⟩) (Nat.le_refl _) (.int .u8 0)).setCell (p:=⟨w.heap.size,1,none⟩) (Nat.le_refl _) (.slice none 0 0));clear hfit
  go_wp2
  exact bodyPost_ret (v:=.tuple #[.agg #[.int .u8 0,.slice none 0 0],.int .i64 0,.int .i64 5]) (by simp[results,Tryz.results74,go_sem,s0,s1]) rfl (q9 HG.out HE.out)
 |true=>
  have hz0:z=0:=by rw[HZ.out,HF.out,hfit];rfl
  subst hz0;have hh5:h=b.take 5:=by
   rw[HH.out];unfold fitL;rw[if_pos hfit,List.length_take,List.take_take,HB.out]
   congr 1;omega
  have hm5:m=5:=by rw[<-HL2.out,hh5,List.length_take,HB.out];omega
  subst hm5;obtain ⟨a',u0,hX,-,hu0,hcu0⟩:=HR2.out.at (k:=0) (by rw[HL2.out];omega);subst hX;obtain ⟨N,hN⟩:∃N,N=lenOf h:=⟨_,rfl⟩
  have hN32:N<4294967296:=by rw[hN];exact zfi _
  have hN5:N=lenOf (b.take 5):=by rw[hN,hh5]
  have HN:=gI hN;have HN5:=gI hN5;have HU0:=gI (show b.getD 0 0=u0 by
   rw[hh5,List.getElem?_take,if_pos (by omega)] at hu0;rw[List.getD_eq_getElem?_getD,hu0];rfl)
  have hu8:=u0.toNat_lt;have HFIT:=gI hfit;clear hN hN5 hu0 hfit hh5
  go_wp2_with fail
  refine (zbL a' d h w2 HL2.out HR2.out).mono ?_;rw[<-HN.out];rintro e w3 ⟨rfl,hb3⟩;have HB3:=gI (HB2.out.trans (hb3.mono HB2.out.size));have T3:=gI (T2.out.past hb3);have HC0:=gI ((hb3.cell (p:=a'.add 0) (block_lt_of_cell hcu0)).trans hcu0);have hs3:=HB3.out.size;clear hb3 hcu0 T2;obtain ⟨r0,r1,r2,r3⟩:=T3.out;have HX:=gI ((T3.out.set (.int .u8 0) (.slice none 0 0)));have HE:=gI ((HB3.out.setCell (p:=⟨w.heap.size,0,none⟩) (Nat.le_refl _) (.int .u8 0)).setCell (p:=⟨w.heap.size,1,none⟩) (Nat.le_refl _) (.slice none 0 0))
  by_cases hlong:1048576<N
  ·have d2:decide ((1048576:Int)<(N:Int))=true:=by simp;omega
   have HG:=gI (zc3 (b:=b) (by rw[HB.out];omega) HFIT.out HN5.out hlong);obtain ⟨s0,s1,-,-⟩:=HX.out
   go_wp2
   exact bodyPost_ret (v:=.tuple #[.agg #[.int .u8 0,.slice none 0 0],.int .i64 0,.int .i64 4]) (by simp[results,Tryz.results74,go_sem,s0,s1]) rfl (q9 HG.out HE.out)
  ·have d2:decide ((1048576:Int)<(N:Int))=false:=by simp;omega
   have q1:(9:Int)<=(n:Int):=by omega
   have q2:(n:Int)<=(c:Int):=by omega
   clear HX HE
   by_cases hcut:n<N+13
   ·have HG:=gI (zfr (b:=b) (by rw[HB.out];omega) HFIT.out HN5.out hlong (by rw[HB.out];exact hcut))
    by_cases hc9:c=9
    ·have hn9:n=9:=by omega
     subst hc9 hn9
     go_wp2_with fail
     refine (YX (some a) 0 0 N w3 (by omega) (by omega)).mono ?_;rintro e w' ⟨rfl,rfl⟩;have HX:=gI ((T3.out.set (.int .u8 0) (.slice none 0 0)));have HE:=gI ((HB3.out.setCell (p:=⟨w.heap.size,0,none⟩) (Nat.le_refl _) (.int .u8 0)).setCell (p:=⟨w.heap.size,1,none⟩) (Nat.le_refl _) (.slice none 0 0));obtain ⟨s0,s1,-,-⟩:=HX.out
     go_wp2
     exact bodyPost_ret (v:=.tuple #[.agg #[.int .u8 0,.slice none 0 0],.int .i64 0,.int .i64 2]) (by simp[results,Tryz.results74,go_sem,s0,s1]) rfl (q9 HG.out HE.out)
    ·go_wp2_with fail
     refine (YX (some ⟨a.block,a.off+9,none⟩) (n-9) (c-9) N w3 (by omega) (by omega)).mono ?_;rintro e w' ⟨rfl,rfl⟩;have HX:=gI ((T3.out.set (.int .u8 0) (.slice none 0 0)));have HE:=gI ((HB3.out.setCell (p:=⟨w.heap.size,0,none⟩) (Nat.le_refl _) (.int .u8 0)).setCell (p:=⟨w.heap.size,1,none⟩) (Nat.le_refl _) (.slice none 0 0));obtain ⟨s0,s1,-,-⟩:=HX.out
     go_wp2
     exact bodyPost_ret (v:=.tuple #[.agg #[.int .u8 0,.slice none 0 0],.int .i64 0,.int .i64 2]) (by simp[results,Tryz.results74,go_sem,s0,s1]) rfl (q9 HG.out HE.out)
   ·have hc9:¬c=9:=by omega
    have HD:=gI (show Rd w3 w3.heap.size (some ⟨a.block,a.off+9,none⟩) (b.drop 9) from by
     have:=((HR.out.below HB3.out).more hs3).drop (k:=9) (cap:=c) (by rw[HB.out];exact hc);rw[if_neg hc9] at this;exact this)
    have HDL:=gI (show (b.drop 9).length=n-9 by rw[List.length_drop,HB.out]);have HFB:=gI (show fitC ((b.drop 9).take (N+4))=if fitB ((b.drop 9).take (N+4)) then 0 else 5 by
     unfold fitC;rw[if_neg (by rw[List.length_take,HDL.out];omega)])
    obtain ⟨y,hy⟩:∃y,y=fitC ((b.drop 9).take (N+4)):=⟨_,rfl⟩
    obtain ⟨bo,hbo⟩:∃bo,bo=fitL ((b.drop 9).take (N+4)):=⟨_,rfl⟩
    have HY:=gI hy;have HBO:=gI hbo;clear hy hbo
    go_wp2_with fail
    refine (zd9 (some ⟨a.block,a.off+9,none⟩) (n-9) (c-9) N (b.drop 9) w3 HDL.out (by omega) (by omega) (by omega) HD.out).mono ?_;rw[<-HY.out,<-HBO.out];rintro e w4 ⟨hb4,Y,m,dd,rfl,hl4,hm4,hr4,hnw4,hcd4⟩;have HCD:=gI hcd4;have HB4:=gI (HB3.out.trans (hb4.mono hs3));have T4:=gI (T3.out.past hb4);have HC4:=gI ((hb4.cell (p:=a'.add 0) (block_lt_of_cell HC0.out)).trans HC0.out);have HL4:=gI hl4;have HR4:=gI hr4;have HNW4:=gI hnw4;have hs4:=HB4.out.size;clear hb4 hl4 hr4 hnw4 hcd4 r0 r1 r2 r3;obtain ⟨r0,r1,r2,r3⟩:=T4.out
    cases hfit2:fitB ((b.drop 9).take (N+4)) with
    |false=>
     have hy5:y=5:=by rw[HY.out,HFB.out,hfit2];rfl
     subst hy5;have HG:=gI (zfs (b:=b) (by rw[HB.out];omega) HFIT.out HN5.out hlong (by rw[HB.out];exact hcut) hfit2);have HX:=gI ((T4.out.set (.int .u8 0) (.slice none 0 0)));have HE:=gI ((HB4.out.setCell (p:=⟨w.heap.size,0,none⟩) (Nat.le_refl _) (.int .u8 0)).setCell (p:=⟨w.heap.size,1,none⟩) (Nat.le_refl _) (.slice none 0 0));obtain ⟨s0,s1,-,-⟩:=HX.out;clear hfit2
     go_wp2
     exact bodyPost_ret (v:=.tuple #[.agg #[.int .u8 0,.slice none 0 0],.int .i64 0,.int .i64 5]) (by simp[results,Tryz.results74,go_sem,s0,s1]) rfl (q9 HG.out HE.out)
    |true=>
     have hy0:y=0:=by rw[HY.out,HFB.out,hfit2];rfl
     subst hy0;have hbo2:bo=(b.drop 9).take N:=by
      rw[HBO.out];unfold fitL;rw[if_pos hfit2,List.length_take,HDL.out,List.take_take]
      congr 1;omega
     have hmN:m=N:=by rw[<-HL4.out,hbo2,List.length_take,HDL.out];omega
     subst hmN;have HG:=gI (show getS b=(⟨u0,bo⟩,m+13,0) by
      rw[VE (b:=b) (by rw[HB.out];omega) HFIT.out HN5.out hlong (by rw[HB.out];exact hcut) hfit2,HU0.out,hbo2])
     have c0:w4.cell? ⟨a'.block,a'.off,a'.spot⟩=some (.int .u8 (u0.toNat:Int)):=HC4.out;have HX:=gI ((T4.out.set (.int .u8 (u0.toNat:Int)) (.slice Y m dd)));have HE:=gI ((HB4.out.setCell (p:=⟨w.heap.size,0,none⟩) (Nat.le_refl _) (.int .u8 (u0.toNat:Int))).setCell (p:=⟨w.heap.size,1,none⟩) (Nat.le_refl _) (.slice Y m dd));obtain ⟨s0,s1,-,-⟩:=HX.out;clear hfit2 hbo2
     go_wp2
     exact bodyPost_ret (v:=.tuple #[.agg #[.int .u8 (u0.toNat:Int),.slice Y m dd],.int .i64 (9+(m:Int)+4),.int .i64 0]) (by simp[results,Tryz.results74,go_sem,s0,s1]) rfl (by
      rw[HG.out];exact ⟨HE.out,Y,m,dd,(by rw[show (9:Int)+(m:Int)+4=((m+13:Nat):Int) by omega]),HL4.out,by omega,zeT HR4.out HNW4.out T3.out.here _ _,fun h=>by
       obtain ⟨g,e,hg⟩:=HNW4.out h;exact ⟨g,e,by have:=T3.out.here;omega⟩,HCD.out.1,HCD.out.2.1,fun a ha=>by have:=HCD.out.2.2 a ha;have:=T3.out.here;omega⟩)
theorem zfw (A:Option Addr) (n c:Nat) (b:List UInt8) (w:World) (hb:b.length=n) (hc:n<=c) (hc63:c<=9223372036854775807) (hr:Rd w w.heap.size A b) :
 Calls Tryz.prog 74 #[.slice A n c] w (zgR w (getS b)):=by
 by_cases h:n<9
 ·exact zeg A n c b w hb h
 ·obtain ⟨a,rfl,-⟩:=hr (by omega);exact zgz a n c b w hb hc hc63 (by omega) hr
theorem zgR.plain {w w':World} {R:SecD×Nat×Int} {e:Ending} (h:zgR w R e w'):zkO w R e w':=by
 obtain ⟨hb,X,n,c,h1,h2,h3,h4,h5,-⟩:=h;exact ⟨hb,X,n,c,h1,h2,h3,h4,h5⟩
end
section
namespace Pg
open Go.RowKit Cr Me Fr
def zeros (n:Nat):List UInt8:=List.replicate n 0
def raw (f p:Reg) (b:List UInt8):List UInt8:=four f++(four p++(four (BitVec.ofNat 32 b.length)++(b++zeros (112-b.length))))
def enc (f p:Reg) (b:List UInt8):List UInt8:=Cr.mark (raw f p b)
def num (l:List UInt8):Nat:=(l.getD 0 0).toNat+256*(l.getD 1 0).toNat+65536*(l.getD 2 0).toNat+16777216*(l.getD 3 0).toNat
def inner (k:List UInt8):List UInt8:=(k.drop 12).take (min (num (k.drop 8)) 112)
def getP (k:List UInt8) (f p:Reg):List UInt8×Int:=
 if k.length=128 then (if enc f p (inner k)==k then (inner k,0) else ([],5)) else ([],3)
theorem zea (r:Reg):(four r).length=4:=rfl
theorem zas {f p:Reg} {b:List UInt8} (h:b.length<=112):(raw f p b).length=124:=by
 simp only[raw,zeros,List.length_append,zea,List.length_replicate];omega
theorem qp {f p:Reg} {b:List UInt8} (h:b.length<=112):(enc f p b).length=128:=by
 unfold enc;rw[zO,zas h]
theorem zjW (r:Reg) (l:List UInt8):num (four r++l)=r.toNat:=by
 have hr:=r.isLt;simp only[num,four,List.cons_append,List.getD_cons_zero,List.getD_cons_succ,UInt8.toNat_ofNat'];omega
theorem VK (r:Reg) (l:List UInt8):(four r++l).drop 4=l:=List.drop_left' rfl
section
variable {f p f' p':Reg} {b:List UInt8}
theorem zkx:enc f p b=four f++(four p++(four (BitVec.ofNat 32 b.length)++(b++(zeros (112-b.length)++four (crc (raw f p b)))))):=by
 show raw f p b++four _=_
 generalize crc (raw f p b)=r
 simp only[raw,List.append_assoc]
theorem zdg:(enc f p b).drop 8=four (BitVec.ofNat 32 b.length)++(b++(zeros (112-b.length)++four (crc (raw f p b)))):=by
 rw[show (8:Nat)=4+4 from rfl,<-List.drop_drop,zkx,VK,VK]
theorem zlV (h:b.length<=112):num ((enc f p b).drop 8)=b.length:=by
 rw[zdg,zjW,BitVec.toNat_ofNat];omega
theorem zgA:(enc f p b).drop 12=b++(zeros (112-b.length)++four (crc (raw f p b))):=by
 rw[show (12:Nat)=8+4 from rfl,<-List.drop_drop,zdg,VK]
theorem zjQ (h:b.length<=112):inner (enc f p b)=b:=by
 unfold inner;rw[zlV h,zgA,Nat.min_eq_left h,List.take_left' rfl]
theorem zkn (h:b.length<=112):getP (enc f p b) f p=(b,0):=by
 unfold getP;rw[if_pos (qp h),zjQ h,if_pos (by simp)]
theorem Vj {k:List UInt8} (hk:k.length=128):(inner k).length=min (num (k.drop 8)) 112:=by
 unfold inner;rw[List.length_take,List.length_drop,hk];omega
theorem zlt {k:List UInt8} (hk:k.length=128):(inner k).length<=112:=by rw[Vj hk];omega
theorem zlS (k:List UInt8) (f p:Reg):(getP k f p).1.length<=112:=by
 unfold getP
 split
 ·rename_i h
  split
  ·exact zlt h
  ·simp
 ·simp
theorem zgr {k:List UInt8} (hk:k.length≠128):getP k f p=([],3):=by unfold getP;rw[if_neg hk]
end
end Pg
section
open Go.RowKit Cr Me Pg
def regs (rs:List Reg):List Value:=rs.map fun r=>.int .u32 (r.toNat:Int)
theorem ziu {rs:List Reg} {k:Nat} {r:Reg} (h:rs[k]?=some r):(rs.take (k+1)).flatMap four=(rs.take k).flatMap four++four r:=by
 rw[List.take_add_one,h,List.flatMap_append]
 simp
def zi7 (w:World) (rs:List Reg) (k:Nat) (v:Value) (wr:World):Prop:=wr.ownsRow w.heap.size 5 1 v (4*k) (cellsOf ((rs.take k).flatMap four))/\Below w.heap.size w wr
theorem zcD (L:Option Addr) (n c:Nat) (rs:List Reg) (w:World) (hl:rs.length=n) (hn:n<=1000) (ha:Cs w w.heap.size L (regs rs)) :
 Calls Tryz.prog 181 #[.slice L n c] w (News w (rs.flatMap four)):=by
 obtain ⟨i0,hi0,hz0,hz1,hz2⟩:=info_parts yO;have HL:=gI hl;have HA:=gI ha;have HREL:=gI (show zi7 w rs 0 (.slice none 0 0) w from ⟨World.ownsRow_nil _ _ _ _,Below.refl _ _⟩);clear hl ha
 go_enter Tryz.func181,Tryz.ntmps181
 go_wp2
 go_loopw [3,8] (fun v i wr=>∃k:Nat,k<=n/\i=.int .i64 k/\Hid (zi7 w rs k v wr)) (fun _ i _=>n-(intOf i).toNat)
 case atStart=>exact ⟨0,Nat.zero_le _,rfl,HREL⟩
 case round=>
  clear HREL;obtain ⟨k,hk,rfl,HP⟩:=hrel;obtain ⟨ho,hb⟩:=HP.out;have HO:=gI ho;have HB:=gI hb;have hsz:=hb.size;clear ho hb HP
  by_cases hlt:k<n
  ·have hlt':k<rs.length:=by rw[HL.out];exact hlt
   obtain ⟨a,rfl,hab,hc⟩:=HA.out (by unfold regs;rw[List.length_map];omega);obtain ⟨r,hr⟩:∃r,rs[k]?=some r:=⟨_,List.getElem?_eq_getElem hlt'⟩
   have c0:=(HB.out.cell (p:=a.add k) (by rw[block_add];exact hab)).trans (hc k _ (by unfold regs;rw[List.getElem?_map,hr];rfl));have HR:=gI hr;have hr1:=Qm r;have q0:(0:Int)<=(k:Int):=by omega
   have q1:(k:Int)<(n:Int):=by omega
   clear hr hc hlt'
   go_wp2_with (at_builtin
                refine zF rfl (.tmp 12) (.tmp 24) 24 rfl w.heap.size 5 i0 _ Tryz.underlying24 hi0 hz0 hz1 hz2 rfl _ (4*k) _ rfl (HO.out.alloc _) (wr.heap.size+1) (some ⟨wr.heap.size,0,none⟩) 4 4 (four r) rfl rfl (Rd.lit wr _ _ _ (QM r)) (by omega) (by simp;omega) ?_;intro v5 w5 hown5 hg5 _;have HREL:=gI (show zi7 w rs (k+1) v5 w5 from ⟨by rw[ziu HR.out];exact hown5,yj (HB.out.alloc hsz _) (HO.out.alloc _) (Nat.le_refl _) (by simp;omega) hg5⟩);clear hown5 hg5)
   go_roundw
   case rel=>exact ⟨k+1,by omega,by go_num,HREL⟩
   case measure=>simp[intOf];omega
  ·have htk:rs.take k=rs:=List.take_of_length_le (by rw[HL.out];omega);rw[htk] at HO
   go_wp2
   go_ret
   exact ⟨_,_,rfl,HO.out,HB.out⟩
end
section
open Go.RowKit Cr Me Pg
theorem zg0:(Tryz.prog.info? 5).map (·.size)=some 1:=by kernel_rfl
theorem zjG {f p:Reg} {b:List UInt8} {n:Nat} (hb:b.length=n) {x:List UInt8} (hx:x=[f,p,BitVec.ofNat 32 n].flatMap four) :
 ((List.replicate 124 (0:UInt8)).take 0++x++(List.replicate 124 (0:UInt8)).drop (0+12)).take 12++b++((List.replicate 124 (0:UInt8)).take 0++x++(List.replicate 124 (0:UInt8)).drop (0+12)).drop (12+n)=raw f p b:=by
 have hxl:x.length=12:=by rw[hx];rfl
 rw[List.take_zero,List.nil_append,List.drop_replicate,List.take_left' hxl,<-List.drop_drop,List.drop_left' hxl,List.drop_replicate,hx];unfold raw zeros;rw[hb];simp only[List.flatMap_cons,List.flatMap_nil,List.append_nil,List.append_assoc]
theorem zcC (f p:Reg) (A:Option Addr) (n c:Nat) (b:List UInt8) (w:World) (hb:b.length=n) (hn:n<=112) (hr:Rd w w.heap.size A b) :
 Calls Tryz.prog 142 #[.int .u32 (f.toNat:Int),.int .u32 (p.toNat:Int),.slice A n c] w (Yp w (enc f p b) 0):=by
 obtain ⟨i0,hi0,hz0,hz1,hz2⟩:=info_parts yO;have h1:decide ((112:Int)<(n:Int))=false:=by simp;omega
 have hw:IntKind.u32.wrap (n:Int)=(n:Int):=by rw[IntKind.wrap_u32];omega
 have HN:=gI (show (BitVec.ofNat 32 n).toNat=n by rw[BitVec.toNat_ofNat];omega);have HB:=gI hb;have HR:=gI hr;clear hb hr
 go_enter Tryz.func142,Tryz.ntmps142
 go_wp2_with (refine wpList_make_full w rfl _ _ 24 rfl w.heap.size 5 i0 _ 1 Tryz.underlying24 hi0 hz0 hz1 .i64 .i64 _ _ 124 rfl rfl rfl rfl (by rw[hz2];omega) (by unfold maxLen;omega) (Nat.le_refl _) ?_
              intro w1 ho1 hg1;rw[zcW] at ho1;have HB1:=gI (show Below w.heap.size w w1 from (Below.refl _ _).grown hg1 (Nat.le_refl _) (fun k e=>by cases e));have HO1:=gI ho1;clear ho1 hg1)
 have HC:=gI (show Cs (w1.alloc (.cells #[.int .u32 (f.toNat:Int),.int .u32 (p.toNat:Int),.int .u32 (n:Int)] 107)) (w1.alloc (.cells #[.int .u32 (f.toNat:Int),.int .u32 (p.toNat:Int),.int .u32 (n:Int)] 107)).heap.size (some ⟨w1.heap.size,0,none⟩) (regs [f,p,BitVec.ofNat 32 n]) from by
  have:=Cs.lit w1 #[.int .u32 (f.toNat:Int),.int .u32 (p.toNat:Int),.int .u32 (n:Int)] 107;unfold regs;simp only[List.map_cons,List.map_nil,HN.out]
  simpa using this)
 have HB2:=gI (HB1.out.alloc HB1.out.size (.cells #[.int .u32 (f.toNat:Int),.int .u32 (p.toNat:Int),.int .u32 (n:Int)] 107));have HO2:=gI (HO1.out.alloc (.cells #[.int .u32 (f.toNat:Int),.int .u32 (p.toNat:Int),.int .u32 (n:Int)] 107));refine (zcD _ 3 3 [f,p,BitVec.ofNat 32 n] _ rfl (by omega) HC.out).mono ?_;intro e w3 h;obtain ⟨A3,n3,c3,rfl,hl3,hc3,-,hr3,hb3⟩:=h.open;have hn3:n3=12:=by rw[<-hl3];rfl
 subst hn3;obtain ⟨x,hx⟩:∃x,x=[f,p,BitVec.ofNat 32 n].flatMap four:=⟨_,rfl⟩
 rw[<-hx] at hl3 hr3;have HX:=gI hx;have HL3:=gI hl3;have HR3:=gI hr3;have HB3:=gI (HB2.out.trans (hb3.mono HB2.out.size));have HO3:=gI (own_below HO2.out hb3);clear hx hl3 hr3 hb3 h HC HO1 HO2 HB1 HB2
 go_wp2_with (first
  |(with_reducible show wpList _ _ _ _ _ _
    refine qc (o:=⟨some 21,_,_,_,_,_⟩) rfl (.tmp 13) (.tmp 20) 24 rfl 5 Tryz.underlying24 zg0 w.heap.size w.heap.size 124 0 124 124 _ HO3.out rfl w3.heap.size A3 12 c3 x rfl HL3.out HR3.out (by omega) (by omega) w HB3.out ?_;intro w4 ho4 hb4;have HO4:=gI ho4;have HB4:=gI hb4;clear ho4 hb4)
  |(with_reducible show wpList _ _ _ _ _ _
    refine qc (o:=⟨some 25,_,_,_,_,_⟩) rfl (.tmp 23) (.tmp 24) 24 rfl 5 Tryz.underlying24 zg0 w.heap.size w.heap.size 124 12 112 112 _ HO4.out rfl w.heap.size A n c b rfl HB.out (HR.out.below HB4.out) hn (by omega) w HB4.out ?_;intro w5 ho5 hb5;have HO5:=gI ho5;have HB5:=gI hb5;clear ho5 hb5))
 have ho:=HO5.out;rw[zjG HB.out HX.out] at ho;have HRW:=gI (Rd.of_own ho);clear ho;refine (Vq (some ⟨w.heap.size,0,none⟩) 124 124 (raw f p b) w5 (zas (by rw[HB.out];exact hn)) (by omega) HRW.out).mono ?_;rintro e w6 ⟨v,m,rfl,ho6,hb6⟩;have HO6:=gI (zU ho6 HB5.out.size);have HB6:=gI (HB5.out.trans (hb6.mono HB5.out.size));clear ho6 hb6
 go_wp2
 go_ret2
 exact ⟨v,m,rfl,HO6.out,HB6.out⟩
end
section
open Go.RowKit Cr Me Pg
def ctG (d:Addr) (c:Nat) (p0 p1 p2 p3:Nat):Gw.Fact:=fun t v _=>
 match t with
 |3|7|11|17|23=>v=.slice (some d) 4 c
 |8=>v=.pointer (some d)
 |12=>v=.pointer (some (d.add 1))
 |18=>v=.pointer (some (d.add 2))
 |24=>v=.pointer (some (d.add 3))
 |9=>v=.int .u8 (p0:Int)
 |10=>v=.int .u32 (p0:Int)
 |13=>v=.int .u8 (p1:Int)
 |14=>v=.int .u32 (p1:Int)
 |15=>v=.int .u32 ((256*p1:Nat):Int)
 |16=>v=.int .u32 ((p0+256*p1:Nat):Int)
 |19=>v=.int .u8 (p2:Int)
 |20=>v=.int .u32 (p2:Int)
 |21=>v=.int .u32 ((65536*p2:Nat):Int)
 |22=>v=.int .u32 ((p0+256*p1+65536*p2:Nat):Int)
 |25=>v=.int .u8 (p3:Int)
 |26=>v=.int .u32 (p3:Int)
 |27=>v=.int .u32 ((16777216*p3:Nat):Int)
 |4|28=>v=.int .u32 ((p0+256*p1+65536*p2+16777216*p3:Nat):Int)
 |_=>True
theorem zhN {w:World} {a:Addr} {k:List UInt8} (hl:12<=k.length) (hr:Rd w w.heap.size (some a) k) :
 ∃u0 u1 u2 u3:UInt8,num (k.drop 8)=u0.toNat+256*u1.toNat+65536*u2.toNat+16777216*u3.toNat/\w.cell? (a.add 8)=some (.int .u8 (u0.toNat:Int))/\w.cell? (a.add 9)=some (.int .u8 (u1.toNat:Int))/\w.cell? (a.add 10)=some (.int .u8 (u2.toNat:Int))/\w.cell? (a.add 11)=some (.int .u8 (u3.toNat:Int))/\a.block<w.heap.size:=by
 have cell:∀i,i<12->∃u:UInt8,k[i]?=some u/\w.cell? (a.add i)=some (.int .u8 (u.toNat:Int))/\a.block<w.heap.size:=by
  intro i hi;obtain ⟨a',u,e,hb,hu,hcell⟩:=hr.at (k:=i) (by omega)
  cases e
  exact ⟨u,hu,hcell,hb⟩
 obtain ⟨u0,g0,c0,hab⟩:=cell 8 (by omega);obtain ⟨u1,g1,c1,-⟩:=cell 9 (by omega);obtain ⟨u2,g2,c2,-⟩:=cell 10 (by omega);obtain ⟨u3,g3,c3,-⟩:=cell 11 (by omega);refine ⟨u0,u1,u2,u3,?_,c0,c1,c2,c3,hab⟩;unfold num;simp only[List.getD_eq_getElem?_getD,List.getElem?_drop,g0,g1,g2,g3];rfl
theorem zbF (a:Addr) (c:Nat) (k:List UInt8) (w:World) (hl:k.length=128) (hc:128<=c) (hr:Rd w w.heap.size (some a) k) :
 Calls Tryz.prog 192 #[.slice (some a) 128 c] w fun e w'=>e=.returned (.int .u32 ((min (num (k.drop 8)) 112:Nat):Int))/\Below w.heap.size w w':=by
 obtain ⟨u0,u1,u2,u3,hnum,c0,c1,c2,c3,hab⟩:=zhN (by omega) hr;rw[hnum];have b0:u0.toNat<256:=u0.toNat_lt;have b1:u1.toNat<256:=u1.toNat_lt;have b2:u2.toNat<256:=u2.toNat_lt;have b3:u3.toNat<256:=u3.toNat_lt;clear hnum hl hr
 generalize u0.toNat=p0 at *
 generalize u1.toNat=p1 at *
 generalize u2.toNat=p2 at *
 generalize u3.toNat=p3 at *
 have v0:IntKind.u32.wrap (p0:Int)=p0:=by rw[IntKind.wrap_u32];omega
 have v1:IntKind.u32.wrap (p1:Int)=p1:=by rw[IntKind.wrap_u32];omega
 have v2:IntKind.u32.wrap (p2:Int)=p2:=by rw[IntKind.wrap_u32];omega
 have v3:IntKind.u32.wrap (p3:Int)=p3:=by rw[IntKind.wrap_u32];omega
 have x1:IntKind.u32.wrap ((p1:Int)*256)=256*p1:=by rw[IntKind.wrap_u32];omega
 have x2:IntKind.u32.wrap ((p2:Int)*65536)=65536*p2:=by rw[IntKind.wrap_u32];omega
 have x3:IntKind.u32.wrap ((p3:Int)*16777216)=16777216*p3:=by rw[IntKind.wrap_u32];omega
 have o1:bits .or .u32 (p0:Int) (256*(p1:Int))=(p0:Int)+256*p1:=by
  have:=Yx 8 p0 p1 (by omega) (by omega) (by omega)
  simpa using this
 have o2:bits .or .u32 ((p0:Int)+256*(p1:Int)) (65536*(p2:Int))=(p0:Int)+256*p1+65536*p2:=by
  have:=Yx 16 (p0+256*p1) p2 (by omega) (by omega) (by omega)
  simpa using this
 have o3:bits .or .u32 ((p0:Int)+256*(p1:Int)+65536*(p2:Int)) (16777216*(p3:Int))=(p0:Int)+256*p1+65536*p2+16777216*p3:=by
  have:=Yx 24 (p0+256*p1+65536*p2) p3 (by omega) (by omega) (by omega)
  simpa using this
 obtain ⟨d,hd⟩:∃d,d=a.add 8:=⟨_,rfl⟩
 have hdb:d.block<w.heap.size:=by rw[hd,block_add];exact hab
 have d1:a.add 9=d.add 1:=by rw[hd,add_add]
 have d2:a.add 10=d.add 2:=by rw[hd,add_add]
 have d3:a.add 11=d.add 3:=by rw[hd,add_add]
 rw[d1] at c1;rw[d2] at c2;rw[d3] at c3;rw[<-hd] at c0;have HD:=gI hd;have HC0:=gI c0;have HC1:=gI c1;have HC2:=gI c2;have HC3:=gI c3;clear d1 d2 d3 c0 c1 c2 c3 hab hd;obtain ⟨z,hz⟩:∃z:Nat,z=min (p0+256*p1+65536*p2+16777216*p3) 112:=⟨_,rfl⟩
 rw[<-hz];have HZ:=gI hz;clear hz;have q1:¬c=8:=by omega
 have q2:(12:Int)<=(c:Int):=by omega
 go_enter Tryz.func192,Tryz.ntmps192
 go_wp2_with fail
 rw[show (⟨a.block,a.off+8,none⟩:Addr)=d from HD.out.symm];refine Gw.zl (ctG d (c-8) p0 p1 p2 p3) [7,8,9,10,11,12,13,14,15,16,17,18,19,20,21,22,23,24,25,26,27,28,4] [([3],none),([7],none),([8],none),([9],none),([3],none),([11],none),([12],none),([13],none),([14],none),([10,15],none),([3],none),([17],none),([18],none),([19],none),([20],none),([16,21],none),([3],none),([23],none),([24],none),([25],none),([26],none),([22,27],none),([28],none)] 31 (by kernel_rfl) (by kernel_rfl) rfl ?h0 ?hreq ?hend
 case h0=>
  intro t W hnd _;unfold ctG
  split<;>first|rfl|trivial|exact absurd (by simp) hnd
 case hreq=>
  refine ⟨?_,?_,?_,?_,?_,?_,?_,?_,?_,?_,?_,?_,?_,?_,?_,?_,?_,?_,?_,?_,?_,?_,?_,trivial⟩
  all_goals
   intro ac W hg hk;have hg':Below w.heap.size w W:=hg;have k0':W.cell? d=_:=(hg'.cell (p:=d) hdb).trans HC0.out;have k1:W.cell? ⟨d.block,d.off+1,none⟩=_:=(hg'.cell (p:=d.add 1) (by rw[block_add];exact hdb)).trans HC1.out;have k2:W.cell? ⟨d.block,d.off+2,none⟩=_:=(hg'.cell (p:=d.add 2) (by rw[block_add];exact hdb)).trans HC2.out;have k3:W.cell? ⟨d.block,d.off+3,none⟩=_:=(hg'.cell (p:=d.add 3) (by rw[block_add];exact hdb)).trans HC3.out;simp only[Gw.Knows,ctG] at hk
   try (simp[go_sem,Gw.zw,Gw.Ok,Gw.Post,Gw.Holds,ctG,Gw.zk.refl,hk,k0',k1,k2,k3,v0,v1,v2,v3,x1,x2,x3,o1,o2,o3];done)
 case hend=>
  intro x w' hg hx;have h2:x 4=.int .u32 ((p0+256*p1+65536*p2+16777216*p3:Nat):Int):=(hx 4 (by simp)).now;have HB:=gI (show Below w.heap.size w w' from hg);clear v0 v1 v2 v3 x1 x2 x3 o1 o2 o3;simp only[Gw.zm,Act.put,List.setIfInBounds_toArray,List.set_cons_zero,List.set_cons_succ];rw[h2];have HZ2:=gI HZ.out;clear HZ h2
  generalize p0+256*p1+65536*p2+16777216*p3=m at *
  by_cases hm:m<=112
  ·have m1:decide ((112:Int)<(m:Int))=false:=by simp;omega
   have HM:=gI (show z=m by have:=HZ2.out;omega);clear HZ2
   go_wp2
   go_ret
   exact ⟨by rw[HM.out];rfl,HB.out⟩
  ·have m1:decide ((112:Int)<(m:Int))=true:=by simp;omega
   have HM:=gI (show z=112 by have:=HZ2.out;omega);clear HZ2
   go_wp2
   go_ret
   exact ⟨by rw[HM.out];rfl,HB.out⟩
end
section
open Go.RowKit Cr Me Pg
def pgG (a d:Addr) (c m:Nat):Gw.Fact:=fun t v _=>
 match t with
 |0|14|16=>v=.slice (some a) 128 (c+12)
 |15=>v=.slice (some d) 116 c
 |17=>v=.int .u32 (m:Int)
 |8|18=>v=.slice (some d) m c
 |_=>True
theorem zf1 (f p:Int) (A:Option Addr) (n c:Nat) (w:World) (hn:n≠128) :
 Calls Tryz.prog 149 #[.slice A n c,.int .u32 f,.int .u32 p] w fun e w'=>e=.returned (.tuple #[.slice none 0 0,.int .i64 3])/\w=w':=by
 have h1:((n:Int)==128)=false:=by rw[beq_eq_false_iff_ne];omega
 go_enter Tryz.func149,Tryz.ntmps149
 go_wp2
 go_ret2
 exact ⟨rfl,rfl⟩
theorem zhD (f p:Reg) (a:Addr) (c:Nat) (k:List UInt8) (w:World) (hl:k.length=128) (hc:128<=c) (hr:Rd w w.heap.size (some a) k) :
 Calls Tryz.prog 149 #[.slice (some a) 128 c,.int .u32 (f.toNat:Int),.int .u32 (p.toNat:Int)] w fun e w'=>zdw w (getP k f p).1 (getP k f p).2 e w':=by
 obtain ⟨cc,rfl⟩:∃cc,c=cc+12:=⟨c-12,by omega⟩
 obtain ⟨m,hm⟩:∃m,m=min (num (k.drop 8)) 112:=⟨_,rfl⟩
 have hm1:m<=112:=by omega
 have hpl:(inner k).length=m:=by rw[Vj hl,hm]
 have hpr:Rd w w.heap.size (some (a.add 12)) (inner k):=by
  have:=(hr.drop (k:=12) (cap:=cc+12) (by omega)).take m;rw[if_neg (by omega)] at this;unfold inner;rw[<-hm];exact this
 obtain ⟨d,hd⟩:∃d,d=a.add 12:=⟨_,rfl⟩
 rw[<-hd] at hpr;obtain ⟨g,hg⟩:∃g,(enc f p (inner k)==k)=g:=⟨_,rfl⟩
 have HR1:=gI (show getP k f p=if g then (inner k,0) else ([],5) by unfold getP;rw[if_pos hl,hg]);obtain ⟨R,hR⟩:∃R,R=getP k f p:=⟨_,rfl⟩
 rw[<-hR] at HR1 ⊢;have HM:=gI hm;have HL:=gI hl;have HPL:=gI hpl;have HPR:=gI hpr;have HD:=gI hd;have HG:=gI hg;have HRD:=gI hr;have HEL:=gI (show (enc f p (inner k)).length=128 from qp (by rw[hpl];exact hm1));have q1:¬cc=0:=by omega
 have q2:(m:Int)<=(cc:Int):=by omega
 clear hm hpl hpr hd hg hR hr hl
 go_enter Tryz.func149,Tryz.ntmps149
 go_wp2_with fail
 refine Gw.zl (pgG a d cc m) [14,15,16,17,18,8] [([0],none),([14],none),([0],none),([16],none),([15,17],none),([18],none)] 32 (by kernel_rfl) (by kernel_rfl) rfl ?h0 ?hreq ?hend
 case h0=>
  intro t W hnd _;unfold pgG
  split<;>first|rfl|trivial|exact absurd (by simp) hnd
 case hreq=>
  have e12:(⟨a.block,a.off+12,none⟩:Addr)=d:=HD.out.symm;refine ⟨?_,?_,?_,?_,?_,?_,trivial⟩
  all_goals
   intro ac W hg hk;simp only[Gw.Knows,pgG] at hk
   try (simp[go_sem,Gw.zw,Gw.Ok,Gw.Post,Gw.Holds,pgG,Gw.zk.refl,hk,q1,q2,e12];done)
  ·simp[go_sem,Gw.zw,Gw.Ok,Gw.Post,Gw.Holds,pgG,Gw.zk.refl,hk];refine (zbF a (cc+12) k W HL.out (by omega) ((HRD.out.below hg).more (Below.size hg))).mono ?_;rintro e w5 ⟨rfl,hb⟩;rw[<-HM.out];exact ⟨_,rfl,hb,fun _ _=>rfl⟩
 case hend=>
  intro x w1 hg hx;have h8:x 8=.slice (some d) m cc:=(hx 8 (by simp)).now;have HB1:=gI (show Below w.heap.size w w1 from hg);simp only[Gw.zm,Act.put,List.setIfInBounds_toArray,List.set_cons_zero,List.set_cons_succ];rw[h8];clear h8 hx hg
  generalize x 14=x14
  generalize x 15=x15
  generalize x 16=x16
  generalize x 17=x17
  generalize x 18=x18
  go_wp2_with fail
  refine (zcC f p (some d) m cc (inner k) w1 HPL.out hm1 ((HPR.out.below HB1.out).more HB1.out.size)).mono ?_;intro e w2 h;obtain ⟨A2,n2,c2,rfl,hl2,hc2,ho2,hr2,hb2⟩:=h.open;have hn2:n2=128:=by rw[<-hl2];exact HEL.out
  subst hn2;have HR2:=gI hr2;have HB2:=gI (HB1.out.trans (hb2.mono HB1.out.size));clear hl2 ho2 hr2 hb2 h
  go_wp2_with fail
  refine (zdf A2 (some a) 128 c2 128 (cc+12) (enc f p (inner k)) k w2 w2.heap.size w2.heap.size HEL.out HR2.out HL.out ((HRD.out.below HB2.out).more HB2.out.size)).mono ?_;rw[HG.out];rintro e w3 ⟨rfl,rfl⟩
  cases g with
  |false=>
   have HF:=gI (show R=([],5) from HR1.out)
   go_wp2
   go_ret2
   rw[HF.out];exact ⟨HB2.out,none,0,0,rfl,rfl,by omega,Rd.empty,fun h=>by simp at h⟩
  |true=>
   have HF:=gI (show R=(inner k,0) from HR1.out)
   go_wp2_with fail
   refine (xV (some d) m cc (inner k) w2 HPL.out (by omega) ((HPR.out.below HB2.out).more HB2.out.size)).mono ?_;intro e w4 h;obtain ⟨A4,n4,c4,rfl,hl4,hc4,ho4,hr4,hb4⟩:=h.open;have HL4:=gI hl4;have HR4:=gI hr4;have HB4:=gI (HB2.out.trans (hb4.mono HB2.out.size));have HN4:=gI (show 0<(inner k).length->∃b,A4=some b/\w.heap.size<=b.block from fun h=>by
    obtain ⟨g,cap,hv,hg,-⟩:=ho4.form (by omega);injection hv with hv;exact ⟨_,hv,Nat.le_trans HB2.out.size hg⟩)
   have hn4:n4<=112:=by have:=HPL.out;omega
   clear hl4 ho4 hr4 hb4 h
   go_wp2
   go_ret2
   rw[HF.out];exact ⟨HB4.out,A4,n4,c4,rfl,HL4.out,by omega,HR4.out,HN4.out⟩
theorem zjK (f p:Reg) (A:Option Addr) (n c:Nat) (k:List UInt8) (w:World) (hl:k.length=n) (hc:n<=c) (hr:Rd w w.heap.size A k) :
 Calls Tryz.prog 149 #[.slice A n c,.int .u32 (f.toNat:Int),.int .u32 (p.toNat:Int)] w fun e w'=>zdw w (getP k f p).1 (getP k f p).2 e w':=by
 by_cases hn:n=128
 ·subst hn;obtain ⟨a,rfl,-⟩:=hr (by omega);exact zhD f p a c k w hl hc hr
 ·refine (zf1 _ _ A n c w hn).mono fun e w' ⟨he,hw⟩=>?_
  subst hw;rw[zgr (by omega)];exact ⟨Below.refl _ _,none,0,0,he,rfl,by omega,Rd.empty,fun h=>by simp at h⟩
end
section
open Go.RowKit Cr Me Pg
end
end
section
open Go.RowKit Cr Me Fr
theorem zjt:(Tryz.prog.info? 144).map (fun i=>(i.zero,i.size,i.bytes))=some (some (.agg #[.int .u8 0,.slice none 0 0]),2,32):=by kernel_rfl
theorem zg1 {k:Int} {A:Option Addr} {n c:Nat}:∀v∈([.int .u8 k,.slice A n c]:List Value),v.oneCell'=true:=by
 intro v hv;simp only[List.mem_cons,List.not_mem_nil,or_false] at hv;rcases hv with rfl|rfl<;>rfl
end
section
open Go.RowKit Cr Me Fr
end
section
open Go.RowKit Cr Me Fr
def zbR (vs:List Value):Prop:=∀A n c,Value.slice A n c∈vs->n<=c
theorem zbR.nil:zbR []:=fun _ _ _ h=>by cases h
theorem zbR.snoc {vs:List Value} {k:Int} {A:Option Addr} {n c:Nat} (h:zbR vs) (hc:n<=c):zbR (vs++[.int .u8 k,.slice A n c]):=fun A' n' c' hm=>by
 rcases List.mem_append.1 hm with hm|hm
 ·exact h _ _ _ hm
 ·simp at hm;obtain ⟨-,rfl,rfl⟩:=hm;exact hc
def zab (w:World) (B:Nat) (L:Option Addr) (l:List SecD):Prop:=∃vs,Cs w B L vs/\zA w B vs l/\zbR vs
theorem zab.at {w:World} {B:Nat} {L:Option Addr} {l:List SecD} {k:Nat} (h:zab w B L l) (hk:k<l.length) :
 ∃a s A n c,L=some a/\l[k]?=some s/\a.block<B/\w.cell? (a.add (k*2))=some (.int .u8 (s.kind.toNat:Int))/\w.cell? ⟨(a.add (k*2)).block,(a.add (k*2)).off+1,none⟩=some (.slice A n c) /\
  s.body.length=n/\n<=9223372036854775807/\Rd w B A s.body/\n<=c:=by
 obtain ⟨vs,h1,h2,h5⟩:=h;obtain ⟨a,rfl,hb,hc⟩:=h1 (by rw[h2.length];omega);have hs:l[k]?=some l[k]:=List.getElem?_eq_getElem hk;obtain ⟨g0,b,g1,A,n,c,rfl,q1,q2,q4⟩:=h2.get hs;have k1:=hc _ _ g1;rw[xX a (k*2) 0] at k1;exact ⟨a,l[k],A,n,c,rfl,hs,hb,hc _ _ g0,k1,q1,q2,q4,h5 _ _ _ (List.mem_of_getElem? g1)⟩
theorem zab.empty {w:World} {B:Nat} {L:Option Addr}:zab w B L []:=⟨[],Cs.empty,trivial,.nil⟩
theorem zab.of_own {w:World} {L:Option Addr} {l:List SecD} {base:Nat} {e:TypeId} {n c:Nat} {vs:List Value} (h:w.ownsRow base e 2 (.slice L n c) n vs) (hs:zA w w.heap.size vs l) (hc:zbR vs):zab w w.heap.size L l:=⟨vs,Cs.of_own h,hs,hc⟩
def ziX (w:World) (R:List SecD×Int) (e:Ending) (w':World):Prop:=
 Below w.heap.size w w'/\∃L k d,e=.returned (.tuple #[.slice L k d,.int .i64 R.2])/\R.1.length=k/\zab w' w'.heap.size L R.1
def zbP (w:World) (R:List SecD×Int) (N:Nat) (bv v:Value) (wr:World):Prop:=
 ∃A n c b f L k d acc vs,bv=.slice A n c/\v=.slice L k d/\b.length=n/\n<=c/\c<=9223372036854775807/\Rd w w.heap.size A b/\acc.length=k/\k*13+n<=N/\n<=f/\allS f acc b=R /\
  wr.ownsRow w.heap.size 144 2 v k vs/\zA wr wr.heap.size vs acc/\vY v.ownBlock vs acc/\Below w.heap.size w wr/\zbR vs
theorem zfS {w w2 w5:World} {R:List SecD×Int} {N n c f k q:Nat} {A:Option Addr} {b:List UInt8} {v v5:Value} {acc:List SecD} {vs:List Value} {s:SecD} {Y:Option Addr} {m dd:Nat}
 (hb:b.length=n) (hc:n<=c) (hc63:c<=9223372036854775807) (hr:Rd w w.heap.size A b) (hk:acc.length=k) (hN:k*13+n<=N) (hf:n<=f) (hall:allS f acc b=R) (hn:0<n) (hg:getS b=(s,q,0))
 (hown:w2.ownsRow w.heap.size 144 2 v k vs) (hcells:zA w2 w2.heap.size vs acc) (hoff:vY v.ownBlock vs acc)
 (hcap:zbR vs) (hmd:m<=dd) (hm:s.body.length=m) (hm1:m<=1048576) (hr2:Rd w2 w2.heap.size Y s.body) (hy:0<s.body.length->∀a n c,Value.slice Y m dd=.slice (some a) n c->v.ownBlock≠some a.block) (hb2:Below w.heap.size w w2)
 (ho5:w5.ownsRow w.heap.size 144 2 v5 (k+1) (vs++[.int .u8 (s.kind.toNat:Int),.slice Y m dd])) (hg5:w2.grownBy w5 v.ownBlock) (hat:v5.ownBlock=v.ownBlock\/∃g,v5.ownBlock=some g/\w2.heap.size<=g) :
 zbP w R N (.slice (if c=q then A else A.map (·.add q)) (n-q) (c-q)) v5 w5:=by
 have hq:q=s.body.length+13/\q<=n:=by
  rcases vg b with ⟨x,h1,h2⟩|⟨s',n',h1,h2,-,h4⟩
  ·rw[hg] at h1;injection h1 with _ h1;injection h1 with _ h1;exact absurd h1.symm h2
  ·rw[hg] at h1;injection h1 with h1 h3;injection h3 with h3;subst h1;exact ⟨by omega,by omega⟩
 obtain ⟨f',rfl⟩:∃f',f=f'+1:=⟨f-1,by omega⟩
 rw[VP (fun e=>by rw[e] at hb;simp at hb;omega) hg] at hall;obtain ⟨L,d,rfl,-⟩:=zC ho5;have hbv:VQ w2 w2.heap.size (.slice Y m dd) s.body:=⟨Y,m,dd,rfl,hm,by omega,hr2⟩
 refine ⟨_,n-q,c-q,b.drop q,f',L,k+1,d,acc++[s],_,rfl,rfl,by rw[List.length_drop,hb],by omega,by omega,hr.drop (by omega),by simp[hk],by omega,by omega,hall,ho5,?_,?_,hb2.grown hg5 hb2.size (fun g hgg=>(hown.lt g hgg).1),hcap.snoc hmd⟩
 ·exact ((zA.snoc hbv hcells).grown hg5 (Nat.le_refl _) (vY.snoc hy hoff)).more hg5.size
 ·rcases hat with h|⟨g,h,hlt⟩
  ·rw[h];exact vY.snoc hy hoff
  ·rw[h];exact vY.of_new hlt (zA.snoc hbv hcells)
theorem zcq (A:Option Addr) (n c:Nat) (b:List UInt8) (w:World) (hb:b.length=n) (hc:n<=c) (hc63:c<=9223372036854775807) (hn:n<=35184372088832) (hr:Rd w w.heap.size A b) :
 Calls Tryz.prog 68 #[.slice A n c] w (ziX w (qO b)):=by
 obtain ⟨i0,hi0,hz0,hz1,hz2⟩:=info_parts zjt;obtain ⟨R,hR⟩:∃R,R=qO b:=⟨_,rfl⟩
 rw[<-hR];have HREL:=gI (show zbP w R n (.slice A n c) (.slice (some ⟨w.heap.size,0,none⟩) 0 0) (w.alloc (.cells #[] 144)) from
  ⟨A,n,c,b,b.length,_,0,0,[],[],rfl,rfl,hb,hc,hc63,hr,rfl,by omega,by omega,hR.symm,World.ownsRow_lit w #[] 0 (Nat.le_refl _) (by unfold maxLen;omega) rfl,trivial,trivial,(Below.refl _ _).alloc (Nat.le_refl _) _,.nil⟩)
 clear hb hr hR
 go_enter Tryz.func68,Tryz.ntmps68
 go_wp2
 go_loopw [0,4] (fun bv v wr=>Hid (zbP w R n bv v wr)) (fun bv _ _=>sliceLen bv)
 case atStart=>exact HREL
 case round=>
  clear HREL;obtain ⟨A,n',c',b,f,L,k,d,acc,vs,rfl,rfl,hb,hc',hc63',hr,hk,hN,hf,hall,hown,hcells,hoff,hbw,hcap⟩:=hrel.out;have HB:=gI hb;have HR:=gI hr;have HK:=gI hk;have HALL:=gI hall;have HW:=gI hown;have HCS:=gI hcells;have HOFF:=gI hoff;have HBW:=gI hbw;have HCAP:=gI hcap;have hsz:=hbw.size;clear hb hr hk hall hown hcells hoff hbw hrel hcap
  by_cases h0:0<n'
  ·obtain ⟨s,q,x,hg⟩:∃s q x,getS b=(s,q,x):=⟨_,_,_,rfl⟩
   have HG:=gI hg;clear hg
   go_wp2_with fail
   refine (zcp A n' c' b wr HB.out hc' hc63' ((HR.out.below HBW.out).more hsz)).mono ?_;rw[HG.out];rintro e w2 ⟨hb2,Y,m,dd,rfl,hm,hm1,hr2,hnw,hmd⟩;have hb2w:=HBW.out.trans (hb2.mono hsz);have HB2:=gI hb2w;have HM:=gI (show s.body.length=m from hm);have HR2:=gI (show Rd w2 w2.heap.size Y s.body from hr2);have HY:=gI (show 0<s.body.length->∀a n c,Value.slice Y m dd=.slice (some a) n c->(Value.slice L k d).ownBlock≠some a.block from fun h a n c e he=>by
    obtain ⟨a',e',hge⟩:=hnw h;rw[e'] at e;injection e with e;injection e with e;subst e;have:=(HW.out.lt _ he).2
    omega)
   have HW2:=gI (own_below' HW.out hb2);have HCS2:=gI ((HCS.out.below hb2).more hb2.size);have hs2:=hb2w.size;have T2:=gI (Two.new w2 (.int .u8 (s.kind.toNat:Int)) (.slice Y m dd) 144);have hb3:Below w2.heap.size w2 (w2.alloc (.cells #[.int .u8 (s.kind.toNat:Int),.slice Y m dd] 144)):=(Below.refl _ _).alloc (Nat.le_refl _) _;have hb4:Below w2.heap.size w2 ((w2.alloc (.cells #[.int .u8 (s.kind.toNat:Int),.slice Y m dd] 144)).alloc (.cells #[.int .u8 (s.kind.toNat:Int),.slice Y m dd] 144)):=hb3.alloc hb3.size _;have HB3:=gI hb3;have HB4:=gI hb4;clear hb2 hb2w hm hr2 hnw hb3 hb4;obtain ⟨r0,r1,-,-⟩:=T2.out;have hne0:b≠[]:=fun e=>by have:=HB.out;rw[e] at this;simp at this;omega
   have HNE:=gI hne0;have hk8:=s.kind.toNat_lt;clear hne0
   by_cases hx:x=0
   ·subst hx;have hn8:(k+1)*32<=140737488355328:=by omega
    have hnm:k+1<=maxLen:=by unfold maxLen;omega
    have hqn:q<=n'/\0<q:=by
     rcases vg b with ⟨x,h1,h2⟩|⟨s',n',h1,h2,-,h4⟩
     ·rw[HG.out] at h1;injection h1 with _ h1;injection h1 with _ h1;exact absurd h1.symm h2
     ·rw[HG.out] at h1;injection h1 with h1 h3;injection h3 with h3;have:=HB.out;omega
    obtain ⟨hq1,hq2⟩:=hqn;obtain ⟨a,rfl⟩:∃a,A=some a:=by
     obtain ⟨a,e,-⟩:=HR.out (by rw[HB.out];exact h0);exact ⟨a,e⟩
    have q1:(q:Int)<=(n':Int):=by omega
    have q2:(n':Int)<=(c':Int):=by omega
    go_wp2_with (at_builtin
                 refine wpList_append_own_at (w:=(w2.alloc (.cells #[.int .u8 (s.kind.toNat:Int),.slice Y m dd] 144)).alloc (.cells #[.int .u8 (s.kind.toNat:Int),.slice Y m dd] 144)) rfl (.tmp 22) (.tmp 24) 140 rfl w.heap.size 144 i0 _ 2 32 Tryz.underlying140 hi0 hz0 hz1 hz2 rfl (by decide) (.slice L k d) k _ rfl ((HW2.out.alloc _).alloc _) ⟨w2.heap.size+1,0,none⟩ 1 1 [.int .u8 (s.kind.toNat:Int),.slice Y m dd] rfl rfl (zlf (by simp)) zg1 hnm hn8 (by simp;omega) ?_;intro v5 w5 hown5 hg5 _ hat5)
    have HREL:=gI (zfS (N:=n) HB.out hc' hc63' HR.out HK.out hN hf HALL.out h0 HG.out ((HW2.out.alloc _).alloc _) ((HCS2.out.below HB4.out).more HB4.out.size) HOFF.out HCAP.out hmd HM.out hm1 ((HR2.out.below HB4.out).more HB4.out.size) HY.out (HB2.out.trans (HB4.out.mono hs2)) hown5 hg5 (by
     rcases hat5 with h|h
     ·exact .inl h
     ·exact .inr ⟨_,h,Nat.le_refl _⟩))
    exact ⟨HREL,by show n'-q<n';omega⟩
   ·have hxn:(x != 0)=true:=by rw[bne_iff_ne];exact hx
    have HBAD:=gI (show R=([],x) by
     obtain ⟨f',rfl⟩:∃f',f=f'+1:=⟨f-1,by omega⟩
     rw[<-HALL.out,zbN HNE.out HG.out hx])
    have HE:=gI ((HB2.out.trans (HB3.out.mono hs2)).alloc (HB2.out.trans (HB3.out.mono hs2)).size (.cells #[] 144));clear hx
    go_wp2
    exact bodyPost_ret (v:=.tuple #[.slice (some ⟨w2.heap.size+1,0,none⟩) 0 0,.int .i64 x]) (by simp[results,Tryz.results68,go_sem]) rfl (by rw[HBAD.out];exact ⟨HE.out,_,0,0,rfl,rfl,zab.empty⟩)
  ·have HEND:=gI (show R=(acc,0) by
    have hb0:b=[]:=List.eq_nil_of_length_eq_zero (by rw[HB.out];omega);rw[<-HALL.out,hb0,zfE])
   go_wp2
   exact bodyPost_ret (v:=.tuple #[.slice L k d,.int .i64 0]) (by simp[results,Tryz.results68,go_sem]) rfl (by rw[HEND.out];exact ⟨HBW.out,L,k,d,rfl,HK.out,zab.of_own HW.out HCS.out HCAP.out⟩)
end
end Go.Proofs.YtcdkopbjlakebaaGreatDoor
