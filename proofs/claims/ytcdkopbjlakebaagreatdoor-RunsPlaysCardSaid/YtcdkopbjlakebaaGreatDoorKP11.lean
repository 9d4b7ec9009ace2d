/- Texts put together, for a law: Bc, QuM, Qu. -/
import Derived.Lib.Bytealg
import Derived.Lib.BytesEntry
import Derived.Laws.Externs
import Derived.RegionTactic
import Derived.Test.YtcdkopbjlakebaaGreatDoorKP3
import Derived.Test.YtcdkopbjlakebaaGreatDoorKP2
set_option maxRecDepth 100000
set_option maxHeartbeats 8000000
namespace Go.Proofs.YtcdkopbjlakebaaGreatDoor
section
open Go.RowKit Me Rn
theorem ziC:∀a b:List UInt8,Lib.compareBytes a b=cmpB a b
 |[],[]=>by simp[Lib.compareBytes,cmpB,Op.bytesLess]
 |[],b::y=>by simp[Lib.compareBytes,cmpB,Op.bytesLess]
 |a::x,[]=>by simp[Lib.compareBytes,cmpB,Op.bytesLess]
 |a::x,b::y=>by
  have ih:=ziC x y;rw[Lib.compareBytes]
  by_cases h1:a<b
  ·rw[if_pos h1];have:Op.bytesLess (a::x) (b::y)=true:=(Y5 a b x y).2 (.inl (UInt8.lt_iff_toNat_lt.1 h1));rw[cmpB,this];rfl
  ·rw[if_neg h1]
   by_cases h2:b<a
   ·rw[if_pos h2];have k1:Op.bytesLess (b::y) (a::x)=true:=(Y5 b a y x).2 (.inl (UInt8.lt_iff_toNat_lt.1 h2));have k2:Op.bytesLess (a::x) (b::y)=false:=zcX k1;rw[cmpB,k1,k2];rfl
   ·rw[if_neg h2];have e:a=b:=by
     rw[UInt8.lt_iff_toNat_lt] at h1 h2;exact UInt8.toNat.inj (by omega)
    subst e;have k:∀u v:List UInt8,Op.bytesLess (a::u) (a::v)=Op.bytesLess u v:=fun u v=>by
     rw[Bool.eq_iff_iff,Y5]
     simp
    rw[ih,cmpB,cmpB,k,k]
theorem Q5 {P:Program} (w:World) (B:Nat) (A:Option Addr) (n c:Nat) (l:List UInt8) (hl:l.length=n) (hr:Rd w B A l):(Extern.Bytes.bytesOf (.slice A n c)).run P w=.ok ⟨l.toArray⟩ w:=by
 cases A with
 |none=>
  have:l=[]:=by
   cases l with
   |nil=>rfl
   |cons x l=>
    obtain ⟨a,h,-⟩:=hr (by simp)
    cases h
  subst this;rfl
 |some a=>
  have hh:=Lib.run_loadBytesX (P:=P) w (l.map fun u=>(u.toNat:Int)) a .empty (fun j x hj=>by
   rw[List.getElem?_map] at hj
   cases hu:l[j]? with
   |none=>rw[hu] at hj;cases hj
   |some u=>
    rw[hu] at hj;injection hj with hj;subst hj;have hj':=(List.getElem?_eq_some_iff.1 hu).1;obtain ⟨a',u',e,-,h1,h2⟩:=hr.at hj';injection e with e;subst e;rw[hu] at h1;injection h1 with h1;subst h1;exact h2)
  rw[List.length_map,hl] at hh;have e:Lib.bytesOf (l.map fun u=>(u.toNat:Int))=l:=by
   simp only[Lib.bytesOf,List.map_map]
   conv=>rhs;rw[<-List.map_id l]
   refine List.map_congr_left fun u _=>?_
   simp[Function.comp]
  rw[e] at hh;have he:(⟨ByteArray.empty.data++l.toArray⟩:ByteArray)=⟨l.toArray⟩:=by
   apply ByteArray.ext
   show (#[]:Array UInt8)++l.toArray=l.toArray
   simp
  rw[he] at hh;exact hh
theorem zdV {P:Program} (w:World) (B B':Nat) (A A':Option Addr) (n c n' c':Nat) (l m:List UInt8) (hl:l.length=n) (hr:Rd w B A l) (hm:m.length=n') (hr':Rd w B' A' m) :
 (Extern.BytealgCompare.compare #[.slice A n c,.slice A' n' c']).run P w=.ok (.int .i64 (cmpB l m)) w:=by
 change Sem.run P (do pure (goInt (Extern.BytealgCompare.cmp (<-Extern.Bytes.bytesOf (.slice A n c)) (<-Extern.Bytes.bytesOf (.slice A' n' c'))))) w=_
 simp only[Sem.run_bind,Q5 w B A n c l hl hr,Q5 w B' A' n' c' m hm hr',Sem.run_pure,Result.andThen];rw[Lib.cmp_eq,ziC];rfl
theorem Yo (A A':Option Addr) (n c n' c':Nat) (l m:List UInt8) (w:World) (B B':Nat) (hl:l.length=n) (hr:Rd w B A l) (hm:m.length=n') (hr':Rd w B' A' m) :
 Calls Tryz.prog 72 #[.slice A n c,.slice A' n' c'] w fun e w'=>e=.returned (.int .i64 (cmpB l m))/\w'=w:=by
 have HC:=gI (zdV (P:=Tryz.prog) w B B' A A' n c n' c' l m hl hr hm hr');clear hl hr hm hr'
 go_enter Tryz.func72,Tryz.ntmps72
 go_wp2
 rw[run_callFunc_extern Tryz.func112 (by kernel_rfl) (by kernel_rfl) (by kernel_rfl) (e:=Extern.BytealgCompare.compare) (by kernel_rfl),HC.out];simp only[Result.andThen];rw[Oper.upon_value]
 go_wp2
 go_ret
 exact ⟨rfl,rfl⟩
end
section
open Go.RowKit Me Rn Hp Mw
abbrev Qe:=Value×List (List UInt8)
theorem XJ:(default:Qe).2=default:=rfl
def Qv (w:World) (lo hi wd:Nat) (p:Qe):Prop:=
 p.2≠[]/\Wid wd p.2/\∃A n c,p.1=.slice A n c/\p.2.flatten.length=n/\n<=c/\c<=9223372036854775807/\Rd w hi A p.2.flatten/\∀a,A=some a->lo<=a.block
theorem zeU {w w':World} {lo hi:Nat} {A:Option Addr} {l:List UInt8} (h:Rd w hi A l) (hl:∀a,A=some a->lo<=a.block) (hk:∀a:Addr,lo<=a.block->a.block<hi->w'.cell? a=w.cell? a):Rd w' hi A l:=fun hn=>by
 obtain ⟨a,e,hb,hc⟩:=h hn;exact ⟨a,e,hb,fun i u hu=>(hk _ (by rw[block_add];exact hl a e) (by rw[block_add];exact hb)).trans (hc i u hu)⟩
theorem Qv.keep {w w':World} {lo hi wd:Nat} {p:Qe} (h:Qv w lo hi wd p) (hk:∀a:Addr,lo<=a.block->a.block<hi->w'.cell? a=w.cell? a):Qv w' lo hi wd p:=by
 obtain ⟨h1,h2,A,n,c,h3,h4,h5,h6,h7,h8⟩:=h;exact ⟨h1,h2,A,n,c,h3,h4,h5,h6,zeU h7 h8 hk,h8⟩
theorem Qv.out {S:Nat->Prop} {w w':World} {lo hi wd:Nat} {p:Qe} (h:Qv w lo hi wd p) (ho:Out S w w') (hB:hi<=w.heap.size) (hn:∀k,lo<=k->k<hi->¬S k):Qv w' lo hi wd p:=h.keep fun a h1 ha=>ho.cell (by omega) (hn _ h1 ha)
theorem Qv.first {w:World} {lo hi wd:Nat} {p:Qe} (h:Qv w lo hi wd p):∃r t,p.2=r::t/\r.length=wd/\p.2.flatten.take wd=r/\p.2.headD []=r:=by
 obtain ⟨h1,h2,-⟩:=h
 cases hp:p.2 with
 |nil=>exact absurd hp h1
 |cons r t=>
  have hr:r.length=wd:=h2 r (by rw[hp];simp);refine ⟨r,t,rfl,hr,?_,rfl⟩;rw[List.flatten_cons,List.take_append_of_le_length (by omega),List.take_of_length_le (by omega)]
theorem zlv {w:World} {base size n c m:Nat} {e:TypeId} {A:Option Addr} {xs:List Value} (h:w.ownsRow base e size (.slice A n c) n xs) (hm:m<=n) (h0:A=none->n=0):w.ownsRow base e size (.slice A m c) m (xs.take (m*size)):=by
 refine ⟨by rw[List.length_take,h.1];exact Nat.min_eq_left (Nat.mul_le_mul_right _ hm),?_⟩;rcases h.2 with ⟨e1,h1⟩|⟨g,cap,cur,e1,hb,hh,h1,h2,h3,h4⟩
 ·injection e1 with e1 e2 e3;subst e1 e3;exact .inl ⟨by rw[show m=0 by omega],by omega⟩
 ·injection e1 with e1 e2 e3;subst e1 e3;refine .inr ⟨g,c,cur,rfl,hb,hh,by omega,h2,h3,?_⟩;rw[<-h4,List.take_take,Nat.min_eq_left (Nat.mul_le_mul_right _ hm)]
theorem vC {w:World} {base n c i:Nat} {e:TypeId} {A:Option Addr} {xs:List Value} {v:Value} (h:w.ownsRow base e 1 (.slice A n c) n xs) (hi:i<n) :
 ∃g,A=some ⟨g,0,none⟩/\base<=g/\w.cell? ⟨g,i,none⟩=xs[i]?/\w.frozen? ⟨g,i,none⟩=false/\(w.setCell ⟨g,i,none⟩ v).ownsRow base e 1 (.slice A n c) n (xs.set i v):=by
 have hl:=h.1;rcases h.2 with ⟨e1,h1⟩|⟨g,cap,cur,e1,hb,hh,h1,h2,h3,h4⟩
 ·omega
 ·injection e1 with e1 e2 e3;subst e1 e3;rw[Nat.mul_one] at h3 h4 hl;have hb':Blk w g cur.toList:=⟨e,by rw[hh]⟩
  have hx:xs[i]?=cur.toList[i]?:=by rw[<-h4,List.getElem?_take,if_pos hi]
  have hlt:i<cur.toList.length:=by simp;omega
  refine ⟨g,rfl,hb,?_,hb'.frozen i,?_⟩
  ·rw[hx,List.getElem?_eq_getElem hlt];exact hb'.cell (List.getElem?_eq_getElem hlt)
  ·obtain ⟨e',hs⟩:=hb'.set i v;have he:e'=e:=by
    have h5:=heap_setCell_same w g i cur e v hh;rw[h5] at hs;injection hs with hs;injection hs with hs1 hs2 hs3;exact hs2.symm
   subst he;refine ⟨by rw[List.length_set,hl,Nat.mul_one],.inr ⟨g,c,(cur.toList.set i v).toArray,rfl,hb,hs,h1,h2,by simp;omega,?_⟩⟩;rw[<-h4,Nat.mul_one];simp[List.take_set]
structure QAt (w:World) (lo hi Q wd:Nat) (H:List Qe) (rb:Option Nat) (c:Nat):Prop where
 box:∃A n,Blk w Q [.int .i64 (wd:Int),.slice A n c]/\w.ownsRow (Q+1) 92 1 (.slice A n c) n (H.map Prod.fst)/\(Value.slice A n c).ownBlock=rb/\H.length=n
 el:∀p∈H,Qv w lo hi wd p
 lo:hi<=Q
 few:H.length<=1000000
 wpos:0<wd/\wd<=1000000
variable {w w':World} {lo hi Q wd cp:Nat} {H:List Qe} {rb:Option Nat}
theorem QAt.lt (h:QAt w lo hi Q wd H rb cp):Q<w.heap.size:=by obtain ⟨A,n,hb,-⟩:=h.box;exact hb.lt
theorem QAt.row (h:QAt w lo hi Q wd H rb cp):∀k,rb=some k->Q<k/\k<w.heap.size:=fun k hk=>by
 obtain ⟨A,n,-,ho,hr,-⟩:=h.box;have:=ho.lt k (hr.trans hk);omega
theorem QAt.out {S:Nat->Prop} (h:QAt w lo hi Q wd H rb cp) (ho:Out S w w') (hQ:¬S Q) (hr:∀k,rb=some k->¬S k) (hl:∀k,lo<=k->k<hi->¬S k):QAt w' lo hi Q wd H rb cp:=by
 obtain ⟨A,n,hb,hw,h1,h2⟩:=h.box;exact ⟨⟨A,n,hb.out ho hQ,zn hw ho (fun k hk=>hr k (h1.symm.trans hk)),h1,h2⟩,fun p hp=>(h.el p hp).out ho (by have:=h.lt;have:=h.lo;omega) hl,h.lo,h.few,h.wpos⟩
theorem QAt.past (h:QAt w lo hi Q wd H rb cp) (hb:Below w.heap.size w w'):QAt w' lo hi Q wd H rb cp:=by
 have:=h.lt;have:=h.lo;exact h.out (S:=fun _=>False) (.of_below hb) id (fun _ _=>id) (fun _ _ _=>id)
theorem QAt.at (h:QAt w lo hi Q wd H rb cp) {k:Nat} (hk:k<H.length):∃g A n c,rb=some g/\w.cell? ⟨g,k,none⟩=some (.slice A n c)/\(at' H k).1=.slice A n c/\(at' H k).2.flatten.length=n/\n<=c/\c<=9223372036854775807/\Rd w hi A (at' H k).2.flatten/\Qv w lo hi wd (at' H k):=by
 obtain ⟨A,n,hb,hw,h1,h2⟩:=h.box;obtain ⟨g,rfl,-,hc,-,-⟩:=vC (v:=undef) hw (i:=k) (by omega);have hq:=h.el _ (at_mem hk);obtain ⟨-,-,A',n',c',e,q1,q2,q3,q4,-⟩:=hq;refine ⟨g,A',n',c',h1.symm,?_,e,q1,q2,q3,q4,h.el _ (at_mem hk)⟩;rw[hc,List.getElem?_map,zl4 hk,<-e];rfl
end
section
open Go.RowKit Me Rn Hp Mw
variable {w w':World} {lo hi Q wd cp:Nat} {H:List Qe} {rb:Option Nat}
theorem QJ (h:QAt w lo hi Q wd H rb cp):Calls Tryz.prog 77 #[.pointer (some ⟨Q,0,none⟩)] w fun e w'=>e=.returned (.int .i64 (H.length:Int))/\w=w':=by
 obtain ⟨A,n,hb,-,-,hn⟩:=h.box;have q1:=hb.cell (i:=1) rfl;rw[hn];clear hn hb h
 go_enter Tryz.func77,Tryz.ntmps77
 go_wp2
 go_ret
 exact ⟨rfl,rfl⟩
def qcG (Q wd:Nat) (A A':Option Addr) (n c n' c':Nat) (z:Int):Gw.Fact:=fun t v _=>
 match t with
 |0|8|9|14|15=>v=.pointer (some ⟨Q,0,none⟩)
 |10|16=>v=.pointer (some ⟨Q,0,none⟩)
 |11|17=>v=.int .i64 (wd:Int)
 |1|7=>v=.slice A n c
 |2|13=>v=.slice A' n' c'
 |12=>v=.slice A wd c
 |18=>v=.slice A' wd c'
 |19|6=>v=.int .i64 z
 |_=>True
theorem Qp (hq:w.cell? ⟨Q,0,none⟩=some (.int .i64 (wd:Int))) (A A':Option Addr) (n c n' c':Nat) (l m:List UInt8) (hl:l.length=n) (hm:m.length=n') (hn:wd<=n) (hn':wd<=n') (hc:n<=c) (hc':n'<=c') (hw:wd<=1000000) (h0:0<wd) (B B':Nat) (hB:B<=w.heap.size) (hB':B'<=w.heap.size) (hr:Rd w B A l) (hr':Rd w B' A' m) :
 Calls Tryz.prog 118 #[.pointer (some ⟨Q,0,none⟩),.slice A n c,.slice A' n' c'] w fun e w'=>e=.returned (.int .i64 (cmpB (l.take wd) (m.take wd)))/\Below w.heap.size w w':=by
 have hQ:=World.block_lt_of_cell? _ _ hq;have HR:=gI (show ∀W,Below w.heap.size w W->Calls Tryz.prog 72 #[.slice A wd c,.slice A' wd c'] W fun e w'=>e=.returned (.int .i64 (cmpB (l.take wd) (m.take wd)))/\w'=W from fun W hW=>
  Yo A A' wd c wd c' (l.take wd) (m.take wd) W B B' (by simp;omega) ((hr.keep fun p hp=>hW.cell (by omega)).take wd) (by simp;omega) ((hr'.keep fun p hp=>hW.cell (by omega)).take wd))
 obtain ⟨z,hz⟩:∃z,z=cmpB (l.take wd) (m.take wd):=⟨_,rfl⟩
 rw[<-hz] at HR;rw[<-hz];have e1:(wd:Int)<=(c:Int):=by omega
 have e2:(wd:Int)<=(c':Int):=by omega
 have e3:¬c=0:=by omega
 have e4:¬c'=0:=by omega
 have HQ:=gI hq;clear hr hr' hz hl hm hq
 go_enter Tryz.func118,Tryz.ntmps118
 go_wp2_with fail
 refine Gw.zl (qcG Q wd A A' n c n' c' z) [7,8,9,10,11,12,13,14,15,16,17,18,19,6] [([1],none),([0],none),([8],none),([9],none),([10],none),([7,11],none),([2],none),([0],none),([14],none),([15],none),([16],none),([13,17],none),([12,18],none),([19],none)] 20 (by kernel_rfl) (by kernel_rfl) rfl ?h0 ?hreq ?hend
 case h0=>
  intro t W hnd _;unfold qcG
  split<;>first|rfl|trivial|exact absurd (by simp) hnd
 case hreq=>
  refine ⟨?_,?_,?_,?_,?_,?_,?_,?_,?_,?_,?_,?_,?_,?_,trivial⟩
  all_goals
   intro ac W hg hk;have q0:=((show Below w.heap.size w W from hg).cell (p:=⟨Q,0,none⟩) hQ).trans HQ.out;simp only[Gw.Knows,qcG] at hk
   try (simp[go_sem,Gw.zw,Gw.Ok,Gw.Post,Gw.Holds,qcG,Gw.zk.refl,hk,q0,e1,e2,e3,e4];done)
  ·simp[go_sem,Gw.zw,Gw.Ok,Gw.Post,Gw.Holds,qcG,Gw.zk.refl,hk];refine (HR.out W hg).mono ?_;rintro e W' ⟨rfl,rfl⟩;exact ⟨_,rfl,Gw.zk.refl _,fun _ _=>rfl⟩
 case hend=>
  intro x w' hg hx;have v6:=(hx 6 (by simp)).now;simp only[qcG] at v6;clear hx;simp only[Gw.zm,Act.put,List.setIfInBounds_toArray,List.set_cons_zero,List.set_cons_succ];rw[v6];have HB:=gI (show Below w.heap.size w w' from hg)
  go_wp2
  go_ret
  exact ⟨rfl,HB.out⟩
abbrev ltQ (a b:Qe):Bool:=ltS a.2 b.2
def qlG (Q g i j:Nat) (A B C:Option Addr) (na ca nb cb nc cc:Nat) (z:Int) (r:Bool):Gw.Fact:=fun t v _=>
 match t with
 |0|7|8|9|15|16=>v=.pointer (some ⟨Q,0,none⟩)
 |10|17=>v=.pointer (some ⟨Q,1,none⟩)
 |11|18=>v=.slice A na ca
 |1|12=>v=.int .i64 (i:Int)
 |2|19=>v=.int .i64 (j:Int)
 |13=>v=.pointer (some ⟨g,i,none⟩)
 |20=>v=.pointer (some ⟨g,j,none⟩)
 |14=>v=.slice B nb cb
 |21=>v=.slice C nc cc
 |22=>v=.int .i64 z
 |23|6=>v=.bool r
 |_=>True
theorem zlF {a b:List (List UInt8)}:ltS a b=decide (cmpB (a.headD []) (b.headD [])<0):=by
 unfold ltS;rw[Bool.eq_iff_iff,decide_eq_true_iff,zbI]
theorem Yd (h:QAt w lo hi Q wd H rb cp) {i j:Nat} (hi':i<H.length) (hj':j<H.length) :
 Calls Tryz.prog 245 #[.pointer (some ⟨Q,0,none⟩),.int .i64 (i:Int),.int .i64 (j:Int)] w fun e w'=>e=.returned (.bool (ltQ (at' H i) (at' H j)))/\Below w.heap.size w w':=by
 obtain ⟨g,B,nb,cb,hg,c1,-,l1,k1,k2,r1,v1⟩:=h.at hi';obtain ⟨g',C,nc,cc,hg',c2,-,l2,k3,k4,r2,v2⟩:=h.at hj';rw[hg] at hg';injection hg' with hg';subst hg';obtain ⟨rr,rt,-,-,f1,f2⟩:=v1.first
 obtain ⟨sr,st,-,-,f3,f4⟩:=v2.first
 have w1:wd<=nb:=by
  obtain ⟨a,b,e1,e2,-⟩:=v1.first
  rw[<-l1,e1,List.flatten_cons,List.length_append,e2];omega
 have w2:wd<=nc:=by
  obtain ⟨a,b,e1,e2,-⟩:=v2.first
  rw[<-l2,e1,List.flatten_cons,List.length_append,e2];omega
 obtain ⟨A,n,hb,hw,hr,hn⟩:=h.box;obtain ⟨c,hcc⟩:∃c,c=cp:=⟨_,rfl⟩
 rw[<-hcc] at hb hw hr;have q0:=hb.cell (i:=0) rfl;have q1:=hb.cell (i:=1) rfl;obtain ⟨g2,hA,-,-,-,-⟩:=vC (v:=undef) hw (i:=i) (by omega);subst hA;have hgg:g2=g:=by
  have:(some g2:Option Nat)=some g:=hr.trans hg;injection this
 subst hgg;have hc:=Xj hw;have b0:=World.block_lt_of_cell? _ _ q0;have b1:=World.block_lt_of_cell? _ _ q1;have b2:=World.block_lt_of_cell? _ _ c1;have b3:=World.block_lt_of_cell? _ _ c2;have hsz:hi<=w.heap.size:=by have:=h.lo;have:=h.lt;omega
 have hwp:=h.wpos;obtain ⟨z,hz⟩:∃z,z=cmpB ((at' H i).2.flatten.take wd) ((at' H j).2.flatten.take wd):=⟨_,rfl⟩
 have HR:=gI (show ∀W,Below w.heap.size w W->Calls Tryz.prog 118 #[.pointer (some ⟨Q,0,none⟩),.slice B nb cb,.slice C nc cc] W fun e w'=>e=.returned (.int .i64 z)/\Below W.heap.size W w' from fun W hW=>by
  rw[hz];exact Qp ((hW.cell (p:=⟨Q,0,none⟩) b0).trans q0) B C nb cb nc cc _ _ l1 l2 w1 w2 k1 k3 hwp.2 hwp.1 hi hi (by have:=hW.size;omega) (by have:=hW.size;omega) (r1.keep fun p hp=>hW.cell (by omega)) (r2.keep fun p hp=>hW.cell (by omega)))
 obtain ⟨r,hr2⟩:∃r,r=ltQ (at' H i) (at' H j):=⟨_,rfl⟩
 have d1:decide (z<0)=r:=by
  rw[hr2,hz,f1,f3,<-f2,<-f4];exact zlF.symm
 rw[<-hr2];have e1:(i:Int)<(n:Int):=by omega
 have e2:(j:Int)<(n:Int):=by omega
 have HQ:=gI (And.intro q0 (And.intro q1 (And.intro c1 c2)));clear hz hr2 f1 f2 f3 f4 r1 r2 v1 v2 l1 l2 hb hw hr hn h hg q0 q1 c1 c2 w1 w2
 go_enter Tryz.func245,Tryz.ntmps245
 go_wp2_with fail
 refine Gw.zl (qlG Q g2 i j (some ⟨g2,0,none⟩) B C n c nb cb nc cc z r) [7,8,9,10,11,12,13,14,15,16,17,18,19,20,21,22,23,6] [([0],none),([0],none),([8],none),([9],none),([10],none),([1],none),([11,12],none),([13],none),([0],none),([15],none),([16],none),([17],none),([2],none),([18,19],none),([20],none),([7,14,21],none),([22],none),([23],none)] 24 (by kernel_rfl) (by kernel_rfl) rfl ?h0 ?hreq ?hend
 case h0=>
  intro t W hnd _;unfold qlG
  split<;>first|rfl|trivial|exact absurd (by simp) hnd
 case hreq=>
  refine ⟨?_,?_,?_,?_,?_,?_,?_,?_,?_,?_,?_,?_,?_,?_,?_,?_,?_,?_,trivial⟩
  all_goals
   intro ac W hg hk;have hg':Below w.heap.size w W:=hg;have q0:=(hg'.cell (p:=⟨Q,0,none⟩) b0).trans HQ.out.1;have q1:=(hg'.cell (p:=⟨Q,1,none⟩) b1).trans HQ.out.2.1;have c1:=(hg'.cell (p:=⟨g2,i,none⟩) b2).trans HQ.out.2.2.1;have c2:=(hg'.cell (p:=⟨g2,j,none⟩) b3).trans HQ.out.2.2.2;clear hg';simp only[Gw.Knows,qlG] at hk
   try (simp[go_sem,Gw.zw,Gw.Ok,Gw.Post,Gw.Holds,qlG,Gw.zk.refl,hk,q0,q1,c1,c2,e1,e2,d1];done)
  ·simp[go_sem,Gw.zw,Gw.Ok,Gw.Post,Gw.Holds,qlG,Gw.zk.refl,hk];refine (HR.out W hg).mono ?_;rintro e W' ⟨rfl,hb⟩;exact ⟨_,rfl,hb,fun _ _=>rfl⟩
 case hend=>
  intro x w' hg hx;have v6:=(hx 6 (by simp)).now;simp only[qlG] at v6;clear hx;simp only[Gw.zm,Act.put,List.setIfInBounds_toArray,List.set_cons_zero,List.set_cons_succ];rw[v6];have HB:=gI (show Below w.heap.size w w' from hg)
  go_wp2
  go_ret
  exact ⟨rfl,HB.out⟩
end
end Go.Proofs.YtcdkopbjlakebaaGreatDoor
