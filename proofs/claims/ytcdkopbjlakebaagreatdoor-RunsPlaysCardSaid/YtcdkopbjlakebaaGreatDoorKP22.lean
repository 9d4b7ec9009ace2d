/- Texts put together, for a law: Ck. -/
import Derived.Lib.MinMax
import Derived.Test.YtcdkopbjlakebaaGreatDoorKP10
import Derived.Test.YtcdkopbjlakebaaGreatDoorKP2
import Derived.Test.YtcdkopbjlakebaaGreatDoorKP3
import Derived.Test.YtcdkopbjlakebaaGreatDoorKP19
set_option maxRecDepth 100000
set_option maxHeartbeats 8000000
namespace Go.Proofs.YtcdkopbjlakebaaGreatDoor
section
open Go.RowKit Me Rn
def ckL (wd t k:Nat):Nat:=min wd (t-wd*k)
abbrev ckS (A:Option Addr) (wd t k:Nat):Value:=.slice (A.map (·.add (wd*k))) (ckL wd t k) (ckL wd t k)
def ckV (A:Option Addr) (wd t:Nat) (_T k:Nat) (av:Array Value) (_W:World):Prop:=k<pcs wd t/\av=#[ckS A wd t k]
def ckG (a:Addr) (wd tt c c' o t e Bs Bn:Nat):Gw.Fact:=fun s v _=>
 match s with
 |1=>v=.pointer (some ⟨Bs,0,none⟩)
 |2=>v=.pointer (some ⟨Bn,0,none⟩)
 |4|15=>v=.int .i64 (o:Int)
 |13=>v=.int .i64 (wd:Int)
 |18|5=>v=.int .i64 (e:Int)
 |14=>v=.slice (some a) tt c
 |16=>v=.slice (some (a.add o)) t c'
 |17=>v=.int .i64 (t:Int)
 |_=>True
theorem range_split {k p:Nat} (h:k<p):List.range p=List.range k++k::(List.range (p-(k+1))).map (k+1+·):=by
 obtain ⟨q,rfl⟩:∃q,p=k+1+q:=⟨p-(k+1),by omega⟩
 rw[show k+1+q-(k+1)=q by omega,List.range_add,List.range_succ,List.append_assoc];rfl
theorem zcv {k p:Nat} (h:k<p):List.range p=List.range (k+1)++(List.range (p-(k+1))).map (k+1+·):=by
 rw[range_split h,List.range_succ,List.append_assoc];rfl
attribute [local go_sem] Oper.semAt_some
theorem zht (l Bs Bn c tt wd p:Nat) (A:Option Addr) (hA:0<tt->∃a,A=some a) (hc:tt<=c) (hc63:c<=9223372036854775807) (htt:tt<=70368744177664) (hwd:0<wd/\wd<=1000000) (hp:p=pcs wd tt) (S:Nat->Nat->Prop) (J Jx:Nat->List Nat->World->Prop) (W:World)
 (hS:∀T k,W.heap.size<=T->S T k->(k<W.heap.size\/T<=k)/\¬(k=Bs\/k=Bn)) (hJ:∀T,W.heap.size<=T->Rt.Free W.heap.size T (J T)) (hJx:∀T,W.heap.size<=T->Rt.Free W.heap.size T (Jx T))
 (hY:∀T pre x post av W1,W.heap.size<=T->List.range p=pre++x::post->T<=W1.heap.size->Out (S T) W W1->J T pre W1->ckV A wd tt T x av W1->YieldAt Fence.wide 1 Tryz.prog l av W1 fun e W'=>
   Out (S T) W1 W'/\((e=.returned (.bool true)/\J T (pre++[x]) W')\/(e=.returned (.bool false)/\Jx T (pre++[x]) W')))
 (hBs:Blk W Bs [.slice A tt c]) (hBn:Blk W Bn [.int .i64 (wd:Int)]) (h0:∀T,W.heap.size<=T->J T [] W) :
 CallsIn Fence.wide 2 Tryz.prog 109 #[.func (.yield l) #[] #[],.pointer (some ⟨Bs,0,none⟩),.pointer (some ⟨Bn,0,none⟩)] W fun e W'=>(∃v,e=.returned v)/\∃T,W.heap.size<=T/\Out (S T) W W' /\
  (J T (List.range p) W'\/∃pre post,List.range p=pre++post/\Jx T pre W'):=by
 obtain ⟨T,hT⟩:∃T,T=W.heap.size:=⟨_,rfl⟩
 have HT:=gI (show W.heap.size<=T by omega);have HTT:=gI (show T<=W.heap.size by omega);have HJ0:=gI (h0 T (by omega));have HO0:=gI (Out.refl (S T) W);have HFR:=gI (hJ T (by omega));have HYY:=gI hY;have HNS:=gI (show ¬S T Bs/\¬S T Bn from ⟨fun h=>(hS T _ (by omega) h).2 (.inl rfl),fun h=>(hS T _ (by omega) h).2 (.inr rfl)⟩);have HS:=gI hBs;have HN:=gI hBn;have HP0:=gI hp;have HA:=gI hA;clear h0 hBs hBn hp hT hJ hJx hY hS hA;refine callsIn_of_wp Tryz.func109 rfl trivial ?_ rfl;simp only[Tryz.ntmps109,List.size_toArray,List.length_cons,List.length_nil,Nat.reduceAdd,Nat.reduceSub,Array.replicate_succ,Array.replicate_zero,List.push_toArray,List.append_toArray,List.nil_append,List.cons_append]
 gi_wp2
 gi_loopw [4] (fun i wr=>∃(k o:Nat),k<=p/\i=.int .i64 (o:Int)/\Hid (o=wd*k)/\Hid (J T (List.range k) wr)/\Hid (Out (S T) W wr)) (fun i _=>(tt+wd-intOf i).toNat)
 case atStart=>exact ⟨0,0,by omega,rfl,gI rfl,HJ0,HO0⟩
 case round=>
  clear HJ0 HO0;obtain ⟨k,o,hk,rfl,HO,HJ,HW⟩:=hrel;have b0:=(HS.out.out HW.out HNS.out.1).cell (i:=0) rfl;have b1:=(HN.out.out HW.out HNS.out.2).cell (i:=0) rfl
  by_cases hlt:k<p
  ·have hko:=(zay (w:=wd) (n:=tt) (k:=k) hwd.1).1 (by rw[<-HP0.out];exact hlt);rw[<-HO.out] at hko;obtain ⟨a,hAs⟩:=HA.out (by omega);subst hAs;have ho2:(o:Int)<(tt:Int):=by omega
   obtain ⟨t,ht⟩:∃t,t+o=tt:=⟨tt-o,by omega⟩
   obtain ⟨c',hc'⟩:∃c',c'+o=c:=⟨c-o,by omega⟩
   obtain ⟨e,he⟩:∃e,e=ckL wd tt k:=⟨_,rfl⟩
   have hem:e=min wd t:=by rw[he];unfold ckL;rw[<-HO.out];omega
   have heo:o+e<=tt:=by omega
   have heo2:(o:Int)+(e:Int)<=(c:Int):=by omega
   have HE:=gI he;have HEM:=gI hem;have HTO:=gI ht;have HC:=gI hc';have HWD:=gI hwd;clear ht hc' he hem hwd
   gi_wp2_with fail
   refine wpIn_wide.2 ?_;refine Gw.zl (ckG a wd tt c c' o t e Bs Bn) [13,14,15,16,17,18,5] [([2],none),([1],none),([4],none),([14,15],none),([16],none),([13,17],none),([18],none)] 31 (by kernel_rfl) (by kernel_rfl) rfl ?h0 ?hreq ?hend
   case h0=>
    intro t W hnd _;unfold ckG
    split<;>first|rfl|trivial|exact absurd (by simp) hnd
   case hreq=>
    refine ⟨?_,?_,?_,?_,?_,?_,?_,trivial⟩
    all_goals
     intro ac W' hg hk;have q0:=(Below.cell (show Below wr.heap.size wr W' from hg) (p:=⟨Bs,0,none⟩) (World.block_lt_of_cell? _ _ b0)).trans b0;have q1:=(Below.cell (show Below wr.heap.size wr W' from hg) (p:=⟨Bn,0,none⟩) (World.block_lt_of_cell? _ _ b1)).trans b1;simp only[Gw.Knows,ckG] at hk
     try (simp[go_sem,Gw.zw,Gw.Ok,Gw.Post,Gw.Holds,ckG,Gw.zk.refl,hk,q0,q1];done)
    ·have e1:tt-o=t:=by have:=HTO.out;omega
     have e2:c-o=c':=by have:=HC.out;omega
     have e3:(o:Int)<=(tt:Int):=by omega
     have e4:¬c=o:=by omega
     simp[go_sem,Gw.zw,Gw.Ok,Gw.Post,Gw.Holds,ckG,Gw.zk.refl,hk,e1,e2,e3,e4]
    ·simp[go_sem,Gw.zw,Gw.Ok,Gw.Post,Gw.Holds,ckG,Gw.zk.refl,hk];intro _ _;have:=HTO.out;have:=HEM.out;omega
   case hend=>
    intro x w' hg hx;have h5:=(hx 5 (by simp)).now;have HB:=gI (show Below wr.heap.size wr w' from hg);have q0:=(HB.out.cell (p:=⟨Bs,0,none⟩) (World.block_lt_of_cell? _ _ b0)).trans b0;have q1:=(HB.out.cell (p:=⟨Bn,0,none⟩) (World.block_lt_of_cell? _ _ b1)).trans b1;clear hx hg;simp only[Gw.zm,Act.put,List.setIfInBounds_toArray,List.set_cons_zero,List.set_cons_succ];rw[show x 5=.int .i64 (e:Int) from h5];have hJ1:=HFR.out _ _ _ HJ.out (Out.of_below HB.out);have hW1:=HW.out.trans (Out.of_below HB.out);have hX:=range_split hlt;obtain ⟨fn,tmps,assign,body,hy,hRo⟩:=HYY.out T (List.range k) k _ #[ckS (some a) wd tt k] w' HT.out hX (by have:=hW1.size;have:=HTT.out;omega) hW1 hJ1 ⟨by rw[<-HP0.out];exact hlt,rfl⟩
    dsimp only[ckS] at hy
    rw[<-HO.out,<-HE.out] at hy;simp only[Option.map_some] at hy;have HRo:=gI hRo;have HW1:=gI hW1;have HQ:=gI (And.intro ((HS.out.out hW1 HNS.out.1)) ((HN.out.out hW1 HNS.out.2)));have hg64:(o:Int)+(e:Int)<=9223372036854775807:=by omega
    have ew:IntKind.i64.wrap ((o:Int)+(e:Int))=(o:Int)+(e:Int):=IntWalk.i64_in _ (by omega);have e4:¬c=o:=by omega
    have e5:(o:Int)<=(o:Int)+(e:Int):=by omega
    have e6:((o:Int)+(e:Int))-(o:Int)=(e:Int):=by omega
    have e7:o+e-o=e:=by omega
    have e8:¬e=0:=by have:=HEM.out;have:=HTO.out;have:=HWD.out;omega
    have e9:¬o+e=o:=by omega
    clear h5 hRo hJ1 hW1 hX
    gi_wp2_with fail
    refine HRo.out.mono ?_;rintro e' W3 ⟨ho3,⟨rfl,hJ3⟩|⟨rfl,hJx3⟩⟩
    ·have HJ3:=gI (show J T (List.range (k+1)) W3 by rw[List.range_succ];exact hJ3);have HW3:=gI (HW1.out.trans ho3);have r1:=(HQ.out.2.out ho3 HNS.out.2).cell (i:=0) rfl;have HO2:=gI (show o+wd=wd*(k+1) by rw[HO.out,Nat.mul_succ]);have hw3:=HWD.out.2;have hw0:=HWD.out.1;clear hJ3 ho3 hy q0 q1 b0 b1
     gi_wp2
     go_roundw
     case rel=>exact ⟨k+1,o+wd,by omega,by go_num,HO2,HJ3,HW3⟩
     case measure=>simp[intOf];omega
    ·have FIN:=gI (show ∃T,W.heap.size<=T/\Out (S T) W W3/\(J T (List.range p) W3\/∃pre post,List.range p=pre++post/\Jx T pre W3) from ⟨T,HT.out,HW1.out.trans ho3,.inr ⟨List.range (k+1),_,zcv hlt,by rw[List.range_succ];exact hJx3⟩⟩);clear hy q0 q1 b0 b1 ho3 hJx3
     gi_wp2
     refine bodyPost_ret (results_none rfl _ _ _) rfl ?_;exact ⟨⟨_,rfl⟩,FIN.out⟩
  ·have hkp:k=p:=by omega
   subst hkp;have ho:¬(o:Int)<(tt:Int):=by
    have h1:=(zay (w:=wd) (n:=tt) (k:=k) hwd.1).2;have:=HO.out;have:=HP0.out;intro hh;have:=h1 (by omega);omega
   gi_wp2
   go_end0
   exact ⟨⟨_,rfl⟩,T,HT.out,HW.out,.inl HJ.out⟩
theorem Qo {Bs Bn c tt wd:Nat} {A:Option Addr} {w:World} (hA:0<tt->∃a,A=some a) (hc:tt<=c) (hc63:c<=9223372036854775807) (htt:tt<=70368744177664) (hwd:0<wd/\wd<=1000000) (hBs:Blk w Bs [.slice A tt c]) (hBn:Blk w Bn [.int .i64 (wd:Int)]) :
 Rt.Gives Tryz.prog 109 #[.pointer (some ⟨Bs,0,none⟩),.pointer (some ⟨Bn,0,none⟩)] (ckV A wd tt) (List.range (pcs wd tt)) (fun k=>k=Bs\/k=Bn) w:=fun n' l S J Jx W hW hS hJ hJx hY h0=>
 Y4 (zht l Bs Bn c tt wd _ A hA hc hc63 htt hwd rfl S J Jx W hS hJ hJx hY (hBs.past hW) (hBn.past hW) h0)
theorem zar (A:Option Addr) (n c wd:Nat) (hwd:0<wd) (w:World) :
 Calls Tryz.prog 70 #[.slice A n c,.int .i64 (wd:Int)] w fun e w'=>e=.returned (.func (.func 109) #[] #[.pointer (some ⟨w.heap.size,0,none⟩),.pointer (some ⟨w.heap.size+1,0,none⟩)]) /\
  w'=(w.alloc (.cells #[.slice A n c] 24)).alloc (.cells #[.int .i64 (wd:Int)] 3):=by
 have h1:¬(wd:Int)<1:=by omega
 go_enter Tryz.func70,Tryz.ntmps70
 go_wp2
 go_ret
 exact ⟨rfl,rfl⟩
end
end Go.Proofs.YtcdkopbjlakebaaGreatDoor
