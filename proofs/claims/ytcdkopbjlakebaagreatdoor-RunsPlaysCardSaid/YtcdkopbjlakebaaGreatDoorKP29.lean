/- Texts put together, for a law: ChunkP. -/
import Derived.Lib.MinMax
import Derived.Test.YtcdkopbjlakebaaGreatDoorKP21
import Derived.Test.YtcdkopbjlakebaaGreatDoorKP16
import Derived.Test.YtcdkopbjlakebaaGreatDoorKP23
set_option maxRecDepth 100000
set_option maxHeartbeats 8000000
namespace Go.Proofs.YtcdkopbjlakebaaGreatDoor
section
open Go.RowKit Me Rw Ds
def Zw (t k:Nat):Nat:=min 112 (t-112*k)
def encP (a:Addr) (t:Nat) {p:Nat} (k:Fin p):Array Value:=#[.slice (some (a.add (112*k.val))) (Zw t k.val) (Zw t k.val)]
def chpG (a:Addr) (tt c c' o t e Bs Bn:Nat):Gw.Fact:=fun s v _=>
 match s with
 |1=>v=.pointer (some ⟨Bs,0,none⟩)
 |2=>v=.pointer (some ⟨Bn,0,none⟩)
 |4|15=>v=.int .i64 (o:Int)
 |13=>v=.int .i64 112
 |18|5=>v=.int .i64 (e:Int)
 |14=>v=.slice (some a) tt c
 |16=>v=.slice (some (a.add o)) t c'
 |17=>v=.int .i64 (t:Int)
 |_=>True
attribute [local go_sem] Oper.semAt_some
theorem ziF (n:Nat) (hn:1<=n) (l Bs Bn c tt p:Nat) (A:Option Addr) (a:Addr) (hA:0<tt->A=some a) (hc:tt<=c) (hc63:c<=9223372036854775807) (htt:tt<=1048576) (hp:p=St.pages tt) (J Jx:List (Fin p)->World->Prop) (hJA:∀pre W W',J pre W->Below W.heap.size W W'->J pre W')
 (hY:∀pre x W,J pre W->pre.length<p->YieldAt Fence.wide (n-1) Tryz.prog l (encP a tt x) W fun e W'=>
   (e=.returned (.bool true)/\J (pre++[x]) W'/\KB Bs Bn W W')\/(e=.returned (.bool false)/\Jx (pre++[x]) W'))
 (W:World) (hBs:W.cell? ⟨Bs,0,none⟩=some (.slice A tt c)) (hBn:W.cell? ⟨Bn,0,none⟩=some (.int .i64 112)) (h0:J [] W) :
 CallsIn Fence.wide n Tryz.prog 109 #[.func (.yield l) #[] #[],.pointer (some ⟨Bs,0,none⟩),.pointer (some ⟨Bn,0,none⟩)] W fun e W'=>(∃v,e=.returned v) /\
  ((∃ys:List (Fin p),ys.map (·.val)=List.range p/\J ys W')\/(∃pre:List (Fin p),(∃k,k<=p/\pre.map (·.val)=List.range k)/\Jx pre W')):=by
 have HJ0:=gI h0;have HK0:=gI (show KB Bs Bn W W from fun _ _=>rfl);have HS:=gI hBs;have HN:=gI hBn;have HP0:=gI (show p=(tt+111) / 112 from hp);clear h0 hBs hBn hp;refine callsIn_of_wp Tryz.func109 rfl trivial ?_ rfl;simp only[Tryz.ntmps109,List.size_toArray,List.length_cons,List.length_nil,Nat.reduceAdd,Nat.reduceSub,Array.replicate_succ,Array.replicate_zero,List.push_toArray,List.append_toArray,List.nil_append,List.cons_append]
 gi_wp2
 gi_loopw [4] (fun i wr=>∃(k o:Nat) (pre:List (Fin p)),k<=p/\i=.int .i64 (o:Int)/\Hid (pre.map (·.val)=List.range k)/\Hid (o=112*k)/\Hid (J pre wr)/\Hid (KB Bs Bn W wr)) (fun i _=>(tt+112-intOf i).toNat)
 case atStart=>exact ⟨0,0,[],by omega,rfl,gI rfl,gI rfl,HJ0,HK0⟩
 case round=>
  clear HJ0 HK0;obtain ⟨k,o,pre,hk,rfl,HP,HO,HJ,HK⟩:=hrel;have b0:=(HK.out ⟨Bs,0,none⟩ (.inl rfl)).trans HS.out;have b1:=(HK.out ⟨Bn,0,none⟩ (.inr rfl)).trans HN.out
  by_cases hlt:k<p
  ·have hoo:=HO.out;have ho:o<tt:=by have:=HP0.out;omega
   have hAs:=hA (by omega);subst hAs;have ho2:(o:Int)<(tt:Int):=by omega
   obtain ⟨t,ht⟩:∃t,t+o=tt:=⟨tt-o,by omega⟩
   obtain ⟨c',hc'⟩:∃c',c'+o=c:=⟨c-o,by omega⟩
   obtain ⟨e,he⟩:∃e,e=Zw tt k:=⟨_,rfl⟩
   have hem:e=min 112 t:=by rw[he];unfold Zw;omega
   have heo:o+e<=tt:=by omega
   have heo2:(o:Int)+(e:Int)<=(c:Int):=by omega
   have HE:=gI he;have HEM:=gI hem;have HT:=gI ht;have HC:=gI hc';clear hoo ht hc' he hem
   gi_wp2_with fail
   refine wpIn_wide.2 ?_;refine Gw.zl (chpG a tt c c' o t e Bs Bn) [13,14,15,16,17,18,5] [([2],none),([1],none),([4],none),([14,15],none),([16],none),([13,17],none),([18],none)] 31 (by kernel_rfl) (by kernel_rfl) rfl ?h0 ?hreq ?hend
   case h0=>
    intro t W hnd _;unfold chpG
    split<;>first|rfl|trivial|exact absurd (by simp) hnd
   case hreq=>
    refine ⟨?_,?_,?_,?_,?_,?_,?_,trivial⟩
    all_goals
     intro ac W' hg hk;have q0:=(Below.cell (show Below wr.heap.size wr W' from hg) (p:=⟨Bs,0,none⟩) (World.block_lt_of_cell? _ _ b0)).trans b0;have q1:=(Below.cell (show Below wr.heap.size wr W' from hg) (p:=⟨Bn,0,none⟩) (World.block_lt_of_cell? _ _ b1)).trans b1;simp only[Gw.Knows,chpG] at hk
     try (simp[go_sem,Gw.zw,Gw.Ok,Gw.Post,Gw.Holds,chpG,Gw.zk.refl,hk,q0,q1];done)
    ·have e1:tt-o=t:=by have:=HT.out;omega
     have e2:c-o=c':=by have:=HC.out;omega
     have e3:(o:Int)<=(tt:Int):=by omega
     have e4:¬c=o:=by omega
     simp[go_sem,Gw.zw,Gw.Ok,Gw.Post,Gw.Holds,chpG,Gw.zk.refl,hk,e1,e2,e3,e4]
    ·simp[go_sem,Gw.zw,Gw.Ok,Gw.Post,Gw.Holds,chpG,Gw.zk.refl,hk];intro _ _;have:=HT.out;have:=HEM.out;omega
   case hend=>
    intro x w' hg hx;have h5:=(hx 5 (by simp)).now;have HB:=gI (show Below wr.heap.size wr w' from hg);have q0:=(HB.out.cell (p:=⟨Bs,0,none⟩) (World.block_lt_of_cell? _ _ b0)).trans b0;have q1:=(HB.out.cell (p:=⟨Bn,0,none⟩) (World.block_lt_of_cell? _ _ b1)).trans b1;clear hx hg;simp only[Gw.zm,Act.put,List.setIfInBounds_toArray,List.set_cons_zero,List.set_cons_succ];rw[show x 5=.int .i64 (e:Int) from h5];have HJ1:=hJA _ _ _ HJ.out HB.out;obtain ⟨fn,tmps,assign,body,hy,hRo⟩:=hY pre ⟨k,hlt⟩ w' HJ1 (by have:=congrArg List.length HP.out;simp at this;omega)
    dsimp only[encP] at hy
    rw[<-HO.out,<-HE.out] at hy;have HRo:=gI hRo;have HK1:=gI (HK.out.trans (fun p hp=>by
     rcases hp with h|h
     ·exact HB.out.cell (p:=p) (by rw[h];exact World.block_lt_of_cell? _ _ b0)
     ·exact HB.out.cell (p:=p) (by rw[h];exact World.block_lt_of_cell? _ _ b1)))
    have hg64:(o:Int)+(e:Int)<=9223372036854775807:=by omega
    have ew:IntKind.i64.wrap ((o:Int)+(e:Int))=(o:Int)+(e:Int):=IntWalk.i64_in _ (by omega);have e4:¬c=o:=by omega
    have e5:(o:Int)<=(o:Int)+(e:Int):=by omega
    have e6:((o:Int)+(e:Int))-(o:Int)=(e:Int):=by omega
    have e7:o+e-o=e:=by omega
    have e8:¬e=0:=by have:=HEM.out;have:=HT.out;omega
    have e9:¬o+e=o:=by omega
    clear h5 hRo HJ1
    gi_wp2_with fail
    refine HRo.out.mono ?_;rintro e' W3 (⟨rfl,hJ3,hk3⟩|⟨rfl,hJx3⟩)
    ·have HP2:=gI (show (pre++[(⟨k,hlt⟩:Fin p)]).map (·.val)=List.range (k+1) by rw[List.map_append,HP.out,List.range_succ];rfl);have HJ3:=gI hJ3;have HK3:=gI (HK1.out.trans hk3);have r1:=(HK3.out ⟨Bn,0,none⟩ (.inr rfl)).trans HN.out;have HO2:=gI (show o+112=112*(k+1) by have:=HO.out;omega);clear hJ3 hk3 hy q0 q1 b0 b1
     gi_wp2
     go_roundw
     case rel=>exact ⟨k+1,o+112,_,by omega,by go_num,HP2,HO2,HJ3,HK3⟩
     case measure=>simp[intOf];omega
    ·have HP2:=gI (show (pre++[(⟨k,hlt⟩:Fin p)]).map (·.val)=List.range (k+1) by rw[List.map_append,HP.out,List.range_succ];rfl);clear hy q0 q1 b0 b1
     gi_wp2
     refine bodyPost_ret (results_none rfl _ _ _) rfl ?_;exact ⟨⟨_,rfl⟩,.inr ⟨_,⟨k+1,by omega,HP2.out⟩,hJx3⟩⟩
  ·have hk16:k=p:=by omega
   subst hk16;have ho:¬(o:Int)<(tt:Int):=by have:=HO.out;have:=HP0.out;omega
   gi_wp2
   go_end0
   exact ⟨⟨_,rfl⟩,.inl ⟨pre,HP.out,HJ.out⟩⟩
end
end Go.Proofs.YtcdkopbjlakebaaGreatDoor
