/- Texts put together, for a law: Chunk. -/
import Derived.Lib.MinMax
import Derived.Test.YtcdkopbjlakebaaGreatDoorKP21
set_option maxRecDepth 100000
set_option maxHeartbeats 8000000
namespace Go.Proofs.YtcdkopbjlakebaaGreatDoor
section
open Go.RowKit Me Rw Ds
def encC (g:Nat) (k:Fin 16):Array Value:=#[.slice (some ⟨g,128*k.val,none⟩) 128 128]
def KB (Bs Bn:Nat) (W W':World):Prop:=∀p:Addr,p.block=Bs\/p.block=Bn->W'.cell? p=W.cell? p
theorem KB.trans {Bs Bn:Nat} {A B C:World} (h:KB Bs Bn A B) (h':KB Bs Bn B C):KB Bs Bn A C:=fun p hp=>(h' p hp).trans (h p hp)
theorem KB.put {Bs Bn n:Nat} (h1:Bs<n) (h2:Bn<n) (W:World) (l:Nat) (o':Obj) (hl:n<=l):KB Bs Bn W (W.putObj l o'):=fun p hp=>
 World.cell?_of_block (by
  have hne:l≠p.block:=by rcases hp with h|h<;>omega
  simp[World.putObj,hne])
def chG (g c c' o t Bs Bn:Nat):Gw.Fact:=fun s v _=>
 match s with
 |1=>v=.pointer (some ⟨Bs,0,none⟩)
 |2=>v=.pointer (some ⟨Bn,0,none⟩)
 |4|15=>v=.int .i64 (o:Int)
 |13|18|5=>v=.int .i64 128
 |14=>v=.slice (some ⟨g,0,none⟩) 2048 c
 |16=>v=.slice (some ⟨g,o,none⟩) t c'
 |17=>v=.int .i64 (t:Int)
 |_=>True
attribute [local go_sem] Oper.semAt_some
theorem ziG (n:Nat) (hn:1<=n) (l Bs Bn g c:Nat) (hc:2048<=c) (hc63:c<=9223372036854775807) (J Jx:List (Fin 16)->World->Prop) (hA:∀pre W W',J pre W->Below W.heap.size W W'->J pre W')
 (hY:∀pre x W,J pre W->pre.length<16->YieldAt Fence.wide (n-1) Tryz.prog l (encC g x) W fun e W'=>
   (e=.returned (.bool true)/\J (pre++[x]) W'/\KB Bs Bn W W')\/(e=.returned (.bool false)/\Jx (pre++[x]) W'))
 (W:World) (hBs:W.cell? ⟨Bs,0,none⟩=some (.slice (some ⟨g,0,none⟩) 2048 c)) (hBn:W.cell? ⟨Bn,0,none⟩=some (.int .i64 128)) (h0:J [] W) :
 CallsIn Fence.wide n Tryz.prog 109 #[.func (.yield l) #[] #[],.pointer (some ⟨Bs,0,none⟩),.pointer (some ⟨Bn,0,none⟩)] W fun e W'=>(∃v,e=.returned v) /\
  ((∃ys:List (Fin 16),ys.map (·.val)=List.range 16/\J ys W')\/(∃pre:List (Fin 16),(∃k,k<=16/\pre.map (·.val)=List.range k)/\Jx pre W')):=by
 have HJ0:=gI h0;have HK0:=gI (show KB Bs Bn W W from fun _ _=>rfl);have HS:=gI hBs;have HN:=gI hBn;clear h0 hBs hBn;refine callsIn_of_wp Tryz.func109 rfl trivial ?_ rfl;simp only[Tryz.ntmps109,List.size_toArray,List.length_cons,List.length_nil,Nat.reduceAdd,Nat.reduceSub,Array.replicate_succ,Array.replicate_zero,List.push_toArray,List.append_toArray,List.nil_append,List.cons_append]
 gi_wp2
 gi_loopw [4] (fun i wr=>∃(k o:Nat) (pre:List (Fin 16)),k<=16/\i=.int .i64 (o:Int)/\Hid (pre.map (·.val)=List.range k)/\Hid (o=128*k)/\Hid (J pre wr)/\Hid (KB Bs Bn W wr)) (fun i _=>(2048-intOf i).toNat)
 case atStart=>exact ⟨0,0,[],by omega,rfl,gI rfl,gI rfl,HJ0,HK0⟩
 case round=>
  clear HJ0 HK0;obtain ⟨k,o,pre,hk,rfl,HP,HO,HJ,HK⟩:=hrel;have b0:=(HK.out ⟨Bs,0,none⟩ (.inl rfl)).trans HS.out;have b1:=(HK.out ⟨Bn,0,none⟩ (.inr rfl)).trans HN.out
  by_cases hlt:k<16
  ·have hoo:=HO.out;have ho:o+128<=2048:=by omega
   have ho2:(o:Int)<2048:=by omega
   obtain ⟨t,ht⟩:∃t,t+o=2048:=⟨2048-o,by omega⟩
   obtain ⟨c',hc'⟩:∃c',c'+o=c:=⟨c-o,by omega⟩
   have HT:=gI ht;have HC:=gI hc';clear hoo ht hc'
   gi_wp2_with fail
   refine wpIn_wide.2 ?_;refine Gw.zl (chG g c c' o t Bs Bn) [13,14,15,16,17,18,5] [([2],none),([1],none),([4],none),([14,15],none),([16],none),([13,17],none),([18],none)] 31 (by kernel_rfl) (by kernel_rfl) rfl ?h0 ?hreq ?hend
   case h0=>
    intro t W hnd _;unfold chG
    split<;>first|rfl|trivial|exact absurd (by simp) hnd
   case hreq=>
    refine ⟨?_,?_,?_,?_,?_,?_,?_,trivial⟩
    all_goals
     intro ac W' hg hk;have q0:=(Below.cell (show Below wr.heap.size wr W' from hg) (p:=⟨Bs,0,none⟩) (World.block_lt_of_cell? _ _ b0)).trans b0;have q1:=(Below.cell (show Below wr.heap.size wr W' from hg) (p:=⟨Bn,0,none⟩) (World.block_lt_of_cell? _ _ b1)).trans b1;simp only[Gw.Knows,chG] at hk
     try (simp[go_sem,Gw.zw,Gw.Ok,Gw.Post,Gw.Holds,chG,Gw.zk.refl,hk,q0,q1];done)
    ·have e1:2048-o=t:=by have:=HT.out;omega
     have e2:c-o=c':=by have:=HC.out;omega
     have e3:(o:Int)<=2048:=by omega
     have e4:¬c=o:=by omega
     simp[go_sem,Gw.zw,Gw.Ok,Gw.Post,Gw.Holds,chG,Gw.zk.refl,hk,e1,e2,e3,e4]
    ·simp[go_sem,Gw.zw,Gw.Ok,Gw.Post,Gw.Holds,chG,Gw.zk.refl,hk];intro _ _;have:=HT.out;omega
   case hend=>
    intro x w' hg hx;have h5:=(hx 5 (by simp)).now;have HB:=gI (show Below wr.heap.size wr w' from hg);have q0:=(HB.out.cell (p:=⟨Bs,0,none⟩) (World.block_lt_of_cell? _ _ b0)).trans b0;have q1:=(HB.out.cell (p:=⟨Bn,0,none⟩) (World.block_lt_of_cell? _ _ b1)).trans b1;clear hx hg;simp only[Gw.zm,Act.put,List.setIfInBounds_toArray,List.set_cons_zero,List.set_cons_succ];rw[show x 5=.int .i64 128 from h5];have HJ1:=hA _ _ _ HJ.out HB.out;obtain ⟨fn,tmps,assign,body,hy,hRo⟩:=hY pre ⟨k,hlt⟩ w' HJ1 (by have:=congrArg List.length HP.out;simp at this;omega)
    dsimp only[encC] at hy
    rw[<-HO.out] at hy;have HRo:=gI hRo;have HK1:=gI (HK.out.trans (fun p hp=>by
     rcases hp with h|h
     ·exact HB.out.cell (p:=p) (by rw[h];exact World.block_lt_of_cell? _ _ b0)
     ·exact HB.out.cell (p:=p) (by rw[h];exact World.block_lt_of_cell? _ _ b1)))
    have hg64:(o:Int)+128<=9223372036854775807:=by omega
    clear h5 hRo HJ1
    gi_wp2_with fail
    refine HRo.out.mono ?_;rintro e W3 (⟨rfl,hJ3,hk3⟩|⟨rfl,hJx3⟩)
    ·have HP2:=gI (show (pre++[(⟨k,hlt⟩:Fin 16)]).map (·.val)=List.range (k+1) by rw[List.map_append,HP.out,List.range_succ];rfl);have HJ3:=gI hJ3;have HK3:=gI (HK1.out.trans hk3);have r1:=(HK3.out ⟨Bn,0,none⟩ (.inr rfl)).trans HN.out;have HO2:=gI (show o+128=128*(k+1) by have:=HO.out;omega);clear hJ3 hk3 hy q0 q1 b0 b1
     gi_wp2
     go_roundw
     case rel=>exact ⟨k+1,o+128,_,by omega,by go_num,HP2,HO2,HJ3,HK3⟩
     case measure=>simp[intOf];omega
    ·have HP2:=gI (show (pre++[(⟨k,hlt⟩:Fin 16)]).map (·.val)=List.range (k+1) by rw[List.map_append,HP.out,List.range_succ];rfl);clear hy q0 q1 b0 b1
     gi_wp2
     refine bodyPost_ret (results_none rfl _ _ _) rfl ?_;exact ⟨⟨_,rfl⟩,.inr ⟨_,⟨k+1,by omega,HP2.out⟩,hJx3⟩⟩
  ·have hk16:k=16:=by omega
   subst hk16;have ho:¬(o:Int)<2048:=by have:=HO.out;omega
   gi_wp2
   go_end0
   exact ⟨⟨_,rfl⟩,.inl ⟨pre,HP.out,HJ.out⟩⟩
end
end Go.Proofs.YtcdkopbjlakebaaGreatDoor
