/- Texts put together, for a law: Va2. -/
import Derived.Test.YtcdkopbjlakebaaGreatDoorKP22
import Derived.Test.YtcdkopbjlakebaaGreatDoorKP37
set_option maxRecDepth 100000
set_option maxHeartbeats 8000000
namespace Go.Proofs.YtcdkopbjlakebaaGreatDoor
section
open Go.RowKit Me Rn
def rvV (_T:Nat) (x:Pc) (av:Array Value) (_W:World):Prop:=av=#[x.1]
def rvM (Bs:Nat) (A:Option Addr) (n:Nat):Nat->Prop:=fun k=>k=Bs\/(0<n/\∃a,A=some a/\k=a.block)
theorem zfT (l Bs n c:Nat) (A:Option Addr) (es:List Pc) (hl:es.length=n) (hn:n<=1000000) (S:Nat->Nat->Prop) (J Jx:Nat->List Pc->World->Prop) (W:World)
 (hS:∀T k,W.heap.size<=T->S T k->(k<W.heap.size\/T<=k)/\¬rvM Bs A n k) (hJ:∀T,W.heap.size<=T->Rt.Free W.heap.size T (J T)) (hJx:∀T,W.heap.size<=T->Rt.Free W.heap.size T (Jx T))
 (hY:∀T pre x post av W1,W.heap.size<=T->es=pre++x::post->T<=W1.heap.size->Out (S T) W W1->J T pre W1->rvV T x av W1->YieldAt Fence.wide 1 Tryz.prog l av W1 fun e W'=>
   Out (S T) W1 W'/\((e=.returned (.bool true)/\J T (pre++[x]) W')\/(e=.returned (.bool false)/\Jx T (pre++[x]) W')))
 (hBs:Blk W Bs [.slice A n c]) (hr:Cs W W.heap.size A (es.map (·.1))) (h0:∀T,W.heap.size<=T->J T [] W) :
 CallsIn Fence.wide 2 Tryz.prog 82 #[.func (.yield l) #[] #[],.pointer (some ⟨Bs,0,none⟩)] W fun e W'=>(∃v,e=.returned v)/\∃T,W.heap.size<=T/\Out (S T) W W' /\
  (J T es W'\/∃pre post,es=pre++post/\Jx T pre W'):=by
 obtain ⟨T,hT⟩:∃T,T=W.heap.size:=⟨_,rfl⟩
 have HT:=gI (show W.heap.size<=T by omega);have HTT:=gI (show T<=W.heap.size by omega);have HJ0:=gI (show J T (es.take 0) W from h0 T (by omega));have HO0:=gI (Out.refl (S T) W);have HYY:=gI hY;have HNS:=gI (show ¬S T Bs from fun h=>(hS T _ (by omega) h).2 (.inl rfl));have HNA:=gI (show ∀a,0<n->A=some a->¬S T a.block from fun a h0 e h=>(hS T _ (by omega) h).2 (.inr ⟨h0,a,e,rfl⟩));have HS:=gI hBs;have HR:=gI hr;have HL:=gI hl;have c0:=hBs.cell (i:=0) rfl;clear h0 hBs hr hl hT hJ hJx hY hS;refine callsIn_of_wp Tryz.func82 rfl trivial ?_ rfl;simp only[Tryz.ntmps82,List.size_toArray,List.length_cons,List.length_nil,Nat.reduceAdd,Nat.reduceSub,Array.replicate_succ,Array.replicate_zero,List.push_toArray,List.append_toArray,List.nil_append,List.cons_append]
 gi_wp2
 clear c0
 gi_loopw [7] (fun i wr=>∃k:Nat,k<=n/\i=.int .i64 (k:Int)/\Hid (J T (es.take k) wr)/\Hid (Out (S T) W wr)) (fun i _=>n-(intOf i).toNat)
 case atStart=>exact ⟨0,by omega,rfl,HJ0,HO0⟩
 case round=>
  clear HJ0 HO0;obtain ⟨k,hk,rfl,HJ,HW⟩:=hrel
  by_cases hlt:k<n
  ·obtain ⟨p,hp⟩:∃p,es[k]?=some p:=⟨_,List.getElem?_eq_getElem (by rw[HL.out];exact hlt)⟩
   obtain ⟨a,rfl,hab,hcl⟩:=HR.out (by rw[List.length_map,HL.out];omega);obtain ⟨ev,hev⟩:∃ev,ev=p.1:=⟨_,rfl⟩
   have cx:wr.cell? (a.add k)=some ev:=(HW.out.cell (by rw[block_add];exact hab) (by rw[block_add];exact HNA.out a (by omega) rfl)).trans (by rw[hev];exact hcl k p.1 (by rw[List.getElem?_map,hp];rfl));have hlti:(k:Int)<(n:Int):=by omega
   have htk:es.take (k+1)=es.take k++[p]:=by rw[List.take_add_one,hp];rfl
   have hX:es=es.take k++p::es.drop (k+1):=by
    conv=>lhs;rw[<-List.take_append_drop (k+1) es,htk,List.append_assoc]
    rfl
   obtain ⟨fn,tmps,assign,body,hy,hRo⟩:=HYY.out T (es.take k) p _ #[ev] wr HT.out hX (by have:=HW.out.size;have:=HTT.out;omega) HW.out HJ.out (by rw[hev];rfl);have HRo:=gI hRo;have HTK:=gI htk;have HX:=gI (show es=es.take (k+1)++es.drop (k+1) from (List.take_append_drop _ _).symm);clear hRo hX htk hp hcl hev
   gi_wp2_with fail
   refine HRo.out.mono ?_;rintro e' W3 ⟨ho3,⟨rfl,hJ3⟩|⟨rfl,hJx3⟩⟩
   ·have HJ3:=gI (show J T (es.take (k+1)) W3 by rw[HTK.out];exact hJ3);have HW3:=gI (HW.out.trans ho3);clear hJ3 ho3 hy cx
    gi_wp2
    go_roundw
    case rel=>exact ⟨k+1,hlt,by go_num,HJ3,HW3⟩
    case measure=>simp[intOf];omega
   ·have FIN:=gI (show ∃T,W.heap.size<=T/\Out (S T) W W3/\(J T es W3\/∃pre post,es=pre++post/\Jx T pre W3) from ⟨T,HT.out,HW.out.trans ho3,.inr ⟨es.take (k+1),_,HX.out,by rw[HTK.out];exact hJx3⟩⟩);clear hy cx ho3 hJx3
    gi_wp2
    refine bodyPost_ret (results_none rfl _ _ _) rfl ?_;exact ⟨⟨_,rfl⟩,FIN.out⟩
  ·have hkp:k=n:=by omega
   have HJE:=gI (show J T es wr by have:=HJ.out;rwa[List.take_of_length_le (by rw[HL.out];omega)] at this);clear HJ
   gi_wp2
   go_end0
   exact ⟨⟨_,rfl⟩,T,HT.out,HW.out,.inl HJE.out⟩
theorem Xc {Bs n c:Nat} {A:Option Addr} {es:List Pc} {w:World} (hl:es.length=n) (hn:n<=1000000) (hBs:Blk w Bs [.slice A n c]) (hr:Cs w w.heap.size A (es.map (·.1))) :
 Rt.Gives Tryz.prog 82 #[.pointer (some ⟨Bs,0,none⟩)] rvV es (rvM Bs A n) w:=fun n' l S J Jx W hW hS hJ hJx hY h0=>
 Y4 (zfT l Bs n c A es hl hn S J Jx W hS hJ hJx hY (hBs.past hW) ((hr.below hW).more hW.size) h0)
theorem Q0 (A:Option Addr) (n c:Nat) (w:World) :
 Calls Tryz.prog 51 #[.slice A n c] w fun e w'=>e=.returned (.func (.func 82) #[] #[.pointer (some ⟨w.heap.size,0,none⟩)]) /\
  w'=w.alloc (.cells #[.slice A n c] 25):=by
 go_enter Tryz.func51,Tryz.ntmps51
 go_wp2
 go_ret
 exact ⟨rfl,rfl⟩
end
end Go.Proofs.YtcdkopbjlakebaaGreatDoor
