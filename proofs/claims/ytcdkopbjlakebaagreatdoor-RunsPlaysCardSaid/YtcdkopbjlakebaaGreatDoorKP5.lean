/- Texts put together, for a law: PhaseI. -/
import Derived.OrdersIn
import Derived.Test.YtcdkopbjlakebaaGreatDoorKP2
set_option maxRecDepth 100000
set_option maxHeartbeats 8000000
namespace Go.Proofs.YtcdkopbjlakebaaGreatDoor
section
namespace Gw
open Go.RowKit
def zbn (ops:Array Oper):Bool:=ops.all fun o=>match o.op with
 | .defer _=>false
 |_=>true
theorem zaB {ops:Array Oper} (h:zbn ops=true) {i:Nat} {o:Oper} (hi:ops[i]?=some o):∀c,o.op≠.defer c:=fun c e=>by
 unfold zbn at h;rw[Array.all_eq_true] at h;obtain ⟨hl,hv⟩:=Array.getElem?_eq_some_iff.1 hi;have:=h i hl;rw[hv,e] at this
 cases this
section
variable {P:Program} {ops:Array Oper} {wrs:List Nat} {R:World->World->Prop} {I:Nat->World->Prop} {G:Fact}
theorem QV {n l:Nat} {o:Oper} {a:Act} {w:World} {K:Act->World->Prop} {Q:Exit->Act->World->Prop} {p:Value->World->Prop} (hd:∀c,o.op≠.defer c) (h:OkP P o a w p) (hK:∀v w',p v w'->K (a.put o.dst v) w'):o.wpIn (Fence.wide.inRound l) n P a w K Q:=by
 unfold OkP at h;unfold Oper.wpIn;rw[Fence.inRound_round,Oper.semAt_eq _ _ _ hd];refine ⟨fun _ _=>trivial,?_⟩
 generalize (execOp a.eval o).run P w=r at *
 cases r with
 |ok nx w'=>
  cases nx with
  |value v=>exact hK _ _ h
  |skip=>exact hK _ _ h
  |enter f args=>
   refine ⟨fun e=>by simp[Fence.wide,Fence.inRound] at e,CallsIn.mono (callsIn_wide (n:=n-1).2 h) ?_⟩;rintro e w'' ⟨v,he,hp⟩;subst he;exact hK _ _ hp
  |_=>exact h.elim
 |halt x w'=>exact h.elim
theorem zaa {n:Nat} {l:Nat} (hRr:∀w,R w w) (hRt:∀a b c,R a b->R b c->R a c) {a0:Act} {w0:World} {Q:Exit->Act->World->Prop} (hnd:zbn ops=true) (hB:YF ops a0.tmps.size=true) (hO:ownB ops wrs=true) (hreq:PReq P R I G w0 ops.toList (rowsOf ops wrs))
 (hend:∀a w,(∀listed:Array Bool,(∀j,j<ops.size->listed.getD j false=true)->InvP ops wrs R I G a0 w0 wrs.length listed a w->Q .normal a w)) :
 ∀(fuel p:Nat) (listed:Array Bool) (a:Act) (w:World),p<=wrs.length->listed.toList.count false<=fuel->InvP ops wrs R I G a0 w0 p listed a w->wpAnyIn (Fence.wide.inRound l) n P .any ops Q fuel listed a w:=by
 have fin:∀(p:Nat) (listed:Array Bool) (a:Act) (w:World),InvP ops wrs R I G a0 w0 p listed a w->Region.ready .any ops listed=[]->∀j,j<ops.size->listed.getD j false=true:=fun p listed a w h hr=>by
  intro j
  induction j using Nat.strongRecOn with
  |_ j ih=>
   intro hj
   cases hl:listed.getD j false with
   |true=>rfl
   |false=>
    exfalso
    have hjo:ops[j]?=some ops[j]:=Array.getElem?_eq_getElem hj;have:j∈Region.ready .any ops listed:=mem_ready.2 ⟨by rw[qo (by rw[h.listedSize];exact hj)];exact hl,ops[j],hjo,fun e he hb=>by
     have hlt:=(xJ hB hjo).1 e he hb;exact ih e.on hlt (by omega)⟩
    rw[hr] at this
    cases this
 have done:∀(p:Nat) (listed:Array Bool) (a:Act) (w:World),p<=wrs.length->InvP ops wrs R I G a0 w0 p listed a w->(∀j,j<ops.size->listed.getD j false=true)->Q .normal a w:=fun p listed a w hp h hall=>by
  have e:p=wrs.length:=by
   rcases Nat.lt_or_ge p wrs.length with hlt|hge
   ·exfalso
    have hk:wrs[p]?=some wrs[p]:=List.getElem?_eq_getElem hlt;have:=(h.here p _ hk).1 (hall _ (vD hO hk).2);omega
   ·omega
  subst e;exact hend a w listed hall h
 intro fuel
 induction fuel with
 |zero=>
  intro p listed a w hp hc h;have h0:∀j,j<ops.size->listed.getD j false=true:=fun j hj=>by
   cases hl:listed.getD j false with
   |true=>rfl
   |false=>
    exfalso
    have hb:j<listed.size:=by rw[h.listedSize];exact hj
    have:(false:Bool)∈listed.toList:=by
     have e:listed[j]=false:=by simpa [hb] using hl
     rw[<-e];exact Array.getElem_mem_toList hb
    have:=List.count_pos_iff.2 this;omega
  refine ⟨?_,done p listed a w hp h h0⟩
  cases hr:Region.ready .any ops listed with
  |nil=>rfl
  |cons i r=>
   exfalso
   obtain ⟨hu,o,ho,-⟩:=qy h.listedSize (show i∈Region.ready .any ops listed by rw[hr];simp);rw[h0 i (Array.getElem?_eq_some_iff.1 ho).1] at hu
   cases hu
 |succ fuel ih=>
  intro p listed a w hp hc h;refine ⟨fun hr=>done p listed a w hp h (fin p listed a w h hr),fun i hm=>?_⟩;obtain ⟨hu,o,ho,hall⟩:=qy h.listedSize hm;have hil:i<ops.size:=(Array.getElem?_eq_some_iff.1 ho).1;have hlt:i<listed.size:=by rw[h.listedSize];exact hil
  have hcount:(listed.setIfInBounds i true).toList.count false<=fuel:=by
   have e:listed.toList[i]?=some false:=by
    have:listed[i]=false:=by simpa [hlt] using hu
    simp[hlt,this]
   have:=count_set listed.toList i e;simp only[Array.toList_setIfInBounds];omega
  obtain ⟨hacyc,hguard,hdlt,hflow⟩:=xJ hB ho;have hph:=zk2 h hp ho hu hall hO;obtain ⟨m,hm1,hm2⟩:=zd0 ops.toList (rowsOf ops wrs) hreq i o (by simpa using ho);have hme:m=(o.looksAt ops,guardOf ops o,vS ops wrs i,wrs.contains i):=by
   unfold rowsOf at hm1;rw[List.getElem?_map,List.getElem?_range hil] at hm1;simp only[Option.map_some] at hm1;injection hm1 with hm1;rw[<-hm1];unfold rowOf;rw[ho]
  subst hme;have hk:Knows G a w (o.looksAt ops):=ZL _ fun t ht=>(h.facts t fun j q hj hq=>by
   obtain ⟨e,he,hb,rfl⟩:=(hflow j q t hj hq).1 ht;exact hall e he hb) w (hRr w)
  have hreq':=hm2 p hph a w h.reach h.inv hk;have hle:(bif wrs.contains i then p+1 else p)<=wrs.length:=by
   cases hc:wrs.contains i with
   |false=>exact hp
   |true=>
    rw[List.contains_iff_mem] at hc;obtain ⟨k',hk'⟩:=List.mem_iff_getElem?.1 hc;have h1:=(vD hO hk').1;rw[h1] at hph;have hpk:p=k':=by simpa using hph
    subst hpk;have:=(List.getElem?_eq_some_iff.1 hk').1;simp only[cond_true];omega
  unfold wpOpIn;simp only[ho];have go:∀v w',xH R I G (bif wrs.contains i then p+1 else p) o.dst w v w'->wpAnyIn (Fence.wide.inRound l) n P .any ops Q fuel (listed.setIfInBounds i true) (a.put o.dst v) w':=fun v w' hq=>
   ih _ _ _ _ hle hcount (zfm hRt hB hO ho hph hall h hq)
  unfold yo guardOf at hreq'
  cases hgd:o.guard with
  |none=>
   rw[hgd] at hreq';have hw:Region.wanted o (yielded ops a.tmps)=true:=by unfold Region.wanted;rw[hgd]
   rw[if_pos hw];exact QV (zaB hnd ho) hreq' go
  |some gb=>
   obtain ⟨g,b⟩:=gb;obtain ⟨q,d,hq,hqd⟩:=hguard g b hgd;rw[hgd] at hreq';have hbind:(ops[g]?).bind (·.dst)=some d:=by rw[hq];exact hqd
   simp only[hbind,Option.map_some] at hreq';rw[<-zD] at hreq';rcases hreq' with ⟨he,hok⟩|⟨he,hp'⟩
   ·have hw:=yK (ops:=ops) hgd hbind he;rw[if_pos (by rw[hw];simp)];exact QV (zaB hnd ho) hok go
   ·have hw:=yK (ops:=ops) hgd hbind he;rw[if_neg (by rw[hw];cases b<;>simp)];exact ⟨fun _ _=>trivial,go _ _ hp'⟩
theorem XG {n l0:Nat} {id:Nat} {Q:Exit->Act->World->Prop} {a0:Act} {w:World} {l:List Oper} (R:World->World->Prop) (hRr:∀w,R w w) (hRt:∀a b c,R a b->R b c->R a c) (I:Nat->World->Prop) (G:Fact) (wrs:List Nat) (dsts:List Tmp) (ms:List Row) (size m:Nat) (hm:P.follows .mixedOrders=true)
 (hB:(zbn l.toArray&&YF l.toArray size&&ownB l.toArray wrs&&(rowsOf l.toArray wrs==ms)&&(dstsOf l.toArray==dsts)&&(wrs.length==m))=true) (hsz:a0.tmps.size=size)
 (hRd:R w w.drew) (hI0:I 0 w.drew) (h0:∀t W,t∉dsts->R w W->G t (a0.eval (.tmp t)) W) (hreq:PReq P R I G w l ms)
 (hend:∀(x:Tmp->Value) (w':World),R w w'->I m w'->(∀d∈dsts,zW R G d (x d) w')->Q .normal (zm x dsts a0) w'):(Code.region id l.toArray true).wpIn (Fence.wide.inRound l0) n P Q a0 w:=by
 simp only[Bool.and_eq_true,beq_iff_eq] at hB;obtain ⟨⟨⟨⟨⟨hnd,hf⟩,hO⟩,hme⟩,hde⟩,hwm⟩:=hB;subst hsz hwm;have hmem:∀t:Tmp,t∈dsts↔∃(j:Nat) (o:Oper),l.toArray[j]?=some o/\o.dst=some t:=fun t=>by
  rw[<-hde];unfold dstsOf;simp only[List.mem_filterMap]
  constructor
  ·rintro ⟨o,ho,hd⟩;obtain ⟨j,hj⟩:=List.mem_iff_getElem?.1 ho;exact ⟨j,o,by simpa using hj,hd⟩
  ·rintro ⟨j,o,hj,hd⟩;exact ⟨o,List.mem_iff_getElem?.2 ⟨j,by simpa using hj⟩,hd⟩
 refine wpIn_region_any hm (zaa (wrs:=wrs) (I:=I) (G:=G) (a0:=a0) (w0:=w) hRr hRt hnd hf hO (by rw[hme];simpa using hreq) ?_ _ 0 _ _ _ (Nat.zero_le _) ?_ ?_)
 ·intro a w' listed hall hinv;have e:a=zm (fun t=>a.eval (.tmp t)) dsts a0:=by
   have hsz:=hinv.size;have hdf:=hinv.defers;have ht:a.tmps=(zm (fun t=>a.eval (.tmp t)) dsts a0).tmps:=by
    apply Array.ext_getElem?
    intro t
    by_cases hlt:t<a0.tmps.size
    ·rw[qg _ _ _ _ hlt];have hat:a.tmps[t]?=some (a.eval (.tmp t)):=by
      have:t<a.tmps.size:=by rw[hsz];exact hlt
      simp[Act.eval,this]
     by_cases hd:t∈dsts
     ·rw[if_pos hd,hat]
     ·rw[if_neg hd,hat,hinv.others t (fun j o hj hq=>hd ((hmem t).2 ⟨j,o,hj,hq⟩))];simp[Act.eval,hlt]
    ·rw[Array.getElem?_eq_none (by rw[hsz];omega),Array.getElem?_eq_none (by rw[xI];omega)]
   have hdd:a.defers=(zm (fun t=>a.eval (.tmp t)) dsts a0).defers:=by rw[yJ,hdf]
   exact Qf ht hdd
  rw[e];refine hend _ _ hinv.reach hinv.inv fun d hd=>?_
  exact hinv.facts d fun j o hj _=>hall j (Array.getElem?_eq_some_iff.1 hj).1
 ·simp
 ·refine ⟨hRd,hI0,rfl,rfl,fun t ht=>?_,fun _ _=>rfl,by simp,fun k o hk hl=>?_,fun k i hk=>?_⟩
  ·have hnd:t∉dsts:=fun hd=>by
    obtain ⟨j,o,hj,hq⟩:=(hmem t).1 hd;have:=ht j o hj hq;have hlt:=(Array.getElem?_eq_some_iff.1 hj).1;simp at hlt;simp[hlt] at this
   exact fun W hW=>h0 t W hnd (hRt _ _ _ hRd hW)
  ·have hlt:=(Array.getElem?_eq_some_iff.1 hk).1;simp at hlt;simp[hlt] at hl
  ·by_cases hlt:i<l.length
   ·simp[hlt]
   ·simp[hlt]
end
end Gw
end
end Go.Proofs.YtcdkopbjlakebaaGreatDoor
