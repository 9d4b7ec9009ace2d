/- Texts put together, for a law: PhaseI, PhaseO, TailI. -/
import Derived.OrdersIn
import Derived.Test.YtcdkopbjlakebaaGreatDoorKS2
section
namespace Go.Proofs.YtcdkopbjlakebaaGreatDoor.Gw
open Go.RowKit
def noDefer (ops:Array Oper):Bool:=ops.all fun o=>match o.op with
 | .defer _=>false
 |_=>true
theorem noDefer_at {ops:Array Oper} (h:noDefer ops=true) {i:Nat} {o:Oper} (hi:ops[i]?=some o):∀c,o.op≠.defer c:=fun c e=>by
 unfold noDefer at h
 rw[Array.all_eq_true] at h
 obtain ⟨hl,hv⟩:=Array.getElem?_eq_some_iff.1 hi
 have:=h i hl
 rw[hv,e] at this
 cases this
section
variable {P:Program} {ops:Array Oper} {wrs:List Nat} {R:World→World→Prop} {I:Nat→World→Prop} {G:Fact}
theorem wpIn_of_okP {n l:Nat} {o:Oper} {a:Act} {w:World} {K:Act→World→Prop} {Q:Exit→Act→World→Prop} {p:Value→World→Prop} (hd:∀c,o.op≠.defer c) (h:OkP P o a w p) (hK:∀v w',p v w'→K (a.put o.dst v) w'):o.wpIn (Fence.wide.inRound l) n P a w K Q:=by
 unfold OkP at h
 unfold Oper.wpIn
 rw[Fence.inRound_round,Oper.semAt_eq _ _ _ hd]
 refine ⟨fun _ _=>trivial,?_⟩
 generalize (execOp a.eval o).run P w=r at *
 cases r with
 |ok nx w'=>
  cases nx with
  |value v=>exact hK _ _ h
  |skip=>exact hK _ _ h
  |enter f args=>
   refine ⟨fun e=>by simp[Fence.wide,Fence.inRound] at e,CallsIn.mono (callsIn_wide (n:=n-1).2 h) ?_⟩
   rintro e w'' ⟨v,he,hp⟩
   subst he
   exact hK _ _ hp
  |_=>exact h.elim
 |halt x w'=>exact h.elim
end
end Go.Proofs.YtcdkopbjlakebaaGreatDoor.Gw
end
section
namespace Go.Proofs.YtcdkopbjlakebaaGreatDoor.Gw
open Go.RowKit
def OkO (l n:Nat) (P:Program) (o:Oper) (a:Act) (w:World) (p:Value→World→Prop):Prop:=
 ∀(K:Act→World→Prop) (Q:Exit→Act→World→Prop),(∀v w',p v w'→K (a.put o.dst v) w')→o.wpIn (Fence.wide.inRound l) n P a w K Q
theorem OkO.plain {l n:Nat} {P:Program} {o:Oper} {a:Act} {w:World} {p:Value→World→Prop} (hd:∀c,o.op≠.defer c) (h:OkP P o a w p):OkO l n P o a w p:=fun _ _ hK=>wpIn_of_okP hd h hK
theorem OkO.round {l n:Nat} {P:Program} {o:Oper} {a:Act} {w:World} {p:Value→World→Prop} (hd:∀c,o.op≠.defer c) {l' m:Nat} {f:FuncId} {tmps:Array Value} {assign body:Code} (he:(execOp a.eval o).run P w=.ok (.round l' f tmps assign body) w)
 (h:RoundIn Fence.wide m P l' f tmps assign body w fun e w'=>∃v,e=.returned v∧p v w'):OkO l n P o a w p:=fun K Q hK=>by
 unfold Oper.wpIn
 rw[Fence.inRound_round,Oper.semAt_eq _ _ _ hd,he]
 refine ⟨fun _ _=>trivial,?_⟩
 rw[Oper.uponIn_round]
 refine ⟨fun e=>by simp[Fence.wide,Fence.inRound] at e,?_⟩
 refine RoundIn.mono ⟨trivial,fun c cs _=>h.2 c cs (fun d e=>by simp[Fence.wide] at e)⟩ ?_
 rintro e w'' ⟨v,rfl,hp⟩
 exact hK _ _ hp
def POpReqO (l n:Nat) (P:Program) (R:World→World→Prop) (I:Nat→World→Prop) (G:Fact) (o:Oper) (g:Option (Tmp×Bool)) (p:Nat) (a:Act) (w:World):Prop:=
 match g with
 |none=>OkO l n P o a w (PPost R I G p o.dst w)
 |some (d,b)=>(a.tmps[d]?.getD undef=.bool b∧OkO l n P o a w (PPost R I G p o.dst w))∨(a.tmps[d]?.getD undef=.bool (!b)∧PPost R I G p o.dst w undef w)
def PReqO (l n:Nat) (P:Program) (R:World→World→Prop) (I:Nat→World→Prop) (G:Fact) (w0:World):List Oper→List Row→Prop
 |[],[]=>True
 |o::os,(ts,g,ph,wr)::ms=>AllIn ph (fun p=>∀a w,R w0 w→I p w→Knows G a w ts→POpReqO l n P R I G o g (bif wr then p+1 else p) a w)∧PReqO l n P R I G w0 os ms
 |_,_=>False
section
variable {P:Program} {ops:Array Oper} {wrs:List Nat} {R:World→World→Prop} {I:Nat→World→Prop} {G:Fact}
end
end Go.Proofs.YtcdkopbjlakebaaGreatDoor.Gw
end
section
namespace Go.Proofs.YtcdkopbjlakebaaGreatDoor.Gw
open Go.RowKit
def seqTailI (l0 nn:Nat) (P:Program) (Q:Exit→Act→World→Prop):List Oper→Act→World→Prop
 |[],a,w=>Q .normal a w
 |o::os,a,w=>o.wpIn (Fence.wide.inRound l0) nn P a w (seqTailI l0 nn P Q os) Q
section
variable {P:Program} {ops:Array Oper} {n size:Nat}
theorem wpIn_of_ok {nn l0:Nat} {o:Oper} {a:Act} {w:World} {K:Act→World→Prop} {Q:Exit→Act→World→Prop} {p:Value→World→Prop} (hd:∀c,o.op≠.defer c) (h:Ok P o a w p) (hK:∀v w',Grows w w'→p v w'→K (a.put o.dst v) w'):o.wpIn (Fence.wide.inRound l0) nn P a w K Q:=by
 refine wpIn_of_okP (p:=fun v w'=>Grows w w'∧p v w') hd ?_ (fun v w' h=>hK v w' h.1 h.2)
 unfold Ok at h
 unfold OkP
 generalize (execOp a.eval o).run P w=r at *
 cases r with
 |ok nx w'=>
  cases nx with
  |value v=>exact h
  |skip=>exact h
  |enter f args=>exact h.2.mono fun e w'' ⟨v,he,hg,hp⟩=>⟨v,he,h.1.trans hg,hp⟩
  |_=>exact h.elim
 |halt x w'=>exact h.elim
theorem tail_seqI {l0 nn:Nat} {Q:Exit→Act→World→Prop} (hF:flowB ops size=true) (hT:tailB ops n=true):∀(fuel m:Nat) (listed:Array Bool) (a:Act) (w:World),n≤m→m≤ops.size→listed.size=ops.size →
 (∀k,k<ops.size→(listed.getD k false=true↔k<m))→ops.size-m≤fuel→seqTailI l0 nn P Q (ops.toList.drop m) a w→wpAnyIn (Fence.wide.inRound l0) nn P .any ops Q fuel listed a w:=by
 intro fuel
 induction fuel with
 |zero=>
  intro m listed a w hn hm hs hl hf h
  have e:m=ops.size:=by omega
  subst e
  rw[List.drop_of_length_le (by simp)] at h
  refine ⟨?_,h⟩
  cases hr:Region.ready .any ops listed with
  |nil=>rfl
  |cons i r=>
   exfalso
   obtain ⟨hu,o,ho,-⟩:=ready_at hs (show i∈Region.ready .any ops listed by rw[hr];simp)
   have hlt:=(Array.getElem?_eq_some_iff.1 ho).1
   rw[(hl i hlt).2 hlt] at hu
   cases hu
 |succ fuel ih=>
  intro m listed a w hn hm hs hl hf h
  have closed:Closed ops listed:=fun k o hk hlk e he hb=>by
   have hkl:=(Array.getElem?_eq_some_iff.1 hk).1
   have h1:=(flow_at hF hk).1 e he hb
   exact (hl e.on (by omega)).2 (by have:=(hl k hkl).1 hlk;omega)
  refine ⟨fun hr=>?_,fun i hi=>?_⟩
  ·by_cases e:m=ops.size
   ·subst e
    rw[List.drop_of_length_le (by simp)] at h
    exact h
   ·exfalso
    have hlt:m<ops.size:=by omega
    have ho:ops[m]?=some ops[m]:=Array.getElem?_eq_getElem hlt
    have:m∈Region.ready .any ops listed:=mem_ready.2 ⟨by
     rw[listed_two (by omega)]
     cases hx:listed.getD m false with
     |false=>rfl
     |true=>exact absurd ((hl m hlt).1 hx) (Nat.lt_irrefl _),_,ho,fun e he hb=>by
     have h1:=(flow_at hF ho).1 e he hb
     exact (hl e.on (by omega)).2 h1⟩
    rw[hr] at this
    cases this
  ·obtain ⟨hu,o,ho,hall⟩:=ready_at hs hi
   have hlt:=(Array.getElem?_eq_some_iff.1 ho).1
   have him:m≤i:=by
    rcases Nat.lt_or_ge i m with h1|h1
    ·rw[(hl i hlt).2 h1] at hu;cases hu
    ·exact h1
   obtain ⟨hg,hw⟩:=tail_at hT ho (by omega)
   have hei:i=m:=by
    rcases Nat.lt_or_ge m i with h1|h1
    ·have:=waits_listed closed _ _ _ o ho hall (hw m h1)
     exact absurd ((hl m (by omega)).1 this) (Nat.lt_irrefl _)
    ·omega
   subst hei
   have hd:ops.toList.drop i=o::ops.toList.drop (i+1):=by
    rw[List.drop_eq_getElem_cons (by simpa using hlt)]
    congr 1
    have:=(Array.getElem?_eq_some_iff.1 ho).2
    simpa using this
   rw[hd] at h
   unfold wpOpIn
   simp only[ho]
   have hwt:Region.wanted o (yielded ops a.tmps)=true:=by unfold Region.wanted;rw[hg]
   rw[if_pos hwt]
   refine Oper.wpIn_mono (fun a' w' hK=>?_) h
   refine ih (i+1) _ _ _ (by omega) (by omega) (by simpa using hs) (fun k hk=>?_) (by omega) hK
   by_cases hki:i=k
   ·subst hki
    have hx:i<listed.size:=by omega
    simp[hx]
   ·rw[getD_set_ne false hki,hl k hk]
    omega
theorem any_of_invTI {l0 nn:Nat} {G:Fact} {a0:Act} {w0:World} {Q:Exit→Act→World→Prop} {ms:List (List Tmp×Option (Tmp×Bool))} (hnd:noDefer ops=true) (hB:flowB ops a0.tmps.size=true) (hT:tailB ops n=true) (hn:n≤ops.size) (hms:ms=(metaOf ops).take n) (hreq:Req P G w0 (ops.toList.take n) ms)
 (hend:∀a w,(∀listed:Array Bool,(∀j,j<n→listed.getD j false=true)→InvT ops n G a0 w0 listed a w→seqTailI l0 nn P Q (ops.toList.drop n) a w)) :
 ∀(fuel:Nat) (listed:Array Bool) (a:Act) (w:World),listed.toList.count false≤fuel→InvT ops n G a0 w0 listed a w→wpAnyIn (Fence.wide.inRound l0) nn P .any ops Q fuel listed a w:=by
 intro fuel
 induction fuel with
 |zero=>
  intro listed a w hc h
  have hcnt:=count_rest listed.toList n (fun k hk=>by have:=h.none k hk;simpa using this)
  rw[Array.length_toList,h.listedSize] at hcnt
  have hall:∀j,j<n→listed.getD j false=true:=fun j hj=>by
   cases hl:listed.getD j false with
   |true=>rfl
   |false=>
    exfalso
    have hb:j<listed.size:=by rw[h.listedSize];omega
    have:(false:Bool)∈listed.toList:=by
     have e:listed[j]=false:=by simpa [hb] using hl
     rw[←e]
     exact Array.getElem_mem_toList hb
    have:=List.count_pos_iff.2 this
    omega
  exact tail_seqI hB hT 0 n listed a w (Nat.le_refl _) hn h.listedSize (fun k _=>⟨fun hk=>Nat.lt_of_not_le fun h1=>(by rw[h.none k h1] at hk;cases hk),hall k⟩) (by omega) (hend a w listed hall h)
 |succ fuel ih=>
  intro listed a w hc h
  have hcnt:=count_rest listed.toList n (fun k hk=>by have:=h.none k hk;simpa using this)
  rw[Array.length_toList,h.listedSize] at hcnt
  by_cases hall:∀j,j<n→listed.getD j false=true
  ·exact tail_seqI hB hT _ n listed a w (Nat.le_refl _) hn h.listedSize (fun k _=>⟨fun hk=>Nat.lt_of_not_le fun h1=>(by rw[h.none k h1] at hk;cases hk),hall k⟩) (by omega) (hend a w listed hall h)
  ·have hready:Region.ready .any ops listed≠[]:=fun hr=>hall fun j=>by
    induction j using Nat.strongRecOn with
    |_ j ihj=>
     intro hj
     cases hl:listed.getD j false with
     |true=>rfl
     |false=>
      exfalso
      have hjo:ops[j]?=some ops[j]:=Array.getElem?_eq_getElem (by omega)
      have:j∈Region.ready .any ops listed:=mem_ready.2 ⟨by rw[listed_two (by rw[h.listedSize];omega)];exact hl,ops[j],hjo,fun e he hb=>by
       have hlt:=(flow_at hB hjo).1 e he hb
       exact ihj e.on hlt (by omega)⟩
      rw[hr] at this
      cases this
   refine ⟨fun hr=>absurd hr hready,fun i hm=>?_⟩
   obtain ⟨hu,o,ho,hal⟩:=ready_at h.listedSize hm
   have hil:i<ops.size:=(Array.getElem?_eq_some_iff.1 ho).1
   have hin:i<n:=by
    rcases Nat.lt_or_ge i n with h1|h1
    ·exact h1
    ·exact absurd (fun j hj=>waits_listed h.closed _ _ _ o ho hal ((tail_at hT ho h1).2 j (by omega))) hall
   have hlt:i<listed.size:=by rw[h.listedSize];exact hil
   have hcount:(listed.setIfInBounds i true).toList.count false≤fuel:=by
    have e:listed.toList[i]?=some false:=by
     have:listed[i]=false:=by simpa [hlt] using hu
     simp[hlt,this]
    have:=count_set listed.toList i e
    simp only[Array.toList_setIfInBounds]
    omega
   obtain ⟨hacyc,hguard,hdlt,hflow⟩:=flow_at hB ho
   obtain ⟨m,hm1,hm2⟩:=req_at (ops.toList.take n) ms hreq i o (by rw[List.getElem?_take,if_pos hin];simpa using ho)
   have hme:m=(o.looksAt ops,guardOf ops o):=by
    rw[hms,List.getElem?_take,if_pos hin] at hm1
    unfold metaOf at hm1
    rw[List.getElem?_map] at hm1
    have:ops.toList[i]?=some o:=by simpa using ho
    rw[this] at hm1
    simpa using hm1.symm
   subst hme
   have hk:Knows G a w (o.looksAt ops):=knows_of _ fun t ht=>(h.facts t fun j q _ hj hq=>by
    obtain ⟨e,he,hb,rfl⟩:=(hflow j q t hj hq).1 ht
    exact hal e he hb).now
   have hreq':=hm2 a w h.grows hk
   unfold wpOpIn
   simp only[ho]
   have go:∀v w',Grows w w'→Post G o.dst v w'→wpAnyIn (Fence.wide.inRound l0) nn P .any ops Q fuel (listed.setIfInBounds i true) (a.put o.dst v) w':=fun v w' hg hp=>
    ih _ _ _ hcount (invT_put hB hin ho hal h hg hp)
   unfold OpReq guardOf at hreq'
   cases hgd:o.guard with
   |none=>
    rw[hgd] at hreq'
    have hw:Region.wanted o (yielded ops a.tmps)=true:=by unfold Region.wanted;rw[hgd]
    rw[if_pos hw]
    exact (wpIn_of_ok (noDefer_at hnd ho) hreq' go)
   |some gb=>
    obtain ⟨g,b⟩:=gb
    obtain ⟨q,d,hq,hqd⟩:=hguard g b hgd
    rw[hgd] at hreq'
    have hbind:(ops[g]?).bind (·.dst)=some d:=by rw[hq];exact hqd
    simp only[hbind,Option.map_some] at hreq'
    rw[←eval_slot] at hreq'
    rcases hreq' with ⟨he,hok⟩|⟨he,hp⟩
    ·have hw:=wanted_of (ops:=ops) hgd hbind he
     rw[if_pos (by rw[hw];simp)]
     exact (wpIn_of_ok (noDefer_at hnd ho) hok go)
    ·have hw:=wanted_of (ops:=ops) hgd hbind he
     rw[if_neg (by rw[hw];cases b<;>simp)]
     exact ⟨fun _ _=>trivial,go _ _ (Grows.refl w) hp⟩
theorem wpIn_region_tail {l0 nn:Nat} {id:Nat} {Q:Exit→Act→World→Prop} {a0:Act} {w:World} {l tail:List Oper} (n:Nat) (G:Fact) (dsts:List Tmp) (ms:List (List Tmp×Option (Tmp×Bool))) (size:Nat) (hm:P.follows .mixedOrders=true)
 (hB:(noDefer l.toArray&&flowB l.toArray size&&tailB l.toArray n&&decide (n≤l.length)&&(ms==(metaOf l.toArray).take n)&&((l.take n).filterMap (·.dst)==dsts))=true) (hsz:a0.tmps.size=size)
 (h0:∀t W,t∉dsts→Grows w W→G t (a0.eval (.tmp t)) W) (hreq:Req P G w (l.take n) ms)
 (htail:l.drop n=tail)
 (hend:∀(x:Tmp→Value) (w':World),Grows w w'→(∀d∈dsts,Holds G d (x d) w')→seqTailI l0 nn P Q tail (putAll x dsts a0) w'):(Code.region id l.toArray true).wpIn (Fence.wide.inRound l0) nn P Q a0 w:=by
 simp only[Bool.and_eq_true,beq_iff_eq,decide_eq_true_eq] at hB
 obtain ⟨⟨⟨⟨⟨hnd,hf⟩,hT⟩,hn⟩,hme⟩,hde⟩:=hB
 subst hsz htail
 have hmem:∀t:Tmp,t∈dsts↔∃(j:Nat) (o:Oper),j<n∧l.toArray[j]?=some o∧o.dst=some t:=fun t=>by
  rw[←hde]
  simp only[List.mem_filterMap]
  constructor
  ·rintro ⟨o,ho,hd⟩
   obtain ⟨j,hj⟩:=List.mem_iff_getElem?.1 ho
   rw[List.getElem?_take] at hj
   split at hj
   ·rename_i hjn
    exact ⟨j,o,hjn,by simpa using hj,hd⟩
   ·cases hj
  ·rintro ⟨j,o,hjn,hj,hd⟩
   exact ⟨o,List.mem_iff_getElem?.2 ⟨j,by rw[List.getElem?_take,if_pos hjn];simpa using hj⟩,hd⟩
 refine wpIn_region_any hm (any_of_invTI (n:=n) (ms:=ms) (G:=G) (a0:=a0) (w0:=w) hnd hf hT (by simpa using hn) hme (by simpa using hreq) ?_ _ _ _ _ ?_ ?_)
 ·intro a w' listed hall hinv
  have e:a=putAll (fun t=>a.eval (.tmp t)) dsts a0:=by
   have hsz:=hinv.size
   have hdf:=hinv.defers
   have ht:a.tmps=(putAll (fun t=>a.eval (.tmp t)) dsts a0).tmps:=by
    apply Array.ext_getElem?
    intro t
    by_cases hlt:t<a0.tmps.size
    ·rw[putAll_get _ _ _ _ hlt]
     have hat:a.tmps[t]?=some (a.eval (.tmp t)):=by
      have:t<a.tmps.size:=by rw[hsz];exact hlt
      simp[Act.eval,this]
     by_cases hd:t∈dsts
     ·rw[if_pos hd,hat]
     ·rw[if_neg hd,hat,hinv.others t (fun j o hjn hj hq=>hd ((hmem t).2 ⟨j,o,hjn,hj,hq⟩))]
      simp[Act.eval,hlt]
    ·rw[Array.getElem?_eq_none (by rw[hsz];omega),Array.getElem?_eq_none (by rw[putAll_size];omega)]
   have hdd:a.defers=(putAll (fun t=>a.eval (.tmp t)) dsts a0).defers:=by rw[putAll_defers,hdf]
   exact act_ext ht hdd
  rw[e]
  have:=hend (fun t=>a.eval (.tmp t)) w' hinv.grows fun d hd=>hinv.facts d fun j o hjn _ _=>hall j hjn
  simpa using this
 ·simp
 ·refine ⟨⟨rfl,rfl,rfl,Nat.le_refl _,fun _ _=>rfl⟩,rfl,rfl,fun t ht=>?_,fun _ _=>rfl,by simp,fun k o hk hl=>?_,fun k _=>?_⟩
  ·have hnd:t∉dsts:=fun hd=>by
    obtain ⟨j,o,hjn,hj,hq⟩:=(hmem t).1 hd
    have:=ht j o hjn hj hq
    have hlt:=(Array.getElem?_eq_some_iff.1 hj).1
    simp at hlt
    simp[hlt] at this
   exact fun W hW=>h0 t W hnd ⟨hW.os,hW.tape,hW.output,hW.size,hW.block⟩
  ·have hlt:=(Array.getElem?_eq_some_iff.1 hk).1
   simp at hlt
   simp[hlt] at hl
  ·by_cases hlt:k<l.length
   ·simp[hlt]
   ·simp[hlt]
end
end Go.Proofs.YtcdkopbjlakebaaGreatDoor.Gw
end
