/- Texts put together, for a law: DkC. -/
import Derived.RangeFuncNested
import Derived.RangeFuncBound
import Derived.RangeFuncCalls
import Derived.RangeFuncLeaves
import Derived.Shelf.Abstract
import Derived.Shelf.RegionOpen
import Derived.OwnWalkIn
import Derived.TacticsInMore
import Derived.LoopNIn
import Derived.LoopIn
import Derived.WalkKit
import Derived.Test.YtcdkopbjlakebaaGreatDoorKP2
import Derived.Test.YtcdkopbjlakebaaGreatDoorKP8
set_option maxRecDepth 100000
set_option maxHeartbeats 8000000
namespace Go.Proofs.YtcdkopbjlakebaaGreatDoor
section
section
open Go.RowKit
section
variable {F:Fence} {n:Nat} {P:Program}
theorem Zd {ops:Array Oper} {rest:List Oper} {op:Oper} {a:Act} {w:World} {Q:Exit->Act->World->Prop} (hgd:op.guard=none) (ty:TypeId) (x:Operand) (ho:op.op=.load ty x)
 (b o:Nat) (hx:a.eval x=.pointer (some ⟨b,o,none⟩)) (cs:List Value) (d:TypeDesc) (hc:w.rangeAt b o cs)
 (hu:P.underlying ty=some d) (hd:d.isRow=true) (hi:(P.info? ty).map (·.size)=some cs.length)
 (h:wpListIn F n P ops Q rest (a.put op.dst (.agg cs.toArray)) w):wpListIn F n P ops Q (op::rest) a w:=by
 refine wpListIn_plain hgd fun K hK=>?_
 unfold Oper.wpIn;refine ⟨?_,?_⟩
 ·simp[Oper.about,ho]
 ·rw[Oper.semAt_plain F _ _ (by rw[ho];intro c hc';cases hc')];unfold execOp;simp only[ho,hx,Instr.loadAt,Instr.sureAddr,Sem.run_bind,Sem.run_pure,Result.andThen_ok,run_loadVar_mid w b o ty cs d hc hu hd hi];exact hK _ _ h
theorem vQ {ops:Array Oper} {rest:List Oper} {op:Oper} {a:Act} {w:World} {Q:Exit->Act->World->Prop} (hgd:op.guard=none) (ty:TypeId) (x y:Operand) (ho:op.op=.store ty x y)
 (b o:Nat) (cells:Array Value) (hx:a.eval x=.pointer (some ⟨b,o,none⟩)) (hy:a.eval y=.agg cells)
 (ht:w.there b o cells.size) (hi:(P.info? ty).map (·.size)=some cells.size) (h1:cells.all (·.oneCell')=true)
 (h:wpListIn F n P ops Q rest (a.put op.dst undef) (w.setCells b o cells.toList)):wpListIn F n P ops Q (op::rest) a w:=by
 refine wpListIn_plain hgd fun K hK=>?_
 unfold Oper.wpIn;refine ⟨?_,?_⟩
 ·simp[Oper.about,ho]
 ·rw[Oper.semAt_plain F _ _ (by rw[ho];intro c hc';cases hc')];unfold execOp;simp only[ho,hx,hy,Instr.storeAt,Instr.sureAddr,Sem.run_bind,Sem.run_pure,Result.andThen_ok,run_storeVar_mid w b o ty cells ht hi h1];exact hK _ _ h
end
theorem zlZ {B b:Nat} {cs:List Value}:OwnFrom B (fun (_:Unit) W=>Blk W b cs):=fun _ X Y row hs hg hrow=>by
 obtain ⟨t,h⟩:=hs;refine ⟨t,(hg.block b (Array.getElem?_eq_some_iff.1 h).1 fun e=>?_).trans h⟩;obtain ⟨-,o,ho,hc⟩:=hrow b e.symm;rw[h] at ho
 cases ho
 cases hc
end
section
open Go.RowKit Me Rw Ds
abbrev WI:={x:Nat×WD // x.2.b.length=128}
def zky (x:WI):Array Value:=#[.int .i64 (x.1.1:Int),.agg (zu x.1.2).toArray]
def x9 (l:List WD) (pre:List WI):Prop:=pre.length<=l.length/\∀j (h:j<pre.length),l[l.length-1-j]?=some (pre[j]'h).1.2
theorem x9.nil (l:List WD):x9 l []:=⟨Nat.zero_le _,fun j h=>by simp at h⟩
theorem x9.snoc {l:List WD} {pre:List WI} (h:x9 l pre) (x:WI) (hlt:pre.length<l.length) (hx:l[l.length-1-pre.length]?=some x.1.2):x9 l (pre++[x]):=
 ⟨by simp;omega,fun j hj=>by
   by_cases hl:j<pre.length
   ·rw[List.getElem_append_left hl];exact h.2 j hl
   ·have e:j=pre.length:=by simp at hj;omega
    subst e
    simpa using hx⟩
attribute [local go_sem] Oper.semAt_some
theorem zkH (n:Nat) (hn:1<=n) (l Bs n₀:Nat) (Pv:Value) (L:List WD) (hL:∀x∈L,x.b.length=128) (hl62:L.length<4611686018427387904) (J Jx:List WI->World->Prop)
 (hY:∀pre x W,J pre W->pre.length<L.length->YieldAt Fence.wide (n-1) Tryz.prog l (zky x) W fun e W'=>
   (e=.returned (.bool true)/\J (pre++[x]) W'/\Below n₀ W W')\/(e=.returned (.bool false)/\Jx (pre++[x]) W'))
 (W:World) (hB:Bs<n₀) (hBs:W.cell? ⟨Bs,0,none⟩=some Pv) (hP:(Pv=.slice none 0 0/\L=[])\/∃p c,Pv=.slice (some ⟨p,0,none⟩) L.length c/\p<n₀/\∀(k:Nat) (x:WD),L[k]?=some x->W.rangeAt p (k*129) (zu x)) (h0:J [] W) :
 CallsIn Fence.wide n Tryz.prog 219 #[.func (.yield l) #[] #[],.pointer (some ⟨Bs,0,none⟩)] W fun e W'=>(∃v,e=.returned v) /\
  ((∃ys,(x9 L ys/\ys.length=L.length)/\J ys W')\/(∃pre,x9 L pre/\Jx pre W')):=by
 obtain ⟨A,c,hPv⟩:∃A c,Pv=.slice A L.length c:=by
  rcases hP with ⟨e,e2⟩|⟨p,c,e,-⟩
  ·subst e2;exact ⟨_,_,e⟩
  ·exact ⟨_,_,e⟩
 subst hPv;obtain ⟨m,hm⟩:∃m,m=L.length:=⟨_,rfl⟩
 have HM:=gI hm;have HP:=gI hP;have HL:=gI hL;rw[<-hm] at hBs hl62;have ew:wrap64 ((m:Int)-1)=(m:Int)-1:=by unfold wrap64;omega
 have hJ0:=gI h0;have HB0:=gI (Below.refl n₀ W);clear hP hL h0 hm;refine callsIn_of_wp Tryz.func219 rfl trivial ?_ rfl;simp only[Tryz.ntmps219,List.size_toArray,List.length_cons,List.length_nil,Nat.reduceAdd,Nat.reduceSub,Array.replicate_succ,Array.replicate_zero,List.push_toArray,List.append_toArray,List.nil_append,List.cons_append]
 gi_wp2
 gi_loopw [3] (fun i wr=>∃(pre:List WI) (z:Int),i=.int .i64 z/\Hid (z=(m:Int)-1-(pre.length:Int))/\Hid (x9 L pre)/\Hid (J pre wr)/\Hid (Below n₀ W wr))
  (fun i _=>(intOf i+1).toNat)
 case atStart=>exact ⟨[],_,rfl,gI (by simp),gI (x9.nil L),hJ0,HB0⟩
 case round=>
  obtain ⟨pre,z,rfl,HZ,HLo,HJ,HB⟩:=hrel;have hbx:=(HB.out.cell (p:=⟨Bs,0,none⟩) hB).trans hBs
  by_cases hlt:0<=z
  ·obtain ⟨k,rfl⟩:∃k:Nat,z=(k:Int):=⟨z.toNat,by omega⟩
   have ek:wrap64 ((k:Int)-1)=(k:Int)-1:=by have:=HZ.out;unfold wrap64;omega
   have hkm:k+1+pre.length=m:=by have:=HZ.out;omega
   have hkL:k<L.length:=by rw[<-HM.out];omega
   obtain ⟨x,hx⟩:∃x,L[k]?=some x:=⟨_,List.getElem?_eq_getElem hkL⟩
   have hx128:=HL.out x (List.mem_of_getElem? hx);rcases HP.out with ⟨-,e2⟩|⟨p,c',hpv,hpn,hpr⟩
   ·exfalso;rw[e2] at hkL;simp at hkL
   ·injection hpv with hA _ hc;subst hA hc;have hR:=gI (show wr.rangeAt p (k*129) (zu x) from fun j v hv=>(HB.out.cell (p:=⟨p,k*129+j,none⟩) hpn).trans (hpr k x hx j v hv));obtain ⟨fn,tmps,assign,body,hy,hRo⟩:=hY pre ⟨(k,x),hx128⟩ wr HJ.out (by rw[<-HM.out];omega)
    dsimp only[zky] at hy
    have HRo:=gI hRo;have HSz:=gI (show (Tryz.prog.info? 238).map (·.size)=some (zu x).length by rw[zH hx128];exact zdC);have HSn:=gI (HLo.out.snoc ⟨(k,x),hx128⟩ (by rw[<-HM.out];omega) (by rw[<-HM.out,show m-1-pre.length=k by omega];exact hx));have hq:(k:Int)<(m:Int):=by omega
    clear hRo hx hpr hkL
    gi_wp2_with (refine Zd rfl 238 _ rfl p (k*129) rfl (zu x) _ hR.out Tryz.underlying238 rfl HSz.out ?_)
    refine HRo.out.mono ?_;rintro e W3 (⟨rfl,hJ3,hk3⟩|⟨rfl,hJx3⟩)
    ·have HJ3:=gI hJ3;have HK3:=gI (HB.out.trans hk3);clear hJ3 hk3
     gi_wp2
     go_roundw
     case rel=>exact ⟨_,_,rfl,gI (by simp;omega),HSn,HJ3,HK3⟩
     case measure=>simp[intOf]
    ·gi_wp2
     refine bodyPost_ret (results_none rfl _ _ _) rfl ?_;exact ⟨⟨_,rfl⟩,.inr ⟨_,HSn.out,hJx3⟩⟩
  ·gi_wp2
   go_end0
   have hle:=HLo.out.1;have hz:=HZ.out;rw[HM.out] at hz;exact ⟨⟨_,rfl⟩,.inl ⟨pre,⟨HLo.out,by omega⟩,HJ.out⟩⟩
theorem zdo (A:Option Addr) (n c:Nat) (w:World) :
 Calls Tryz.prog 194 #[.slice A n c] w fun e w'=>e=.returned (.func (.func 219) #[] #[.pointer (some ⟨w.heap.size,0,none⟩)])/\w'=w.alloc (.cells #[.slice A n c] 103):=by
 go_enter Tryz.func194,Tryz.ntmps194
 go_wp2
 go_ret
 exact ⟨rfl,rfl⟩
theorem zgL (n:Nat) (hn:1<=n) (Bs n₀:Nat) (Pv:Value) (L:List WD) (hL:∀x∈L,x.b.length=128) (hl62:L.length<4611686018427387904) (w:World) (hB:Bs<n₀) (hn₀:n₀<=w.heap.size) (hc:w.cell? ⟨Bs,0,none⟩=some Pv)
 (hP:(Pv=.slice none 0 0/\L=[])\/∃p c,Pv=.slice (some ⟨p,0,none⟩) L.length c/\p<n₀/\∀(k:Nat) (x:WD),L[k]?=some x->w.rangeAt p (k*129) (zu x)) :
 SeqStopsK Fence.wide n Tryz.prog 219 #[.pointer (some ⟨Bs,0,none⟩)] zky (Below n₀) (fun ys=>x9 L ys/\ys.length=L.length) (x9 L) L.length w:=fun l J Jx W hW _ _ hY h0=>by
 refine zkH n hn l Bs n₀ Pv L hL hl62 J Jx hY W hB ((hW.cell (p:=⟨Bs,0,none⟩) (Nat.lt_of_lt_of_le hB hn₀)).trans hc) ?_ h0;rcases hP with h|⟨p,c,e,hp,hr⟩
 ·exact .inl h
 ·exact .inr ⟨p,c,e,hp,fun k x hx j v hv=>(hW.cell (p:=⟨p,k*129+j,none⟩) (Nat.lt_of_lt_of_le hp hn₀)).trans (hr k x hx j v hv)⟩
end
section
open Go.RowKit Me Rw Ds
theorem XZ:∀{l:List WD} {i:Nat} {b:List UInt8},(∀x∈l,x.i≠i)->qM l i b=b
 |[],_,_,_=>rfl
 |x::l,i,b,h=>by
  simp only[qM];rw[if_neg (h x (by simp))];exact XZ fun y hy=>h y (by simp[hy])
theorem zkd {l:List WD} {k i:Nat} {x:WD} {b:List UInt8} (hk:l[k]?=some x) (hx:x.i=i) (hn:∀y∈l.drop (k+1),y.i≠i):qM l i b=x.b:=by
 obtain ⟨hlt,e⟩:=List.getElem?_eq_some_iff.1 hk;have h1:l=l.take k++x::l.drop (k+1):=by
  rw[<-e,<-List.drop_eq_getElem_cons hlt,List.take_append_drop]
 rw[h1,Yg];simp only[qM];rw[if_pos hx];exact XZ hn
theorem x9.drop {l:List WD} {pre:List WI} (h:x9 l pre) {i:Nat} (hn:∀x∈pre,x.1.2.i≠i):∀y∈l.drop (l.length-pre.length),y.i≠i:=by
 intro y hy;obtain ⟨j,hj⟩:=List.mem_iff_getElem?.1 hy;rw[List.getElem?_drop] at hj;have hlt:=(List.getElem?_eq_some_iff.1 hj).1;have hle:=h.1;have hq:l.length-1-(l.length-pre.length+j)<pre.length:=by omega
 have:=h.2 _ hq;rw[show l.length-1-(l.length-1-(l.length-pre.length+j))=l.length-pre.length+j by omega,hj] at this;injection this with this;rw[this];exact hn _ (List.getElem_mem _)
theorem x9.done {l:List WD} {ys:List WI} (h:x9 l ys) (hl:ys.length=l.length) {i:Nat} {b:List UInt8} (hn:∀x∈ys,x.1.2.i≠i):qM l i b=b:=by
 have:=h.drop hn;rw[hl,Nat.sub_self,List.drop_zero] at this;exact XZ this
theorem x9.found {l:List WD} {p:List WI} {x:WI} (h:x9 l (p++[x])) {i:Nat} {b:List UInt8} (hn:∀y∈p,y.1.2.i≠i) (hx:x.1.2.i=i):qM l i b=x.1.2.b:=by
 have hle:=h.1;simp at hle;have hp:x9 l p:=⟨by omega,fun j hj=>by
  have:=h.2 j (by simp;omega)
  rwa[List.getElem_append_left hj] at this⟩
 have h1:=h.2 p.length (by simp);simp at h1;refine zkd (k:=l.length-1-p.length) h1 hx ?_;have:=hp.drop hn
 rwa[show l.length-p.length=l.length-1-p.length+1 by omega] at this
attribute [local go_sem] Oper.semAt_some
def xP:Array Value:=Array.replicate 128 (.int .u8 0)
def latG (D g k n:Nat) (H:Nat) (b:List UInt8):Gw.Fact:=fun t v _=>
 match t with
 |0|20|21|22=>v=.pointer (some ⟨D,0,none⟩)
 |3=>v=.pointer (some ⟨H,0,none⟩)
 |4=>v=.pointer (some ⟨H+1,0,none⟩)
 |23=>v=.slice (some ⟨g,0,none⟩) n n
 |24=>v=.int .i64 (k:Int)
 |25=>v=.pointer (some ⟨g,k*128,none⟩)
 |26=>v=.agg (cellsOf b).toArray
 |_=>True
def LatX (w0:World) (H i:Nat) (c:Code) (pre:List WI) (W:World):Prop:=
 c=.ret/\∃p x,pre=p++[x]/\(∀y∈p,y.1.2.i≠i)/\x.1.2.i=i/\Blk W (H+1) (cellsOf x.1.2.b)/\Below H w0 W
theorem qY {T:Nat->Prop} {B:Nat} {W W':World} (h:Out T W W') (hT:∀k,T k->∃o:Obj,W.heap[k]?=some o/\o.isCells=true):KeepsFrom B W W':=
 ⟨h.size,fun k o _ hk ho=>(h.block k (Array.getElem?_eq_some_iff.1 hk).1 fun ht=>by
   obtain ⟨o',h1,h2⟩:=hT k ht;rw[hk] at h1;injection h1 with h1;rw[h1,h2] at ho
   cases ho).trans hk⟩
theorem zgk {w:World} {B D:Nat} {S:Dsk} {own:Nat->Prop} (h:zQ w B D S own) (i:Nat) (hi:i<S.stored.length) (hp:S.pend.length<4611686018427387904) :
 Calls Tryz.prog 152 #[.pointer (some ⟨D,0,none⟩),.int .i64 (i:Int)] w fun e w'=>e=.returned (.agg (cellsOf (ZI S i)).toArray)/\Below w.heap.size w w':=by
 refine (callsIn_wide (n:=3)).1 ?_;obtain ⟨g,Pv,h⟩:=h;obtain ⟨A,c,rfl,hc⟩:=zC h.pend;obtain ⟨c0,c1,c2,c3⟩:=h.blk.four;have hz:∀w,(zeroValue 224).run Tryz.prog w=.ok (.agg xP) w:=(zero_of_info Qd).1;have hDlt:=h.blk.lt;obtain ⟨W0,hW0⟩:∃W0,(((w.alloc (.cells #[.int .i64 (i:Int)] 3)).alloc (.cells xP 224)).alloc (.cells #[.slice A S.pend.length c] 103))=W0:=⟨_,rfl⟩
 have hsz:W0.heap.size=w.heap.size+3:=by rw[<-hW0];simp
 have hb0:Below w.heap.size w W0:=by
  rw[<-hW0];exact (((Below.refl _ w).alloc (Nat.le_refl _) _).alloc (by simp) _).alloc (by simp;omega) _
 have hBi:Blk W0 w.heap.size [.int .i64 (i:Int)]:=by
  rw[<-hW0];exact (((Blk.new w [.int .i64 (i:Int)] 3).alloc _).alloc _)
 have hBr:Blk W0 (w.heap.size+1) xP.toList:=by
  rw[<-hW0];exact (Blk.new' (w.alloc (.cells #[.int .i64 (i:Int)] 3)) xP.toList 224 (H:=w.heap.size+1) (by simp)).alloc _
 have hBs:Blk W0 (w.heap.size+2) [.slice A S.pend.length c]:=by
  rw[<-hW0];exact Blk.new' _ [.slice A S.pend.length c] 103 (H:=w.heap.size+2) (by simp)
 have HL:=gI h;have HF:=gI (And.intro hBi (And.intro hBr (And.intro hBs hb0)));have HI:=gI hi;have HLA:=gI (show qM S.pend i (S.stored.getD i [])=ZI S i from rfl);obtain ⟨R,hR⟩:∃R,R=ZI S i:=⟨_,rfl⟩
 rw[<-hR] at HLA ⊢;clear h hBi hBr hBs hb0 hi hc hR;refine callsIn_of_wp_marks Tryz.func152 rfl trivial ?_ rfl;simp only[Tryz.ntmps152,List.size_toArray,List.length_cons,List.length_nil,Nat.reduceAdd,Nat.reduceSub,Array.replicate_succ,Array.replicate_zero,List.push_toArray,List.append_toArray,List.nil_append,List.cons_append]
 gi_wp2_with ((refine ⟨trivial,?_⟩);(refine (callsIn_wide.2 (zdo _ _ _ _)).mono ?_);rintro e w' ⟨rfl,rfl⟩)
 clear hW0 c0 c1 c2 c3;have hH2:w.heap.size+1+1=w.heap.size+2:=by omega
 rw[hH2];obtain ⟨H,hH⟩:∃H,H=w.heap.size:=⟨_,rfl⟩
 rw[<-hH] at hDlt hsz HF ⊢;have hbs:=HF.out.2.2.1.cell (i:=0) rfl;have hP:((Value.slice A S.pend.length c=.slice none 0 0/\S.pend=[])\/∃p c',Value.slice A S.pend.length c=.slice (some ⟨p,0,none⟩) S.pend.length c'/\p<H+3/\∀(k:Nat) (x:WD),S.pend[k]?=some x->W0.rangeAt p (k*129) (zu x)):=by
  rcases Nat.eq_zero_or_pos S.pend.length with h0|h0
  ·have hnil:=List.eq_nil_of_length_eq_zero h0;rcases HL.out.pend.2 with ⟨e,-⟩|⟨q,cap,cur,e,-,hq,-,-⟩
   ·exact .inl ⟨e,hnil⟩
   ·injection e with e1 e2 e3;subst e1 e3;have hlt:=(Array.getElem?_eq_some_iff.1 hq).1;exact .inr ⟨q,c,rfl,by omega,fun k x hx=>by rw[hnil] at hx;simp at hx⟩
  ·obtain ⟨p,c',e,-,hlt⟩:=HL.out.pend.form h0;refine .inr ⟨p,c',e,by omega,fun k x hx j v hv=>?_⟩;obtain ⟨p',c2,e2,-,-,-,-,hr⟩:=HL.out.pendAt hx;rw[e] at e2;injection e2 with e2;injection e2 with e2;injection e2 with e2;subst e2;exact (HF.out.2.2.2.cell (p:=⟨p,k*129+j,none⟩) (by rw[hH];exact hlt)).trans (hr j v hv)
 have hall:∀x∈S.pend,x.b.length=128:=fun x hx=>(HL.out.good.2.1 x hx).1
 have HH:=gI hH;clear hH hH2;refine wpIn_rangeFunc_ownH rfl (by omega) (gf:=219) (lb:=#[.pointer (some ⟨H+2,0,none⟩)]) rfl trivial (enters_of Tryz.func219 (by kernel_rfl) rfl)
  (w0:=W0) (zgL 2 (by omega) (H+2) (H+3) (.slice A S.pend.length c) S.pend hall hp W0 (by omega) (by omega) hbs hP) (fun h k=>belowK_t h k) (belowK_b (by omega)) (Below.refl _ _) (fun _=>rfl)
  (fun pre W=>(∀y∈pre,y.1.2.i≠i)/\Below (H+3) W0 W)
  (fun c pre W=>∃Wx,LatX W0 H i c pre Wx/\Below (H+3) Wx W)
  (OwnFrom.and (ownFrom_pure _ _) (ownFrom_below (by omega) (by omega)))
  (fun c s X Y row hs hg hr=>by
    obtain ⟨Wx,h1,h2⟩:=hs;have hl:H+3<=X.heap.size:=by
     obtain ⟨-,p,x,-,-,-,-,hb⟩:=h1;have:=hb.size;have:=h2.size;omega
    exact ⟨Wx,h1,h2.grown hg hl fun k e=>by have:=(hr k e).1;omega⟩)
  ⟨fun y hy=>(by cases hy),Below.refl _ _⟩
  (fun x a' W=>∃Bx,H+3<=Bx/\Blk W Bx (zu x.1.2)/\a'={tmps:=#[.pointer (some ⟨D,0,none⟩),.int .i64 (i:Int),undef,.pointer (some ⟨H,0,none⟩),.pointer (some ⟨H+1,0,none⟩),undef,.pointer (some ⟨Bx,0,none⟩),.pointer (some ⟨D,0,none⟩),.pointer (some ⟨D,0,none⟩),.pointer (some ⟨D,1,none⟩),.slice A S.pend.length c,.func (.func 219) #[] #[.pointer (some ⟨H+2,0,none⟩)],.int .i64 (x.1.1:Int),.agg (zu x.1.2).toArray,undef,undef,undef,undef,undef,undef,undef,undef,undef,undef,undef,undef,undef],defers:=[]})
  (fun x a' _ X Y row hs hg hr=>by obtain ⟨Bx,h1,h2,h3⟩:=hs;exact ⟨Bx,h1,zlZ () X Y row h2 hg hr,h3⟩)
  ?assign ?body ?done ?stop
 case assign=>
  rintro l pre x W K ⟨hn,hb⟩ hK;have hzw:∀w,(zeroValue 238).run Tryz.prog w=.ok (.agg qA) w:=(zero_of_info qZ).1;have HB0:=gI (Blk.new W qA.toList 238);have HSz:=gI (show (Tryz.prog.info? 238).map (·.size)=some (zu x.1.2).length by rw[zH x.2];exact zdC);have HTh:=gI ((Blk.new W qA.toList 238).there (o:=0) (n:=(zu x.1.2).toArray.size) (by simp[zH x.2,qA]));have HAl:=gI (show (zu x.1.2).toArray.all (·.oneCell')=true from all_oneCell_toArray (YM x.1.2));have HBW:=gI hb;clear hb
  dsimp only[zky]
  gi_wp2_with (refine vQ rfl 238 _ _ rfl W.heap.size 0 (zu x.1.2).toArray rfl rfl HTh.out (by rw[HSz.out];simp) HAl.out ?_)
  have hlW:H+3<=W.heap.size:=by have:=HBW.out.size;omega
  have hB4:Blk ((W.alloc (.cells qA 238)).setCells W.heap.size 0 (zu x.1.2)) W.heap.size (zu x.1.2):=by
   have:=HB0.out.sets (o:=0) (vs:=zu x.1.2) (by simp[qA,zH x.2])
   rwa[xN _ _ (by simp[qA,zH x.2])] at this
  have hO4:Out (fun _=>False) W ((W.alloc (.cells qA 238)).setCells W.heap.size 0 (zu x.1.2)):=
   Out.setCells _ _ _ ((Out.refl _ _).alloc _) (.inr (Nat.le_refl _))
  have hbb:∀n,n<=W.heap.size->Below n W ((W.alloc (.cells qA 238)).setCells W.heap.size 0 (zu x.1.2)):=fun n hn=>hO4.below (fun _ _ h=>h.elim) hn
  exact hK _ _ (qY hO4 (fun _ h=>h.elim)) (hbb _ hlW) ⟨hn,HBW.out.trans (hbb _ hlW)⟩ ⟨W.heap.size,hlW,hB4,rfl⟩
 case body=>
  rintro l pre x a' W hl ⟨r,hr⟩ ⟨hn,hb⟩ ⟨Bx,hBx,hBlk,rfl⟩ hlt;have x0:W.cell? ⟨Bx,0,none⟩=some (.int .i64 (x.1.2.i:Int)):=hBlk.cell rfl;have x1:W.cell? ⟨H,0,none⟩=some (.int .i64 (i:Int)):=(hb.cell (p:=⟨H,0,none⟩) (by show H<H+3;omega)).trans (HF.out.1.cell rfl);have hBr:Blk W (H+1) xP.toList:=HF.out.2.1.keep (hb.block (H+1) (by omega));have hW3:H+3<=W.heap.size:=by have:=hb.size;omega
  by_cases hx:x.1.2.i=i
  ·have d1:((x.1.2.i:Int)==(i:Int))=true:=by rw[beq_iff_eq];omega
   have HRa:=gI (show W.rangeAt Bx 1 (cellsOf x.1.2.b) by
    have:=hBlk.range 1 128
    rwa[show ((zu x.1.2).drop 1).take 128=cellsOf x.1.2.b by
     show (cellsOf x.1.2.b).take 128=_
     rw[List.take_of_length_le (by rw[za,x.2];omega)]] at this)
   have HTh:=gI (hBr.there (o:=0) (n:=(cellsOf x.1.2.b).toArray.size) (by simp[za,x.2,xP]));have HSz:=gI (show (Tryz.prog.info? 224).map (·.size)=some (cellsOf x.1.2.b).length by rw[za,x.2];exact qx);have HAl:=gI (show (cellsOf x.1.2.b).toArray.all (·.oneCell')=true from all_oneCell_toArray (xL x.1.2.b));have hsets:=hBr.sets (o:=0) (vs:=cellsOf x.1.2.b) (by simp[za,x.2,xP]);rw[xN _ _ (by simp[za,x.2,xP])] at hsets;have HBs:=gI hsets;have hO:Out (fun k=>k=H+1) W (W.setCells (H+1) 0 (cellsOf x.1.2.b)):=Out.setCells _ _ _ (Out.refl _ _) (.inl rfl);have HOs:=gI hO;have HN:=gI hn;have HBb:=gI hb;have HBr:=gI hBr;clear hsets hO hn hb hBr hBlk
   gi_wp2_with (first
    |(refine Zd rfl 224 _ rfl Bx 1 rfl (cellsOf x.1.2.b) _ HRa.out Tryz.underlying224 rfl HSz.out ?_)
    |(refine vQ rfl 224 _ _ rfl (H+1) 0 (cellsOf x.1.2.b).toArray rfl rfl HTh.out (by rw[HSz.out];simp) HAl.out ?_))
   refine ⟨qY HOs.out (fun k hk=>by
    subst hk;obtain ⟨t,h⟩:=HBr.out;exact ⟨_,h,rfl⟩),_,⟨rfl,pre,x,rfl,HN.out,hx,HBs.out,(HBb.out.mono (by omega)).trans (HOs.out.below (fun k _ hk=>by omega) (by omega))⟩,Below.refl _ _⟩
  ·have d1:((x.1.2.i:Int)==(i:Int))=false:=by rw[beq_eq_false_iff_ne];omega
   have HN:=gI hn;have HBb:=gI hb;clear hn hb hBr hBlk
   gi_wp2
   refine ⟨KeepsFrom.refl _ _,Below.refl _ _,fun y hy=>?_,HBb.out⟩;rcases List.mem_append.1 hy with hy|hy
   ·exact HN.out y hy
   ·simp at hy;subst hy;exact hx
 case done=>
  rintro Dk ys W hDk ⟨hlo,hll⟩ ⟨hn,hb⟩ hK;have hR:S.stored.getD i []=R:=by rw[<-HLA.out,hlo.done hll hn]
  have hW3:H+3<=W.heap.size:=by have:=hb.size;omega
  have hBr:Blk W (H+1) xP.toList:=HF.out.2.1.keep (hb.block (H+1) (by omega));have x1:W.drew.cell? ⟨H,0,none⟩=some (.int .i64 (i:Int)):=(hb.cell (p:=⟨H,0,none⟩) (by show H<H+3;omega)).trans (HF.out.1.cell rfl);have hHH:=HH.out;have x2:W.drew.cell? ⟨D,0,none⟩=some (.slice (some ⟨g,0,none⟩) S.stored.length S.stored.length):=
   (hb.cell (p:=⟨D,0,none⟩) (by show D<H+3;omega)).trans ((HF.out.2.2.2.cell (p:=⟨D,0,none⟩) hDlt).trans (HL.out.blk.cell (i:=0) rfl))
  have hgl:=HL.out.rows.lt;have hrg:Blk W g (Rw.rows cellsOf S.stored):=(HL.out.rows.keep (HF.out.2.2.2.block g (by rw[hHH];exact hgl))).keep (hb.block g (by rw[<-hHH] at hgl;omega));have hallS:∀y∈S.stored,(cellsOf y).length=128:=fun y hy=>by rw[za];exact HL.out.good.1 y hy
  have hsi:S.stored[i]?=some R:=by rw[<-hR,List.getD_eq_getElem?_getD,List.getElem?_eq_getElem HI.out];rfl
  have hR128:R.length=128:=HL.out.good.1 R (List.mem_of_getElem? hsi);have hra:W.drew.rangeAt g (i*128) (cellsOf R):=by
   have:=hrg.range (i*128) 128
   rwa[Q7 hallS hsi] at this
  have hload:(loadVar 224 ⟨g,i*128,none⟩).run Tryz.prog W.drew=.ok (.agg (cellsOf R).toArray) W.drew:=
   run_loadVar_mid W.drew g (i*128) 224 (cellsOf R) _ hra Tryz.underlying224 rfl (by rw[za,hR128];exact qx)
  have hth:W.drew.there (H+1) 0 (cellsOf R).toArray.size:=hBr.there (by simp[za,hR128,xP]);have hstore:(storeVar 224 ⟨H+1,0,none⟩ (.agg (cellsOf R).toArray)).run Tryz.prog W.drew=.ok () (W.drew.setCells (H+1) 0 (cellsOf R)):=by
   have:=run_storeVar_mid (P:=Tryz.prog) W.drew (H+1) 0 224 (cellsOf R).toArray hth (by simp only[List.size_toArray,za,hR128];exact qx) (all_oneCell_toArray (xL R))
   simpa using this
  have hsets:Blk (W.drew.setCells (H+1) 0 (cellsOf R)) (H+1) (cellsOf R):=by
   have:=hBr.drew.sets (o:=0) (vs:=cellsOf R) (by simp[za,hR128,xP])
   rwa[xN _ _ (by simp[za,hR128,xP])] at this
  have hout:Out (fun k=>k=H+1) W (W.drew.setCells (H+1) 0 (cellsOf R)):=Out.setCells _ _ _ (xu _ _) (.inl rfl);have hi2:(i:Int)<(S.stored.length:Int):=by have:=HI.out;omega
  obtain ⟨n,hn2⟩:∃n,n=S.stored.length:=⟨_,rfl⟩
  rw[<-hn2] at x2 hi2;have HLd:=gI hload;have HSt:=gI hstore;have HSe:=gI hsets;have HOu:=gI hout;have HBb:=gI hb;have HK:=gI hK;have HDk:=gI hDk;have HRl:=gI hR128;clear hload hstore hsets hout hb hK hn hR hBr hrg hallS hsi hra hth hn2 hgl hlo hll hHH hR128
  gi_wp2_with fail
  refine wpIn_wide.2 ?_;refine Gw.zN (fun _ _=>True) (fun _=>trivial) (fun _ _ _ _ _=>trivial) (Gw.Ph [W.drew,W.drew.setCells (H+1) 0 (cellsOf R)]) (latG D g i n H R) [7] [20,21,22,23,24,25,26] [([0],none,[0],false),([20],none,[0],false),([21],none,[0],false),([22],none,[0],false),([3],none,[0],false),([23,24],none,[0],false),([25],none,[0],false),([4,26],none,[0],true)] 27 1 (by kernel_rfl) (by kernel_rfl) rfl trivial rfl ?h0 ?hreq ?hend
  case h0=>
   intro t W hnd _;unfold latG
   split<;>first|rfl|trivial|exact absurd (by simp) hnd
  case hreq=>
   refine ⟨⟨?_,trivial⟩,⟨?_,trivial⟩,⟨?_,trivial⟩,⟨?_,trivial⟩,⟨?_,trivial⟩,⟨?_,trivial⟩,⟨?_,trivial⟩,⟨?_,trivial⟩,trivial⟩
   all_goals
    intro ac W' _ hI hk
    obtain rfl:=Option.some.inj hI
    clear hI;simp only[Gw.Knows,latG] at hk
    try (simp[go_sem,Gw.yo,Gw.OkP,Gw.xH,Gw.zW,Gw.Ph,latG,hk,x1,x2,hi2];done)
   ·exact Gw.zhK rfl ((Gw.zD ac 25).trans hk.1) HLd.out ⟨trivial,rfl,fun _ _=>rfl⟩
   ·exact Gw.zbm rfl ((Gw.zD ac 4).trans hk.1) ((Gw.zD ac 26).trans hk.2.1) HSt.out ⟨trivial,rfl,trivial⟩
  case hend=>
   intro x' w' _ hI hx
   obtain rfl:=Option.some.inj hI
   clear hx hI;simp only[Gw.zm,Act.put,List.setIfInBounds_toArray,List.set_cons_zero,List.set_cons_succ]
   gi_wp2
   have hK2:(W.drew.setCells (H+1) 0 (cellsOf R)).heap[Dk]?=some (.deferred (some [])):=(HOu.out.block Dk (Array.getElem?_eq_some_iff.1 HK.out).1 (fun e=>by have:=HDk.out;omega)).trans HK.out;refine ⟨by simp,.inl ⟨_,_,rfl,run_takeDeferred hK2,?_⟩⟩;have hlt:H+3<=(W.drew.setCells (H+1) 0 (cellsOf R)).heap.size:=Nat.le_trans hW3 HOu.out.size;have hbk:Below (H+3) (W.drew.setCells (H+1) 0 (cellsOf R)) ((W.drew.setCells (H+1) 0 (cellsOf R)).putObj Dk (.deferred none)):=(Below.refl _ _).grown (grownBy_putObj' _ _ _) hlt (fun k e=>by cases e;have:=HDk.out;omega);have hB:=HSe.out.keep (hbk.block _ (by omega));refine ⟨.agg (cellsOf R).toArray,?_,rfl,?_⟩
   ·exact qL (p:=4) (ty:=224) rfl _ _ (H+1) 0 (cellsOf R) _ rfl (by have:=hB.range 0 128;rwa[List.drop_zero,List.take_of_length_le (by rw[za,HRl.out];omega)] at this) Tryz.underlying224 rfl (by rw[za,HRl.out];exact qx)
   ·rw[<-HH.out];exact (HF.out.2.2.2.trans (HBb.out.mono (by omega))).trans ((HOu.out.below (fun k _ hk=>by omega) (by omega)).trans (hbk.mono (by omega)))
 case stop=>
  rintro Dk cd pre W hDk hlo ⟨Wx,⟨rfl,p,x,rfl,hn,hx,hBx,hbx⟩,hb⟩ hK;have hR:R=x.1.2.b:=by rw[<-HLA.out,hlo.found hn hx]
  gi_wp2
  refine ⟨by simp,.inl ⟨_,_,rfl,run_takeDeferred hK,?_⟩⟩;have hlt:H+3<=Wx.heap.size:=by have:=hbx.size;omega
  have hbk:Below (H+3) W (W.putObj Dk (.deferred none)):=(Below.refl _ _).grown (grownBy_putObj' _ _ _) (by have:=hb.size;omega) (fun k e=>by cases e;omega);have hB:Blk (W.putObj Dk (.deferred none)) (H+1) (cellsOf R):=by
   rw[hR];exact (hBx.keep (hb.block _ (by omega))).keep (hbk.block _ (by omega))
  have hRl:R.length=128:=by rw[hR];exact x.2
  refine ⟨.agg (cellsOf R).toArray,?_,rfl,?_⟩
  ·exact qL (p:=4) (ty:=224) rfl _ _ (H+1) 0 (cellsOf R) _ rfl (by have:=hB.range 0 128;rwa[List.drop_zero,List.take_of_length_le (by rw[za];omega)] at this) Tryz.underlying224 rfl (by rw[za,hRl];exact qx)
  ·rw[<-HH.out];exact (HF.out.2.2.2.trans hbx).trans ((hb.mono (by omega)).trans (hbk.mono (by omega)))
end
section
open Go.RowKit Me Rw Ds
def qf (S:Dsk) (i:Int):Int:=if S.on then (if hasB S.stored.length i then 0 else 9) else 6
def qV (S:Dsk) (i:Int):List UInt8:=if qf S i=0 then ZI S i.toNat else []
def zkQ (w:World) (l:List UInt8) (x:Int) (e:Ending) (w':World):Prop:=
 Below w.heap.size w w'/\∃A n,e=.returned (.tuple #[.slice A n n,.int .i64 x])/\l.length=n/\(0<n->∃b,A=some ⟨b,0,none⟩/\w.heap.size<=b/\Blk w' b (cellsOf l))
theorem Zb {S:Dsk} (h:Fine S) {i:Nat} (hi:i<S.stored.length):(ZI S i).length=128:=
 Vy (fun x hx=>(h.2.1 x hx).1) (by
  rw[List.getD_eq_getElem?_getD,List.getElem?_eq_getElem hi];exact h.1 _ (List.getElem_mem _))
section
variable {w:World} {B D:Nat} {S:Dsk} {own:Nat->Prop}
theorem zeR (h:zQ w B D S own) (i:Int) (hp:S.pend.length<4611686018427387904) :
 Calls Tryz.prog 120 #[.pointer (some ⟨D,0,none⟩),.int .i64 i] w (zkQ w (qV S i) (qf S i)):=by
 have HON:=gI (zfc h);have HHAS:=gI (zbx h i)
 cases ho:S.on with
 |false=>
  have e1:qf S i=6:=by unfold qf;rw[ho];rfl
  have e2:qV S i=[]:=by unfold qV;rw[e1];rfl
  rw[e1,e2];rw[ho] at HON;clear h ho e1 e2
  go_enter Tryz.func120,Tryz.ntmps120
  go_wp2_with (go_at_call 100;refine HON.out.mono ?_;rintro e w' ⟨rfl,rfl⟩)
  exact bodyPost_ret (v:=.tuple #[.slice none 0 0,.int .i64 6]) (by simp[results,Tryz.results120,go_sem]) rfl ⟨Below.refl _ _,_,_,rfl,rfl,fun h=>by omega⟩
 |true=>
 rw[ho] at HON
 cases hi:hasB S.stored.length i with
 |false=>
  have e1:qf S i=9:=by unfold qf;rw[ho,hi];rfl
  have e2:qV S i=[]:=by unfold qV;rw[e1];rfl
  rw[e1,e2];rw[hi] at HHAS;clear h ho hi e1 e2
  go_enter Tryz.func120,Tryz.ntmps120
  go_wp2_with (first
   |(go_at_call 100;refine HON.out.mono ?_;rintro e w' ⟨rfl,rfl⟩)
   |(go_at_call 151;refine HHAS.out.mono ?_;rintro e w' ⟨rfl,rfl⟩))
  exact bodyPost_ret (v:=.tuple #[.slice none 0 0,.int .i64 9]) (by simp[results,Tryz.results120,go_sem]) rfl ⟨Below.refl _ _,_,_,rfl,rfl,fun h=>by omega⟩
 |true=>
  rw[hi] at HHAS;have e1:qf S i=0:=by unfold qf;rw[ho,hi];rfl
  obtain ⟨k,rfl,hk⟩:=Zo hi;have e2:qV S k=ZI S k:=by unfold qV;rw[if_pos e1];rfl
  rw[e1,e2];have hl:=Zb h.good hk;have H1:=zgk h k hk hp
  generalize ZI S k=l at *
  have HLT:=gI H1;have HL:=gI hl;have hz:∀w,(zeroValue 224).run Tryz.prog w=.ok (.agg xP) w:=(zero_of_info Qd).1;have HSz:=gI (show (Tryz.prog.info? 224).map (·.size)=some (cellsOf l).toArray.size by simp only[List.size_toArray,za,hl];exact qx);have HAl:=gI (show (cellsOf l).toArray.all (·.oneCell')=true from all_oneCell_toArray (xL l));clear h ho hi e1 e2 hl H1
  go_enter Tryz.func120,Tryz.ntmps120
  go_wp2_with (first
   |(go_at_call 100;refine HON.out.mono ?_;rintro e w' ⟨rfl,rfl⟩)
   |(go_at_call 151;refine HHAS.out.mono ?_;rintro e w' ⟨rfl,rfl⟩)
   |(go_at_call 152
     refine HLT.out.mono ?_;rintro e w1 ⟨rfl,hb⟩;have HB:=gI hb;have HBl:=gI (Blk.new w1 xP.toList 224);clear hb)
   |(refine wpList_store_mid rfl 224 _ _ rfl w1.heap.size 0 (cellsOf l).toArray rfl rfl (HBl.out.there (by simp[za,HL.out,xP])) HSz.out HAl.out ?_))
  refine bodyPost_ret (v:=.tuple #[.slice (some ⟨w1.heap.size,0,none⟩) 128 128,.int .i64 0]) (by simp[results,Tryz.results120,go_sem]) rfl ?_;have hO:Out (fun _=>False) w1 ((w1.alloc (.cells xP 224)).setCells w1.heap.size 0 (cellsOf l)):=Out.setCells _ _ _ ((Out.refl _ _).alloc _) (.inr (Nat.le_refl _));have hB:Blk ((w1.alloc (.cells xP 224)).setCells w1.heap.size 0 (cellsOf l)) w1.heap.size (cellsOf l):=by
   have:=HBl.out.sets (o:=0) (vs:=cellsOf l) (by simp[za,HL.out,xP])
   rwa[xN _ _ (by simp[za,HL.out,xP])] at this
  exact ⟨HB.out.trans (hO.below (fun _ _ h=>h.elim) HB.out.size),_,_,rfl,HL.out,fun _=>⟨_,rfl,HB.out.size,hB⟩⟩
end
end
end
end Go.Proofs.YtcdkopbjlakebaaGreatDoor
