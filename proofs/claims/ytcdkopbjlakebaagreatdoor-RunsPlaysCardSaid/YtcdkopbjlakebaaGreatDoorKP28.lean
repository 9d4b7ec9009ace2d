/- Texts put together, for a law: Mg. -/
import Derived.Deep.LoopGhost
import Derived.Shelf.Abstract
import Derived.Shelf.RegionOpen
import Derived.OwnWalkIn
import Derived.TacticsInMore
import Derived.LoopNIn
import Derived.LoopIn
import Derived.WalkKit
import Derived.Test.YtcdkopbjlakebaaGreatDoorKP13
import Derived.Test.YtcdkopbjlakebaaGreatDoorKP10
import Derived.Test.YtcdkopbjlakebaaGreatDoorKP6
import Derived.Test.YtcdkopbjlakebaaGreatDoorKP19
set_option maxRecDepth 100000
set_option maxHeartbeats 8000000
namespace Go.Proofs.YtcdkopbjlakebaaGreatDoor
section
open Go.RowKit Me Rn Hp Mw
variable {w w':World} {lo hi Q wd cp:Nat} {H:List Qe} {rb:Option Nat}
theorem QAt.cap (h:QAt w lo hi Q wd H rb cp):H.length<=cp:=by
 obtain ⟨A,n,-,hw,-,hn⟩:=h.box;have:=Xj hw;omega
theorem zad:∀L:List Qe,((xY L).map Prod.snd).flatten=(L.map Prod.snd).flatten
 |[]=>rfl
 |p::L=>by
  have ih:=zad L;unfold xY at ih ⊢;rw[List.filter_cons]
  cases hp:p.2.isEmpty with
  |true=>
   have:p.2=[]:=by simpa using hp
   simp only[Bool.not_true,Bool.false_eq_true,if_false,List.map_cons,List.flatten_cons,this,List.nil_append];exact ih
  |false=>
   simp only[Bool.not_false,if_true,List.map_cons,List.flatten_cons];rw[ih]
def yV (T:Nat) (x:List UInt8) (av:Array Value) (W:World):Prop:=∃A n c,av=#[.slice A n c]/\x.length=n/\W.ownsRow T 5 1 (.slice A n c) n (cellsOf x)
structure MgR (W0:World) (S:Nat->Nat->Prop) (J:Nat->List (List UInt8)->World->Prop) (all:List (List UInt8)) (lo hi Q wd:Nat) (rb:Option Nat) (cp T:Nat) (wr:World) (m:Nat) (H:List Qe) (out:List (List UInt8)):Prop where
 q:QAt wr lo hi Q wd H rb cp
 g:Mrg out (H.map Prod.snd)
 e:(out++(H.map Prod.snd).flatten).Perm all
 j:J T out wr
 o:Out (S T) W0 wr
 c:m=(H.map Prod.snd).flatten.length
structure MgC (W0:World) (S:Nat->Nat->Prop) (J:Nat->List (List UInt8)->World->Prop) (all:List (List UInt8)) (lo hi Q wd:Nat) (rb:Option Nat) (cp T:Nat) (wr:World) (m:Nat) (H:List Qe) (out:List (List UInt8)) (p:Qe):Prop where
 q:QAt wr lo hi Q wd H rb cp
 v:Qv wr lo hi wd p
 g:Cur out p.2 (H.map Prod.snd)
 e:(out++(p.2++(H.map Prod.snd).flatten)).Perm all
 j:J T out wr
 o:Out (S T) W0 wr
 c:H.length+1<=cp
 k:H.length+1<=1000000
 le:p.2.length+(H.map Prod.snd).flatten.length<=m
 nx:p.2.length+(H.map Prod.snd).flatten.length=m->XR p.2 (H.map Prod.snd)=true
variable {W0:World} {S:Nat->Nat->Prop} {J Jx:Nat->List (List UInt8)->World->Prop} {all:List (List UInt8)} {T m:Nat} {out:List (List UInt8)} {p:Qe} {wr:World}
structure MgK (W0:World) (S:Nat->Nat->Prop) (lo hi Q:Nat) (rb:Option Nat) (T:Nat):Prop where
 s:∀k,S T k->(k<W0.heap.size\/T<=k)/\¬(lo<=k/\k<hi)
 q:W0.heap.size<=Q/\Q<T
 r:∀k,rb=some k->W0.heap.size<=k/\k<T
 t:W0.heap.size<=T
theorem QK {K:Nat->Prop} (hk:∀k,K k->W0.heap.size<=k/\k<T) (hT:W0.heap.size<=T) (hJ:Rt.Free W0.heap.size T (J T)) {wa wb:World} (ho:Out K wa wb) (hj:J T out wa) (h0:Out (S T) W0 wa):J T out wb/\Out (S T) W0 wb:=
 ⟨hJ _ _ _ hj (ho.more fun k _ h=>hk k h),h0.trans' ho fun k h=>.inr (hk k h).1⟩
theorem MgR.take (h:MgR W0 S J all lo hi Q wd rb cp T wr m H out) (hK:MgK W0 S lo hi Q rb T) (hJ:Rt.Free W0.heap.size T (J T)) {n:Nat} (hn:H.length=n+1) {E:List Qe} (hE:E=(down ltQ n (swp H 0 n) 0 n).1) {w2:World} (hq:QAt w2 lo hi Q wd (E.take n) rb cp) (ho:Out (fun k=>k=Q\/rb=some k) wr w2) :
 MgC W0 S J all lo hi Q wd rb cp T w2 m (E.take n) out (at' E n):=by
 have hmap:E.map Prod.snd=(down ltS n (swp (H.map Prod.snd) 0 n) 0 n).1:=by
  rw[hE,<-za2 XJ];exact QN XJ ltS n _ 0 n
 obtain ⟨h1,h2,h3,h4,h5⟩:=h.g.take (n:=n) (by rw[List.length_map,hn]) (Nat.le_refl _) hmap;have e1:at' (E.map Prod.snd) n=(at' E n).2:=zaY XJ E n;have e2:(E.map Prod.snd).take n=(E.take n).map Prod.snd:=by rw[List.map_take]
 rw[e1,e2] at h3 h4 h5;have hlen:E.length=n+1:=by rw[hE,y8,zB,hn]
 have hp:E.Perm H:=by
  rw[hE]
  by_cases h0:n=0
  ·subst h0;have:(down ltQ 0 (swp H 0 0) 0 0).1=swp H 0 0:=rfl;rw[this];exact Zz (by omega) (by omega)
  ·exact (Xw ltQ n _ 0 n (by omega) (by rw[zB];omega)).trans (Zz (by omega) (by omega))
 have hv:Qv wr lo hi wd (at' E n):=h.q.el _ (hp.mem_iff.1 (at_mem (by omega)));have hQ:=h.q.lt;have hlo:=h.q.lo;obtain ⟨j2,o2⟩:=QK (out:=out) (fun k hk=>by
  rcases hk with rfl|hk
  ·exact hK.q
  ·exact hK.r k hk) hK.t hJ ho h.j h.o
 refine ⟨hq,hv.out ho (by omega) (fun k _ hk e=>?_),h3,?_,j2,o2,by rw[List.length_take];have:=h.q.cap;omega,by rw[List.length_take];have:=h.q.few;omega,?_,fun _=>h4⟩
 ·rcases e with e|e
  ·omega
  ·have:=h.q.row k e;omega
 ·exact (List.Perm.append_left out h5).trans h.e
 ·have:=h5.length_eq;rw[List.length_append] at this;rw[h.c];omega
theorem Qv.tail {p:Qe} {A:Option Addr} {n c:Nat} {r:List UInt8} {t:List (List UInt8)} (h:Qv wr lo hi wd p) (hp:p.1=.slice A n c) (hr:p.2=r::t) (hwd:0<wd) :
 wd<=n/\n<=c/\t.flatten.length=n-wd/\(t=[]↔n-wd=0)/\(t≠[]->Qv wr lo hi wd (.slice (if c=wd then A else A.map (·.add wd)) (n-wd) (c-wd),t))/\∃a,A=some a/\Rd wr hi A (r::t).flatten:=by
 obtain ⟨h1,h2,A',n',c',e,h3,h4,h5,h6,h7⟩:=h;rw[hp] at e;injection e with e1 e2 e3;subst e1 e2 e3;rw[hr] at h2 h3 h6;have hrl:r.length=wd:=h2 r (by simp);have ht:Wid wd t:=fun x hx=>h2 x (by simp[hx])
 rw[List.flatten_cons,List.length_append,hrl] at h3;obtain ⟨a,ha,hb,hc⟩:=h6 (by rw[List.flatten_cons,List.length_append,hrl];omega);subst ha;refine ⟨by omega,h4,by omega,?_,fun hne=>⟨hne,ht,_,_,_,rfl,(show t.flatten.length=n-wd by omega),by omega,by omega,?_,?_⟩,a,rfl,fun _=>⟨a,rfl,hb,hc⟩⟩
 ·rw[<-zc7 hwd ht]
  constructor<;>intro e<;>omega
 ·have h8:=(show Rd wr hi (some a) (r::t).flatten from fun _=>⟨a,rfl,hb,hc⟩).drop (k:=wd) (cap:=c) (by rw[List.flatten_cons,List.length_append,hrl];omega);have e9:(r::t).flatten.drop wd=t.flatten:=by
   rw[List.flatten_cons,List.drop_append,List.drop_of_length_le (by omega),List.nil_append,hrl,Nat.sub_self,List.drop_zero]
  rw[e9] at h8;exact h8
 ·intro b hb'
  split at hb'
  ·exact h7 b hb'
  ·simp only[Option.map_some,Option.some.injEq] at hb';rw[<-hb',block_add];exact h7 a rfl
theorem MgC.past (h:MgC W0 S J all lo hi Q wd rb cp T wr m H out p) (hK:MgK W0 S lo hi Q rb T) (hJ:Rt.Free W0.heap.size T (J T)) {w2:World} (hb:Below wr.heap.size wr w2):MgC W0 S J all lo hi Q wd rb cp T w2 m H out p:=by
 have hlt:=h.q.lt;have hlo:=h.q.lo;obtain ⟨j2,o2⟩:=QK (K:=fun _=>False) (out:=out) (fun k hk=>hk.elim) hK.t hJ (Out.of_below hb) h.j h.o;exact ⟨h.q.past hb,h.v.out (S:=fun _=>False) (.of_below hb) (by omega) (fun _ _ _=>id),h.g,h.e,j2,o2,h.c,h.k,h.le,h.nx⟩
theorem MgC.step (h:MgC W0 S J all lo hi Q wd rb cp T wr m H out p) (hK:MgK W0 S lo hi Q rb T) (hn:XR p.2 (H.map Prod.snd)=true) {r:List UInt8} {t:List (List UInt8)} (hr:p.2=r::t) {w2:World} (ho:Out (S T) wr w2) (hj:J T (out++[r]) w2) (hT:T<=wr.heap.size) :
 QAt w2 lo hi Q wd H rb cp/\Out (S T) W0 w2/\Mrg (out++[r]) (H.map Prod.snd)/\((out++[r])++(t++(H.map Prod.snd).flatten)).Perm all/\t.length+(H.map Prod.snd).flatten.length<m /\
  (∀v,(t≠[]->Qv wr lo hi wd (v,t))->t≠[]->MgC W0 S J all lo hi Q wd rb cp T w2 m H (out++[r]) (v,t)):=by
 have hlt:=h.q.lt;have hlo:=h.q.lo;have hg:=h.g;rw[hr] at hg hn;obtain ⟨hm,hc⟩:=hg.step hn;have he:=h.e;have hle:=h.le;rw[hr] at he hle;have he2:((out++[r])++(t++(H.map Prod.snd).flatten)).Perm all:=by
  rw[List.append_assoc];exact he
 have hq2:QAt w2 lo hi Q wd H rb cp:=h.q.out ho (fun e=>by have:=(hK.s Q e).1;have:=hK.q;omega) (fun k hk e=>by have:=(hK.s k e).1;have:=hK.r k hk;omega) (fun k h1 h2 e=>(hK.s k e).2 ⟨h1,h2⟩);have hl:t.length+(H.map Prod.snd).flatten.length<m:=by rw[List.length_cons] at hle;omega
 exact ⟨hq2,h.o.trans ho,hm,he2,hl,fun v hv hne=>⟨hq2,(hv hne).out ho (by omega) (fun k h1 h2 e=>(hK.s k e).2 ⟨h1,h2⟩),hc hne,he2,hj,h.o.trans ho,h.c,h.k,Nat.le_of_lt hl,fun e=>absurd (show t.length+(H.map Prod.snd).flatten.length=m from e) (by omega)⟩⟩
theorem MgC.back (h:MgC W0 S J all lo hi Q wd rb cp T wr m H out p) (hK:MgK W0 S lo hi Q rb T) (hJ:Rt.Free W0.heap.size T (J T)) (hn:XR p.2 (H.map Prod.snd)=false) {w2:World} (hq:QAt w2 lo hi Q wd (up ltQ (H.length+1) (H++[p]) H.length) rb cp) (ho:Out (fun k=>k=Q\/rb=some k) wr w2) :
 ∃m',m'<m/\MgR W0 S J all lo hi Q wd rb cp T w2 m' (up ltQ (H.length+1) (H++[p]) H.length) out:=by
 have hmap:(up ltQ (H.length+1) (H++[p]) H.length).map Prod.snd=up ltS ((H.map Prod.snd).length+1) (H.map Prod.snd++[p.2]) (H.map Prod.snd).length:=by
  have:=zkX (rc:=Prod.snd) XJ ltS (H.length+1) (H++[p]) H.length;rw[List.length_map];rw[List.map_append] at this;exact this
 obtain ⟨h1,h2,h3⟩:=h.g.back hmap;obtain ⟨j2,o2⟩:=QK (out:=out) (fun k hk=>by
  rcases hk with rfl|hk
  ·exact hK.q
  ·exact hK.r k hk) hK.t hJ ho h.j h.o
 refine ⟨_,?_,hq,h1,(List.Perm.append_left out h3).trans h.e,j2,o2,rfl⟩;have h4:=h3.length_eq;rw[List.length_append] at h4;rcases Nat.lt_or_eq_of_le h.le with h5|h5
 ·omega
 ·rw[h.nx h5] at hn;cases hn
def MgP (W0:World) (S:Nat->Nat->Prop) (J:Nat->List (List UInt8)->World->Prop) (all:List (List UInt8)) (lo hi Q wd:Nat) (rb:Option Nat) (cp T:Nat) (wr:World) (m:Nat):Prop:=∃H out,MgR W0 S J all lo hi Q wd rb cp T wr m H out
theorem zfk {p q:Nat->Prop} {m':Nat} (h:q m') (hm:∀k,p k->m'<k) (hp:∃k,p k):leastOf q<leastOf p:=Nat.lt_of_le_of_lt ((leastOf_spec ⟨m',h⟩).2 m' h) (hm _ (leastOf_spec hp).1)
attribute [local go_sem] Oper.semAt_some
theorem zhY (l Bl Bw ln lc:Nat) (LA:Option Addr) (L:List Qe) (S:Nat->Nat->Prop) (J Jx:Nat->List (List UInt8)->World->Prop) (W:World)
 (hS:∀T k,W.heap.size<=T->S T k->(k<W.heap.size\/T<=k)/\¬(lo<=k/\k<hi)) (hJ:∀T,W.heap.size<=T->Rt.Free W.heap.size T (J T)) (hJx:∀T,W.heap.size<=T->Rt.Free W.heap.size T (Jx T))
 (hY:∀T pre x post av W1,W.heap.size<=T->zG (L.map Prod.snd).flatten=pre++x::post->T<=W1.heap.size->Out (S T) W W1->J T pre W1->yV T x av W1->YieldAt Fence.wide 1 Tryz.prog l av W1 fun e W'=>
   Out (S T) W1 W'/\((e=.returned (.bool true)/\J T (pre++[x]) W')\/(e=.returned (.bool false)/\Jx T (pre++[x]) W')))
 (hl:L.length=ln) (hln:ln<=100000) (hwd:0<wd/\wd<=1000000) (hhi:hi<=W.heap.size) (hBl:Blk W Bl [.slice LA ln lc]) (hBw:Blk W Bw [.int .i64 (wd:Int)]) (hlw:lo<=Bw/\Bw<hi) (hc:Cs W W.heap.size LA (L.map Prod.fst)) (hv:∀p∈L,Lv W lo hi wd p)
 (h0:∀T,W.heap.size<=T->J T [] W) :
 CallsIn Fence.wide 2 Tryz.prog 75 #[.func (.yield l) #[] #[],.pointer (some ⟨Bl,0,none⟩),.pointer (some ⟨Bw,0,none⟩)] W fun e W'=>(∃v,e=.returned v)/\∃T,W.heap.size<=T/\Out (S T) W W' /\
  (J T (zG (L.map Prod.snd).flatten) W'\/∃pre post,zG (L.map Prod.snd).flatten=pre++post/\Jx T pre W'):=by
 have c0:=hBl.cell (i:=0) rfl;have c1:=hBw.cell (i:=0) rfl;obtain ⟨all,hall⟩:∃all,all=(L.map Prod.snd).flatten:=⟨_,rfl⟩
 rw[<-hall] at hY ⊢;have HALL:=gI hall;have HS:=gI hS;have HJ:=gI hJ;have HJX:=gI hJx;have HY:=gI hY;have HBW:=gI hBw;have HNQ:=gI (zj1 lo hi LA ln lc wd L hl hln hwd W hhi hc hv);have HV:=gI hv;have H00:=gI h0;have HHI:=gI hhi;have HLW:=gI hlw;have HWD:=gI hwd;have HLN:=gI (show L.length<=100000 by omega);clear hS hJ hJx hY hBl hBw hl hc hv h0 hhi hall hlw hwd;refine callsIn_of_wp Tryz.func75 rfl trivial ?_ rfl;simp only[Tryz.ntmps75,List.size_toArray,List.length_cons,List.length_nil,Nat.reduceAdd,Nat.reduceSub,Array.replicate_succ,Array.replicate_zero,List.push_toArray,List.append_toArray,List.nil_append,List.cons_append];refine zfJ (wpIn_seq ?_)
 gi_wp2_with fail
 refine ⟨trivial,(callsIn_wide.2 HNQ.out).mono ?_⟩;rintro e w1 ⟨Q,rb,cp,rfl,hq1,hb1,hQ1⟩;obtain ⟨T,hT⟩:∃T,T=w1.heap.size:=⟨_,rfl⟩
 have hT0:W.heap.size<=T:=by rw[hT];exact hb1.size
 have hK:MgK W S lo hi Q rb T:=⟨fun k hk=>HS.out T k hT0 hk,⟨hQ1,by rw[hT];exact hq1.lt⟩,fun k hk=>by have:=hq1.row k hk;omega,hT0⟩
 have hE:(init ltQ (xY L).length ((xY L).length / 2) (xY L) (xY L).length).map Prod.snd=init ltS ((xY L).map Prod.snd).length (((xY L).map Prod.snd).length / 2) ((xY L).map Prod.snd) ((xY L).map Prod.snd).length:=by
  rw[List.length_map];exact zfn (rc:=Prod.snd) XJ ltS _ _ _ _
 have hst:=Mrg.start (H:=(xY L).map Prod.snd) (f:=((xY L).map Prod.snd).length) (fun s hs=>by
  obtain ⟨p,hp,rfl⟩:=List.mem_map.1 hs;have:=(List.mem_filter.1 hp).2;intro e;rw[e] at this;simp at this) (fun s hs=>by
  obtain ⟨p,hp,rfl⟩:=List.mem_map.1 hs;exact (HV.out p (List.mem_filter.1 hp).1).2.1) (Nat.le_refl _)
 rw[<-hE] at hst;have hP0:∃m,MgP W S J all lo hi Q wd rb cp T w1 m:=by
  refine ⟨_,_,[],hq1,hst.1,?_,(QK (S:=S) (K:=fun _=>False) (out:=[]) (fun k hk=>hk.elim) hT0 (HJ.out T hT0) (Out.of_below hb1) (H00.out T hT0) (.refl _ _)).1,.of_below hb1,rfl⟩;rw[List.nil_append,HALL.out,<-zad L];exact hst.2
 have HP0:=gI hP0;have HK:=gI hK;have HT:=gI hT;have hml:=fun (v:Value) (w:World)=>ZW (P:=Tryz.prog) (I:=20) Tryz.underlying92 v w
 clear hP0 hK hq1 hb1 hQ1 hT0 hE hst hT
 gi_wp2
 refine wpIn_label ?_
 gi_wp2_with fail
 gi_loopw [] (fun wr=>Hid (∃m,MgP W S J all lo hi Q wd rb cp T wr m)/\Hid (T<=wr.heap.size)) (fun wr=>leastOf (fun m=>MgP W S J all lo hi Q wd rb cp T wr m))
 case atStart=>exact ⟨HP0,gI (by rw[HT.out];exact Nat.le_refl _)⟩
 case round=>
  clear HP0;obtain ⟨hrel,hsz⟩:=hrel;obtain ⟨⟨H,out,hR⟩,hmin⟩:=leastOf_spec hrel.out;obtain ⟨m0,hm0⟩:∃m0,m0=leastOf (fun m=>MgP W S J all lo hi Q wd rb cp T wr m):=⟨_,rfl⟩
  rw[<-hm0] at hR hmin;have HR:=gI hR;have HMIN:=gI (show ∀k,MgP W S J all lo hi Q wd rb cp T wr k->m0<=k from hmin);have HREL:=hrel;have HTWR:=gI (show T<=wr.heap.size from hsz.out);obtain ⟨wo,hwo⟩:∃wo,wo=wr:=⟨_,rfl⟩
  rw[<-hwo] at HMIN HREL;have HWO:=gI hwo;clear hR hmin hm0 hrel hsz hwo
  gi_wp2_with fail
  refine ⟨trivial,(callsIn_wide.2 (QJ HR.out.q)).mono ?_⟩;rintro e w2 ⟨rfl,rfl⟩;obtain ⟨N,hN⟩:∃N,N=H.length:=⟨_,rfl⟩
  rw[<-hN];have HN:=gI hN;have hN6:N<=1000000:=by have:=HR.out.q.few;omega
  clear hN
  cases N with
  |zero=>
   have hH:H=[]:=List.length_eq_zero_iff.1 HN.out.symm;have z1:¬(0:Int)<((0:Nat):Int):=by omega
   have hout:out=zG all:=by
    have h1:=HR.out.g;have h2:=HR.out.e;rw[hH] at h1 h2;exact h1.done h2
   have FIN:=gI (show ∃T,W.heap.size<=T/\Out (S T) W wr/\(J T (zG all) wr\/∃pre post,zG all=pre++post/\Jx T pre wr) from ⟨T,HK.out.t,HR.out.o,.inl (by rw[<-hout];exact HR.out.j)⟩);clear hH hout
   gi_wp2
   rw[Exit.noGoto_normal]
   go_end0
   exact ⟨⟨_,rfl⟩,FIN.out⟩
  |succ n=>
   have z1:(0:Int)<((n+1:Nat):Int):=by omega
   obtain ⟨E,hE⟩:∃E,E=(down ltQ n (swp H 0 n) 0 n).1:=⟨_,rfl⟩
   have HE:=gI hE;clear hE
   gi_wp2_with fail
   refine ⟨trivial,(callsIn_wide.2 (zkh HR.out.q (n:=n) HN.out.symm HE.out)).mono ?_⟩;rintro e w2 ⟨rfl,hq2,ho2⟩;have hC:=HR.out.take HK.out (HJ.out T HK.out.t) HN.out.symm HE.out hq2 ho2;obtain ⟨p,hp⟩:∃p,p=at' E n:=⟨_,rfl⟩
   rw[<-hp] at hC;rw[<-hp];have HC:=gI hC;have HTW:=gI (show T<=w2.heap.size by have:=ho2.size;have:=HTWR.out;omega);clear hC hq2 ho2 hp z1
   gi_wp2_with fail
   gi_loopw [5] (fun v wx=>∃(H2:List Qe) (out2:List (List UInt8)) (p:Qe),v=p.1/\Hid (MgC W S J all lo hi Q wd rb cp T wx m0 H2 out2 p)/\Hid (T<=wx.heap.size)) (fun v _=>sliceLen v)
   case atStart=>exact ⟨_,out,p,rfl,HC,HTW⟩
   case round=>
    clear HC HTW;obtain ⟨H2,out2,p,rfl,HC,HTW⟩:=hrel;obtain ⟨r,t,hr,hrl,-,-⟩:=HC.out.v.first
    obtain ⟨A,n1,c1,hp1,-⟩:=HC.out.v.2.2;obtain ⟨g1,g2,g3,g4,g5,a,hA,hRd⟩:=HC.out.v.tail hp1 hr HWD.out.1;subst hA;have HP1:=gI hp1;have HRT:=gI hr;have HRL:=gI hrl;have HG:=gI (And.intro g3 (And.intro g4 (And.intro g5 hRd)));have hBw:Blk wr Bw [.int .i64 (wd:Int)]:=HBW.out.out HC.out.o (fun e=>(HK.out.s Bw e).2 HLW.out);clear hr hrl hp1 g3 g4 g5 hRd
    gi_wp2_with fail
    refine ⟨trivial,(callsIn_wide.2 (zhw HC.out.q HC.out.v)).mono ?_⟩;obtain ⟨b,hb⟩:∃b,b=XR p.2 (H2.map Prod.snd):=⟨_,rfl⟩
    rw[<-hb];have HNB:=gI hb;clear hb;rintro e w4 ⟨rfl,hb4⟩;have HC4:=gI (HC.out.past HK.out (HJ.out T HK.out.t) hb4);have HTW4:=gI (show T<=w4.heap.size by have:=hb4.size;have:=HTW.out;omega);have hRd4:=(HG.out.2.2.2.below (hb4.mono (by have:=HC.out.q.lo;have:=HC.out.q.lt;omega)))
    have HRD:=gI hRd4;have hG5:t≠[]->Qv w4 lo hi wd (.slice (if c1=wd then some a else some (a.add wd)) (n1-wd) (c1-wd),t):=fun hne=>(HG.out.2.2.1 hne).out (S:=fun _=>False) (.of_below hb4) (by have:=HC.out.q.lo;have:=HC.out.q.lt;omega) (fun _ _ _=>id)
    have HG5:=gI hG5;have d1:=(hBw.past hb4).cell (i:=0) rfl;have HBW4:=gI (hBw.past hb4);clear hb4 hRd4 hG5 hBw
    cases b with
    |false=>
     have hpu:=zij HC4.out.q HC4.out.v HC4.out.k;rw[HP1.out] at hpu;rw[HP1.out];have HPU:=gI hpu;clear hpu
     gi_wp2_with fail
     refine ⟨trivial,(callsIn_wide.2 HPU.out).mono ?_⟩;rintro e w6 ⟨rfl,rb',cp',hq6,ho6,hroom,-⟩;obtain ⟨rfl,rfl⟩:=hroom HC4.out.c;obtain ⟨m',hm',hR'⟩:=HC4.out.back HK.out (HJ.out T HK.out.t) HNB.out.symm hq6 ho6;have FIN:=gI (show MgP W S J all lo hi Q wd rb' cp' T w6 m' from ⟨_,_,hR'⟩);have HM':=gI hm';have HT6:=gI (show T<=w6.heap.size by have:=HTW4.out;have:=ho6.size;omega);clear hq6 ho6 hroom hR' hm'
     gi_wp2
     go_roundw
     case rel=>exact ⟨gI ⟨m',FIN.out⟩,HT6⟩
     case measure=>
      have:=HWO.out;subst this;exact zfk FIN.out (fun k hk=>Nat.lt_of_lt_of_le HM'.out (HMIN.out k hk)) HREL.out
    |true=>
     rw[HP1.out];have e1:(wd:Int)<=(c1:Int):=by omega
     have e2:¬c1=0:=by have:=HWD.out.1;omega
     have hrd5:Rd w4 w4.heap.size (some a) r:=by
      have h1:=(HRD.out.more (show hi<=w4.heap.size by have:=HC4.out.q.lo;have:=HC4.out.q.lt;omega)).take wd;rw[List.flatten_cons,List.take_append_of_le_length (by rw[HRL.out];exact Nat.le_refl _),List.take_of_length_le (by rw[HRL.out];exact Nat.le_refl _)] at h1;exact h1
     have HR5:=gI hrd5;clear hrd5
     gi_wp2_with fail
     refine ⟨trivial,(callsIn_wide.2 (xV (some a) wd c1 r w4 HRL.out (by have:=HWD.out.2;omega) HR5.out)).mono ?_⟩;rintro e w5 hnews;obtain ⟨A5,n5,c5,rfl,hl5,hc5,ho5,-,hb5⟩:=hnews.open;have HC5:=gI (HC4.out.past HK.out (HJ.out T HK.out.t) hb5);have hT5:T<=w5.heap.size:=by have:=HTW4.out;have:=hb5.size;omega
     have hg5:=HC5.out.g;have he5:=HC5.out.e;have hnx:=HNB.out.symm;rw[HRT.out] at hg5 he5 hnx;obtain ⟨post,hX⟩:=hg5.front_next hnx he5;obtain ⟨fn,tmps,assign,body,hy,hRo⟩:=HY.out T out2 r post #[.slice A5 n5 c5] w5 HK.out.t hX hT5 HC5.out.o HC5.out.j ⟨A5,n5,c5,rfl,hl5,zU ho5 HTW4.out⟩;have HRo:=gI hRo;have HX:=gI hX;have HT5:=gI hT5;have HBW5:=gI (HBW4.out.past hb5);have HG6:=gI (fun hne=>(HG5.out hne).out (S:=fun _=>False) (.of_below hb5) (by have:=HC4.out.q.lo;have:=HC4.out.q.lt;omega) (fun _ _ _=>id):t≠[]->Qv w5 lo hi wd (.slice (if c1=wd then some a else some (a.add wd)) (n1-wd) (c1-wd),t));clear hRo hX hT5 hg5 he5 hnx hnews hl5 hc5 ho5 hb5 d1
     gi_wp2_with fail
     refine HRo.out.mono ?_;rintro e W3 ⟨ho6,⟨rfl,hJ6⟩|⟨rfl,hJx6⟩⟩
     ·obtain ⟨q6,o6,m6,p6,l6,f6⟩:=HC5.out.step HK.out HNB.out.symm HRT.out ho6 hJ6 HT5.out;have d1:=(HBW5.out.out ho6 (fun e=>(HK.out.s Bw e).2 HLW.out)).cell (i:=0) rfl;have HT6:=gI (show T<=W3.heap.size by have:=HT5.out;have:=ho6.size;omega);have e3:(wd:Int)<=(n1:Int):=by omega
      by_cases ht:t=[]
      ·have e4:n1-wd=0:=(HG.out.2.1.1 ht)
       have hnw:n1=wd:=by omega
       have FIN:=gI (show MgP W S J all lo hi Q wd rb cp T W3 (H2.map Prod.snd).flatten.length from ⟨H2,out2++[r],q6,m6,(by subst ht;exact p6),hJ6,o6,rfl⟩);have HM':=gI (show (H2.map Prod.snd).flatten.length<m0 by omega);subst hnw;clear q6 o6 m6 p6 l6 f6 ho6 hJ6 e4
       gi_wp2
       go_roundw
       case rel=>exact ⟨gI ⟨_,FIN.out⟩,HT6⟩
       case measure=>
        have:=HWO.out;subst this;exact zfk FIN.out (fun k hk=>Nat.lt_of_lt_of_le HM'.out (HMIN.out k hk)) HREL.out
      ·have e4:n1-wd≠0:=fun e=>ht (HG.out.2.1.2 e)
       obtain ⟨n',hn'⟩:∃n',n'+wd=n1:=⟨n1-wd,by omega⟩
       obtain ⟨c',hc'⟩:∃c',c'+wd=c1:=⟨c1-wd,by omega⟩
       have e5:n1-wd=n':=by omega
       have e6:c1-wd=c':=by omega
       have e7:¬c1=wd:=by omega
       have e8:¬(n':Int)=0:=by omega
       have e9:(n1:Int)-(wd:Int)=(n':Int):=by omega
       have hg6:=HG6.out ht;rw[e5,e6,if_neg e7] at hg6;have FIN:=gI (f6 (.slice (some (a.add wd)) n' c') (fun _=>hg6) ht);clear q6 o6 m6 p6 l6 f6 ho6 hJ6 hg6 e4
       gi_wp2
       go_roundw
       case rel=>exact ⟨H2,out2++[r],(.slice (some (a.add wd)) n' c',t),rfl,FIN,HT6⟩
       case measure=>
        show n'<sliceLen p.1
        rw[HP1.out];show n'<n1
        have:=HWD.out.1;omega
     ·have FIN:=gI (show ∃T,W.heap.size<=T/\Out (S T) W W3/\(J T (zG all) W3\/∃pre post,zG all=pre++post/\Jx T pre W3) from ⟨T,HK.out.t,HC5.out.o.trans ho6,.inr ⟨out2++[r],post,by rw[HX.out];simp,hJx6⟩⟩);clear hy ho6 hJx6
      gi_wp2
      rw[Exit.noGoto_ret];refine bodyPost_ret (results_none rfl _ _ _) rfl ?_;exact ⟨⟨_,rfl⟩,FIN.out⟩
structure MgAt (w:World) (lo hi Bl Bw ln lc wd:Nat) (LA:Option Addr) (L:List Qe):Prop where
 bl:Blk w Bl [.slice LA ln lc]
 bw:Blk w Bw [.int .i64 (wd:Int)]
 ll:lo<=Bl/\Bl<hi
 lw:lo<=Bw/\Bw<hi
 cs:Cs w hi LA (L.map Prod.fst)
 la:∀a,LA=some a->lo<=a.block
 lv:∀p∈L,Lv w lo hi wd p
 len:L.length=ln
 few:ln<=100000
 wd:0<wd/\wd<=1000000
 hi:hi<=w.heap.size
theorem MgAt.kept {Bl Bw ln lc:Nat} {LA:Option Addr} {L:List Qe} {S:Nat->Prop} (h:MgAt w lo hi Bl Bw ln lc wd LA L) (ho:Out S w w') (hn:∀k,lo<=k->k<hi->¬S k):MgAt w' lo hi Bl Bw ln lc wd LA L:=by
 have hhi:=h.hi;have hk:∀a:Addr,lo<=a.block->a.block<hi->w'.cell? a=w.cell? a:=fun a h1 h2=>ho.cell (by omega) (hn _ h1 h2)
 refine ⟨h.bl.out ho (hn _ h.ll.1 h.ll.2),h.bw.out ho (hn _ h.lw.1 h.lw.2),h.ll,h.lw,fun hp=>?_,h.la,fun p hp=>(h.lv p hp).keep hk,h.len,h.few,h.wd,by have:=ho.size;omega⟩;obtain ⟨a,e,hb,hc⟩:=h.cs hp;exact ⟨a,e,hb,fun i v hv=>(hk _ (by rw[block_add];exact h.la a e) (by rw[block_add];exact hb)).trans (hc i v hv)⟩
theorem zcU {Bl Bw ln lc:Nat} {LA:Option Addr} {L:List Qe} (h:MgAt w lo hi Bl Bw ln lc wd LA L) :
 Rt.Gives Tryz.prog 75 #[.pointer (some ⟨Bl,0,none⟩),.pointer (some ⟨Bw,0,none⟩)] yV (zG (L.map Prod.snd).flatten) (fun k=>lo<=k/\k<hi) w:=fun n' l S J Jx W hW hS hJ hJx hY h0=>by
 have h2:=h.kept (S:=fun _=>False) (.of_below hW) (fun _ _ _=>id);exact Y4 (zhY l Bl Bw ln lc LA L S J Jx W hS hJ hJx hY h2.len h2.few h2.wd h2.hi h2.bl h2.bw h2.lw (h2.cs.more h2.hi) h2.lv h0)
end
end Go.Proofs.YtcdkopbjlakebaaGreatDoor
