/- Texts put together, for a law: WSlot, MWrite, SlotM, FallM, SpoM, FallN. -/
import Derived.Test.YtcdkopbjlakebaaGreatDoorKP23
import Derived.Test.YtcdkopbjlakebaaGreatDoorKP32
import Derived.Test.YtcdkopbjlakebaaGreatDoorKP20
set_option maxRecDepth 100000
set_option maxHeartbeats 8000000
namespace Go.Proofs.YtcdkopbjlakebaaGreatDoor
section
open Go.RowKit Me Mf Rw Ds
theorem ziE (A:Option Addr) (n c:Nat) (w:World) :
 Calls Tryz.prog 70 #[.slice A n c,.int .i64 128] w fun e w'=>e=.returned (.func (.func 109) #[] #[.pointer (some ⟨w.heap.size,0,none⟩),.pointer (some ⟨w.heap.size+1,0,none⟩)])/\w'=(w.alloc (.cells #[.slice A n c] 24)).alloc (.cells #[.int .i64 128] 3):=by
 go_enter Tryz.func70,Tryz.ntmps70
 go_wp2
 go_ret
 exact ⟨rfl,rfl⟩
theorem zen (n:Nat) (hn:1<=n) (Bs Bn g c:Nat) (hc:2048<=c) (hc63:c<=9223372036854775807) (w:World) (hs:w.cell? ⟨Bs,0,none⟩=some (.slice (some ⟨g,0,none⟩) 2048 c)) (hb:w.cell? ⟨Bn,0,none⟩=some (.int .i64 128)) :
 SeqStopsK Fence.wide n Tryz.prog 109 #[.pointer (some ⟨Bs,0,none⟩),.pointer (some ⟨Bn,0,none⟩)] (encC g) (KB Bs Bn) (fun ys=>ys.map (·.val)=List.range 16) (fun pre=>∃k,k<=16/\pre.map (·.val)=List.range k) 16 w:=fun l J Jx W hW hJ _ hY h0=>
 ziG n hn l Bs Bn g c hc hc63 J Jx (fun pre W W' hj hB=>hJ pre W W' none hj (vL hB none) (fun r e=>by cases e)) hY W
  ((hW.cell (p:=⟨Bs,0,none⟩) (World.block_lt_of_cell? _ _ hs)).trans hs) ((hW.cell (p:=⟨Bn,0,none⟩) (World.block_lt_of_cell? _ _ hb)).trans hb) h0
def qQ (l:List UInt8) (k:Nat):List UInt8:=(l.drop (128*k)).take 128
theorem xW {l:List UInt8} (hl:l.length=2048) {k:Nat} (hk:k<16):(qQ l k).length=128:=by
 unfold qQ;rw[List.length_take,List.length_drop,hl];omega
def stD (S:Dsk) (n:Nat) (l:List UInt8):Nat->Dsk×Int
 |0=>(S,0)
 |k+1=>if (stD S n l k).2=0 then zY (stD S n l k).1 ((16*n+k:Nat):Int) (qQ l k) else stD S n l k
def zM (S:Dsk) (n:Nat) (l:List UInt8):Dsk×Int:=if (stD S n l 16).2=0 then yB (stD S n l 16).1 else stD S n l 16
theorem zhd {S:Dsk} {n:Nat} {l:List UInt8} {k:Nat} (h:(stD S n l k).2≠0):∀j,k<=j->stD S n l j=stD S n l k:=by
 intro j hj
 induction j with
 |zero=>rw[show k=0 by omega]
 |succ j ih=>
  by_cases e:k=j+1
  ·rw[e]
  ·have:=ih (by omega);rw[stD,this,if_neg h]
theorem Zy (S:Dsk) (i:Int) (l:List UInt8):(zY S i l).1.pend.length<=S.pend.length+1:=by
 unfold zY
 repeat' split
 all_goals simp[(xk S).1]
theorem za6 (S:Dsk) (n:Nat) (l:List UInt8):∀k,(stD S n l k).1.pend.length<=S.pend.length+k
 |0=>Nat.le_refl _
 |k+1=>by
  have h:=za6 S n l k;rw[stD]
  split
  ·have:=Zy (stD S n l k).1 ((16*n+k:Nat):Int) (qQ l k);omega
  ·omega
theorem zQ.cells {w:World} {B D:Nat} {S:Dsk} {own:Nat->Prop} (h:zQ w B D S own) {k:Nat} (hk:own k):∃o:Obj,w.heap[k]?=some o/\o.isCells=true:=by
 obtain ⟨g,Pv,h⟩:=h;rcases (h.own k).1 hk with rfl|rfl|hk
 ·obtain ⟨t,e⟩:=h.blk;exact ⟨_,e,rfl⟩
 ·obtain ⟨t,e⟩:=h.rows;exact ⟨_,e,rfl⟩
 ·obtain ⟨-,⟨e,-⟩|⟨g',cap,cur,e,-,hg,-⟩⟩:=h.pend
  ·rw[e] at hk;cases hk
  ·rw[e] at hk;injection hk with hk;subst hk;exact ⟨_,hg,rfl⟩
def VU (n:Nat) (l:List UInt8) (p:(Dsk×Int)×Nat) (x:Fin 16):(Dsk×Int)×Nat:=
 (if p.1.2=0 then zY p.1.1 ((16*n+p.2:Nat):Int) (qQ l x.val) else p.1,p.2+1)
def stL (S:Dsk) (n:Nat) (l:List UInt8) (pre:List (Fin 16)):(Dsk×Int)×Nat:=pre.foldl (VU n l) ((S,0),0)
theorem zeJ (S:Dsk) (n:Nat) (l:List UInt8) (pre:List (Fin 16)) (x:Fin 16):stL S n l (pre++[x])=VU n l (stL S n l pre) x:=by unfold stL;rw[List.foldl_append];rfl
theorem zdI (S:Dsk) (n:Nat) (l:List UInt8):∀(k:Nat) (pre:List (Fin 16)),pre.map (·.val)=List.range k->stL S n l pre=(stD S n l k,k)
 |0,pre,h=>by
  have:pre=[]:=by cases pre with|nil=>rfl|cons x l=>simp at h
  subst this;rfl
 |k+1,pre,h=>by
  rw[List.range_succ] at h;obtain ⟨a,b,rfl,ha,hb⟩:=List.map_eq_append_iff.1 h
  match b,hb with
  |[x],hb=>
   simp at hb;rw[zeJ,zdI S n l k a ha];unfold VU;rw[hb];rfl
theorem zlj (S:Dsk) (n:Nat) (l:List UInt8) (pre:List (Fin 16)):(stL S n l pre).2=pre.length/\(stL S n l pre).1.1.pend.length<=S.pend.length+pre.length:=by
 suffices h:∀(pre:List (Fin 16)) (p:(Dsk×Int)×Nat),(pre.foldl (VU n l) p).2=p.2+pre.length/\(pre.foldl (VU n l) p).1.1.pend.length<=p.1.1.pend.length+pre.length by
  have:=h pre ((S,0),0);unfold stL;exact ⟨by rw[this.1];simp,this.2⟩
 intro pre
 induction pre with
 |nil=>intro p;exact ⟨rfl,Nat.le_refl _⟩
 |cons x pre ih=>
  intro p;obtain ⟨h1,h2⟩:=ih (VU n l p x);rw[List.foldl_cons,List.length_cons];refine ⟨by rw[h1];unfold VU;simp;omega,?_⟩;have:(VU n l p x).1.1.pend.length<=p.1.1.pend.length+1:=by
   unfold VU;simp only
   split
   ·exact Zy _ _ _
   ·omega
  omega
structure WSt (w:World) (B D:Nat) (S:Dsk) (own:Nat->Prop) (r a:Int) (W:World):Prop where
 disk:∃own',zQ W B D S own'/\∀j,own' j->own j\/w.heap.size+5<=j
 out:Out own w W
 bd:Blk W w.heap.size [.pointer (some ⟨D,0,none⟩)]
 br:Blk W (w.heap.size+1) [.int .i64 r]
 ba:Blk W (w.heap.size+2) [.int .i64 a]
theorem WSt.turn {w:World} {B D:Nat} {S:Dsk} {own:Nat->Prop} {r a:Int} {X Y:World} {row:Option Nat} (h:WSt w B D S own r a X) (hg:X.grownBy Y row) (hr:∀k,row=some k->w.heap.size+5<=k/\∃o:Obj,X.heap[k]?=some o/\o.isCells=false):WSt w B D S own r a Y:=by
 obtain ⟨own',h1,h2⟩:=h.disk;have ho:Out (fun k=>row=some k) X Y:=Out.of_grown hg fun k e _=>e
 refine ⟨⟨own',h1.out ho fun k hk e=>?_,h2⟩,h.out.grown hg fun k e=>.inr (by have:=(hr k e).1;omega),h.bd.grown hg ?_,h.br.grown hg ?_,h.ba.grown hg ?_⟩
 ·obtain ⟨o,e1,e2⟩:=h1.cells hk;obtain ⟨-,o',e3,e4⟩:=hr k e;rw[e1] at e3;injection e3 with e3;subst e3;rw[e2] at e4
  cases e4
 all_goals
  intro e;have:=(hr _ e).1;omega
attribute [local go_sem] Oper.semAt_some
theorem zgS {w:World} {B D:Nat} {S:Dsk} {own:Nat->Prop} (h:zQ w B D S own) (n:Nat) (hn:n<=1) (g c:Nat) (l:List UInt8) (hl:l.length=2048) (hc:2048<=c) (hc63:c<=9223372036854775807) (hr:Cz w own (some ⟨g,0,none⟩) (cellsOf l)) (hp:S.pend.length+16<=1073741824) :
 Calls Tryz.prog 92 #[.pointer (some ⟨D,0,none⟩),.int .i64 (n:Int),.slice (some ⟨g,0,none⟩) 2048 c] w fun e w'=>e=.returned (.int .i64 (zM S n l).2)/\XD w B D (zM S n l).1 own w':=by
 refine (callsIn_wide (n:=3)).1 ?_;obtain ⟨H,hH⟩:∃H,H=w.heap.size:=⟨_,rfl⟩
 obtain ⟨W0,hW0⟩:∃W0,(((((w.alloc (.cells #[.pointer (some ⟨D,0,none⟩)] 28)).alloc (.cells #[.int .i64 0] 33)).alloc (.cells #[.int .i64 (16*(n:Int))] 3)).alloc (.cells #[.slice (some ⟨g,0,none⟩) 2048 c] 24)).alloc (.cells #[.int .i64 128] 3))=W0:=⟨_,rfl⟩
 have hsz:W0.heap.size=H+5:=by rw[<-hW0,hH];simp
 have hb0:Below w.heap.size w W0:=by
  rw[<-hW0];exact (((((Below.refl _ w).alloc (Nat.le_refl _) _).alloc (by simp) _).alloc (by simp;omega) _).alloc (by simp;omega) _).alloc (by simp;omega) _
 have hB0:Blk W0 H [.pointer (some ⟨D,0,none⟩)]:=by
  rw[<-hW0,hH];exact ((((Blk.new w [.pointer (some ⟨D,0,none⟩)] _).alloc _).alloc _).alloc _).alloc _
 have hB1:Blk W0 (H+1) [.int .i64 0]:=by
  rw[<-hW0,hH];exact (((Blk.new' (w.alloc _) [.int .i64 0] _ (by simp)).alloc _).alloc _).alloc _
 have hB2:Blk W0 (H+2) [.int .i64 (16*(n:Int))]:=by
  rw[<-hW0,hH];exact ((Blk.new' ((w.alloc _).alloc _) [.int .i64 (16*(n:Int))] _ (by simp)).alloc _).alloc _
 have hB3:Blk W0 (H+3) [.slice (some ⟨g,0,none⟩) 2048 c]:=by
  rw[<-hW0,hH];exact (Blk.new' (((w.alloc _).alloc _).alloc _) [.slice (some ⟨g,0,none⟩) 2048 c] _ (by simp)).alloc _
 have hB4:Blk W0 (H+4) [.int .i64 128]:=by
  rw[<-hW0,hH];exact Blk.new' ((((w.alloc _).alloc _).alloc _).alloc _) [.int .i64 128] _ (by simp)
 have HD:=gI h;have HF:=gI (show WSt w B D S own 0 (16*(n:Int)) W0 from ⟨⟨own,h.past hb0,fun j hj=>.inl hj⟩,.of_below hb0,by rw[<-hH];exact hB0,by rw[<-hH];exact hB1,by rw[<-hH];exact hB2⟩);have HB3:=gI hB3;have HB4:=gI hB4;have HR:=gI hr;have HL:=gI hl;have HW0:=gI hW0;have HH:=gI hH;have emul:(n:Int)*16=16*(n:Int):=by omega
 clear h hb0 hB0 hB1 hB2 hB3 hB4 hr hl hW0 hH;refine callsIn_of_wp_marks Tryz.func92 rfl trivial ?_ rfl;simp only[Tryz.ntmps92,List.size_toArray,List.length_cons,List.length_nil,Nat.reduceAdd,Nat.reduceSub,Array.replicate_succ,Array.replicate_zero,List.push_toArray,List.append_toArray,List.nil_append,List.cons_append]
 gi_wp2_with ((refine ⟨trivial,?_⟩);(refine (callsIn_wide.2 (ziE _ _ _ _)).mono ?_);rintro e w' ⟨rfl,rfl⟩)
 rw[HW0.out,<-HH.out];rw[show H+1+1+1+1=H+4 from rfl,show H+1+1+1=H+3 from rfl,show H+1+1=H+2 from rfl];clear HW0;refine wpIn_rangeFunc_ownH rfl (by omega) (gf:=109) (lb:=#[.pointer (some ⟨H+3,0,none⟩),.pointer (some ⟨H+4,0,none⟩)]) rfl trivial (enters_of Tryz.func109 (by kernel_rfl) rfl)
  (w0:=W0) (zen 2 (by omega) (H+3) (H+4) g c hc hc63 W0 (HB3.out.cell (i:=0) rfl) (HB4.out.cell (i:=0) rfl)) (fun h k=>KB.trans h k) (fun W l o o' hl _ _ _=>KB.put (n:=H+5) (by omega) (by omega) W l o' (by rw[<-hsz];exact hl)) (Below.refl _ _) (fun _=>rfl)
  (fun pre W=>(stL S n l pre).1.2=0/\WSt w B D (stL S n l pre).1.1 own 0 (16*(n:Int)+(pre.length:Int)) W)
  (fun c pre W=>c=.ret/\(stL S n l pre).1.2≠0/\WSt w B D (stL S n l pre).1.1 own (stL S n l pre).1.2 (16*(n:Int)+(pre.length:Int)-1) W)
  (fun s X Y row hs hg hr=>⟨hs.1,hs.2.turn hg fun k e=>⟨by have:=(hr k e).1;have:=HH.out;omega,(hr k e).2⟩⟩)
  (fun c s X Y row hs hg hr=>⟨hs.1,hs.2.1,hs.2.2.turn hg fun k e=>⟨by have:=(hr k e).1;have:=HH.out;omega,(hr k e).2⟩⟩)
  ⟨rfl,HF.out⟩
  (fun x a' W=>a'={tmps:=#[.pointer (some ⟨D,0,none⟩),.int .i64 (n:Int),.slice (some ⟨g,0,none⟩) 2048 c,.pointer (some ⟨H,0,none⟩),undef,undef,.pointer (some ⟨H+1,0,none⟩),.pointer (some ⟨H+2,0,none⟩),.slice (some ⟨g,128*x.val,none⟩) 128 128,undef,.int .i64 (n:Int),.int .i64 (16*(n:Int)),.slice (some ⟨g,0,none⟩) 2048 c,.func (.func 109) #[] #[.pointer (some ⟨H+3,0,none⟩),.pointer (some ⟨H+4,0,none⟩)],.slice (some ⟨g,128*x.val,none⟩) 128 128,undef,undef,undef,undef,undef,undef,undef,undef,undef,undef,undef],defers:=[]})
  (fun x a' _ X Y row hs hg hr=>hs)
  ?assign ?body ?done ?stop
 case assign=>
  rintro l' pre x W K hI hK
  dsimp only[encC]
  gi_wp2
  exact hK _ _ (KeepsFrom.refl _ _) (fun _ _=>rfl) hI rfl
 case body=>
  rintro l' pre x a' W hl' ⟨rr,hrr⟩ ⟨hz,hst⟩ rfl hlt;obtain ⟨own',hd,hn2⟩:=hst.disk;obtain ⟨hlen,hpen⟩:=zlj S n l pre;have x0:W.cell? ⟨H,0,none⟩=some (.pointer (some ⟨D,0,none⟩)):=by rw[HH.out];exact hst.bd.cell rfl
  have x2:W.cell? ⟨H+2,0,none⟩=some (.int .i64 (16*(n:Int)+(pre.length:Int))):=by rw[HH.out];exact hst.ba.cell rfl
  obtain ⟨S',hS'⟩:∃S',S'=(stL S n l pre).1.1:=⟨_,rfl⟩
  rw[<-hS'] at hd hpen;have hsn:stL S n l (pre++[x])=(zY S' ((16*n+pre.length:Nat):Int) (qQ l x.val),pre.length+1):=by
   rw[zeJ];unfold VU;rw[hlen,if_pos hz,<-hS']
  obtain ⟨i,hi⟩:∃i:Int,i=16*(n:Int)+(pre.length:Int):=⟨_,rfl⟩
  have hie:((16*n+pre.length:Nat):Int)=i:=by omega
  rw[hie] at hsn;rw[<-hi] at x2;have hcz:Cz W own' (some ⟨g,128*x.val,none⟩) (cellsOf (qQ l x.val)):=fun _=>by
   have hcl:=za l;obtain ⟨q,e,q1,q2,q3⟩:=HR.out (by rw[hcl,HL.out];omega);injection e with e;subst e;have hx:=x.isLt;refine ⟨_,rfl,Nat.lt_of_lt_of_le q1 hst.out.size,fun hg=>?_,fun j v hv=>?_⟩
   ·rcases hn2 g hg with h|h
    ·exact q2 h
    ·have:g<w.heap.size:=q1;omega
   ·have hj:=(List.getElem?_eq_some_iff.1 hv).1;rw[za,xW HL.out hx] at hj;have:=q3 (128*x.val+j) v (by
     rw[<-hv];unfold qQ cellsOf;rw[List.getElem?_map,List.getElem?_map,List.getElem?_take,if_pos hj,List.getElem?_drop])
    rw[Addr.add_mid,Nat.zero_add] at this;rw[Addr.add_mid];exact (hst.out.cell (p:=⟨g,128*x.val+j,none⟩) q1 q2).trans this
  have HWR:=gI (zbS hd i _ 128 128 (qQ l x.val) (xW HL.out x.isLt) hcz (fun a e=>by injection e with e;rw[<-e]) (by omega));have HST:=gI hst;have HN2:=gI hn2;have HD2:=gI hd;have HSN:=gI hsn;have HI:=gI hi;have hw5:H+5<=W.heap.size:=by have:=(Array.getElem?_eq_some_iff.1 hrr).1;omega
  have hi1:-9223372036854775808<=i/\i+1<=9223372036854775807:=by omega
  have hn15:∀j,own' j->j≠H+2/\j≠H+1/\j≠H/\j≠H+3/\j≠H+4:=fun j hj=>by
   have e0:=HH.out;rcases hn2 j hj with h|h
   ·have:=(HD.out.lt h).2;omega
   ·omega
  have HN15:=gI hn15;clear hcz hst hn2 hd hz hlen hpen hsn hS' hi hie hn15
  gi_wp2_with ((refine ⟨trivial,?_⟩);(refine (callsIn_wide.2 HWR.out).mono ?_))
  rintro e w1 ⟨rfl,own2,hd2,ho2,hn3⟩;obtain ⟨p,hp⟩:∃p,zY S' i (qQ l x.val)=p:=⟨_,rfl⟩
  obtain ⟨T,r⟩:=p;rw[hp] at hd2 HSN ⊢;have b0:=HST.out.bd.out ho2 (by rw[<-HH.out];exact fun h=>(HN15.out _ h).2.2.1 rfl);have b1:=HST.out.br.out ho2 (by rw[<-HH.out];exact fun h=>(HN15.out _ h).2.1 rfl);have b2:=HST.out.ba.out ho2 (by rw[<-HH.out];exact fun h=>(HN15.out _ h).1 rfl);rw[<-HH.out] at b0 b1 b2;rw[<-HI.out] at b2;have HB0:=gI b0;have HB1:=gI b1;have HB2:=gI b2;have HD3:=gI hd2;have HO3:=gI ho2;have HN3:=gI hn3;have c1:=b1.cell (i:=0) rfl;have f1:=b1.frozen 0;have c2:=b2.cell (i:=0) rfl;have f2:=b2.frozen 0;have hs1:=ho2.size;have HWS:=gI (fun (q:Nat) (hq:q=H+1\/q=H+2) (v:Value)=>show (∀k,own2 k->¬k=q)/\Out (fun k=>own' k\/k=q) W (w1.setCell ⟨q,0,none⟩ v) from
   ⟨fun k hk e=>by
     rcases HN3.out k hk with h|h
     ·have:=HN15.out k h;omega
     ·omega,(HO3.out.more (S':=fun k=>own' k\/k=q) fun k _ h=>.inl h).setCell (p:=⟨q,0,none⟩) (.inl (.inr rfl)) v⟩)
  have HKF:=gI (fun (q:Nat) (hq:q=H+1\/q=H+2) (v:Value)=>show KeepsFrom W0.heap.size W (w1.setCell ⟨q,0,none⟩ v) from qY (HWS.out q hq v).2 (fun k hk=>by
   rcases hk with h|rfl
   ·exact HD2.out.cells h
   ·rcases hq with rfl|rfl
    ·obtain ⟨t,e⟩:=HST.out.br;rw[<-HH.out] at e;exact ⟨_,e,rfl⟩
    ·obtain ⟨t,e⟩:=HST.out.ba;rw[<-HH.out] at e;exact ⟨_,e,rfl⟩))
  have HNX:=gI (fun (q:Nat) (hq:q=H+1\/q=H+2) (v:Value) (r' a':Int) (hr:Blk (w1.setCell ⟨q,0,none⟩ v) (H+1) [.int .i64 r']) (ha:Blk (w1.setCell ⟨q,0,none⟩ v) (H+2) [.int .i64 a'])=>show WSt w B D T own r' a' (w1.setCell ⟨q,0,none⟩ v) from by
   have e0:=HH.out;obtain ⟨h1,h2⟩:=HWS.out q hq v;refine ⟨⟨own2,HD3.out.out ((Out.refl (fun k=>k=q) w1).setCell (p:=⟨q,0,none⟩) (.inl rfl) v) h1,fun j hj=>?_⟩,HST.out.out.trans' h2 (fun j hj=>?_),?_,by rw[<-e0];exact hr,by rw[<-e0];exact ha⟩
   ·rcases HN3.out j hj with h|h
    ·exact HN2.out j h
    ·right;omega
   ·rcases hj with h|rfl
    ·rcases HN2.out j h with h|h
     ·exact .inl h
     ·right;omega
    ·right;omega
   ·rw[<-e0];exact HB0.out.other (p:=⟨q,0,none⟩) (by show q≠H;omega) v)
  have HPL:=gI (show (pre++[x]).length=pre.length+1 by simp);clear hd2 ho2 hn3 b0 b1 b2 hp
  by_cases hr:r=0
  ·subst hr
   gi_wp2
   refine ⟨HKF.out _ (.inr rfl) _,fun p hp=>?_,?_,?_⟩
   ·have e0:=HH.out;refine (HWS.out (H+2) (.inr rfl) _).2.cell ?_ ?_
    ·rcases hp with h|h<;>omega
    ·rintro (h|h)
     ·have:=HN15.out _ h;omega
     ·omega
   ·rw[HSN.out]
   ·rw[HSN.out,HPL.out];exact HNX.out _ (.inr rfl) _ _ _ (HB1.out.other (p:=⟨H+2,0,none⟩) (by show H+2≠H+1;omega) _) (by
     have:=HB2.out.set 0 (.int .i64 (16*(n:Int)+((pre.length+1:Nat):Int)));have e:i+1=16*(n:Int)+((pre.length+1:Nat):Int):=by have:=HI.out;omega
     rw[e];exact this)
  ·have d1:(r != 0)=true:=by rw[bne_iff_ne];exact hr
   gi_wp2
   refine ⟨HKF.out _ (.inl rfl) _,rfl,?_,?_⟩
   ·rw[HSN.out];exact hr
   ·rw[HSN.out,HPL.out];exact HNX.out _ (.inl rfl) _ _ _ (HB1.out.set 0 (.int .i64 r)) (by
     have:=HB2.out.other (p:=⟨H+1,0,none⟩) (by show H+1≠H+2;omega) (.int .i64 r);have e:16*(n:Int)+((pre.length+1:Nat):Int)-1=i:=by have:=HI.out;omega
     rw[e];exact this)
 case done=>
  rintro Dk ys W hDk hS ⟨hz,hst⟩ hK;have h2:=zdI S n l 16 ys hS;rw[h2] at hz hst;have hz':(stD S n l 16).2=0:=hz;obtain ⟨own',hd,hn2⟩:=hst.disk;have hpen:=za6 S n l 16;have HE:=gI (show zM S n l=yB (stD S n l 16).1 by unfold zM;rw[if_pos hz']);obtain ⟨S',hS'⟩:∃S',S'=(stD S n l 16).1:=⟨_,rfl⟩
  have hd':zQ W B D S' own':=by rw[hS'];exact hd
  rw[<-hS'] at HE hpen;have HSY:=gI (zeI hd' (by omega));have x0:W.cell? ⟨H,0,none⟩=some (.pointer (some ⟨D,0,none⟩)):=by rw[HH.out];exact hst.bd.cell rfl
  have HST:=gI hst;have HN2:=gI hn2;have HD2:=gI hd';have HDK:=gI hDk;have HK:=gI hK;clear hst hn2 hd hd' hz hz' h2 hS' hpen hK hDk
  gi_wp2_with ((refine ⟨trivial,?_⟩);(refine (callsIn_wide.2 HSY.out).mono ?_))
  rintro e w1 rfl ⟨own2,hd2,ho2,hn3⟩;rw[<-HE.out] at hd2 ⊢;have hn15:∀j,own' j->j≠H+2/\j≠H+1/\j≠H:=fun j hj=>by
   have e0:=HH.out;rcases HN2.out j hj with h|h
   ·have:=(HD.out.lt h).2;omega
   ·omega
  have b1:=HST.out.br.out ho2 (by rw[<-HH.out];exact fun h=>(hn15 _ h).2.1 rfl);rw[<-HH.out] at b1;have c1:=b1.cell (i:=0) rfl;have f1:=b1.frozen 0;have HB1:=gI b1;have HD3:=gI hd2;have HO3:=gI ho2;have HN3:=gI hn3;have hs1:=ho2.size;have HN15:=gI hn15;clear hd2 ho2 hn3 b1 x0 hn15
  gi_wp2
  have hlt:=(Array.getElem?_eq_some_iff.1 HK.out).1;have e0:=HH.out;have hDk:=HDK.out;have hba:=HST.out.ba.lt;have hnD:¬own' Dk:=fun h=>by
   obtain ⟨o,e1,e2⟩:=HD2.out.cells h;rw[HK.out] at e1;injection e1 with e1;subst e1
   cases e2
  have hK1:=(HO3.out.block Dk hlt hnD).trans HK.out;have oc:Out (fun k=>k=H+1) w1 (w1.setCell ⟨H+1,0,none⟩ (.int .i64 (zM S n l).2)):=(Out.refl (fun k=>k=H+1) w1).setCell (p:=⟨H+1,0,none⟩) (.inl rfl) _;have hK2:=(oc.block Dk (by omega) (fun e=>by omega)).trans hK1;refine ⟨by simp,.inl ⟨_,_,rfl,run_takeDeferred hK2,?_⟩⟩;have hg:Out (fun k=>k=Dk) (w1.setCell ⟨H+1,0,none⟩ (.int .i64 (zM S n l).2)) ((w1.setCell ⟨H+1,0,none⟩ (.int .i64 (zM S n l).2)).putObj Dk (.deferred none)):=
   Out.of_grown (grownBy_putObj' _ _ _) (fun k e _=>by injection e with e;exact e.symm)
  have hn2D:∀k,own2 k->¬k=H+1/\¬k=Dk:=fun k hk=>by
   constructor
   ·intro e;rcases HN3.out k hk with h|h
    ·have:=HN15.out k h;omega
    ·omega
   ·intro e;subst e;obtain ⟨o,e1,e2⟩:=HD3.out.cells hk;rw[hK1] at e1;injection e1 with e1;subst e1
    cases e2
  have r0:=((HB1.out.set 0 (.int .i64 (zM S n l).2)).out hg (by omega)).cell (i:=0) rfl;refine ⟨.int .i64 (zM S n l).2,?_,rfl,own2,(HD3.out.out oc fun k hk=>(hn2D k hk).1).out hg fun k hk=>(hn2D k hk).2,?_,fun j hj=>?_⟩
  ·simp[results,Tryz.results92,go_sem,r0]
  ·refine ((HST.out.out.trans' HO3.out (fun j hj=>?_)).trans' oc (fun j hj=>.inr (by have hj:j=H+1:=hj;omega))).trans' hg (fun j hj=>.inr (by have hj:j=Dk:=hj;omega));rcases HN2.out j hj with h|h
   ·exact .inl h
   ·right;omega
  ·rcases HN3.out j hj with h|h
   ·rcases HN2.out j h with h|h
    ·exact .inl h
    ·right;omega
   ·right;have:=HST.out.bd.lt;omega
 case stop=>
  rintro Dk cd pre W hDk ⟨k,hk,hpre⟩ ⟨rfl,hz,hst⟩ hK;have h2:=zdI S n l k pre hpre;rw[h2] at hz hst;have hE:zM S n l=stD S n l k:=by
   have:=zhd (k:=k) hz 16 hk;unfold zM;rw[this,if_neg hz]
  have HE:=gI hE;have HST:=gI hst;clear hst hE h2 hz hpre
  gi_wp2
  refine ⟨by simp,.inl ⟨_,_,rfl,run_takeDeferred hK,?_⟩⟩;have hg:W.grownBy (W.putObj Dk (.deferred none)) (some Dk):=grownBy_putObj' _ _ _;have hst:=HST.out.turn hg (fun k e=>by injection e with e;subst e;exact ⟨by have:=HH.out;omega,_,hK,rfl⟩);obtain ⟨own',hd,hn2⟩:=hst.disk;have r0:=hst.br.cell (i:=0) rfl;rw[<-HH.out] at r0;refine ⟨.int .i64 (stD S n l k).2,?_,?_,?_⟩
  ·simp[results,Tryz.results92,go_sem,r0]
  ·rw[HE.out]
  ·rw[HE.out];exact ⟨own',hd,hst.out,fun j hj=>by
    rcases hn2 j hj with h|h
    ·exact .inl h
    ·right;omega⟩
end
section
open Go.RowKit Me Mf Rw Ds
def wmD (S:Dsk) (m:ManD):Nat->Dsk×Int
 |0=>(S,0)
 |k+1=>if (wmD S m k).2=0 then zM (wmD S m k).1 ((m.version+k)%2) (xZ m) else wmD S m k
theorem zaf (S:Dsk):(yB S).1.pend.length<=S.pend.length:=by
 unfold yB
 repeat' split
 all_goals simp[(xk S).1]
theorem zdB (S:Dsk) (n:Nat) (l:List UInt8):(zM S n l).1.pend.length<=S.pend.length+16:=by
 have h:=za6 S n l 16;unfold zM
 split
 ·exact Nat.le_trans (zaf _) h
 ·exact h
theorem zez (S:Dsk) (m:ManD):∀k,(wmD S m k).1.pend.length<=S.pend.length+16*k
 |0=>Nat.le_refl _
 |k+1=>by
  have h:=zez S m k;rw[wmD]
  split
  ·have:=zdB (wmD S m k).1 ((m.version+k)%2) (xZ m);omega
  ·omega
theorem QW {S:Dsk} {m:ManD} {k:Nat} (h:(wmD S m k).2≠0):∀j,k<=j->wmD S m j=wmD S m k:=by
 intro j hj
 induction j with
 |zero=>rw[show k=0 by omega]
 |succ j ih=>
  by_cases e:k=j+1
  ·rw[e]
  ·have:=ih (by omega);rw[wmD,this,if_neg h]
theorem zaC {w:World} {B D:Nat} {S:Dsk} {own:Nat->Prop} (h:zQ w B D S own) (A:Option Addr) (n c:Nat) (m:ManD) (hm:Zc w w.heap.size A n c m) (hs:Small m) (hf:Fit m) (hp:S.pend.length+32<=1073741824) :
 Calls Tryz.prog 55 #[.pointer (some ⟨D,0,none⟩),mval m.version m.next A n c] w fun e w'=>e=.returned (.int .i64 (wmD S m 2).2)/\XD w B D (wmD S m 2).1 own w':=by
 obtain ⟨H,hH⟩:∃H,H=w.heap.size:=⟨_,rfl⟩
 obtain ⟨v,hv⟩:∃v,v=m.version:=⟨_,rfl⟩
 obtain ⟨w0,hw0⟩:∃w0,w0=w.alloc (.cells #[.int .u64 (v:Int),.int .u32 (m.next:Int),.slice A n c] 110):=⟨_,rfl⟩
 have HW0:=gI hw0;have hb0:Below w.heap.size w w0:=by rw[hw0];exact (Below.refl _ _).alloc (Nat.le_refl _) _
 have BX0:=gI (show Blk w0 H [.int .u64 (v:Int),.int .u32 (m.next:Int),.slice A n c] by rw[hw0,hH];exact Blk.new w [.int .u64 (v:Int),.int .u32 (m.next:Int),.slice A n c] _);have HB0:=gI hb0;have HM0:=gI (zff A n c m w0 hs (hm.past hb0));rw[<-hv] at HM0;have HD:=gI h;have HF:=gI hf;have HV:=gI hv;have HH:=gI hH;have hv64:v<18446744073709551616:=by rw[hv];exact hm.wf.version
 have i0:=BX0.out.cell (i:=0) rfl;have i1:=BX0.out.cell (i:=1) rfl;have i2:=BX0.out.cell (i:=2) rfl;rw[hw0] at i0 i1 i2;rw[<-hv];clear h hw0 hb0 hm hf hs hH hv
 go_enter Tryz.func55,Tryz.ntmps55
 go_wp2_with fail
 rw[<-HW0.out,<-HH.out];refine HM0.out.mono ?_;rintro e w1 ⟨hb1,h1⟩;rcases h1 with ⟨-,vv,rfl,ho⟩|⟨hno,-⟩
 rotate_left
 ·exact absurd HF.out hno
 obtain ⟨g,cap,rfl,hg1,hg2⟩:=ho.form (by omega);have hcap:2048<=cap/\cap<=9223372036854775807:=by
  obtain ⟨-,⟨e,-⟩|⟨g',cap',cur,e,-,-,h1,h2,-⟩⟩:=ho
  ·cases e
  ·injection e with _ _ e;subst e;exact ⟨h1,h2⟩
 have HO:=gI ho;have HB1:=gI (HB0.out.trans (hb1.mono HB0.out.size));have BX1:=gI (BX0.out.past hb1);have HD1:=gI (HD.out.past HB1.out);have hs0:H<w0.heap.size:=BX0.out.lt;have hs1:=hb1.size;obtain ⟨l,hl⟩:∃l,l=xZ m:=⟨_,rfl⟩
 rw[<-hl] at HO;have HLL:=gI (show l.length=2048 by rw[hl];exact qR HF.out);have HL:=gI hl;clear hb1 ho hl HW0 i0 i1 i2 HM0
 go_wp2_with fail
 go_loopw [17] (fun i wr=>∃(k:Nat) (own':Nat->Prop),k<=2/\i=.int .u64 (k:Int)/\Hid ((wmD S m k).2=0)/\Hid (zQ wr B D (wmD S m k).1 own')/\Hid (∀j,own' j->own j\/w1.heap.size<=j)/\Hid (Out own w wr)/\Hid (Blk wr H [.int .u64 (v:Int),.int .u32 (m.next:Int),.slice A n c])/\Hid (wr.ownsRow w0.heap.size 5 1 (.slice (some ⟨g,0,none⟩) 2048 cap) 2048 (cellsOf l))/\Hid (w1.heap.size<=wr.heap.size)) (fun i _=>2-(intOf i).toNat)
 case atStart=>exact ⟨0,own,by omega,rfl,gI rfl,HD1,gI (fun j h=>.inl h),gI (.of_below HB1.out),BX1,HO,gI (Nat.le_refl _)⟩
 case round=>
  clear BX1 HO HD1;obtain ⟨k,own',hk,rfl,HZ,HD2,HN,HOU,BX,O,HSZ⟩:=hrel;have i0:=BX.out.cell (i:=0) rfl
  by_cases hlt:k<2
  ·have hpen:=zez S m k;obtain ⟨p,hp⟩:∃p:Nat,p=(v+k)%2:=⟨_,rfl⟩
   obtain ⟨y,hy⟩:∃y:Nat,y=(v+k)%18446744073709551616:=⟨_,rfl⟩
   have e1:IntKind.u64.wrap ((v:Int)+(k:Int))=(y:Int):=by
    simp[IntKind.wrap,IntKind.bits,IntKind.signed];omega
   have e2:(y:Int).tmod 2=(p:Int):=by
    rw[Int.tmod_eq_emod_of_nonneg (by omega)];omega
   have hp1:p<=1:=by omega
   have hy64:y<18446744073709551616:=by omega
   have HP:=gI (show p=(m.version+k)%2 by rw[hp,HV.out]);have hcz:Cz wr own' (some ⟨g,0,none⟩) (cellsOf l):=fun hn=>by
    obtain ⟨a,e,q1,q2⟩:=Cs.of_own O.out hn;injection e with e;subst e;refine ⟨_,rfl,q1,fun h=>?_,q2⟩;have e0:=HH.out;rcases HN.out g h with h|h
    ·have:=(HD.out.lt h).2;omega
    ·omega
   have HWS:=gI (zgS HD2.out p hp1 g cap l HLL.out hcap.1 hcap.2 hcz (by omega));clear hp hy hcz hpen
   go_wp2_with fail
   refine HWS.out.mono ?_;rintro e w2 ⟨rfl,own2,hd2,ho2,hn2⟩;have hE:zM (wmD S m k).1 p l=wmD S m (k+1):=by
    rw[wmD,if_pos HZ.out,<-HP.out,HL.out]
   rw[hE] at hd2 ⊢;have HD3:=gI hd2;have HN3:=gI (show ∀j,own2 j->own j\/w1.heap.size<=j from fun j hj=>by
    rcases hn2 j hj with h|h
    ·exact HN.out j h
    ·exact .inr (Nat.le_trans HSZ.out h))
   have hnH:¬own' H:=fun h=>by
    have e0:=HH.out;rcases HN.out H h with h|h
    ·have:=(HD.out.lt h).2;omega
    ·omega
   have hng:¬own' g:=fun h=>by
    have e0:=HH.out;rcases HN.out g h with h|h
    ·have:=(HD.out.lt h).2;omega
    ·omega
   have BX3:=gI (BX.out.out ho2 hnH);have O3:=gI (zn O.out ho2 fun j e hj=>by
    have e':some g=some j:=e;injection e' with e';subst e';exact hng hj)
   have HOU3:=gI (HOU.out.trans' ho2 fun j hj=>by
    rcases HN.out j hj with h|h
    ·exact .inl h
    ·right;have:=HB1.out.size;omega)
   have HSZ3:=gI (Nat.le_trans HSZ.out ho2.size);have HWE:=gI (QW (S:=S) (m:=m) (k:=k+1));obtain ⟨r,hr⟩:∃r,r=(wmD S m (k+1)).2:=⟨_,rfl⟩
   rw[<-hr];have HR:=gI hr;clear hd2 ho2 hn2 hnH hng hE hr i0
   by_cases hr0:r=0
   ·subst hr0
    go_wp2
    go_roundw
    case rel=>exact ⟨k+1,own2,by omega,by go_num,gI HR.out.symm,HD3,HN3,HOU3,BX3,O3,HSZ3⟩
    case measure=>simp[intOf];omega
   ·have d1:(r != 0)=true:=by rw[bne_iff_ne];exact hr0
    go_wp2
    go_ret
    have e2:=HWE.out (by rw[<-HR.out];exact hr0) 2 (by omega);rw[e2];exact ⟨qK HR.out,own2,HD3.out,HOU3.out,fun j hj=>by
     rcases HN3.out j hj with h|h
     ·exact .inl h
     ·right;have:=HB1.out.size;omega⟩
  ·have hk2:k=2:=by omega
   subst hk2
   go_wp2
   go_ret
   exact ⟨qK HZ.out.symm,own',HD2.out,HOU.out,fun j hj=>by
    rcases HN.out j hj with h|h
    ·exact .inl h
    ·right;have:=HB1.out.size;omega⟩
end
section
open Go.RowKit Me Mf Rw Ds
theorem Ya (K T:Nat):∀(l:List WD) (k:Nat) (st:List (List UInt8)) (j:Nat),(∀x∈l,x.i≠j)->(Ds.settle K T k l st).getD j []=st.getD j []
 |[],_,_,_,_=>rfl
 |x::l,k,st,j,h=>by
  rw[Ds.settle,Ya K T l _ _ j fun y hy=>h y (by simp[hy])];have:=h x (by simp);rw[List.getD_eq_getElem?_getD,List.getElem?_set,if_neg this,List.getD_eq_getElem?_getD]
theorem YP:∀(l:List WD) (k:Nat) (st:List (List UInt8)) (j:Nat),j<st.length->(∀x∈l,x.b.length=128)->(∀b∈st,b.length=128)->(Ds.settle ones 0 k l st).getD j []=qM l j (st.getD j [])
 |[],_,_,_,_,_,_=>rfl
 |x::l,k,st,j,hj,hl,hs=>by
  have hx:=hl x (by simp);have e:x.b.take (surv ones 0 k)++(st.getD x.i []).drop (surv ones 0 k)=x.b:=by
   have:surv ones 0 k=128:=by unfold surv;rw[zjU,if_pos rfl]
   rw[this,List.take_of_length_le (by omega),List.drop_of_length_le,List.append_nil];rw[List.getD_eq_getElem?_getD]
   cases hg:st[x.i]? with
   |none=>simp
   |some b=>have:=hs b (List.mem_of_getElem? hg);simp[this]
  rw[Ds.settle,e,YP l _ _ j (by rw[List.length_set];exact hj) (fun y hy=>hl y (by simp[hy])) (fun b hb=>by
   rcases List.mem_or_eq_of_mem_set hb with h|h
   ·exact hs b h
   ·rw[h];exact hx),qM]
  congr 1
  rw[List.getD_eq_getElem?_getD,List.getD_eq_getElem?_getD,List.getElem?_set]
  by_cases e2:x.i=j
  ·subst e2;rw[if_pos rfl,if_pos rfl,if_pos hj];rfl
  ·rw[if_neg e2,if_neg e2]
theorem Qg (S:Dsk) (i:Int) (l:List UInt8):((zY S i l).2=0/\(zY S i l).1.stored=S.stored/\(zY S i l).1.pend=S.pend++[⟨i.toNat,l⟩]/\(zY S i l).1.on=true)\/((zY S i l).2≠0/\(zY S i l).1.stored=S.stored/\(zY S i l).1.pend=S.pend):=by
 obtain ⟨h1,h2⟩:=xk S;unfold zY
 split
 ·split
  ·split
   ·split
    ·rename_i h;exact .inl ⟨rfl,h2,by simp[h1],h⟩
    ·exact .inr ⟨by simp,h2,h1⟩
   ·exact .inr ⟨by simp,rfl,rfl⟩
  ·exact .inr ⟨by simp,rfl,rfl⟩
 ·exact .inr ⟨by simp,rfl,rfl⟩
theorem YN (S:Dsk):((yB S).2=0/\(yB S).1.stored=Ds.settle ones 0 0 S.pend S.stored/\(yB S).1.pend=[]/\(yB S).1.on=true)\/((yB S).2≠0/\(yB S).1.stored=S.stored/\(yB S).1.pend=S.pend):=by
 obtain ⟨h1,h2⟩:=xk S;unfold yB
 split
 ·split
  ·rename_i h;exact .inl ⟨rfl,by simp[h1,h2],rfl,h⟩
  ·exact .inr ⟨by simp,h2,h1⟩
 ·exact .inr ⟨by simp,rfl,rfl⟩
def chW (n:Nat) (l:List UInt8) (k:Nat):List WD:=(List.range k).map fun i=>⟨16*n+i,qQ l i⟩
theorem zfz (n:Nat) (l:List UInt8) (k:Nat):chW n l (k+1)=chW n l k++[⟨16*n+k,qQ l k⟩]:=by simp[chW,List.range_succ]
theorem zfA {n:Nat} {l:List UInt8} {k:Nat} {x:WD} (h:x∈chW n l k) (hk:k<=16):16*n<=x.i/\x.i<16*n+16:=by
 obtain ⟨i,hi,rfl⟩:=List.mem_map.1 h;have:=List.mem_range.1 hi;exact ⟨by show 16*n<=16*n+i;omega,by show 16*n+i<16*n+16;omega⟩
theorem QZ (S:Dsk) (n:Nat) (l:List UInt8):∀k,(stD S n l k).1.stored=S.stored/\∃j,j<=k/\(stD S n l k).1.pend=S.pend++chW n l j/\((stD S n l k).2=0->j=k)
 |0=>⟨rfl,0,Nat.le_refl _,by simp[stD,chW],fun _=>rfl⟩
 |k+1=>by
  obtain ⟨h1,j,hj,h2,h3⟩:=QZ S n l k;rw[stD]
  split
  ·rename_i hz
   have hjk:=h3 hz;subst hjk;rcases Qg (stD S n l j).1 ((16*n+j:Nat):Int) (qQ l j) with ⟨q0,q1,q2,-⟩|⟨q0,q1,q2⟩
   ·refine ⟨q1.trans h1,j+1,Nat.le_refl _,?_,fun _=>rfl⟩;rw[q2,h2,zfz,Int.toNat_natCast,List.append_assoc]
   ·exact ⟨q1.trans h1,j,by omega,q2.trans h2,fun h=>absurd h q0⟩
  ·rename_i hz
   exact ⟨h1,j,by omega,h2,fun h=>absurd h hz⟩
def Zf (st:List (List UInt8)) (n:Nat):Nat->List UInt8
 |0=>[]
 |k+1=>Zf st n k++st.getD (16*n+k) []
theorem zeL {st st':List (List UInt8)} {n:Nat} (h:∀j,16*n<=j->j<16*n+16->st.getD j []=st'.getD j []):∀k,k<=16->Zf st n k=Zf st' n k
 |0,_=>rfl
 |k+1,hk=>by rw[Zf,Zf,zeL h k (by omega),h _ (by omega) (by omega)]
theorem zb6 {st:List (List UInt8)} {n:Nat} {l:List UInt8} (hl:l.length=2048) (h:∀j,j<16->st.getD (16*n+j) []=qQ l j):Zf st n 16=l:=by
 have:∀k,k<=16->Zf st n k=l.take (128*k):=by
  intro k
  induction k with
  |zero=>intro _;rfl
  |succ k ih=>
   intro hk;rw[Zf,ih (by omega),h k (by omega),qQ,Nat.mul_succ,List.take_add]
 rw[this 16 (Nat.le_refl _),List.take_of_length_le (by omega)]
theorem Qk {S:Dsk} (hon:S.on=true) (hp:S.pend=[]) (hs:32<=S.stored.length) {n:Nat} (hn:n<=1):∀k,k<=16->qJ S n k=Zf S.stored n k
 |0,_=>rfl
 |k+1,hk=>by
  rw[qJ,Zf,Qk hon hp hs hn k (by omega)]
  congr 1
  unfold qV qf ZI;rw[hon,ZM,decide_eq_true (by omega),hp,Int.toNat_natCast];rfl
theorem zcY (n:Nat) (l:List UInt8) (b:List UInt8):∀(k i:Nat),i<k->qM (chW n l k) (16*n+i) b=qQ l i
 |0,_,h=>by omega
 |k+1,i,h=>by
  rw[zfz,zgl]
  by_cases e:k=i
  ·subst e;exact if_pos rfl
  ·rw[if_neg (by show ¬16*n+k=16*n+i;omega)];exact zcY n l b k i (by omega)
theorem qB {S:Dsk} (hp:S.pend=[]) (hb:∀b∈S.stored,b.length=128) {n:Nat} (hs:16*n+16<=S.stored.length) {l:List UInt8} (hl:l.length=2048) :
 ((zM S n l).2=0/\Zf (zM S n l).1.stored n 16=l/\(∀j,¬(16*n<=j/\j<16*n+16)->(zM S n l).1.stored.getD j []=S.stored.getD j [])/\(zM S n l).1.pend=[]/\(zM S n l).1.on=true/\(zM S n l).1.stored.length=S.stored.length) \/
 ((zM S n l).2≠0/\(zM S n l).1.stored=S.stored/\∀x∈(zM S n l).1.pend,16*n<=x.i/\x.i<16*n+16):=by
 obtain ⟨h1,j,hj,h2,h3⟩:=QZ S n l 16;rw[hp,List.nil_append] at h2;unfold zM
 split
 ·rename_i hz
  have hj16:=h3 hz;subst hj16;rcases YN (stD S n l 16).1 with ⟨q0,q1,q2,q3⟩|⟨q0,q1,q2⟩
  ·rw[h1,h2] at q1;refine .inl ⟨q0,?_,fun j hj=>?_,q2,q3,by rw[q1,xU]⟩
   ·refine zb6 hl fun j hj=>?_
    rw[q1,YP _ _ _ _ (by omega) (fun x hx=>?_) hb]
    ·exact zcY n l _ 16 j hj
    ·obtain ⟨i,hi,rfl⟩:=List.mem_map.1 hx;exact xW hl (List.mem_range.1 hi)
   ·rw[q1,Ya _ _ _ _ _ _ fun x hx e=>hj (by have:=zfA hx (Nat.le_refl _);omega)]
  ·exact .inr ⟨q0,q1.trans h1,fun x hx=>zfA (n:=n) (l:=l) (k:=16) (by rw[q2,h2] at hx;exact hx) (Nat.le_refl _)⟩
 ·rename_i hz
  exact .inr ⟨hz,h1,fun x hx=>zfA (n:=n) (l:=l) (k:=j) (by rw[h2] at hx;exact hx) hj⟩
theorem zeK {S:Dsk} (hon:S.on=true) (hf:S.fuse<0) {n:Nat} (hs:16*n+16<=S.stored.length) {l:List UInt8} (hl:l.length=2048):∀k,k<=16->(stD S n l k).2=0/\(stD S n l k).1.on=true/\(stD S n l k).1.fuse=S.fuse/\(stD S n l k).1.stored=S.stored
 |0,_=>⟨rfl,hon,rfl,rfl⟩
 |k+1,hk=>by
  obtain ⟨h0,h1,h2,h3⟩:=zeK hon hf hs hl k (by omega);rw[stD,if_pos h0,zbT h1 (by omega) (by rw[h3];omega) (xW hl (by omega))];exact ⟨rfl,h1,h2,h3⟩
theorem QO {S:Dsk} (hon:S.on=true) (hf:S.fuse<0) {n:Nat} (hs:16*n+16<=S.stored.length) {l:List UInt8} (hl:l.length=2048):(zM S n l).2=0/\(zM S n l).1.fuse=S.fuse:=by
 obtain ⟨h0,h1,h2,h3⟩:=zeK hon hf hs hl 16 (Nat.le_refl _);unfold zM;rw[if_pos h0];unfold yB;rw[h1,if_pos rfl,Xh (by omega),if_pos h1];exact ⟨rfl,h2⟩
end
section
open Go.RowKit Me Mf Rw Ds
theorem XH (K T:Nat):∀(l:List WD) (k:Nat) (st:List (List UInt8)),(∀x∈l,x.b.length=128/\x.i<st.length)->(∀b∈st,b.length=128)->∀b∈Ds.settle K T k l st,b.length=128
 |[],_,_,_,h=>h
 |x::l,k,st,hl,hs=>by
  obtain ⟨h1,h2⟩:=hl x (by simp);rw[Ds.settle];refine XH K T l _ _ (fun y hy=>by rw[List.length_set];exact hl y (by simp[hy])) fun b hb=>?_
  rcases List.mem_or_eq_of_mem_set hb with h|h
  ·exact hs b h
  ·have h3:(st.getD x.i []).length=128:=by
    rw[List.getD_eq_getElem?_getD,List.getElem?_eq_getElem h2];exact hs _ (List.getElem_mem _)
   have h4:=zhc K T k;rw[h,List.length_append,List.length_take,List.length_drop,h1,h3];omega
theorem Yq {S:Dsk} (hp:S.pend=[]) (hb:∀b∈S.stored,b.length=128) {n:Nat} (hs:16*n+16<=S.stored.length) {l:List UInt8} (hl:l.length=2048):(∀b∈(zM S n l).1.stored,b.length=128)/\(zM S n l).1.stored.length=S.stored.length:=by
 obtain ⟨h1,j,hj,h2,h3⟩:=QZ S n l 16;rw[hp,List.nil_append] at h2;have hch:∀x∈chW n l j,x.b.length=128/\x.i<S.stored.length:=fun x hx=>by
  have h4:=zfA hx hj;obtain ⟨i,hi,rfl⟩:=List.mem_map.1 hx;exact ⟨xW hl (by have:=List.mem_range.1 hi;omega),by omega⟩
 unfold zM
 split
 ·rcases YN (stD S n l 16).1 with ⟨q0,q1,q2,q3⟩|⟨q0,q1,q2⟩
  ·rw[q1,h1,h2];exact ⟨XH _ _ _ _ _ hch hb,xU _ _ _ _ _⟩
  ·rw[q1,h1];exact ⟨hb,rfl⟩
 ·rw[h1];exact ⟨hb,rfl⟩
structure Calm (S:Dsk):Prop where
 pend:S.pend=[]
 all:∀b∈S.stored,b.length=128
 size:32<=S.stored.length
theorem parity (v:Nat):(v%2=0/\(v+1)%2=1)\/(v%2=1/\(v+1)%2=0):=by omega
theorem zdO {st st':List (List UInt8)} {n q:Nat} (hq:q≠n) (h:∀j,¬(16*n<=j/\j<16*n+16)->st'.getD j []=st.getD j []):Zf st' q 16=Zf st q 16:=
 zeL (fun j h1 h2=>h j (by omega)) 16 (Nat.le_refl _)
theorem zbW {S:Dsk} (h:Calm S) {m:ManD} (hf:Fit m) :
 ((wmD S m 2).2≠0/\(wmD S m 2).1.stored=S.stored/\∀x∈(wmD S m 2).1.pend,16*(m.version%2)<=x.i/\x.i<16*(m.version%2)+16) \/
 ((wmD S m 2).2≠0/\Zf (wmD S m 2).1.stored (m.version%2) 16=xZ m/\(wmD S m 2).1.stored.length=S.stored.length/\∀x∈(wmD S m 2).1.pend,16*((m.version+1)%2)<=x.i/\x.i<16*((m.version+1)%2)+16) \/
 ((wmD S m 2).2=0/\(∀k,k<2->Zf (wmD S m 2).1.stored k 16=xZ m)/\Calm (wmD S m 2).1/\(wmD S m 2).1.on=true/\(wmD S m 2).1.stored.length=S.stored.length):=by
 have hl:=qR hf;have hpar:=parity m.version;have hsz:=h.size;have e1:wmD S m 1=zM S (m.version%2) (xZ m):=by rw[wmD,if_pos (show (wmD S m 0).2=0 from rfl)];rfl
 have ha:=Yq h.pend h.all (n:=m.version%2) (by omega) hl;rcases qB h.pend h.all (n:=m.version%2) (by omega) hl with ⟨q0,q1,q2,q3,q4,q5⟩|⟨q0,q1,q2⟩
 ·rw[<-e1] at q0 q1 q2 q3 q4 q5 ha;have e2:wmD S m 2=zM (wmD S m 1).1 ((m.version+1)%2) (xZ m):=by rw[wmD,if_pos q0]
  have hb:=Yq q3 ha.1 (n:=(m.version+1)%2) (by rw[q5];omega) hl;rcases qB q3 ha.1 (n:=(m.version+1)%2) (by rw[q5];omega) hl with ⟨r0,r1,r2,r3,r4,r5⟩|⟨r0,r1,r2⟩
  ·rw[<-e2] at r0 r1 r2 r3 r4 r5 hb;refine .inr (.inr ⟨r0,fun k hk=>?_,⟨r3,hb.1,by rw[r5,q5];exact hsz⟩,r4,by rw[r5,q5]⟩)
   by_cases e:k=(m.version+1)%2
   ·rw[e];exact r1
   ·have:k=m.version%2:=by omega
    rw[zdO (n:=(m.version+1)%2) e r2,this];exact q1
  ·rw[<-e2] at r0 r1 r2;exact .inr (.inl ⟨r0,by rw[r1];exact q1,by rw[r1];exact q5,r2⟩)
 ·rw[<-e1] at q0 q1 q2;rw[QW q0 2 (by omega)];exact .inl ⟨q0,q1,q2⟩
theorem zeB {S:Dsk} (h:Calm S) {m:ManD} (hf:Fit m) (hon:S.on=true) (hfu:S.fuse<0):(wmD S m 2).2=0/\(wmD S m 2).1.fuse=S.fuse:=by
 have hl:=qR hf;have hpar:=parity m.version;have hsz:=h.size;have e1:wmD S m 1=zM S (m.version%2) (xZ m):=by rw[wmD,if_pos (show (wmD S m 0).2=0 from rfl)];rfl
 obtain ⟨h1,h2⟩:=QO hon hfu (n:=m.version%2) (by omega) hl;have ha:=Yq h.pend h.all (n:=m.version%2) (by omega) hl;have hon1:(wmD S m 1).1.on=true:=by
  rcases qB h.pend h.all (n:=m.version%2) (by omega) hl with ⟨q0,q1,q2,q3,q4,q5⟩|⟨q0,-,-⟩
  ·rw[e1];exact q4
  ·exact absurd h1 q0
 rw[<-e1] at h1 h2 ha;have e2:wmD S m 2=zM (wmD S m 1).1 ((m.version+1)%2) (xZ m):=by rw[wmD,if_pos h1]
 obtain ⟨h3,h4⟩:=QO hon1 (by rw[h2];exact hfu) (n:=(m.version+1)%2) (by rw[ha.2];omega) hl;rw[e2];exact ⟨h3,h4.trans h2⟩
theorem zj3 {n:Nat} (hn:32<=n):Calm (newD n):=⟨rfl,fun b hb=>by
 have:b=qI:=List.eq_of_mem_replicate hb;rw[this];exact vZ,by simpa [newD] using hn⟩
end
section
open Go.RowKit Me Mf Rw Ds Fr
theorem zc2 {m:ManD} (hw:Wf m) (hf:Fit m) (r:List UInt8):YG (encS (zdT m)++r) m:=by
 have hb:=hf.2;exact ⟨⟨(body m).length+13,zfq (zdT m) r (by show (body m).length<=1048576;omega)⟩,hf,hw⟩
theorem zhl {m:ManD} (hw:Wf m) (hf:Fit m):Says (xZ m) (some m):=fun m'=>
 ⟨fun h=>by rw[(zc2 hw hf _).one h],fun e=>by injection e with e;rw[<-e];exact zc2 hw hf _⟩
theorem zl5 {T:Nat->Option ManD} {Z:Nat->Bool} {m:ManD} (h:(T 0=some m/\(T 1=some m\/T 1=none))\/(T 1=some m/\(T 0=some m\/T 0=none))):zkJ (Z4 T 2) (QF Z 2)=(m,0):=by
 have hc:Z4 T 2=some m:=by
  unfold Z4 Z4 Z4;rcases h with ⟨h0,h1|h1⟩|⟨h1,h0|h0⟩<;>rw[h0,h1]<;>simp[best]
 rw[hc];rfl
end
section
open Go.RowKit Me Mf Rw Ds Fr
theorem zgq {b:List UInt8} {m:ManD} (h:YG b m):b.getD 0 0=77:=by
 obtain ⟨⟨k,e⟩,-,-⟩:=h;unfold getS at e
 repeat' split at e
 all_goals first|(injection e with e1 e2;injection e2 with _ e2;cases e2;done)|skip
 injection e with e1 _;injection e1
def zaX:List UInt8:=List.replicate 2048 0
theorem zkG (m:ManD) (h:YG zaX m):False:=by
 have:=zgq h;unfold zaX at this;rw[List.getD_eq_getElem?_getD,List.getElem?_replicate,if_pos (by omega)] at this;exact absurd this (by decide)
theorem zfR:Says zaX none:=fun m=>⟨fun h=>(zkG m h).elim,fun e=>by cases e⟩
theorem zdz:zeros zaX=true:=by
 unfold zeros zaX;rw[List.all_eq_true];intro x hx;rw[List.eq_of_mem_replicate hx];rfl
theorem zaj (n:Nat):∀(k c:Nat),16*n+k<=c->Zf (List.replicate c qI) n k=List.replicate (128*k) 0
 |0,_,_=>rfl
 |k+1,c,h=>by
  rw[Zf,zaj n k c (by omega),List.getD_eq_getElem?_getD,List.getElem?_replicate,if_pos (by omega)];show _++qI=_
  unfold qI;rw[List.replicate_append_replicate]
  congr 1
end
end Go.Proofs.YtcdkopbjlakebaaGreatDoor
