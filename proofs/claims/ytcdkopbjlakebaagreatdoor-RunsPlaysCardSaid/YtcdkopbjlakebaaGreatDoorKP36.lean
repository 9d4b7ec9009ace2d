/- Texts put together, for a law: StPp. -/
import Derived.Test.YtcdkopbjlakebaaGreatDoorKP34
import Derived.Test.YtcdkopbjlakebaaGreatDoorKP17
import Derived.Test.YtcdkopbjlakebaaGreatDoorKP29
import Derived.Test.YtcdkopbjlakebaaGreatDoorKP5
import Derived.Test.YtcdkopbjlakebaaGreatDoorKP14
import Derived.Test.YtcdkopbjlakebaaGreatDoorKP33
set_option maxRecDepth 100000
set_option maxHeartbeats 8000000
namespace Go.Proofs.YtcdkopbjlakebaaGreatDoor
section
open Go.RowKit Me Mf Rw Ds
theorem zgD (A:Option Addr) (n c:Nat) (w:World) :
 Calls Tryz.prog 70 #[.slice A n c,.int .i64 112] w fun e w'=>e=.returned (.func (.func 109) #[] #[.pointer (some ⟨w.heap.size,0,none⟩),.pointer (some ⟨w.heap.size+1,0,none⟩)])/\w'=(w.alloc (.cells #[.slice A n c] 24)).alloc (.cells #[.int .i64 112] 3):=by
 go_enter Tryz.func70,Tryz.ntmps70
 go_wp2
 go_ret
 exact ⟨rfl,rfl⟩
theorem zdk (n:Nat) (hn:1<=n) (Bs Bn c tt p:Nat) (A:Option Addr) (a:Addr) (hA:0<tt->A=some a) (hc:tt<=c) (hc63:c<=9223372036854775807) (htt:tt<=1048576) (hp:p=St.pages tt) (w:World) (hs:w.cell? ⟨Bs,0,none⟩=some (.slice A tt c)) (hb:w.cell? ⟨Bn,0,none⟩=some (.int .i64 112)) :
 SeqStopsK Fence.wide n Tryz.prog 109 #[.pointer (some ⟨Bs,0,none⟩),.pointer (some ⟨Bn,0,none⟩)] (encP a tt (p:=p)) (KB Bs Bn) (fun ys=>ys.map (·.val)=List.range p) (fun pre=>∃k,k<=p/\pre.map (·.val)=List.range k) p w:=fun l J Jx W hW hJ _ hY h0=>
 ziF n hn l Bs Bn c tt p A a hA hc hc63 htt hp J Jx (fun pre W W' hj hB=>hJ pre W W' none hj (vL hB none) (fun r e=>by cases e)) hY W
  ((hW.cell (p:=⟨Bs,0,none⟩) (World.block_lt_of_cell? _ _ hs)).trans hs) ((hW.cell (p:=⟨Bn,0,none⟩) (World.block_lt_of_cell? _ _ hb)).trans hb) h0
def chP (b:List UInt8) (k:Nat):List UInt8:=(b.drop (112*k)).take 112
theorem Zv (b:List UInt8) (k:Nat):(chP b k).length=Zw b.length k:=by unfold chP Zw;rw[List.length_take,List.length_drop]
def pgB (id:Nat) (b:List UInt8) (k:Nat):List UInt8:=Pg.enc (rg id) (rg k) (chP b k)
theorem zax (id:Nat) (b:List UInt8) (k:Nat):(pgB id b k).length=128:=Pg.qp (by rw[Zv];unfold Zw;omega)
def ptD (S:Dsk) (id:Nat) (bl:List Int) (b:List UInt8):Nat->Dsk×Int
 |0=>(S,0)
 |k+1=>if (ptD S id bl b k).2=0 then zY (ptD S id bl b k).1 (bl.getD k 0) (pgB id b k) else ptD S id bl b k
def putP (S:Dsk) (f:zi) (b:List UInt8):Dsk×Int:=ptD S f.id f.blocks b (St.pages b.length)
section
variable {S:Dsk} {id:Nat} {bl:List Int} {b:List UInt8}
theorem zhz {k:Nat} (h:(ptD S id bl b k).2≠0):∀j,k<=j->ptD S id bl b j=ptD S id bl b k:=by
 intro j hj
 induction j with
 |zero=>rw[show k=0 by omega]
 |succ j ih=>
  by_cases e:k=j+1
  ·rw[e]
  ·have:=ih (by omega);rw[ptD,this,if_neg h]
theorem ze0:∀k,(ptD S id bl b k).1.pend.length<=S.pend.length+k
 |0=>Nat.le_refl _
 |k+1=>by
  have h:=ze0 k;rw[ptD]
  split
  ·have:=Zy (ptD S id bl b k).1 (bl.getD k 0) (pgB id b k);omega
  ·omega
def VT (id:Nat) (bl:List Int) (b:List UInt8) {p:Nat} (q:(Dsk×Int)×Nat) (x:Fin p):(Dsk×Int)×Nat:=
 (if q.1.2=0 then zY q.1.1 (bl.getD q.2 0) (Pg.enc (rg id) (rg q.2) (chP b x.val)) else q.1,q.2+1)
def ptL (S:Dsk) (id:Nat) (bl:List Int) (b:List UInt8) {p:Nat} (pre:List (Fin p)):(Dsk×Int)×Nat:=pre.foldl (VT id bl b) ((S,0),0)
theorem zeZ {p:Nat} (pre:List (Fin p)) (x:Fin p):ptL S id bl b (pre++[x])=VT id bl b (ptL S id bl b pre) x:=by unfold ptL;rw[List.foldl_append];rfl
theorem zdZ {p:Nat}:∀(k:Nat) (pre:List (Fin p)),pre.map (·.val)=List.range k->ptL S id bl b pre=(ptD S id bl b k,k)
 |0,pre,h=>by
  have:pre=[]:=by cases pre with|nil=>rfl|cons x l=>simp at h
  subst this;rfl
 |k+1,pre,h=>by
  rw[List.range_succ] at h;obtain ⟨a,c,rfl,ha,hb⟩:=List.map_eq_append_iff.1 h
  match c,hb with
  |[x],hb=>
   simp at hb;rw[zeZ,zdZ k a ha];unfold VT;rw[hb];rfl
theorem zlp {p:Nat} (pre:List (Fin p)):(ptL S id bl b pre).2=pre.length/\(ptL S id bl b pre).1.1.pend.length<=S.pend.length+pre.length:=by
 suffices h:∀(pre:List (Fin p)) (q:(Dsk×Int)×Nat),(pre.foldl (VT id bl b) q).2=q.2+pre.length/\(pre.foldl (VT id bl b) q).1.1.pend.length<=q.1.1.pend.length+pre.length by
  have:=h pre ((S,0),0);unfold ptL;exact ⟨by rw[this.1];simp,this.2⟩
 intro pre
 induction pre with
 |nil=>intro q;exact ⟨rfl,Nat.le_refl _⟩
 |cons x pre ih=>
  intro q;obtain ⟨h1,h2⟩:=ih (VT id bl b q x);rw[List.foldl_cons,List.length_cons];refine ⟨by rw[h1];unfold VT;simp;omega,?_⟩;have:(VT id bl b q x).1.1.pend.length<=q.1.1.pend.length+1:=by
   unfold VT;simp only
   split
   ·exact Zy _ _ _
   ·omega
  omega
end
def ppG (H P B:Nat) (A3:Option Addr) (n3 c3:Nat) (kk:Int) (a5:Addr) (i:Int) (g c2:Nat) (r:Int):Gw.Fact:=fun s v _=>
 match s with
 |3=>v=.pointer (some ⟨H,0,none⟩)
 |24|25=>v=.pointer (some ⟨P,0,none⟩)
 |26=>v=.pointer (some ⟨P,0,none⟩)
 |27=>v=.pointer (some ⟨B,0,none⟩)
 |4=>v=.pointer (some ⟨H+1,0,none⟩)
 |28=>v=.pointer (some ⟨H+1,3,none⟩)
 |29=>v=.slice A3 n3 c3
 |7=>v=.pointer (some ⟨H+3,0,none⟩)
 |30=>v=.int .i64 kk
 |31=>v=.pointer (some a5)
 |32=>v=.int .i64 i
 |9|33=>v=.slice (some ⟨g,0,none⟩) 128 c2
 |34|11=>v=.int .i64 r
 |_=>True
theorem Yp.page {w w':World} {l:List UInt8} {e:Ending} (hl:l.length=128) (h:Yp w l 0 e w') :
 ∃g c,e=.returned (.tuple #[.slice (some ⟨g,0,none⟩) 128 c,.int .i64 0])/\128<=c/\(∀S:Nat->Prop,(∀k,S k->k<w.heap.size)->Cz w' S (some ⟨g,0,none⟩) (cellsOf l))/\Below w.heap.size w w':=by
 obtain ⟨A,n,c,rfl,h1,h2,h3,-,h5⟩:=h.open;have hn:n=128:=by omega
 subst hn;obtain ⟨g,c',e⟩:=ownsRow_succ h3;injection e with e1 e2 e3;subst e1 e3;exact ⟨g,c,rfl,h2,fun S hS=>Cz.of_own h3 (fun k h4 _ h6=>by have:=hS k h6;omega),h5⟩
structure PSt (w:World) (B D P:Nat) (fv:List Value) (S:Dsk) (own:Nat->Prop) (r a:Int) (W:World):Prop where
 disk:∃own',zQ W B D S own'/\∀j,own' j->own j\/w.heap.size+6<=j
 out:Out own w W
 bs:Blk W w.heap.size [.pointer (some ⟨P,0,none⟩)]
 bf:Blk W (w.heap.size+1) fv
 br:Blk W (w.heap.size+2) [.int .i64 r]
 ba:Blk W (w.heap.size+3) [.int .i64 a]
theorem PSt.turn {w:World} {B D P:Nat} {fv:List Value} {S:Dsk} {own:Nat->Prop} {r a:Int} {X Y:World} {row:Option Nat} (h:PSt w B D P fv S own r a X) (hg:X.grownBy Y row) (hr:∀k,row=some k->w.heap.size+6<=k/\∃o:Obj,X.heap[k]?=some o/\o.isCells=false):PSt w B D P fv S own r a Y:=by
 obtain ⟨own',h1,h2⟩:=h.disk;have ho:Out (fun k=>row=some k) X Y:=Out.of_grown hg fun k e _=>e
 refine ⟨⟨own',h1.out ho fun k hk e=>?_,h2⟩,h.out.grown hg fun k e=>.inr (by have:=(hr k e).1;omega),h.bs.grown hg ?_,h.bf.grown hg ?_,h.br.grown hg ?_,h.ba.grown hg ?_⟩
 ·obtain ⟨o,e1,e2⟩:=h1.cells hk;obtain ⟨-,o',e3,e4⟩:=hr k e;rw[e1] at e3;injection e3 with e3;subst e3;rw[e2] at e4
  cases e4
 all_goals
  intro e;have:=(hr _ e).1;omega
attribute [local go_sem] Oper.semAt_some
section
variable {w w':World} {B P D M N:Nat} {X:Sto} {own ownD T:Nat->Prop}
theorem zcy (h:zo w B P D M N X own ownD) (f:zi) (A3:Option Addr) (n3 c3:Nat) (hv:FKv own w f A3 n3 c3) (hid:f.id<4294967296) (A:Option Addr) (k c:Nat) (b:List UInt8) (hb:b.length=k) (hk:k<=1048576) (hkc:k<=c) (hc63:c<=9223372036854775807) (hbr:Kk own (fun W=>Rd W W.heap.size A b) w)
 (hpg:St.pages k<=n3) (hp:X.S.pend.length+St.pages k<=1073741824) :
 Calls Tryz.prog 104 #[.pointer (some ⟨P,0,none⟩),.agg #[sv f.name,.int .u32 (f.id:Int),.int .i64 f.size,.slice A3 n3 c3],.slice A k c] w fun e w'=>e=.returned (.int .i64 (putP X.S f b).2)/\XD w B D (putP X.S f b).1 ownD w':=by
 refine (callsIn_wide (n:=3)).1 ?_;obtain ⟨H,hH⟩:∃H,H=w.heap.size:=⟨_,rfl⟩
 obtain ⟨nm,hnm⟩:∃nm,nm=f.name:=⟨_,rfl⟩
 obtain ⟨id,hid'⟩:∃id,id=f.id:=⟨_,rfl⟩
 obtain ⟨sz,hsz'⟩:∃sz,sz=f.size:=⟨_,rfl⟩
 obtain ⟨W0,hW0⟩:∃W0,((((((w.alloc (.cells #[.pointer (some ⟨P,0,none⟩)] 29)).alloc (fbox nm id sz A3 n3 c3)).alloc (.cells #[.int .i64 0] 33)).alloc (.cells #[.int .i64 0] 3)).alloc (.cells #[.slice A k c] 24)).alloc (.cells #[.int .i64 112] 3))=W0:=⟨_,rfl⟩
 have hsz:W0.heap.size=H+6:=by rw[<-hW0,hH];simp
 have hb0:Below w.heap.size w W0:=by
  rw[<-hW0];exact ((((((Below.refl _ w).alloc (Nat.le_refl _) _).alloc (by simp) _).alloc (by simp;omega) _).alloc (by simp;omega) _).alloc (by simp;omega) _).alloc (by simp;omega) _
 have hB0:Blk W0 H [.pointer (some ⟨P,0,none⟩)]:=by
  rw[<-hW0,hH];exact (((((Blk.new w [.pointer (some ⟨P,0,none⟩)] _).alloc _).alloc _).alloc _).alloc _).alloc _
 have hB1:Blk W0 (H+1) [sv nm,.int .u32 (id:Int),.int .i64 sz,.slice A3 n3 c3]:=by
  rw[<-hW0,hH];exact ((((Blk.new' (w.alloc _) [sv nm,.int .u32 (id:Int),.int .i64 sz,.slice A3 n3 c3] _ (by simp)).alloc _).alloc _).alloc _).alloc _
 have hB2:Blk W0 (H+2) [.int .i64 0]:=by
  rw[<-hW0,hH];exact (((Blk.new' ((w.alloc _).alloc _) [.int .i64 0] _ (by simp)).alloc _).alloc _).alloc _
 have hB3:Blk W0 (H+3) [.int .i64 0]:=by
  rw[<-hW0,hH];exact ((Blk.new' (((w.alloc _).alloc _).alloc _) [.int .i64 0] _ (by simp)).alloc _).alloc _
 have hB4:Blk W0 (H+4) [.slice A k c]:=by
  rw[<-hW0,hH];exact (Blk.new' ((((w.alloc _).alloc _).alloc _).alloc _) [.slice A k c] _ (by simp)).alloc _
 have hB5:Blk W0 (H+5) [.int .i64 112]:=by
  rw[<-hW0,hH];exact Blk.new' (((((w.alloc _).alloc _).alloc _).alloc _).alloc _) [.int .i64 112] _ (by simp)
 have HF:=gI (show PSt w B D P [sv nm,.int .u32 (id:Int),.int .i64 sz,.slice A3 n3 c3] X.S ownD 0 0 W0 from ⟨⟨ownD,h.disk.past hb0,fun j hj=>.inl hj⟩,.of_below hb0,by rw[<-hH];exact hB0,by rw[<-hH];exact hB1,by rw[<-hH];exact hB2,by rw[<-hH];exact hB3⟩);have HB4:=gI hB4;have HB5:=gI hB5;have HW0:=gI hW0;have HH:=gI hH;have HST:=gI h;have HV:=gI hv;have HBR:=gI hbr;have HL:=gI hb;have HNM:=gI hnm;have HPP:=gI (show putP X.S f b=ptD X.S id f.blocks b (St.pages k) by unfold putP;rw[hb,hid']);rw[<-hnm,<-hid',<-hsz'];rw[<-hid'] at hid;clear h hv hbr hb0 hB0 hB1 hB2 hB3 hB4 hB5 hb hW0 hH hnm hid' hsz';refine callsIn_of_wp_marks Tryz.func104 rfl trivial ?_ rfl;simp only[Tryz.ntmps104,List.size_toArray,List.length_cons,List.length_nil,Nat.reduceAdd,Nat.reduceSub,Array.replicate_succ,Array.replicate_zero,List.push_toArray,List.append_toArray,List.nil_append,List.cons_append]
 gi_wp2_with ((refine ⟨trivial,?_⟩);(refine (callsIn_wide.2 (zgD _ _ _ _)).mono ?_);rintro e w' ⟨rfl,rfl⟩)
 rw[HW0.out,<-HH.out];rw[show H+1+1+1+1+1=H+5 from rfl,show H+1+1+1+1=H+4 from rfl,show H+1+1+1=H+3 from rfl,show H+1+1=H+2 from rfl];clear HW0;obtain ⟨a,ha⟩:∃a:Addr,0<k->A=some a:=by
  rcases Nat.eq_zero_or_pos k with h|h
  ·exact ⟨⟨0,0,none⟩,fun e=>by omega⟩
  ·obtain ⟨a,e,-⟩:=HBR.out.now (by rw[HL.out];exact h);exact ⟨a,fun _=>e⟩
 have HA:=gI ha;refine wpIn_rangeFunc_ownH rfl (by omega) (gf:=109) (lb:=#[.pointer (some ⟨H+4,0,none⟩),.pointer (some ⟨H+5,0,none⟩)]) rfl trivial (enters_of Tryz.func109 (by kernel_rfl) rfl)
  (w0:=W0) (zdk 2 (by omega) (H+4) (H+5) c k (St.pages k) A a ha hkc hc63 hk rfl W0 (HB4.out.cell (i:=0) rfl) (HB5.out.cell (i:=0) rfl)) (fun h k=>KB.trans h k) (fun W l o o' hl _ _ _=>KB.put (n:=H+6) (by omega) (by omega) W l o' (by rw[<-hsz];exact hl)) (Below.refl _ _) (fun _=>rfl)
  (fun pre W=>(ptL X.S id f.blocks b pre).1.2=0/\PSt w B D P [sv nm,.int .u32 (id:Int),.int .i64 sz,.slice A3 n3 c3] (ptL X.S id f.blocks b pre).1.1 ownD 0 (pre.length:Int) W)
  (fun c pre W=>c=.ret/\(ptL X.S id f.blocks b pre).1.2≠0/\PSt w B D P [sv nm,.int .u32 (id:Int),.int .i64 sz,.slice A3 n3 c3] (ptL X.S id f.blocks b pre).1.1 ownD (ptL X.S id f.blocks b pre).1.2 ((pre.length:Int)-1) W)
  (fun s X Y row hs hg hr=>⟨hs.1,hs.2.turn hg fun k e=>⟨by have:=(hr k e).1;have:=HH.out;omega,(hr k e).2⟩⟩)
  (fun c s X Y row hs hg hr=>⟨hs.1,hs.2.1,hs.2.2.turn hg fun k e=>⟨by have:=(hr k e).1;have:=HH.out;omega,(hr k e).2⟩⟩)
  ⟨rfl,HF.out⟩
  (fun x a' W=>a'={tmps:=#[.pointer (some ⟨P,0,none⟩),.agg #[sv nm,.int .u32 (id:Int),.int .i64 sz,.slice A3 n3 c3],.slice A k c,.pointer (some ⟨H,0,none⟩),.pointer (some ⟨H+1,0,none⟩),undef,.pointer (some ⟨H+2,0,none⟩),.pointer (some ⟨H+3,0,none⟩),.slice (some (a.add (112*x.val))) (Zw k x.val) (Zw k x.val),undef,undef,undef,.slice A k c,.func (.func 109) #[] #[.pointer (some ⟨H+4,0,none⟩),.pointer (some ⟨H+5,0,none⟩)],.slice (some (a.add (112*x.val))) (Zw k x.val) (Zw k x.val),undef,undef,undef,undef,undef,undef,undef,undef,undef,undef,undef,undef,undef,undef,undef,undef,undef,undef,undef,undef,undef,undef,undef,undef,undef],defers:=[]})
  (fun x a' _ X Y row hs hg hr=>hs)
  ?assign ?body ?done ?stop
 case assign=>
  rintro l' pre x W K hI hK
  dsimp only[encP]
  gi_wp2
  exact hK _ _ (KeepsFrom.refl _ _) (fun _ _=>rfl) hI rfl
 case body=>
  rintro l' pre x a' W hl' ⟨rr,hrr⟩ ⟨hz,hst⟩ rfl hlt;obtain ⟨own',hd,hn2⟩:=hst.disk;obtain ⟨hlen,hpen⟩:=zlp (S:=X.S) (id:=id) (bl:=f.blocks) (b:=b) pre;have x0:W.cell? ⟨H,0,none⟩=some (.pointer (some ⟨P,0,none⟩)):=by rw[HH.out];exact hst.bs.cell rfl
  have x1:W.cell? ⟨H+1,1,none⟩=some (.int .u32 (id:Int)):=by rw[HH.out];exact hst.bf.cell (i:=1) rfl
  have x2:W.cell? ⟨H+3,0,none⟩=some (.int .i64 (pre.length:Int)):=by rw[HH.out];exact hst.ba.cell rfl
  have x3:W.cell? ⟨H+1,3,none⟩=some (.slice A3 n3 c3):=by rw[HH.out];exact hst.bf.cell (i:=3) rfl
  obtain ⟨S',hS'⟩:∃S',S'=(ptL X.S id f.blocks b pre).1.1:=⟨_,rfl⟩
  rw[<-hS'] at hd hpen;obtain ⟨q,hq⟩:∃q,q=pre.length:=⟨_,rfl⟩
  rw[<-hq] at hlen hpen hlt x2 hst;obtain ⟨i,hi⟩:∃i:Int,i=f.blocks.getD q 0:=⟨_,rfl⟩
  obtain ⟨pg,hpgb⟩:∃pg,pg=Pg.enc (rg id) (rg q) (chP b x.val):=⟨_,rfl⟩
  have hsn:ptL X.S id f.blocks b (pre++[x])=(zY S' i pg,q+1):=by
   rw[zeZ];unfold VT;rw[hlen,if_pos hz,<-hS',hi,hpgb]
  have hon:Out own w W:=hst.out.more fun j _ h=>HST.out.own j (.inr (.inr h))
  have hcl:(chP b x.val).length=Zw k x.val:=by rw[Zv,HL.out]
  have hcl2:Zw k x.val<=112:=by unfold Zw;omega
  have hpl:pg.length=128:=by rw[hpgb];exact Pg.qp (by rw[hcl];exact hcl2)
  have hrd:Rd W W.heap.size (some (a.add (112*x.val))) (chP b x.val):=fun h0=>by
   have hb:=HBR.out _ hon;rw[Zv] at h0;obtain ⟨a',e,q1,q2⟩:=hb (by unfold Zw at h0;omega);rw[HA.out (by rw[<-HL.out];unfold Zw at h0;omega)] at e;injection e with e;subst e;refine ⟨_,rfl,by rw[block_add];exact q1,fun j u hu=>?_⟩;unfold chP at hu;rw[List.getElem?_take] at hu
   split at hu
   ·rw[List.getElem?_drop] at hu;rw[Addr.add_add];exact q2 _ _ hu
   ·cases hu
  have hel:∃a5,(A3=some a5)/\W.cell? (a5.add q)=some (.int .i64 i):=by
   have hb:=HV.out.blk _ hon;obtain ⟨a5,e,-,hc⟩:=hb (by rw[zV,HV.out.len];omega);refine ⟨a5,e,hc q _ ?_⟩;unfold zL;have hql:q<f.blocks.length:=by rw[HV.out.len];omega
   rw[List.getElem?_map,List.getElem?_eq_getElem hql,hi,List.getD_eq_getElem?_getD,List.getElem?_eq_getElem hql];rfl
  obtain ⟨a5,hA5,x5⟩:=hel;subst hA5;have HPU:=gI (zcC (rg id) (rg q) (some (a.add (112*x.val))) (Zw k x.val) (Zw k x.val) (chP b x.val) W hcl hcl2 hrd);rw[<-hpgb,zeP hid,zeP (show q<4294967296 by unfold St.pages at hlt;omega)] at HPU;have hu32:IntKind.u32.wrap (q:Int)=(q:Int):=by rw[IntKind.wrap_u32];omega
  have HPS:=gI hst;have HN2:=gI hn2;have HD2:=gI hd;have HSN:=gI hsn;have HI:=gI hi;have HPL:=gI hpl;have HX5:=gI x5;have x4:W.cell? ⟨P,0,none⟩=some (.pointer (some ⟨D,0,none⟩)):=by
   obtain ⟨As,ns,cs,e,-⟩:=HST.out.blk;exact (hst.out.cell (p:=⟨P,0,none⟩) e.lt HST.out.dP).trans (e.cell (i:=0) rfl)
  have HX:=gI (And.intro x0 (And.intro x1 (And.intro x2 (And.intro x3 x4))));have HQ:=gI hq;have HPN:=gI hpen;have hw6:H+6<=W.heap.size:=by have:=(Array.getElem?_eq_some_iff.1 hrr).1;omega
  have HRR:=gI hrr;clear hst hn2 hd hz hlen hsn hS' hi hpgb hcl hcl2 hrd x5 hpl hq hpen hrr
  gi_wp2_with ((refine ⟨trivial,?_⟩);(refine (callsIn_wide.2 HPU.out).mono ?_))
  intro e w1 he;obtain ⟨g,c2,rfl,hc2,hcz,hb1⟩:=he.page HPL.out;have HCZ:=gI hcz;have HB1:=gI hb1;clear he hcz hb1 x0 x1 x2 x3
  gi_wp2_with fail
  have hs1:=HB1.out.size;have y0:w1.cell? ⟨H,0,none⟩=some (.pointer (some ⟨P,0,none⟩)):=(HB1.out.cell (p:=⟨H,0,none⟩) (by show H<_;omega)).trans HX.out.1;have y2:w1.cell? ⟨H+3,0,none⟩=some (.int .i64 (q:Int)):=(HB1.out.cell (p:=⟨H+3,0,none⟩) (by show H+3<_;omega)).trans HX.out.2.2.1;have y3:w1.cell? ⟨H+1,3,none⟩=some (.slice (some a5) n3 c3):=(HB1.out.cell (p:=⟨H+1,3,none⟩) (by show H+1<_;omega)).trans HX.out.2.2.2.1;have y4:w1.cell? ⟨P,0,none⟩=some (.pointer (some ⟨D,0,none⟩)):=(HB1.out.cell (p:=⟨P,0,none⟩) (World.block_lt_of_cell? _ _ HX.out.2.2.2.2)).trans HX.out.2.2.2.2;have y5:w1.cell? (a5.add q)=some (.int .i64 i):=(HB1.out.cell (World.block_lt_of_cell? _ _ HX5.out)).trans HX5.out;have HD1:=gI ((HD2.out.past HB1.out).past (Below.refl _ _).drew);have HWR:=gI (zbS HD1.out i (some ⟨g,0,none⟩) 128 c2 pg HPL.out ((HCZ.out own' fun k h=>(HD2.out.lt h).2).out (xu _ _)) (fun a e=>by injection e with e;rw[<-e]) (by have:=HPN.out;omega))
  have hn64:(q:Int)<(n3:Int):=by omega
  refine Gw.XG (fun _ _=>True) (fun _=>trivial) (fun _ _ _ _ _=>trivial) (fun p Wx=>if p=0 then Wx=w1.drew else XD w1.drew B D (zY S' i pg).1 own' Wx) (ppG H P D (some a5) n3 c3 q (a5.add q) i g c2 (zY S' i pg).2) [10] [24,25,26,27,28,29,30,31,32,33,34,11] [([3],none,[0],false),([24],none,[0],false),([25],none,[0],false),([26],none,[0],false),([4],none,[0],false),([28],none,[0],false),([7],none,[0],false),([29,30],none,[0],false),([31],none,[0],false),([9],none,[0],false),([27,32,33],none,[0],true),([34],none,[1],false)] 40 1 (by kernel_rfl) (by kernel_rfl) rfl trivial (by simp) ?h0 ?hreq ?hend
  case h0=>
   intro s W hnd _;unfold ppG
   split<;>first|rfl|trivial|exact absurd (by simp) hnd
  case hreq=>
   refine ⟨⟨?_,trivial⟩,⟨?_,trivial⟩,⟨?_,trivial⟩,⟨?_,trivial⟩,⟨?_,trivial⟩,⟨?_,trivial⟩,⟨?_,trivial⟩,⟨?_,trivial⟩,⟨?_,trivial⟩,⟨?_,trivial⟩,⟨?_,trivial⟩,⟨?_,trivial⟩,trivial⟩
   all_goals
    intro ac W hR hI hk
    try (rw[if_pos rfl] at hI;subst hI)
    simp only[Gw.Knows,ppG] at hk
    try (simp[go_sem,Gw.yo,Gw.OkP,Gw.xH,Gw.zW,ppG,hk,y0,y2,y3,y4,y5,hn64];done)
   ·simp[go_sem,Gw.yo,Gw.OkP,Gw.xH,Gw.zW,ppG,hk];refine HWR.out.mono ?_;rintro e w5 ⟨rfl,h5⟩;exact ⟨rfl,h5⟩
   ·rw[if_neg (by simp)] at hI;simp[go_sem,Gw.yo,Gw.OkP,Gw.xH,Gw.zW,ppG,hk,hI]
  case hend=>
   intro x' w2 _ hI hx;rw[if_neg (by simp)] at hI;have hx11:=hx 11 (by simp) w2 trivial;simp only[ppG] at hx11;simp only[Gw.zm,Act.put,List.setIfInBounds_toArray,List.set_cons_zero,List.set_cons_succ];obtain ⟨p,hp'⟩:∃p,zY S' i pg=p:=⟨_,rfl⟩
   obtain ⟨T,r⟩:=p;rw[hp'] at hI HSN hx11;simp only[hx11];obtain ⟨own2,hd2,ho2',hn3'⟩:=hI;have ho2:Out own' W w2:=((Out.of_below HB1.out).trans (xu _ _)).trans ho2';have hn3:∀k,own2 k->own' k\/W.heap.size<=k:=fun k hk=>(hn3' k hk).imp (fun h=>h) (fun h=>Nat.le_trans hs1 h)
   have HN15:=gI (show ∀j,own' j->j≠H/\j≠H+1/\j≠H+2/\j≠H+3/\j≠H+4/\j≠H+5 from fun j hj=>by
    have e0:=HH.out;rcases HN2.out j hj with h|h
    ·have:=(HST.out.disk.lt h).2;omega
    ·omega)
   have b0:=HPS.out.bs.out ho2 (by rw[<-HH.out];exact fun h=>(HN15.out _ h).1 rfl);have b1:=HPS.out.bf.out ho2 (by rw[<-HH.out];exact fun h=>(HN15.out _ h).2.1 rfl);have b2:=HPS.out.br.out ho2 (by rw[<-HH.out];exact fun h=>(HN15.out _ h).2.2.1 rfl);have b3:=HPS.out.ba.out ho2 (by rw[<-HH.out];exact fun h=>(HN15.out _ h).2.2.2.1 rfl);rw[<-HH.out] at b0 b1 b2 b3;have HE0:=gI b0;have HE1:=gI b1;have HE2:=gI b2;have HE3:=gI b3;have HD3:=gI hd2;have HO3:=gI ho2;have HN3:=gI hn3;have z2:=b2.cell (i:=0) rfl;have f2:=b2.frozen 0;have z3:=b3.cell (i:=0) rfl;have f3:=b3.frozen 0;have hs2:=ho2.size;have HWS:=gI (fun (t:Nat) (ht:t=H+2\/t=H+3) (v:Value)=>show (∀k,own2 k->¬k=t)/\Out (fun k=>own' k\/k=t) W (w2.setCell ⟨t,0,none⟩ v) from
    ⟨fun k hk e=>by
      rcases HN3.out k hk with h|h
      ·have:=HN15.out k h;omega
      ·omega,(HO3.out.more (S':=fun k=>own' k\/k=t) fun k _ h=>.inl h).setCell (p:=⟨t,0,none⟩) (.inl (.inr rfl)) v⟩)
   have HKF:=gI (fun (t:Nat) (ht:t=H+2\/t=H+3) (v:Value)=>show KeepsFrom (H+6) W (w2.setCell ⟨t,0,none⟩ v) from by rw[<-hsz];exact qY (HWS.out t ht v).2 (fun k hk=>by
    rcases hk with h|rfl
    ·exact HD2.out.cells h
    ·rcases ht with rfl|rfl
     ·obtain ⟨t,e⟩:=HPS.out.br;rw[<-HH.out] at e;exact ⟨_,e,rfl⟩
     ·obtain ⟨t,e⟩:=HPS.out.ba;rw[<-HH.out] at e;exact ⟨_,e,rfl⟩))
   have HNX:=gI (fun (t:Nat) (ht:t=H+2\/t=H+3) (v:Value) (r' a':Int) (hr:Blk (w2.setCell ⟨t,0,none⟩ v) (H+2) [.int .i64 r']) (ha:Blk (w2.setCell ⟨t,0,none⟩ v) (H+3) [.int .i64 a'])=>show PSt w B D P [sv nm,.int .u32 (id:Int),.int .i64 sz,.slice (some a5) n3 c3] T ownD r' a' (w2.setCell ⟨t,0,none⟩ v) from by
    have e0:=HH.out;obtain ⟨h1,h2⟩:=HWS.out t ht v;refine ⟨⟨own2,HD3.out.out ((Out.refl (fun k=>k=t) w2).setCell (p:=⟨t,0,none⟩) (.inl rfl) v) h1,fun j hj=>?_⟩,HPS.out.out.trans' h2 (fun j hj=>?_),?_,?_,by rw[<-e0];exact hr,by rw[<-e0];exact ha⟩
    ·rcases HN3.out j hj with h|h
     ·exact HN2.out j h
     ·right;omega
    ·rcases hj with h|rfl
     ·rcases HN2.out j h with h|h
      ·exact .inl h
      ·right;omega
     ·right;omega
    ·rw[<-e0];exact HE0.out.other (p:=⟨t,0,none⟩) (by show t≠H;omega) v
    ·rw[<-e0];exact HE1.out.other (p:=⟨t,0,none⟩) (by show t≠H+1;omega) v)
   have HPL2:=gI (show (pre++[x]).length=q+1 by rw[HQ.out];simp);clear hd2 ho2 hn3 b0 b1 b2 b3 hp' ho2' hn3' hx hx11 y0 y2 y3 y4 y5
   by_cases hr:r=0
   ·subst hr
    gi_wp2
    refine ⟨HKF.out _ (.inr rfl) _,fun p hp=>?_,?_,?_⟩
    ·have e0:=HH.out;refine (HWS.out (H+3) (.inr rfl) _).2.cell ?_ ?_
     ·rcases hp with h|h<;>omega
     ·rintro (h|h)
      ·have:=HN15.out _ h;omega
      ·omega
    ·rw[HSN.out]
    ·rw[HSN.out,HPL2.out];exact HNX.out _ (.inr rfl) _ _ _ (HE2.out.other (p:=⟨H+3,0,none⟩) (by show H+3≠H+2;omega) _) (by
      have:=HE3.out.set 0 (.int .i64 ((q+1:Nat):Int));have e:(q:Int)+1=((q+1:Nat):Int):=by omega
      rw[e];exact this)
   ·have d1:(r != 0)=true:=by rw[bne_iff_ne];exact hr
    gi_wp2
    refine ⟨HKF.out _ (.inl rfl) _,rfl,?_,?_⟩
    ·rw[HSN.out];exact hr
    ·rw[HSN.out,HPL2.out];exact HNX.out _ (.inl rfl) _ _ _ (HE2.out.set 0 (.int .i64 r)) (by
      have:=HE3.out.other (p:=⟨H+2,0,none⟩) (by show H+2≠H+3;omega) (.int .i64 r);have e:((q+1:Nat):Int)-1=(q:Int):=by omega
      rw[e];exact this)
 case done=>
  rintro Dk ys W hDk hS ⟨hz,hst⟩ hK;have h2:=zdZ (S:=X.S) (id:=id) (bl:=f.blocks) (b:=b) (St.pages k) ys hS;rw[h2] at hz hst;have hz':(ptD X.S id f.blocks b (St.pages k)).2=0:=hz;obtain ⟨own',hd,hn2⟩:=hst.disk;have HE:=gI (show (putP X.S f b).2=0 by rw[HPP.out];exact hz');have hd':zQ W B D (putP X.S f b).1 own':=by rw[HPP.out];exact hd
  have z2:=hst.br.cell (i:=0) rfl;have f2:=hst.br.frozen 0;rw[<-HH.out] at z2 f2;have HPS:=gI hst;have HN2:=gI hn2;have HD2:=gI hd';have HDK:=gI hDk;have HK:=gI hK;clear hst hn2 hd hd' hz hz' h2 hS hK hDk
  gi_wp2
  have hlt:=(Array.getElem?_eq_some_iff.1 HK.out).1;have e0:=HH.out;have hDk:=HDK.out;have hba:=HPS.out.ba.lt;have hnD:∀k,own' k->¬k=H+2/\¬k=Dk:=fun k hk=>by
   constructor
   ·intro e;rcases HN2.out k hk with h|h
    ·have:=(HST.out.disk.lt h).2;omega
    ·omega
   ·intro e;subst e;obtain ⟨o,e1,e2⟩:=HD2.out.cells hk;rw[HK.out] at e1;injection e1 with e1;subst e1
    cases e2
  have oc:Out (fun k=>k=H+2) W (W.setCell ⟨H+2,0,none⟩ (.int .i64 0)):=(Out.refl (fun k=>k=H+2) W).setCell (p:=⟨H+2,0,none⟩) (.inl rfl) _;have hK2:=(oc.block Dk hlt (fun e=>by omega)).trans HK.out;refine ⟨by simp,.inl ⟨_,_,rfl,run_takeDeferred hK2,?_⟩⟩;have hg:Out (fun k=>k=Dk) (W.setCell ⟨H+2,0,none⟩ (.int .i64 0)) ((W.setCell ⟨H+2,0,none⟩ (.int .i64 0)).putObj Dk (.deferred none)):=
   Out.of_grown (grownBy_putObj' _ _ _) (fun k e _=>by injection e with e;exact e.symm)
  have hbr:=HPS.out.br;rw[<-e0] at hbr;have r0:=((hbr.set 0 (.int .i64 0)).out hg (by omega)).cell (i:=0) rfl;refine ⟨.int .i64 0,?_,by rw[HE.out],own',(HD2.out.out oc fun k hk=>(hnD k hk).1).out hg fun k hk=>(hnD k hk).2,?_,fun j hj=>?_⟩
  ·simp[results,Tryz.results104,go_sem,r0]
  ·exact (HPS.out.out.trans' oc (fun j hj=>.inr (by have hj:j=H+2:=hj;omega))).trans' hg (fun j hj=>.inr (by have hj:j=Dk:=hj;omega))
  ·rcases HN2.out j hj with h|h
   ·exact .inl h
   ·right;omega
 case stop=>
  rintro Dk cd pre W hDk ⟨j,hj,hpre⟩ ⟨rfl,hz,hst⟩ hK;have h2:=zdZ (S:=X.S) (id:=id) (bl:=f.blocks) (b:=b) j pre hpre;rw[h2] at hz hst;have HE:=gI (show putP X.S f b=ptD X.S id f.blocks b j by rw[HPP.out];exact zhz (k:=j) hz _ hj);have HPS:=gI hst;clear hst h2 hz hpre
  gi_wp2
  refine ⟨by simp,.inl ⟨_,_,rfl,run_takeDeferred hK,?_⟩⟩;have hg:W.grownBy (W.putObj Dk (.deferred none)) (some Dk):=grownBy_putObj' _ _ _;have hst:=HPS.out.turn hg (fun k e=>by injection e with e;subst e;exact ⟨by have:=HH.out;omega,_,hK,rfl⟩);obtain ⟨own',hd,hn2⟩:=hst.disk;have r0:=hst.br.cell (i:=0) rfl;rw[<-HH.out] at r0;refine ⟨.int .i64 (ptD X.S id f.blocks b j).2,?_,?_,?_⟩
  ·simp[results,Tryz.results104,go_sem,r0]
  ·rw[HE.out]
  ·rw[HE.out];exact ⟨own',hd,hst.out,fun i hi=>by
    rcases hn2 i hi with h|h
    ·exact .inl h
    ·right;omega⟩
end
end
end Go.Proofs.YtcdkopbjlakebaaGreatDoor
