/- Texts put together, for a law: MfN, StMk. -/
import Derived.Maps.AppendAt
import Derived.Deep.DeepCutAuto
import Derived.Deep.CutBlock
import Derived.Test.YtcdkopbjlakebaaGreatDoorKP15
import Derived.Test.YtcdkopbjlakebaaGreatDoorKP2
import Derived.Test.YtcdkopbjlakebaaGreatDoorKP3
set_option maxRecDepth 100000
set_option maxHeartbeats 8000000
namespace Go.Proofs.YtcdkopbjlakebaaGreatDoor
section
section
open Go.RowKit Me Mf Va
theorem zlM (w:World) (z:Int) (t:TypeId):∀j u,(zL [z])[j]?=some u->(w.alloc (.cells #[.int .i64 z] t)).cell? ((⟨w.heap.size,0,none⟩:Addr).add j)=some u:=by
 intro j u hu;obtain ⟨a,e,-,hc⟩:=Cs.lit w #[.int .i64 z] t (by simp);injection e with e;rw[e];exact hc j u (by simpa [zL] using hu)
theorem zbw:(Tryz.prog.info? 3).map (fun i=>(i.zero,i.size,i.bytes))=some (some (.int .i64 0),1,8):=by kernel_rfl
theorem vE (l:List UInt8) (x:Int) (most:Nat):(numOf l x most).2.1.length<=l.length/\((numOf l x most).2.2=0->(numOf l x most).2.1.length<l.length):=by
 by_cases h:(numOf l x most).2.2=0
 ·have hx:=xw h;subst hx;have e:numOf l 0 most=((numOf l 0 most).1,(numOf l 0 most).2.1,(numOf l 0 most).2.2):=rfl;rw[h] at e;have:=congrArg List.length (Vm e);rw[List.length_append] at this;have:=ZQ (numOf l 0 most).1;exact ⟨by omega,fun _=>by omega⟩
 ·refine ⟨?_,fun e=>absurd e h⟩;unfold numOf
  split
  ·exact Nat.le_refl _
  ·split
   ·exact Nat.zero_le _
   ·split
    ·exact Nat.zero_le _
    ·simp only[List.length_drop];omega
theorem zeo (l:List UInt8) (x k:Int):(bytesOf l x k).2.1.length<=l.length:=by
 unfold bytesOf
 split
 ·exact Nat.le_refl _
 ·split
  ·exact Nat.zero_le _
  ·split
   ·exact Nat.zero_le _
   ·simp only[List.length_drop];omega
theorem zcH {l l1 l2 l3 l4 nm:List UInt8} {n id sz:Nat} {x1 x2 x3 x4:Int} {ms mb:Nat} (h1:numOf l 0 32=(n,l1,x1)) (h2:bytesOf l1 x1 (n:Int)=(nm,l2,x2)) (h3:numOf l2 x2 4294967295=(id,l3,x3)) (h4:numOf l3 x3 ms=(sz,l4,x4)) :
 (x4=0->qE ms mb l=match vU mb (qX (sz:Int)).toNat [] l4 with|none=>none|some (bs,l5)=>some (⟨nm,id,(sz:Int),bs⟩,l5))/\(x4≠0->qE ms mb l=none)/\nm.length<=32:=by
 have hn:=qi l 0 32;rw[h1] at hn
 by_cases e1:x1=0
 ·subst e1;have p1:=qG h1;unfold bytesOf at h2;rw[if_neg (by simp),if_neg (by omega)] at h2
  by_cases hl:(l1.length:Int)<(n:Int)
  ·rw[if_pos hl] at h2;injection h2 with a1 h2;injection h2 with a2 a3;subst a1 a2 a3;have hp:qE ms mb l=none:=by
    unfold qE;rw[p1];simp only;rw[if_pos (by omega)]
   refine ⟨fun e=>?_,fun _=>hp,by simp⟩
   exfalso
   have e3:=xw (l:=l3) (x:=x3) (most:=ms) (by rw[h4];exact e);have:=xw (l:=[]) (x:=2) (most:=4294967295) (by rw[h3];exact e3)
   cases this
  ·rw[if_neg hl] at h2;injection h2 with a1 h2;injection h2 with a2 a3;subst a1 a2 a3;have hlen:(l1.take n).length<=32:=by rw[List.length_take];omega
   have hto:((n:Int)).toNat=n:=by omega
   rw[hto] at h3 ⊢
   by_cases e3:x3=0
   ·subst e3;have p3:=qG h3
    by_cases e4:x4=0
    ·subst e4;have p4:=qG h4;refine ⟨fun _=>?_,fun h=>absurd rfl h,hlen⟩;unfold qE;rw[p1];simp only;rw[if_neg (by omega),p3];simp only;rw[p4]
     all_goals simp only
     all_goals (cases vU mb (qX (sz:Int)).toNat [] l4<;>rfl)
    ·refine ⟨fun h=>absurd h e4,fun _=>?_,hlen⟩;unfold qE;rw[p1];simp only;rw[if_neg (by omega),p3];simp only;rw[vF h4 e4]
   ·refine ⟨fun h=>?_,fun _=>?_,hlen⟩
    ·exact absurd (xw (l:=l3) (x:=x3) (most:=ms) (by rw[h4];exact h)) e3
    ·unfold qE;rw[p1];simp only;rw[if_neg (by omega),vF h3 e3]
 ·have hp:qE ms mb l=none:=by
   unfold qE;rw[vF h1 e1]
  unfold bytesOf at h2;rw[if_pos e1] at h2;injection h2 with a1 h2;injection h2 with a2 a3;subst a1 a2 a3;refine ⟨fun e=>?_,fun _=>hp,by simp⟩;exact absurd (xw (l:=l1) (x:=x1) (most:=4294967295) (by rw[h3];exact xw (l:=l3) (x:=x3) (most:=ms) (by rw[h4];exact e))) e1
structure NF (w wk:World) (g H:Nat) (l:List UInt8) (x:Int) (cs rs:List Value):Prop where
 rd:Rdr wk g l x
 bx:Blk wk (H+1) cs
 rs:Blk wk H rs
 gr:w.grownBy wk (some g)
section
variable {w wk w1:World} {g H:Nat} {l l':List UInt8} {x x':Int} {cs rs:List Value}
theorem NF.call (h:NF w wk g H l x cs rs) (hg:g<H) (hr:Rdr w1 g l' x') (hw:wk.grownBy w1 (some g)):NF w w1 g H l' x' cs rs:=
 ⟨hr,h.bx.grown hw (fun e=>by injection e;omega),h.rs.grown hw (fun e=>by injection e;omega),h.gr.trans hw⟩
theorem NF.set (h:NF w wk g H l x cs rs) (hg:g<H) (hH:w.heap.size<=H) (i:Nat) (v:Value):NF w (wk.setCell ⟨H+1,i,none⟩ v) g H l x (cs.set i v) rs:=
 ⟨h.rd.otherCell (p:=⟨H+1,i,none⟩) (by show g<H+1;omega) v,h.bx.set i v,h.rs.other (p:=⟨H+1,i,none⟩) (by show H+1≠H;omega) v,zin h.gr (p:=⟨H+1,i,none⟩) (by show w.heap.size<=H+1;omega) v⟩
theorem NF.past (h:NF w wk g H l x cs rs) (hb:Below wk.heap.size wk w1):NF w w1 g H l x cs rs:=⟨h.rd.past hb,h.bx.past hb,h.rs.past hb,h.gr.trans (vL hb _)⟩
theorem NF.apart (h:NF w wk g H l x cs rs) (hg:g<H) (hH:w.heap.size<=H) {r:Option Nat} (hr:∀k,r=some k->H+1<k) (hw:wk.grownBy w1 r):NF w w1 g H l x cs rs:=by
 refine ⟨h.rd.below ⟨hw.os,hw.tape,hw.output,hw.size,fun k hk=>hw.block k (by have:=h.bx.lt;omega) (fun e=>by have:=hr k e.symm;omega)⟩,h.bx.grown hw (fun e=>by have:=hr _ e;omega),h.rs.grown hw (fun e=>by have:=hr _ e;omega),?_⟩;exact ⟨hw.os.trans h.gr.os,hw.tape.trans h.gr.tape,hw.output.trans h.gr.output,Nat.le_trans h.gr.size hw.size,fun k hk hne=>(hw.block k (by have:=h.gr.size;omega) (fun e=>by have:=hr k e.symm;omega)).trans (h.gr.block k hk hne)⟩
end
def zk9 (w:World) (g:Nat) (p:Option (zi×List UInt8)) (most:Nat) (e:Ending) (w':World):Prop:=
 ∃f A n c l' x',e=.returned (.agg #[sv f.name,.int .u32 (f.id:Int),.int .i64 f.size,.slice A n c])/\f.blocks.length=n/\n<=c/\n<=9223372036854775807/\Cs w' w'.heap.size A (zL f.blocks)/\(0<n->∃a,A=some a/\w.heap.size<=a.block)/\WfF f /\
  Rdr w' g l' x'/\w.grownBy w' (some g)/\l'.length<=most/\((x'=0/\p=some (f,l')/\l'.length<most)\/(x'≠0/\p=none))
def zmA (nm:List UInt8) (id:Nat) (sz:Int):Option (List Int×List UInt8)->Option (zi×List UInt8)
 |none=>none
 |some (bs,l)=>some (⟨nm,id,sz,bs⟩,l)
structure NR (w wr:World) (g H N most:Nat) (P:Option (zi×List UInt8)) (nm:List UInt8) (id:Nat) (sz:Int) (rs:List Value) (k:Nat) (A:Option Addr) (n c:Nat) (bs:List Int) (l:List UInt8) (x:Int):Prop where
 nf:NF w wr g H l x [sv nm,.int .u32 (id:Int),.int .i64 sz,.slice A n c] rs
 own:wr.ownsRow (H+2) 3 1 (.slice A n c) n (zL bs)
 good:x=0->P=zmA nm id sz (vU 65535 (N-k) bs l)/\k+l.length<most
 bad:x≠0->P=none
 short:l.length<=most
 cnt:k<=most
 len:bs.length=k/\n=k
 wf:∀b∈bs,0<=b/\b<=65535
theorem zde:(Tryz.prog.info? 123).map (·.size)=some 4:=by kernel_rfl
theorem zfv (s:ByteArray) (n z:Int) (A:Option Addr) (a b:Nat):(#[.string s,.int .u32 n,.int .i64 z,.slice A a b]:Array Value).all (·.oneCell')=true:=by simp[Value.oneCell']
theorem zhO {w wr w7:World} {g H N most:Nat} {P:Option (zi×List UInt8)} {nm:List UInt8} {id sz:Nat} {rs:List Value} {A:Option Addr} {n c:Nat} {bs:List Int} {l:List UInt8} {x:Int}
 (hgH:g<H) (hwH:w.heap.size<=H) (hid:id<4294967296) (hsz:sz<=9223372036854775807) (hbw:H+1<wr.heap.size) (R:NR w wr g H N most P nm id (sz:Int) rs n A n c bs l x) (hbl:bs.length=n) (ho:Out (fun k=>k=H) wr w7) (he:x≠0\/n=N) (hm21:most<=2097152) :
 zk9 w g P most (.returned (.agg #[.string ⟨nm.toArray⟩,.int .u32 (id:Int),.int .i64 (sz:Int),.slice A n c])) w7:=by
 have hown:=zn R.own ho (fun k hk e=>by have:=(R.own.lt k hk).1;omega);obtain ⟨A',c',e,hc⟩:=zC hown;injection e with e1 e2 e3;subst e1 e3;have hcs:=Cs.of_own hown;have hcnt:=R.cnt;refine ⟨⟨nm,id,(sz:Int),bs⟩,A,n,c,l,x,rfl,hbl,hc,?_,hcs,fun hn=>?_,⟨hid,by simp only;omega,by simp only;omega,fun b hb=>by have:=R.wf b hb;omega⟩,?_,?_,R.short,?_⟩
 ·omega
 ·obtain ⟨q,cap,hv,hb,-⟩:=hown.form hn;injection hv with hv _ _;exact ⟨_,hv,by show w.heap.size<=q;omega⟩
 ·exact R.nf.rd.below (ho.below (B:=g+1) (fun k _ hk=>by omega) (by omega))
 ·refine ⟨ho.os.trans R.nf.gr.os,ho.tape.trans R.nf.gr.tape,ho.output.trans R.nf.gr.output,Nat.le_trans R.nf.gr.size ho.size,fun k hk hne=>(ho.block k (by have:=R.nf.gr.size;omega) (by omega)).trans (R.nf.gr.block k hk hne)⟩
 ·by_cases hx:x=0
  ·have hN:n=N:=by
    rcases he with h|h
    ·exact absurd hx h
    ·exact h
   have hg:=R.good hx;rw[hN,Nat.sub_self,vU] at hg;exact .inl ⟨hx,hg.1,by omega⟩
  ·exact .inr ⟨hx,R.bad hx⟩
theorem zcP (g:Nat) (l:List UInt8) (w:World) (hr:Rdr w g l 0) (hl:l.length<=2097152) :
 Calls Tryz.prog 155 #[.pointer (some ⟨g,0,none⟩)] w (zk9 w g (qE 9223372036854775807 65535 l) l.length):=by
 obtain ⟨i0,hi0,hz0,hz1,hz2⟩:=info_parts zbw;obtain ⟨n1,l1,x1,h1⟩:∃n1 l1 x1,numOf l 0 32=(n1,l1,x1):=⟨_,_,_,rfl⟩
 obtain ⟨nm,l2,x2,h2⟩:∃nm l2 x2,bytesOf l1 x1 (n1:Int)=(nm,l2,x2):=⟨_,_,_,rfl⟩
 obtain ⟨id,l3,x3,h3⟩:∃id l3 x3,numOf l2 x2 4294967295=(id,l3,x3):=⟨_,_,_,rfl⟩
 obtain ⟨sz,l4,x4,h4⟩:∃sz l4 x4,numOf l3 x3 9223372036854775807=(sz,l4,x4):=⟨_,_,_,rfl⟩
 have hch:=zcH (mb:=65535) h1 h2 h3 h4;obtain ⟨P,hP⟩:∃P,P=qE 9223372036854775807 65535 l:=⟨_,rfl⟩
 obtain ⟨most,hmost⟩:∃most,most=l.length:=⟨_,rfl⟩
 have HMO:=gI hmost;rw[<-hP] at hch ⊢;rw[<-hmost];clear hmost;have hn1:n1<=32:=by have:=qi l 0 32;rw[h1] at this;exact this
 have hid:id<4294967296:=by have:=qi l2 x2 4294967295;rw[h3] at this;have:id<=4294967295:=this;omega
 have hsz:sz<=9223372036854775807:=by have:=qi l3 x3 9223372036854775807;rw[h4] at this;exact this
 have hl4:l4.length<=l.length/\(x4=0->l4.length<l.length):=by
  have a1:=(vE l 0 32).1;have a2:=zeo l1 x1 (n1:Int);have a3:=(vE l2 x2 4294967295).1;have a4:=vE l3 x3 9223372036854775807;rw[h1] at a1;rw[h2] at a2;rw[h3] at a3;rw[h4] at a4;simp only at a1 a2 a3 a4;exact ⟨by omega,fun e=>by have:=a4.2 e;omega⟩
 have HCH:=gI hch;have HL4:=gI hl4;have H1:=gI h1;have H2:=gI h2;have H3:=gI h3;have H4:=gI h4;obtain ⟨N,hN⟩:∃N,N=(qX (sz:Int)).toNat:=⟨_,rfl⟩
 have hNz:qX (sz:Int)=(N:Int):=by rw[hN];unfold qX;split<;>omega
 have hN63:N<=9223372036854775807:=by rw[hN];unfold qX;split<;>omega
 have HMANY:=gI (show ∀w,Calls Tryz.prog 102 #[.int .i64 (sz:Int)] w fun e w'=>e=.returned (.int .i64 (N:Int))/\w=w' from fun w=>by rw[<-hNz];exact zbq (sz:Int) w (by omega));have HNB:=gI (show x4≠0->N=0 from fun hx=>by
  have:=zf7 (l:=l3) (x:=x3) (most:=9223372036854775807) (by rw[h4];exact hx);rw[h4] at this;have e:sz=0:=this;rw[hN,e]
  rfl)
 have HNN:=gI hN;have e1:IntKind.i64.wrap (n1:Int)=(n1:Int):=by rw[IntKind.wrap_i64];omega
 have e2:IntKind.u32.wrap (id:Int)=(id:Int):=by rw[IntKind.wrap_u32];omega
 have e3:IntKind.i64.wrap (sz:Int)=(sz:Int):=by rw[IntKind.wrap_i64];omega
 have hg:=hr.here;obtain ⟨H,hH⟩:∃H,H=w.heap.size:=⟨_,rfl⟩
 obtain ⟨wz,hwz⟩:∃wz,wz=(w.alloc (.cells #[.string ⟨#[]⟩,.int .u32 0,.int .i64 0,.slice none 0 0] 123)).alloc (.cells #[.string ⟨#[]⟩,.int .u32 0,.int .i64 0,.slice none 0 0] 123):=⟨_,rfl⟩
 have HWZ:=gI hwz;have N0:=gI (show NF w wz g H l 0 [.string ⟨#[]⟩,.int .u32 0,.int .i64 0,.slice none 0 0] [.string ⟨#[]⟩,.int .u32 0,.int .i64 0,.slice none 0 0] from by
  rw[hwz,hH];refine ⟨(hr.alloc _).alloc _,?_,(Blk.new w [.string ⟨#[]⟩,.int .u32 0,.int .i64 0,.slice none 0 0] _).alloc _,(ZN w _ _).trans (ZN _ _ _)⟩;exact Blk.new' _ [.string ⟨#[]⟩,.int .u32 0,.int .i64 0,.slice none 0 0] _ (by simp))
 have HHW:=gI hH;have hgH:g<H:=by omega
 have hwH:w.heap.size<=H:=by omega
 clear hr h1 h2 h3 h4 hch hP hwz hl4 hN hNz hH
 go_enter Tryz.func155,Tryz.ntmps155
 go_wp2_with fail
 rw[<-HWZ.out,<-HHW.out];clear HWZ;refine (YU g l 0 32 wz N0.out.rd).mono ?_;rw[H1.out];rintro e w1 ⟨rfl,hr1,hg1⟩;have N1:=gI (N0.out.call hgH hr1 hg1);clear hr1 hg1 N0
 go_wp2_with fail
 refine (ziJ g l1 x1 (n1:Int) w1 N1.out.rd (by omega)).mono ?_;rw[H2.out];rintro e w2 ⟨A2,m2,c2,rfl,hm2,hc2,-,hrd2,hr2,hg2⟩;have N2:=gI (N1.out.call hgH hr2 hg2);have hst:=xD A2 m2 c2 nm w2 _ hm2 hrd2;obtain ⟨c0,-,-,-⟩:=N2.out.bx.four;obtain ⟨f0,-,-,-⟩:=N2.out.bx.four_free;have N2s:=gI (N2.out.set hgH hwH 0 (sv nm));clear hm2 hc2 hrd2 hr2 hg2 N1
 go_wp2_with fail
 clear hst c0 f0 N2;refine (YU g l2 x2 4294967295 _ N2s.out.rd).mono ?_;rw[H3.out];rintro e w3 ⟨rfl,hr3,hg3⟩;have N3:=gI (N2s.out.call hgH hr3 hg3);obtain ⟨-,c1,-,-⟩:=N3.out.bx.four;obtain ⟨-,f1,-,-⟩:=N3.out.bx.four_free;have N3s:=gI (N3.out.set hgH hwH 1 (.int .u32 (id:Int)));clear hr3 hg3 N2s
 go_wp2_with fail
 clear c1 f1 N3;refine (YU g l3 x3 9223372036854775807 _ N3s.out.rd).mono ?_;rw[H4.out];rintro e w4 ⟨rfl,hr4,hg4⟩;have N4:=gI (N3s.out.call hgH hr4 hg4);obtain ⟨-,-,c2,-⟩:=N4.out.bx.four;obtain ⟨-,-,f2,-⟩:=N4.out.bx.four_free;have N4s:=gI (N4.out.set hgH hwH 2 (.int .i64 (sz:Int)));have hb4:Blk (w4.setCell ⟨H+1,2,none⟩ (.int .i64 (sz:Int))) (H+1) [sv nm,.int .u32 (id:Int),.int .i64 (sz:Int),.slice none 0 0]:=N4s.out.bx;obtain ⟨-,-,c3,-⟩:=hb4.four;clear hr4 hg4 N3s hb4
 go_wp2_with fail
 clear c2 f2 c3 N4;refine (HMANY.out _).mono ?_;rintro e w' ⟨rfl,rfl⟩;obtain ⟨rs,hrs⟩:∃rs,rs=[Value.string ⟨#[]⟩,.int .u32 0,.int .i64 0,.slice none 0 0]:=⟨_,rfl⟩
 have hmost:=HMO.out;have R0:=gI (show NR w (w4.setCell ⟨H+1,2,none⟩ (.int .i64 (sz:Int))) g H N most P nm id (sz:Int) rs 0 none 0 0 [] l4 x4 from by
  rw[hrs];refine ⟨N4s.out,World.ownsRow_nil _ _ _ _,fun hx=>⟨?_,by have:=HL4.out.2 hx;omega⟩,HCH.out.2.1,by have:=HL4.out.1;omega,by omega,⟨rfl,rfl⟩,fun b hb=>(by cases hb)⟩;rw[HCH.out.1 hx,Nat.sub_zero,HNN.out]
  cases vU 65535 (qX (sz:Int)).toNat [] l4<;>rfl)
 have hm21:most<=2097152:=by omega
 have hnm:nm.length<=32:=HCH.out.2.2;have hrl:rs.length=4:=by rw[hrs];rfl
 clear N4s hrs;clear hmost
 go_wp2
 go_loopw [22] (fun i wr=>∃(k:Nat) (A:Option Addr) (n c:Nat) (bs:List Int) (l':List UInt8) (x':Int),k<=N/\i=.int .i64 (k:Int)/\Hid (NR w wr g H N most P nm id (sz:Int) rs k A n c bs l' x')) (fun i _=>N-(intOf i).toNat)
 case atStart=>exact ⟨0,none,0,0,[],l4,x4,Nat.zero_le _,rfl,R0⟩
 case round=>
  clear R0;obtain ⟨k,A,n,c,bs,l',x',hk,rfl,R⟩:=hrel;obtain ⟨hbl,hnk⟩:=R.out.len;subst hnk;have HBL:=gI hbl;clear hbl;obtain ⟨-,-,-,c3⟩:=R.out.nf.bx.four;obtain ⟨-,-,-,f3⟩:=R.out.nf.bx.four_free;have hbw:=R.out.nf.bx.lt;have HBW:=gI hbw
  by_cases hlt:n<N
  ·by_cases hx:x'=0
   case neg=>
    have d1:(x' != 0)=true:=by rw[bne_iff_ne];exact hx
    have HEND:=gI (show x'≠0\/n=N from .inl hx);have HRS:=gI R.out.nf.rs;obtain ⟨c0,c1,c2,-⟩:=R.out.nf.bx.four;have hhb:=HRS.out.lt
    go_wp2_with fail
    refine (YZ g l' x' wr R.out.nf.rd).mono ?_;rintro e w' ⟨rfl,rfl⟩
    go_wp2_with (first
     |(refine ze rfl 123 _ _ rfl H _ #[.string ⟨nm.toArray⟩,.int .u32 (id:Int),.int .i64 (sz:Int),.slice A n c] rfl rfl HRS.out hrl zde (zfv _ _ _ _ _ _) ?_
       intro w7 hb7 ho7;have HB7:=gI (show Blk w7 H [.string ⟨nm.toArray⟩,.int .u32 (id:Int),.int .i64 (sz:Int),.slice A n c] from hb7);have HO7:=gI ho7;clear hb7 ho7)
     |fail)
    obtain ⟨r0,r1,r2,r3⟩:=HB7.out.four;refine bodyPost_ret (v:=.agg #[.string ⟨nm.toArray⟩,.int .u32 (id:Int),.int .i64 (sz:Int),.slice A n c]) (by simp[results,Tryz.results155,go_sem,r0,r1,r2,r3]) rfl ?_;exact zhO hgH hwH hid hsz HBW.out R.out HBL.out HO7.out HEND.out hm21
   case pos=>
    subst hx;obtain ⟨y,l5,x5,h5⟩:∃y l5 x5,numOf l' 0 65535=(y,l5,x5):=⟨_,_,_,rfl⟩
    have hy:y<=65535:=by have:=qi l' 0 65535;rw[h5] at this;exact this
    have e5:IntKind.i64.wrap (y:Int)=(y:Int):=by rw[IntKind.wrap_i64];omega
    have H5:=gI h5;have hkm:=R.out.cnt;clear h5
    go_wp2_with fail
    refine (YZ g l' 0 wr R.out.nf.rd).mono ?_;rintro e w' ⟨rfl,rfl⟩
    go_wp2_with fail
    have HND:=gI (R.out.nf.past (Below.refl _ _).drew);have HOD:=gI (own_below' R.out.own (Below.refl _ _).drew);have hmx:n+1<=maxLen:=by unfold maxLen;omega
    go_region_law (first
     |(rw[if_pos (by simp[Region.wanted])]
       go_simp
       go_at_call 153
       refine (YU g l' 0 65535 _ HND.out.rd).mono ?_;rw[H5.out];rintro e w5 ⟨rfl,hr5,hg5⟩;have N5:=gI (HND.out.call hgH hr5 hg5);have O5:=gI (ze8 HOD.out hg5 (show g<H+2 by omega));obtain ⟨-,-,-,c5⟩:=N5.out.bx.four;obtain ⟨-,-,-,f5⟩:=N5.out.bx.four_free;have hb5:=N5.out.bx.lt;clear hr5 hg5)
     |(refine Z6 (w:=w5.alloc (.cells #[.int .i64 (y:Int)] 3)) rfl (.tmp 28) (.tmp 32) 121 rfl (H+2) 3 i0 _ 1 8 Tryz.underlying121 hi0 hz0 hz1 hz2 rfl (by decide) (.slice A n c) n _ (by simp[Act.eval]) (O5.out.alloc _) ⟨w5.heap.size,0,none⟩ 1 1 (zL [(y:Int)]) (by simp[Act.eval]) rfl (zlM w5 (y:Int) 3) (zaJ _) hmx (by omega) (by simp;omega) ?_
       intro v6 w6 ho6 hg6 _;obtain ⟨A6,d6,rfl,hnd6⟩:=zC ho6;have N6:=gI ((N5.out.past ((Below.refl _ _).alloc (Nat.le_refl _) (.cells #[.int .i64 (y:Int)] 3))).apart hgH hwH (fun q hq=>by have:=(O5.out.lt q hq).1;omega) hg6);have O6:=gI ho6;obtain ⟨-,-,-,c6⟩:=N6.out.bx.four;obtain ⟨-,-,-,f6⟩:=N6.out.bx.four_free;clear ho6 hg6))
    all_goals
     have hlen5:=vE l' 0 65535;rw[H5.out] at hlen5;have R7:=gI (show NR w (w6.setCell ⟨H+1,3,none⟩ (.slice A6 (n+1) d6)) g H N most P nm id (sz:Int) rs (n+1) A6 (n+1) d6 (bs++[(y:Int)]) l5 x5 from by
      have hg:=R.out.good rfl;have hNk:N-n=(N-(n+1))+1:=by omega
      rw[hNk,vU] at hg;refine ⟨N6.out.set hgH hwH 3 (.slice A6 (n+1) d6),?_,fun hx5=>?_,fun hx5=>?_,?_,by omega,⟨by simp[HBL.out],rfl⟩,fun b hb=>?_⟩
      ·have:=ownsRow_setCell_below O6.out (a:=⟨H+1,3,none⟩) (show H+1<H+2 by omega) (.slice A6 (n+1) d6);rw[Xm];exact this
      ·subst hx5;rw[qG H5.out] at hg;refine ⟨hg.1,?_⟩;have:=hlen5.2 rfl;simp only at this;omega
      ·rw[vF H5.out hx5] at hg;exact hg.1
      ·have:=hlen5.1;have:=R.out.short;simp only at *;omega
      ·rcases List.mem_append.1 hb with hb|hb
       ·exact R.out.wf b hb
       ·simp at hb;subst hb;omega)
     clear N6 O6 N5 O5 HND HOD c6 f6 c5 f5 hb5 hlen5 c3 f3
     go_wp2
     go_roundw
     case rel=>exact ⟨n+1,A6,n+1,d6,bs++[(y:Int)],l5,x5,by omega,by go_num,R7⟩
     case measure=>simp[intOf];omega
  ·have HEND:=gI (show x'≠0\/n=N from .inr (by omega));have HRS:=gI R.out.nf.rs;obtain ⟨c0,c1,c2,-⟩:=R.out.nf.bx.four;have hhb:=HRS.out.lt
   go_wp2_with (first
    |(refine ze rfl 123 _ _ rfl H _ #[.string ⟨nm.toArray⟩,.int .u32 (id:Int),.int .i64 (sz:Int),.slice A n c] rfl rfl HRS.out hrl zde (zfv _ _ _ _ _ _) ?_
      intro w7 hb7 ho7;have HB7:=gI (show Blk w7 H [.string ⟨nm.toArray⟩,.int .u32 (id:Int),.int .i64 (sz:Int),.slice A n c] from hb7);have HO7:=gI ho7;clear hb7 ho7)
    |fail)
   obtain ⟨r0,r1,r2,r3⟩:=HB7.out.four;refine bodyPost_ret (v:=.agg #[.string ⟨nm.toArray⟩,.int .u32 (id:Int),.int .i64 (sz:Int),.slice A n c]) (by simp[results,Tryz.results155,go_sem,r0,r1,r2,r3]) rfl ?_;exact zhO hgH hwH hid hsz HBW.out R.out HBL.out HO7.out HEND.out hm21
end
section
open Go.RowKit Me Mf
def yN (w:World) (H B:Nat) (r:Option Nat) (vs:List Value) (l:List zi):Prop:=vs.length=l.length*4/\∀k f,l[k]?=some f->∃A n c,vs[k*4]?=some (sv f.name)/\vs[k*4+1]?=some (.int .u32 (f.id:Int))/\vs[k*4+2]?=some (.int .i64 f.size)/\vs[k*4+3]?=some (.slice A n c) /\
 f.blocks.length=n/\n<=c/\n<=9223372036854775807/\Cs w B A (zL f.blocks)/\(0<n->∀a,A=some a->H<=a.block/\r≠some a.block)
section
variable {w w':World} {H B B':Nat} {r r':Option Nat} {vs:List Value} {l:List zi}
theorem yN.nil (w:World) (H B:Nat) (r:Option Nat):yN w H B r [] []:=⟨rfl,fun k f h=>by simp at h⟩
theorem yN.keep (h:yN w H B r vs l) {q:Option Nat} (hg:w.grownBy w' q) (hB:B<=w.heap.size) (hq:∀k,q=some k->k<H\/r=some k):yN w' H B r vs l:=by
 refine ⟨h.1,fun k f hf=>?_⟩;obtain ⟨A,n,c,e0,e1,e2,e3,e4,e5,e6,e7,e8⟩:=h.2 k f hf;refine ⟨A,n,c,e0,e1,e2,e3,e4,e5,e6,fun hn=>?_,e8⟩;obtain ⟨a,rfl,hb,hc⟩:=e7 hn;obtain ⟨p1,p2⟩:=e8 (by rw[zV] at hn;omega) a rfl;refine ⟨a,rfl,hb,fun i u hu=>(World.cell?_of_block (hg.block _ (by rw[block_add];omega) (fun e=>?_))).trans (hc i u hu)⟩;rw[block_add] at e;rcases hq _ e.symm with h1|h1
 ·omega
 ·exact p2 h1
theorem yN.out {T:Nat->Prop} (h:yN w H B r vs l) (ho:Out T w w') (hB:B<=w.heap.size) (hT:∀k,T k->k<H):yN w' H B r vs l:=by
 refine ⟨h.1,fun k f hf=>?_⟩;obtain ⟨A,n,c,e0,e1,e2,e3,e4,e5,e6,e7,e8⟩:=h.2 k f hf;refine ⟨A,n,c,e0,e1,e2,e3,e4,e5,e6,fun hn=>?_,e8⟩;obtain ⟨a,rfl,hb,hc⟩:=e7 hn;obtain ⟨p1,p2⟩:=e8 (by rw[zV] at hn;omega) a rfl;refine ⟨a,rfl,hb,fun i u hu=>(ho.cell (p:=a.add i) (by rw[block_add];omega) (fun e=>?_)).trans (hc i u hu)⟩;rw[block_add] at e;have:=hT _ e;omega
theorem yN.past (h:yN w H B r vs l) (hb:Below w.heap.size w w') (hB:B<=w.heap.size):yN w' H B r vs l:=h.keep (vL hb none) hB (fun k e=>by cases e)
theorem yN.more (h:yN w H B r vs l) (hB:B<=B'):yN w H B' r vs l:=by
 refine ⟨h.1,fun k f hf=>?_⟩;obtain ⟨A,n,c,e0,e1,e2,e3,e4,e5,e6,e7,e8⟩:=h.2 k f hf;exact ⟨A,n,c,e0,e1,e2,e3,e4,e5,e6,e7.more hB,e8⟩
theorem yN.row (h:yN w H B r vs l) (hr:r'=r\/∃k,r'=some k/\B<=k):yN w H B r' vs l:=by
 rcases hr with rfl|⟨q,rfl,hq⟩
 ·exact h
 ·refine ⟨h.1,fun k f hf=>?_⟩;obtain ⟨A,n,c,e0,e1,e2,e3,e4,e5,e6,e7,e8⟩:=h.2 k f hf;refine ⟨A,n,c,e0,e1,e2,e3,e4,e5,e6,e7,fun hn a ha=>⟨(e8 hn a ha).1,fun e=>?_⟩⟩;obtain ⟨a',e',hb,-⟩:=e7 (by rw[zV];omega);rw[ha] at e';injection e' with e';subst e';injection e with e;omega
theorem yN.snoc (h:yN w H B r vs l) {f:zi} {A:Option Addr} {n c:Nat} (h1:f.blocks.length=n) (h2:n<=c) (h3:n<=9223372036854775807) (h4:Cs w B A (zL f.blocks)) (h5:0<n->∀a,A=some a->H<=a.block/\r≠some a.block) :
 yN w H B r (vs++[sv f.name,.int .u32 (f.id:Int),.int .i64 f.size,.slice A n c]) (l++[f]):=by
 obtain ⟨hl,hc⟩:=h;refine ⟨by simp[hl];omega,fun k g hg=>?_⟩
 by_cases hk:k<l.length
 ·rw[List.getElem?_append_left hk] at hg;obtain ⟨A',n',c',e0,e1,e2,e3,e⟩:=hc k g hg;exact ⟨A',n',c',by rw[List.getElem?_append_left (by omega)];exact e0,by rw[List.getElem?_append_left (by omega)];exact e1,by rw[List.getElem?_append_left (by omega)];exact e2,by rw[List.getElem?_append_left (by omega)];exact e3,e⟩
 ·have hlt:=(List.getElem?_eq_some_iff.1 hg).1;simp at hlt;have hkl:k=l.length:=by omega
  subst hkl;simp at hg;subst hg;refine ⟨A,n,c,?_,?_,?_,?_,h1,h2,h3,h4,h5⟩
  ·rw[List.getElem?_append_right (by omega),hl,Nat.sub_self];rfl
  ·rw[List.getElem?_append_right (by omega),hl,show l.length*4+1-l.length*4=1 by omega];rfl
  ·rw[List.getElem?_append_right (by omega),hl,show l.length*4+2-l.length*4=2 by omega];rfl
  ·rw[List.getElem?_append_right (by omega),hl,show l.length*4+3-l.length*4=3 by omega];rfl
theorem yN.files (h:yN w H B r vs l) {L:Option Addr} (hc:Cs w B L vs):Files w B L l:=fun hn=>by
 obtain ⟨hl,hf⟩:=h;obtain ⟨a,e,hb,hcell⟩:=hc (by omega);refine ⟨a,e,hb,fun k f hk=>?_⟩;obtain ⟨A,n,c,e0,e1,e2,e3,e4,e5,e6,e7,-⟩:=hf k f hk;have k1:=hcell _ _ e1;have k2:=hcell _ _ e2;have k3:=hcell _ _ e3;rw[xX a (k*4) 0] at k1;rw[xX a (k*4) 1] at k2;rw[xX a (k*4) 2] at k3;exact ⟨A,n,c,hcell _ _ e0,k1,k2,k3,e4,e5,e6,e7⟩
end
end
section
open Go.RowKit Me Mf Va
def zl9 (v x:Nat):Option (List zi×List UInt8)->Option (ManD×List UInt8)
 |none=>none
 |some (fs,l)=>some (⟨v,x,fs⟩,l)
theorem zcF {l l1 l2 l3:List UInt8} {v x n:Nat} {x1 x2 x3:Int} {mn ms mb:Nat} (h1:numOf l 0 18446744073709551615=(v,l1,x1)) (h2:numOf l1 x1 4294967295=(x,l2,x2)) (h3:numOf l2 x2 mn=(n,l3,x3)) :
 (x3=0->vT mn ms mb l=zl9 v x (qh ms mb n [] l3))/\(x3≠0->vT mn ms mb l=none):=by
 by_cases e1:x1=0
 ·subst e1;have p1:=qG h1
  by_cases e2:x2=0
  ·subst e2;have p2:=qG h2
   by_cases e3:x3=0
   ·subst e3;have p3:=qG h3;refine ⟨fun _=>?_,fun h=>absurd rfl h⟩;unfold vT;rw[p1];simp only;rw[p2];simp only;rw[p3]
    all_goals simp only
    all_goals (cases qh ms mb n [] l3<;>rfl)
   ·refine ⟨fun h=>absurd h e3,fun _=>?_⟩;unfold vT;rw[p1];simp only;rw[p2];simp only;rw[vF h3 e3]
  ·refine ⟨fun h=>?_,fun _=>?_⟩
   ·exact absurd (xw (l:=l2) (x:=x2) (most:=mn) (by rw[h3];exact h)) e2
   ·unfold vT;rw[p1];simp only;rw[vF h2 e2]
 ·refine ⟨fun h=>?_,fun _=>?_⟩
  ·have e2:=xw (l:=l2) (x:=x2) (most:=mn) (by rw[h3];exact h);exact absurd (xw (l:=l1) (x:=x1) (most:=4294967295) (by rw[h2];exact e2)) e1
  ·unfold vT;rw[vF h1 e1]
theorem VH:(Tryz.prog.info? 123).map (fun i=>(i.zero,i.size,i.bytes))=some (some (.agg #[.string ⟨#[]⟩,.int .u32 0,.int .i64 0,.slice none 0 0]),4,56):=by kernel_rfl
theorem zP:(Tryz.prog.info? 110).map (·.size)=some 3:=by kernel_rfl
theorem yt (v x:Int) (A:Option Addr) (a b:Nat):(#[.int .u64 v,.int .u32 x,.slice A a b]:Array Value).all (·.oneCell')=true:=by simp[Value.oneCell']
theorem zfu (w:World) (a b c d:Value) (t:TypeId):∀j u,[a,b,c,d][j]?=some u->(w.alloc (.cells #[a,b,c,d] t)).cell? ((⟨w.heap.size,0,none⟩:Addr).add j)=some u:=by
 intro j u hu;obtain ⟨y,e,-,hc⟩:=Cs.lit w #[a,b,c,d] t (by simp);injection e with e;rw[e];exact hc j u (by simpa using hu)
theorem zft (s:ByteArray) (n z:Int) (A:Option Addr) (a b:Nat):∀u∈[Value.string s,.int .u32 n,.int .i64 z,.slice A a b],u.oneCell'=true:=by
 intro u hu;simp at hu;rcases hu with rfl|rfl|rfl|rfl<;>rfl
def zk8 (w:World) (g:Nat) (p:Option (ManD×List UInt8)) (e:Ending) (w':World):Prop:=
 ∃m A n c l' x',e=.returned (mval m.version m.next A n c)/\Zc w' w'.heap.size A n c m/\n<=2097153/\Rdr w' g l' x'/\w.grownBy w' (some g)/\((x'=0/\p=some (m,l'))\/(x'≠0/\p=none))/\ManK (fun k=>k<w.heap.size) A n c m w'
structure NM (w wr:World) (g H N most:Nat) (P:Option (ManD×List UInt8)) (v nx:Nat) (rs:List Value) (k:Nat) (A:Option Addr) (n c:Nat) (fs:List zi) (vs:List Value) (l:List UInt8) (x:Int):Prop where
 nf:NF w wr g H l x [.int .u64 (v:Int),.int .u32 (nx:Int),.slice A n c] rs
 own:wr.ownsRow (H+2) 123 4 (.slice A n c) n vs
 fc:yN wr (H+2) wr.heap.size (Value.slice A n c).ownBlock vs fs
 good:x=0->P=zl9 v nx (qh 9223372036854775807 65535 (N-k) fs l)/\k+l.length<=most
 bad:x≠0->P=none
 short:l.length<=most
 cnt:k<=most+1
 len:fs.length=k/\n=k
 wf:∀f∈fs,WfF f
theorem zhM {w wr w7:World} {g H N most:Nat} {P:Option (ManD×List UInt8)} {v nx:Nat} {rs:List Value} {A:Option Addr} {n c:Nat} {fs:List zi} {vs:List Value} {l:List UInt8} {x:Int}
 (hgH:g<H) (hwH:w.heap.size<=H) (hv:v<18446744073709551616) (hx32:nx<4294967296) (hbw:H+1<wr.heap.size) (R:NM w wr g H N most P v nx rs n A n c fs vs l x) (hbl:fs.length=n) (ho:Out (fun k=>k=H) wr w7) (he:x≠0\/n=N) (hm21:most<=2097152) :
 zk8 w g P (.returned (mval v nx A n c)) w7:=by
 have hown:=zn R.own ho (fun k hk e=>by have:=(R.own.lt k hk).1;omega);obtain ⟨A',c',e,hc⟩:=zC hown;injection e with e1 e2 e3;subst e1 e3;have hcnt:=R.cnt;have hfc:yN w7 (H+2) wr.heap.size (Value.slice A n c).ownBlock vs fs:=
  R.fc.keep (q:=some H) ⟨ho.os,ho.tape,ho.output,ho.size,fun k hk hne=>ho.block k hk (fun e=>hne (by rw[e]))⟩ (Nat.le_refl _) (fun k e=>by injection e with e;omega)
 have key:ManK (fun k=>k<w.heap.size) A n c ⟨v,nx,fs⟩ w7:=fun w8 hg=>by
  have hcs:=Cs.of_own (zn hown hg (fun k hk e=>by have:=(hown.lt k hk).1;omega));have h8:=hfc.out hg ho.size (fun k e=>by omega);exact ⟨(h8.more (Nat.le_trans ho.size hg.size)).files hcs,hbl,hc,by omega,⟨hv,hx32,R.wf⟩⟩
 refine ⟨⟨v,nx,fs⟩,A,n,c,l,x,rfl,key.now,by omega,?_,?_,?_,key⟩
 ·exact R.nf.rd.below (ho.below (B:=g+1) (fun k _ hk=>by omega) (by omega))
 ·refine ⟨ho.os.trans R.nf.gr.os,ho.tape.trans R.nf.gr.tape,ho.output.trans R.nf.gr.output,Nat.le_trans R.nf.gr.size ho.size,fun k hk hne=>(ho.block k (by have:=R.nf.gr.size;omega) (by omega)).trans (R.nf.gr.block k hk hne)⟩
 ·by_cases hx:x=0
  ·have hN:n=N:=by
    rcases he with h|h
    ·exact absurd hx h
    ·exact h
   have hg:=R.good hx;rw[hN,Nat.sub_self,qh] at hg;exact .inl ⟨hx,hg.1⟩
  ·exact .inr ⟨hx,R.bad hx⟩
theorem zj0 (g:Nat) (l:List UInt8) (w:World) (hr:Rdr w g l 0) (hl:l.length<=2097152) :
 Calls Tryz.prog 122 #[.pointer (some ⟨g,0,none⟩)] w (zk8 w g (vT 18446744073709551615 9223372036854775807 65535 l)):=by
 obtain ⟨i0,hi0,hz0,hz1,hz2⟩:=info_parts VH;obtain ⟨v,l1,x1,h1⟩:∃n1 l1 x1,numOf l 0 18446744073709551615=(n1,l1,x1):=⟨_,_,_,rfl⟩
 obtain ⟨nx,l2,x2,h2⟩:∃id l3 x3,numOf l1 x1 4294967295=(id,l3,x3):=⟨_,_,_,rfl⟩
 obtain ⟨N,l3,x3,h3⟩:∃sz l4 x4,numOf l2 x2 18446744073709551615=(sz,l4,x4):=⟨_,_,_,rfl⟩
 have hch:=zcF (ms:=9223372036854775807) (mb:=65535) h1 h2 h3;obtain ⟨P,hP⟩:∃P,P=vT 18446744073709551615 9223372036854775807 65535 l:=⟨_,rfl⟩
 obtain ⟨most,hmost⟩:∃most,most=l.length:=⟨_,rfl⟩
 rw[<-hP] at hch ⊢;have hv:v<18446744073709551616:=by have:=XQ l 0 18446744073709551615;rw[h1] at this;exact this
 have hnx:nx<4294967296:=by have:=qi l1 x1 4294967295;rw[h2] at this;have:nx<=4294967295:=this;omega
 have hN64:N<18446744073709551616:=by have:=XQ l2 x2 18446744073709551615;rw[h3] at this;exact this
 have hl3:l3.length<=most:=by
  have a1:=(vE l 0 18446744073709551615).1;have a3:=(vE l1 x1 4294967295).1;have a4:=(vE l2 x2 18446744073709551615).1;rw[h1] at a1;rw[h2] at a3;rw[h3] at a4;simp only at a1 a3 a4;omega
 have hm21:most<=2097152:=by omega
 have HCH:=gI hch;have HL3:=gI hl3;have H1:=gI h1;have H2:=gI h2;have H3:=gI h3;have e1:(18446744073709551615:Int)=(top:Int):=zlg;have e2:IntKind.u32.wrap (nx:Int)=(nx:Int):=by rw[IntKind.wrap_u32];omega
 have hg:=hr.here;obtain ⟨H,hH⟩:∃H,H=w.heap.size:=⟨_,rfl⟩
 obtain ⟨wz,hwz⟩:∃wz,wz=(w.alloc (.cells #[.int .u64 0,.int .u32 0,.slice none 0 0] 110)).alloc (.cells #[.int .u64 0,.int .u32 0,.slice none 0 0] 110):=⟨_,rfl⟩
 have HWZ:=gI hwz;have N0:=gI (show NF w wz g H l 0 [.int .u64 0,.int .u32 0,.slice none 0 0] [.int .u64 0,.int .u32 0,.slice none 0 0] from by
  rw[hwz,hH];refine ⟨(hr.alloc _).alloc _,?_,(Blk.new w [.int .u64 0,.int .u32 0,.slice none 0 0] _).alloc _,(ZN w _ _).trans (ZN _ _ _)⟩;exact Blk.new' _ [.int .u64 0,.int .u32 0,.slice none 0 0] _ (by simp))
 have HHW:=gI hH;have hgH:g<H:=by omega
 have hwH:w.heap.size<=H:=by omega
 clear hr h1 h2 h3 hch hP hwz hl3 hH hl hmost e1
 go_enter Tryz.func122,Tryz.ntmps122
 go_wp2_with fail
 rw[<-HWZ.out,<-HHW.out];clear HWZ;refine (YU g l 0 18446744073709551615 wz N0.out.rd).mono ?_;rw[H1.out];rintro e w1 ⟨rfl,hr1,hg1⟩;have N1:=gI (N0.out.call hgH hr1 hg1);have c0:=N1.out.bx.cell (i:=0) rfl;have f0:=N1.out.bx.frozen 0;have N1s:=gI (N1.out.set hgH hwH 0 (.int .u64 (v:Int)));clear hr1 hg1 N0
 go_wp2_with fail
 clear c0 f0 N1;refine (YU g l1 x1 4294967295 _ N1s.out.rd).mono ?_;rw[H2.out];rintro e w3 ⟨rfl,hr3,hg3⟩;have N3:=gI (N1s.out.call hgH hr3 hg3);have c1:=N3.out.bx.cell (i:=1) rfl;have f1:=N3.out.bx.frozen 1;have N3s:=gI (N3.out.set hgH hwH 1 (.int .u32 (nx:Int)));clear hr3 hg3 N1s
 go_wp2_with fail
 clear c1 f1 N3;refine (YU g l2 x2 18446744073709551615 _ N3s.out.rd).mono ?_;rw[H3.out];rintro e w4 ⟨rfl,hr4,hg4⟩;have N4:=gI (N3s.out.call hgH hr4 hg4);clear hr4 hg4 N3s;obtain ⟨rs,hrs⟩:∃rs,rs=[Value.int .u64 0,.int .u32 0,.slice none 0 0]:=⟨_,rfl⟩
 have R0:=gI (show NM w w4 g H N most P v nx rs 0 none 0 0 [] [] l3 x3 from by
  rw[hrs];exact ⟨N4.out,World.ownsRow_nil _ _ _ _,yN.nil _ _ _ _,fun hx=>⟨HCH.out.1 hx,by have:=HL3.out;omega⟩,HCH.out.2,HL3.out,Nat.zero_le _,⟨rfl,rfl⟩,fun b hb=>(by cases hb)⟩)
 have hrl:rs.length=3:=by rw[hrs];rfl
 clear N4 hrs
 go_wp2
 go_loopw [13] (fun i wr=>∃(k:Nat) (A:Option Addr) (n c:Nat) (fs:List zi) (vs:List Value) (l':List UInt8) (x':Int),k<=N/\i=.int .u64 (k:Int)/\Hid (NM w wr g H N most P v nx rs k A n c fs vs l' x')) (fun i _=>N-(intOf i).toNat)
 case atStart=>exact ⟨0,none,0,0,[],[],l3,x3,Nat.zero_le _,rfl,R0⟩
 case round=>
  clear R0;obtain ⟨k,A,n,c,fs,vs,l',x',hk,rfl,R⟩:=hrel;obtain ⟨hbl,hnk⟩:=R.out.len;subst hnk;have HBL:=gI hbl;clear hbl;have c2:=R.out.nf.bx.cell (i:=2) rfl;have f2:=R.out.nf.bx.frozen 2;have hbw:=R.out.nf.bx.lt;have HBW:=gI hbw
  by_cases hlt:n<N
  ·by_cases hx:x'=0
   case neg=>
    have d1:(x' != 0)=true:=by rw[bne_iff_ne];exact hx
    have HEND:=gI (show x'≠0\/n=N from .inl hx);have HRS:=gI R.out.nf.rs;have c0:=R.out.nf.bx.cell (i:=0) rfl;have c1:=R.out.nf.bx.cell (i:=1) rfl;have hhb:=HRS.out.lt
    go_wp2_with fail
    refine (YZ g l' x' wr R.out.nf.rd).mono ?_;rintro e w' ⟨rfl,rfl⟩
    go_wp2_with (first
     |(refine ze rfl 110 _ _ rfl H _ #[.int .u64 (v:Int),.int .u32 (nx:Int),.slice A n c] rfl rfl HRS.out hrl zP (yt _ _ _ _ _) ?_
       intro w7 hb7 ho7;have HB7:=gI (show Blk w7 H [.int .u64 (v:Int),.int .u32 (nx:Int),.slice A n c] from hb7);have HO7:=gI ho7;clear hb7 ho7)
     |fail)
    have r0:=HB7.out.cell (i:=0) rfl;have r1:=HB7.out.cell (i:=1) rfl;have r2:=HB7.out.cell (i:=2) rfl;refine bodyPost_ret (v:=.agg #[.int .u64 (v:Int),.int .u32 (nx:Int),.slice A n c]) (by simp[results,Tryz.results122,go_sem,r0,r1,r2]) rfl ?_;exact zhM hgH hwH hv hnx HBW.out R.out HBL.out HO7.out HEND.out hm21
   case pos=>
    subst hx;have hkm:=(R.out.good rfl).2;have hsh:=R.out.short;obtain ⟨Pf,hPf⟩:∃Pf,Pf=qE 9223372036854775807 65535 l':=⟨_,rfl⟩
    have HPF:=gI hPf;clear hPf
    go_wp2_with fail
    refine (YZ g l' 0 wr R.out.nf.rd).mono ?_;rintro e w' ⟨rfl,rfl⟩
    go_wp2_with fail
    have HND:=gI (R.out.nf.past (Below.refl _ _).drew);have HOD:=gI (own_below' R.out.own (Below.refl _ _).drew);have HFD:=gI (R.out.fc.past (Below.refl _ _).drew (Nat.le_refl _));have hmx:n+1<=maxLen:=by unfold maxLen;omega
    go_region_law (first
     |(rw[if_pos (by simp[Region.wanted])]
       go_simp
       go_at_call 155
       refine (zcP g l' _ HND.out.rd (by omega)).mono ?_;rintro e w5 ⟨f,A5,n5,d5,l5,x5,rfl,hb5,hd5,hn5,hc5,hnew5,hwf5,hr5,hg5,hl5,hcase⟩;have N5:=gI (HND.out.call hgH hr5 hg5);have O5:=gI (ze8 HOD.out hg5 (show g<H+2 by omega));have F5:=gI ((HFD.out.keep (q:=some g) hg5 (Nat.le_refl _) (fun q e=>by injection e with e;omega)).more hg5.size);have HX5:=gI (And.intro hb5 (And.intro hd5 (And.intro hn5 (And.intro hc5 (And.intro hnew5 (And.intro hwf5 (And.intro hl5 hcase)))))));have c5:=N5.out.bx.cell (i:=2) rfl;have f5:=N5.out.bx.frozen 2;have hb5':=N5.out.bx.lt;clear hr5 hg5 hb5 hd5 hn5 hc5 hnew5 hwf5 hl5 hcase)
     |(refine Z6 (w:=w5.alloc (.cells #[.string ⟨f.name.toArray⟩,.int .u32 (f.id:Int),.int .i64 f.size,.slice A5 n5 d5] 123)) rfl (.tmp 19) (.tmp 22) 108 rfl (H+2) 123 i0 _ 4 56 Tryz.underlying108 hi0 hz0 hz1 hz2 rfl (by decide) (.slice A n c) n _ (by simp[Act.eval]) (O5.out.alloc _) ⟨w5.heap.size,0,none⟩ 1 1 [.string ⟨f.name.toArray⟩,.int .u32 (f.id:Int),.int .i64 f.size,.slice A5 n5 d5] (by simp[Act.eval]) rfl (zfu w5 _ _ _ _ 123) (zft _ _ _ _ _ _) hmx (by omega) (by simp;omega) ?_
       intro v6 w6 ho6 hg6 hloc;obtain ⟨A6,d6,rfl,hnd6⟩:=zC ho6;have N6:=gI ((N5.out.past ((Below.refl _ _).alloc (Nat.le_refl _) _)).apart hgH hwH (fun q hq=>by have:=(O5.out.lt q hq).1;omega) hg6);have O6:=gI ho6;have G6:=gI hg6;have L6:=gI hloc;have c6:=N6.out.bx.cell (i:=2) rfl;have f6:=N6.out.bx.frozen 2;clear ho6 hg6 hloc))
    all_goals
     have R7:=gI (show NM w (w6.setCell ⟨H+1,2,none⟩ (.slice A6 (n+1) d6)) g H N most P v nx rs (n+1) A6 (n+1) d6 (fs++[f]) (vs++[.string ⟨f.name.toArray⟩,.int .u32 (f.id:Int),.int .i64 f.size,.slice A5 n5 d5]) l5 x5 from by
      obtain ⟨hb5,hd5,hn5,hc5,hnew5,hwf5,hl5,hcase⟩:=HX5.out;have hg:=R.out.good rfl;have hNk:N-n=(N-(n+1))+1:=by omega
      have hkm2:=hg.2;have hsh2:=R.out.short;rw[hNk,qh] at hg;have hA:Below w5.heap.size w5 (w5.alloc (.cells #[.string ⟨f.name.toArray⟩,.int .u32 (f.id:Int),.int .i64 f.size,.slice A5 n5 d5] 123)):=(Below.refl _ _).alloc (Nat.le_refl _) _;have hF1:=(F5.out.past hA (Nat.le_refl _)).snoc (f:=f) hb5 hd5 hn5 (hc5.below hA) (fun hn0 a ha=>by
       obtain ⟨a',e',hab⟩:=hnew5 hn0;rw[ha] at e';injection e' with e';subst e';have hab':wr.heap.size<=a.block:=hab;refine ⟨by omega,fun e=>?_⟩;have:=(R.out.own.lt _ e).2
       omega)
      have hF2:=hF1.keep (q:=(Value.slice A n c).ownBlock) G6.out hA.size (fun q e=>.inr e);have hF3:=hF2.row (r':=(Value.slice A6 (n+1) d6).ownBlock) (by
       rcases L6.out with h|h
       ·exact .inl h
       ·exact .inr ⟨_,h,hA.size⟩)
      have hF4:=(hF3.keep (q:=some (H+1)) (grownBy_set w6 ⟨H+1,2,none⟩ (.slice A6 (n+1) d6)) (Nat.le_trans hA.size G6.out.size) (fun q e=>by injection e with e;omega)).more (B':=(w6.setCell ⟨H+1,2,none⟩ (.slice A6 (n+1) d6)).heap.size) (by have:=hA.size;have:=G6.out.size;simp[World.setCell];omega);refine ⟨N6.out.set hgH hwH 2 (.slice A6 (n+1) d6),?_,hF4,fun hx5=>?_,fun hx5=>?_,by omega,by omega,⟨by simp[HBL.out],rfl⟩,fun b hb=>?_⟩
      ·exact ownsRow_setCell_below O6.out (a:=⟨H+1,2,none⟩) (show H+1<H+2 by omega) (.slice A6 (n+1) d6)
      ·rcases hcase with ⟨-,e,hlt5⟩|⟨hne,-⟩
       ·rw[e] at hg;exact ⟨hg.1,by omega⟩
       ·exact absurd hx5 hne
      ·rcases hcase with ⟨h0,-,-⟩|⟨-,e⟩
       ·exact absurd h0 hx5
       ·rw[e] at hg;exact hg.1
      ·rcases List.mem_append.1 hb with hb|hb
       ·exact R.out.wf b hb
       ·simp at hb;subst hb;exact hwf5)
     clear N6 O6 N5 O5 F5 G6 L6 HX5 HND HOD HFD c6 f6 c5 f5 hb5' c2 f2
     go_wp2
     go_roundw
     case rel=>exact ⟨n+1,A6,n+1,d6,fs++[f],_,l5,x5,by omega,by go_num,R7⟩
     case measure=>simp[intOf];omega
  ·have HEND:=gI (show x'≠0\/n=N from .inr (by omega));have HRS:=gI R.out.nf.rs;have c0:=R.out.nf.bx.cell (i:=0) rfl;have c1:=R.out.nf.bx.cell (i:=1) rfl;have hhb:=HRS.out.lt
   go_wp2_with (first
    |(refine ze rfl 110 _ _ rfl H _ #[.int .u64 (v:Int),.int .u32 (nx:Int),.slice A n c] rfl rfl HRS.out hrl zP (yt _ _ _ _ _) ?_
      intro w7 hb7 ho7;have HB7:=gI (show Blk w7 H [.int .u64 (v:Int),.int .u32 (nx:Int),.slice A n c] from hb7);have HO7:=gI ho7;clear hb7 ho7)
    |fail)
   have r0:=HB7.out.cell (i:=0) rfl;have r1:=HB7.out.cell (i:=1) rfl;have r2:=HB7.out.cell (i:=2) rfl;refine bodyPost_ret (v:=.agg #[.int .u64 (v:Int),.int .u32 (nx:Int),.slice A n c]) (by simp[results,Tryz.results122,go_sem,r0,r1,r2]) rfl ?_;exact zhM hgH hwH hv hnx HBW.out R.out HBL.out HO7.out HEND.out hm21
end
end
section
open Go.RowKit Me Mf
structure FKv (T:Nat->Prop) (w:World) (f:zi) (A:Option Addr) (n c:Nat):Prop where
 len:f.blocks.length=n
 cap:n<=c
 most:n<=9223372036854775807
 blk:Kk T (fun W=>Cs W W.heap.size A (zL f.blocks)) w
section
variable {T T':Nat->Prop} {w w':World} {f:zi} {A:Option Addr} {n c:Nat} {m:ManD}
theorem FKv.next (h:FKv T w f A n c) (ho:Out T w w') (hs:∀j,T' j->T j\/w.heap.size<=j):FKv T' w' f A n c:={h with blk:=h.blk.next ho hs}
def gone (w:World) (b:Nat):World:={w with heap:=w.heap.setIfInBounds b (.cells #[] 0)}
theorem zkl {b:Nat} (hb:T b):Out T w (gone w b):=⟨rfl,rfl,rfl,by simp[gone],fun k hk hn=>by
 have:b≠k:=fun e=>hn (by rw[<-e];exact hb)
 simp[gone,Array.getElem?_setIfInBounds,this]⟩
theorem zio {p:Addr}:(gone w p.block).cell? p=none:=by
 unfold World.cell? gone;simp only[Array.getElem?_setIfInBounds,if_true]
 split
 ·rename_i h
  split at h
  ·cases h;split<;>simp
  ·cases h
 ·rfl
theorem zh1 (h:ManK T A n c m w) {k:Nat} (hf:m.files[k]?=some f):∃a A3 n3 c3,A=some a/\a.block<w.heap.size/\¬T a.block/\w.cell? (a.add (k*4))=some (sv f.name)/\w.cell? ⟨(a.add (k*4)).block,(a.add (k*4)).off+1,none⟩=some (.int .u32 (f.id:Int)) /\
 w.cell? ⟨(a.add (k*4)).block,(a.add (k*4)).off+2,none⟩=some (.int .i64 f.size)/\w.cell? ⟨(a.add (k*4)).block,(a.add (k*4)).off+3,none⟩=some (.slice A3 n3 c3)/\FKv T w f A3 n3 c3:=by
 obtain ⟨a,rfl,hab,A3,n3,c3,g0,g1,g2,g3,l3,b3,m3,k3⟩:=h.now.files.get hf;have hnT:¬T a.block:=fun hT=>by
  obtain ⟨a',e,-,A4,n4,c4,q0,-⟩:=(h _ (zkl hT)).files.get hf;injection e with e;subst e;have hg:(gone w a.block).cell? (a.add (k*4))=none:=by
   have e:(a.add (k*4)).block=a.block:=block_add _ _;rw[<-e];exact zio
  rw[hg] at q0
  cases q0
 refine ⟨a,A3,n3,c3,rfl,hab,hnT,g0,g1,g2,g3,l3,b3,m3,fun W hW=>?_⟩;obtain ⟨a',e,-,A4,n4,c4,q0,q1,q2,q3,-,-,-,q7⟩:=(h W hW).files.get hf;injection e with e;subst e;have:=(hW.cell (p:=⟨(a.add (k*4)).block,(a.add (k*4)).off+3,none⟩) (by show (a.add (k*4)).block<_;rw[block_add];exact hab) (by show ¬T (a.add (k*4)).block;rw[block_add];exact hnT)).trans g3;rw[q3] at this;injection this with this;injection this with e1 e2 e3;rw[<-e1];exact q7
def FKs (T:Nat->Prop) (w:World) (vs:List Value) (l:List zi):Prop:=vs.length=l.length*4/\∀k f,l[k]?=some f->∃A n c,vs[k*4]?=some (sv f.name)/\vs[k*4+1]?=some (.int .u32 (f.id:Int))/\vs[k*4+2]?=some (.int .i64 f.size)/\vs[k*4+3]?=some (.slice A n c)/\FKv T w f A n c
theorem FKs.nil (T:Nat->Prop) (w:World):FKs T w [] []:=⟨rfl,fun k f h=>by simp at h⟩
theorem FKs.next {vs:List Value} {l:List zi} (h:FKs T w vs l) (ho:Out T w w') (hs:∀j,T' j->T j\/w.heap.size<=j):FKs T' w' vs l:=⟨h.1,fun k f hf=>by
 obtain ⟨A,n,c,e0,e1,e2,e3,e4⟩:=h.2 k f hf;exact ⟨A,n,c,e0,e1,e2,e3,e4.next ho hs⟩⟩
theorem FKs.snoc {vs:List Value} {l:List zi} (h:FKs T w vs l) (hv:FKv T w f A n c):FKs T w (vs++[sv f.name,.int .u32 (f.id:Int),.int .i64 f.size,.slice A n c]) (l++[f]):=by
 obtain ⟨hl,hc⟩:=h;refine ⟨by simp[hl];omega,fun k g hg=>?_⟩
 by_cases hk:k<l.length
 ·rw[List.getElem?_append_left hk] at hg;obtain ⟨A',n',c',e0,e1,e2,e3,e⟩:=hc k g hg;exact ⟨A',n',c',by rw[List.getElem?_append_left (by omega)];exact e0,by rw[List.getElem?_append_left (by omega)];exact e1,by rw[List.getElem?_append_left (by omega)];exact e2,by rw[List.getElem?_append_left (by omega)];exact e3,e⟩
 ·have hlt:=(List.getElem?_eq_some_iff.1 hg).1;simp at hlt;have hkl:k=l.length:=by omega
  subst hkl;simp at hg;subst hg;refine ⟨A,n,c,?_,?_,?_,?_,hv⟩
  ·rw[List.getElem?_append_right (by omega),hl,Nat.sub_self];rfl
  ·rw[List.getElem?_append_right (by omega),hl,show l.length*4+1-l.length*4=1 by omega];rfl
  ·rw[List.getElem?_append_right (by omega),hl,show l.length*4+2-l.length*4=2 by omega];rfl
  ·rw[List.getElem?_append_right (by omega),hl,show l.length*4+3-l.length*4=3 by omega];rfl
theorem FKs.man {vs:List Value} {base:Nat} (h:FKs T w vs m.files) (hr:w.ownsRow base 123 4 (.slice A n c) n vs) (hrow:∀k,(Value.slice A n c).ownBlock=some k->¬T k) (hl:m.files.length=n) (hc:n<=c) (hm:n<=9223372036854775807) (hw:Wf m):ManK T A n c m w:=fun W hW=>by
 have hcs:=Cs.of_own (zn hr hW hrow);refine ⟨fun hn=>?_,hl,hc,hm,hw⟩;obtain ⟨a,e,hb,hcell⟩:=hcs (by rw[h.1];omega);refine ⟨a,e,hb,fun k f hk=>?_⟩;obtain ⟨A,n,c,e0,e1,e2,e3,hv⟩:=h.2 k f hk;have k1:=hcell _ _ e1;have k2:=hcell _ _ e2;have k3:=hcell _ _ e3;rw[xX a (k*4) 0] at k1;rw[xX a (k*4) 1] at k2;rw[xX a (k*4) 2] at k3;exact ⟨A,n,c,hcell _ _ e0,k1,k2,k3,hv.len,hv.cap,hv.most,hv.blk W hW⟩
end
end
end Go.Proofs.YtcdkopbjlakebaaGreatDoor
