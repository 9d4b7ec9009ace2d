/- Texts put together, for a law: Pc, PmQ, Pd8, Pd0, Pd1, Pd2, Pd3, Pd4, Pd5, Pd6, Pd7, Pd9, RpN, RpW. -/
import Derived.Deep.RegionHeld3
import Derived.Test.YtcdkopbjlakebaaGreatDoorKP49
import Derived.Test.YtcdkopbjlakebaaGreatDoorKP48
import Derived.Test.YtcdkopbjlakebaaGreatDoorKP47
import Derived.Test.YtcdkopbjlakebaaGreatDoorKP45
set_option maxRecDepth 100000
set_option maxHeartbeats 8000000
namespace Go.Proofs.YtcdkopbjlakebaaGreatDoor
section
open Go.RowKit Me Mf Rw Ds Rn Tx Fr Mw Hp Va Go.Maps
variable {w w':World} {B K P D M N G:Nat} {hb:Option Nat} {X X':Sto} {R R':SrD} {Y:Ply} {own own' ownD F F':Nat->Prop} {f:List UInt8->List UInt8} {l l':List FB}
abbrev acB (z:Int) (A1:Option Addr) (n1 c1:Nat) (u:Nat) (A2:Option Addr) (n2 c2:Nat):List Value:=[.int .i64 z,.slice A1 n1 c1,.int .u8 (u:Int),.slice A2 n2 c2]
abbrev acA (z:Int) (A1:Option Addr) (n1 c1:Nat) (u:Nat) (A2:Option Addr) (n2 c2:Nat):Array Value:=#[.int .i64 z,.slice A1 n1 c1,.int .u8 (u:Int),.slice A2 n2 c2]
theorem yG {D P K:Nat} {A4 A3 A2:Option Addr} {n4 c4 n3 c3 n2 c2:Nat} (h:Blk w G (pbC D P K R A4 n4 c4 A3 n3 c3 A2 n2 c2)) :
 w.cell? ⟨G,3,none⟩=some (sv R.pre)/\w.cell? ⟨G,4,none⟩=some (.int .i64 (R.wd:Int))/\w.cell? ⟨G,5,none⟩=some (.int .i64 (R.rm:Int))/\w.cell? ⟨G,6,none⟩=some (.slice A4 n4 c4)/\w.cell? ⟨G,7,none⟩=some (.int .i64 (R.next:Int))/\w.cell? ⟨G,8,none⟩=some (.slice A3 n3 c3):=
 ⟨h.cell rfl,h.cell rfl,h.cell rfl,h.cell rfl,h.cell rfl,h.cell rfl⟩
theorem Blk.set5o {b H:Nat} {cs:List Value} (h:Blk w b cs) (hne:H≠b) (v0 v1 v2 v3 v4:Value):Blk (((((w.setCell ⟨H,0,none⟩ v0).setCell ⟨H,1,none⟩ v1).setCell ⟨H,2,none⟩ v2).setCell ⟨H,3,none⟩ v3).setCell ⟨H,4,none⟩ v4) b cs:=
 ((((h.other (p:=⟨H,0,none⟩) hne v0).other (p:=⟨H,1,none⟩) hne v1).other (p:=⟨H,2,none⟩) hne v2).other (p:=⟨H,3,none⟩) hne v3).other (p:=⟨H,4,none⟩) hne v4
structure WayP (w1 w6:World) (b:Nat) (own:Nat->Prop) (R:SrD) (l:List FB) (A4:Option Addr) (n4 c4:Nat) (A3:Option Addr) (n3 c3:Nat):Prop where
 box:Blk w6 b (srB R A4 n4 c4)
 past:Below w1.heap.size w1 w6
 held:SvK own A4 n4 c4 R.held w6
 files:FbK own A3 n3 c3 l w6
theorem zgU {w1 w5:World} {R:SrD} {A4 A3:Option Addr} {n4 c4 n3 c3:Nat} (h5:Below w1.heap.size w1 w5) (hs:SvK own A4 n4 c4 R.held w5) (hf:FbK own A3 n3 c3 l w5) :
 WayP w1 (w5.alloc (.cells (srA R A4 n4 c4) 38)) w5.heap.size own R l A4 n4 c4 A3 n3 c3:=
 have hb:Below w5.heap.size w5 (w5.alloc (.cells (srA R A4 n4 c4) 38)):=(Below.refl _ _).alloc (Nat.le_refl _) _
 ⟨Blk.new w5 (srB R A4 n4 c4) _,h5.trans (hb.mono h5.size),hs.past hb,hf.past hb⟩
theorem zgV {w1 w5:World} {b:Nat} {R:SrD} {A4 A3:Option Addr} {n4 c4 n3 c3:Nat} (hb:w1.heap.size<=b) (h5:Below w1.heap.size w1 w5) (hz:Blk w5 b zrB) (hs:SvK (fun k=>own k\/k=b) A4 n4 c4 R.held w5) (hf:FbK (fun k=>own k\/k=b) A3 n3 c3 l w5) :
 WayP w1 (((((w5.setCell ⟨b,0,none⟩ (sv R.pre)).setCell ⟨b,1,none⟩ (.int .i64 (R.wd:Int))).setCell ⟨b,2,none⟩ (.int .i64 (R.rm:Int))).setCell ⟨b,3,none⟩ (.slice A4 n4 c4)).setCell ⟨b,4,none⟩ (.int .i64 (R.next:Int))) b own R l A4 n4 c4 A3 n3 c3:=by
 have ho:Out (fun k=>k=b) w5 (((((w5.setCell ⟨b,0,none⟩ (sv R.pre)).setCell ⟨b,1,none⟩ (.int .i64 (R.wd:Int))).setCell ⟨b,2,none⟩ (.int .i64 (R.rm:Int))).setCell ⟨b,3,none⟩ (.slice A4 n4 c4)).setCell ⟨b,4,none⟩ (.int .i64 (R.next:Int))):=
  (((((Out.refl (fun k=>k=b) w5).setCell (p:=⟨b,0,none⟩) (.inl rfl) _).setCell (p:=⟨b,1,none⟩) (.inl rfl) _).setCell (p:=⟨b,2,none⟩) (.inl rfl) _).setCell (p:=⟨b,3,none⟩) (.inl rfl) _).setCell (p:=⟨b,4,none⟩) (.inl rfl) _
 exact ⟨hz.set5 _ _ _ _ _,h5.trans (ho.below (fun k _ e=>by omega) h5.size),(hs.out (ho.more fun k _ e=>.inr e)).less fun k e=>.inl e,(hf.out (ho.more fun k _ e=>.inr e)).less fun k e=>.inl e⟩
theorem Bnd.fewer {j N N1:Nat} (h:Bnd j N R Y) (hN:N1<=N):Bnd j N1 R Y:={h with n:=by have:=h.n;omega}
theorem Bnd.more {j N:Nat} (h:Bnd j N R Y):Bnd (j+1) N R Y:=⟨by have:=h.now;omega,by have:=h.hv;omega,by have:=h.n;omega,h.bn,h.bh,by have:=h.held;omega⟩
theorem zI.lows (h:zI w B K P D M N hb X R own ownD) (hB:B<=w.heap.size) {S:Nat->Prop} (ho:Out S w w') (hS:∀k,S k->own k):Below B w w':=ho.below (fun k _ hk=>(h.st.lt (hS k hk)).1) hB
theorem zI.fol {N':Nat} {own' ownD':Nat->Prop} (h:zI w B K P D M N hb X R own ownD) (hs:zo w' B P D M N' X' own' ownD') (hf:Fol w w' P M own ownD own' ownD'):zI w' B K P D M N' hb X' R own' ownD':=
 have up:∀k,own k->¬Foot P M ownD k->¬Foot P M ownD' k:=fun k hk hn hf2=>by
  rcases hf2 with e|e|e
  ·exact hn (.inl e)
  ·exact hn (.inr (.inl e))
  ·rcases hf.2.2.2 k e with q|q
   ·exact hn (.inr (.inr q))
   ·have:=(h.st.lt hk).2;omega
 ⟨hs,h.bx.out hf.1 h.k.2 (fun k hk=>(h.h k hk).2) (fun k hk=>.inl (h.st.lt (h.st.own k hk)).1),⟨hf.2.2.1 K h.k.1,up K h.k.1 h.k.2⟩,fun k e=>⟨hf.2.2.1 k (h.h k e).1,up k (h.h k e).1 (h.h k e).2⟩⟩
theorem ze5 {j N1:Nat} {w1 w8:World} {hb1:Option Nat} {own1:Nat->Prop} {X1:Sto} {R1 Rp:SrD} {now hv now1 hv1:List FB} {Y1:Ply} {A4 A3 A2:Option Addr} {n4 c4 n3 c3 n2 c2:Nat}
 (hB:B<=w.heap.size) (hw:Below B w w1) (hS:zI w1 B K P D M N1 hb1 X1 R1 own1 ownD) (hP:PbAt w1 G D P K Rp now hv own1 (yg P M K hb1 ownD))
 (h8:Blk w8 G (pbC D P K R1 A4 n4 c4 A3 n3 c3 A2 n2 c2)) (ho8:Out (fun k=>k=G) w1 w8) (h4:SvK own1 A4 n4 c4 R1.held w1) (h3:FbK own1 A3 n3 c3 now1 w1) (h2:FbK own1 A2 n2 c2 hv1 w1) (hBes:Bes X1 f R1 Y1) (e3:Y1.now=now1) (e4:Y1.hv=hv1) (hb':Bnd (j+1) N1 R1 Y1) :
 DoP w B G D j (.returned (.tuple #[.bool true,.bool true])) w8:=by
 obtain ⟨q1,q2,q3⟩:=zhG (now':=now1) (hv':=hv1) hS hP (by have:=hw.size;omega) h8 ho8 h4 h3 h2;refine ⟨true,rfl,hw.trans q3,fun _=>⟨K,P,M,N1,hb1,X1,f,R1,Y1,own1,ownD,q1,?_,hBes,hb',by have:=hw.size;have:=q3.size;omega⟩⟩;rw[e3,e4];exact q2
theorem ze6 {j N1 bx:Nat} {w1 w6 w7:World} {hb1:Option Nat} {own1:Nat->Prop} {X1:Sto} {R1:SrD} {l1 now hv:List FB} {Y1:Ply} {A4' A3 A3' A2:Option Addr} {n3 c3 n4' c4' n3' c3' n2 c2:Nat}
 (hB:B<=w.heap.size) (hw:Below B w w1) (hS:zI w1 B K P D M N1 hb1 X1 R1 own1 ownD) (hP:PbAt w1 G D P K R now hv own1 (yg P M K hb1 ownD)) (W:WayP w1 w6 bx own1 R1 l1 A4' n4' c4' A3' n3' c3')
 (h7:Blk w7 G (pbC D P K R1 A4' n4' c4' A3 n3 c3 A2 n2 c2)) (ho7:Out (fun k=>k=G) w6 w7) (h2:FbK own1 A2 n2 c2 hv w1) (hBes:Bes X1 f R1 Y1) (e3:Y1.now=l1) (e4:Y1.hv=hv) (hb':Bnd (j+1) N1 R1 Y1) :
 DoP w B G D j (.returned (.tuple #[.bool true,.bool true])) (w7.setCell ⟨G,8,none⟩ (.slice A3' n3' c3')):=by
 have hF:∀k,yg P M K hb1 ownD k->own1 k:=fun k hk=>hS.foot hk
 have hB6:B<=w6.heap.size:=by have:=hw.size;have:=W.past.size;omega
 have h8:Blk (w7.setCell ⟨G,8,none⟩ (.slice A3' n3' c3')) G (pbC D P K R1 A4' n4' c4' A3' n3' c3' A2 n2 c2):=h7.set 8 _;have ho8:Out (fun k=>k=G) w6 (w7.setCell ⟨G,8,none⟩ (.slice A3' n3' c3')):=ho7.setCell (p:=⟨G,8,none⟩) (.inl rfl) _;obtain ⟨q1,q2,q3⟩:=zhG (now':=l1) (hv':=hv) (hS.past W.past) (hP.past W.past hF) hB6 h8 ho8 W.held W.files (h2.past W.past);have hw6:Below B w w6:=hw.trans (W.past.mono (by have:=hw.size;omega));refine ⟨true,rfl,hw6.trans q3,fun _=>⟨K,P,M,N1,hb1,X1,f,R1,Y1,own1,ownD,q1,?_,hBes,hb',by have:=q3.size;omega⟩⟩;rw[e3,e4];exact q2
theorem zju {j:Nat} (hok:OkR R) (hj:j<=60) (hh:R.held.length<=j):(runB (zG R.held)).length<=10000:=by
 rw[yU,perm_flatten_len (zR _),zT hok.wid];have h1:R.wd*R.held.length<=64*60:=Nat.mul_le_mul hok.wd.2 (by omega);omega
theorem Bnd.flush {j N N1:Nat} {Y1:Ply} (h:Bnd j N R Y) (hok:OkR R) (hj:j<=60) (e3:Y1.now=(yH R Y.now).2) (e4:Y1.hv=Y.hv) (hN:N1<=N+1):Bnd (j+1) N1 (yH R Y.now).1 Y1:=by
 have h1:=h.now;have h2:=h.n;have h3:=h.hv;have h4:=h.held;unfold yH at e3 ⊢
 by_cases h0:R.held=[]
 ·rw[if_pos h0] at e3 ⊢;exact ⟨by rw[e3];show Y.now.length<=_;omega,by rw[e4];omega,by rw[e3];show N1+Y.now.length<=_;omega,by rw[e3];exact h.bn,by rw[e4];exact h.bh,by show R.held.length<=_;omega⟩
 ·rw[if_neg h0] at e3 ⊢;have hl:(zS (zq R R.next) (runB (zG R.held)) Y.now false).length<=Y.now.length+1:=qD Y.now false;refine ⟨by rw[e3];show (zS _ _ _ _).length<=_;omega,by rw[e4];omega,by rw[e3];show N1+(zS _ _ _ _).length<=_;omega,fun x hx=>?_,by rw[e4];exact h.bh,Nat.zero_le _⟩;rw[e3] at hx;rcases (yE _ _).1 hx with ⟨-,e⟩|⟨q,-⟩
  ·rw[e];exact zju hok hj h4
  ·exact h.bn x q
theorem vV (R:SrD) (l:List FB):∀n,∀x∈qW R n l,x∈l
 |0,x,h=>h
 |n+1,x,h=>vV R l n x (List.mem_filter.1 h).1
theorem Bnd.clear {j N:Nat} {Y1:Ply} (h:Bnd j N R Y) (e3:Y1.now=(mclear R Y.now).2) (e4:Y1.hv=Y.hv) (hn:Y1.now.length+R.next<=Y.now.length):Bnd (j+1) (N+R.next) (mclear R Y.now).1 Y1:=
 ⟨by have:=h.now;omega,by rw[e4];have:=h.hv;omega,by have:=h.n;omega,fun x hx=>by rw[e3] at hx;exact h.bn x (vV _ _ _ x hx),by rw[e4];exact h.bh,Nat.zero_le _⟩
end
section
open Go.RowKit Me Mf Rw Ds Rn Tx Fr Mw Hp Va
variable {X:Sto} {R:SrD} {F:List UInt8->List UInt8} {Y:Ply}
theorem Bes.rewrite (h:Bes X F R Y) (hn:R.next<=1000000) {m:List (List UInt8)} (hm:m.flatten.length<=262144) :
 ∃Y1,Bes (rewX X R m).1 F (yP R Y.now m).1 Y1/\Y1.now=(yP R Y.now m).2/\Y1.hv=Y.hv/\(rewX X R m).2=(yP R Y.now m).1/\Y1.now.length+R.next<=Y.now.length+1:=by
 obtain ⟨Y',h1,h2,h3,h4⟩:=h.clear hn;have hz:=h.zero;unfold rewX yP
 by_cases e:m=[]
 ·rw[if_pos e,if_pos e];refine ⟨Y',h1,h2,h3,?_,by omega⟩;show ({R with held:=[],first:=0,next:=0}:SrD)={R with held:=[],next:=0}
  rw[<-hz]
 ·rw[if_neg e,if_neg e];have hnm:=qm h.ok (n:=0) (by omega);have hb:(runB m).length<=1048576:=by rw[yU];omega
  have hx:1<=(zq R 0).length/\(zq R 0).length<=32:=⟨hnm.1,by omega⟩
  have hok:=h1.rest.ok.put (x:=zq R 0) (b:=runB m) hx hb;have h1k:OkR (mclear R Y.now).1:=h1.ok;refine ⟨_,⟨h1.rest.change hok,h1.ply.put (zq R 0) (runB m),⟨h1k.pre,h1k.wd,h1k.rm,h1k.wid,h1k.few,?_⟩,h1.zero,fun i hi=>?_⟩,?_,h3,?_,?_⟩
  ·show R.first<=1/\1<=1000000
   rw[hz];omega
  ·have hi:i<1:=hi
   obtain rfl:i=0:=by omega
   show hasN {yc X R R.next with C:=setC (yc X R R.next).C (zq R 0) (some (runB m))} (zq R 0)=true
   rw[X0,if_pos rfl];rfl
  ·show zS (zq R 0) (runB m) Y'.now false=_
   rw[h2]
  ·show ({R with held:=[],first:=0,next:=1}:SrD)={R with held:=[],next:=1}
   rw[<-hz]
  ·show (zS (zq R 0) (runB m) Y'.now false).length+R.next<=_
   have:(zS (zq R 0) (runB m) Y'.now false).length<=Y'.now.length+1:=qD Y'.now false;omega
theorem Bnd.rewrite {j N:Nat} {Y1:Ply} {m:List (List UInt8)} (h:Bnd j N R Y) (e3:Y1.now=(yP R Y.now m).2) (e4:Y1.hv=Y.hv) (hn:Y1.now.length+R.next<=Y.now.length+1) (hm:m.flatten.length<=9000):Bnd (j+1) (N+R.next+1) (yP R Y.now m).1 Y1:=by
 have h1:=h.now;have h2:=h.n;have h3:=h.hv;refine ⟨by omega,by rw[e4];omega,by omega,fun x hx=>?_,by rw[e4];exact h.bh,?_⟩
 ·rw[e3] at hx;unfold yP at hx
  split at hx
  ·exact h.bn x (vV _ _ _ x hx)
  ·rcases (yE _ _).1 hx with ⟨-,e⟩|⟨q,-⟩
   ·rw[e,yU];omega
   ·exact h.bn x (vV _ _ _ x q)
 ·unfold yP
  split
  ·exact Nat.zero_le _
  ·exact Nat.zero_le _
theorem Bnd.put {j N N1:Nat} {Y1:Ply} {r:List UInt8} (h:Bnd j N R Y) (hok:OkR R) (hj:j<=60) (e3:Y1.now=(mput R Y.now r).2.1) (e4:Y1.hv=Y.hv) (hN:N1<=N+1):Bnd (j+1) N1 (mput R Y.now r).1 Y1:=by
 have h1:=h.now;have h2:=h.n;have h3:=h.hv;have h4:=h.held;unfold mput at e3 ⊢
 by_cases hr:r.length≠R.wd
 ·rw[if_pos hr] at e3 ⊢;exact ⟨by rw[e3];show Y.now.length<=_;omega,by rw[e4];omega,by rw[e3];show N1+Y.now.length<=_;omega,by rw[e3];exact h.bn,by rw[e4];exact h.bh,by show R.held.length<=_;omega⟩
 ·rw[if_neg hr] at e3 ⊢
  by_cases hf:R.held.length=R.rm
  ·simp only[if_pos hf] at e3 ⊢;have hB:=h.flush hok hj e3 e4 hN;have hne:R.held≠[]:=fun e=>by have:=hok.rm.1;rw[e] at hf;simp at hf;omega
   have hm:(yH R Y.now).1.held=[]:=by unfold yH;rw[if_neg hne]
   refine ⟨hB.now,hB.hv,hB.n,hB.bn,hB.bh,?_⟩;show ((yH R Y.now).1.held++[r]).length<=_
   rw[hm]
   simp
  ·simp only[if_neg hf] at e3 ⊢;exact ⟨by rw[e3];show Y.now.length<=_;omega,by rw[e4];omega,by rw[e3];show N1+Y.now.length<=_;omega,by rw[e3];exact h.bn,by rw[e4];exact h.bh,by show (R.held++[r]).length<=_;rw[List.length_append];simp;omega⟩
end
section
open Go.RowKit Me Mf Rw Ds Rn Tx Fr Mw Hp Va Go.Maps
variable {w w':World} {B G D K P M N j:Nat} {hb:Option Nat} {X:Sto} {R:SrD} {Y:Ply} {own ownD F:Nat->Prop} {f:List UInt8->List UInt8}
theorem PsI.later (h:PsI w B G D j):PsI w B G D (j+1):=by
 obtain ⟨K,P,M,N,hb,X,f,R,Y,own,ownD,h1,h2,h3,h4,h5⟩:=h;exact ⟨K,P,M,N,hb,X,f,R,Y,own,ownD,h1,h2,h3,h4.more,h5⟩
theorem Bes.rowsFew (h:Bes X f R Y) (hj:Bnd j N R Y) (hj60:j<=61):(mgo R.wd (fun i=>newF X.C f (zq R i)) 0 R.next R.held).1.length<=1000000:=by
 have h1:=zhW (C:=10000) h.ok.wd.1 (fun i=>newF X.C f (zq R i)) R.next 0 R.held (fun i _ hi=>h.lens hj i (by omega));have h2:=h.few;have h3:=hj.now;have h4:=hj.held;have h5:R.next*10000<=61*10000:=Nat.mul_le_mul_right _ (by omega);omega
theorem zlq {j:Nat} (h:PsI w B G D j) (hj:j<=60) (z:Int) (hz:z≠0/\z≠1/\z≠2/\z≠3/\z≠4/\z≠5/\z≠6/\z≠7) (A1:Option Addr) (n1 c1 u:Nat) (A2':Option Addr) (n2' c2':Nat) :
 Calls Tryz.prog 11 #[.pointer (some ⟨G,0,none⟩),.agg (acA z A1 n1 c1 u A2' n2' c2')] w (DoP w B G D j):=by
 have HH:=gI h.later;obtain ⟨K,P,M,N,hb,X,f,R,Y,own,ownD,h1,h2,h3,h4,h5⟩:=h;obtain ⟨w0,hw0⟩:∃w0,w0=w.alloc (.cells (acA z A1 n1 c1 u A2' n2' c2') 27):=⟨_,rfl⟩
 have hb0:Below w.heap.size w w0:=by rw[hw0];exact (Below.refl _ _).alloc (Nat.le_refl _) _
 have BA:=gI (show Blk w0 w.heap.size (acB z A1 n1 c1 u A2' n2' c2') by rw[hw0];exact Blk.new w (acB z A1 n1 c1 u A2' n2' c2') _);have hnx:R.next<=60:=by have:=h3.few;have:=h4.now;omega
 have hS0:=h1.past hb0;have hP0:=h2.past hb0 (fun k hk=>h1.foot hk);obtain ⟨q,hq⟩:∃q,q=mgo R.wd (fun i=>newF X.C f (zq R i)) 0 R.next R.held:=⟨_,rfl⟩
 have hq1:=h3.rowsFew h4 (by omega);rw[<-hq] at hq1;have HFL:=gI (Vt hS0 (by omega) (by rw[h3.rest.calm.pend];show 0<_;omega) (by rw[h3.rows,<-hq];exact hq1));rw[h3.rows,<-hq] at HFL;obtain ⟨A4,n4,c4,A3,n3,c3,A2,n2,c2,g1,g2,g3,g4⟩:=hP0.box;have cc2:w0.cell? ⟨G,2,none⟩=_:=g1.cell rfl;have hn3:n3<=100000:=by have:=g3.len;have:=h4.now;omega
 have MR:=gI (show ∀W,Below w0.heap.size w0 W->Calls Tryz.prog 15 #[srV R A4 n4 c4,.slice A3 n3 c3] W (zi4 W q) from fun W hW=>by
  have:=zcQ (w:=W) h3.ok (fun i=>newF X.C f (zq R i)) (g2.past hW) (g3.past hW) hn3 (by omega) h3.find (fun i hi=>by have:=h3.lens h4 i hi;omega);rw[<-hq] at this;exact this)
 obtain ⟨r0,r1,r2,r3⟩:=BA.out.four;obtain ⟨q1,q2⟩:=q;have HW0:=gI hw0;have HB0:=gI hb0;have HH5:=gI h5;have BX0:=gI g1;have HQ1:=gI hq1;obtain ⟨z0,z1,z2,z3,z4,z5,z6,z7⟩:=hz;have d0:(z==0)=false:=beq_eq_false_iff_ne.2 z0;have d1:(z==1)=false:=beq_eq_false_iff_ne.2 z1;have d2:(z==2)=false:=beq_eq_false_iff_ne.2 z2;have d3:(z==3)=false:=beq_eq_false_iff_ne.2 z3;have d4:(z==4)=false:=beq_eq_false_iff_ne.2 z4;have d5:(z==5)=false:=beq_eq_false_iff_ne.2 z5;have d6:(z==6)=false:=beq_eq_false_iff_ne.2 z6;have d7:(z==7)=false:=beq_eq_false_iff_ne.2 z7;clear h1 h2 h3 h4 h5 hw0 hb0 hS0 hP0 hq hq1 g1 g2 g3 g4
 go_enter Tryz.func11,Tryz.ntmps11
 go_upto_region 1 with fail
 rw[<-HW0.out]
 go_upto_region 54 with (go_at_call 14;refine HFL.out.mono ?_;rintro e w1 ⟨Al,nl,cl,rfl,ho1,hl1,hb1⟩)
 have BX:=gI (show Blk w1.drew G (pbC D P K R A4 n4 c4 A3 n3 c3 A2 n2 c2) from (BX0.out.past hb1).drew);have HO1:=gI (And.intro ho1 hl1);have HB1:=gI hb1;clear ho1 hl1 hb1;obtain ⟨e3,e4,e5,e6,e7,e8⟩:=yG BX.out
 go_region_held3 (fun w'=>w'.cell? ⟨G,3,none⟩=some (sv R.pre)/\w'.cell? ⟨G,4,none⟩=some (.int .i64 (R.wd:Int))/\w'.cell? ⟨G,5,none⟩=some (.int .i64 (R.rm:Int))/\w'.cell? ⟨G,6,none⟩=some (.slice A4 n4 c4)/\w'.cell? ⟨G,7,none⟩=some (.int .i64 (R.next:Int))/\w'.cell? ⟨G,8,none⟩=some (.slice A3 n3 c3))
  (first
   |with_reducible exact yG BX.out
   |with_reducible exact yG BX2.out)
  (first
   |(go_at_call 15
     refine (MR.out w1.drew (HB1.out.trans (((Below.refl _ w1).drew).mono HB1.out.size))).mono ?_;rintro e w2 ⟨Am,nm,cm,rfl,ho2,hl2,hb2⟩;have BX2:=gI (BX.out.past hb2)))
 have hb2':Below w1.heap.size w1 w2:=((Below.refl _ w1).drew).trans hb2;have hnm:nm=nl:=by rw[<-hl2,<-HO1.out.2]
 subst hnm;have SM:=gI (Vs Al Am nm cl cm q1 hl2 (by have:=HQ1.out;show nm<=_;have h9:q1.length<=1000000:=this;omega) w2 ((Cs.of_own HO1.out.1).below hb2' |>.more hb2'.size) (Cs.of_own ho2));have HB2:=gI (HB1.out.trans (hb2'.mono HB1.out.size));clear e3 e4 e5 e6 e7 e8 ho2 hl2 hb2 hb2'
 go_wp2_with fail
 refine SM.out.mono ?_;rintro e w3 ⟨rfl,hb3⟩;have HB3:=gI (HB0.out.trans ((HB2.out.trans (hb3.mono HB2.out.size)).mono HB0.out.size));clear hb3
 go_wp2
 go_ret2
 exact ⟨true,rfl,HB3.out.mono HH5.out,fun _=>HH.out.past HB3.out⟩
end
section
open Go.RowKit Me Mf Rw Ds Rn Tx Fr Mw Hp Va Go.Maps
variable {w w':World} {B K P D M N G:Nat} {hb:Option Nat} {X:Sto} {R:SrD} {own ownD F T:Nat->Prop}
theorem zcE {D P K H W0:Nat} {wa:World} {A4 A3 A2 A1 A2':Option Addr} {n4 c4 n3 c3 n2 c2 n1 c1 n2' c2' u:Nat} {z:Int} {bb:List UInt8} (hcv:∀W,Below W0 wa W->(convert 24 9 (.slice A1 n1 c1)).run Tryz.prog W=.ok (sv bb) W) (h:Blk w G (pbC D P K R A4 n4 c4 A3 n3 c3 A2 n2 c2)) (h':Blk w H (acB z A1 n1 c1 u A2' n2' c2')) (hb:Below W0 wa w) :
 w.cell? ⟨G,3,none⟩=some (sv R.pre)/\w.cell? ⟨G,4,none⟩=some (.int .i64 (R.wd:Int))/\w.cell? ⟨G,5,none⟩=some (.int .i64 (R.rm:Int))/\w.cell? ⟨G,6,none⟩=some (.slice A4 n4 c4)/\w.cell? ⟨G,7,none⟩=some (.int .i64 (R.next:Int))/\w.cell? ⟨G,8,none⟩=some (.slice A3 n3 c3)/\w.cell? ⟨H,1,none⟩=some (.slice A1 n1 c1)/\(convert 24 9 (.slice A1 n1 c1)).run Tryz.prog w=.ok (sv bb) w:=
 ⟨h.cell rfl,h.cell rfl,h.cell rfl,h.cell rfl,h.cell rfl,h.cell rfl,h'.cell rfl,hcv w hb⟩
theorem zgF {B H:Nat} {wa:World} (h:Below B wa w) (hB:B<=H) (v0 v1 v2 v3 v4:Value):Below B wa (((((w.setCell ⟨H,0,none⟩ v0).setCell ⟨H,1,none⟩ v1).setCell ⟨H,2,none⟩ v2).setCell ⟨H,3,none⟩ v3).setCell ⟨H,4,none⟩ v4):=
 ((((h.setCell (p:=⟨H,0,none⟩) hB v0).setCell (p:=⟨H,1,none⟩) hB v1).setCell (p:=⟨H,2,none⟩) hB v2).setCell (p:=⟨H,3,none⟩) hB v3).setCell (p:=⟨H,4,none⟩) hB v4
theorem zk1 {D P K H W0:Nat} {wa:World} {A4 A3 A2 A1 A2':Option Addr} {n4 c4 n3 c3 n2 c2 n1 c1 n2' c2' u:Nat} {z:Int} {bb:List UInt8} (hcv:∀W,Below W0 wa W->(convert 24 9 (.slice A1 n1 c1)).run Tryz.prog W=.ok (sv bb) W) (h:Blk w G (pbC D P K R A4 n4 c4 A3 n3 c3 A2 n2 c2)) (h':Blk w H (acB z A1 n1 c1 u A2' n2' c2')) (hb:Below W0 wa w) (q:Nat) (hq:W0<=q) (hG:q≠G) (hH:q≠H) (v0 v1 v2 v3 v4:Value) :
 (((((w.setCell ⟨q,0,none⟩ v0).setCell ⟨q,1,none⟩ v1).setCell ⟨q,2,none⟩ v2).setCell ⟨q,3,none⟩ v3).setCell ⟨q,4,none⟩ v4).cell? ⟨G,3,none⟩=some (sv R.pre)/\(((((w.setCell ⟨q,0,none⟩ v0).setCell ⟨q,1,none⟩ v1).setCell ⟨q,2,none⟩ v2).setCell ⟨q,3,none⟩ v3).setCell ⟨q,4,none⟩ v4).cell? ⟨G,4,none⟩=some (.int .i64 (R.wd:Int))/\(((((w.setCell ⟨q,0,none⟩ v0).setCell ⟨q,1,none⟩ v1).setCell ⟨q,2,none⟩ v2).setCell ⟨q,3,none⟩ v3).setCell ⟨q,4,none⟩ v4).cell? ⟨G,5,none⟩=some (.int .i64 (R.rm:Int))/\(((((w.setCell ⟨q,0,none⟩ v0).setCell ⟨q,1,none⟩ v1).setCell ⟨q,2,none⟩ v2).setCell ⟨q,3,none⟩ v3).setCell ⟨q,4,none⟩ v4).cell? ⟨G,6,none⟩=some (.slice A4 n4 c4)/\(((((w.setCell ⟨q,0,none⟩ v0).setCell ⟨q,1,none⟩ v1).setCell ⟨q,2,none⟩ v2).setCell ⟨q,3,none⟩ v3).setCell ⟨q,4,none⟩ v4).cell? ⟨G,7,none⟩=some (.int .i64 (R.next:Int))/\(((((w.setCell ⟨q,0,none⟩ v0).setCell ⟨q,1,none⟩ v1).setCell ⟨q,2,none⟩ v2).setCell ⟨q,3,none⟩ v3).setCell ⟨q,4,none⟩ v4).cell? ⟨G,8,none⟩=some (.slice A3 n3 c3)/\(((((w.setCell ⟨q,0,none⟩ v0).setCell ⟨q,1,none⟩ v1).setCell ⟨q,2,none⟩ v2).setCell ⟨q,3,none⟩ v3).setCell ⟨q,4,none⟩ v4).cell? ⟨H,1,none⟩=some (.slice A1 n1 c1)/\(convert 24 9 (.slice A1 n1 c1)).run Tryz.prog (((((w.setCell ⟨q,0,none⟩ v0).setCell ⟨q,1,none⟩ v1).setCell ⟨q,2,none⟩ v2).setCell ⟨q,3,none⟩ v3).setCell ⟨q,4,none⟩ v4)=.ok (sv bb) (((((w.setCell ⟨q,0,none⟩ v0).setCell ⟨q,1,none⟩ v1).setCell ⟨q,2,none⟩ v2).setCell ⟨q,3,none⟩ v3).setCell ⟨q,4,none⟩ v4):=
 zcE hcv (h.set5o hG v0 v1 v2 v3 v4) (h'.set5o hH v0 v1 v2 v3 v4) (zgF hb hq v0 v1 v2 v3 v4)
theorem PbAt.turn {now hv:List FB} (h:PbAt w G D P K R now hv own F) (ho:Out T w w') (hT:∀k,T k->own k) (hG:¬T G):PbAt w' G D P K R now hv own F:=by
 obtain ⟨A4,n4,c4,A3,n3,c3,A2,n2,c2,g1,g2,g3,g4⟩:=h.box;have ho':Out own w w':=ho.more fun k _ hk=>hT k hk
 exact ⟨⟨A4,n4,c4,A3,n3,c3,A2,n2,c2,g1.out ho hG,g2.out ho',g3.out ho',g4.out ho'⟩,h.g⟩
theorem zmf {j:Nat} (h:PsI w B G D j) (hj:j<=60) (A1:Option Addr) (n1 c1 u:Nat) (A2':Option Addr) (n2' c2':Nat) (bb:List UInt8) (hbl:bb.length=n1) (hn1:n1<=300) (hrb:Rd w B A1 bb) :
 Calls Tryz.prog 11 #[.pointer (some ⟨G,0,none⟩),.agg (acA 0 A1 n1 c1 u A2' n2' c2')] w (DoP w B G D j):=by
 obtain ⟨K,P,M,N,hb,X,f,R,Y,own,ownD,h1,h2,h3,h4,h5⟩:=h;obtain ⟨H,hH⟩:∃H,H=w.heap.size:=⟨_,rfl⟩
 obtain ⟨w0,hw0⟩:∃w0,w0=w.alloc (.cells (acA 0 A1 n1 c1 u A2' n2' c2') 27):=⟨_,rfl⟩
 have hb0:Below w.heap.size w w0:=by rw[hw0];exact (Below.refl _ _).alloc (Nat.le_refl _) _
 have BA:=gI (show Blk w0 H (acB 0 A1 n1 c1 u A2' n2' c2') by rw[hw0,hH];exact Blk.new w (acB 0 A1 n1 c1 u A2' n2' c2') _);have hnx:R.next<=60:=by have:=h3.few;have:=h4.now;omega
 have hS0:=h1.past hb0;have hP0:=h2.past hb0 (fun k hk=>h1.foot hk);obtain ⟨X1,Y1,e1,e2,e3,e4,-⟩:=h3.put (by omega) bb;have e5:=h4.put h3.ok hj e3 e4 (N1:=N+1) (Nat.le_refl _);obtain ⟨⟨R1,l1,r⟩,hQ⟩:∃q,mput R Y.now bb=q:=⟨_,rfl⟩
 rw[hQ] at e1 e2 e3 e5
 dsimp only at e1 e2 e3 e5
 have HPUT:=gI (show ∀(own2:Nat->Prop) (W:World),zI W B K P D M N hb X R own2 ownD->∀Ab cb,Kk (yg P M K hb ownD) (fun V=>Rd V V.heap.size Ab bb) W->Calls Tryz.prog 18 #[.pointer (some ⟨K,0,none⟩),.slice Ab n1 cb] W (YK W B K P D M N hb own2 ownD (r,X1,R1)) from fun own2 W hW Ab cb hk=>by
  have:=zcf hW (by have:=h4.n;unfold maxLen;omega) (by omega) Ab n1 cb bb hbl (by omega) hk;rw[e1] at this;exact this)
 obtain ⟨r0,r1,r2,r3⟩:=BA.out.four;have hH0:H<w0.heap.size:=BA.out.lt;obtain ⟨i0,hi0,hz0,hz1,hz2⟩:=info_parts yO;have HRB:=gI (show Rd (w0.alloc (.cells #[] 5)) B A1 bb from (hrb.below (hb0.mono h5)).below ((Below.refl _ _).alloc (by have:=hb0.size;omega) _));have HRW:=gI hrb;have HBL:=gI hbl;have HW0:=gI hw0;have HHE:=gI hH;have HS0:=gI hS0;have HP0:=gI hP0;have HB0:=gI hb0;have HBR:=gI (And.intro h3 (And.intro h4 h5));have HE:=gI (And.intro e2 (And.intro e3 (And.intro e4 e5)));have HQQ:=gI hQ;have HOH:=gI (show ∀k,own k->k<H from fun k hk=>by have:=(h1.st.lt hk).2;omega);have HSZ:=gI (show w0.heap.size=H+1 by rw[hw0,hH];simp);clear h1 h2 h3 h4 h5 hw0 hH hb0 hS0 hP0 e1 e2 e3 e4 e5 hQ hrb hbl
 go_enter Tryz.func11,Tryz.ntmps11
 go_upto_region 1 with fail
 rw[<-HW0.out,<-HHE.out]
 go_upto_region 3 with fail
 go_wp2_with (at_builtin
              go_loud (refine zF rfl (.tmp 39) (.tmp 41) 24 rfl w0.heap.size 5 i0 _ Tryz.underlying24 hi0 hz0 hz1 hz2 rfl (.slice (some ⟨w0.heap.size,0,none⟩) 0 0) 0 [] rfl (qF w0 _ _ (Nat.le_refl _)) B A1 n1 c1 bb rfl HBL.out HRB.out (by omega) (by rw[World.size_alloc];omega) ?_)
              intro v2 w2 ho2 hg2 hn2;refine Classical.byContradiction fun hcontra=>?_)
 obtain ⟨Ab,cb,hv2⟩:=zJ ho2;subst hv2;rw[Nat.zero_add] at ho2 hn2 hcontra;rw[List.nil_append] at ho2;obtain ⟨S,hS⟩:∃S:Nat->Prop,S=fun k=>(Value.slice Ab n1 cb).ownBlock=some k:=⟨_,rfl⟩
 have hb02:Below w0.heap.size w0 w2:=((Below.refl _ w0).alloc (Nat.le_refl _) (.cells #[] 5)).grown hg2 (by rw[World.size_alloc];omega) (fun k e=>by cases e;exact Nat.le_refl _);have hSb:∀k,S k->H<k/\k<w2.heap.size:=fun k hk=>by
  rw[hS] at hk;have:=World.ownsRow.lt ho2 k hk;have:=HSZ.out;omega
 obtain ⟨own2,how2⟩:∃o:Nat->Prop,o=fun k=>own k\/S k:=⟨_,rfl⟩
 have hB0:B<=w0.heap.size:=by have:=HB0.out.size;have:=HBR.out.2.2;omega
 have h2o:∀k,own2 k->own k\/w0.heap.size<=k:=fun k hk=>by
  rw[how2] at hk;exact hk.imp id (fun q=>by have:=hSb k q;have:=HSZ.out;omega)
 have hS2:zI w2 B K P D M N hb X R own2 ownD:=HS0.out.beside (T:=fun _=>False) (.of_below hb02) (fun _ _ h=>h.elim) (fun k hk=>by rw[how2];exact .inl hk) (fun k hk=>by
  rw[how2] at hk;exact hk.imp id (fun q=>⟨by have:=hSb k q;have:=HSZ.out;omega,(hSb k q).2⟩)) hB0
 have hP2:PbAt w2 G D P K R Y.now Y.hv own2 (yg P M K hb ownD):=HP0.out.next (.of_below hb02) (fun k hk=>HS0.out.foot hk) (fun k hk=>by rw[how2];exact .inl hk) h2o (fun _=>.inl);have HPU:=gI (HPUT.out own2 w2 hS2 Ab cb (fun V hV=>Rd.of_own (zn ho2 hV (fun k hk e=>by
  have h9:=HOH.out k (HS0.out.foot e);have h8:=hSb k (by rw[hS];exact hk)
  omega))))
 have HO2:=gI ho2;have HS2:=gI hS2;have HP2:=gI hP2;have HB2:=gI (HB0.out.trans (hb02.mono HB0.out.size));have HSB:=gI hSb;have HSE:=gI hS;have BA2:=gI (BA.out.past hb02);have HOW2:=gI how2;obtain ⟨A4,n4,c4,A3,n3,c3,A2,n2,c2,g1,-⟩:=hP2.box;have cc2:w2.cell? ⟨G,2,none⟩=_:=g1.cell rfl;clear ho2 hg2 hn2 hb02 hSb hS how2 h2o hS2 hP2 g1 HPUT
 apply hcontra
 clear hcontra
 go_wp2_with fail
 refine HPU.out.mono ?_;rintro e w1 ⟨rfl,ho1,N1,hb1,own1,hN1,hs1,ha1,hn1,hh1⟩;have hP1:PbAt w1 G D P K R Y.now Y.hv own1 (yg P M K hb1 ownD):=HP2.out.next ho1 (fun k hk=>HS2.out.foot hk) ha1 hn1 (fun k hk=>by
  rcases hk with q|q|q
  ·exact .inl (.inl q)
  ·exact .inl (.inr (.inl q))
  ·rcases hh1 k q with q|q
   ·exact .inl (.inr (.inr q))
   ·exact .inr q)
 have HOB:=gI (zn HO2.out ho1 (fun k hk e=>by
  have h9:=HOH.out k (HS0.out.foot e);have h8:=HSB.out k (by rw[HSE.out];exact hk)
  omega))
 have HB1:=gI (HS2.out.lows (by have:=HB2.out.size;have:=HBR.out.2.2;omega) ho1 (fun k hk=>HS2.out.foot hk));have HTS:=gI (show ∀k,S k->own1 k/\¬yg P M K hb1 ownD k from fun k hk=>⟨ha1 k (by rw[HOW2.out];exact .inr hk),fun q=>by
  have h8:=HSB.out k hk;have h9:∀q,yg P M K hb ownD q->q<H:=fun q hq=>HOH.out q (HS0.out.foot hq)
  rcases q with q|q|q
  ·have:=h9 k (.inl q);omega
  ·have:=h9 k (.inr (.inl q));omega
  ·rcases hh1 k q with q|q
   ·have:=h9 k (.inr (.inr q));omega
   ·omega⟩)
 have HS1:=gI hs1;have HP1:=gI hP1;have HND:=gI (HE.out.2.2.2.fewer hN1);have HBW1:=gI (show Below B w w1 from (HB2.out.mono HBR.out.2.2).trans HB1.out);have HBA1:=gI (BA2.out.out ho1 (fun q=>by have:=HOH.out _ (HS0.out.foot q);omega));obtain ⟨wz,hwz⟩:∃wz,wz=w1:=⟨_,rfl⟩
 clear ho1 hs1 hP1 ha1 hn1 hh1 hN1 cc2 r0 r1 r2 r3
 go_wp2_with fail
 go_loopw [8] (fun iv wr=>∃k:Nat,k<=n1/\iv=.int .i64 (k:Int)/\Hid (Out S w1 wr)/\Hid (∃xs,wr.ownsRow w0.heap.size 5 1 (.slice Ab n1 cb) n1 xs)) (fun iv _=>n1-(intOf iv).toNat)
 case atStart=>exact ⟨0,Nat.zero_le _,rfl,gI (Out.refl _ _),gI ⟨_,HOB.out⟩⟩
 case round=>
  obtain ⟨k,hk,rfl,HOW,HWK⟩:=hrel
  by_cases hlt:k<n1
  ·obtain ⟨xs,hxs⟩:=HWK.out;obtain ⟨g,hA1,hg1,hg2,hg3,hg4⟩:=vC (v:=.int .u8 99) hxs hlt;subst hA1;obtain ⟨y,hy⟩:∃y,xs[k]?=some y:=⟨_,List.getElem?_eq_getElem (by have:=hxs.1;omega)⟩
   rw[hy] at hg2;have HN:=gI (show Out S w1 (wr.setCell ⟨g,k,none⟩ (.int .u8 99)) from HOW.out.setCell (p:=⟨g,k,none⟩) (.inl (by rw[HSE.out];rfl)) _);have HN2:=gI (show ∃xs,(wr.setCell ⟨g,k,none⟩ (.int .u8 99)).ownsRow w0.heap.size 5 1 (.slice (some ⟨g,0,none⟩) n1 cb) n1 xs from ⟨_,hg4⟩);have hlt2:(k:Int)<(n1:Int):=by omega
   clear hxs hg4 hy
   go_wp2
   go_roundw
   case rel=>exact ⟨k+1,by omega,by go_num,HN,HN2⟩
   case measure=>simp[intOf];omega
  ·have hnl:¬(k:Int)<(n1:Int):=by omega
   have hGS:¬S G:=fun q=>by
    have h1:=HSB.out G q;have h2:=HOH.out G HP0.out.g.1;omega
   have hs1:=HS1.out.beside HOW.out (fun k _ q=>HTS.out k q) (fun _=>id) (fun _=>.inl) (by have:=HBW1.out.size;have:=HBR.out.2.2;omega);have hP1:=HP1.out.turn HOW.out (fun k q=>(HTS.out k q).1) hGS;have hBA:Blk wr H (acB 0 A1 n1 c1 u A2' n2' c2'):=HBA1.out.out HOW.out (fun q=>by have:=HSB.out H q;omega);have HBW:=gI (show Below B w wr from HBW1.out.trans (HOW.out.below (fun k _ q=>(HS1.out.st.lt (HTS.out k q).1).1) (by have:=HBW1.out.size;have:=HBR.out.2.2;omega)));clear HS1 HP1 HB1 HOB HWK HOW HBA1 hk hGS HTS HPU HO2 HS2 HP2 HB2 HSB;have hs1':=gI hs1;obtain ⟨A4,n4,c4,A3,n3,c3,A2,n2,c2,g1,g2,g3,g4⟩:=hP1.box;have hown:∀k,own1 k->k<wr.heap.size:=fun k hk=>(hs1.st.lt hk).2
   have hn3:n3<=100000:=by have:=g3.len;have:=HBR.out.2.1.now;omega
   have BX:=gI (show Blk wr.drew G (pbC D P K R A4 n4 c4 A3 n3 c3 A2 n2 c2) from g1);have HP1:=gI hP1;have H2:=gI g4;have hdw:Below wr.heap.size wr wr.drew:=(Below.refl _ _).drew;have MFA:=gI (zcV (w:=wr.drew) HBR.out.1.ok (T:=own1) hown (g2.past hdw) (g3.past hdw) hn3 (by omega) bb (by have:=HBL.out;omega));have hnewT:∀j,(own1 j\/j=wr.heap.size)->own1 j\/wr.heap.size<=j:=fun j hj=>hj.imp id (fun e=>by omega)
   have hbal:Below wr.heap.size wr (wr.alloc (.cells zrA 38)).drew:=((Below.refl _ wr).alloc (Nat.le_refl _) _).drew;have BXA:=gI (show Blk (wr.alloc (.cells zrA 38)).drew G (pbC D P K R A4 n4 c4 A3 n3 c3 A2 n2 c2) from g1.alloc _);have hTB:∀k,(own1 k\/k=wr.heap.size)->k<(wr.alloc (.cells zrA 38)).drew.heap.size:=fun k hk=>by
    show k<(wr.alloc _).heap.size
    rw[World.size_alloc];rcases hk with q|q
    ·have:=hown k q;omega
    ·omega
   have MFB:=gI (zcV (w:=(wr.alloc (.cells zrA 38)).drew) HBR.out.1.ok (T:=fun j=>own1 j\/j=wr.heap.size) hTB (g2.next (.of_below hbal) hnewT) (g3.next (.of_below hbal) hnewT) hn3 (by omega) bb (by have:=HBL.out;omega));have hGlt:G<wr.heap.size:=hP1.lt;rw[HQQ.out] at MFA MFB;have HBAL:=gI hbal;have HDW:=gI hdw;have BAD:=gI (show Blk wr.drew H (acB 0 A1 n1 c1 u A2' n2' c2') from hBA);have BAA:=gI (show Blk (wr.alloc (.cells zrA 38)).drew H (acB 0 A1 n1 c1 u A2' n2' c2') from hBA.alloc _);have hHlt:H<wr.heap.size:=hBA.lt;have HCV:=gI (show ∀W,Below wr.heap.size wr W->(convert 24 9 (.slice A1 n1 c1)).run Tryz.prog W=.ok (sv bb) W from fun W hW=>xD A1 n1 c1 bb W B HBL.out (HRW.out.below (HBW.out.trans (hW.mono (by have:=HBW.out.size;have:=HBR.out.2.2;omega)))));have es1:=HCV.out wr.drew hdw;clear hs1 hP1 g1 g2 g3 g4 hown hnewT hbal hTB hBA hdw hlt;obtain ⟨d3,d4,d5,d6,d7,d8⟩:=yG BX.out;have d9:=BAD.out.cell (i:=1) rfl
   go_wp2_with fail
   go_region_held3 (fun w'=>w'.cell? ⟨G,3,none⟩=some (sv R.pre)/\w'.cell? ⟨G,4,none⟩=some (.int .i64 (R.wd:Int))/\w'.cell? ⟨G,5,none⟩=some (.int .i64 (R.rm:Int))/\w'.cell? ⟨G,6,none⟩=some (.slice A4 n4 c4)/\w'.cell? ⟨G,7,none⟩=some (.int .i64 (R.next:Int))/\w'.cell? ⟨G,8,none⟩=some (.slice A3 n3 c3)/\w'.cell? ⟨H,1,none⟩=some (.slice A1 n1 c1)/\(convert 24 9 (.slice A1 n1 c1)).run Tryz.prog w'=.ok (sv bb) w')
    (first
     |with_reducible exact zcE HCV.out BX.out BAD.out HDW.out
     |with_reducible exact zcE HCV.out BXA.out BAA.out HBAL.out
     |with_reducible exact zcE HCV.out BX5.out BA5.out HB5.out
     |with_reducible exact zcE HCV.out (BX5.out.alloc _) (BA5.out.alloc _) (HB5.out.alloc HB5.out.size _)
     |with_reducible exact zk1 HCV.out BX5.out BA5.out HB5.out _ (Nat.le_refl _) (Nat.ne_of_gt hGlt) (Nat.ne_of_gt hHlt) _ _ _ _ _
     |with_reducible exact zk1 HCV.out (BX5.out.alloc _) (BA5.out.alloc _) (HB5.out.alloc HB5.out.size _) _ HB5.out.size (Nat.ne_of_gt BX5.out.lt) (Nat.ne_of_gt BA5.out.lt) _ _ _ _ _)
    (first
     |(go_at_call 34
       refine MFA.out.mono ?_;rintro e w5 ⟨hb5,A4',n4',c4',A3',n3',c3',rfl,hs5,hf5⟩;have BX5:=gI (BX.out.past hb5);have BA5:=gI (BAD.out.past hb5);have HB5:=gI (HDW.out.trans (hb5.mono HDW.out.size)))
     |(go_at_call 34
       refine MFB.out.mono ?_;rintro e w5 ⟨hb5,A4',n4',c4',A3',n3',c3',rfl,hs5,hf5⟩;have BX5:=gI (BXA.out.past hb5);have BA5:=gI (BAA.out.past hb5);have HB5:=gI (HBAL.out.trans (hb5.mono HBAL.out.size));have BZ5:=((Blk.new wr zrB 38).drew).past hb5;obtain ⟨y0,y1,y2,y3,y4⟩:=BZ5.fives;obtain ⟨x0,x1,x2,x3,x4⟩:=BZ5.five_free))
   all_goals
    first
    |(obtain ⟨bx,hbx⟩:∃bx,bx=w5.heap.size:=⟨_,rfl⟩
      obtain ⟨w6,hw6⟩:∃w6,w6=w5.alloc (.cells (srA R1 A4' n4' c4') 38):=⟨_,rfl⟩
      have WW:=gI (show WayP wr w6 bx own1 R1 l1 A4' n4' c4' A3' n3' c3' by rw[hw6,hbx];exact zgU (((Below.refl _ wr).drew).trans hb5) hs5 hf5);rw[<-hw6,<-hbx])
    |(obtain ⟨bx,hbx⟩:∃bx,bx=wr.heap.size:=⟨_,rfl⟩
      obtain ⟨w6,hw6⟩:∃w6,w6=(((((w5.setCell ⟨wr.heap.size,0,none⟩ (sv R1.pre)).setCell ⟨wr.heap.size,1,none⟩ (.int .i64 (R1.wd:Int))).setCell ⟨wr.heap.size,2,none⟩ (.int .i64 (R1.rm:Int))).setCell ⟨wr.heap.size,3,none⟩ (.slice A4' n4' c4')).setCell ⟨wr.heap.size,4,none⟩ (.int .i64 (R1.next:Int))):=⟨_,rfl⟩
      have WW:=gI (show WayP wr w6 bx own1 R1 l1 A4' n4' c4' A3' n3' c3' by rw[hw6,hbx];exact zgV (Nat.le_refl _) (HBAL.out.trans (hb5.mono HBAL.out.size)) BZ5 hs5 hf5);rw[<-hw6,<-hbx])
    clear hw6 hbx;have BX6:=gI ((show Blk wr G (pbC D P K R A4 n4 c4 A3 n3 c3 A2 n2 c2) from BX.out).past WW.out.past);obtain ⟨r0,r1,r2,r3,r4⟩:=WW.out.box.fives;have hb6:=WW.out.box.lt;have c8:=BX6.out.cell (i:=8) rfl;have HD1:=gI (Z7 R1 A4' n4' c4');clear d3 d4 d5 d6 d7 d8
    go_wp2_with (refine yD rfl 38 _ _ rfl G 3 (pbC D P K R A4 n4 c4 A3 n3 c3 A2 n2 c2) (srA R1 A4' n4' c4') rfl rfl BX6.out (by show 3+5<=10;omega) yT HD1.out ?_
                 intro w7 hb7 ho7;refine Classical.byContradiction fun hcontra=>?_)
    have BX7:=gI (show Blk w7 G (pbC D P K R1 A4' n4' c4' A3 n3 c3 A2 n2 c2) from hb7);have HO7:=gI ho7;have k8:=BX7.out.cell (i:=8) rfl;have f8:=BX7.out.frozen 8;clear hb7 ho7 r0 r1 r2 r3 r4 c8
    apply hcontra
    clear hcontra
    go_wp2
    go_ret2
    exact ze6 HBR.out.2.2 HBW.out hs1'.out HP1.out WW.out BX7.out HO7.out H2.out HE.out.1 HE.out.2.1 HE.out.2.2.1 HND.out
end
section
open Go.RowKit Me Mf Rw Ds Rn Tx Fr Mw Hp Va Go.Maps
variable {w w':World} {B G D:Nat}
theorem zjN {j:Nat} (h:PsI w B G D j) (hj:j<=60) (A1:Option Addr) (n1 c1 u:Nat) (A2':Option Addr) (n2' c2':Nat) :
 Calls Tryz.prog 11 #[.pointer (some ⟨G,0,none⟩),.agg (acA 1 A1 n1 c1 u A2' n2' c2')] w (DoP w B G D j):=by
 obtain ⟨K,P,M,N,hb,X,f,R,Y,own,ownD,h1,h2,h3,h4,h5⟩:=h;obtain ⟨w0,hw0⟩:∃w0,w0=w.alloc (.cells (acA 1 A1 n1 c1 u A2' n2' c2') 27):=⟨_,rfl⟩
 have hb0:Below w.heap.size w w0:=by rw[hw0];exact (Below.refl _ _).alloc (Nat.le_refl _) _
 have BA:=gI (show Blk w0 w.heap.size (acB 1 A1 n1 c1 u A2' n2' c2') by rw[hw0];exact Blk.new w (acB 1 A1 n1 c1 u A2' n2' c2') _);have hnx:R.next<=60:=by have:=h3.few;have:=h4.now;omega
 have hS0:=h1.past hb0;have hP0:=h2.past hb0 (fun k hk=>h1.foot hk);obtain ⟨X1,Y1,e1,e2,e3,e4,-⟩:=h3.flush (by omega);have HFL:=gI (zao hS0 (by have:=h4.n;unfold maxLen;omega) (by omega));obtain ⟨⟨R1,l1⟩,hQ⟩:∃q,yH R Y.now=q:=⟨_,rfl⟩
 have e5:=h4.flush h3.ok hj e3 e4 (N1:=N+1) (Nat.le_refl _);rw[hQ] at e1 e2 e3 e5;rw[e1] at HFL
 dsimp only at e2 e3 e5
 obtain ⟨A4,n4,c4,A3,n3,c3,A2,n2,c2,g1,g2,g3,g4⟩:=hP0.box;obtain ⟨c0,c1',c2'',c3',c4',c5',c6',c7',c8',c9'⟩:w0.cell? ⟨G,0,none⟩=_/\w0.cell? ⟨G,1,none⟩=_/\w0.cell? ⟨G,2,none⟩=_/\w0.cell? ⟨G,3,none⟩=_/\w0.cell? ⟨G,4,none⟩=_/\w0.cell? ⟨G,5,none⟩=_/\w0.cell? ⟨G,6,none⟩=_/\w0.cell? ⟨G,7,none⟩=_/\w0.cell? ⟨G,8,none⟩=_/\w0.cell? ⟨G,9,none⟩=_:=
  ⟨g1.cell rfl,g1.cell rfl,g1.cell rfl,g1.cell rfl,g1.cell rfl,g1.cell rfl,g1.cell rfl,g1.cell rfl,g1.cell rfl,g1.cell rfl⟩
 obtain ⟨r0,r1,r2,r3⟩:=BA.out.four;have HW0:=gI hw0;have HS0:=gI hS0;have HP0:=gI hP0;have HB0:=gI hb0;have HBR:=gI (And.intro h3 (And.intro h4 h5));have HE:=gI (And.intro e2 (And.intro e3 (And.intro e4 e5)));have HQQ:=gI hQ;clear h1 h2 h3 h4 hw0 hb0 hS0 hP0 e1 e2 e3 e4 e5 hQ c3' c4' c5' c6' c7' c8' c9' g1 g2 g3 g4
 go_enter Tryz.func11,Tryz.ntmps11
 go_upto_region 1 with fail
 rw[<-HW0.out]
 go_upto_region 14 with (go_at_call 19;refine HFL.out.mono ?_;rintro e w1 ⟨rfl,ho1,N1,hb1,own1,hN1,hs1,ha1,hn1,hh1⟩)
 have hP1:PbAt w1 G D P K R Y.now Y.hv own1 (yg P M K hb1 ownD):=HP0.out.next ho1 (fun k hk=>HS0.out.foot hk) ha1 hn1 (fun k hk=>by
  rcases hk with q|q|q
  ·exact .inl (.inl q)
  ·exact .inl (.inr (.inl q))
  ·rcases hh1 k q with q|q
   ·exact .inl (.inr (.inr q))
   ·exact .inr q)
 obtain ⟨A4,n4,c4,A3,n3,c3,A2,n2,c2,g1,g2,g3,g4⟩:=hP1.box;have hs1':=gI hs1;have hown:∀k,own1 k->k<w1.heap.size:=fun k hk=>(hs1.st.lt hk).2
 have hn3:n3<=100000:=by have:=g3.len;have:=HBR.out.2.1.now;omega
 have BX:=gI (show Blk w1.drew G (pbC D P K R A4 n4 c4 A3 n3 c3 A2 n2 c2) from g1);have HOW:=gI hown;have HP1:=gI hP1;have H4:=gI g2;have H3:=gI g3;have H2:=gI g4;have MFA:=gI (XU (w:=w1.drew) HBR.out.1.ok (T:=own1) hown (g2.past ((Below.refl _ _).drew)) (g3.past ((Below.refl _ _).drew)) hn3 (by omega));have hnewT:∀j,(own1 j\/j=w1.heap.size)->own1 j\/w1.heap.size<=j:=fun j hj=>hj.imp id (fun e=>by omega)
 have hbal:Below w1.heap.size w1 (w1.alloc (.cells zrA 38)).drew:=((Below.refl _ w1).alloc (Nat.le_refl _) _).drew;have BXA:=gI (show Blk (w1.alloc (.cells zrA 38)).drew G (pbC D P K R A4 n4 c4 A3 n3 c3 A2 n2 c2) from g1.alloc _);have hTB:∀k,(own1 k\/k=w1.heap.size)->k<(w1.alloc (.cells zrA 38)).drew.heap.size:=fun k hk=>by
  show k<(w1.alloc _).heap.size
  rw[World.size_alloc];rcases hk with q|q
  ·have:=hown k q;omega
  ·omega
 have MFB:=gI (XU (w:=(w1.alloc (.cells zrA 38)).drew) HBR.out.1.ok (T:=fun j=>own1 j\/j=w1.heap.size) hTB (g2.next (.of_below hbal) hnewT) (g3.next (.of_below hbal) hnewT) hn3 (by omega));have hGlt:G<w1.heap.size:=hP1.lt;rw[HQQ.out] at MFA MFB;have HBAL:=gI hbal;have HBW:=gI (show Below B w w1 from (HB0.out.mono HBR.out.2.2).trans (HS0.out.lows (by have:=HB0.out.size;have:=HBR.out.2.2;omega) ho1 (fun k hk=>HS0.out.foot hk)));have HND:=gI (HE.out.2.2.2.fewer hN1);clear ho1 hs1 hP1 g1 g2 g3 g4 hown hnewT hbal hTB ha1 hn1 hh1;obtain ⟨d3,d4,d5,d6,d7,d8⟩:=yG BX.out
 go_region_held3 (fun w'=>w'.cell? ⟨G,3,none⟩=some (sv R.pre)/\w'.cell? ⟨G,4,none⟩=some (.int .i64 (R.wd:Int))/\w'.cell? ⟨G,5,none⟩=some (.int .i64 (R.rm:Int))/\w'.cell? ⟨G,6,none⟩=some (.slice A4 n4 c4)/\w'.cell? ⟨G,7,none⟩=some (.int .i64 (R.next:Int))/\w'.cell? ⟨G,8,none⟩=some (.slice A3 n3 c3))
  (first
   |with_reducible exact yG BX.out
   |with_reducible exact yG BXA.out
   |with_reducible exact yG BX5.out
   |with_reducible exact yG (BX5.out.alloc _)
   |with_reducible exact yG (BX5.out.set5o (by have hG9:=hGlt;have hG5:=BX5.out.lt;omega) _ _ _ _ _)
   |with_reducible exact yG ((BX5.out.alloc _).set5o (by have hG9:=hGlt;have hG5:=BX5.out.lt;omega) _ _ _ _ _))
  (first
   |(go_at_call 35
     refine MFA.out.mono ?_;rintro e w5 ⟨hb5,A4',n4',c4',A3',n3',c3',rfl,hs5,hf5⟩;have BX5:=gI (BX.out.past hb5))
   |(go_at_call 35
     refine MFB.out.mono ?_;rintro e w5 ⟨hb5,A4',n4',c4',A3',n3',c3',rfl,hs5,hf5⟩;have BX5:=gI (BXA.out.past hb5);have BZ5:=((Blk.new w1 zrB 38).drew).past hb5;obtain ⟨y0,y1,y2,y3,y4⟩:=BZ5.fives;obtain ⟨x0,x1,x2,x3,x4⟩:=BZ5.five_free))
 all_goals
  first
  |(obtain ⟨bx,hbx⟩:∃bx,bx=w5.heap.size:=⟨_,rfl⟩
    obtain ⟨w6,hw6⟩:∃w6,w6=w5.alloc (.cells (srA R1 A4' n4' c4') 38):=⟨_,rfl⟩
    have WW:=gI (show WayP w1 w6 bx own1 R1 l1 A4' n4' c4' A3' n3' c3' by rw[hw6,hbx];exact zgU (((Below.refl _ w1).drew).trans hb5) hs5 hf5);rw[<-hw6,<-hbx])
  |(obtain ⟨bx,hbx⟩:∃bx,bx=w1.heap.size:=⟨_,rfl⟩
    obtain ⟨w6,hw6⟩:∃w6,w6=(((((w5.setCell ⟨w1.heap.size,0,none⟩ (sv R1.pre)).setCell ⟨w1.heap.size,1,none⟩ (.int .i64 (R1.wd:Int))).setCell ⟨w1.heap.size,2,none⟩ (.int .i64 (R1.rm:Int))).setCell ⟨w1.heap.size,3,none⟩ (.slice A4' n4' c4')).setCell ⟨w1.heap.size,4,none⟩ (.int .i64 (R1.next:Int))):=⟨_,rfl⟩
    have WW:=gI (show WayP w1 w6 bx own1 R1 l1 A4' n4' c4' A3' n3' c3' by rw[hw6,hbx];exact zgV (Nat.le_refl _) (HBAL.out.trans (hb5.mono HBAL.out.size)) BZ5 hs5 hf5);rw[<-hw6,<-hbx])
  clear hw6 hbx;have BX6:=gI ((show Blk w1 G (pbC D P K R A4 n4 c4 A3 n3 c3 A2 n2 c2) from BX.out).past WW.out.past);obtain ⟨r0,r1,r2,r3,r4⟩:=WW.out.box.fives;have hb6:=WW.out.box.lt;have c8:=BX6.out.cell (i:=8) rfl;have HD1:=gI (Z7 R1 A4' n4' c4');clear d3 d4 d5 d6 d7 d8
  go_wp2_with (refine yD rfl 38 _ _ rfl G 3 (pbC D P K R A4 n4 c4 A3 n3 c3 A2 n2 c2) (srA R1 A4' n4' c4') rfl rfl BX6.out (by show 3+5<=10;omega) yT HD1.out ?_
               intro w7 hb7 ho7;refine Classical.byContradiction fun hcontra=>?_)
  have BX7:=gI (show Blk w7 G (pbC D P K R1 A4' n4' c4' A3 n3 c3 A2 n2 c2) from hb7);have HO7:=gI ho7;have k8:=BX7.out.cell (i:=8) rfl;have f8:=BX7.out.frozen 8;clear hb7 ho7 r0 r1 r2 r3 r4 c8
  apply hcontra
  clear hcontra
  go_wp2
  go_ret2
  exact ze6 HBR.out.2.2 HBW.out hs1'.out HP1.out WW.out BX7.out HO7.out H2.out HE.out.1 HE.out.2.1 HE.out.2.2.1 HND.out
end
section
open Go.RowKit Me Mf Rw Ds Rn Tx Fr Mw Hp Va Go.Maps
variable {w w':World} {B G D:Nat}
theorem zhF {j:Nat} (h:PsI w B G D j) (hj:j<=60) (A1:Option Addr) (n1 c1 u:Nat) (A2':Option Addr) (n2' c2':Nat) :
 Calls Tryz.prog 11 #[.pointer (some ⟨G,0,none⟩),.agg (acA 2 A1 n1 c1 u A2' n2' c2')] w (DoP w B G D j):=by
 obtain ⟨K,P,M,N,hb,X,f,R,Y,own,ownD,h1,h2,h3,h4,h5⟩:=h;obtain ⟨w0,hw0⟩:∃w0,w0=w.alloc (.cells (acA 2 A1 n1 c1 u A2' n2' c2') 27):=⟨_,rfl⟩
 have hb0:Below w.heap.size w w0:=by rw[hw0];exact (Below.refl _ _).alloc (Nat.le_refl _) _
 have BA:=gI (show Blk w0 w.heap.size (acB 2 A1 n1 c1 u A2' n2' c2') by rw[hw0];exact Blk.new w (acB 2 A1 n1 c1 u A2' n2' c2') _);have hS0:=h1.past hb0;have hP0:=h2.past hb0 (fun k hk=>h1.foot hk);have HFL:=gI (zdU hS0.st (by have:=h4.n;omega) (by rw[h3.rest.calm.pend];show 0+4096<=_;omega));obtain ⟨A4,n4,c4,A3,n3,c3,A2,n2,c2,g1,g2,g3,g4⟩:=hP0.box;have cc1:w0.cell? ⟨G,1,none⟩=_:=g1.cell rfl;obtain ⟨r0,r1,r2,r3⟩:=BA.out.four;have HW0:=gI hw0;have HS0:=gI hS0;have HP0:=gI hP0;have HB0:=gI hb0;have HBR:=gI (And.intro h3 (And.intro h4 h5));clear h1 h2 h3 h4 hw0 hb0 hS0 hP0 g1 g2 g3 g4
 go_enter Tryz.func11,Tryz.ntmps11
 go_upto_region 1 with fail
 rw[<-HW0.out]
 go_upto_region 19 with (go_at_call 36;refine HFL.out.mono ?_;rintro e w1 ⟨X1,r,rfl,hc1,own1,ownD1,hst1,hf1⟩)
 have hs1:=HS0.out.fol hst1 hf1;have hF1:Out (yg P M K hb ownD) w0 w1:=hf1.1.more fun k _ e=>.inl e
 have hP1:PbAt w1 G D P K R Y.now Y.hv own1 (yg P M K hb ownD1):=HP0.out.next hF1 (fun k hk=>HS0.out.foot hk) hf1.2.2.1 hf1.2.1 (fun k hk=>by
  rcases hk with (q|q|q)|q
  ·exact .inl (.inl (.inl q))
  ·exact .inl (.inl (.inr (.inl q)))
  ·rcases hf1.2.2.2 k q with q|q
   ·exact .inl (.inl (.inr (.inr q)))
   ·exact .inr q
  ·exact .inl (.inr q))
 obtain ⟨A4,n4,c4,A3,n3,c3,A2,n2,c2,g1,g2,g3,g4⟩:=hP1.box;have k8:=g1.cell (i:=8) rfl;have k9:=g1.cell (i:=9) rfl;have f9:=g1.frozen 9;have hGlt:=g1.lt;have HG:=gI (And.intro g1 (And.intro g2 g3));have HS1:=gI hs1;have HP1:=gI hP1;have HC1:=gI (HBR.out.1.commit hc1);have HBW:=gI (show Below B w w1 from (HB0.out.mono HBR.out.2.2).trans (HS0.out.lows (by have:=HB0.out.size;have:=HBR.out.2.2;omega) hF1 (fun k hk=>HS0.out.foot hk)));have HFIN:=gI (show Blk (w1.setCell ⟨G,9,none⟩ (.slice A3 n3 c3)) G (pbC D P K R A4 n4 c4 A3 n3 c3 A3 n3 c3)/\Out (fun k=>k=G) w1 (w1.setCell ⟨G,9,none⟩ (.slice A3 n3 c3)) from ⟨g1.set 9 _,(Out.refl (fun k=>k=G) w1).setCell (p:=⟨G,9,none⟩) (.inl rfl) _⟩);clear hst1 hf1 hc1 hs1 hF1 hP1 g1 g2 g3 g4;rcases HC1.out with rfl|⟨rfl,f1,Y1,e1,e2,e3⟩
 ·go_wp2
  go_ret2
  exact ⟨false,rfl,HBW.out.trans (HFIN.out.2.below (fun k _ e=>by rw[e];exact (HS1.out.st.lt HP1.out.g.1).1) (by have:=HBW.out.size;have:=HBR.out.2.2;omega)),fun e=>by cases e⟩
 ·have HE:=gI (And.intro e1 (And.intro e2 e3));clear e1 e2 e3 HC1
  go_wp2
  go_ret2
  refine ze5 HBR.out.2.2 HBW.out HS1.out HP1.out HFIN.out.1 HFIN.out.2 HG.out.2.1 HG.out.2.2 HG.out.2.2 HE.out.1 HE.out.2.1 HE.out.2.2 ⟨?_,?_,?_,?_,?_,?_⟩
  ·rw[HE.out.2.1];have:=HBR.out.2.1.now;omega
  ·rw[HE.out.2.2];have:=HBR.out.2.1.now;omega
  ·rw[HE.out.2.1];have:=HBR.out.2.1.n;omega
  ·rw[HE.out.2.1];exact HBR.out.2.1.bn
  ·rw[HE.out.2.2];exact HBR.out.2.1.bn
  ·have:=HBR.out.2.1.held;omega
end
section
open Go.RowKit Me Mf Rw Ds Rn Tx Fr Mw Hp Va Go.Maps
variable {w w':World} {B G D K P M N:Nat} {hb:Option Nat} {X:Sto} {R:SrD} {own ownD F:Nat->Prop}
theorem zhQ (h:OkR R):Xl R.pre (R.wd:Int) (R.rm:Int)=true:=by
 have h1:=h.pre;have h2:=h.wd;have h3:=h.rm;unfold Xl;simp only[Bool.and_eq_true,decide_eq_true_eq];omega
theorem zls {R':SrD} {now' hv':List FB} (hS:zI w B K P D M N hb X R' own ownD) (hG:own G/\¬yg P M K hb ownD G) (hB:B<=w.heap.size) {A4 A3 A2:Option Addr} {n4 c4 n3 c3 n2 c2:Nat} {Rm:SrD}
 (hb8:Blk w' G (pbC D P K Rm A4 n4 c4 A3 n3 c3 A2 n2 c2)) (ho:Out (fun k=>k=G) w w') (h4:SvK own A4 n4 c4 Rm.held w) (h3:FbK own A3 n3 c3 now' w) (h2:FbK own A2 n2 c2 hv' w) :
 zI w' B K P D M N hb X R' own ownD/\PbAt w' G D P K Rm now' hv' own (yg P M K hb ownD)/\Below B w w':=by
 have ho':Out own w w':=ho.more fun k _ e=>by rw[e];exact hG.1
 refine ⟨hS.beside ho (fun k _ e=>by rw[e];exact hG) (fun _=>id) (fun _=>.inl) hB,⟨⟨A4,n4,c4,A3,n3,c3,A2,n2,c2,hb8,h4.out ho',h3.out ho',h2.out ho'⟩,hG⟩,ho.below (fun k _ e=>?_) hB⟩;rw[e];exact (hS.st.lt hG.1).1
theorem zlr {j:Nat} (h:PsI w B G D j) (hj:j<=60) (A1:Option Addr) (n1 c1 u:Nat) (A2':Option Addr) (n2' c2':Nat) :
 Calls Tryz.prog 11 #[.pointer (some ⟨G,0,none⟩),.agg (acA 3 A1 n1 c1 u A2' n2' c2')] w (DoP w B G D j):=by
 obtain ⟨K,P,M,N,hb,X,f,R,Y,own,ownD,h1,h2,h3,h4,h5⟩:=h;obtain ⟨w0,hw0⟩:∃w0,w0=w.alloc (.cells (acA 3 A1 n1 c1 u A2' n2' c2') 27):=⟨_,rfl⟩
 have hb0:Below w.heap.size w w0:=by rw[hw0];exact (Below.refl _ _).alloc (Nat.le_refl _) _
 have BA:=gI (show Blk w0 w.heap.size (acB 3 A1 n1 c1 u A2' n2' c2') by rw[hw0];exact Blk.new w (acB 3 A1 n1 c1 u A2' n2' c2') _);have hS0:=h1.past hb0;have hP0:=h2.past hb0 (fun k hk=>h1.foot hk);obtain ⟨T,Z,hT,hZ,hans⟩:=h3.rest.read;have hmr:=zcS hS0.st.disk (show X.S.pend.length<4611686018427387904 by rw[h3.rest.calm.pend];show 0<_;omega) hT hZ;rw[hans] at hmr;have HFL:=gI (zcM (own:=own) hS0.st.disk (fun k hk=>hS0.st.own k (.inr (.inr hk))) (fun k hk=>hS0.st.lt hk) hmr h3.rest.ok.fit h3.rest.ok.wf h3.rest.ok.disk h3.rest.ok.big (by rw[h3.rest.calm.pend];show 0+64<=_;omega));obtain ⟨A4,n4,c4,A3,n3,c3,A2,n2,c2,g1,g2,g3,g4⟩:=hP0.box;have cc0:w0.cell? ⟨G,0,none⟩=_:=g1.cell rfl;obtain ⟨r0,r1,r2,r3⟩:=BA.out.four;have HW0:=gI hw0;have HS0:=gI hS0;have HP0:=gI hP0;have HB0:=gI hb0;have HBR:=gI (And.intro h3 (And.intro h4 h5));clear h1 h2 h3 h4 hw0 hb0 hS0 hP0 hT hZ hans hmr g1 g2 g3 g4
 go_enter Tryz.func11,Tryz.ntmps11
 go_upto_region 1 with fail
 rw[<-HW0.out]
 go_upto_region 23 with (go_at_call 27;refine HFL.out.mono ?_;intro e w1 hop;obtain ⟨P1,M1,own1,ownD1,S1,rfl,hst,hr1,hsz,ho1,hn1,hi1,hd1,hP1,hM1⟩:=hop.rest HBR.out.1.rest)
 have hod:∀k,ownD k->own k:=fun k hk=>HS0.out.st.own k (.inr (.inr hk))
 have hF1:Out (yg P M K hb ownD) w0 w1:=ho1.more fun k _ q=>.inl (.inr (.inr q))
 have hPb1:PbAt w1 G D P K R Y.now Y.hv own1 (yg P M K hb ownD):=HP0.out.next hF1 (fun k hk=>HS0.out.foot hk) hi1 hn1 (fun k=>.inl);have hGlt:=hPb1.lt;have hG1:own1 G/\¬Foot P1 M1 ownD1 G:=⟨hPb1.g.1,fun q=>by
  have hG0:=HP0.out.lt;rcases q with q|q|q
  ·omega
  ·omega
  ·rcases hd1 _ q with q|q
   ·exact HP0.out.g.2 (.inl (.inr (.inr q)))
   ·omega⟩
 have hB0:B<=w0.heap.size:=by have:=HB0.out.size;have:=HBR.out.2.2;omega
 have hBW:Below B w w1:=(HB0.out.mono HBR.out.2.2).trans (HS0.out.lows hB0 ho1 hod);have hB1:B<=w1.heap.size:=by have:=hBW.size;have:=HBR.out.2.2;omega
 have htab:PTab w1.drew:=HS0.out.bx.tab.out (ho1.trans (xu ownD w1)) (fun q=>by
  have h1:=(HS0.out.st.lt (hod _ q)).1;have h2:=HS0.out.bx.tlo
  omega)
 have hstd:zo w1.drew B P1 D M1 0 ⟨S1,X.m,noC,false⟩ own1 ownD1:=hst.past ((Below.refl _ w1).drew);have NW:=gI (Q8 hstd (by omega) R.pre R.wd R.rm (zhQ HBR.out.1.ok) htab);have HSTD:=gI hstd;have HPB1:=gI hPb1;have HG1:=gI hG1;have HBW1:=gI hBW;have HR1:=gI hr1;obtain ⟨A4,n4,c4,A3,n3,c3,A2,n2,c2,g1,g2,g3,g4⟩:=hPb1.box;have BX:=gI (show Blk w1.drew G (pbC D P K R A4 n4 c4 A3 n3 c3 A2 n2 c2) from g1);have H4:=gI g2;have H2:=gI g4;clear hop hst hr1 hsz ho1 hn1 hi1 hd1 hP1 hM1 hF1 hPb1 hod hG1 hBW htab hstd g1 g2 g3 g4;obtain ⟨d3,d4,d5,d6,d7,d8⟩:=yG BX.out
 go_region_held3 (fun w'=>w'.cell? ⟨G,3,none⟩=some (sv R.pre)/\w'.cell? ⟨G,4,none⟩=some (.int .i64 (R.wd:Int))/\w'.cell? ⟨G,5,none⟩=some (.int .i64 (R.rm:Int))/\w'.cell? ⟨G,6,none⟩=some (.slice A4 n4 c4)/\w'.cell? ⟨G,7,none⟩=some (.int .i64 (R.next:Int))/\w'.cell? ⟨G,8,none⟩=some (.slice A3 n3 c3))
  (first
   |with_reducible exact yG BX.out
   |with_reducible exact yG BX2.out)
  (first
   |(go_at_call 9
     refine NW.out.mono ?_;rintro e w2 ⟨K1,nx,rfl,hx,hnx,hb2⟩;have BX2:=gI (BX.out.past hb2)))
 have hS2:=zI.new HSTD.out hB1 HS0.out.bx.tlo hb2 hx;have hK1:w1.heap.size<=K1:=hx.lo;have hply:=HBR.out.1.ply.forget HBR.out.1.rest.ok.fit S1 false;have HBES:=gI (show Bes ⟨S1,X.m,noC,false⟩ f ⟨R.pre,R.wd,R.rm,[],0,nx⟩ ⟨Y.m,Y.hv,Y.hv,[],false⟩ from ⟨HR1.out,hply,hx.ok,rfl,fun i hi=>hnx.all i hi⟩);have HNX:=gI (show zey (fun x=>x∈yM Y.hv) R.pre nx from ⟨fun i hi=>(hply.names.mem _).2 (hnx.all i hi),fun q=>hnx.no ((hply.names.mem _).1 q)⟩);obtain ⟨own2,how2⟩:∃o:Nat->Prop,o=fun k=>own1 k\/k=K1:=⟨_,rfl⟩
 rw[<-how2] at hS2;have hn2:∀k,own2 k->own1 k\/w1.heap.size<=k:=fun k hk=>by
  rw[how2] at hk;exact hk.imp id (fun e=>by omega)
 have hb2':Below w1.heap.size w1 w2:=((Below.refl _ w1).drew).trans hb2;have hG2:own2 G/\¬yg P1 M1 K1 none ownD1 G:=⟨by rw[how2];exact .inl HG1.out.1,fun q=>by
  rcases q with q|q|q
  ·exact HG1.out.2 q
  ·omega
  ·cases q⟩
 have H42:=gI (H4.out.next (.of_below hb2') hn2);have H22:=gI (H2.out.next (.of_below hb2') hn2);have g2:=BX.out.past hb2;obtain ⟨k1,k2,k8,k9⟩:w2.cell? ⟨G,1,none⟩=_/\w2.cell? ⟨G,2,none⟩=_/\w2.cell? ⟨G,8,none⟩=_/\w2.cell? ⟨G,9,none⟩=_:=⟨g2.cell rfl,g2.cell rfl,g2.cell rfl,g2.cell rfl⟩
 have f1:=g2.frozen 1;have f2:=g2.frozen 2;have f8:=g2.frozen 8;obtain ⟨w3,hw3⟩:∃w3,w3=((w2.setCell ⟨G,1,none⟩ (.pointer (some ⟨P1,0,none⟩))).setCell ⟨G,2,none⟩ (.pointer (some ⟨K1,0,none⟩))).setCell ⟨G,8,none⟩ (.slice A2 n2 c2):=⟨_,rfl⟩
 have g3:Blk w3 G (pbC D P1 K1 R A4 n4 c4 A2 n2 c2 A2 n2 c2):=by rw[hw3];exact ((g2.set 1 _).set 2 _).set 8 _
 have ho3:Out (fun k=>k=G) w2 w3:=by rw[hw3];exact (((Out.refl (fun k=>k=G) w2).setCell (p:=⟨G,1,none⟩) (.inl rfl) _).setCell (p:=⟨G,2,none⟩) (.inl rfl) _).setCell (p:=⟨G,8,none⟩) (.inl rfl) _
 have hB2:B<=w2.heap.size:=by have:=hb2'.size;omega
 obtain ⟨q1,q2,q3⟩:=zls (now':=Y.hv) (hv':=Y.hv) hS2 hG2 hB2 g3 ho3 H42.out H22.out H22.out;have HS3:=gI q1;have HP3:=gI q2;have HBW3:=gI (HBW1.out.trans ((hb2'.mono hB1).trans q3));have H23:=gI (H22.out.out (ho3.more fun k _ e=>by rw[e];exact hG2.1));have HW3:=gI hw3;have hown:∀k,own2 k->k<w3.heap.size:=fun k hk=>(q1.st.lt hk).2
 have hGlt3:G<w3.heap.size:=g3.lt;have hn2c:n2<=100000:=by have:=H23.out.len;have:=HBR.out.2.1.hv;omega
 have MFA:=gI (Vn (l:=Y.hv) (c3:=c2) R.pre R.wd R.rm w3.drew (zhQ HBR.out.1.ok) H23.out.len hn2c (H23.out.past ((Below.refl _ w3).drew)).at_.now);have hbal:Below w3.heap.size w3 (w3.alloc (.cells zrA 38)).drew:=((Below.refl _ w3).alloc (Nat.le_refl _) _).drew;have hnewT:∀j,(own2 j\/j=w3.heap.size)->own2 j\/w3.heap.size<=j:=fun j hj=>hj.imp id (fun e=>by omega)
 have H2B:=gI (H23.out.next (T':=fun j=>own2 j\/j=w3.heap.size) (.of_below hbal) hnewT);have MFB:=gI (Vn (l:=Y.hv) (c3:=c2) R.pre R.wd R.rm (w3.alloc (.cells zrA 38)).drew (zhQ HBR.out.1.ok) H23.out.len hn2c (H23.out.past hbal).at_.now);have BX3:=gI (show Blk w3.drew G (pbC D P1 K1 R A4 n4 c4 A2 n2 c2 A2 n2 c2) from g3);have BXA:=gI (show Blk (w3.alloc (.cells zrA 38)).drew G (pbC D P1 K1 R A4 n4 c4 A2 n2 c2 A2 n2 c2) from g3.alloc _);have HBAL:=gI hbal;clear hx hnx hb2 hS2 hK1 hply hn2 hb2' hG2 g2 g3 ho3 q1 q2 q3 hw3 how2 d3 d4 d5 d6 d7 d8 hown hbal hnewT
 go_upto_region 25 with fail
 rw[<-HW3.out];clear k1 k2 k8 k9 f1 f2 f8;obtain ⟨d3,d4,d5,d6,d7,d8⟩:=yG BX3.out
 go_region_held3 (fun w'=>w'.cell? ⟨G,3,none⟩=some (sv R.pre)/\w'.cell? ⟨G,4,none⟩=some (.int .i64 (R.wd:Int))/\w'.cell? ⟨G,5,none⟩=some (.int .i64 (R.rm:Int))/\w'.cell? ⟨G,6,none⟩=some (.slice A4 n4 c4)/\w'.cell? ⟨G,7,none⟩=some (.int .i64 (R.next:Int))/\w'.cell? ⟨G,8,none⟩=some (.slice A2 n2 c2))
  (first
   |with_reducible exact yG BX3.out
   |with_reducible exact yG BXA.out
   |with_reducible exact yG BX5.out
   |with_reducible exact yG (BX5.out.alloc _)
   |with_reducible exact yG (BX5.out.set5o (by have hG9:=hGlt3;have hG5:=BX5.out.lt;omega) _ _ _ _ _)
   |with_reducible exact yG ((BX5.out.alloc _).set5o (by have hG9:=hGlt3;have hG5:=BX5.out.lt;omega) _ _ _ _ _))
  (first
   |(go_at_call 10
     refine MFA.out.mono ?_;rintro e w5 ⟨nn,rfl,hnn,hb5⟩
     obtain rfl:nn=nx:=hnn.one HNX.out
     have BX5:=gI (BX3.out.past hb5))
   |(go_at_call 10
     refine MFB.out.mono ?_;rintro e w5 ⟨nn,rfl,hnn,hb5⟩
     obtain rfl:nn=nx:=hnn.one HNX.out
     have BX5:=gI (BXA.out.past hb5);have BZ5:=((Blk.new w3 zrB 38).drew).past hb5;obtain ⟨y0,y1,y2,y3,y4⟩:=BZ5.fives;obtain ⟨x0,x1,x2,x3,x4⟩:=BZ5.five_free))
 all_goals
  first
  |(obtain ⟨bx,hbx⟩:∃bx,bx=w5.heap.size:=⟨_,rfl⟩
    obtain ⟨w6,hw6⟩:∃w6,w6=w5.alloc (.cells (srA ⟨R.pre,R.wd,R.rm,[],0,nn⟩ none 0 0) 38):=⟨_,rfl⟩
    have hb35:=((Below.refl _ w3).drew).trans hb5;have WW:=gI (show WayP w3 w6 bx own2 ⟨R.pre,R.wd,R.rm,[],0,nn⟩ Y.hv none 0 0 A2 n2 c2 by rw[hw6,hbx];exact zgU hb35 SvK.none (H23.out.past hb35));rw[<-hw6,<-hbx])
  |(obtain ⟨bx,hbx⟩:∃bx,bx=w3.heap.size:=⟨_,rfl⟩
    obtain ⟨w6,hw6⟩:∃w6,w6=(((((w5.setCell ⟨w3.heap.size,0,none⟩ (sv R.pre)).setCell ⟨w3.heap.size,1,none⟩ (.int .i64 (R.wd:Int))).setCell ⟨w3.heap.size,2,none⟩ (.int .i64 (R.rm:Int))).setCell ⟨w3.heap.size,3,none⟩ (.slice none 0 0)).setCell ⟨w3.heap.size,4,none⟩ (.int .i64 (nn:Int))):=⟨_,rfl⟩
    have WW:=gI (show WayP w3 w6 bx own2 ⟨R.pre,R.wd,R.rm,[],0,nn⟩ Y.hv none 0 0 A2 n2 c2 by rw[hw6,hbx];exact zgV (R:=⟨R.pre,R.wd,R.rm,[],0,nn⟩) (Nat.le_refl _) (HBAL.out.trans (hb5.mono HBAL.out.size)) BZ5 SvK.none (H2B.out.past hb5));rw[<-hw6,<-hbx])
  clear hw6 hbx;have BX6:=gI ((show Blk w3 G (pbC D P1 K1 R A4 n4 c4 A2 n2 c2 A2 n2 c2) from BX3.out).past WW.out.past);obtain ⟨r0,r1,r2,r3,r4⟩:=WW.out.box.fives;have hb6:=WW.out.box.lt;have HD1:=gI (Z7 ⟨R.pre,R.wd,R.rm,[],0,nn⟩ none 0 0);clear d3 d4 d5 d6 d7 d8
  go_wp2_with (refine yD rfl 38 _ _ rfl G 3 (pbC D P1 K1 R A4 n4 c4 A2 n2 c2 A2 n2 c2) (srA ⟨R.pre,R.wd,R.rm,[],0,nn⟩ none 0 0) rfl rfl BX6.out (by show 3+5<=10;omega) yT HD1.out ?_
               intro w7 hb7 ho7;refine Classical.byContradiction fun hcontra=>?_)
  have BX7:=gI (show Blk w7 G (pbC D P1 K1 ⟨R.pre,R.wd,R.rm,[],0,nn⟩ none 0 0 A2 n2 c2 A2 n2 c2) from hb7);have HO7:=gI ho7;clear hb7 ho7 r0 r1 r2 r3 r4
  apply hcontra
  clear hcontra
  go_wp2
  go_ret2
  have hF3:∀k,yg P1 M1 K1 none ownD1 k->own2 k:=fun k hk=>HS3.out.foot hk
  exact ze5 HBR.out.2.2 (HBW3.out.trans (WW.out.past.mono (by have:=HBW3.out.size;have:=HBR.out.2.2;omega))) (HS3.out.past WW.out.past) (HP3.out.past WW.out.past hF3) BX7.out HO7.out WW.out.held WW.out.files WW.out.files HBES.out rfl rfl
   ⟨by have:=HBR.out.2.1.hv;show Y.hv.length<=_;omega,by have:=HBR.out.2.1.hv;show Y.hv.length<=_;omega,by have:=HBR.out.2.1.hv;show 0+Y.hv.length<=_;omega,HBR.out.2.1.bh,HBR.out.2.1.bh,Nat.zero_le _⟩
end
section
open Go.RowKit Me Mf Rw Ds Rn Tx Fr Mw Hp Va Go.Maps
variable {w w':World} {B G D:Nat}
theorem zjO {j:Nat} (h:PsI w B G D j) (hj:j<=60) (A1:Option Addr) (n1 c1 u:Nat) (A2':Option Addr) (n2' c2':Nat) :
 Calls Tryz.prog 11 #[.pointer (some ⟨G,0,none⟩),.agg (acA 4 A1 n1 c1 u A2' n2' c2')] w (DoP w B G D j):=by
 obtain ⟨K,P,M,N,hb,X,f,R,Y,own,ownD,h1,h2,h3,h4,h5⟩:=h;obtain ⟨w0,hw0⟩:∃w0,w0=w.alloc (.cells (acA 4 A1 n1 c1 u A2' n2' c2') 27):=⟨_,rfl⟩
 have hb0:Below w.heap.size w w0:=by rw[hw0];exact (Below.refl _ _).alloc (Nat.le_refl _) _
 have BA:=gI (show Blk w0 w.heap.size (acB 4 A1 n1 c1 u A2' n2' c2') by rw[hw0];exact Blk.new w (acB 4 A1 n1 c1 u A2' n2' c2') _);have hnx:R.next<=60:=by have:=h3.few;have:=h4.now;omega
 have hS0:=h1.past hb0;have hP0:=h2.past hb0 (fun k hk=>h1.foot hk);obtain ⟨Y1,e2,e3,e4,e1⟩:=h3.clear (by omega);have hz:({R with held:=[],first:=0,next:=0}:SrD)=(mclear R Y.now).1:=by
  show _=({R with held:=[],next:=0}:SrD)
  rw[<-h3.zero]
 have HFL:=gI (zaq hS0 h3.zero (h3.rem (by omega)) (by have:=h4.n;unfold maxLen;omega));rw[hz] at HFL;obtain ⟨⟨R1,l1⟩,hQ⟩:∃q,mclear R Y.now=q:=⟨_,rfl⟩
 have e5:=h4.clear (Y1:=Y1) e3 e4 e1;rw[hQ] at e2 e3 e5 HFL
 dsimp only at e2 e3 e5 HFL
 clear hz;obtain ⟨A4,n4,c4,A3,n3,c3,A2,n2,c2,g1,g2,g3,g4⟩:=hP0.box;obtain ⟨c0,c1',c2'',c3',c4',c5',c6',c7',c8',c9'⟩:w0.cell? ⟨G,0,none⟩=_/\w0.cell? ⟨G,1,none⟩=_/\w0.cell? ⟨G,2,none⟩=_/\w0.cell? ⟨G,3,none⟩=_/\w0.cell? ⟨G,4,none⟩=_/\w0.cell? ⟨G,5,none⟩=_/\w0.cell? ⟨G,6,none⟩=_/\w0.cell? ⟨G,7,none⟩=_/\w0.cell? ⟨G,8,none⟩=_/\w0.cell? ⟨G,9,none⟩=_:=
  ⟨g1.cell rfl,g1.cell rfl,g1.cell rfl,g1.cell rfl,g1.cell rfl,g1.cell rfl,g1.cell rfl,g1.cell rfl,g1.cell rfl,g1.cell rfl⟩
 obtain ⟨r0,r1,r2,r3⟩:=BA.out.four;have HW0:=gI hw0;have HS0:=gI hS0;have HP0:=gI hP0;have HB0:=gI hb0;have HBR:=gI (And.intro h3 (And.intro h4 h5));have HE:=gI (And.intro e2 (And.intro e3 (And.intro e4 e5)));have HQQ:=gI hQ;clear h1 h2 h3 h4 hw0 hb0 hS0 hP0 e1 e2 e3 e4 e5 hQ c3' c4' c5' c6' c7' c8' c9' g1 g2 g3 g4
 go_enter Tryz.func11,Tryz.ntmps11
 go_upto_region 1 with fail
 rw[<-HW0.out]
 go_upto_region 30 with (go_at_call 23;refine HFL.out.mono ?_;rintro e w1 ⟨rfl,ho1,hs1⟩)
 obtain ⟨N1,hN1⟩:∃N1,N1<=N+R.next/\N+R.next=N1:=⟨_,Nat.le_refl _,rfl⟩
 obtain ⟨hN1,hN1e⟩:=hN1;rw[hN1e] at hs1;obtain ⟨own1,hown1⟩:∃o,o=own:=⟨_,rfl⟩
 rw[<-hown1] at hs1;obtain ⟨hb1,hhb1⟩:∃b:Option Nat,b=none:=⟨_,rfl⟩
 rw[<-hhb1] at hs1;have hP1:PbAt w1 G D P K R Y.now Y.hv own1 (yg P M K hb1 ownD):=by
  rw[hown1,hhb1];exact HP0.out.next ho1 (fun k hk=>HS0.out.foot hk) (fun _=>id) (fun _=>.inl) (fun k hk=>by
   rcases hk with q|q|q
   ·exact .inl (.inl q)
   ·exact .inl (.inr (.inl q))
   ·cases q)
 obtain ⟨A4,n4,c4,A3,n3,c3,A2,n2,c2,g1,g2,g3,g4⟩:=hP1.box;have hs1':=gI hs1;have hown:∀k,own1 k->k<w1.heap.size:=fun k hk=>(hs1.st.lt hk).2
 have hn3:n3<=100000:=by have:=g3.len;have:=HBR.out.2.1.now;omega
 have BX:=gI (show Blk w1.drew G (pbC D P K R A4 n4 c4 A3 n3 c3 A2 n2 c2) from g1);have HOW:=gI hown;have HP1:=gI hP1;have H4:=gI g2;have H3:=gI g3;have H2:=gI g4;have MFA:=gI (XV (R:=R) (l:=Y.now) (A4:=A4) (n4:=n4) (c4:=c4) (w:=w1.drew) (by have:=HBR.out.1.ok.pre;omega) (T:=own1) hown (g3.past ((Below.refl _ _).drew)) hn3 (by omega));have hnewT:∀j,(own1 j\/j=w1.heap.size)->own1 j\/w1.heap.size<=j:=fun j hj=>hj.imp id (fun e=>by omega)
 have hbal:Below w1.heap.size w1 (w1.alloc (.cells zrA 38)).drew:=((Below.refl _ w1).alloc (Nat.le_refl _) _).drew;have BXA:=gI (show Blk (w1.alloc (.cells zrA 38)).drew G (pbC D P K R A4 n4 c4 A3 n3 c3 A2 n2 c2) from g1.alloc _);have hTB:∀k,(own1 k\/k=w1.heap.size)->k<(w1.alloc (.cells zrA 38)).drew.heap.size:=fun k hk=>by
  show k<(w1.alloc _).heap.size
  rw[World.size_alloc];rcases hk with q|q
  ·have:=hown k q;omega
  ·omega
 have MFB:=gI (XV (R:=R) (l:=Y.now) (A4:=A4) (n4:=n4) (c4:=c4) (w:=(w1.alloc (.cells zrA 38)).drew) (by have:=HBR.out.1.ok.pre;omega) (T:=fun j=>own1 j\/j=w1.heap.size) hTB (g3.next (.of_below hbal) hnewT) hn3 (by omega));have hGlt:G<w1.heap.size:=hP1.lt;rw[HQQ.out] at MFA MFB;have HBAL:=gI hbal;have HBW:=gI (show Below B w w1 from (HB0.out.mono HBR.out.2.2).trans (HS0.out.lows (by have:=HB0.out.size;have:=HBR.out.2.2;omega) ho1 (fun k hk=>HS0.out.foot hk)));have HND:=gI (HE.out.2.2.2.fewer hN1);clear ho1 hs1 hP1 g1 g2 g3 g4 hown hnewT hbal hTB hN1e hown1 hhb1;obtain ⟨d3,d4,d5,d6,d7,d8⟩:=yG BX.out
 go_region_held3 (fun w'=>w'.cell? ⟨G,3,none⟩=some (sv R.pre)/\w'.cell? ⟨G,4,none⟩=some (.int .i64 (R.wd:Int))/\w'.cell? ⟨G,5,none⟩=some (.int .i64 (R.rm:Int))/\w'.cell? ⟨G,6,none⟩=some (.slice A4 n4 c4)/\w'.cell? ⟨G,7,none⟩=some (.int .i64 (R.next:Int))/\w'.cell? ⟨G,8,none⟩=some (.slice A3 n3 c3))
  (first
   |with_reducible exact yG BX.out
   |with_reducible exact yG BXA.out
   |with_reducible exact yG BX5.out
   |with_reducible exact yG (BX5.out.alloc _)
   |with_reducible exact yG (BX5.out.set5o (by have hG9:=hGlt;have hG5:=BX5.out.lt;omega) _ _ _ _ _)
   |with_reducible exact yG ((BX5.out.alloc _).set5o (by have hG9:=hGlt;have hG5:=BX5.out.lt;omega) _ _ _ _ _))
  (first
   |(go_at_call 37
     refine MFA.out.mono ?_;rintro e w5 ⟨hb5,A4',n4',c4',A3',n3',c3',rfl,hs5,hf5⟩;have BX5:=gI (BX.out.past hb5))
   |(go_at_call 37
     refine MFB.out.mono ?_;rintro e w5 ⟨hb5,A4',n4',c4',A3',n3',c3',rfl,hs5,hf5⟩;have BX5:=gI (BXA.out.past hb5);have BZ5:=((Blk.new w1 zrB 38).drew).past hb5;obtain ⟨y0,y1,y2,y3,y4⟩:=BZ5.fives;obtain ⟨x0,x1,x2,x3,x4⟩:=BZ5.five_free))
 all_goals
  first
  |(obtain ⟨bx,hbx⟩:∃bx,bx=w5.heap.size:=⟨_,rfl⟩
    obtain ⟨w6,hw6⟩:∃w6,w6=w5.alloc (.cells (srA R1 A4' n4' c4') 38):=⟨_,rfl⟩
    have WW:=gI (show WayP w1 w6 bx own1 R1 l1 A4' n4' c4' A3' n3' c3' by rw[hw6,hbx];exact zgU (((Below.refl _ w1).drew).trans hb5) hs5 hf5);rw[<-hw6,<-hbx])
  |(obtain ⟨bx,hbx⟩:∃bx,bx=w1.heap.size:=⟨_,rfl⟩
    obtain ⟨w6,hw6⟩:∃w6,w6=(((((w5.setCell ⟨w1.heap.size,0,none⟩ (sv R1.pre)).setCell ⟨w1.heap.size,1,none⟩ (.int .i64 (R1.wd:Int))).setCell ⟨w1.heap.size,2,none⟩ (.int .i64 (R1.rm:Int))).setCell ⟨w1.heap.size,3,none⟩ (.slice A4' n4' c4')).setCell ⟨w1.heap.size,4,none⟩ (.int .i64 (R1.next:Int))):=⟨_,rfl⟩
    have WW:=gI (show WayP w1 w6 bx own1 R1 l1 A4' n4' c4' A3' n3' c3' by rw[hw6,hbx];exact zgV (Nat.le_refl _) (HBAL.out.trans (hb5.mono HBAL.out.size)) BZ5 hs5 hf5);rw[<-hw6,<-hbx])
  clear hw6 hbx;have BX6:=gI ((show Blk w1 G (pbC D P K R A4 n4 c4 A3 n3 c3 A2 n2 c2) from BX.out).past WW.out.past);obtain ⟨r0,r1,r2,r3,r4⟩:=WW.out.box.fives;have hb6:=WW.out.box.lt;have c8:=BX6.out.cell (i:=8) rfl;have HD1:=gI (Z7 R1 A4' n4' c4');clear d3 d4 d5 d6 d7 d8
  go_wp2_with (refine yD rfl 38 _ _ rfl G 3 (pbC D P K R A4 n4 c4 A3 n3 c3 A2 n2 c2) (srA R1 A4' n4' c4') rfl rfl BX6.out (by show 3+5<=10;omega) yT HD1.out ?_
               intro w7 hb7 ho7;refine Classical.byContradiction fun hcontra=>?_)
  have BX7:=gI (show Blk w7 G (pbC D P K R1 A4' n4' c4' A3 n3 c3 A2 n2 c2) from hb7);have HO7:=gI ho7;have k8:=BX7.out.cell (i:=8) rfl;have f8:=BX7.out.frozen 8;clear hb7 ho7 r0 r1 r2 r3 r4 c8
  apply hcontra
  clear hcontra
  go_wp2
  go_ret2
  exact ze6 HBR.out.2.2 HBW.out hs1'.out HP1.out WW.out BX7.out HO7.out H2.out HE.out.1 HE.out.2.1 HE.out.2.2.1 HND.out
end
section
open Go.RowKit Me Mf Rw Ds Rn Tx Fr Mw Hp Va Go.Maps
variable {w w':World} {B G D K P M N:Nat} {hb:Option Nat} {X:Sto} {R:SrD} {Y:Ply} {own ownD F:Nat->Prop} {f:List UInt8->List UInt8}
theorem Bes.write (h:Bes X f R Y) {x b:List UInt8} (hx:1<=x.length/\x.length<=32) (hb:b.length<=1048576):∃Y1,Bes {X with C:=setC X.C x (some b)} f R Y1/\Y1.now=zS x b Y.now false/\Y1.hv=Y.hv:=by
 have hok:=h.rest.ok.put hx hb;refine ⟨_,⟨h.rest.change hok,h.ply.put x b,h.ok,h.zero,fun i hi=>?_⟩,rfl,rfl⟩;rw[X0]
 split
 ·rfl
 ·exact h.run i hi
theorem Bnd.write {j N:Nat} {Y1:Ply} {x b:List UInt8} (h:Bnd j N R Y) (e3:Y1.now=zS x b Y.now false) (e4:Y1.hv=Y.hv) (hb:b.length<=10000):Bnd (j+1) (N+1) R Y1:=by
 have hl:(zS x b Y.now false).length<=Y.now.length+1:=qD Y.now false;have h1:=h.now;have h2:=h.n;have h3:=h.hv;have h4:=h.held;refine ⟨by rw[e3];omega,by rw[e4];omega,by rw[e3];omega,fun y hy=>?_,by rw[e4];exact h.bh,by omega⟩;rw[e3] at hy;rcases (yE _ _).1 hy with ⟨-,e⟩|⟨q,-⟩
 ·rw[e];exact hb
 ·exact h.bn y q
def FkAt (own:Nat->Prop) (l:List FB) (z:Value) (W:World):Prop:=∃(A:Option Addr) (n c:Nat),z=.slice A n c/\FbK own A n c l W
theorem zkY {P:Program} {w w':World} {o:Oper} {rest:List Oper} {a:Act} {Q:Exit->Act->World->Prop} (v:Value) (h:(execOp a.eval o).run P w=.ok (.value v) w') (k:Tl (Gw.zX P Q rest (a.put o.dst v) w')):Tl (Gw.zX P Q (o::rest) a w):=
 ⟨by unfold Gw.zX Oper.wp;rw[h];exact k.out⟩
theorem zlh {P:Program} {w w':World} {o:Oper} {rest:List Oper} {a:Act} {Q:Exit->Act->World->Prop} (h:(execOp a.eval o).run P w=.ok .skip w') (k:Tl (Gw.zX P Q rest (a.put o.dst undef) w')):Tl (Gw.zX P Q (o::rest) a w):=
 ⟨by unfold Gw.zX Oper.wp;rw[h];exact k.out⟩
def pf5G (G H n1 c1 n3 c3 n4 c4 u v:Nat) (A1 A3 A4:Option Addr) (R:SrD) (x b:List UInt8) (own:Nat->Prop) (l1:List FB):Gw.Fact:=fun t z W=>
 match t with
 |0|269|270|271|274|275=>z=.pointer (some ⟨G,0,none⟩)
 |272=>z=.pointer (some ⟨G,8,none⟩)
 |273=>z=.slice A3 n3 c3
 |276=>z=.pointer (some ⟨G,3,none⟩)
 |277=>z=srV R A4 n4 c4
 |3=>z=.pointer (some ⟨H,0,none⟩)
 |278=>z=.pointer (some ⟨H,2,none⟩)
 |279=>z=.int .u8 (u:Int)
 |280=>z=.int .u8 (v:Int)
 |281=>z=.int .i64 (v:Int)
 |282=>z=sv x
 |283=>z=.pointer (some ⟨H,1,none⟩)
 |284=>z=.slice A1 n1 c1
 |285=>z=sv b
 |286=>FkAt own l1 z W
 |_=>True
theorem zjM {j:Nat} (h:PsI w B G D j) (hj:j<=60) (A1:Option Addr) (n1 c1 u:Nat) (A2':Option Addr) (n2' c2':Nat) (bb:List UInt8) (hbl:bb.length=n1) (hn1:n1<=300) (hrb:Rd w B A1 bb) (hu:u<256) :
 Calls Tryz.prog 11 #[.pointer (some ⟨G,0,none⟩),.agg (acA 5 A1 n1 c1 u A2' n2' c2')] w (DoP w B G D j):=by
 obtain ⟨K,P,M,N,hb,X,f,R,Y,own,ownD,h1,h2,h3,h4,h5⟩:=h;obtain ⟨H,hH⟩:∃H,H=w.heap.size:=⟨_,rfl⟩
 obtain ⟨w0,hw0⟩:∃w0,w0=w.alloc (.cells (acA 5 A1 n1 c1 u A2' n2' c2') 27):=⟨_,rfl⟩
 have hb0:Below w.heap.size w w0:=by rw[hw0];exact (Below.refl _ _).alloc (Nat.le_refl _) _
 have BA:=gI (show Blk w0 H (acB 5 A1 n1 c1 u A2' n2' c2') by rw[hw0,hH];exact Blk.new w (acB 5 A1 n1 c1 u A2' n2' c2') _);have hnx:R.next<=60:=by have:=h3.few;have:=h4.now;omega
 have hS0:=h1.past hb0;have hP0:=h2.past hb0 (fun k hk=>h1.foot hk);obtain ⟨v,hv⟩:∃v,v=u%4:=⟨_,rfl⟩
 have hv4:v<4:=by omega
 have ev:(u:Int)%4=(v:Int):=by omega
 have ew:Int.tmod (u:Int) 4=(v:Int):=by rw[Int.tmod_eq_emod_of_nonneg (by omega)];exact ev
 have ex:IntKind.i64.wrap (v:Int)=(v:Int):=IntWalk.i64_in _ (by omega);have ey:IntKind.u8.wrap (v:Int)=(v:Int):=by rw[IntKind.wrap_u8];omega
 obtain ⟨x,hx⟩:∃x,x=zq R v:=⟨_,rfl⟩
 have hxl:1<=x.length/\x.length<=32:=by
  have:=qm h3.ok (n:=v) (by omega);rw[hx];exact ⟨this.1,Nat.le_trans this.2 (by omega)⟩
 obtain ⟨Y1,e1,e2,e3⟩:=h3.write (x:=x) (b:=bb) hxl (by omega);have e4:=h4.write e2 e3 (by omega);have hal:xg (upD X) x (n1:Int)=0:=by
  rw[h3.rest.up];unfold xg;rw[if_pos rfl,if_neg (by omega),if_neg (by omega)]
 have hN:N<maxLen:=by have:=h4.n;unfold maxLen;omega
 obtain ⟨A4,n4,c4,A3,n3,c3,A2,n2,c2,g1,g2,g3,g4⟩:=hP0.box;have BX:=gI (show Blk w0.drew G (pbC D P K R A4 n4 c4 A3 n3 c3 A2 n2 c2) from g1);have BAD:=gI (show Blk w0.drew H (acB 5 A1 n1 c1 u A2' n2' c2') from BA.out);have hpl:R.pre.length<=1000:=by have:=h3.ok.pre;omega
 have NM:=gI (vI R A4 n4 c4 v hpl (by omega) w0.drew);rw[<-hx] at NM;have hr0:Rd w0 w0.heap.size A1 bb:=(hrb.below (hb0.mono h5)).more (by have:=hb0.size;omega);have SW:=gI (show ∀W,Below w0.drew.heap.size w0.drew W->Calls Tryz.prog 38 #[.pointer (some ⟨P,0,none⟩),sv x,.slice A1 n1 c1] W (zdx W B P D M N X own ownD 0 (setC X.C x (some bb))) from fun W hW=>by
  have hb2:Below w0.heap.size w0 W:=((Below.refl _ w0).drew).trans hW;have:=zah (hS0.st.past hb2) x A1 n1 c1 bb hbl (by omega) ((hr0.below hb2).more hb2.size) hN;rw[hal] at this;exact this)
 obtain ⟨r0,r1,r2,r3⟩:=BA.out.four;have HW0:=gI hw0;have HHE:=gI hH;have HS0:=gI hS0;have HP0:=gI hP0;have HB0:=gI hb0;have HBR:=gI (And.intro h3 (And.intro h4 h5));have HE:=gI (And.intro e1 (And.intro e2 (And.intro e3 e4)));have HRB:=gI (And.intro hrb hbl);have HX:=gI hx;have HOH:=gI (show ∀k,own k->k<H from fun k hk=>by have:=(h1.st.lt hk).2;omega);have hGH:G≠H:=by have:=hP0.lt;have h9:=(h1.st.lt h2.g.1).2;omega
 clear h1 h2 h3 h4 hw0 hH hb0 hS0 hP0 e1 e2 e3 e4 hxl hal hN g1 g2 g3 g4 hr0 hrb hbl hx hv
 go_enter Tryz.func11,Tryz.ntmps11
 go_upto_region 1 with fail
 rw[<-HW0.out,<-HHE.out]
 go_upto_region 34 with fail
 have d1:w0.drew.cell? ⟨G,1,none⟩=some (.pointer (some ⟨P,0,none⟩)):=BX.out.cell rfl;obtain ⟨d3,d4,d5,d6,d7,d8⟩:=yG BX.out;obtain ⟨s0,s1,s2,s3⟩:=BAD.out.four
 go_region_held3 (fun w'=>w'.cell? ⟨G,1,none⟩=some (.pointer (some ⟨P,0,none⟩))/\w'.cell? ⟨G,3,none⟩=some (sv R.pre)/\w'.cell? ⟨G,4,none⟩=some (.int .i64 (R.wd:Int))/\w'.cell? ⟨G,5,none⟩=some (.int .i64 (R.rm:Int))/\w'.cell? ⟨G,6,none⟩=some (.slice A4 n4 c4)/\w'.cell? ⟨G,7,none⟩=some (.int .i64 (R.next:Int))/\w'.cell? ⟨H,1,none⟩=some (.slice A1 n1 c1)/\w'.cell? ⟨H,2,none⟩=some (.int .u8 (u:Int)))
  (first
   |with_reducible exact ⟨BX.out.cell (i:=1) rfl,BX.out.cell (i:=3) rfl,BX.out.cell (i:=4) rfl,BX.out.cell (i:=5) rfl,BX.out.cell (i:=6) rfl,BX.out.cell (i:=7) rfl,BAD.out.cell (i:=1) rfl,BAD.out.cell (i:=2) rfl⟩
   |with_reducible exact ⟨BX1.out.cell (i:=1) rfl,BX1.out.cell (i:=3) rfl,BX1.out.cell (i:=4) rfl,BX1.out.cell (i:=5) rfl,BX1.out.cell (i:=6) rfl,BX1.out.cell (i:=7) rfl,BA1.out.cell (i:=1) rfl,BA1.out.cell (i:=2) rfl⟩
   |with_reducible exact ⟨BX2.out.cell (i:=1) rfl,BX2.out.cell (i:=3) rfl,BX2.out.cell (i:=4) rfl,BX2.out.cell (i:=5) rfl,BX2.out.cell (i:=6) rfl,BX2.out.cell (i:=7) rfl,BA2.out.cell (i:=1) rfl,BA2.out.cell (i:=2) rfl⟩)
  (first
   |(go_at_call 33
     refine NM.out.mono ?_;rintro e w1 ⟨rfl,hb1⟩;have HB1:=gI hb1;have BX1:=gI (BX.out.past hb1);have BA1:=gI (BAD.out.past hb1))
   |(go_at_call 38
     refine (SW.out w1 HB1.out).mono ?_;rintro e w2 ⟨rfl,hq⟩;have hq2:zkN w1 B P D M (N+1) {X with C:=setC X.C x (some bb)} own ownD w2:=by
      rcases hq with ⟨q,-⟩|⟨-,q⟩
      ·exact absurd rfl q
      ·exact q
     have BX2:=gI (BX1.out.out hq2.2 (fun q=>HP0.out.g.2 (.inl q)));have BA2:=gI (BA1.out.out hq2.2 (fun q=>by
      have:=HOH.out _ (HS0.out.st.own _ q)
      omega))))
 have ho1:Out (yg P M K hb ownD) w0 w2:=((Out.of_below (((Below.refl _ w0).drew).trans HB1.out)).trans (hq2.2.more fun k _ q=>.inl q))
 have hs1:zI w2 B K P D M (N+1) hb {X with C:=setC X.C x (some bb)} R own ownD:=(HS0.out.past (((Below.refl _ w0).drew).trans HB1.out)).stored hq2;have hP1:PbAt w2 G D P K R Y.now Y.hv own (yg P M K hb ownD):=HP0.out.next ho1 (fun k hk=>HS0.out.foot hk) (fun _=>id) (fun _=>.inl) (fun _=>.inl);have HBW:=gI (show Below B w w2 from (HB0.out.mono HBR.out.2.2).trans (HS0.out.lows (by have:=HB0.out.size;have:=HBR.out.2.2;omega) ho1 (fun k hk=>HS0.out.foot hk)));obtain ⟨A4,n4,c4,A3,n3,c3,A2,n2,c2,g1,g2,g3,g4⟩:=hP1.box;have hown:∀k,own k->k<w2.heap.size:=fun k hk=>(hs1.st.lt hk).2
 have hn3:n3<=100000:=by have:=g3.len;have:=HBR.out.2.1.now;omega
 have BX:=gI g1;have HG:=gI (And.intro g2 (And.intro g3 g4));have HS1:=gI hs1;have HP1:=gI hP1;have HOW:=gI hown;have HRB2:=gI (show Rd w2 w2.heap.size A1 bb from (HRB.out.1.below HBW.out).more (by have:=HBW.out.size;have:=HBR.out.2.2;omega));obtain ⟨l1,hl1⟩:∃l1,l1=zS x bb Y.now false:=⟨_,rfl⟩
 have HL1:=gI hl1;clear ho1 hs1 hP1 g1 g2 g3 g4 hown hq hq2 hb1 d1 d3 d4 d5 d6 d7 d8 s0 s1 s2 s3 r0 r1 r2 r3 hl1
 go_upto_region 35 with fail
 refine Y7 18 (pf5G G H n1 c1 n3 c3 n4 c4 u v A1 A3 A4 R x bb own l1) [269,270,271,272,273,274,275,276,277,278,279,280,281,282,283,284,285,286] [([0],none),([0],none),([270],none),([271],none),([272],none),([0],none),([274],none),([275],none),([276],none),([3],none),([278],none),([279],none),([280],none),([277,281],none),([3],none),([283],none),([284],none),([273,282,285],none)] 391 (by kernel_rfl) (by kernel_rfl) rfl ?h0 ?hreq rfl ?hend
 case h0=>
  intro t W hnd _;unfold pf5G
  split<;>first|rfl|trivial|exact absurd (by simp) hnd
 case hreq=>
  refine ⟨?_,?_,?_,?_,?_,?_,?_,?_,?_,?_,?_,?_,?_,?_,?_,?_,?_,?_,trivial⟩
  all_goals
   intro ac W hg hk';have hg':Below w2.heap.size w2 W:=hg;obtain ⟨z3,z4,z5,z6,z7,z8⟩:=yG (BX.out.past hg');obtain ⟨t0,t1,t2,t3⟩:=(BA2.out.past hg').four;have es:=xD A1 n1 c1 bb W _ HRB.out.2 ((HRB2.out.below hg').more hg'.size);simp only[Gw.Knows,pf5G] at hk'
   try (simp[go_sem,Gw.zw,Gw.Ok,Gw.Post,Gw.Holds,pf5G,Gw.zk.refl,hk',z3,z4,z5,z6,z7,z8,t0,t1,t2,t3,es,ev,ew,ex,ey];done)
  ·simp[go_sem,Gw.zw,Gw.Ok,Gw.Post,Gw.Holds,pf5G,Gw.zk.refl,hk'];refine (vI R A4 n4 c4 v hpl (by omega) W).mono ?_;rintro e W' ⟨rfl,hb4⟩;exact ⟨_,rfl,hb4,fun _ _=>by rw[HX.out]⟩
  ·simp[go_sem,Gw.zw,Gw.Ok,Gw.Post,Gw.Holds,pf5G,Gw.zk.refl,hk'];refine (zbd A3 n3 c3 Y.now x bb W HG.out.2.1.len hn3 (HG.out.2.1.past hg').at_.now).mono ?_;rintro e W' ⟨A,n,c,rfl,hl2,ho2,hb4⟩;rw[<-HL1.out] at hl2 ho2;exact ⟨_,rfl,hb4,fun W2 hW2=>⟨A,n,c,rfl,(FbK.of ho2 hl2 (fun k hk=>by have:=HOW.out k hk;have:=hg'.size;omega)).past hW2⟩⟩
 case hend=>
  intro y w5 hg hy;have hg':Below w2.heap.size w2 w5:=hg;obtain ⟨A5,n5,c5,y286,hf5⟩:FkAt own l1 (y 286) w5:=(hy 286 (by simp)).now;have y269:y 269=.pointer (some ⟨G,0,none⟩):=(hy 269 (by simp)).now;simp only[Gw.zm,Act.put,List.setIfInBounds_toArray,List.set_cons_zero,List.set_cons_succ];rw[y286,y269];have BX5:=gI (BX.out.past hg');have k8:=BX5.out.cell (i:=8) rfl;have f8:=BX5.out.frozen 8;refine zkY (w':=w5) (.pointer (some ⟨G,0,none⟩)) (by simp[execOp,go_sem]) ?_;refine zkY (w':=w5) (.pointer (some ⟨G,8,none⟩)) (by simp[execOp,go_sem]) ?_;refine zlh (w':=w5.setCell ⟨G,8,none⟩ (.slice A5 n5 c5)) (by simp[execOp,go_sem,k8,f8]) ?_;refine zeD ?_;have HG5:=gI (show Blk (w5.setCell ⟨G,8,none⟩ (.slice A5 n5 c5)) G (pbC D P K R A4 n4 c4 A5 n5 c5 A2 n2 c2) from BX5.out.set 8 _);have HF5:=gI (And.intro hf5 hg');clear hy hg k8 f8 y286 y269 hf5 hg'
  go_wp2
  go_ret2
  have hF:∀k,yg P M K hb ownD k->own k:=fun k hk=>HS1.out.foot hk
  have hb:=HF5.out.2;exact ze5 HBR.out.2.2 (HBW.out.trans (hb.mono (by have:=HBW.out.size;have:=HBR.out.2.2;omega))) (HS1.out.past hb) (HP1.out.past hb hF) HG5.out ((Out.refl (fun k=>k=G) w5).setCell (p:=⟨G,8,none⟩) (.inl rfl) _) (HG.out.1.past hb) HF5.out.1 (HG.out.2.2.past hb) HE.out.1 (by rw[HE.out.2.1,HL1.out]) HE.out.2.2.1 HE.out.2.2.2
end
section
open Go.RowKit Me Mf Rw Ds Rn Tx Fr Mw Hp Va Go.Maps
variable {w w':World} {B G D:Nat}
theorem zhE {j:Nat} (h:PsI w B G D j) (A1:Option Addr) (n1 c1 u:Nat) (A2':Option Addr) (n2' c2':Nat) :
 Calls Tryz.prog 11 #[.pointer (some ⟨G,0,none⟩),.agg (acA 6 A1 n1 c1 u A2' n2' c2')] w (DoP w B G D j):=by
 obtain ⟨K,P,M,N,hb,X,f,R,Y,own,ownD,h1,h2,h3,h4,h5⟩:=h;obtain ⟨w0,hw0⟩:∃w0,w0=w.alloc (.cells (acA 6 A1 n1 c1 u A2' n2' c2') 27):=⟨_,rfl⟩
 have hb0:Below w.heap.size w w0:=by rw[hw0];exact (Below.refl _ _).alloc (Nat.le_refl _) _
 have BA:=gI (show Blk w0 w.heap.size (acB 6 A1 n1 c1 u A2' n2' c2') by rw[hw0];exact Blk.new w (acB 6 A1 n1 c1 u A2' n2' c2') _);have hS0:=h1.past hb0;have hP0:=h2.past hb0 (fun k hk=>h1.foot hk);have HFL:=gI (YQ hS0.bx);obtain ⟨A4,n4,c4,A3,n3,c3,A2,n2,c2,g1,g2,g3,g4⟩:=hP0.box;obtain ⟨c2'',c6'⟩:w0.cell? ⟨G,2,none⟩=_/\w0.cell? ⟨G,6,none⟩=_:=⟨g1.cell rfl,g1.cell rfl⟩
 obtain ⟨r0,r1,r2,r3⟩:=BA.out.four;have HW0:=gI hw0;have HS0:=gI hS0;have HP0:=gI hP0;have HB0:=gI hb0;have HBR:=gI (And.intro h3 (And.intro h4 h5));clear h1 h2 h3 h4 hw0 hb0 hS0 hP0 c6' g1 g2 g3 g4
 go_enter Tryz.func11,Tryz.ntmps11
 go_upto_region 1 with fail
 rw[<-HW0.out]
 go_upto_region 39 with (go_at_call 22;refine HFL.out.mono ?_;rintro e w1 ⟨rfl,hx1,ho1⟩)
 have hs1:=HS0.out.fewer (hb':=none) hx1 ho1;have hF1:Out (yg P M K hb ownD) w0 w1:=ho1.more fun k _ e=>.inr (.inl e)
 have hP1:PbAt w1 G D P K R Y.now Y.hv own (yg P M K none ownD):=HP0.out.next hF1 (fun k hk=>HS0.out.foot hk) (fun _=>id) (fun _=>.inl) (fun k hk=>by
  rcases hk with q|q|q
  ·exact .inl (.inl q)
  ·exact .inl (.inr (.inl q))
  ·cases q)
 obtain ⟨A4,n4,c4,A3,n3,c3,A2,n2,c2,g1,g2,g3,g4⟩:=hP1.box;have k6:=g1.cell (i:=6) rfl;have f6:=g1.frozen 6;have hGlt:=g1.lt;have HG:=gI (And.intro g1 (And.intro g3 g4));have HS1:=gI hs1;have HP1:=gI hP1;have HBW:=gI (show Below B w w1 from (HB0.out.mono HBR.out.2.2).trans (HS0.out.lows (by have:=HB0.out.size;have:=HBR.out.2.2;omega) hF1 (fun k hk=>HS0.out.foot hk)));clear hx1 ho1 hs1 hF1 hP1 g1 g2 g3 g4
 go_wp2
 go_ret2
 have h8:Blk ((w1.setCell ⟨G,6,none⟩ (.slice (some ⟨w1.heap.size,0,none⟩) 0 0)).alloc (.cells #[] 9)) G (pbC D P K {R with held:=[]} (some ⟨w1.heap.size,0,none⟩) 0 0 A3 n3 c3 A2 n2 c2):=(HG.out.1.set 6 _).alloc _;exact ze5 HBR.out.2.2 HBW.out HS1.out HP1.out h8 (((Out.refl (fun k=>k=G) w1).setCell (p:=⟨G,6,none⟩) (.inl rfl) _).alloc _) ⟨rfl,⟨Nat.le_refl _,by omega⟩,fun _ _=>Cs.empty⟩ HG.out.2.1 HG.out.2.2
  (HBR.out.1.held (l:=[]) (fun r hr=>by cases hr) (Nat.zero_le _)) rfl rfl ⟨by have:=HBR.out.2.1.now;omega,by have:=HBR.out.2.1.hv;omega,by have:=HBR.out.2.1.n;omega,HBR.out.2.1.bn,HBR.out.2.1.bh,Nat.zero_le _⟩
end
section
open Go.RowKit Me Mf Rw Ds Rn Tx Fr Mw Hp Va Go.Maps
variable {w w':World} {B G D:Nat}
theorem ZU.more {B B':Nat} {A:Option Addr} {es:List Pc} (h:ZU w B A es) (hB:B<=B'):ZU w B' A es:=
 ⟨h.row.more hB,fun p hp=>by
   obtain ⟨A,n,c,h1,h2,h3,h4,h5⟩:=h.all p hp;exact ⟨A,n,c,h1,h2,h3,h4,h5.more hB⟩⟩
theorem zf2 {j:Nat} (h:PsI w B G D j) (hj:j<=60) (A1:Option Addr) (n1 c1 u:Nat) (A2':Option Addr) (n2' c2':Nat) (es:List Pc) (hes:es.length=n2') (hn2:n2'<=100) (hre:ZU w B A2' es) :
 Calls Tryz.prog 11 #[.pointer (some ⟨G,0,none⟩),.agg (acA 7 A1 n1 c1 u A2' n2' c2')] w (DoP w B G D j):=by
 have HH:=gI h.later;obtain ⟨K,P,M,N,hb,X,f,R,Y,own,ownD,h1,h2,h3,h4,h5⟩:=h;obtain ⟨H,hH⟩:∃H,H=w.heap.size:=⟨_,rfl⟩
 obtain ⟨w0,hw0⟩:∃w0,w0=w.alloc (.cells (acA 7 A1 n1 c1 u A2' n2' c2') 27):=⟨_,rfl⟩
 have hb0:Below w.heap.size w w0:=by rw[hw0];exact (Below.refl _ _).alloc (Nat.le_refl _) _
 have BA:=gI (show Blk w0 H (acB 7 A1 n1 c1 u A2' n2' c2') by rw[hw0,hH];exact Blk.new w (acB 7 A1 n1 c1 u A2' n2' c2') _);have hnx:R.next<=60:=by have:=h3.few;have:=h4.now;omega
 have hdr:Below w0.heap.size w0 w0.drew:=(Below.refl _ _).drew;have hS0:=(h1.past hb0).past hdr;have hP0:=(h2.past hb0 (fun k hk=>h1.foot hk)).past hdr (fun k hk=>h1.foot hk);have hrd:ZU w0.drew w0.drew.heap.size A2' es:=((hre.below (hb0.mono h5)).more (show B<=w0.heap.size by have:=hb0.size;omega)).below hdr;obtain ⟨A4,n4,c4,A3,n3,c3,A2,n2,c2,g1,g2,g3,g4⟩:=hP0.box;obtain ⟨r0,r1,r2,r3⟩:=BA.out.four;have BX:=gI g1;have BAD:=gI (show Blk w0.drew H (acB 7 A1 n1 c1 u A2' n2' c2') from BA.out);have hGH:G<H:=by have:=(h1.st.lt h2.g.1).2;omega
 have HW0:=gI hw0;have HHE:=gI hH;have HB0:=gI (show Below w.heap.size w w0.drew from hb0.trans (hdr.mono hb0.size));have HB5:=gI h5;have HRD:=gI hrd;have d0:w0.drew.cell? ⟨G,2,none⟩=some (.pointer (some ⟨K,0,none⟩)):=BX.out.cell rfl;have d3:w0.drew.cell? ⟨H,3,none⟩=some (.slice A2' n2' c2'):=BAD.out.cell rfl;have HLE:=gI hes
 by_cases hf:fitR R.wd (es.map (·.2))=false
 ·have HRW:=gI (zcd hS0 hes (by omega) hrd hf (c:=c2'));have HMQ:=gI (show ∀W,Below B w W->Calls Tryz.prog 40 #[.slice A2' n2' c2',.int .i64 (R.wd:Int)] W fun e w'=>e=.returned (.bool false)/\Below W.heap.size W w' from fun W hW=>by
   have:=zaD A2' n2' c2' es R.wd W hes (by omega) ((hre.below hW).more (by have:=hW.size;omega));rw[hf] at this;exact this)
  clear h1 h2 h3 h4 h5 hw0 hH hb0 hS0 hP0 hrd hdr g1 g2 g3 g4 hf hes hre
  go_enter Tryz.func11,Tryz.ntmps11
  go_upto_region 1 with fail
  rw[<-HW0.out,<-HHE.out]
  go_upto_region 42 with fail
  go_region_held3 (fun w'=>w'.cell? ⟨G,2,none⟩=some (.pointer (some ⟨K,0,none⟩))/\w'.cell? ⟨H,3,none⟩=some (.slice A2' n2' c2'))
   (first
    |with_reducible exact ⟨BX.out.cell (i:=2) rfl,BAD.out.cell (i:=3) rfl⟩
    |with_reducible exact ⟨BX1.out.cell (i:=2) rfl,BA1.out.cell (i:=3) rfl⟩)
   (first
    |(go_at_call 24
      refine HRW.out.mono ?_;rintro e w1 ⟨rfl,hb1⟩;have BX1:=gI (BX.out.past hb1);have BA1:=gI (BAD.out.past hb1)))
  have HB1:=gI hb1;have BX2:=gI (show Blk w1.drew G (pbC D P K R A4 n4 c4 A3 n3 c3 A2 n2 c2) from BX1.out);have BA2:=gI (show Blk w1.drew H (acB 7 A1 n1 c1 u A2' n2' c2') from BA1.out);have e4:w1.drew.cell? ⟨G,4,none⟩=some (.int .i64 (R.wd:Int)):=BX2.out.cell rfl;have e3:w1.drew.cell? ⟨H,3,none⟩=some (.slice A2' n2' c2'):=BA2.out.cell rfl;clear hb1 d0 d3 r0 r1 r2 r3
  go_upto_region 43 with fail
  go_region_held3 (fun w'=>w'.cell? ⟨G,4,none⟩=some (.int .i64 (R.wd:Int))/\w'.cell? ⟨H,3,none⟩=some (.slice A2' n2' c2'))
   (first
    |with_reducible exact ⟨BX2.out.cell (i:=4) rfl,BA2.out.cell (i:=3) rfl⟩
    |with_reducible exact ⟨BX3.out.cell (i:=4) rfl,BA3.out.cell (i:=3) rfl⟩)
   (first
    |(go_at_call 40
      refine (HMQ.out w1.drew ((HB0.out.trans ((HB1.out.trans (((Below.refl _ w1).drew).mono HB1.out.size)).mono HB0.out.size)).mono HB5.out)).mono ?_;rintro e w2 ⟨rfl,hb2⟩;have BX3:=gI (BX2.out.past hb2);have BA3:=gI (BA2.out.past hb2)))
  have HB2:=gI (HB0.out.trans ((HB1.out.trans ((((Below.refl _ w1).drew).trans hb2).mono HB1.out.size)).mono HB0.out.size));clear hb2 e4 e3
  go_wp2
  go_ret2
  exact ⟨true,rfl,HB2.out.mono HB5.out,fun _=>HH.out.past HB2.out⟩
 ·have hf:fitR R.wd (es.map (·.2))=true:=by simpa using hf
  have hfl:(es.map (·.2)).flatten.length<=9000:=by
   rw[zT (yY.1 hf).1,List.length_map,hes];have:R.wd*n2'<=64*100:=Nat.mul_le_mul h3.ok.wd.2 hn2;omega
  obtain ⟨Y1,e2,e3,e4,e1,en⟩:=h3.rewrite (by omega) (m:=es.map (·.2)) (by omega);have e5:=h4.rewrite e3 e4 en hfl;have HRW:=gI (zce hS0 h3.zero (h3.rem (by omega)) h3.rest.up (by have:=h4.n;unfold maxLen;omega) hes (by omega) hrd hf (by omega) (c:=c2'));obtain ⟨m,hm⟩:∃m,m=es.map (·.2):=⟨_,rfl⟩
  have HM:=gI hm;rw[<-hm] at e1 e2 e3 e5 HRW hfl;obtain ⟨⟨X1,R1⟩,hX⟩:∃q,rewX X R m=q:=⟨_,rfl⟩
  obtain ⟨⟨R1x,l1⟩,hQ⟩:∃q,yP R Y.now m=q:=⟨_,rfl⟩
  rw[hX] at e1 e2 HRW;rw[hQ] at e1 e2 e3 e5
  dsimp only at e1 e2 e3 e5
  subst e1;have HMQ:=gI (show ∀W,Below B w W->Calls Tryz.prog 40 #[.slice A2' n2' c2',.int .i64 (R.wd:Int)] W fun e w'=>e=.returned (.bool true)/\Below W.heap.size W w' from fun W hW=>by
   have:=zaD A2' n2' c2' es R.wd W hes (by omega) ((hre.below hW).more (by have:=hW.size;omega));rw[hf] at this;exact this)
  have HOH:=gI (show ∀k,own k->k<H from fun k hk=>by have:=(h1.st.lt hk).2;omega);have HRE:=gI hre;have HS0:=gI hS0;have HP0:=gI hP0;have HBR:=gI (And.intro h3 (And.intro h4 h5));have HE:=gI (And.intro e2 (And.intro e3 (And.intro e4 e5)));have HQQ:=gI hQ;have HFL:=gI hfl;clear h1 h2 h3 h4 h5 hw0 hH hb0 hS0 hP0 hrd hdr g1 g2 g3 g4 hf hes hre e2 e3 e4 e5 en hX hQ hfl hm
  go_enter Tryz.func11,Tryz.ntmps11
  go_upto_region 1 with fail
  rw[<-HW0.out,<-HHE.out]
  go_upto_region 42 with fail
  go_region_held3 (fun w'=>w'.cell? ⟨G,2,none⟩=some (.pointer (some ⟨K,0,none⟩))/\w'.cell? ⟨H,3,none⟩=some (.slice A2' n2' c2'))
   (first
    |with_reducible exact ⟨BX.out.cell (i:=2) rfl,BAD.out.cell (i:=3) rfl⟩
    |with_reducible exact ⟨BX1.out.cell (i:=2) rfl,BA1.out.cell (i:=3) rfl⟩)
   (first
    |(go_at_call 24
      refine HRW.out.mono ?_;rintro e w1 ⟨rfl,ho1,N1,hN1,hs1⟩;have BX1:=gI (BX.out.out ho1 HP0.out.g.2);have BA1:=gI (BAD.out.out ho1 (fun q=>by
       have h9:=HOH.out _ (HS0.out.foot q)
       omega))))
  obtain ⟨hb1,hhb1⟩:∃b:Option Nat,b=none:=⟨_,rfl⟩
  rw[<-hhb1] at hs1;have hP1:PbAt w1 G D P K R Y.now Y.hv own (yg P M K hb1 ownD):=by
   rw[hhb1];exact HP0.out.next ho1 (fun k hk=>HS0.out.foot hk) (fun _=>id) (fun _=>.inl) (fun k hk=>by
    rcases hk with q|q|q
    ·exact .inl (.inl q)
    ·exact .inl (.inr (.inl q))
    ·cases q)
  have HS1:=gI hs1;have HP1:=gI hP1;have HB1:=gI (show Below B w0.drew w1 from HS0.out.lows (by have:=HB0.out.size;have:=HBR.out.2.2;omega) ho1 (fun k hk=>HS0.out.foot hk));have HND:=gI (HE.out.2.2.2.fewer hN1);have BX2:=gI (show Blk w1.drew G (pbC D P K R A4 n4 c4 A3 n3 c3 A2 n2 c2) from BX1.out);have BA2:=gI (show Blk w1.drew H (acB 7 A1 n1 c1 u A2' n2' c2') from BA1.out);have e4:w1.drew.cell? ⟨G,4,none⟩=some (.int .i64 (R.wd:Int)):=BX2.out.cell rfl;have e3:w1.drew.cell? ⟨H,3,none⟩=some (.slice A2' n2' c2'):=BA2.out.cell rfl;clear ho1 hs1 hP1 hhb1 d0 d3 r0 r1 r2 r3
  go_upto_region 43 with fail
  have HBW1:=gI (show Below B w w1 from (HB0.out.mono HBR.out.2.2).trans HB1.out)
  go_region_held3 (fun w'=>w'.cell? ⟨G,4,none⟩=some (.int .i64 (R.wd:Int))/\w'.cell? ⟨H,3,none⟩=some (.slice A2' n2' c2'))
   (first
    |with_reducible exact ⟨BX2.out.cell (i:=4) rfl,BA2.out.cell (i:=3) rfl⟩
    |with_reducible exact ⟨BX3.out.cell (i:=4) rfl,BA3.out.cell (i:=3) rfl⟩)
   (first
    |(go_at_call 40
      refine (HMQ.out w1.drew (HBW1.out.trans (((Below.refl _ w1).drew).mono (by have:=HBW1.out.size;have:=HBR.out.2.2;omega)))).mono ?_;rintro e w2 ⟨rfl,hb2⟩;have BX3:=gI (BX2.out.past hb2);have BA3:=gI (BA2.out.past hb2)))
  obtain ⟨Z,hZ⟩:∃Z,Z=w2.heap.size:=⟨_,rfl⟩
  have hb12:Below w1.heap.size w1 w2:=((Below.refl _ w1).drew).trans hb2;have HB12:=gI hb12;have HZ:=gI hZ;have HOZ:=gI (show ∀k,own k->k<Z from fun k hk=>by have:=(HS1.out.st.lt hk).2;have:=hb12.size;omega);have HR0:=gI (show (w2.alloc (.cells #[] 9)).ownsRow Z 9 1 (.slice (some ⟨w2.heap.size,0,none⟩) 0 0) 0 (((es.map (·.2)).take 0).map sv) by rw[hZ];exact World.ownsRow_lit w2 #[] 0 (Nat.le_refl _) (by unfold maxLen;omega) rfl);have HB3:=gI (show Below Z w2 (w2.alloc (.cells #[] 9)) by rw[hZ];exact (Below.refl _ _).alloc (Nat.le_refl _) _);clear hb2 hb12 hZ e4 e3
  go_wp2_with fail
  go_loopw [27,28] (fun v kv wr=>∃(k:Nat) (A7:Option Addr) (c7:Nat),v=.slice A7 k c7/\kv=.int .i64 (k:Int)/\k<=n2'/\Hid (wr.ownsRow Z 9 1 (.slice A7 k c7) k (((es.map (·.2)).take k).map sv))/\Hid (Below Z w2 wr)) (fun _ kv _=>n2'-(intOf kv).toNat)
  case atStart=>exact ⟨0,_,0,rfl,rfl,Nat.zero_le _,HR0,HB3⟩
  case round=>
   clear HR0 HB3;obtain ⟨k,A7,c7,rfl,rfl,hk,HI,HB⟩:=hrel;have hb1r:Below w1.heap.size w1 wr:=HB12.out.trans (HB.out.mono (by rw[HZ.out];exact HB12.out.size));have e3:wr.cell? ⟨H,3,none⟩=some (.slice A2' n2' c2'):=(BA1.out.past hb1r).cell rfl;have HB1R:=gI hb1r;clear hb1r
   by_cases hlt:k<n2'
   ·obtain ⟨p,hp⟩:∃p,es[k]?=some p:=⟨_,List.getElem?_eq_getElem (by rw[HLE.out];exact hlt)⟩
    obtain ⟨a,A9,n9,c9,rfl,hab,hcl,hn9,hc9,hc63,hrd9⟩:=HRE.out.at hp;have HBWR:=gI (show Below B w wr from HBW1.out.trans (HB1R.out.mono (by have:=HBW1.out.size;have:=HBR.out.2.2;omega)));have cx:wr.cell? (a.add k)=some (.slice A9 n9 c9):=(HBWR.out.cell (by rw[block_add];exact hab)).trans hcl;have HTK:=gI (show ((es.map (·.2)).take (k+1)).map sv=((es.map (·.2)).take k).map sv++[sv p.2] by rw[List.take_add_one,List.getElem?_map,hp];simp);obtain ⟨x,hx⟩:∃x,x=p.2:=⟨_,rfl⟩
    rw[<-hx] at HTK hn9 hrd9;have hlt2:(k:Int)<(n2':Int):=by omega
    have hcv:(convert 24 9 (.slice A9 n9 c9)).run Tryz.prog wr=.ok (sv x) wr:=xD A9 n9 c9 x wr B hn9 (hrd9.below HBWR.out);have HOW:=gI (HI.out.alloc (.cells #[sv x] 9));have HMX:=gI (show k+1<=maxLen by unfold maxLen;omega);have HLO:=gI (show Z<=wr.heap.size by have:=HB.out.size;have:=HZ.out;omega);obtain ⟨i0,hi0,hz0,hz1,hz2⟩:=info_parts Yt;clear hp hcl hn9 hrd9 hx hc9
    go_wp2_with (at_builtin
                 go_loud (refine xR rfl (.tmp 331) (.tmp 338) 36 rfl Z 9 i0 _ 1 16 Tryz.underlying36 hi0 hz0 hz1 hz2 rfl (by decide) A7 k c7 _ rfl HOW.out ⟨wr.heap.size,0,none⟩ 1 1 [sv x] rfl rfl (cell_one_new wr _ _) (fun u hu=>by rw[List.mem_singleton.1 hu];rfl) (by decide) HMX.out (by omega) (by rw[World.size_alloc];have:=HLO.out;omega) ?_)
                 intro v6 w6 ho6 hg6 hn6 hfit6;refine Classical.byContradiction fun hcontra=>?_)
    obtain ⟨A8,c8,hv8,-⟩:=zC ho6;subst hv8;rw[<-HTK.out] at ho6;have HO6:=gI ho6;have HB6:=gI (show Below Z w2 w6 from ((HB.out.alloc (by have:=HLO.out;omega) (.cells #[sv x] 9)).grown hg6 (by rw[World.size_alloc];have:=HLO.out;omega) (fun q e=>(World.ownsRow.lt HI.out q e).1)));clear ho6 hg6 hn6 hfit6 hcv cx
    apply hcontra
    clear hcontra
    go_wp2_with fail
    go_roundw
    case rel=>exact ⟨k+1,A8,c8,rfl,by go_num,by omega,HO6,HB6⟩
    case measure=>simp[intOf];omega
   ·obtain rfl:k=n2':=by omega
    obtain ⟨m',hm'⟩:∃m',m'=(es.map (·.2)).take k:=⟨_,rfl⟩
    have hmm:m'=m:=by rw[hm',HM.out,List.take_of_length_le (by rw[List.length_map,HLE.out];exact Nat.le_refl _)]
    have hlm:m.length=k:=by rw[HM.out,List.length_map,HLE.out]
    rw[<-hm',hmm] at HI;clear hm' hmm hlt;obtain ⟨own1,hown1⟩:∃o,o=own:=⟨_,rfl⟩
    rw[<-hown1] at HS1 HP1 HOZ;have hs1:=HS1.out.past HB1R.out;have hP1:=HP1.out.past HB1R.out (fun q hq=>HS1.out.foot hq);have HBW:=gI (show Below B w wr from HBW1.out.trans (HB1R.out.mono (by have:=HBW1.out.size;have:=HBR.out.2.2;omega)));have SM:=SvK.of (T:=own1) HI.out hlm (fun q hq=>HOZ.out q hq);clear HS1 HP1 HBW1 HB1 BX1 BA1 BX2 BA2 BX3 BA3 BX BAD HRW HMQ HLE HM HRE HOZ;have hs1':=gI hs1;obtain ⟨A4,n4,c4,A3,n3,c3,A2,n2,c2,g1,g2,g3,g4⟩:=hP1.box;have hown:∀q,own1 q->q<wr.heap.size:=fun q hq=>(hs1.st.lt hq).2
    have hn3:n3<=100000:=by have:=g3.len;have:=HBR.out.2.1.now;omega
    have BX:=gI (show Blk wr.drew G (pbC D P K R A4 n4 c4 A3 n3 c3 A2 n2 c2) from g1);have HP1:=gI hP1;have H2:=gI g4;have hdw:Below wr.heap.size wr wr.drew:=(Below.refl _ _).drew;have MFA:=gI (Qt (R:=R) (l:=Y.now) (A4:=A4) (n4:=n4) (c4:=c4) (w:=wr.drew) (by have:=HBR.out.1.ok.pre;omega) (T:=own1) hown (g3.past hdw) hn3 (by omega) (SM.past hdw) (by omega) (by have:=HFL.out;omega));have hnewT:∀q,(own1 q\/q=wr.heap.size)->own1 q\/wr.heap.size<=q:=fun q hq=>hq.imp id (fun e=>by omega)
    have hbal:Below wr.heap.size wr (wr.alloc (.cells zrA 38)).drew:=((Below.refl _ wr).alloc (Nat.le_refl _) _).drew;have BXA:=gI (show Blk (wr.alloc (.cells zrA 38)).drew G (pbC D P K R A4 n4 c4 A3 n3 c3 A2 n2 c2) from g1.alloc _);have hTB:∀q,(own1 q\/q=wr.heap.size)->q<(wr.alloc (.cells zrA 38)).drew.heap.size:=fun q hq=>by
     show q<(wr.alloc _).heap.size
     rw[World.size_alloc];rcases hq with e|e
     ·have:=hown q e;omega
     ·omega
    have MFB:=gI (Qt (R:=R) (l:=Y.now) (A4:=A4) (n4:=n4) (c4:=c4) (w:=(wr.alloc (.cells zrA 38)).drew) (by have:=HBR.out.1.ok.pre;omega) (T:=fun q=>own1 q\/q=wr.heap.size) hTB (g3.next (.of_below hbal) hnewT) hn3 (by omega) (SM.next (.of_below hbal) hnewT) (by omega) (by have:=HFL.out;omega));have hGlt:G<wr.heap.size:=hP1.lt;rw[HQQ.out] at MFA MFB;have HBAL:=gI hbal;clear hs1 hP1 g1 g2 g3 g4 hown hnewT hbal hTB hdw SM HI hown1 hlm HOH HB1R HB12 HZ HB;obtain ⟨d3,d4,d5,d6,d7,d8⟩:=yG BX.out
    go_wp2_with fail
    go_region_held3 (fun w'=>w'.cell? ⟨G,3,none⟩=some (sv R.pre)/\w'.cell? ⟨G,4,none⟩=some (.int .i64 (R.wd:Int))/\w'.cell? ⟨G,5,none⟩=some (.int .i64 (R.rm:Int))/\w'.cell? ⟨G,6,none⟩=some (.slice A4 n4 c4)/\w'.cell? ⟨G,7,none⟩=some (.int .i64 (R.next:Int))/\w'.cell? ⟨G,8,none⟩=some (.slice A3 n3 c3))
     (first
      |with_reducible exact yG BX.out
      |with_reducible exact yG BXA.out
      |with_reducible exact yG BX5.out
      |with_reducible exact yG (BX5.out.alloc _)
      |with_reducible exact yG (BX5.out.set5o (by have hG9:=hGlt;have hG5:=BX5.out.lt;omega) _ _ _ _ _)
      |with_reducible exact yG ((BX5.out.alloc _).set5o (by have hG9:=hGlt;have hG5:=BX5.out.lt;omega) _ _ _ _ _))
     (first
      |(go_at_call 41
        refine MFA.out.mono ?_;rintro e w5 ⟨hb5,A4',n4',c4',A3',n3',c3',rfl,hs5,hf5⟩;have BX5:=gI (BX.out.past hb5))
      |(go_at_call 41
        refine MFB.out.mono ?_;rintro e w5 ⟨hb5,A4',n4',c4',A3',n3',c3',rfl,hs5,hf5⟩;have BX5:=gI (BXA.out.past hb5);have BZ5:=((Blk.new wr zrB 38).drew).past hb5;obtain ⟨y0,y1,y2,y3,y4⟩:=BZ5.fives;obtain ⟨x0,x1,x2,x3,x4⟩:=BZ5.five_free))
    all_goals
     first
     |(obtain ⟨bx,hbx⟩:∃bx,bx=w5.heap.size:=⟨_,rfl⟩
       obtain ⟨w6,hw6⟩:∃w6,w6=w5.alloc (.cells (srA R1 A4' n4' c4') 38):=⟨_,rfl⟩
       have WW:=gI (show WayP wr w6 bx own1 R1 l1 A4' n4' c4' A3' n3' c3' by rw[hw6,hbx];exact zgU (((Below.refl _ wr).drew).trans hb5) hs5 hf5);rw[<-hw6,<-hbx])
     |(obtain ⟨bx,hbx⟩:∃bx,bx=wr.heap.size:=⟨_,rfl⟩
       obtain ⟨w6,hw6⟩:∃w6,w6=(((((w5.setCell ⟨wr.heap.size,0,none⟩ (sv R1.pre)).setCell ⟨wr.heap.size,1,none⟩ (.int .i64 (R1.wd:Int))).setCell ⟨wr.heap.size,2,none⟩ (.int .i64 (R1.rm:Int))).setCell ⟨wr.heap.size,3,none⟩ (.slice A4' n4' c4')).setCell ⟨wr.heap.size,4,none⟩ (.int .i64 (R1.next:Int))):=⟨_,rfl⟩
       have WW:=gI (show WayP wr w6 bx own1 R1 l1 A4' n4' c4' A3' n3' c3' by rw[hw6,hbx];exact zgV (Nat.le_refl _) (HBAL.out.trans (hb5.mono HBAL.out.size)) BZ5 hs5 hf5);rw[<-hw6,<-hbx])
     clear hw6 hbx;have BX6:=gI ((show Blk wr G (pbC D P K R A4 n4 c4 A3 n3 c3 A2 n2 c2) from BX.out).past WW.out.past);obtain ⟨r0,r1,r2,r3,r4⟩:=WW.out.box.fives;have hb6:=WW.out.box.lt;have c8:=BX6.out.cell (i:=8) rfl;have HD1:=gI (Z7 R1 A4' n4' c4');clear d3 d4 d5 d6 d7 d8
     go_wp2_with (refine yD rfl 38 _ _ rfl G 3 (pbC D P K R A4 n4 c4 A3 n3 c3 A2 n2 c2) (srA R1 A4' n4' c4') rfl rfl BX6.out (by show 3+5<=10;omega) yT HD1.out ?_
                  intro w7 hb7 ho7;refine Classical.byContradiction fun hcontra=>?_)
     have BX7:=gI (show Blk w7 G (pbC D P K R1 A4' n4' c4' A3 n3 c3 A2 n2 c2) from hb7);have HO7:=gI ho7;have k8:=BX7.out.cell (i:=8) rfl;have f8:=BX7.out.frozen 8;clear hb7 ho7 r0 r1 r2 r3 r4 c8
     apply hcontra
     clear hcontra
     go_wp2
     go_ret2
     exact ze6 HBR.out.2.2 HBW.out hs1'.out HP1.out WW.out BX7.out HO7.out H2.out HE.out.1 HE.out.2.1 HE.out.2.2.1 HND.out
end
section
open Go.RowKit Me Mf Rw Ds Rn Tx Fr Mw Hp Va Go.Maps
variable {w w':World} {B G D:Nat}
theorem zmg {j:Nat} (h:PsI w B G D j) (hj:j<=60) (z:Int) (A1:Option Addr) (n1 c1 u:Nat) (A2:Option Addr) (n2 c2:Nat) (bb:List UInt8) (hbl:bb.length=n1) (hn1:n1<=300) (hrb:Rd w B A1 bb) (hu:u<256)
 (es:List Pc) (hes:es.length=n2) (hn2:n2<=100) (hre:ZU w B A2 es) :
 Calls Tryz.prog 11 #[.pointer (some ⟨G,0,none⟩),.agg (acA z A1 n1 c1 u A2 n2 c2)] w (DoP w B G D j):=by
 by_cases h0:z=0
 ·subst h0;exact zmf h hj A1 n1 c1 u A2 n2 c2 bb hbl hn1 hrb
 by_cases h1:z=1
 ·subst h1;exact zjN h hj A1 n1 c1 u A2 n2 c2
 by_cases h2:z=2
 ·subst h2;exact zhF h hj A1 n1 c1 u A2 n2 c2
 by_cases h3:z=3
 ·subst h3;exact zlr h hj A1 n1 c1 u A2 n2 c2
 by_cases h4:z=4
 ·subst h4;exact zjO h hj A1 n1 c1 u A2 n2 c2
 by_cases h5:z=5
 ·subst h5;exact zjM h hj A1 n1 c1 u A2 n2 c2 bb hbl hn1 hrb hu
 by_cases h6:z=6
 ·subst h6;exact zhE h A1 n1 c1 u A2 n2 c2
 by_cases h7:z=7
 ·subst h7;exact zf2 h hj A1 n1 c1 u A2 n2 c2 es hes hn2 hre
 exact zlq h hj z ⟨h0,h1,h2,h3,h4,h5,h6,h7⟩ A1 n1 c1 u A2 n2 c2
end
section
open Go.RowKit Me Mf Rw Ds Rn Tx Fr Mw Hp Va Go.Maps
theorem zme {w:World} {B K P D M:Nat} {own ownD:Nat->Prop} {pre:List UInt8} {wd rm:Nat} (hS:zI w B K P D M 0 none X400 ⟨pre,wd,rm,[],0,0⟩ own ownD) (hB:B<=w.heap.size) (cs:Array Value) (T:TypeId) (hcs:cs.toList=pbC D P K ⟨pre,wd,rm,[],0,0⟩ none 0 0 none 0 0 none 0 0) :
 PsI (w.alloc (.cells cs T)) B w.heap.size D 0:=by
 have hb:Below w.heap.size w (w.alloc (.cells cs T)):=(Below.refl _ _).alloc (Nat.le_refl _) _;have hbx:Blk (w.alloc (.cells cs T)) w.heap.size (pbC D P K ⟨pre,wd,rm,[],0,0⟩ none 0 0 none 0 0 none 0 0):=by
  have:=Blk.new w cs.toList T;rw[Array.toArray_toList,hcs] at this;exact this
 refine ⟨K,P,M,0,none,X400,fun _=>[],⟨pre,wd,rm,[],0,0⟩,⟨ql,[],[],[],false⟩,fun k=>own k\/k=w.heap.size,ownD,?_,⟨⟨none,0,0,none,0,0,none,0,0,hbx,SvK.none,FbK.none,FbK.none⟩,.inr rfl,fun hf=>?_⟩,⟨Rest.new (by omega),vO.plain zbB (newD 400) false _,hS.bx.ok,rfl,fun i hi=>absurd hi (by show ¬i<0;omega)⟩,⟨Nat.le_refl _,Nat.le_refl _,Nat.le_refl _,(fun x hx=>by cases hx),(fun x hx=>by cases hx),Nat.le_refl _⟩,Nat.le_trans hB hb.size⟩
 ·exact hS.beside (T:=fun _=>False) (.of_below hb) (fun _ _ h=>h.elim) (fun _=>.inl) (fun k hk=>hk.imp id (fun e=>by rw[e];simp)) hB
 ·have:=(hS.st.lt (hS.foot hf)).2;omega
def rgG (G K n4 c4 nx:Nat) (A4:Option Addr):Gw.Fact:=fun t v _=>
 match t with
 |18|141|142|146|147|154|155|159|160=>v=.pointer (some ⟨G,0,none⟩)
 |143|156=>v=.pointer (some ⟨G,2,none⟩)
 |144|157=>v=.pointer (some ⟨K,0,none⟩)
 |145|151=>v=.int .i64 (n4:Int)
 |148|161=>v=.pointer (some ⟨G,3,none⟩)
 |149=>v=.pointer (some ⟨G,6,none⟩)
 |150=>v=.slice A4 n4 c4
 |152|153|164|165=>v=.bool false
 |158|163=>v=.int .i64 (nx:Int)
 |162=>v=.pointer (some ⟨G,7,none⟩)
 |_=>True
end
section
open Go.RowKit Me Mf Rw Ds Rn Tx Fr Mw Hp Va Go.Maps
theorem zdW (pre:List UInt8) (wz rz:Int) (A:Option Addr) (n c:Nat) (acts:List RA) (w:World) (hpre:pre.length<=9223372036854775807) (hl:acts.length=n) (hn63:n<=9223372036854775807) (ha:zi1 w w.heap.size A acts) (hT:PTab w) :
 Calls Tryz.prog 3 #[sv pre,.int .i64 wz,.int .i64 rz,.slice A n c] w fun e w'=>e=.returned (.bool true)/\Below w.heap.size w w':=by
 obtain ⟨pl,hpl⟩:∃pl,pl=pre.length:=⟨_,rfl⟩
 have hsz:(ByteArray.mk pre.toArray).size=pl:=by rw[hpl];exact List.size_toArray ..
 have HL:=gI hl;have HA:=gI ha;have HT:=gI hT;have HTL:=gI hT.lt;have HPL:=gI hpl;have HP63:=gI hpre;have HAW0:=gI (Yy w hT);have HBG:=gI (zaE w);have hpl63:pl<=9223372036854775807:=by rw[hpl];exact hpre
 clear hl ha hT hpl hpre;have hway:(decide ((100:Int)<(pl:Int))=true)\/(decide ((100:Int)<(pl:Int))=false/\decide ((60:Int)<(n:Int))=true)\/(decide ((100:Int)<(pl:Int))=false/\decide ((60:Int)<(n:Int))=false):=by
  by_cases h0:100<pl
  ·exact .inl (by simp;omega)
  ·by_cases h1:60<n
   ·exact .inr (.inl ⟨by simp;omega,by simp;omega⟩)
   ·exact .inr (.inr ⟨by simp;omega,by simp;omega⟩)
 rcases hway with d0|⟨d0,d1⟩|⟨d0,d1⟩
 iterate 2
  ·go_enter Tryz.func3,Tryz.ntmps3
   go_wp2_with (go_at_call 7;refine HAW0.out.mono ?_;rintro e w9 ⟨rfl,hb⟩;have HB9:=gI hb;clear hb)
   go_ret
   exact ⟨rfl,HB9.out⟩
 have hn60:n<=60:=by simp at d1;omega
 go_enter Tryz.func3,Tryz.ntmps3
 go_upto_region 3 with fail
 clear d0 d1 hsz
 go_wp2_with fail
 go_loopw [9] (fun x wr=>∃j:Nat,x=.int .i64 (j:Int)/\j<=n/\w=wr/\Hid (∀i p,i<j->acts[i]?=some p->p.b.length<=300/\p.l.length<=100)) (fun x _=>n-(intOf x).toNat)
 case atStart=>exact ⟨0,rfl,Nat.zero_le _,rfl,gI fun i p hi=>by omega⟩
 case round=>
  obtain ⟨j,rfl,hjn,rfl,HI⟩:=hrel
  by_cases hlt:j<n
  ·obtain ⟨a,p,rfl,-,hp,A1,n1,c1,A2,n2,c2,g0,g1,g2,g3,q1,q2,q3,q4,q5,q6,q7⟩:=HA.out.at (i:=j) (by rw[HL.out];exact hlt);have hlti:(j:Int)<(n:Int):=by omega
   have HPP:=gI hp;have HQ:=gI (And.intro q1 q5);have HRW:=gI q7;clear hp q1 q3 q5 q7 g0 g2
   by_cases h2:300<n1
   ·have d3:decide ((300:Int)<(n1:Int))=true:=by simp;omega
    go_wp2_with (go_at_call 7;refine HAW0.out.mono ?_;rintro e w9 ⟨rfl,hb⟩;have HB9:=gI hb;clear hb)
    go_ret
    exact ⟨rfl,HB9.out⟩
   ·have d3:decide ((300:Int)<(n1:Int))=false:=by simp;omega
    by_cases h3:100<n2
    ·have d4:decide ((100:Int)<(n2:Int))=true:=by simp;omega
     go_wp2_with (go_at_call 7;refine HAW0.out.mono ?_;rintro e w9 ⟨rfl,hb⟩;have HB9:=gI hb;clear hb)
     go_ret
     exact ⟨rfl,HB9.out⟩
    ·have d4:decide ((100:Int)<(n2:Int))=false:=by simp;omega
     have HI2:=gI (show ∀i q,i<j+1->acts[i]?=some q->q.b.length<=300/\q.l.length<=100 from fun i q hi hq=>by
      rcases (show i<j\/i=j by omega) with h|rfl
      ·exact HI.out i q h hq
      ·rw[HPP.out] at hq;injection hq with hq;subst hq;rw[HQ.out.1,HQ.out.2]
       omega)
     clear HI
     go_wp2_with fail
     clear d3 d4
     go_loopw [10] (fun x wx=>∃k:Nat,x=.int .i64 (k:Int)/\k<=n2/\w=wx) (fun x _=>n2-(intOf x).toNat)
     case atStart=>exact ⟨0,rfl,Nat.zero_le _,rfl⟩
     case round=>
      obtain ⟨k,rfl,hkn,rfl⟩:=hrel
      by_cases hltk:k<n2
      ·obtain ⟨x,hx⟩:∃x,p.l[k]?=some x:=⟨_,List.getElem?_eq_getElem (by rw[HQ.out.2];exact hltk)⟩
       obtain ⟨a9,A9,n9,c9,rfl,-,g9,-⟩:=HRW.out.at hx;have hltki:(k:Int)<(n2:Int):=by omega
       clear hx
       by_cases h5:100<n9
       ·have d5:decide ((100:Int)<(n9:Int))=true:=by simp;omega
        go_wp2_with (go_at_call 7;refine HAW0.out.mono ?_;rintro e w9 ⟨rfl,hb⟩;have HB9:=gI hb;clear hb)
        go_ret
        exact ⟨rfl,HB9.out⟩
       ·have d5:decide ((100:Int)<(n9:Int))=false:=by simp;omega
        go_wp2
        go_roundw
        case rel=>exact ⟨k+1,by go_num,by omega,trivial⟩
        case measure=>simp[intOf];omega
      ·have hltki:¬(k:Int)<(n2:Int):=by omega
       go_wp2
       go_roundw
       case rel=>exact ⟨j+1,by go_num,by omega,trivial,HI2⟩
       case measure=>simp[intOf];omega
  ·have hje:n=j:=by omega
   subst hje;have HFW:=gI (show ∀p∈acts,p.b.length<=300/\p.l.length<=100 from fun p hp=>by
    obtain ⟨i,hi⟩:=List.mem_iff_getElem?.1 hp;exact HI.out i p (by have:=(List.getElem?_eq_some_iff.1 hi).1;have:=HL.out;omega) hi)
   clear HI
   go_upto_region 14 with (go_at_call 8;refine HBG.out.mono ?_;rintro e w1 ⟨P,D,M,own,ownD,rfl,hst,hb1⟩;have HST:=gI hst;have HB1:=gI hb1;clear hst hb1)
   by_cases hok:Xl pre wz rz=true
   ·obtain ⟨wd,rm,rfl,rfl,hwd1,hwd2,hrm1,hrm2⟩:=zlC hok;have HOK:=gI hok;have hT1:PTab w1:=HT.out.out (S:=fun _=>False) (.of_below HB1.out) id;have HN:=gI (Q8 HST.out (by omega) pre wd rm HOK.out hT1);clear hok hT1
    go_wp2_with fail
    refine HN.out.mono ?_;rintro e w2 ⟨K,nn,rfl,hx,hnx,hb2⟩;have hn0:nn=0:=hnx.one ⟨fun i hi=>by omega,zk4 _⟩;subst hn0;have HB2:=gI (HB1.out.trans (hb2.mono HB1.out.size));have HR2:=gI (zI.new HST.out HB1.out.size HTL.out hb2 hx);have HMN:=gI (Vn (l:=[]) (A3:=some ⟨w2.heap.size,0,none⟩) (n3:=0) (c3:=0) pre wd rm (w2.alloc (.cells #[] 89)) HOK.out rfl (by omega) Cs.empty);have hba:Below w2.heap.size w2 (w2.alloc (.cells #[] 89)):=(Below.refl _ _).alloc (Nat.le_refl _) _;have HBA:=gI hba;clear hx hnx hb2 HN HST hba
    go_wp2_with fail
    refine HMN.out.mono ?_;rintro e w3 ⟨nn,rfl,hnx,hb3⟩;have hn0:nn=0:=hnx.one ⟨fun i hi=>by omega,fun h=>by cases h⟩;subst hn0;have HB23:=gI (HBA.out.trans (hb3.mono HBA.out.size));clear hnx hb3 HMN
    go_upto_region 18 with fail
    obtain ⟨w5,hw5⟩:∃w5,w5=w3.alloc (.cells #[sv pre,.int .i64 (wd:Int),.int .i64 (rm:Int),.slice none 0 0,.int .i64 0] 38):=⟨_,rfl⟩
    obtain ⟨G0,hG0⟩:∃G0,G0=w3.heap.size:=⟨_,rfl⟩
    have hb35:Below w3.heap.size w3 w5:=by rw[hw5];exact (Below.refl _ _).alloc (Nat.le_refl _) _
    have hb25:=HB23.out.trans (hb35.mono HB23.out.size);have HR5:=gI (HR2.out.past hb25);have HB5:=gI (HB2.out.trans (hb25.mono HB2.out.size));have BM:Blk w5 G0 [sv pre,.int .i64 (wd:Int),.int .i64 (rm:Int),.slice none 0 0,.int .i64 0]:=by rw[hw5,hG0];exact Blk.new w3 [sv pre,.int .i64 (wd:Int),.int .i64 (rm:Int),.slice none 0 0,.int .i64 0] _
    obtain ⟨m0,m1,m2,m3,m4⟩:=BM.fives;rw[<-hw5,<-hG0];clear hw5 hG0 hb35 hb25 BM HR2 HB2 HB23 HBA
    go_upto_region 23 with fail
    obtain ⟨w7,hw7⟩:∃w7,w7=w5.alloc (.cells #[.pointer (some ⟨D,0,none⟩),.pointer (some ⟨P,0,none⟩),.pointer (some ⟨K,0,none⟩),sv pre,.int .i64 (wd:Int),.int .i64 (rm:Int),.slice none 0 0,.int .i64 0,.slice none 0 0,.slice none 0 0] 44):=⟨_,rfl⟩
    obtain ⟨G,hG⟩:∃G,G=w5.heap.size:=⟨_,rfl⟩
    have HPS:=gI (show PsI w7 w.heap.size G D 0 by rw[hw7,hG];exact zme HR5.out HB5.out.size _ _ rfl);have HB7:=gI (show Below w.heap.size w w7 by rw[hw7];exact HB5.out.alloc HB5.out.size _);rw[<-hw7,<-hG];clear hw7 hG m0 m1 m2 m3 m4 HR5 HB5 HBG HAW0
    go_wp2_with fail
    go_loopw [19] (fun x wr=>∃j:Nat,x=.int .i64 (j:Int)/\j<=n/\Hid (PsI wr w.heap.size G D j)/\Hid (Below w.heap.size w wr)) (fun x _=>n-(intOf x).toNat)
    case atStart=>exact ⟨0,rfl,Nat.zero_le _,HPS,HB7⟩
    case round=>
     clear HPS HB7;obtain ⟨j,rfl,hj,HP,HB⟩:=hrel
     by_cases hlt:j<n
     ·obtain ⟨a,p,rfl,hab,hp,A1,n1,c1,A2,n2,c2,g0,g1,g2,g3,q1,q2,q3,q4,q5,q6,q7⟩:=HA.out.at (i:=j) (by rw[HL.out];exact hlt);have hfp:=HFW.out p (List.mem_of_getElem? hp);have habk:(a.add (j*4)).block<w.heap.size:=by rw[block_add];exact hab
      replace g0:=(HB.out.cell habk).trans g0;replace g1:=(HB.out.cell (p:=⟨(a.add (j*4)).block,(a.add (j*4)).off+1,none⟩) habk).trans g1;replace g2:=(HB.out.cell (p:=⟨(a.add (j*4)).block,(a.add (j*4)).off+2,none⟩) habk).trans g2;replace g3:=(HB.out.cell (p:=⟨(a.add (j*4)).block,(a.add (j*4)).off+3,none⟩) habk).trans g3;have hlt':(j:Int)<(n:Int):=by omega
      have hd:=gI (zmg HP.out (by omega) p.kind A1 n1 c1 p.u A2 n2 c2 p.b q1 (by omega) (q3.below HB.out) q4 p.l q5 (by omega) (q7.below HB.out));obtain ⟨kind,hkind⟩:∃k,k=p.kind:=⟨_,rfl⟩
      obtain ⟨uu,huu⟩:∃k,k=p.u:=⟨_,rfl⟩
      rw[<-hkind,<-huu] at hd;rw[<-hkind] at g0;rw[<-huu] at g2;clear hp q1 q2 q3 q4 q5 q6 q7 hfp habk hab hkind huu HP
      go_upto_region 27 with (go_at_call 11;refine hd.out.mono ?_;rintro e w1 ⟨on,rfl,hb1,hp1⟩;have HB1:=gI (HB.out.trans hb1);have HP1:=gI hp1;clear hb1 hp1)
      clear g0 g1 g2 g3 hd HB
      cases on with
      |false=>
       have HAW:=gI (Yy w1 (HT.out.out (S:=fun _=>False) (.of_below HB1.out) id))
       go_wp2_with (go_at_call 7;refine HAW.out.mono ?_;rintro e w9 ⟨rfl,hb⟩;have HB9:=gI (HB1.out.trans (hb.mono HB1.out.size));clear hb)
       go_ret
       exact ⟨rfl,HB9.out⟩
      |true=>
       obtain ⟨K2,P2,M2,N2,hb2,X2,f2,R2,Y2,own2,ownD2,h1,h2,h3,h4,h5⟩:=HP1.out rfl;obtain ⟨A4,n4,c4,A3,n3,c3,A5,n5,c5,k1,k2,k3,k4⟩:=h2.box;obtain ⟨nx,hnx⟩:∃nx,nx=R2.next:=⟨_,rfl⟩
       have HPN:=gI (HP1.out rfl);have HCE:=gI (show ∀W,Below w1.heap.size w1 W->W.cell? ⟨G,2,none⟩=some (.pointer (some ⟨K2,0,none⟩))/\W.cell? ⟨G,6,none⟩=some (.slice A4 n4 c4)/\W.cell? ⟨G,7,none⟩=some (.int .i64 (nx:Int)) from fun W hW=>⟨(k1.past hW).cell rfl,(k1.past hW).cell rfl,by rw[hnx];exact (k1.past hW).cell rfl⟩);have HHE:=gI (show ∀W,Below w1.heap.size w1 W->Calls Tryz.prog 12 #[.pointer (some ⟨K2,0,none⟩)] W fun e w'=>e=.returned (.int .i64 (n4:Int))/\Below W.heap.size W w' from fun W hW=>by
        have:=Vb (h1.bx.past hW);rw[k2.len] at this;exact this)
       have HRU:=gI (show ∀W,Below w1.heap.size w1 W->Calls Tryz.prog 13 #[.pointer (some ⟨K2,0,none⟩)] W fun e w'=>e=.returned (.int .i64 (nx:Int))/\Below W.heap.size W w' from fun W hW=>by
        have:=zcc (h1.bx.past hW);rw[h3.zero,Nat.sub_zero,<-hnx] at this;exact this)
       clear h1 h2 h3 h4 h5 k1 k2 k3 k4 hnx HP1
       go_upto_region 31 with fail
       refine Gw.zl (rgG G K2 n4 c4 nx A4) [141,142,143,144,145,146,147,148,149,150,151,152,153,154,155,156,157,158,159,160,161,162,163,164,165] [([18],none),([141],none),([142],none),([143],none),([144],none),([18],none),([146],none),([147],none),([148],none),([149],none),([150],none),([145,151],none),([152],none),([18,153],some (153,false)),([154,153],some (153,false)),([155,153],some (153,false)),([156,153],some (153,false)),([157,153],some (153,false)),([18,153],some (153,false)),([159,153],some (153,false)),([160,153],some (153,false)),([161,153],some (153,false)),([162,153],some (153,false)),([158,163,153],some (153,false)),([153,164],none)] 197 (by kernel_rfl) (by kernel_rfl) rfl ?h0 ?hreq ?hend
       case h0=>
        intro t W hnd _;unfold rgG
        split<;>first|rfl|trivial|exact absurd (by simp) hnd
       case hreq=>
        refine ⟨?_,?_,?_,?_,?_,?_,?_,?_,?_,?_,?_,?_,?_,?_,?_,?_,?_,?_,?_,?_,?_,?_,?_,?_,?_,trivial⟩
        all_goals
         intro ac W hg hk;have hg':Below w1.heap.size w1 W:=hg;obtain ⟨z2,z6,z7⟩:=HCE.out W hg';simp only[Gw.Knows,rgG] at hk
         try (simp[go_sem,Gw.zw,Gw.Ok,Gw.Post,Gw.Holds,rgG,Gw.zk.refl,hk,z2,z6,z7];done)
        ·simp[go_sem,Gw.zw,Gw.Ok,Gw.Post,Gw.Holds,rgG,Gw.zk.refl,hk];refine (HHE.out W hg').mono ?_;rintro e W' ⟨rfl,hb4⟩;exact ⟨_,rfl,hb4,fun _ _=>rfl⟩
        ·simp[go_sem,Gw.zw,Gw.Ok,Gw.Post,Gw.Holds,rgG,Gw.zk.refl,hk];refine (HRU.out W hg').mono ?_;rintro e W' ⟨rfl,hb4⟩;exact ⟨_,rfl,hb4,fun _ _=>rfl⟩
       case hend=>
        intro y w8 hg hy;have hg':Below w1.heap.size w1 w8:=hg;have h165:y 165=.bool false:=(hy 165 (by simp)).now;have HPX:=gI (HPN.out.past hg');have HBX:=gI (HB1.out.trans (hg'.mono HB1.out.size));clear hg hy hg' HHE HRU HCE HPN;simp only[Gw.zm,Act.put,List.setIfInBounds_toArray,List.set_cons_zero,List.set_cons_succ];rw[h165]
        go_wp2
        go_roundw
        case rel=>exact ⟨j+1,by go_num,by omega,HPX,HBX⟩
        case measure=>simp[intOf];omega
     ·have hjn:n=j:=by omega
      subst hjn;obtain ⟨K2,P2,M2,N2,hb2,X2,f2,R2,Y2,own2,ownD2,h1,h2,h3,h4,h5⟩:=HP.out;have hnx:R2.next<=60:=by have:=h3.few;have:=h4.now;omega
      obtain ⟨q,hq⟩:∃q,q=mgo R2.wd (fun i=>newF X2.C f2 (zq R2 i)) 0 R2.next R2.held:=⟨_,rfl⟩
      have hq1:=h3.rowsFew h4 (by omega);rw[<-hq] at hq1;have HFL:=gI (Vt h1 (by omega) (by rw[h3.rest.calm.pend];show 0<_;omega) (by rw[h3.rows,<-hq];exact hq1));rw[h3.rows,<-hq] at HFL;obtain ⟨A4,n4,c4,A3,n3,c3,A5,n5,c5,g1,g2,g3,g4⟩:=h2.box;have cc2:wr.cell? ⟨G,2,none⟩=some (.pointer (some ⟨K2,0,none⟩)):=g1.cell rfl;have hn3:n3<=100000:=by have:=g3.len;have:=h4.now;omega
      have MR:=gI (show ∀W,Below wr.heap.size wr W->Calls Tryz.prog 15 #[srV R2 A4 n4 c4,.slice A3 n3 c3] W (zi4 W q) from fun W hW=>by
       have:=zcQ (w:=W) h3.ok (fun i=>newF X2.C f2 (zq R2 i)) (g2.past hW) (g3.past hW) hn3 (by omega) h3.find (fun i hi=>by have:=h3.lens h4 i hi;omega);rw[<-hq] at this;exact this)
      obtain ⟨q1,q2⟩:=q;have BX0:=gI g1;have HQ1:=gI hq1;clear h1 h2 h3 h4 h5 hq hq1 g1 g2 g3 g4 HP hlt
      go_upto_region 34 with (go_at_call 14;refine HFL.out.mono ?_;rintro e w1 ⟨Al,nl,cl,rfl,ho1,hl1,hb1⟩)
      have BX:=gI (show Blk w1.drew G (pbC D P2 K2 R2 A4 n4 c4 A3 n3 c3 A5 n5 c5) from (BX0.out.past hb1).drew);have HO1:=gI (And.intro ho1 hl1);have HB1:=gI hb1;clear ho1 hl1 hb1 cc2;obtain ⟨e3,e4,e5,e6,e7,e8⟩:=yG BX.out
      go_region_held3 (fun w'=>w'.cell? ⟨G,3,none⟩=some (sv R2.pre)/\w'.cell? ⟨G,4,none⟩=some (.int .i64 (R2.wd:Int))/\w'.cell? ⟨G,5,none⟩=some (.int .i64 (R2.rm:Int))/\w'.cell? ⟨G,6,none⟩=some (.slice A4 n4 c4)/\w'.cell? ⟨G,7,none⟩=some (.int .i64 (R2.next:Int))/\w'.cell? ⟨G,8,none⟩=some (.slice A3 n3 c3))
       (first
        |with_reducible exact yG BX.out
        |with_reducible exact yG BX2.out)
       (first
        |(go_at_call 15
          refine (MR.out w1.drew (HB1.out.trans (((Below.refl _ w1).drew).mono HB1.out.size))).mono ?_;rintro e w2 ⟨Am,nm,cm,rfl,ho2,hl2,hb2⟩;have BX2:=gI (BX.out.past hb2)))
      have hb2':Below w1.heap.size w1 w2:=((Below.refl _ w1).drew).trans hb2;have hnm:nm=nl:=by rw[<-hl2,<-HO1.out.2]
      subst hnm;have SM:=gI (Vs Al Am nm cl cm q1 hl2 (by have:=HQ1.out;show nm<=_;have h9:q1.length<=1000000:=this;omega) w2 ((Cs.of_own HO1.out.1).below hb2' |>.more hb2'.size) (Cs.of_own ho2));have HB2:=gI (HB.out.trans ((HB1.out.trans (hb2'.mono HB1.out.size)).mono HB.out.size));clear e3 e4 e5 e6 e7 e8 ho2 hl2 hb2 hb2'
      go_wp2_with fail
      refine SM.out.mono ?_;rintro e w3 ⟨rfl,hb3⟩;have HB3:=gI (HB2.out.trans (hb3.mono HB2.out.size));have HAW:=gI (Yy w3 (HT.out.out (S:=fun _=>False) (.of_below HB3.out) id));clear hb3
      go_wp2_with (go_at_call 7;refine HAW.out.mono ?_;rintro e w9 ⟨rfl,hb⟩;have HB9:=gI (HB3.out.trans (hb.mono HB3.out.size));clear hb)
      go_ret
      exact ⟨rfl,HB9.out⟩
   ·have HNB:=gI (show Xl pre wz rz=false by simpa using hok);have HN:=gI (zjy (.pointer (some ⟨P,0,none⟩)) pre wz rz HP63.out w1 HNB.out);have HT1:=gI (show PTab w1 from HT.out.out (S:=fun _=>False) (.of_below HB1.out) id);clear hok HST HBG HAW0 HFW
    go_wp2_with fail
    refine HN.out.mono ?_;rintro e w2 ⟨rfl,rfl⟩;have HMN:=gI (zj5 (.slice (some ⟨w1.heap.size,0,none⟩) 0 0) pre wz rz HP63.out (w1.alloc (.cells #[] 89)) HNB.out);have hba:Below w1.heap.size w1 (w1.alloc (.cells #[] 89)):=(Below.refl _ _).alloc (Nat.le_refl _) _;have HBA:=gI hba;clear hba HN
    go_wp2_with fail
    refine HMN.out.mono ?_;rintro e w3 ⟨rfl,hb3⟩;have HB13:=gI (HBA.out.trans (hb3.mono HBA.out.size));clear hb3 HMN HBA
    go_upto_region 18 with fail
    obtain ⟨w5,hw5⟩:∃w5,w5=w3.alloc (.cells zrA 38):=⟨_,rfl⟩
    have hb35:Below w3.heap.size w3 w5:=by rw[hw5];exact (Below.refl _ _).alloc (Nat.le_refl _) _
    have hb15:=HB13.out.trans (hb35.mono HB13.out.size);have HB5:=gI (HB1.out.trans (hb15.mono HB1.out.size));have HAW:=gI (Yy w5 (HT1.out.out (S:=fun _=>False) (.of_below hb15) id));rw[<-hw5];clear hw5 hb35 hb15 HB13
    go_wp2_with (go_at_call 7;refine HAW.out.mono ?_;rintro e w9 ⟨rfl,hb⟩;have HB9:=gI (HB5.out.trans (hb.mono HB5.out.size));clear hb)
    go_ret
    exact ⟨rfl,HB9.out⟩
end
end Go.Proofs.YtcdkopbjlakebaaGreatDoor
