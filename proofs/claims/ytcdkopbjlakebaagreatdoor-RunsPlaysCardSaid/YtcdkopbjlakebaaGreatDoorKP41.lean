/- Texts put together, for a law: StPu, StPq, StM, StCo, StOp, StN, StNi, StBe, StWi, PlF, PlG, PlH, PlS, Plan, Fbk. -/
import Derived.Test.YtcdkopbjlakebaaGreatDoorKP36
import Derived.Test.YtcdkopbjlakebaaGreatDoorKP40
import Derived.Test.YtcdkopbjlakebaaGreatDoorKP33
import Derived.Test.YtcdkopbjlakebaaGreatDoorKP32
import Derived.Test.YtcdkopbjlakebaaGreatDoorKP20
import Derived.Test.YtcdkopbjlakebaaGreatDoorKP15
set_option maxRecDepth 100000
set_option maxHeartbeats 8000000
namespace Go.Proofs.YtcdkopbjlakebaaGreatDoor
section
open Go.RowKit Me Mf Rw Ds Va Go.Maps
section
theorem QR (S:Dsk) (i:Int) (l:List UInt8):(zY S i l).1.stored=S.stored:=by
 unfold zY
 repeat' split
 all_goals simp[(xk S).2]
theorem Ze (S:Dsk):(yB S).1.stored.length=S.stored.length:=by
 unfold yB
 repeat' split
 all_goals simp[(xk S).2,xU]
theorem za5 (S:Dsk) (n:Nat) (l:List UInt8):∀k,(stD S n l k).1.stored=S.stored
 |0=>rfl
 |k+1=>by
  have h:=za5 S n l k;rw[stD]
  split
  ·rw[QR,h]
  ·exact h
theorem zdA (S:Dsk) (n:Nat) (l:List UInt8):(zM S n l).1.stored.length=S.stored.length:=by
 unfold zM
 split
 ·rw[Ze,za5]
 ·rw[za5]
theorem Y8 (S:Dsk) (m:ManD):∀k,(wmD S m k).1.stored.length=S.stored.length
 |0=>rfl
 |k+1=>by
  have h:=Y8 S m k;rw[wmD]
  split
  ·rw[zdA,h]
  ·exact h
theorem zbj (S:Dsk) (id:Nat) (bl:List Int) (b:List UInt8):∀k,(ptD S id bl b k).1.stored=S.stored
 |0=>rfl
 |k+1=>by
  have h:=zbj S id bl b k;rw[ptD]
  split
  ·rw[QR,h]
  ·exact h
def bodyC (C:Chg) (x:List UInt8):List UInt8:=((C x).getD none).getD []
def yL (C:Chg):Dsk->List zi->Dsk×Int
 |S,[]=>(S,0)
 |S,f::l=>if (putP S f (bodyC C f.name)).2=0 then yL C (putP S f (bodyC C f.name)).1 l else putP S f (bodyC C f.name)
theorem zhx (S:Dsk) (f:zi) (b:List UInt8):(putP S f b).1.pend.length<=S.pend.length+St.pages b.length:=ze0 _
theorem Zj (S:Dsk) (f:zi) (b:List UInt8):(putP S f b).1.stored=S.stored:=zbj _ _ _ _ _
theorem Zi (C:Chg):∀(l:List zi) (S:Dsk),(yL C S l).1.stored=S.stored
 |[],_=>rfl
 |f::l,S=>by
  rw[yL]
  split
  ·rw[Zi C l,Zj]
  ·rw[Zj]
def putD (X:Sto) (m:ManD):Dsk×Int:=
 if (yL X.C X.S m.files).2=0 then (if (yB (yL X.C X.S m.files).1).2=0 then wmD (yB (yL X.C X.S m.files).1).1 m 2 else yB (yL X.C X.S m.files).1) else yL X.C X.S m.files
theorem zcz (X:Sto) (m:ManD):(putD X m).1.stored.length=X.S.stored.length:=by
 unfold putD
 repeat' split
 ·rw[Y8,Ze,Zi]
 ·rw[Ze,Zi]
 ·rw[Zi]
end
section
variable {w w':World} {B P D M N:Nat} {X:Sto} {own ownD T:Nat->Prop}
def Fol (w w':World) (P M:Nat) (own ownD own' ownD':Nat->Prop):Prop:=Out (Foot P M ownD) w w'/\(∀k,own' k->own k\/w.heap.size<=k)/\(∀k,own k->own' k)/\∀k,ownD' k->ownD k\/w.heap.size<=k
theorem Fol.below (hb:Below w.heap.size w w'):Fol w w' P M own ownD own ownD:=⟨.of_below hb,fun k hk=>.inl hk,fun k hk=>hk,fun k hk=>.inl hk⟩
theorem Fol.foot (h:Out (Foot P M ownD) w w'):Fol w w' P M own ownD own ownD:=⟨h,fun k hk=>.inl hk,fun k hk=>hk,fun k hk=>.inl hk⟩
theorem Fol.trans {w2:World} {own1 ownD1 own2 ownD2:Nat->Prop} (h:Fol w w' P M own ownD own1 ownD1) (k:Fol w' w2 P M own1 ownD1 own2 ownD2):Fol w w2 P M own ownD own2 ownD2:=by
 obtain ⟨h1,h2,h3,h4⟩:=h;obtain ⟨k1,k2,k3,k4⟩:=k;have hs:=h1.size;refine ⟨h1.trans' k1 fun j hj=>?_,fun j hj=>?_,fun j hj=>k3 j (h3 j hj),fun j hj=>?_⟩
 ·rcases hj with e|e|e
  ·exact .inl (.inl e)
  ·exact .inl (.inr (.inl e))
  ·exact (h4 j e).imp (fun q=>.inr (.inr q)) fun q=>q
 ·rcases k2 j hj with q|q
  ·exact h2 j q
  ·exact .inr (by omega)
 ·rcases k4 j hj with q|q
  ·exact h4 j q
  ·exact .inr (by omega)
def zew (w:World) (B P D M N:Nat) (X:Sto) (own ownD:Nat->Prop) (w':World):Prop:=∃own' ownD',zo w' B P D M N X own' ownD'/\Fol w w' P M own ownD own' ownD'
theorem zo.disked (h:zo w B P D M N X own ownD) {S:Dsk} (hd:XD w B D S ownD w') (hl:S.stored.length=X.S.stored.length):zew w B P D M N {X with S:=S} own ownD w':=by
 obtain ⟨ownD',h1,h2,h3⟩:=hd;have ho:Out (Foot P M ownD) w w':=h2.more fun j _ hj=>.inr (.inr hj)
 have hoo:=h.foot ho;have hs:∀k,(own k\/ownD' k)->own k\/w.heap.size<=k:=fun k hk=>by
  rcases hk with e|e
  ·exact .inl e
  ·exact (h3 k e).imp (fun q=>h.own k (.inr (.inr q))) fun q=>q
 obtain ⟨A,n,c,b1,b2⟩:=h.blk;obtain ⟨DD,hc⟩:=h.chs;refine ⟨fun k=>own k\/ownD' k,ownD',?_,ho,hs,fun k hk=>.inl hk,h3⟩;exact {
  blk:=⟨A,n,c,b1.out h2 h.dP,b2.next hoo hs⟩
  disk:=h1
  chs:=by
   refine ⟨DD,?_,hc.no,fun x z hz=>?_⟩
   ·obtain ⟨es,clock,q1,q2⟩:=hc.map;exact ⟨es,clock,(h2.block M hc.lt h.dM).trans q1,q2⟩
   ·obtain ⟨A,k,c,q1,q2,q3,q4,q5⟩:=hc.is x z hz;exact ⟨A,k,c,q1,q2,q3,q4,q5.next hoo hs⟩
  dP:=fun e=>(h3 P e).elim h.dP fun q=>by have:=b1.lt;omega
  dM:=fun e=>(h3 M e).elim h.dM fun q=>by have:=hc.lt;omega
  low:=fun k hk=>by
   rcases hk with e|e
   ·exact ⟨(h.low k e).1,Nat.lt_of_lt_of_le (h.low k e).2 h2.size⟩
   ·exact h1.lt e
  own:=fun k hk=>by
   rcases hk with e|e|e
   ·exact .inl (h.own k (.inl e))
   ·exact .inl (h.own k (.inr (.inl e)))
   ·exact .inr e
  lP:=h.lP
  lM:=h.lM
  ok:={h.ok with disk:=by show St.YL S.stored.length _;rw[hl];exact h.ok.disk,big:=by show 32<S.stored.length;rw[hl];exact h.ok.big}}
theorem zd6 {C:Chg} {DD:DataW Value} (h:Chs w T M N C DD) (nm:List UInt8) (hl:nm.length<=maxLen) :
 ∃A k c r,(Instr.lookup 113 (.map (some M)) (sv nm) false).run Tryz.prog w=.ok (chV A k c r) w/\(bodyC C nm).length=k/\k<=c/\c<=9223372036854775807/\Kk T (fun W=>Rd W W.heap.size A (bodyC C nm)) w:=by
 obtain ⟨v,ps,hr,hv⟩:=h.map.lookup vJ Tryz.underlying113 (VO w) (zd:=.held (chV none 0 0 false)) (zp:=[]) (zfB _ _ _ _) (zaH hl)
 cases hC:C nm with
 |none=>
  have hh:=(h.no nm).1 hC;rw[Maps.atKey_of_not_has hh] at hv;obtain ⟨A,k,c,r,rfl,e⟩:=Qb hv;injection e with e _;injection e with e;have e0:bodyC C nm=[]:=by unfold bodyC;rw[hC];rfl
  rw[<-e] at hr;refine ⟨none,0,0,false,hr,by rw[e0];rfl,Nat.le_refl _,by omega,fun W _=>?_⟩;rw[e0];exact Rd.empty
 |some z=>
  obtain ⟨A,k,c,h1,h2,h3,h4,h5⟩:=h.is nm z hC;rw[h1] at hv;obtain ⟨A',k',c',r,rfl,e⟩:=Qb hv;injection e with e _;injection e with e;have e0:bodyC C nm=z.getD []:=by unfold bodyC;rw[hC];rfl
  rw[<-e] at hr;exact ⟨A,k,c,_,hr,by rw[e0];exact h2,h3,h4,fun W hW=>by rw[e0];exact h5 W hW⟩
structure PuI (w:World) (B P D M N:Nat) (X:Sto) (own ownD:Nat->Prop) (l:List zi) (j:Nat) (W:World):Prop where
 ex:∃S own' ownD',zo W B P D M N {X with S:=S} own' ownD'/\Fol w W P M own ownD own' ownD'/\yL X.C X.S l=yL X.C S (l.drop j)/\S.pend.length<=X.S.pend.length+zK (l.take j)/\S.stored=X.S.stored
theorem zgi {P:Program} {o:Oper} {a:Act} {w:World} {p:Value->World->Prop} {m x:Operand} {t:TypeId} {mv key val:Value} (ho:o.op=Op.lookup t m x false) (hm:a.eval m=mv) (hx:a.eval x=key)
 (hr:(Instr.lookup t mv key false).run P w=.ok val w) (h:p val w):Gw.OkP P o a w p:=by
 unfold Gw.OkP;simp[execOp,ho,hm,hx,hr,Result.andThen];exact h
theorem zgy (A:Option Addr) (k c:Nat) (r:Bool) (w:World):(Instr.field 126 (chV A k c r) 0).run Tryz.prog w=.ok (.slice A k c) w:=by kernel_rfl
def pwG (P M b:Nat) (nm:List UInt8) (id:Nat) (sz:Int) (A3:Option Addr) (n3 c3:Nat) (A4:Option Addr) (k4 c4:Nat) (r4:Bool) (r:Int):Gw.Fact:=fun s v _=>
 match s with
 |0|16|18|19=>v=.pointer (some ⟨P,0,none⟩)
 |6=>v=.pointer (some ⟨b,0,none⟩)
 |17=>v=.agg #[sv nm,.int .u32 (id:Int),.int .i64 sz,.slice A3 n3 c3]
 |20=>v=.pointer (some ⟨P,4,none⟩)
 |21=>v=.map (some M)
 |22=>v=.pointer (some ⟨b,0,none⟩)
 |23=>v=sv nm
 |24=>v=chV A4 k4 c4 r4
 |25=>v=.slice A4 k4 c4
 |26|7=>v=.int .i64 r
 |_=>True
theorem zew.from {own' ownD':Nat->Prop} {w2:World} (h:zew w' B P D M N X own' ownD' w2) (hf:Fol w w' P M own ownD own' ownD'):zew w B P D M N X own ownD w2:=by
 obtain ⟨own2,ownD2,h1,h2⟩:=h;exact ⟨own2,ownD2,h1,hf.trans h2⟩
theorem drop_cons {α:Type} {l:List α} {j:Nat} {x:α} (h:l[j]?=some x):l.drop j=x::l.drop (j+1):=drop_at h
theorem PuI.next {l:List zi} {j:Nat} {wr wz w2:World} {S:Dsk} {own' ownD':Nat->Prop} {f:zi} (ho:Fol w wr P M own ownD own' ownD') (he:yL X.C X.S l=yL X.C S (l.drop j)) (hp:S.pend.length<=X.S.pend.length+zK (l.take j)) (hst:S.stored=X.S.stored)
 (hf:l[j]?=some f) (hb:Below wr.heap.size wr wz) (hW:zew wz B P D M N {X with S:=(putP S f (bodyC X.C f.name)).1} own' ownD' w2) (hz:(putP S f (bodyC X.C f.name)).2=0) (hpg:St.pages (bodyC X.C f.name).length<=f.blocks.length):PuI w B P D M N X own ownD l (j+1) w2:=by
 obtain ⟨own2,ownD2,h1,h2⟩:=hW.from (ho.trans (.below hb));refine ⟨_,own2,ownD2,h1,h2,?_,?_,?_⟩
 ·rw[he,drop_cons hf,yL,if_pos hz]
 ·rw[vX hf];have:=zhx S f (bodyC X.C f.name);omega
 ·rw[Zj,hst]
theorem PuI.stop {l:List zi} {j:Nat} {S:Dsk} {f:zi} (he:yL X.C X.S l=yL X.C S (l.drop j)) (hf:l[j]?=some f) (hz:(putP S f (bodyC X.C f.name)).2≠0):yL X.C X.S l=putP S f (bodyC X.C f.name):=by
 rw[he,drop_cons hf,yL,if_neg hz]
def pmG (P D H:Nat) (mv:Value) (r:Int):Gw.Fact:=fun s v _=>
 match s with
 |0|39|40|41=>v=.pointer (some ⟨P,0,none⟩)
 |42=>v=.pointer (some ⟨D,0,none⟩)
 |3=>v=.pointer (some ⟨H,0,none⟩)
 |43=>v=mv
 |44|4=>v=.int .i64 r
 |_=>True
theorem zjm (h:zo w B P D M N X own ownD) (m:ManD) (A:Option Addr) (n c:Nat) (hm:ManK own A n c m w) (hf:Fit m) (hb:∀f∈m.files,St.pages (bodyC X.C f.name).length<=f.blocks.length) (hp:X.S.pend.length+4096<=1073741824) :
 Calls Tryz.prog 64 #[.pointer (some ⟨P,0,none⟩),mval m.version m.next A n c] w fun e w'=>e=.returned (.int .i64 (putD X m).2)/\zew w B P D M N {X with S:=(putD X m).1} own ownD w':=by
 obtain ⟨H,hH⟩:∃H,H=w.heap.size:=⟨_,rfl⟩
 obtain ⟨v,hv⟩:∃v,v=m.version:=⟨_,rfl⟩
 obtain ⟨nx,hnx⟩:∃nx,nx=m.next:=⟨_,rfl⟩
 obtain ⟨w0,hw0⟩:∃w0,w0=w.alloc (.cells #[.int .u64 (v:Int),.int .u32 (nx:Int),.slice A n c] 110):=⟨_,rfl⟩
 have HW0:=gI hw0;have hb0:Below w.heap.size w w0:=by rw[hw0];exact (Below.refl _ _).alloc (Nat.le_refl _) _
 have BX0:=gI (show Blk w0 H [.int .u64 (v:Int),.int .u32 (nx:Int),.slice A n c] by rw[hw0,hH];exact Blk.new w [.int .u64 (v:Int),.int .u32 (nx:Int),.slice A n c] _);have HB0:=gI hb0;have HM0:=gI (hm.past hb0);have HS0:=gI (h.past hb0);have HLN:=gI (show m.files.length=n from hm.now.len);have HWF:=gI hm.now.wf;have HF:=gI hf;have HBD:=gI hb;have HHW:=gI hH;have hcn:zK m.files<=2035:=by have:=ZR m.files;have:=y9 m;have:=hf.2;omega
 have hn64:n<=2035:=by have:=yI m.files;have:=y9 m;have:=hf.2;have:=HLN.out;omega
 have HOK:=gI h.ok;have hHow:∀k,own k->k<H:=fun k hk=>by rw[hH];exact (h.lt hk).2
 have HOW:=gI hHow;obtain ⟨R,hR⟩:∃R,R=putD X m:=⟨_,rfl⟩
 rw[<-hR];have HR:=gI hR;have i0:=BX0.out.cell (i:=0) rfl;have i1:=BX0.out.cell (i:=1) rfl;have i2:=BX0.out.cell (i:=2) rfl;rw[hw0] at i0 i1 i2;have HV:=gI (And.intro hv hnx);have hS0:w0.heap.size=H+1:=by rw[hw0,hH];simp
 have HSZ:=gI hS0;rw[<-hv,<-hnx];rw[hH] at i0 i1 i2;clear h hm hf hb hb0 hw0 hR hv hnx hHow hS0 hH
 go_enter Tryz.func64,Tryz.ntmps64
 go_wp2_with fail
 rw[<-HW0.out];rw[<-HHW.out];clear i0 i1 i2
 go_loopw [12] (fun x wr=>∃j:Nat,x=.int .i64 (j:Int)/\j<=n/\Hid (PuI w0 B P D M N X own ownD m.files j wr)) (fun x _=>n-(intOf x).toNat)
 case atStart=>exact ⟨0,rfl,Nat.zero_le _,gI ⟨X.S,own,ownD,HS0.out,.below (Below.refl _ _),rfl,by simp,rfl⟩⟩
 case round=>
  obtain ⟨j,rfl,hjn,HI⟩:=hrel
  by_cases hlt:j<n
  ·obtain ⟨f,hfj⟩:∃f,m.files[j]?=some f:=⟨m.files[j]'(by rw[HLN.out];exact hlt),List.getElem?_eq_getElem _⟩
   obtain ⟨S,own',ownD',hSt,hFo,hE,hPd,hSS⟩:=HI.out;have hO:=HS0.out.foot hFo.1;have hN:=hFo.2.1;have HMR:=HM0.out.next hO hN;obtain ⟨a,A3,n3,c3,rfl,hab,hna,g0,g1,g2,g3,hfk⟩:=zh1 HMR hfj;have hfm:=List.mem_of_getElem? hfj;have hpl:=HBD.out f hfm;obtain ⟨nm,hnm⟩:∃nm,nm=f.name:=⟨_,rfl⟩
   obtain ⟨id,hid⟩:∃id:Nat,id=f.id:=⟨_,rfl⟩
   obtain ⟨sz,hsz⟩:∃sz,sz=f.size:=⟨_,rfl⟩
   have hnl:nm.length<=32:=by rw[hnm];exact (HF.out.1.1.1 f hfm).2
   have hid32:f.id<4294967296:=(HWF.out.files f hfm).id;obtain ⟨b,hb⟩:∃b,b=wr.heap.size:=⟨_,rfl⟩
   obtain ⟨wz,hwz⟩:∃wz,wz=wr.alloc (fbox nm id sz A3 n3 c3):=⟨_,rfl⟩
   have hbz:Below wr.heap.size wr wz:=by rw[hwz];exact (Below.refl _ _).alloc (Nat.le_refl _) _
   have hbox:wz.heap[b]?=some (fbox nm id sz A3 n3 c3):=by rw[hwz,hb];exact heap_alloc_new wr _
   obtain ⟨q0,q1,q2,q3⟩:=Zp hbox;have hbzd:Below wr.heap.size wr wz.drew:=hbz.drew;have hSz:=hSt.past hbzd;obtain ⟨DD,hc⟩:=hSz.chs;obtain ⟨A4,k4,c4,r4,hrl,hl4,hc4,hm4,hk4⟩:=zd6 hc nm (by unfold maxLen;omega);obtain ⟨As,ns,cs,hbk,-⟩:=hSz.blk;obtain ⟨d0,d1,d2,d3,d4,d5⟩:=hbk.six;have hlen4:k4<=1048576:=by
    rw[<-hl4];unfold bodyC
    cases hC:X.C nm with
    |none=>show 0<=_;omega
    |some z=>
     cases z with
     |none=>show 0<=_;omega
     |some bb=>exact HOK.out.len nm bb hC
   have hn3:f.blocks.length=n3:=hfk.len;have key:S.pend.length+St.pages (bodyC X.C f.name).length<=1073741824:=by
    have h2:=vX hfj;have h3:=X8 m.files (j+1);omega
   have HPP:=gI (zcy hSz f A3 n3 c3 (hfk.next (.of_below hbzd) fun k hk=>.inl hk) hid32 A4 k4 c4 (bodyC X.C nm) hl4 hlen4 hc4 hm4 hk4 (by rw[<-hn3,<-hl4,hnm];exact hpl) (by rw[<-hl4,hnm];exact key));rw[<-hnm,<-hid,<-hsz] at HPP;have HHR:=gI (And.intro hFo (And.intro hE (And.intro hPd hSS)));have HSZ2:=gI hSz;have HFJ:=gI hfj;have HBZ:=gI hbzd;have HRL:=gI hrl;have HPL:=gI hpl;have HEQ:=gI (And.intro hnm (And.intro hid hsz));have HWZ:=gI (show wz=wr.alloc (fbox nm id sz A3 n3 c3) from hwz);have hjn':(j:Int)<(n:Int):=by omega
   have HB:=gI hb;rw[<-hnm] at g0;rw[<-hid] at g1;rw[<-hsz] at g2;clear hSt hO hN hFo hE hPd hSS HI hfm hpl hid32 hbz hbox hbzd hSz hc hrl hbk hfk hn3 hnm hid hsz hfj hwz hk4 HMR hb key
   go_wp2_with fail
   try rw[<-HHW.out]
   rw[<-HWZ.out,<-HB.out];refine Gw.zN (fun _ _=>True) (fun _=>trivial) (fun _ _ _ _ _=>trivial) (fun p Wx=>if p=0 then Wx=wz.drew else XD wz.drew B D (putP S f (bodyC X.C nm)).1 ownD' Wx) (pwG P M b nm id sz A3 n3 c3 A4 k4 c4 r4 (putP S f (bodyC X.C nm)).2) [10] [16,17,18,19,20,21,22,23,24,25,26,7] [([0],none,[0],false),([6],none,[0],false),([0],none,[0],false),([18],none,[0],false),([19],none,[0],false),([20],none,[0],false),([6],none,[0],false),([22],none,[0],false),([21,23],none,[0],false),([24],none,[0],false),([16,17,25],none,[0],true),([26],none,[1],false)] 45 1 (by kernel_rfl) (by kernel_rfl) rfl trivial (by simp) ?h0 ?hreq ?hend
   case h0=>
    intro t W hnd _;unfold pwG
    split<;>first|rfl|trivial|exact absurd (by simp) hnd
   case hreq=>
    refine ⟨⟨?_,trivial⟩,⟨?_,trivial⟩,⟨?_,trivial⟩,⟨?_,trivial⟩,⟨?_,trivial⟩,⟨?_,trivial⟩,⟨?_,trivial⟩,⟨?_,trivial⟩,⟨?_,trivial⟩,⟨?_,trivial⟩,⟨?_,trivial⟩,⟨?_,trivial⟩,trivial⟩
    all_goals
     intro ac W hR hI hk
     try (rw[if_pos rfl] at hI;subst hI)
     simp only[Gw.Knows,pwG] at hk
     try (simp[go_sem,Gw.yo,Gw.OkP,Gw.xH,Gw.zW,pwG,hk,d4,q0,q1,q2,q3];done)
    ·exact zgi rfl ((Gw.zD ac 21).trans hk.1) ((Gw.zD ac 23).trans hk.2.1) HRL.out ⟨trivial,rfl,fun _ _=>rfl⟩
    ·simp[go_sem,Gw.yo,Gw.OkP,Gw.xH,Gw.zW,pwG,hk,zgy,Result.andThen]
    ·simp[go_sem,Gw.yo,Gw.OkP,Gw.xH,Gw.zW,pwG,hk];refine HPP.out.mono ?_;rintro e w5 ⟨rfl,h5⟩;exact ⟨rfl,h5⟩
    ·rw[if_neg (by simp)] at hI;simp[go_sem,Gw.yo,Gw.OkP,Gw.xH,Gw.zW,pwG,hk,hI]
   case hend=>
    intro x' w2 _ hI hx;rw[if_neg (by simp)] at hI;have hx7:=hx 7 (by simp) w2 trivial;simp only[pwG] at hx7;simp only[Gw.zm,Act.put,List.setIfInBounds_toArray,List.set_cons_zero,List.set_cons_succ];obtain ⟨r,hr⟩:∃r,r=(putP S f (bodyC X.C nm)).2:=⟨_,rfl⟩
    rw[<-hr] at hx7;simp only[hx7];have HI2:=gI hI;have HRR:=gI hr;clear hI hx hr hx7 q0 q1 q2 q3 d0 d1 d2 d3 d4 d5 g0 g1 g2 g3
    by_cases hr0:r=0
    ·subst hr0
     go_wp2_with fail
     refine ⟨⟨j+1,by simp,hlt,gI ?_⟩,by simp[intOf];omega⟩;obtain ⟨hFo,hE,hPd,hSS⟩:=HHR.out;have hz:=HRR.out.symm;have hI:=HI2.out;rw[HEQ.out.1] at hz hI;exact PuI.next hFo hE hPd hSS HFJ.out HBZ.out (HSZ2.out.disked hI (by rw[Zj])) hz HPL.out
    ·have hd1:(r != 0)=true:=by rw[bne_iff_ne];exact hr0
     go_wp2_with fail
     go_ret
     obtain ⟨hFo,hE,hPd,hSS⟩:=HHR.out;have hz:=HRR.out.symm;have hI:=HI2.out;rw[HEQ.out.1] at hz hI;have hst:=PuI.stop hE HFJ.out (by rw[hz];exact hr0);have hRE:R=putP S f (bodyC X.C f.name):=by rw[HR.out];unfold putD;rw[hst,hz,if_neg hr0]
     refine ⟨by rw[hRE,hz];rfl,?_⟩;rw[hRE];exact (HSZ2.out.disked hI (by rw[Zj])).from (((Fol.below HB0.out).trans hFo).trans (.below HBZ.out))
  ·have e:j=n:=by omega
   subst e;obtain ⟨S,own',ownD',hSt,hFo,hE,hPd,hSS⟩:=HI.out;have hO:=HS0.out.foot hFo.1;have hN:=hFo.2.1;rw[List.drop_of_length_le (by rw[HLN.out];exact Nat.le_refl _)] at hE;have hE2:yL X.C X.S m.files=(S,0):=by rw[hE];rfl
   have HMR:=HM0.out.next hO hN;obtain ⟨As,ns,cs,hbk,-⟩:=hSt.blk;obtain ⟨d0,d1,d2,d3,d4,d5⟩:=hbk.six;have hpl:S.pend.length+1024<=1073741824:=by have:=X8 m.files j;omega
   have HSY:=gI (zeI hSt.disk (show S.pend.length<_ by omega));have hRE:R=if (yB S).2=0 then wmD (yB S).1 m 2 else yB S:=by rw[HR.out];unfold putD;rw[hE2,if_pos rfl]
   have HRE:=gI hRE;have HST:=gI hSt;have HON:=gI hFo;have HMM:=gI HMR;have HPL:=gI hpl;have HSS:=gI hSS;clear hSt hO hN hFo hE hPd hSS HI hE2 HMR hbk hpl hRE
   go_wp2_with (go_at_call 105;refine HSY.out.mono ?_)
   rintro e w2 rfl hd
   try rw[<-HHW.out]
   obtain ⟨r,hr⟩:∃r,r=(yB S).2:=⟨_,rfl⟩
   rw[<-hr];have HDP:=gI hd;have HRR:=gI hr;clear hd hr d0 d1 d2 d3 d4 d5 HSY
   by_cases hr0:r=0
   ·subst hr0;have HW2:=gI (HST.out.disked HDP.out (Ze S));have hR2:=HRE.out;rw[if_pos HRR.out.symm] at hR2;have HR2:=gI hR2;obtain ⟨own2,ownD2,hs2,hf2⟩:=HW2.out;have ho2:=HST.out.foot hf2.1;have hn2:=hf2.2.1;have HM2:=gI ((HMM.out.next ho2 hn2));have ho0:=HS0.out.foot HON.out.1;have hn0:=HON.out.2.1;have hbx:Blk w2 H [.int .u64 (v:Int),.int .u32 (nx:Int),.slice A j c]:=
     (BX0.out.out ho0 fun h=>by have:=HOW.out _ h;omega).out ho2 fun h=>by
       have h1:=HSZ.out;rcases hn0 _ h with h|h
       ·have:=HOW.out _ h;omega
       ·omega
    have b0:=hbx.cell (i:=0) rfl;have b1:=hbx.cell (i:=1) rfl;have b2:=hbx.cell (i:=2) rfl;obtain ⟨As,ns,cs,hbk,-⟩:=hs2.blk;obtain ⟨d0,d1,d2,d3,d4,d5⟩:=hbk.six;have hsm:Small m:=ZB (by have:=HF.out.2;omega);have HWR:=gI (zaC (S:=(yB S).1) (hs2.disk.past (Below.refl _ _).drew) A j c m ((HM2.out.past (Below.refl _ _).drew).now) hsm HF.out (by
     have h1:=zaf S;have h2:=HPL.out;show (yB S).1.pend.length+32<=_
     omega))
    rw[<-HV.out.1,<-HV.out.2] at HWR;rw[<-HR2.out] at HWR;have HS2:=gI hs2;have HO2:=gI hf2;clear hs2 hf2 ho2 hn2 ho0 hn0 hbx hbk hR2 hsm HW2
    go_wp2_with fail
    refine Gw.zN (fun _ _=>True) (fun _=>trivial) (fun _ _ _ _ _=>trivial) (fun p Wx=>if p=0 then Wx=w2.drew else XD w2.drew B D R.1 ownD2 Wx) (pmG P D H (mval v nx A j c) R.2) [5] [39,40,41,42,43,44,4] [([0],none,[0],false),([39],none,[0],false),([40],none,[0],false),([41],none,[0],false),([3],none,[0],false),([42,43],none,[0],true),([44],none,[1],false)] 45 1 (by kernel_rfl) (by kernel_rfl) rfl trivial (by simp) ?h0 ?hreq ?hend
    case h0=>
     intro t W hnd _;unfold pmG
     split<;>first|rfl|trivial|exact absurd (by simp) hnd
    case hreq=>
     refine ⟨⟨?_,trivial⟩,⟨?_,trivial⟩,⟨?_,trivial⟩,⟨?_,trivial⟩,⟨?_,trivial⟩,⟨?_,trivial⟩,⟨?_,trivial⟩,trivial⟩
     all_goals
      intro ac W hR hI hk
      try (rw[if_pos rfl] at hI;subst hI)
      simp only[Gw.Knows,pmG] at hk
      try (simp[go_sem,Gw.yo,Gw.OkP,Gw.xH,Gw.zW,pmG,hk,d0,b0,b1,b2];done)
     ·simp[go_sem,Gw.yo,Gw.OkP,Gw.xH,Gw.zW,pmG,hk];refine HWR.out.mono ?_;rintro e w5 ⟨rfl,h5⟩;exact ⟨rfl,h5⟩
     ·rw[if_neg (by simp)] at hI;simp[go_sem,Gw.yo,Gw.OkP,Gw.xH,Gw.zW,pmG,hk,hI]
    case hend=>
     intro x' w3 _ hI hx;rw[if_neg (by simp)] at hI;have hx4:=hx 4 (by simp) w3 trivial;simp only[pmG] at hx4;simp only[Gw.zm,Act.put,List.setIfInBounds_toArray,List.set_cons_zero,List.set_cons_succ];simp only[hx4];have HI3:=gI hI;clear hI hx hx4 d0 d1 d2 d3 d4 d5 b0 b1 b2
     go_wp2_with fail
     go_ret
     have hp3:=HS2.out.past (Below.refl _ _).drew;have hW:=hp3.disked HI3.out (by rw[HR2.out];exact Y8 _ m 2);exact ⟨rfl,hW.from (((Fol.below HB0.out).trans HON.out).trans (HO2.out.trans (.below (Below.refl _ _).drew)))⟩
   ·have hd1:(r != 0)=true:=by rw[bne_iff_ne];exact hr0
    have hR2:=HRE.out;rw[if_neg (by rw[<-HRR.out];exact hr0)] at hR2;have HR2:=gI hR2;clear hR2
    go_wp2_with fail
    go_ret
    refine ⟨by rw[HR2.out,HRR.out];rfl,?_⟩;rw[HR2.out];exact (HST.out.disked HDP.out (Ze S)).from ((Fol.below HB0.out).trans HON.out)
end
end
section
open Go.RowKit Me Mf Rw Ds Va Go.Maps
theorem Vg (fs:List zi):∀(L:List (List UInt8×Option Nat)) (fr:List Nat) (nx:Nat) (r:List zi×Nat),St.yX fs L fr nx=some r->∀f∈r.1,
 ((f.name,none)∈L/\f∈fs)\/(∃s,(f.name,some s)∈L/\f.size=(s:Int)/\f.blocks.length=St.pages s/\∀b∈f.blocks,∃i∈fr,b=(i:Int))
 |[],fr,nx,r,h,f,hf=>by
  rw[St.yX] at h;injection h with h;subst h
  cases hf
 |(x,none)::l,fr,nx,r,h,f,hf=>by
  rw[St.yX] at h
  cases hr:St.yX fs l fr nx with
  |none=>rw[hr] at h;cases h
  |some q=>
   rw[hr] at h;injection h with h;subst h;rcases List.mem_append.1 hf with h|h
   ·obtain ⟨h1,h2⟩:=List.mem_filter.1 h;have e:f.name=x:=by simpa using h2
    exact .inl ⟨by rw[e];exact List.mem_cons_self,h1⟩
   ·rcases Vg fs l fr nx q hr f h with ⟨h1,h2⟩|⟨s,h1,h2,h3,h4⟩
    ·exact .inl ⟨List.mem_cons_of_mem _ h1,h2⟩
    ·exact .inr ⟨s,List.mem_cons_of_mem _ h1,h2,h3,h4⟩
 |(x,some s)::l,fr,nx,r,h,f,hf=>by
  rw[St.yX] at h
  split at h
  ·rename_i hc
   cases hr:St.yX fs l (fr.drop (St.pages s)) (nx+1) with
   |none=>rw[hr] at h;cases h
   |some q=>
    rw[hr] at h;injection h with h;subst h;rcases List.mem_cons.1 hf with h|h
    ·subst h;refine .inr ⟨s,List.mem_cons_self,rfl,?_,fun b hb=>?_⟩
     ·show (St.ints _).length=_
      unfold St.ints;rw[List.length_map,List.length_take];omega
     ·have hb:b∈St.ints (fr.take (St.pages s)):=hb;unfold St.ints at hb;obtain ⟨i,hi,e⟩:=List.mem_map.1 hb;exact ⟨i,List.mem_of_mem_take hi,e.symm⟩
    ·rcases Vg fs l _ _ q hr f h with ⟨h1,h2⟩|⟨s',h1,h2,h3,h4⟩
     ·exact .inl ⟨List.mem_cons_of_mem _ h1,h2⟩
     ·exact .inr ⟨s',List.mem_cons_of_mem _ h1,h2,h3,fun b hb=>by
       obtain ⟨i,hi,e⟩:=h4 b hb;exact ⟨i,List.mem_of_mem_drop hi,e⟩⟩
  ·cases h
section
variable {X:Sto} {l:List (List UInt8)} {m:ManD}
theorem xC.file (h:xC X l m) {f:zi} (hf:f∈m.files):(f.name∈l/\szC X f.name=none/\f∈X.m.files)\/(∃s,f.name∈l/\szC X f.name=some s/\f.size=(s:Int)/\f.blocks.length=St.pages s/\∀b∈f.blocks,∃i∈St.Yh X.S.stored.length X.m.files,b=(i:Int)):=by
 obtain ⟨h,-,-⟩:=h;unfold St.QE at h
 cases hr:St.yX X.m.files (YE X l) (St.Yh X.S.stored.length X.m.files) X.m.next with
 |none=>rw[hr] at h;cases h
 |some r=>
  rw[hr] at h;injection h with h;subst h;have hL:∀s,(f.name,s)∈YE X l->f.name∈l/\szC X f.name=s:=fun s hs=>by
   unfold YE at hs;obtain ⟨x,hx,e⟩:=List.mem_map.1 hs;injection e with e1 e2;subst e1;exact ⟨hx,e2⟩
  rcases Vg _ _ _ _ r hr f hf with ⟨h1,h2⟩|⟨s,h1,h2,h3,h4⟩
  ·exact .inl ⟨(hL _ h1).1,(hL _ h1).2,h2⟩
  ·exact .inr ⟨s,(hL _ h1).1,(hL _ h1).2,h2,h3,h4⟩
theorem zkp {c:Nat} {fs:List zi} {i:Nat} (h:i∈St.Yh c fs):i<c:=by
 unfold St.Yh St.qH at h;exact List.mem_range.1 (List.mem_filter.1 h).1
theorem xC.bodies (h:xC X l m) {f:zi} (hf:f∈m.files):St.pages (bodyC X.C f.name).length<=f.blocks.length:=by
 rcases h.file hf with ⟨-,h1,-⟩|⟨s,-,h1,-,h3,-⟩
 ·have:bodyC X.C f.name=[]:=by
   unfold szC at h1;unfold bodyC
   split at h1
   ·cases h1
   ·rename_i hn
    cases hC:X.C f.name with
    |none=>rfl
    |some z=>
     cases z with
     |none=>rfl
     |some b=>exact absurd hC (hn b)
  rw[this];exact Nat.zero_le _
 ·have:(bodyC X.C f.name).length=s:=by
   unfold szC at h1;unfold bodyC
   split at h1
   ·rename_i b hb
    rw[hb];injection h1
   ·cases h1
  rw[this,h3];exact Nat.le_refl _
theorem xC.onDisk (h:xC X l m) (hd:St.YL X.S.stored.length X.m.files):St.YL X.S.stored.length m.files:=fun z hz=>by
 unfold zh at hz;obtain ⟨f,hf,hz⟩:=List.mem_flatMap.1 hz;rcases h.file hf with ⟨-,-,h1⟩|⟨s,-,-,-,-,h3⟩
 ·exact hd z (by unfold zh;exact List.mem_flatMap.2 ⟨f,h1,hz⟩)
 ·obtain ⟨i,hi,e⟩:=h3 z hz;have:=zkp hi;omega
end
end
section
open Go.RowKit Me Mf Rw Ds Go.Maps
def pgW (id:Nat) (bl:List Int) (b:List UInt8) (k:Nat):List WD:=(List.range k).map fun i=>⟨(bl.getD i 0).toNat,pgB id b i⟩
theorem ze4 (id:Nat) (bl:List Int) (b:List UInt8) (k:Nat):pgW id bl b (k+1)=pgW id bl b k++[⟨(bl.getD k 0).toNat,pgB id b k⟩]:=by simp[pgW,List.range_succ]
theorem zcB (S:Dsk) (id:Nat) (bl:List Int) (b:List UInt8):∀k,∃j,j<=k/\(ptD S id bl b k).1.pend=S.pend++pgW id bl b j/\((ptD S id bl b k).2=0->j=k)
 |0=>⟨0,Nat.le_refl _,by simp[ptD,pgW],fun _=>rfl⟩
 |k+1=>by
  obtain ⟨j,hj,h2,h3⟩:=zcB S id bl b k;rw[ptD]
  split
  ·rename_i hz
   have hjk:=h3 hz;subst hjk;rcases Qg (ptD S id bl b j).1 (bl.getD j 0) (pgB id b j) with ⟨q0,q1,q2,-⟩|⟨q0,q1,q2⟩
   ·exact ⟨j+1,Nat.le_refl _,by rw[q2,h2,ze4,List.append_assoc],fun _=>rfl⟩
   ·exact ⟨j,by omega,q2.trans h2,fun h=>absurd h q0⟩
  ·rename_i hz
   exact ⟨j,by omega,h2,fun h=>absurd h hz⟩
def filW (C:Chg) (f:zi):List WD:=pgW f.id f.blocks (bodyC C f.name) (St.pages (bodyC C f.name).length)
def allW (C:Chg) (l:List zi):List WD:=l.flatMap (filW C)
theorem zjL {id:Nat} {bl:List Int} {b:List UInt8} {j k:Nat} (h:j<=k):pgW id bl b j=(pgW id bl b k).take j:=by
 unfold pgW;rw[<-List.map_take,List.take_range,Nat.min_eq_left h]
theorem Vd (C:Chg):∀(l:List zi) (S:Dsk),∃ws,ws <+: allW C l/\(yL C S l).1.pend=S.pend++ws/\((yL C S l).2=0->ws=allW C l)
 |[],S=>⟨[],List.prefix_refl _,by simp[yL],fun _=>rfl⟩
 |f::l,S=>by
  obtain ⟨j,hj,h2,h3⟩:=zcB S f.id f.blocks (bodyC C f.name) (St.pages (bodyC C f.name).length);rw[yL];have hcons:allW C (f::l)=filW C f++allW C l:=rfl
  split
  ·rename_i hz
   obtain ⟨ws,q1,q2,q3⟩:=Vd C l (putP S f (bodyC C f.name)).1;have e:=h3 hz;subst e;refine ⟨filW C f++ws,?_,?_,fun h=>by rw[hcons,q3 h]⟩
   ·rw[hcons];exact (List.prefix_append_right_inj _).2 q1
   ·rw[q2];show (ptD S f.id f.blocks (bodyC C f.name) _).1.pend++ws=_
    rw[h2,List.append_assoc];rfl
  ·rename_i hz
   refine ⟨pgW f.id f.blocks (bodyC C f.name) j,?_,h2,fun h=>absurd h hz⟩;rw[hcons];refine List.IsPrefix.trans ?_ (List.prefix_append _ _);rw[zjL hj];exact List.take_prefix _ _
def zdv (st:List (List UInt8)) (f:zi) (b:List UInt8):Prop:=f.size=(b.length:Int)/\f.blocks.length=St.pages b.length/\∀k,k<St.pages b.length->st.getD (f.blocks.getD k 0).toNat []=pgB f.id b k
theorem zcs {S:Dsk} {f:zi} {b:List UInt8} (hsz:f.size=(b.length:Int)) (hrd:∀k,k<St.pages b.length->qV S (f.blocks.getD k 0)=pgB f.id b k) (hl:f.blocks.length=St.pages b.length) :
 ∀(n k:Nat),n+k=St.pages b.length->vR S f.id f.size (f.blocks.drop k) k (b.take (112*k))=(b,0)
 |0,k,h=>by
  rw[List.drop_of_length_le (by omega),vR,List.take_of_length_le (by unfold St.pages at h;omega)]
 |n+1,k,h=>by
  have hk:k<f.blocks.length:=by omega
  have hkb:112*k<b.length:=by unfold St.pages at h;omega
  have hc:(chP b k).length<=112:=by rw[Zv];unfold Zw;omega
  have e1:f.blocks[k]=f.blocks.getD k 0:=by rw[List.getD_eq_getElem?_getD,List.getElem?_eq_getElem hk];rfl
  rw[List.drop_eq_getElem_cons hk,vR,e1,hrd k (by omega)];have e2:Pg.getP (pgB f.id b k) (rg f.id) (rg k)=(chP b k,0):=Pg.zkn hc;rw[e2];have e3:b.take (112*k)++chP b k=b.take (112*(k+1)):=by
   unfold chP;rw[Nat.mul_succ,List.take_add]
  rw[if_neg,e3]
  ·exact zcs hsz hrd hl n (k+1) (by omega)
  ·simp only[ne_eq,not_true,false_or,Decidable.not_not];rw[hsz,Zv,List.length_take];unfold Zw;omega
theorem zeS {S:Dsk} (hon:S.on=true) (hp:S.pend=[]) {f:zi} {b:List UInt8} (h:zdv S.stored f b) (hb:∀z∈f.blocks,0<=z/\z<(S.stored.length:Int)):zbi S f=(b,0):=by
 obtain ⟨h1,h2,h3⟩:=h;have hrd:∀k,k<St.pages b.length->qV S (f.blocks.getD k 0)=pgB f.id b k:=fun k hk=>by
  have hm:f.blocks.getD k 0∈f.blocks:=by
   rw[List.getD_eq_getElem?_getD,List.getElem?_eq_getElem (show k<f.blocks.length by omega)];exact List.getElem_mem _
  obtain ⟨q1,q2⟩:=hb _ hm;obtain ⟨n,hn⟩:∃n:Nat,f.blocks.getD k 0=(n:Int):=⟨(f.blocks.getD k 0).toNat,by omega⟩
  have h4:=h3 k hk;rw[hn,Int.toNat_natCast] at h4;unfold qV qf;rw[hn,hon,if_pos rfl,ZM,decide_eq_true (by omega),if_pos rfl,if_pos rfl,Int.toNat_natCast];unfold ZI;rw[hp];exact h4
 exact zcs h1 hrd h2 (St.pages b.length) 0 (by omega)
def Holds (st:List (List UInt8)) (fs:List zi) (F:List UInt8->List UInt8):Prop:=∀f∈fs,zdv st f (F f.name)
theorem zdv.keep {st st':List (List UInt8)} {f:zi} {b:List UInt8} (h:zdv st f b) (hk:∀z∈f.blocks,st'.getD z.toNat []=st.getD z.toNat []):zdv st' f b:=by
 obtain ⟨h1,h2,h3⟩:=h;refine ⟨h1,h2,fun k hk'=>?_⟩;rw[hk,h3 k hk'];rw[List.getD_eq_getElem?_getD,List.getElem?_eq_getElem (show k<f.blocks.length by omega)];exact List.getElem_mem _
def newF (C:Chg) (F:List UInt8->List UInt8) (x:List UInt8):List UInt8:=match C x with
 |some (some b)=>b
 |_=>F x
theorem zaF:∀{l:List WD} {x:WD} (b:List UInt8),(l.map (·.i)).Nodup->x∈l->qM l x.i b=x.b
 |y::l,x,b,hn,hx=>by
  rw[List.map_cons,List.nodup_cons] at hn;rw[qM];rcases List.mem_cons.1 hx with rfl|hx
  ·rw[if_pos rfl];have:∀(l:List WD) (i:Nat) (b:List UInt8),i∉l.map (·.i)->qM l i b=b:=by
    intro l
    induction l with
    |nil=>intro i b _;rfl
    |cons z l ih=>
     intro i b h;rw[List.map_cons,List.mem_cons,not_or] at h;rw[qM,if_neg (fun e=>h.1 e.symm)];exact ih i b h.2
   exact this l x.i x.b hn.1
  ·exact zaF _ hn.2 hx
theorem zk0 {id:Nat} {bl:List Int} {b:List UInt8}:∀{p:Nat},p<=bl.length->(pgW id bl b p).map (·.i)=(bl.take p).map Int.toNat
 |0,_=>rfl
 |p+1,h=>by
  rw[ze4,List.map_append,zk0 (p:=p) (by omega),List.take_add_one,List.map_append]
  congr 1
  rw[List.getD_eq_getElem?_getD,List.getElem?_eq_getElem (show p<bl.length by omega)];rfl
theorem ziU {C:Chg}:∀{l:List zi},(∀f∈l,St.pages (bodyC C f.name).length<=f.blocks.length)->List.Sublist ((allW C l).map (·.i)) ((zh l).map Int.toNat)
 |[],_=>List.Sublist.refl _
 |f::l,h=>by
  have h1:=ziU (C:=C) (l:=l) fun g hg=>h g (by simp[hg])
  have e1:allW C (f::l)=filW C f++allW C l:=rfl;have e2:zh (f::l)=f.blocks++zh l:=by unfold zh;rfl
  rw[e1,e2,List.map_append,List.map_append];refine List.Sublist.append ?_ h1;unfold filW;rw[zk0 (h f (by simp))];exact (List.take_sublist _ _).map _
theorem zgP {C:Chg} {l:List zi} (hb:XE l) (h:∀f∈l,St.pages (bodyC C f.name).length<=f.blocks.length):((allW C l).map (·.i)).Nodup:=by
 refine List.Nodup.sublist (ziU h) ?_;rw[List.nodup_iff_pairwise_ne,List.pairwise_map];refine (List.nodup_iff_pairwise_ne.1 hb.2).imp_of_mem fun ha hb' hne e=>hne ?_
 have:∀z∈zh l,32<=z:=fun z hz=>by
  unfold zh at hz;obtain ⟨f,hf,hz⟩:=List.mem_flatMap.1 hz;exact ((hb.1 f hf).2.2 z hz).1
 have h1:=this _ ha;have h2:=this _ hb';omega
theorem zkK {C:Chg} {l:List zi} {x:WD} (h:x∈allW C l):∃f∈l,∃k,k<St.pages (bodyC C f.name).length/\x=⟨(f.blocks.getD k 0).toNat,pgB f.id (bodyC C f.name) k⟩:=by
 obtain ⟨f,hf,hx⟩:=List.mem_flatMap.1 h;obtain ⟨k,hk,rfl⟩:=List.mem_map.1 hx;exact ⟨f,hf,k,List.mem_range.1 hk,rfl⟩
theorem zkL {C:Chg} {l:List zi} {f:zi} (hf:f∈l) {k:Nat} (hk:k<St.pages (bodyC C f.name).length):(⟨(f.blocks.getD k 0).toNat,pgB f.id (bodyC C f.name) k⟩:WD)∈allW C l:=
 List.mem_flatMap.2 ⟨f,hf,List.mem_map.2 ⟨k,List.mem_range.2 hk,rfl⟩⟩
theorem zby {bl:List Int} {k:Nat} (h:k<bl.length):bl.getD k 0∈bl:=by
 rw[List.getD_eq_getElem?_getD,List.getElem?_eq_getElem h];exact List.getElem_mem _
theorem zkq {c:Nat} {fs:List zi} {i:Nat} (h:i∈St.Yh c fs):i<c/\32<=i/\(i:Int)∉zh fs:=by
 unfold St.Yh St.qH at h;obtain ⟨h1,h2⟩:=List.mem_filter.1 h;have h1:=List.mem_range.1 h1;unfold St.vw at h2;simp at h2;exact ⟨h1,h2.1,h2.2⟩
section
variable {X:Sto} {l:List (List UInt8)} {m:ManD} {F:List UInt8->List UInt8}
theorem zji {x:List UInt8} {s:Nat} (h:szC X x=some s):∃b,X.C x=some (some b)/\b.length=s:=by
 unfold szC at h
 split at h
 ·rename_i b hb
  injection h with h;exact ⟨b,hb,h⟩
 ·cases h
theorem zeH {x:List UInt8} (h:szC X x=none):bodyC X.C x=[]/\newF X.C F x=F x:=by
 unfold szC at h;unfold bodyC newF
 split at h
 ·cases h
 ·rename_i hn
  cases hC:X.C x with
  |none=>exact ⟨rfl,rfl⟩
  |some z=>
   cases z with
   |none=>exact ⟨rfl,rfl⟩
   |some b=>exact absurd hC (hn b)
theorem xC.writes (h:xC X l m) {x:WD} (hx:x∈allW X.C m.files):x.b.length=128/\x.i<X.S.stored.length/\32<=x.i/\∀z∈zh X.m.files,z.toNat≠x.i:=by
 obtain ⟨f,hf,k,hk,rfl⟩:=zkK hx;refine ⟨zax _ _ _,?_⟩;have hpl:=h.bodies hf;rcases h.file hf with ⟨-,h1,-⟩|⟨s,-,h1,-,h3,h4⟩
 ·rw[(zeH (F:=fun _=>[]) h1).1] at hk;exact absurd hk (by show ¬k<St.pages 0;unfold St.pages;omega)
 ·obtain ⟨i,hi,e⟩:=h4 _ (zby (show k<f.blocks.length by omega));obtain ⟨q1,q2,q3⟩:=zkq hi;show (f.blocks.getD k 0).toNat<_/\32<=(f.blocks.getD k 0).toNat/\_
  rw[e,Int.toNat_natCast];refine ⟨q1,q2,fun z hz e2=>q3 ?_⟩;have e2:z.toNat=i:=e2
  obtain rfl:z=(i:Int):=by omega
  exact hz
structure zmq (X:Sto) (m:ManD) (F:List UInt8->List UInt8) (S:Dsk):Prop where
 calm:Calm S
 on:S.on=true
 size:S.stored.length=X.S.stored.length
 slots:∀j,j<32->S.stored.getD j []=X.S.stored.getD j []
 old:Holds S.stored X.m.files F
 new:Holds S.stored m.files (newF X.C F)
theorem zmD (h:xC X l m) (hc:Calm X.S) (hok:OkS X) (hH:Holds X.S.stored X.m.files F) {S:Dsk} (hst:S.stored=Ds.settle ones 0 0 (allW X.C m.files) X.S.stored) (hp:S.pend=[]) (hon:S.on=true):zmq X m F S:=by
 have hw:=fun x hx=>h.writes (x:=x) hx
 have hsz:S.stored.length=X.S.stored.length:=by rw[hst,xU]
 have hother:∀j,(∀x∈allW X.C m.files,x.i≠j)->S.stored.getD j []=X.S.stored.getD j []:=fun j hj=>by rw[hst,Ya _ _ _ _ _ _ hj]
 have hold:∀z∈zh X.m.files,S.stored.getD z.toNat []=X.S.stored.getD z.toNat []:=fun z hz=>hother _ fun x hx e=>(hw x hx).2.2.2 z hz e.symm
 have hnd:=zgP (C:=X.C) h.2.2.1.2.2 fun f hf=>h.bodies hf
 refine ⟨⟨hp,?_,by rw[hsz];exact hc.size⟩,hon,hsz,fun j hj=>hother j fun x hx e=>by have:=(hw x hx).2.2.1;omega,?_,?_⟩
 ·rw[hst];exact XH _ _ _ _ _ (fun x hx=>⟨(hw x hx).1,(hw x hx).2.1⟩) hc.all
 ·intro f hf;exact (hH f hf).keep fun z hz=>hold z (by unfold zh;exact List.mem_flatMap.2 ⟨f,hf,hz⟩)
 ·intro f hf;rcases h.file hf with ⟨-,h1,h2⟩|⟨s,-,h1,h2,h3,h4⟩
  ·rw[(zeH h1).2];exact (hH f h2).keep fun z hz=>hold z (by unfold zh;exact List.mem_flatMap.2 ⟨f,h2,hz⟩)
  ·obtain ⟨b,hb,hl⟩:=zji h1;have e1:newF X.C F f.name=b:=by unfold newF;rw[hb]
   have e2:bodyC X.C f.name=b:=by unfold bodyC;rw[hb];rfl
   rw[e1];refine ⟨by rw[h2,hl],by rw[h3,hl],fun k hk=>?_⟩;have hmem:=zkL (C:=X.C) hf (k:=k) (by rw[e2];exact hk);have:=hw _ hmem;rw[hst,YP _ _ _ _ this.2.1 (fun x hx=>(hw x hx).1) hc.all,zaF _ hnd hmem,e2]
end
end
section
open Go.RowKit Me Mf Rw Ds Va Go.Maps
section
variable {w w':World} {B P D M N:Nat} {X:Sto} {own ownD T:Nat->Prop}
theorem zjl {H:Type} {w:World} {R:Value->Option (DataW H×List MemPlace)} {b n:Nat} {D:DataW H} (h:w.ownsMap Tryz.prog 9 R b n D):∃es,D=.map es/\∀q∈es,∃x:List UInt8,q.1=Key x:=by
 obtain ⟨es,e,h1,-⟩:=h.entries vJ;refine ⟨es,e,fun q hq=>?_⟩;obtain ⟨es0,clock,hb,F,hs,e0⟩:=h;rw[e] at e0;injection e0 with e0;rw[e0] at hq;obtain ⟨v,hv⟩:=Maps.fit_keys F q (mem_sorted.1 hq);obtain ⟨x,-,hx,-⟩:=za3 hv;exact ⟨x,hx⟩
theorem Chs.zero {C:Chg} {DD:DataW Value} (h:Chs w T M N C DD):Maps.size DD=0↔∀x,C x=none:=by
 obtain ⟨es,rfl,hk⟩:=zjl h.map
 constructor
 ·intro e x;rw[h.no x];have:es=[]:=List.length_eq_zero_iff.1 e;rw[this];rfl
 ·intro hn;show es.length=0
  rw[List.length_eq_zero_iff]
  apply List.eq_nil_iff_forall_not_mem.2
  intro q hq;obtain ⟨x,hx⟩:=hk q hq;have h1:=(h.no x).1 (hn x);rw[Maps.has_eq,List.any_eq_false] at h1;exact h1 q hq (by rw[hx];exact WideAt.sameKey_self (zfl x))
theorem zo.box (h:zo w B P D M N X own ownD) (ho:Out (fun k=>k=P) w w') {X':Sto} {A:Option Addr} {n c:Nat} (hb:Blk w' P [.pointer (some ⟨D,0,none⟩),.int .u64 (X'.m.version:Int),.int .u32 (X'.m.next:Int),.slice A n c,.map (some M),.bool X'.broken])
 (hm:ManK own A n c X'.m w') (hS:X'.S=X.S) (hC:X'.C=X.C) (hok:OkS X'):zo w' B P D M N X' own ownD:=by
 obtain ⟨DD,hc⟩:=h.chs;have hPM:M≠P:=fun e=>by
  obtain ⟨A,n,c,⟨t,hb⟩,-⟩:=h.blk;obtain ⟨es,clock,hm,-⟩:=hc.map;rw[<-e,hm] at hb
  cases hb
 have hoo:Out own w w':=ho.more fun k _ e=>by rw[e];exact h.own P (.inl rfl)
 have hsz:=ho.size;exact {
  blk:=⟨A,n,c,hb,hm⟩
  disk:=by rw[hS];exact h.disk.out ho fun k hk e=>h.dP (by rw[<-e];exact hk)
  chs:=by
   rw[hC];refine ⟨DD,?_,hc.no,fun x z hz=>?_⟩
   ·obtain ⟨es,clock,q1,q2⟩:=hc.map;exact ⟨es,clock,(ho.block M hc.lt hPM).trans q1,q2⟩
   ·obtain ⟨A,k,c,q1,q2,q3,q4,q5⟩:=hc.is x z hz;exact ⟨A,k,c,q1,q2,q3,q4,q5.out hoo⟩
  dP:=h.dP
  dM:=h.dM
  own:=h.own
  low:=fun k hk=>⟨(h.low k hk).1,Nat.lt_of_lt_of_le (h.low k hk).2 hsz⟩
  lP:=h.lP
  lM:=h.lM
  ok:=hok}
def zmy (X X':Sto) (r:Int):Prop:=
 (upD X=false/\X'=X/\r=6) \/
 (upD X=true/\(∀x,X.C x=none)/\X'=X/\r=0) \/
 (upD X=true/\(¬∀x,X.C x=none)/\∃l,ZT X l/\(((∀m,¬xC X l m)/\X'=X/\r=7) \/
   ∃m,xC X l m/\(((putD X m).2≠0/\X'={X with S:=(putD X m).1,broken:=true}/\r=(putD X m).2)\/((putD X m).2=0/\X'=⟨(putD X m).1,m,noC,X.broken⟩/\r=0))))
theorem zdU (h:zo w B P D M N X own ownD) (hN:N<=1000) (hp:X.S.pend.length+4096<=1073741824) :
 Calls Tryz.prog 36 #[.pointer (some ⟨P,0,none⟩)] w fun e w'=>∃X' r,e=.returned (.int .i64 r)/\zmy X X' r/\zew w B P D M N X' own ownD w':=by
 have HU:=gI (zeC h);obtain ⟨u,hu⟩:∃u,u=upD X:=⟨_,rfl⟩
 rw[<-hu] at HU;have HUU:=gI hu;obtain ⟨A0,n0,c0',hbk,-⟩:=h.blk;obtain ⟨c0,c1,c2,c3,c4,c5⟩:=hbk.six;obtain ⟨DD,hc⟩:=h.chs;have HC:=gI hc.map;have HZ:=gI hc.zero;have HNX:=gI (zhg h hN);have HH:=gI h;clear h hu hbk hc
 cases u with
 |false=>
  go_enter Tryz.func36,Tryz.ntmps36
  go_wp2_with (go_at_call 62;refine HU.out.mono ?_;rintro e w' ⟨rfl,rfl⟩)
  go_ret
  exact ⟨X,6,rfl,.inl ⟨HUU.out.symm,rfl,rfl⟩,own,ownD,HH.out,.below (Below.refl _ _)⟩
 |true=>
  obtain ⟨z,hz⟩:∃z,z=Maps.size DD:=⟨_,rfl⟩
  rw[<-hz] at HZ;have hlen:=HC.out.len Tryz.underlying113 3;rw[<-hz] at hlen;clear hz
  by_cases hz0:z=0
  ·subst hz0;have HZ1:=gI (HZ.out.1 rfl)
   go_enter Tryz.func36,Tryz.ntmps36
   go_wp2_with (go_at_call 62;refine HU.out.mono ?_;rintro e w' ⟨rfl,rfl⟩)
   go_ret
   exact ⟨X,0,rfl,.inr (.inl ⟨HUU.out.symm,HZ1.out,rfl,rfl⟩),own,ownD,HH.out,.below (Below.refl _ _)⟩
  ·have HZ1:=gI (show ¬∀x,X.C x=none from fun hn=>hz0 (HZ.out.2 hn));have hzi:((z:Int)==0)=false:=by rw[beq_eq_false_iff_ne];omega
   go_enter Tryz.func36,Tryz.ntmps36
   go_wp2_with (go_at_call 62;refine HU.out.mono ?_;rintro e w' ⟨rfl,rfl⟩)
   refine HNX.out.mono ?_;rintro e w1 ⟨hb1,l,hnl,hll,⟨m,A,n,c,hni,rfl,hm⟩|⟨hno,rfl⟩⟩
   ·have hlt1:=hb1.size;obtain ⟨ver,hver⟩:∃ver,ver=m.version:=⟨_,rfl⟩
    obtain ⟨nx,hnx⟩:∃nx,nx=m.next:=⟨_,rfl⟩
    obtain ⟨w2,hw2⟩:∃w2,w2=w1.alloc (.cells #[.int .u64 (ver:Int),.int .u32 (nx:Int),.slice A n c] 110):=⟨_,rfl⟩
    obtain ⟨G,hG⟩:∃G,G=w1.heap.size:=⟨_,rfl⟩
    have hb12:Below w1.heap.size w1 w2:=by rw[hw2];exact (Below.refl _ _).alloc (Nat.le_refl _) _
    have hb2:Below w.heap.size w w2:=by rw[hw2];exact hb1.alloc hb1.size _
    have HBX:=gI (show Blk w2 G [.int .u64 (ver:Int),.int .u32 (nx:Int),.slice A n c] by rw[hw2,hG];exact Blk.new w1 [.int .u64 (ver:Int),.int .u32 (nx:Int),.slice A n c] _);have HM2:=gI (hm.past hb12);have HH2:=gI (HH.out.past hb2);have HPU:=gI (zjm HH2.out m A n c HM2.out hni.2.2 (fun f hf=>hni.bodies hf) hp);have HNI:=gI hni;have HNL:=gI hnl;have HB2:=gI hb2;have HW2:=gI hw2;have HGG:=gI hG;have HGW:=gI (show w.heap.size<=G by rw[hG];exact hb1.size);have HOK:=gI (show OkS ⟨(putD X m).1,m,noC,X.broken⟩ from ⟨hni.2.2,hm.now.wf,by show St.YL (putD X m).1.stored.length _;rw[zcz];exact hni.onDisk HH.out.ok.disk,by show 32<(putD X m).1.stored.length;rw[zcz];exact HH.out.ok.big,fun x hx=>absurd rfl hx,fun x b hx=>by cases hx⟩);rw[<-hver,<-hnx] at HPU;rw[<-hver,<-hnx];have HVN:=gI (And.intro hver hnx);clear hb1 hnl hll hni hm hlt1 hb12 hb2 hw2 hG c0 c1 c2 c3 c4 c5 hver hnx hlen HNX HU
    go_wp2_with fail
    rw[<-HW2.out];refine HPU.out.mono ?_;rintro e w3 ⟨rfl,hpost⟩;rw[<-HGG.out];obtain ⟨r,hr⟩:∃r,r=(putD X m).2:=⟨_,rfl⟩
    rw[<-hr];have HRR:=gI hr;obtain ⟨own3,ownD3,hs3,hf3⟩:=hpost;have ho3:=HH2.out.foot hf3.1;have hn3:=hf3.2.1;obtain ⟨As,ns,cs,hbk,hmo⟩:=hs3.blk;obtain ⟨d0,d1,d2,d3,d4,d5⟩:=hbk.six;have g0:=hbk.frozen 0;have g1:=hbk.frozen 1;have g2:=hbk.frozen 2;have g3:=hbk.frozen 3;have g5:=hbk.frozen 5;have HBK3:=gI hbk;have HM3:=gI (HM2.out.next ho3 hn3);have HMO:=gI hmo;have HS3:=gI hs3;have HO3:=gI hf3;have hbx:=HBX.out.out ho3 fun h=>by have:=(HH.out.lt h).2;have:=HGW.out;omega
    have b0:=hbx.cell (i:=0) rfl;have b1:=hbx.cell (i:=1) rfl;have b2:=hbx.cell (i:=2) rfl;clear hr hs3 hf3 ho3 hn3 hbk hmo hbx HPU
    by_cases hr0:r=0
    ·subst hr0;have hok4:OkS ⟨(putD X m).1,m,X.C,X.broken⟩:={HOK.out with keys:=HH.out.ok.keys,len:=HH.out.ok.len}
     have ho4:Out (fun k=>k=P) w3 (((w3.setCell ⟨P,1,none⟩ (.int .u64 (ver:Int))).setCell ⟨P,2,none⟩ (.int .u32 (nx:Int))).setCell ⟨P,3,none⟩ (.slice A n c)):=
      (((Out.refl (fun k=>k=P) w3).setCell (p:=⟨P,1,none⟩) (.inl rfl) _).setCell (p:=⟨P,2,none⟩) (.inl rfl) _).setCell (p:=⟨P,3,none⟩) (.inl rfl) _
     have hP3:own3 P:=HS3.out.own P (.inl rfl);have ho4':=ho4.more (S':=own3) fun k _ e=>by rw[e];exact hP3
     have hs4:=HS3.out.box (X':=⟨(putD X m).1,m,X.C,X.broken⟩) ho4 (A:=A) (n:=n) (c:=c) (by
      have:=((HBK3.out.set 1 (.int .u64 (ver:Int))).set 2 (.int .u32 (nx:Int))).set 3 (.slice A n c);rw[HVN.out.1,HVN.out.2] at this ⊢;exact this) (HM3.out.out ho4') rfl rfl hok4
     obtain ⟨DD4,hc4⟩:=hs4.chs;have HC4:=gI hc4.map;have HS4:=gI hs4;have HO4:=gI (ho4.more (S':=Foot P M ownD3) fun k _ e=>.inl e);clear hok4 ho4 ho4' hs4 hc4
     go_wp2_with (refine QA _ rfl _ _ rfl 9 126 Tryz.underlying113 chE M N DD4 rfl HC4.out ?_;intro w5 hw5 hg5;have HW5:=gI hw5;have HG5:=gI hg5;clear hw5 hg5)
     go_ret
     have hs5:=HS4.out.changed HG5.out (Chs.clear HW5.out) (fun x hx=>absurd rfl hx) (fun x b hx=>by cases hx);exact ⟨⟨(putD X m).1,m,noC,X.broken⟩,0,rfl,.inr (.inr ⟨HUU.out.symm,HZ1.out,l,HNL.out,.inr ⟨m,HNI.out,.inr ⟨HRR.out.symm,rfl,rfl⟩⟩⟩),own3,ownD3,hs5,(((Fol.below HB2.out).trans HO3.out).trans (.foot HO4.out)).trans (.foot (HS4.out.map_out HG5.out))⟩
    ·have hd1:(r != 0)=true:=by rw[bne_iff_ne];exact hr0
     go_wp2_with fail
     go_ret
     have ho4:Out (fun k=>k=P) w3 (w3.setCell ⟨P,5,none⟩ (.bool true)):=(Out.refl (fun k=>k=P) w3).setCell (p:=⟨P,5,none⟩) (.inl rfl) _;have hP3:own3 P:=HS3.out.own P (.inl rfl);have ho4':=ho4.more (S':=own3) fun k _ e=>by rw[e];exact hP3
     have hs4:=HS3.out.box (X':=⟨(putD X m).1,X.m,X.C,true⟩) ho4 (A:=As) (n:=ns) (c:=cs) (HBK3.out.set 5 (.bool true)) (HMO.out.out ho4') rfl rfl {HS3.out.ok with};exact ⟨⟨(putD X m).1,X.m,X.C,true⟩,r,rfl,.inr (.inr ⟨HUU.out.symm,HZ1.out,l,HNL.out,.inr ⟨m,HNI.out,.inl ⟨by rw[<-HRR.out];exact hr0,rfl,HRR.out⟩⟩⟩),own3,ownD3,hs4,((Fol.below HB2.out).trans HO3.out).trans (.foot (ho4.more (S':=Foot P M ownD3) fun k _ e=>.inl e))⟩
   ·have HB1:=gI hb1;have HNL:=gI hnl;have HNO:=gI hno;clear hb1 hnl hll hno
    go_wp2_with fail
    go_ret
    have hb2:=HB1.out;refine ⟨X,7,rfl,.inr (.inr ⟨HUU.out.symm,HZ1.out,l,HNL.out,.inl ⟨HNO.out,rfl,rfl⟩⟩),own,ownD,HH.out.past ?_,.below ?_⟩
    all_goals exact HB1.out.alloc HB1.out.size _
end
end
section
open Go.RowKit Me Mf Rw Ds Va Go.Maps
section
variable {w w':World} {B P D M N:Nat} {X:Sto} {own ownD T:Nat->Prop}
def zfG (w:World) (B D:Nat) (S:Dsk) (m:ManD) (own ownD:Nat->Prop) (e:Ending) (w':World):Prop:=
 let q:=if m.version=0 then (S,0) else wmD S m 2
 (q.2≠0/\e=.returned (.tuple #[.pointer none,.int .i64 q.2])/\XD w B D q.1 ownD w') \/
 (q.2=0/\∃P M own' ownD',e=.returned (.tuple #[.pointer (some ⟨P,0,none⟩),.int .i64 0])/\zo w' B P D M 0 ⟨q.1,m,noC,false⟩ own' ownD'/\Out ownD w w'/\(∀k,own' k->own k\/w.heap.size<=k)/\(∀k,own k->own' k)/\(∀k,ownD' k->ownD k\/w.heap.size<=k)/\w.heap.size<=P/\w.heap.size<=M)
theorem zcM {S:Dsk} {m:ManD} (h:zQ w B D S ownD) (hod:∀k,ownD k->own k) (hlo:∀k,own k->B<=k/\k<w.heap.size) (hr:Calls Tryz.prog 53 #[.pointer (some ⟨D,0,none⟩)] w (zbQ w (m,0))) (hf:Fit m) (hw:Wf m) (hd:St.YL S.stored.length m.files) (hs:32<S.stored.length) (hp:S.pend.length+64<=1073741824) :
 Calls Tryz.prog 27 #[.pointer (some ⟨D,0,none⟩)] w (zfG w B D S m own ownD):=by
 have HR:=gI hr;have HD:=gI h;have HF:=gI hf;have HWF:=gI hw;have HOD:=gI hd;clear hr h hf hd hw
 go_enter Tryz.func27,Tryz.ntmps27
 go_wp2_with (go_at_call 53;refine HR.out.mono ?_)
 rintro e w1 ⟨hb1,A,n,c,rfl,hm⟩;obtain ⟨G,hG⟩:∃G,G=w1.heap.size:=⟨_,rfl⟩
 obtain ⟨w2,hw2⟩:∃w2,w2=w1.alloc (.cells #[.int .u64 (m.version:Int),.int .u32 (m.next:Int),.slice A n c] 110):=⟨_,rfl⟩
 obtain ⟨w3,hw3⟩:∃w3,w3=w2.alloc (.map #[] 0):=⟨_,rfl⟩
 obtain ⟨w4,hw4⟩:∃w4,w4=w3.alloc (.cells #[.pointer (some ⟨D,0,none⟩),.int .u64 (m.version:Int),.int .u32 (m.next:Int),.slice A n c,.map (some (G+1)),.bool false] 115):=⟨_,rfl⟩
 have hs2:w2.heap.size=G+1:=by rw[hw2,hG];simp
 have hs3:w3.heap.size=G+1+1:=by rw[hw3,<-hs2];simp
 have hb2:Below w1.heap.size w1 w2:=by rw[hw2];exact (Below.refl _ _).alloc (Nat.le_refl _) _
 have hb3:Below w1.heap.size w1 w3:=by rw[hw3];exact hb2.alloc hb2.size _
 have hb4:Below w1.heap.size w1 w4:=by rw[hw4];exact hb3.alloc hb3.size _
 have hB4:Below w.heap.size w w4:=hb1.trans (hb4.mono hb1.size);have hle:=hb1.size;have hDl:∀{k:Nat},ownD k->B<=k/\k<w.heap.size:=fun hk=>HD.out.lt hk
 have hBw:B<=w.heap.size:=by
  obtain ⟨g,Pv,hl⟩:=HD.out;have:=hl.blk.lt;have:=(HD.out.lt ((hl.own D).2 (.inl rfl))).1;omega
 have hst:zo w4 B (G+1+1) D (G+1) 0 ⟨S,m,noC,false⟩ (fun k=>k=G+1+1\/k=G+1\/own k) ownD:=by
  have hnm:∀k,(k=G+1+1\/k=G+1\/own k)->k<w.heap.size\/w1.heap.size<=k:=fun k hk=>by
   rcases hk with e|e|e
   ·right;omega
   ·right;omega
   ·exact .inl (hlo _ e).2
  have hs4:w4.heap.size=G+1+1+1:=by rw[hw4,<-hs3];simp
  refine ⟨⟨A,n,c,?_,hm.next (.of_below hb4) hnm⟩,HD.out.past hB4,⟨.map [],?_,?_,?_⟩,?_,?_,fun k hk=>?_,fun k hk=>?_,?_,?_,⟨HF.out,HWF.out,HOD.out,hs,fun x hx=>absurd rfl hx,fun x b hx=>by cases hx⟩⟩
  ·rw[hw4,<-hs3];exact Blk.new w3 [.pointer (some ⟨D,0,none⟩),.int .u64 (m.version:Int),.int .u32 (m.next:Int),.slice A n c,.map (some (G+1)),.bool false] _
  ·rw[hw4,hw3];rw[<-hs2];exact (World.ownsMap_made (H:=Value) w2 Tryz.prog 9 chE).alloc _
  ·intro x;exact ⟨fun _=>rfl,fun _=>rfl⟩
  ·intro x z hz
   cases hz
  ·intro h;have:=(hDl h).2;omega
  ·intro h;have:=(hDl h).2;omega
  ·rcases hk with e|e|e
   ·omega
   ·omega
   ·have:=hlo _ e;omega
  ·rcases hk with e|e|e
   ·exact .inl e
   ·exact .inr (.inl e)
   ·exact .inr (.inr (hod _ e))
  ·omega
  ·omega
 have HW2:=gI hw2;have HW3:=gI hw3;have HW4:=gI hw4;have HGG:=gI hG;have HST:=gI hst;have HB4:=gI hB4;have HBX:=gI (show Blk w4 G [.int .u64 (m.version:Int),.int .u32 (m.next:Int),.slice A n c] by
  rw[hw4,hw3,hw2,hG];exact (((Blk.new w1 [.int .u64 (m.version:Int),.int .u32 (m.next:Int),.slice A n c] _).alloc _).alloc _))
 have HMK:=gI (hm.next (T':=ownD) (.of_below hb4) fun k hk=>.inl (hDl hk).2);have HBL:=gI (zaW hst);have HLE:=gI hle;have HOD2:=gI (And.intro hod hlo);have hmm:=@run_makeMap Tryz.prog;clear hod hlo hw2 hw3 hw4 hb2 hb3 hb4 hB4 hst hb1 hm hG hs2 hs3 hle hDl HR hBw
 go_wp2_with fail
 rw[<-HW2.out,<-HGG.out,<-HW3.out,<-HW4.out];refine HBL.out.mono ?_;rintro e w5 ⟨D2,own2,rfl,-,hb5⟩;have hg5:=HBX.out.past hb5;have b0:=hg5.cell (i:=0) rfl;have b1:=hg5.cell (i:=1) rfl;have b2:=hg5.cell (i:=2) rfl;have HS5:=gI (HST.out.past hb5);have HB5:=gI (HB4.out.trans (hb5.mono HB4.out.size));have HM5:=gI (HMK.out.past hb5);obtain ⟨v,hv⟩:∃v,v=m.version:=⟨_,rfl⟩
 have HV:=gI hv;rw[<-hv] at b0 ⊢;clear hg5 hb5 hv hmm
 by_cases hv0:v=0
 ·subst hv0
  go_wp2_with fail
  go_ret2
  have hv:=HV.out;refine .inr ?_;rw[if_pos hv.symm];have:=HLE.out;have:=HGG.out;refine ⟨rfl,_,_,_,_,rfl,HS5.out,.of_below HB5.out,fun k hk=>?_,fun k hk=>.inr (.inr hk),fun k hk=>.inl hk,by omega,by omega⟩;rcases hk with e|e|e
  ·right;omega
  ·right;omega
  ·exact .inl e
 ·have hvi:((v:Int)==0)=false:=by rw[beq_eq_false_iff_ne];omega
  have hsm:Small m:=ZB (by have:=HF.out.2;omega);have HWR:=gI (zaC HS5.out.disk A n c m HM5.out.now hsm HF.out (show S.pend.length+32<=_ by omega));rw[<-HV.out] at HWR;clear hsm
  go_wp2_with fail
  refine HWR.out.mono ?_;rintro e w6 ⟨rfl,hd6⟩;obtain ⟨r,hr⟩:∃r,r=(wmD S m 2).2:=⟨_,rfl⟩
  have HRR:=gI hr;have HD6:=gI hd6;rw[<-hr];clear hr hd6 b0 b1 b2
  by_cases hr0:r=0
  ·subst hr0
   go_wp2_with fail
   go_ret2
   have hv:=HV.out;refine .inr ?_;rw[if_neg (by omega)];obtain ⟨own6,ownD6,h6,ho6,hn6,hg6,hd6⟩:=HS5.out.disked HD6.out (Y8 S m 2);have hle:=HLE.out;have hgg:=HGG.out;have hsz:=HB5.out.size;have hob:Out ownD w w6:=(Out.of_below HB5.out).trans' ho6 fun k hk=>by
    rcases hk with e|e|e
    ·right;omega
    ·right;omega
    ·exact .inl e
   refine ⟨HRR.out.symm,_,_,_,_,rfl,h6,hob,fun k hk=>?_,fun k hk=>hg6 k (.inr (.inr hk)),fun k hk=>(hd6 k hk).imp (fun q=>q) fun q=>by omega,by omega,by omega⟩;rcases hn6 k hk with (e|e|e)|e
   ·right;omega
   ·right;omega
   ·exact .inl e
   ·right;omega
  ·have hd1:(r != 0)=true:=by rw[bne_iff_ne];exact hr0
   go_wp2_with fail
   go_ret2
   have hv:=HV.out;refine .inl ?_;rw[if_neg (by omega)];refine ⟨by rw[<-HRR.out];exact hr0,by rw[<-HRR.out];rfl,?_⟩;obtain ⟨own6,h6,ho6,hn6⟩:=HD6.out;exact ⟨own6,h6,(Out.of_below HB5.out).trans ho6,fun k hk=>(hn6 k hk).imp (fun q=>q) fun q=>Nat.le_trans HB5.out.size q⟩
end
end
section
open Go.RowKit Me Mf Rw Ds Go.Maps
theorem zeA {S:Dsk} (h:Calm S) {m:ManD} (hf:Fit m) {j:Nat} (hj:32<=j):(wmD S m 2).1.stored.getD j []=S.stored.getD j []:=by
 have hl:=qR hf;have hsz:=h.size;have e1:wmD S m 1=zM S (m.version%2) (xZ m):=by rw[wmD,if_pos (show (wmD S m 0).2=0 from rfl)];rfl
 have ha:=Yq h.pend h.all (n:=m.version%2) (by omega) hl;rcases qB h.pend h.all (n:=m.version%2) (by omega) hl with ⟨q0,q1,q2,q3,q4,q5⟩|⟨q0,q1,q2⟩
 ·rw[<-e1] at q0 q1 q2 q3 q4 q5 ha;have e2:wmD S m 2=zM (wmD S m 1).1 ((m.version+1)%2) (xZ m):=by rw[wmD,if_pos q0]
  rcases qB q3 ha.1 (n:=(m.version+1)%2) (by rw[q5];omega) hl with ⟨r0,r1,r2,r3,r4,r5⟩|⟨r0,r1,r2⟩
  ·rw[e2,r2 j (by omega),q2 j (by omega)]
  ·rw[e2,r1,q2 j (by omega)]
 ·rw[<-e1] at q0 q1 q2;rw[QW q0 2 (by omega),q1]
section
variable {X:Sto} {l:List (List UInt8)} {m:ManD} {F:List UInt8->List UInt8}
theorem zer {m:ManD} (hf:Fit m) {f:zi} (h:f∈m.files) {z:Int} (hz:z∈f.blocks):32<=z.toNat:=by
 have:=((hf.1.2.2.1 f h).2.2 z hz).1;omega
theorem Holds.high {st st':List (List UInt8)} (h:Holds st m.files F) (hf:Fit m) (hk:∀j,32<=j->st'.getD j []=st.getD j []):Holds st' m.files F:=fun f hfm=>(h f hfm).keep fun _ hz=>hk _ (zer hf hfm hz)
structure Rest (X:Sto) (F:List UInt8->List UInt8):Prop where
 calm:Calm X.S
 on:X.S.on=true
 fuse:X.S.fuse<0
 ok:OkS X
 live:X.broken=false
 holds:Holds X.S.stored X.m.files F
 slots:(X.m=ql/\∀k,k<2->Zf X.S.stored k 16=zaX)\/(0<X.m.version/\∀k,k<2->Zf X.S.stored k 16=xZ X.m)
theorem Rest.up (h:Rest X F):upD X=true:=by unfold upD;rw[h.live,h.on];rfl
theorem Rest.new {n:Nat} (hn:32<n):Rest ⟨newD n,ql,noC,false⟩ F:=
 ⟨zj3 (by omega),rfl,by show (-1:Int)<0;omega,⟨zbB,zdD,fun z hz=>(by cases hz),by simpa [newD] using hn,fun x hx=>absurd rfl hx,fun x b hx=>by cases hx⟩,rfl,fun f hf=>(by cases hf),.inl ⟨rfl,fun k hk=>zaj k 16 n (by omega)⟩⟩
theorem Rest.change (h:Rest X F) {C:Chg} (hok:OkS {X with C:=C}):Rest {X with C:=C} F:={h with ok:=hok}
theorem Rest.read (h:Rest X F):∃T Z,(∀k,k<2->Says (qJ X.S k 16) (T k))/\(∀k,k<2->Z k=zeros (qJ X.S k 16))/\ansD X.S T Z=(X.m,0):=by
 obtain ⟨T,Z,hT,hZ⟩:=zhh X.S;refine ⟨T,Z,hT,hZ,?_⟩;have hsl:∀k,k<2->qJ X.S k 16=Zf X.S.stored k 16:=fun k hk=>Qk h.on h.calm.pend h.calm.size (by omega) 16 (Nat.le_refl _)
 have hbig:=h.ok.big;unfold ansD;rw[if_neg (by omega),h.on];rcases h.slots with ⟨hm,hb⟩|⟨hv,hs⟩
 ·have hall:∀k,k<2->T k=none:=fun k hk=>by
   have:=hT k hk;rw[hsl k hk,hb k hk] at this;exact this.one zfR
  have hz:QF Z 2=true:=by
   unfold QF;rw[hZ 1 (by omega),hsl 1 (by omega),hb 1 (by omega),zdz,Bool.or_true]
  rw[if_pos rfl,hz];unfold Z4 Z4 Z4;rw[hall 0 (by omega),hall 1 (by omega),hm];rfl
 ·have hall:∀k,k<2->T k=some X.m:=fun k hk=>by
   have:=hT k hk;rw[hsl k hk,hs k hk] at this;exact this.one (zhl h.ok.wf h.ok.fit)
  exact zl5 (.inl ⟨hall 0 (by omega),.inl (hall 1 (by omega))⟩)
theorem ze1 {S:Dsk} {id:Nat} {bl:List Int} {b:List UInt8} (hon:S.on=true) (hf:S.fuse<0):∀k,(∀i,i<k->0<=bl.getD i 0/\bl.getD i 0<(S.stored.length:Int))->(ptD S id bl b k).2=0/\(ptD S id bl b k).1.on=true/\(ptD S id bl b k).1.fuse=S.fuse
 |0,_=>⟨rfl,hon,rfl⟩
 |k+1,h=>by
  obtain ⟨h0,h1,h2⟩:=ze1 (id:=id) (bl:=bl) (b:=b) hon hf k fun i hi=>h i (by omega)
  obtain ⟨q1,q2⟩:=h k (by omega);obtain ⟨n,hn⟩:∃n:Nat,bl.getD k 0=(n:Int):=⟨(bl.getD k 0).toNat,by omega⟩
  rw[ptD,if_pos h0,hn,zbT h1 (by omega) (by rw[zbj];omega) (zax _ _ _)];exact ⟨rfl,h1,h2⟩
theorem zat {C:Chg}:∀(l:List zi) (S:Dsk),S.on=true->S.fuse<0->(∀f∈l,∀i,i<St.pages (bodyC C f.name).length->0<=f.blocks.getD i 0/\f.blocks.getD i 0<(S.stored.length:Int))->(yL C S l).2=0/\(yL C S l).1.on=true/\(yL C S l).1.fuse=S.fuse
 |[],S,hon,_,_=>⟨rfl,hon,rfl⟩
 |f::l,S,hon,hf,h=>by
  obtain ⟨h0,h1,h2⟩:=ze1 (id:=f.id) (bl:=f.blocks) (b:=bodyC C f.name) hon hf _ (h f (by simp));have e:(putP S f (bodyC C f.name)).2=0:=h0;rw[yL,if_pos e];have h1':(putP S f (bodyC C f.name)).1.on=true:=h1;have h2':(putP S f (bodyC C f.name)).1.fuse=S.fuse:=h2;obtain ⟨q0,q1,q2⟩:=zat l (putP S f (bodyC C f.name)).1 h1' (by omega) fun g hg i hi=>by rw[Zj];exact h g (by simp[hg]) i hi
  exact ⟨q0,q1,by rw[q2,h2']⟩
theorem Rest.commit (h:Rest X F) (hn:xC X l m) (hw:Wf m):(putD X m).2=0/\Rest ⟨(putD X m).1,m,noC,X.broken⟩ (newF X.C F):=by
 obtain ⟨q0,q1,q2⟩:=zat (C:=X.C) m.files X.S h.on h.fuse fun f hf i hi=>by
  have hi2:i<f.blocks.length:=by have:=hn.bodies hf;omega
  have h1:=((hn.2.2.1.2.2.1 f hf).2.2 _ (zby hi2)).1;have h2:=hn.onDisk h.ok.disk _ (by unfold zh;exact List.mem_flatMap.2 ⟨f,hf,zby hi2⟩);exact ⟨by omega,h2⟩
 have hsy:(yB (yL X.C X.S m.files).1).2=0/\(yB (yL X.C X.S m.files).1).1.fuse=X.S.fuse:=by
  have hf:=h.fuse;unfold yB;rw[q1,if_pos rfl,Xh (by omega),if_pos q1];exact ⟨rfl,q2⟩
 obtain ⟨s0,s1,s2,s3⟩:(yB (yL X.C X.S m.files).1).2=0/\(yB (yL X.C X.S m.files).1).1.stored=Ds.settle ones 0 0 (yL X.C X.S m.files).1.pend (yL X.C X.S m.files).1.stored/\(yB (yL X.C X.S m.files).1).1.pend=[]/\(yB (yL X.C X.S m.files).1).1.on=true:=by
  rcases YN (yL X.C X.S m.files).1 with q|⟨q,-⟩
  ·exact q
  ·exact absurd hsy.1 q
 obtain ⟨ws,w1,w2,w3⟩:=Vd X.C m.files X.S;rw[h.calm.pend,List.nil_append,w3 q0] at w2;have hP:zmq X m F (yB (yL X.C X.S m.files).1).1:=zmD hn h.calm h.ok h.holds (by rw[s1,w2,Zi]) s2 s3;have e:putD X m=wmD (yB (yL X.C X.S m.files).1).1 m 2:=by unfold putD;rw[if_pos q0,if_pos s0]
 obtain ⟨S,hS⟩:∃S,S=(yB (yL X.C X.S m.files).1).1:=⟨_,rfl⟩
 rw[<-hS] at hP e hsy;have hfit:=hn.2.2;obtain ⟨d1,d2⟩:=zeB hP.calm hfit hP.on (by rw[hsy.2];exact h.fuse);refine ⟨by rw[e];exact d1,?_⟩;have hv:0<m.version:=by
  obtain ⟨hp,-,-⟩:=hn;unfold St.QE at hp
  cases hr:St.yX X.m.files (YE X l) (St.Yh X.S.stored.length X.m.files) X.m.next with
  |none=>rw[hr] at hp;cases hp
  |some r=>
   rw[hr] at hp;injection hp with hp;rw[<-hp];exact Nat.succ_pos _
 rcases zbW hP.calm hfit with ⟨c0,-⟩|⟨c0,-⟩|⟨-,c1,c2,c3,c4⟩
 ·exact absurd d1 c0
 ·exact absurd d1 c0
 ·rw[e];refine ⟨c2,c3,by show (wmD S m 2).1.fuse<0;rw[d2,hsy.2];exact h.fuse,⟨hfit,hw,?_,?_,fun x hx=>absurd rfl hx,fun x b hx=>by cases hx⟩,h.live,?_,.inr ⟨hv,c1⟩⟩
  ·show St.YL (wmD S m 2).1.stored.length _
   rw[c4,hP.size];exact hn.onDisk h.ok.disk
  ·show 32<(wmD S m 2).1.stored.length
   rw[c4,hP.size];exact h.ok.big
  ·exact hP.new.high hfit fun j hj=>zeA hP.calm hfit hj
theorem Rest.anew (h:Rest X F):(if X.m.version=0 then (X.S,(0:Int)) else wmD X.S X.m 2).2=0/\Rest ⟨(if X.m.version=0 then (X.S,(0:Int)) else wmD X.S X.m 2).1,X.m,noC,false⟩ F:=by
 have hok:OkS ⟨X.S,X.m,noC,false⟩:={h.ok with keys:=fun x hx=>absurd rfl hx,len:=fun x b hx=>by cases hx}
 split
 ·exact ⟨rfl,h.calm,h.on,h.fuse,hok,rfl,h.holds,h.slots⟩
 ·rename_i hv
  have hfit:=h.ok.fit;obtain ⟨d1,d2⟩:=zeB h.calm hfit h.on h.fuse;refine ⟨d1,?_⟩;rcases zbW h.calm hfit with ⟨c0,-⟩|⟨c0,-⟩|⟨-,c1,c2,c3,c4⟩
  ·exact absurd d1 c0
  ·exact absurd d1 c0
  ·refine ⟨c2,c3,by show (wmD X.S X.m 2).1.fuse<0;rw[d2];exact h.fuse,{hok with disk:=?_,big:=?_},rfl,h.holds.high hfit fun j hj=>zeA h.calm hfit hj,.inr ⟨by show 0<X.m.version;omega,c1⟩⟩
   ·show St.YL (wmD X.S X.m 2).1.stored.length _
    rw[c4];exact h.ok.disk
   ·show 32<(wmD X.S X.m 2).1.stored.length
    rw[c4];exact h.ok.big
theorem Rest.file (h:Rest X F) {f:zi} (hf:f∈X.m.files):zbi X.S f=(F f.name,0):=by
 refine zeS h.on h.calm.pend (h.holds f hf) fun z hz=>⟨?_,h.ok.disk z (by unfold zh;exact List.mem_flatMap.2 ⟨f,hf,hz⟩)⟩
 have:=((h.ok.fit.1.2.2.1 f hf).2.2 z hz).1;omega
theorem X7 {m:ManD} {x:List UInt8}:fileOf m x=none↔x∉m.files.map (·.name):=by
 unfold fileOf;rw[List.find?_eq_none]
 simp
theorem Rest.reads (h:Rest X F) (x:List UInt8):xS X x=if hasN X x then (newF X.C F x,0) else ([],8):=by
 unfold xS hasN newF;rw[h.up,if_pos rfl]
 cases hC:X.C x with
 |some z=>
  cases z with
  |some b=>rfl
  |none=>rfl
 |none=>
  cases hf:fileOf X.m x with
  |none=>
   have:=X7.1 hf;simp only[decide_eq_true_eq];rw[if_neg this]
  |some f=>
   obtain ⟨h1,h2⟩:=xK hf;have:x∈X.m.files.map (·.name):=List.mem_map.2 ⟨f,h1,h2⟩;simp only[decide_eq_true_eq];rw[if_pos this,h.file h1,h2]
end
end
section
open Go.RowKit Me Mf Rw Ds Va Go.Maps
section
variable {w:World} {p:Value}
end
end
section
open Go.RowKit Me Mf Rw Ds Va Go.Maps
theorem zgo {S:Dsk} {m:ManD}:(if m.version=0 then (S,(0:Int)) else wmD S m 2).1.stored.length=S.stored.length:=by
 split
 ·rfl
 ·exact Y8 S m 2
theorem zfG.rest {X:Sto} {F:List UInt8->List UInt8} {w w':World} {B D:Nat} {own ownD:Nat->Prop} {e:Ending} (h:zfG w B D X.S X.m own ownD e w') (hr:Rest X F) :
 ∃P M own' ownD' S',e=.returned (.tuple #[.pointer (some ⟨P,0,none⟩),.int .i64 0])/\zo w' B P D M 0 ⟨S',X.m,noC,false⟩ own' ownD'/\Rest ⟨S',X.m,noC,false⟩ F/\S'.stored.length=X.S.stored.length/\Out ownD w w'/\(∀k,own' k->own k\/w.heap.size<=k)/\(∀k,own k->own' k)/\(∀k,ownD' k->ownD k\/w.heap.size<=k)/\w.heap.size<=P/\w.heap.size<=M:=by
 obtain ⟨h1,h2⟩:=hr.anew;rcases h with ⟨q,-⟩|⟨-,P,M,own,ownD2,he,hst,ho2,hn2⟩
 ·exact absurd h1 q
 ·exact ⟨P,M,own,ownD2,_,he,hst,h2,zgo,ho2,hn2⟩
end
section
open Go.RowKit Me Mf Rw Ds Va Go.Maps
section
variable {w w':World} {B P D M N:Nat} {X:Sto} {own own' ownD T:Nat->Prop}
theorem zo.wide (h:zo w B P D M N X own ownD) (ho:Out own w w') (hF:Out (fun k=>own k/\¬Foot P M ownD k) w w') (h1:∀k,own k->own' k) (h2:∀k,own' k->own k\/w.heap.size<=k) (h3:∀k,own' k->B<=k/\k<w'.heap.size):zo w' B P D M N X own' ownD:=by
 obtain ⟨A,n,c,b1,b2⟩:=h.blk;obtain ⟨DD,hc⟩:=h.chs;exact {
  blk:=⟨A,n,c,b1.out hF fun e=>e.2 (.inl rfl),b2.next ho h2⟩
  disk:=h.disk.out hF fun k hk e=>e.2 (.inr (.inr hk))
  chs:=by
   refine ⟨DD,?_,hc.no,fun x z hz=>?_⟩
   ·obtain ⟨es,clock,q1,q2⟩:=hc.map;exact ⟨es,clock,(hF.block M hc.lt fun e=>e.2 (.inr (.inl rfl))).trans q1,q2⟩
   ·obtain ⟨A,k,c,q1,q2,q3,q4,q5⟩:=hc.is x z hz;exact ⟨A,k,c,q1,q2,q3,q4,q5.next ho h2⟩
  dP:=h.dP
  dM:=h.dM
  low:=h3
  own:=fun k hk=>h1 k (h.own k hk)
  lP:=h.lP
  lM:=h.lM
  ok:=h.ok}
theorem zo.with (h:zo w B P D M N X own ownD) (hb:Below w.heap.size w w') {E:Nat->Prop} (hE:∀k,E k->w.heap.size<=k/\k<w'.heap.size) (hB:B<=w.heap.size):zo w' B P D M N X (fun k=>own k\/E k) ownD:=
 h.wide (.of_below hb) (.of_below hb) (fun k hk=>.inl hk) (fun k hk=>hk.imp (fun q=>q) fun q=>(hE k q).1) fun k hk=>by
  rcases hk with q|q
  ·exact ⟨(h.low k q).1,Nat.lt_of_lt_of_le (h.low k q).2 hb.size⟩
  ·have:=hE k q;omega
theorem zo.kept (h:zo w B P D M N X own ownD) (ho:Out T w w') (hT:∀k,k<w.heap.size->T k->own k/\¬Foot P M ownD k):zo w' B P D M N X own ownD:=
 h.wide (ho.more fun k hk q=>(hT k hk q).1) (ho.more fun k hk q=>hT k hk q) (fun k hk=>hk) (fun k hk=>.inl hk) fun k hk=>⟨(h.low k hk).1,Nat.lt_of_lt_of_le (h.low k hk).2 ho.size⟩
end
end
section
open Go.RowKit Me Mf Rw Ds Va Go.Maps
abbrev FB:=List UInt8×List UInt8
def fcl (l:List FB):List Value:=l.flatMap fun f=>[sv f.1,sv f.2]
theorem YB:∀l:List FB,(fcl l).length=l.length*2
 |[]=>rfl
 |f::l=>by
  show ([sv f.1,sv f.2]++fcl l).length=_
  rw[List.length_append,YB l,List.length_cons]
  simp
  omega
theorem vk (l m:List FB):fcl (l++m)=fcl l++fcl m:=by unfold fcl;rw[List.flatMap_append]
theorem zk5:∀{l:List FB} {k:Nat} {f:FB},l[k]?=some f->(fcl l)[k*2]?=some (sv f.1)/\(fcl l)[k*2+1]?=some (sv f.2)
 |g::l,0,f,h=>by
  injection h with h;subst h;exact ⟨rfl,rfl⟩
 |g::l,k+1,f,h=>by
  have:=zk5 (l:=l) (k:=k) (f:=f) h;have e:(k+1)*2=k*2+1+1:=by omega
  rw[e];exact this
theorem Xu {w:World} {B:Nat} {A:Option Addr} {l:List FB} (h:Cs w B A (fcl l)) {k:Nat} {f:FB} (hf:l[k]?=some f):∃a,A=some a/\w.cell? (a.add (k*2))=some (sv f.1)/\w.cell? ⟨(a.add (k*2)).block,(a.add (k*2)).off+1,none⟩=some (sv f.2):=by
 obtain ⟨h1,h2⟩:=zk5 hf;have hk:=(List.getElem?_eq_some_iff.1 hf).1;obtain ⟨a,e,-,hc⟩:=h (by rw[YB];omega);refine ⟨a,e,hc _ _ h1,?_⟩;have:=hc _ _ h2
 rwa[xX a (k*2) 0] at this
def X6 (l:List FB) (x:List UInt8):Int×Bool:=match l.findIdx? fun f=>f.1==x with
 |some i=>((i:Int),true)
 |none=>(0,false)
theorem zcl (A:Option Addr) (n c:Nat) (l:List FB) (x:List UInt8) (w:World) (hl:l.length=n) (hn:n<=1000000) (hc:Cs w w.heap.size A (fcl l)) :
 Calls Tryz.prog 32 #[.slice A n c,sv x] w fun e w'=>e=.returned (.tuple #[.int .i64 (X6 l x).1,.bool (X6 l x).2])/\w=w':=by
 have HL:=gI hl;have HC:=gI hc;obtain ⟨R,hR⟩:∃R,R=X6 l x:=⟨_,rfl⟩
 rw[<-hR];have HR:=gI hR;clear hl hc hR
 go_enter Tryz.func32,Tryz.ntmps32
 go_wp2_with fail
 go_loopw [9] (fun z wr=>∃j:Nat,z=.int .i64 (j:Int)/\j<=n/\wr=w/\Hid (∀i f,i<j->l[i]?=some f->f.1≠x)) (fun z _=>n-(intOf z).toNat)
 case atStart=>exact ⟨0,rfl,Nat.zero_le _,rfl,gI fun i f hi=>by omega⟩
 case round=>
  obtain ⟨j,rfl,hj,hwr,HI⟩:=hrel;subst hwr
  by_cases hlt:j<n
  ·obtain ⟨f,hf⟩:∃f,l[j]?=some f:=⟨l[j]'(by rw[HL.out];exact hlt),List.getElem?_eq_getElem _⟩
   obtain ⟨a,rfl,h1,h2⟩:=Xu HC.out hf;have HFJ:=gI hf;have hlt':(j:Int)<(n:Int):=by omega
   clear hf
   by_cases he:f.1=x
   ·have HRR:=gI (show R=((j:Int),true) by
     rw[HR.out];unfold X6;have:l.findIdx? (fun f=>f.1==x)=some j:=by
      rw[List.findIdx?_eq_some_iff_getElem];obtain ⟨hjl,e⟩:=List.getElem?_eq_some_iff.1 HFJ.out;exact ⟨hjl,by rw[e];simpa using he,fun i hi=>by
       have:=HI.out i l[i] hi (List.getElem?_eq_getElem _)
       simpa using this⟩
     rw[this])
    rw[he] at h1
    go_wp2_with fail
    go_ret2
    exact ⟨by rw[HRR.out];rfl,rfl⟩
   ·have hne:(f.1==x)=false:=by rw[beq_eq_false_iff_ne];exact he
    have HN2:=gI (show ∀i g,i<j+1->l[i]?=some g->g.1≠x from fun i g hi hg=>by
     rcases (show i<j\/i=j by omega) with h|rfl
     ·exact HI.out i g h hg
     ·rw[HFJ.out] at hg;injection hg with hg;rw[<-hg];exact he)
    go_wp2_with fail
    exact ⟨⟨j+1,by simp,hlt,trivial,HN2⟩,by simp[intOf];omega⟩
  ·have e:j=n:=by omega
   subst e;have HRR:=gI (show R=(0,false) by
    rw[HR.out];unfold X6;have:l.findIdx? (fun f=>f.1==x)=none:=by
     rw[List.findIdx?_eq_none_iff];intro f hf;obtain ⟨i,hi⟩:=List.mem_iff_getElem?.1 hf;have:=HI.out i f (by rw[<-HL.out];exact (List.getElem?_eq_some_iff.1 hi).1) hi
     simpa using this
    rw[this])
   go_wp2_with fail
   go_ret2
   exact ⟨by rw[HRR.out];rfl,rfl⟩
theorem zmn:(Tryz.prog.info? 89).map (fun i=>(i.zero,i.size,i.bytes))=some (some (.agg #[.string ⟨#[]⟩,.string ⟨#[]⟩]),2,32):=by kernel_rfl
theorem qd (w:World) (x b:List UInt8):(Instr.buildSlice 41 1 #[(0,.agg #[sv x,sv b])]).run Tryz.prog w=.ok (.slice (some ⟨w.heap.size,0,none⟩) 1 1) (w.alloc (.cells #[sv x,sv b] 89)):=by
 simp[go_sem]
theorem zjd (w:World) (a b:Value) (t:TypeId):∀j u,[a,b][j]?=some u->(w.alloc (.cells #[a,b] t)).cell? ((⟨w.heap.size,0,none⟩:Addr).add j)=some u:=by
 intro j u hu;obtain ⟨y,e,-,hc⟩:=Cs.lit w #[a,b] t (by simp);injection e with e;rw[e];exact hc j u (by simpa using hu)
theorem zjc (s t:ByteArray):∀u∈[Value.string s,.string t],u.oneCell'=true:=by
 intro u hu;simp at hu;rcases hu with rfl|rfl<;>rfl
theorem zav {w:World} {B j fc:Nat} {FA:Option Addr} {vs:List Value} (hr:w.ownsRow B 89 2 (.slice FA j fc) j vs) (hB:B<=w.heap.size) (hj:j<=1000000) (x b:List UInt8) :
 ∃FA' fc' w',(Builtin.append_ #[41,41] 41 #[.slice FA j fc,.slice (some ⟨w.heap.size,0,none⟩) 1 1]).run Tryz.prog (w.alloc (.cells #[sv x,sv b] 89))=.ok (.slice FA' (j+1) fc') w' /\
  w'.ownsRow B 89 2 (.slice FA' (j+1) fc') (j+1) (vs++[sv x,sv b])/\Out (fun k=>(Value.slice FA j fc).ownBlock=some k) w w':=by
 obtain ⟨i0,hi0,hz0,hz1,hz2⟩:=info_parts zmn;have hs5:(w.alloc (.cells #[sv x,sv b] 89)).heap.size=w.heap.size+1:=by simp
 obtain ⟨v',wB,h1,h2,h3,-,h5⟩:=run_append_own_at (P:=Tryz.prog) (w.alloc (.cells #[sv x,sv b] 89)) B 41 41 89 i0 _ 2 32 Tryz.underlying41 hi0 hz0 hz1 hz2 rfl (by decide) (.slice FA j fc) j vs (hr.alloc (.cells #[sv x,sv b] 89)) ⟨w.heap.size,0,none⟩ 1 1 [sv x,sv b] rfl (zjd w (sv x) (sv b) _) (zjc _ _) (by unfold maxLen;omega) (by omega) (by rw[hs5];omega);obtain ⟨FA',fc',rfl,hfc⟩:=zC h2;exact ⟨FA',fc',wB,h1,h2,((Out.refl _ w).alloc _).grown h3 fun k e=>.inl e⟩
theorem ze9 (w:World):(w.alloc (.cells #[] 89)).ownsRow w.heap.size 89 2 (.slice (some ⟨w.heap.size,0,none⟩) 0 0) 0 []:=
 World.ownsRow_lit w #[] 0 (Nat.le_refl _) (by unfold maxLen;omega) rfl
def yC (l:List FB) (x:List UInt8):List FB:=l.filter fun f=> !(f.1==x)
def zla (w:World) (l:List FB) (e:Ending) (w':World):Prop:=∃A n c,e=.returned (.slice A n c)/\l.length=n/\w'.ownsRow w.heap.size 89 2 (.slice A n c) n (fcl l)/\Below w.heap.size w w'
theorem zcb (A:Option Addr) (n c:Nat) (l:List FB) (x:List UInt8) (w:World) (hl:l.length=n) (hn:n<=1000000) (hc:Cs w w.heap.size A (fcl l)) :
 Calls Tryz.prog 65 #[.slice A n c,sv x] w (zla w (yC l x)):=by
 have HL:=gI hl;have HC:=gI hc;clear hl hc
 go_enter Tryz.func65,Tryz.ntmps65
 go_wp2_with fail
 go_loopw [10,5] (fun z v wr=>∃(j:Nat) (FA:Option Addr) (k fc:Nat),z=.int .i64 (j:Int)/\v=.slice FA k fc/\j<=n/\k<=j/\Hid (Below w.heap.size w wr)/\Hid ((yC (l.take j) x).length=k)/\Hid (wr.ownsRow w.heap.size 89 2 (.slice FA k fc) k (fcl (yC (l.take j) x)))) (fun z _ _=>n-(intOf z).toNat)
 case atStart=>exact ⟨0,_,0,0,rfl,rfl,Nat.zero_le _,Nat.zero_le _,gI ((Below.refl _ _).alloc (Nat.le_refl _) _),gI rfl,gI (ze9 w)⟩
 case round=>
  obtain ⟨j,FA,k,fc,rfl,rfl,hj,hk,HB,HK,HR⟩:=hrel
  by_cases hlt:j<n
  ·obtain ⟨f,hf⟩:∃f,l[j]?=some f:=⟨l[j]'(by rw[HL.out];exact hlt),List.getElem?_eq_getElem _⟩
   obtain ⟨a,rfl,h1,h2⟩:=Xu ((HC.out.below HB.out).more HB.out.size) hf;have HFJ:=gI hf;have hlt':(j:Int)<(n:Int):=by omega
   clear hf
   by_cases he:f.1=x
   ·rw[he] at h1;have HE:=gI (show yC (l.take (j+1)) x=yC (l.take j) x by
     unfold yC;rw[List.take_add_one,HFJ.out,List.filter_append];simp[he])
    go_wp2_with fail
    exact ⟨⟨j+1,FA,k,fc,by simp,rfl,hlt,by omega,HB,gI (by rw[HE.out];exact HK.out),gI (by rw[HE.out];exact HR.out)⟩,by simp[intOf];omega⟩
   ·have hne:(f.1==x)=false:=by rw[beq_eq_false_iff_ne];exact he
    obtain ⟨FA',fc',w2,hrun,hrow,ho⟩:=zav HR.out HB.out.size (by omega) f.1 f.2;have hbs:=qd wr f.1 f.2;have HRUN:=gI hrun;have HROW:=gI hrow;have HOUT:=gI ho;have HE:=gI (show yC (l.take (j+1)) x=yC (l.take j) x++[f] by
     unfold yC;rw[List.take_add_one,HFJ.out,List.filter_append];simp[he])
    clear hrun hrow ho
    go_wp2_with (at_builtin;refine wpList_append_run rfl _ _ 41 rfl _ _ _ rfl rfl HRUN.out ?_)
    exact ⟨⟨j+1,FA',k+1,fc',by simp,rfl,hlt,by omega,gI (HB.out.trans (HOUT.out.below (fun q _ hq=>(HR.out.lt q hq).1) HB.out.size)),gI (by rw[HE.out,List.length_append,HK.out];rfl),gI (by rw[HE.out,vk];exact HROW.out)⟩,by simp[intOf];omega⟩
  ·have e:j=n:=by omega
   subst e;have HE:=gI (show l.take j=l from List.take_of_length_le (by rw[HL.out];exact Nat.le_refl _));rw[HE.out] at HK HR
   go_wp2_with fail
   go_ret
   exact ⟨FA,k,fc,rfl,HK.out,HR.out,HB.out⟩
theorem Vv {x y:List UInt8} (h:x≠y):Op.bytesLess y x= !less x y:=by
 have e1:=XY x y;have e2:=XY y x;have e3:Op.bytesLess y x=less y x:=rfl;rw[e3]
 cases h1:less x y with
 |false=>
  cases h2:less y x with
  |true=>rfl
  |false=>
   rw[h2] at e1;rw[h1] at e2;exact absurd (List.le_antisymm (of_decide_eq_true e1) (of_decide_eq_true e2)) h
 |true=>
  cases h2:less y x with
  |false=>rfl
  |true=>
   have h3:x<y:=by have:=bytesLess_eq x y;have h4:Op.bytesLess x y=true:=h1;rw[h4] at this;exact of_decide_eq_true this.symm
   have h5:y<x:=by have:=bytesLess_eq y x;have h4:Op.bytesLess y x=true:=h2;rw[h4] at this;exact of_decide_eq_true this.symm
   exact absurd h5 (List.lt_asymm h3)
def zS (x b:List UInt8):List FB->Bool->List FB
 |[],done=>if done then [] else [(x,b)]
 |f::l,done=>if f.1=x then zS x b l done else if !done&&less x f.1 then (x,b)::f::zS x b l true else f::zS x b l done
theorem zbd (A:Option Addr) (n c:Nat) (l:List FB) (x b:List UInt8) (w:World) (hl:l.length=n) (hn:n<=100000) (hc:Cs w w.heap.size A (fcl l)) :
 Calls Tryz.prog 39 #[.slice A n c,sv x,sv b] w (zla w (zS x b l false)):=by
 have HL:=gI hl;have HC:=gI hc;clear hl hc
 go_enter Tryz.func39,Tryz.ntmps39
 go_wp2_with fail
 go_loopw [13,7,8] (fun z v d wr=>∃(j:Nat) (FA:Option Addr) (k fc:Nat) (done:Bool) (acc:List FB),z=.int .i64 (j:Int)/\v=.slice FA k fc/\d=.bool done/\j<=n/\k<=2*j/\Hid (Below w.heap.size w wr)/\Hid (acc.length=k)/\Hid (acc++zS x b (l.drop j) done=zS x b l false)/\Hid (wr.ownsRow w.heap.size 89 2 (.slice FA k fc) k (fcl acc))) (fun z _ _ _=>n-(intOf z).toNat)
 case atStart=>exact ⟨0,_,0,0,false,[],rfl,rfl,rfl,Nat.zero_le _,Nat.zero_le _,gI ((Below.refl _ _).alloc (Nat.le_refl _) _),gI rfl,gI rfl,gI (ze9 w)⟩
 case round=>
  obtain ⟨j,FA,k,fc,done,acc,rfl,rfl,rfl,hj,hk,HB,HK,HI,HR⟩:=hrel
  by_cases hlt:j<n
  ·obtain ⟨f,hf⟩:∃f,l[j]?=some f:=⟨l[j]'(by rw[HL.out];exact hlt),List.getElem?_eq_getElem _⟩
   obtain ⟨a,rfl,h1,h2⟩:=Xu ((HC.out.below HB.out).more HB.out.size) hf;have HD:=gI (show l.drop j=f::l.drop (j+1) from drop_at hf);have hlt':(j:Int)<(n:Int):=by omega
   have HI2:=gI (show acc++zS x b (f::l.drop (j+1)) done=zS x b l false by rw[<-HD.out];exact HI.out);clear hf
   by_cases he:f.1=x
   ·rw[he] at h1;have HN:=gI (show acc++zS x b (l.drop (j+1)) done=zS x b l false by rw[<-HI2.out,zS,if_pos he])
    go_wp2_with fail
    exact ⟨⟨j+1,FA,k,fc,done,acc,by simp,rfl,rfl,hlt,by omega,HB,HK,HN,HR⟩,by simp[intOf];omega⟩
   ·have hne:(f.1==x)=false:=by rw[beq_eq_false_iff_ne];exact he
    cases done with
    |true=>
     have HN:=gI (show acc++([f]++zS x b (l.drop (j+1)) true)=zS x b l false by rw[<-HI2.out,zS,if_neg he];rfl);obtain ⟨FA',fc',w2,hrun,hrow,ho⟩:=zav HR.out HB.out.size (by omega) f.1 f.2;have hbs:=qd wr f.1 f.2;have HRUN:=gI hrun;have HROW:=gI hrow;have HOUT:=gI ho;clear hrun hrow ho
     go_wp2_with (at_builtin;refine wpList_append_run rfl _ _ 41 rfl _ _ _ rfl rfl HRUN.out ?_)
     exact ⟨⟨j+1,FA',k+1,fc',true,acc++[f],by simp,rfl,rfl,hlt,by omega,gI (HB.out.trans (HOUT.out.below (fun q _ hq=>(HR.out.lt q hq).1) HB.out.size)),gI (by rw[List.length_append,HK.out];rfl),gI (by rw[List.append_assoc];exact HN.out),gI (by rw[vk];exact HROW.out)⟩,by simp[intOf];omega⟩
    |false=>
     cases hls:less x f.1 with
     |false=>
      have HN:=gI (show acc++([f]++zS x b (l.drop (j+1)) false)=zS x b l false by rw[<-HI2.out,zS,if_neg he,hls];rfl);have hbl:Op.bytesLess f.1 x=true:=by rw[Vv (fun e=>he e.symm),hls];rfl
      obtain ⟨FA',fc',w2,hrun,hrow,ho⟩:=zav HR.out HB.out.size (by omega) f.1 f.2;have hbs:=qd wr f.1 f.2;have HRUN:=gI hrun;have HROW:=gI hrow;have HOUT:=gI ho;clear hrun hrow ho
      go_wp2_with (at_builtin;refine wpList_append_run rfl _ _ 41 rfl _ _ _ rfl rfl HRUN.out ?_)
      exact ⟨⟨j+1,FA',k+1,fc',false,acc++[f],by simp,rfl,rfl,hlt,by omega,gI (HB.out.trans (HOUT.out.below (fun q _ hq=>(HR.out.lt q hq).1) HB.out.size)),gI (by rw[List.length_append,HK.out];rfl),gI (by rw[List.append_assoc];exact HN.out),gI (by rw[vk];exact HROW.out)⟩,by simp[intOf];omega⟩
     |true=>
      have HN:=gI (show acc++([(x,b)]++([f]++zS x b (l.drop (j+1)) true))=zS x b l false by rw[<-HI2.out,zS,if_neg he,hls];rfl);have hbl:Op.bytesLess f.1 x=false:=by rw[Vv (fun e=>he e.symm),hls];rfl
      obtain ⟨FA1,fc1,w1,hrun1,hrow1,ho1⟩:=zav HR.out HB.out.size (by omega) x b;have hbs1:=qd wr x b;have hB1:=HB.out.trans (ho1.below (fun q _ hq=>(HR.out.lt q hq).1) HB.out.size);obtain ⟨FA',fc',w2,hrun,hrow,ho⟩:=zav hrow1 hB1.size (by omega) f.1 f.2;have hbs:=qd w1 f.1 f.2;have hn1:∀p:Addr,p.block<w.heap.size->w1.cell? p=wr.cell? p:=fun p hp=>((ho1.below (B:=w.heap.size) (fun q _ hq=>(HR.out.lt q hq).1) HB.out.size).cell hp)
      have h1':w1.cell? (a.add (j*2))=some (sv f.1):=by
       obtain ⟨a',e,hab,-⟩:=HC.out (by rw[YB];have:=HL.out;omega);injection e with e;subst e;rw[hn1 _ (by rw[block_add];exact hab)];exact h1
      have h2':w1.cell? ⟨(a.add (j*2)).block,(a.add (j*2)).off+1,none⟩=some (sv f.2):=by
       obtain ⟨a',e,hab,-⟩:=HC.out (by rw[YB];have:=HL.out;omega);injection e with e;subst e;rw[hn1 _ (by show (a.add (j*2)).block<_;rw[block_add];exact hab)];exact h2
      have HRUN1:=gI hrun1;have HROW1:=gI hrow1;have HRUN:=gI hrun;have HROW:=gI hrow;have HB2:=gI (hB1.trans (ho.below (fun q _ hq=>(hrow1.lt q hq).1) hB1.size));clear hrun1 hrow1 hrun hrow ho ho1 hB1 hn1
      go_upto_region 10 with (at_builtin;refine wpList_append_run rfl _ _ 41 rfl _ _ _ rfl rfl HRUN1.out ?_)
      clear hbs1 HRUN1 h1 h2
      go_wp2_with (at_builtin;refine wpList_append_run rfl _ _ 41 rfl _ _ _ rfl rfl HRUN.out ?_)
      exact ⟨⟨j+1,FA',k+1+1,fc',true,acc++[(x,b)]++[f],by simp,rfl,rfl,hlt,by omega,HB2,gI (by rw[List.length_append,List.length_append,HK.out];rfl),gI (by rw[List.append_assoc,List.append_assoc];exact HN.out),gI (by rw[vk,vk];exact HROW.out)⟩,by simp[intOf];omega⟩
  ·have e:j=n:=by omega
   subst e;have hdr:l.drop j=[]:=List.drop_of_length_le (by rw[HL.out];exact Nat.le_refl _);have HE:=gI (show acc++zS x b [] done=zS x b l false by rw[<-hdr];exact HI.out);clear hdr
   cases done with
   |true=>
    have HE2:=gI (show acc=zS x b l false by rw[<-HE.out,zS];simp)
    go_wp2_with fail
    go_ret
    exact ⟨FA,k,fc,rfl,by rw[<-HE2.out];exact HK.out,by rw[<-HE2.out];exact HR.out,HB.out⟩
   |false=>
    have HE2:=gI (show acc++[(x,b)]=zS x b l false by rw[<-HE.out,zS];simp);obtain ⟨FA1,fc1,w1,hrun1,hrow1,ho1⟩:=zav HR.out HB.out.size (by omega) x b;have hbs1:=qd wr x b;have hB1:=HB.out.trans (ho1.below (fun q _ hq=>(HR.out.lt q hq).1) HB.out.size);have HRUN1:=gI hrun1;have HROW1:=gI hrow1;have HB1:=gI hB1;clear hrun1 hrow1 ho1 hB1
    go_wp2_with (at_builtin;refine wpList_append_run rfl _ _ 41 rfl _ _ _ rfl rfl HRUN1.out ?_)
    go_ret
    exact ⟨FA1,k+1,fc1,rfl,by rw[<-HE2.out,List.length_append,HK.out];rfl,by rw[<-HE2.out,vk];exact HROW1.out,HB1.out⟩
end
section
open Go.RowKit Me Mf Rw Ds Va Go.Maps
end
section
open Go.RowKit Me Mf Rw Ds Va Go.Maps
end
section
open Go.RowKit Me Mf Rw Ds Va Go.Maps
def plT (own:Nat->Prop) (R G:Nat) (v:Value):Nat->Prop:=fun k=>own k\/k=R\/k=G\/v.ownBlock=some k
structure PlS (w1 wr:World) (own:Nat->Prop) (R G ve nx:Nat) (FA:Option Addr) (j fc:Nat) (acc:List zi):Prop where
 box:Blk wr G [.int .u64 (ve:Int),.int .u32 (nx:Int),.slice FA j fc]
 row:∃vs,wr.ownsRow (G+1) 123 4 (.slice FA j fc) j vs/\FKs (plT own R G (.slice FA j fc)) wr vs acc
 len:acc.length=j
 wf:∀f∈acc,WfF f/\f.name.length<=32
 g:G=w1.heap.size
 below:Below w1.heap.size w1 wr
 size:G+1<=wr.heap.size
section
variable {w1 wr w':World} {own:Nat->Prop} {R G ve nx j fc:Nat} {FA:Option Addr} {acc:List zi}
end
end
section
open Go.RowKit Me Mf Rw Ds Va Go.Maps
end
section
open Go.RowKit Me Mf Rw Ds Va Go.Maps
structure FbK (T:Nat->Prop) (A:Option Addr) (n c:Nat) (l:List FB) (w:World):Prop where
 len:l.length=n
 cap:n<=c/\c<=9223372036854775807
 at_:Kk T (fun W=>Cs W W.heap.size A (fcl l)) w
structure SvK (T:Nat->Prop) (A:Option Addr) (n c:Nat) (l:List (List UInt8)) (w:World):Prop where
 len:l.length=n
 cap:n<=c/\c<=9223372036854775807
 at_:Kk T (fun W=>Cs W W.heap.size A (l.map sv)) w
section
variable {w w':World} {T T':Nat->Prop} {A:Option Addr} {n c:Nat} {l:List FB} {m:List (List UInt8)}
theorem FbK.next (h:FbK T A n c l w) (ho:Out T w w') (hs:∀j,T' j->T j\/w.heap.size<=j):FbK T' A n c l w':={h with at_:=h.at_.next ho hs}
theorem FbK.out (h:FbK T A n c l w) (ho:Out T w w'):FbK T A n c l w':={h with at_:=h.at_.out ho}
theorem FbK.past (h:FbK T A n c l w) (hb:Below w.heap.size w w'):FbK T A n c l w':=h.out (.of_below hb)
theorem FbK.none:FbK T none 0 0 [] w:=⟨rfl,⟨Nat.le_refl _,by omega⟩,fun _ _=>Cs.empty⟩
theorem FbK.of {B:Nat} (h:w'.ownsRow B 89 2 (.slice A n c) n (fcl l)) (hl:l.length=n) (hT:∀k,T k->k<B):FbK T A n c l w':=
 ⟨hl,yF h,fun W hW=>Cs.of_own (zn h hW fun k hk e=>by have:=(h.lt k hk).1;have:=hT k e;omega)⟩
theorem SvK.next (h:SvK T A n c m w) (ho:Out T w w') (hs:∀j,T' j->T j\/w.heap.size<=j):SvK T' A n c m w':={h with at_:=h.at_.next ho hs}
theorem SvK.out (h:SvK T A n c m w) (ho:Out T w w'):SvK T A n c m w':={h with at_:=h.at_.out ho}
theorem SvK.past (h:SvK T A n c m w) (hb:Below w.heap.size w w'):SvK T A n c m w':=h.out (.of_below hb)
theorem SvK.none:SvK T none 0 0 [] w:=⟨rfl,⟨Nat.le_refl _,by omega⟩,fun _ _=>Cs.empty⟩
theorem SvK.of {B:Nat} (h:w'.ownsRow B 9 1 (.slice A n c) n (m.map sv)) (hl:m.length=n) (hT:∀k,T k->k<B):SvK T A n c m w':=
 ⟨hl,yF h,fun W hW=>Cs.of_own (zn h hW fun k hk e=>by have:=(h.lt k hk).1;have:=hT k e;omega)⟩
end
end
end Go.Proofs.YtcdkopbjlakebaaGreatDoor
