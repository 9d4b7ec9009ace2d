/- Texts put together, for a law: Ro, Row, Lr, Ls, Lm, RuP, So, Awk13, Cl0, Rnl, Wt. -/
import Derived.Test.YtcdkopbjlakebaaGreatDoorKP46
import Derived.Test.YtcdkopbjlakebaaGreatDoorKP28
set_option maxRecDepth 100000
set_option maxHeartbeats 8000000
namespace Go.Proofs.YtcdkopbjlakebaaGreatDoor
section
open Go.RowKit Me Mf Rw Ds Rn Tx Fr Mw Hp
variable {w w':World} {B K P D M N:Nat} {hb:Option Nat} {X:Sto} {R:SrD} {own ownD:Nat->Prop}
def ZY (X:Sto) (R:SrD):Nat->Nat->Int
 |_,0=>0
 |k,n+1=>if (rdD X R k).2≠0 then (rdD X R k).2 else ZY X R (k+1) n
def YD (X:Sto) (R:SrD) (k:Nat):List (List (List UInt8)):=zG R.held::(List.range' R.first (k-R.first)).map fun i=>pieces R.wd (rdD X R i).1
theorem zam {k:Nat} (h:R.first<=k):YD X R (k+1)=YD X R k++[pieces R.wd (rdD X R k).1]:=by
 unfold YD;rw[show k+1-R.first=(k-R.first)+1 by omega,List.range'_concat,List.map_append,Nat.one_mul,show R.first+(k-R.first)=k by omega];rfl
theorem zjF {i:Nat} (h:(rdD X R i).2=0):fitR R.wd (pieces R.wd (rdD X R i).1)=true:=by
 unfold rdD at h ⊢
 dsimp only at h ⊢
 split at h
 ·rename_i h1
  exact absurd h h1
 ·rename_i h1
  rw[if_neg h1]
  split at h
  ·cases h
  ·rename_i h2
   rw[if_neg h2]
   cases hf:fitR R.wd (pieces R.wd (getS (xS X (zq R i)).1).1.body) with
   |true=>rfl
   |false=>exact absurd (.inr (.inr (.inr hf))) h2
theorem zgf (A:Option Addr) (n c wd:Nat) (w:World) :
 Calls Tryz.prog 48 #[.slice A n c,.int .i64 (wd:Int)] w fun e w'=>e=.returned (.func (.func 75) #[] #[.pointer (some ⟨w.heap.size,0,none⟩),.pointer (some ⟨w.heap.size+1,0,none⟩)]) /\
  w'=(w.alloc (.cells #[.slice A n c] 94)).alloc (.cells #[.int .i64 (wd:Int)] 3):=by
 go_enter Tryz.func48,Tryz.ntmps48
 go_wp2
 go_ret
 exact ⟨rfl,rfl⟩
def Away (rb:Option Nat) (p:Qe):Prop:=∀A n c a,p.1=.slice A n c->A=some a->0<n->rb≠some a.block
theorem Lv.keepR {lo hi hi' wd:Nat} {rb:Option Nat} {p:Qe} (h:Lv w lo hi wd p) (hw:Away rb p) (hh:hi<=hi') (hk:∀a:Addr,a.block<hi->rb≠some a.block->w'.cell? a=w.cell? a):Lv w' lo hi' wd p:=by
 obtain ⟨h1,h2,A,n,c,h3,h4,h5,h6,h7,h8⟩:=h;refine ⟨h1,h2,A,n,c,h3,h4,h5,h6,fun hn=>?_,h8⟩;obtain ⟨a,e,hb,hc⟩:=h7 hn;exact ⟨a,e,by omega,fun i u hu=>(hk _ (by rw[block_add];exact hb) (by rw[block_add];exact hw A n c a h3 e (by omega))).trans (hc i u hu)⟩
structure RoI (w wr:World) (X:Sto) (R:SrD) (k n c:Nat) (A:Option Addr) (L:List Qe):Prop where
 own:wr.ownsRow w.heap.size 92 1 (.slice A n c) n (L.map Prod.fst)
 len:L.length=n
 few:n=k-R.first+1
 lv:∀p∈L,Lv wr w.heap.size wr.heap.size R.wd p/\Away (Value.slice A n c).ownBlock p
 snd:L.map Prod.snd=YD X R k
 err:ZY X R R.first (R.next-R.first)=ZY X R k (R.next-k)
 b:Below w.heap.size w wr
theorem Lv.past {lo hi wd:Nat} {p:Qe} (h:Lv w lo hi wd p) (hh:hi<=w.heap.size) (hb:Below w.heap.size w w'):Lv w' lo w'.heap.size wd p:=by
 have hs:=hb.size;obtain ⟨h1,h2,A,n,c,h3,h4,h5,h6,h7,h8⟩:=h;exact ⟨h1,h2,A,n,c,h3,h4,h5,h6,((h7.more hh).below hb).more hs,h8⟩
def zfF (w:World) (X:Sto) (R:SrD) (e:Ending) (w':World):Prop:=
 Below w.heap.size w w'/\((ZY X R R.first (R.next-R.first)≠0/\e=.returned (.tuple #[.nilFunc,.int .i64 (ZY X R R.first (R.next-R.first))])) \/
  (ZY X R R.first (R.next-R.first)=0/\∃Bl Bw ln lc LA L,e=.returned (.tuple #[.func (.func 75) #[] #[.pointer (some ⟨Bl,0,none⟩),.pointer (some ⟨Bw,0,none⟩)],.int .i64 0]) /\
    MgAt w' w.heap.size w'.heap.size Bl Bw ln lc R.wd LA L/\L.map Prod.snd=YD X R R.next))
theorem zjx {w1:World} {A:Option Addr} {n c:Nat} (hok:OkR R) (hl:(zG R.held).flatten.length=n) (hc:n<=c) (hc2:c<=9223372036854775807) (ho:w1.ownsRow w.heap.size 5 1 (.slice A n c) n (cellsOf (zG R.held).flatten)) (hb:Below w.heap.size w w1) :
 RoI w (w1.alloc (.cells #[.slice A n c] 92)) X R R.first 1 1 (some ⟨w1.heap.size,0,none⟩) [(.slice A n c,zG R.held)]:=by
 have hs:=hb.size;have hb2:Below w1.heap.size w1 (w1.alloc (.cells #[.slice A n c] 92)):=(Below.refl _ _).alloc (Nat.le_refl _) _;have hrd:Rd w1 w1.heap.size A (zG R.held).flatten:=Rd.of_own ho;refine ⟨⟨rfl,.inr ⟨w1.heap.size,1,#[.slice A n c],rfl,hs,heap_alloc_new w1 _,by omega,by decide,rfl,rfl⟩⟩,rfl,by omega,fun p hp=>?_,?_,rfl,hb.trans (hb2.mono hs)⟩
 ·rw[List.mem_singleton.1 hp];refine ⟨⟨?_,ZA _,A,n,c,rfl,hl,hc,hc2,(hrd.below hb2).more hb2.size,fun a ha=>?_⟩,fun A' n' c' a e ha hn=>?_⟩
  ·exact fun r hr=>hok.wid r ((zR _).mem_iff.1 hr)
  ·subst ha;exact (World.ownsRow.lt ho a.block rfl).1
  ·injection e with e1 e2 e3;subst e1 ha;have h2:=(World.ownsRow.lt ho a.block rfl).2;intro e;injection e with e;have e:w1.heap.size=a.block:=e;omega
 ·unfold YD;rw[Nat.sub_self];rfl
end
section
open Go.RowKit Me Mf Rw Ds Rn Tx Fr Mw Hp
variable {w w':World} {B K P D M N:Nat} {hb:Option Nat} {X:Sto} {R:SrD} {own ownD:Nat->Prop}
theorem RoI.more {wr w2:World} {k n c:Nat} {A:Option Addr} {L:List Qe} (h:RoI w wr X R k n c A L) (hb:Below wr.heap.size wr w2):(∀p∈L,Lv w2 w.heap.size w2.heap.size R.wd p)/\w2.ownsRow w.heap.size 92 1 (.slice A n c) n (L.map Prod.fst)/\Below w.heap.size w w2:=
 ⟨fun p hp=>(h.lv p hp).1.past (Nat.le_refl _) hb,zn h.own (.of_below hb) (fun _ _=>id),h.b.trans (hb.mono h.b.size)⟩
theorem RoI.snoc {wr w2 w6:World} {k n c n1 c1 d7:Nat} {A A1 A7:Option Addr} {L:List Qe} (h:RoI w wr X R k n c A L) (hk:R.first<=k/\k<R.next) (hb:Below wr.heap.size wr w2) (he:(rdD X R k).2=0) (hl:(rdD X R k).1.length=n1) (hc:n1<=c1) (hc2:c1<=9223372036854775807) (hrd:Rd w2 w2.heap.size A1 (rdD X R k).1)
 (ha:∀a,A1=some a->wr.heap.size<=a.block) (hwd:0<R.wd) (T:TypeId)
 (ho6:w6.ownsRow w.heap.size 92 1 (.slice A7 (n+1) d7) (n+1) (L.map Prod.fst++[.slice A1 n1 c1])) (hg6:(w2.alloc (.cells #[.slice A1 n1 c1] T)).grownBy w6 (Value.slice A n c).ownBlock) (hn6:(Value.slice A7 (n+1) d7).ownBlock=(Value.slice A n c).ownBlock\/(Value.slice A7 (n+1) d7).ownBlock=some (w2.heap.size+1)) :
 RoI w w6 X R (k+1) (n+1) d7 A7 (L++[(.slice A1 n1 c1,pieces R.wd (rdD X R k).1)]):=by
 obtain ⟨m1,m2,m3⟩:=h.more hb;have hs:=hb.size;have hlo:=h.b.size;have ho:Out (fun j=>(Value.slice A n c).ownBlock=some j) w2 w6:=((Out.refl (fun j=>(Value.slice A n c).ownBlock=some j) w2).alloc _).grown hg6 (fun j e=>.inl e);have hs6:=ho.size;have hkp:∀a:Addr,a.block<w2.heap.size->(Value.slice A n c).ownBlock≠some a.block->w6.cell? a=w2.cell? a:=fun a h1 h2=>ho.cell h1 h2
 have hgood:=zjF he;rw[yY] at hgood;have hfl:(pieces R.wd (rdD X R k).1).flatten=(rdD X R k).1:=YT hwd _;have haw:Away (Value.slice A n c).ownBlock (.slice A1 n1 c1,pieces R.wd (rdD X R k).1):=fun A' n' c' a e hA hn e2=>by
  injection e with e1 _ _;subst e1;have h1:=(World.ownsRow.lt h.own a.block e2).2;have h2:=ha a hA;omega
 have hnew:Lv w2 w.heap.size w2.heap.size R.wd (.slice A1 n1 c1,pieces R.wd (rdD X R k).1):=⟨hgood.1,hgood.2,A1,n1,c1,rfl,by rw[hfl];exact hl,hc,hc2,by rw[hfl];exact hrd,fun a e=>by have:=ha a e;omega⟩
 have hall:∀p∈L++[(.slice A1 n1 c1,pieces R.wd (rdD X R k).1)],Lv w2 w.heap.size w2.heap.size R.wd p/\Away (Value.slice A n c).ownBlock p:=fun p hp=>by
  rcases List.mem_append.1 hp with hp|hp
  ·exact ⟨m1 p hp,(h.lv p hp).2⟩
  ·rw[List.mem_singleton.1 hp];exact ⟨hnew,haw⟩
 refine ⟨by rw[List.map_append];exact ho6,by rw[List.length_append,h.len];rfl,by have:=h.few;omega,fun p hp=>?_,?_,?_,?_⟩
 ·obtain ⟨h1,h2⟩:=hall p hp;refine ⟨h1.keepR h2 hs6 hkp,fun A' n' c' a e hA hn=>?_⟩;rcases hn6 with e6|e6
  ·rw[e6];exact h2 A' n' c' a e hA hn
  ·rw[e6];intro e7;injection e7 with e7;obtain ⟨-,-,A9,n9,c9,e9,l9,-,-,r9,-⟩:=h1;rw[e9] at e;injection e with g1 g2 g3;subst g1 g2 g3;obtain ⟨a9,b9,b10,-⟩:=r9 (by omega);rw[hA] at b9;injection b9 with b9;subst b9;omega
 ·rw[List.map_append,h.snd,zam hk.1];rfl
 ·rw[h.err,show R.next-k=(R.next-(k+1))+1 by omega];show (if (rdD X R k).2≠0 then (rdD X R k).2 else ZY X R (k+1) (R.next-(k+1)))=_
  rw[if_neg (fun h=>h he)]
 ·exact m3.trans (ho.below (fun j _ e=>(World.ownsRow.lt h.own j e).1) m3.size)
theorem zho (h:zI w B K P D M N hb X R own ownD) (hfew:R.next-R.first<=90000) (hp:X.S.pend.length<4611686018427387904) :
 Calls Tryz.prog 21 #[.pointer (some ⟨K,0,none⟩)] w (zfF w X R):=by
 obtain ⟨A',n',c',h1,-⟩:=h.bx.box;obtain ⟨c0,c1,c2,c3,c4,c5,c6⟩:=h1.seven;have hk0:=World.block_lt_of_cell? _ _ c0;have hok:=h.bx.ok;obtain ⟨f,hf⟩:∃f,f=R.first:=⟨_,rfl⟩
 obtain ⟨nx,hnx⟩:∃nx,nx=R.next:=⟨_,rfl⟩
 obtain ⟨wd,hwd⟩:∃wd,wd=R.wd:=⟨_,rfl⟩
 have hrun:=hok.run;rw[<-hf,<-hnx] at hrun;rw[<-hf] at c5;rw[<-hnx] at c6;rw[<-hwd] at c2;rw[<-hf,<-hnx] at hfew;have HSO:=gI (Q6 h.bx);have HRD:=gI (show ∀W,Below w.heap.size w W->∀k:Nat,k<=1000000->Calls Tryz.prog 47 #[.pointer (some ⟨K,0,none⟩),.int .i64 (k:Int)] W (ziZ W (rdD X R k)) from fun W hW k hk=>zhp (h.past hW) k hk hp);have HC:=gI (And.intro c2 (And.intro c5 c6));have HK:=gI hk0;have HOK:=gI hok;have HF:=gI hf;have HNX:=gI hnx;have HWD:=gI hwd;obtain ⟨i0,hi0,hz0,hz1,hz2⟩:=info_parts Vu;clear h h1 c0 c1 c2 c3 c4 c5 c6 hok hf hnx hwd hp
 go_enter Tryz.func21,Tryz.ntmps21
 go_wp2_with fail
 refine HSO.out.mono ?_;intro e w1 hn1;have hn2:=hn1;obtain ⟨A,n,c,rfl,hl,hc,ho,hrd,hb1⟩:=hn2.open;have HI0:=gI (zjx (X:=X) HOK.out hl hc (yF ho).2 ho hb1);have q5:(w1.alloc (.cells #[.slice A n c] 92)).cell? ⟨K,5,none⟩=some (.int .i64 (f:Int)):=(((Below.refl _ w1).alloc (Nat.le_refl _) _).cell (by show K<_;have:=hb1.size;omega)).trans ((hb1.cell hk0).trans HC.out.2.1);have hs1:=hb1.size;clear hn1 hn2 hl hc ho hrd hb1 HSO
 go_wp2
 go_loopw [4,5] (fun v kv wr=>∃(k n c:Nat) (A:Option Addr) (L:List Qe),v=.slice A n c/\kv=.int .i64 (k:Int)/\f<=k/\k<=nx/\Hid (RoI w wr X R k n c A L)) (fun _ kv _=>nx-(intOf kv).toNat)
 case atStart=>exact ⟨f,1,1,_,_,rfl,rfl,Nat.le_refl _,hrun.1,by rw[HF.out];exact gI HI0.out⟩
 case round=>
  clear HI0 q5;obtain ⟨k,n,c,A,L,rfl,rfl,hfk,hkn,HI⟩:=hrel;have HB:=gI HI.out.b;have q6:=(HB.out.cell (p:=⟨K,6,none⟩) HK.out).trans HC.out.2.2;have q2:=(HB.out.cell (p:=⟨K,2,none⟩) HK.out).trans HC.out.1;have hn5:n+1<=100000:=by have:=HI.out.few;have:=HF.out;omega
  by_cases hlt:k<nx
  ·have hlt2:(k:Int)<(nx:Int):=by omega
   have HR:=gI (HRD.out wr HB.out k (by omega));obtain ⟨r,hr⟩:∃r,r=(rdD X R k).2:=⟨_,rfl⟩
   have HRR:=gI hr;have hgo:Calls Tryz.prog 47 #[.pointer (some ⟨K,0,none⟩),.int .i64 (k:Int)] wr fun e w'=>∃A1 n1 c1,e=.returned (.tuple #[.slice A1 n1 c1,.int .i64 r])/\Below wr.heap.size wr w'/\Hid ((rdD X R k).1.length=n1/\n1<=c1/\c1<=9223372036854775807/\Rd w' w'.heap.size A1 (rdD X R k).1/\∀a,A1=some a->wr.heap.size<=a.block):=HR.out.mono fun e w' ⟨A1,n1,c1,h1,h2,h3,_,h5,h6,h7,h8⟩=>⟨A1,n1,c1,by rw[h1,hr],h2,gI ⟨h3,h5,h6,h7,h8⟩⟩
   have HGO:=gI hgo;clear hr hgo HR
   go_wp2_with fail
   refine HGO.out.mono ?_;rintro e w2 ⟨A1,n1,c1,rfl,hb2,HN⟩;have HB2:=gI hb2;have hs2:=hb2.size;have hsr:=HB.out.size;clear hb2 HGO
   by_cases hr0:r=0
   ·subst hr0;have HOW:=gI (HI.out.more HB2.out).2.1;have HMX:=gI (show n+1<=maxLen by unfold maxLen;omega)
    go_wp2_with (at_builtin
                 go_loud (refine xR rfl (.tmp 34) (.tmp 36) 94 rfl w.heap.size 92 i0 _ 1 24 Tryz.underlying94 hi0 hz0 hz1 hz2 rfl (by decide) A n c _ rfl (HOW.out.alloc _) ⟨w2.heap.size,0,none⟩ 1 1 [.slice A1 n1 c1] rfl rfl (cell_one_new w2 _ _) (fun u hu=>by rw[List.mem_singleton.1 hu];rfl) (by decide) HMX.out (by omega) (by rw[World.size_alloc];omega) ?_)
                 intro v6 w6 ho6 hg6 hn6 hfit6;refine Classical.byContradiction fun hcontra=>?_)
    obtain ⟨A7,d7,hv7,hnd7⟩:=zC ho6;subst hv7;rw[World.size_alloc] at hn6;have FIN:=gI (HI.out.snoc (k:=k) ⟨by have:=HF.out;omega,by have:=HNX.out;omega⟩ HB2.out HRR.out.symm HN.out.1 HN.out.2.1 HN.out.2.2.1 HN.out.2.2.2.1 HN.out.2.2.2.2 (by have:=HOK.out.wd;omega) _ ho6 hg6 hn6);clear ho6 hg6 hn6 hfit6
    apply hcontra
    clear hcontra
    go_wp2
    go_roundw
    case rel=>exact ⟨k+1,n+1,d7,A7,_,rfl,by go_num,by omega,by omega,FIN⟩
    case measure=>simp[intOf];omega
   ·have d0:(r != 0)=true:=by simp[hr0]
    have FIN:=gI (show zfF w X R (.returned (.tuple #[.nilFunc,.int .i64 r])) w2 from by
     have e1:ZY X R R.first (R.next-R.first)=r:=by
      rw[HI.out.err,show R.next-k=(R.next-(k+1))+1 by have:=HNX.out;omega];show (if (rdD X R k).2≠0 then (rdD X R k).2 else ZY X R (k+1) (R.next-(k+1)))=_
      rw[<-HRR.out,if_pos hr0]
     refine ⟨HB.out.trans (HB2.out.mono HB.out.size),.inl ⟨by rw[e1];exact hr0,by rw[e1]⟩⟩)
    go_wp2
    go_ret2
    exact FIN.out
  ·have hkk:k=nx:=by omega
   have hnl:¬(k:Int)<(nx:Int):=by omega
   have HME:=gI (zgf A n c wd wr);have HKK:=gI hkk;clear hkk
   go_wp2_with fail
   refine HME.out.mono ?_;rintro e w2 ⟨rfl,rfl⟩;have FIN:=gI (show zfF w X R (.returned (.tuple #[.func (.func 75) #[] #[.pointer (some ⟨wr.heap.size,0,none⟩),.pointer (some ⟨wr.heap.size+1,0,none⟩)],.int .i64 0])) ((wr.alloc (.cells #[.slice A n c] 94)).alloc (.cells #[.int .i64 (wd:Int)] 3)) from by
    have hb2:Below wr.heap.size wr ((wr.alloc (.cells #[.slice A n c] 94)).alloc (.cells #[.int .i64 (wd:Int)] 3)):=((Below.refl _ wr).alloc (Nat.le_refl _) _).alloc (by simp) _;obtain ⟨m1,m2,m3⟩:=HI.out.more hb2;have hkx:k=R.next:=HKK.out.trans HNX.out;have e1:ZY X R R.first (R.next-R.first)=0:=by
     rw[HI.out.err,hkx,Nat.sub_self];rfl
    have hsr:=HB.out.size;refine ⟨m3,.inr ⟨e1,wr.heap.size,wr.heap.size+1,n,c,A,L,rfl,⟨?_,?_,⟨hsr,by simp;omega⟩,⟨by omega,by simp⟩,Cs.of_own m2,fun a ha=>?_,m1,HI.out.len,by omega,⟨by have:=HOK.out.wd;omega,by have:=HOK.out.wd;omega⟩,Nat.le_refl _⟩,?_⟩⟩
    ·exact (Blk.new wr [.slice A n c] _).alloc _
    ·rw[<-HWD.out];exact Blk.new' (wr.alloc _) [.int .i64 (wd:Int)] _ (by simp)
    ·subst ha;exact (World.ownsRow.lt m2 a.block rfl).1
    ·rw[HI.out.snd,hkx])
   go_wp2
   go_ret2
   exact FIN.out
end
section
open Go.RowKit Me Mf Rw Ds Rn Tx Fr Mw Hp
variable {w w':World} {B K P D M N:Nat} {hb:Option Nat} {X:Sto} {R:SrD} {own ownD:Nat->Prop}
def QD (X:Sto) (R:SrD):List (List UInt8)×Int:=
 if ZY X R R.first (R.next-R.first)≠0 then ([],ZY X R R.first (R.next-R.first)) else (zG (YD X R R.next).flatten,0)
def ziW (w:World) (r:List (List UInt8)×Int) (e:Ending) (w':World):Prop:=
 ∃A n c,e=.returned (.tuple #[.slice A n c,.int .i64 r.2])/\w'.ownsRow w.heap.size 9 1 (.slice A n c) n (r.1.map sv)/\r.1.length=n/\Below w.heap.size w w'
def LrI (H0 T:Nat) (pre:List (List UInt8)) (W:World):Prop:=∃A n c,Blk W (H0+1) [.slice A n c]/\W.ownsRow H0 9 1 (.slice A n c) n (pre.map sv)/\pre.length=n/\∀k,(Value.slice A n c).ownBlock=some k->k=H0\/T<=k
theorem LrI.free {H0 T Bz:Nat} (h:H0+1<Bz):Rt.Free Bz T (LrI H0 T):=fun pre W W' ⟨A,n,c,h1,h2,h3,h4⟩ ho=>
 ⟨A,n,c,h1.out ho (by omega),zn h2 ho (fun k hk e=>by have:=h4 k hk;omega),h3,h4⟩
theorem Xe {P:Program} {w:World} (d:Nat) {t:TypeId} {ps rs:Array TypeId} {vd:Bool} (h:P.underlying t=some (.func ps rs vd)) (f:Fn) (x c:Array Value) :
 (Op.equalIn (d+1) t (.func f x c) .nilFunc).run P w=.ok false w:=by
 simp[Op.equalIn,run_underlying h]
theorem VZ {P:Program} {w:World} {t:TypeId} {ps rs:Array TypeId} {vd:Bool} (h:P.underlying t=some (.func ps rs vd)) (f:Fn) (x c:Array Value) :
 (binOp .eql t (.func f x c) .nilFunc).run P w=.ok (.bool false) w:=by
 have e:(Op.equal t (.func f x c) .nilFunc).run P w=.ok false w:=Xe 9999 h f x c;simp only[binOp];simp[e]
theorem zdS (w:World) (f:Fn) (x c:Array Value):(binOp .eql 61 (.func f x c) .nilFunc).run Tryz.prog w=.ok (.bool false) w:=VZ Tryz.underlying61 f x c
theorem zh3 {H0 T:Nat} {pre:List (List UInt8)} {W W':World} (hlt:H0+1<W.heap.size) (h:LrI H0 T pre W) (ho:Out (fun _=>False) W W'):LrI H0 T pre W':=by
 obtain ⟨A,n,c,h1,h2,h3,h4⟩:=h;exact ⟨A,n,c,h1.out ho id,zn h2 ho (fun _ _=>id),h3,h4⟩
theorem YC {F:Fence} {r:Nat} {P:Program} {ops:Array Oper} {rest:List Oper} {op:Oper} {a:Act} {w w':World} {Q:Exit->Act->World->Prop} (hgd:op.guard=none) (src dst:TypeId) (x:Operand)
 (ho:op.op=.convert src dst x) (v u:Value) (hx:a.eval x=v)
 (hr:(convert src dst v).run P w=.ok u w') (h:wpListIn F r P ops Q rest (a.put op.dst u) w'):wpListIn F r P ops Q (op::rest) a w:=by
 refine wpListIn_plain hgd fun K hK=>?_
 unfold Oper.wpIn;refine ⟨by simp[Oper.about,ho],?_⟩;rw[Oper.semAt_plain F _ _ (by rw[ho];intro c hc';cases hc')];unfold execOp;simp only[ho,hx,hr,Sem.run_bind,Sem.run_pure,Result.andThen_ok];exact hK _ _ h
theorem zcK {b1 b2 s1 s2 n1 n2:Nat} {e1 e2:TypeId} {v1 v2:Value} {xs1 xs2:List Value} (h1:w.ownsRow b1 e1 s1 v1 n1 xs1) (h2:w.ownsRow b2 e2 s2 v2 n2 xs2) (he:e1≠e2) {k:Nat} (k1:v1.ownBlock=some k) (k2:v2.ownBlock=some k):False:=by
 rcases h1.2 with ⟨rfl,-⟩|⟨g,cap,cur,rfl,-,hh,-⟩
 ·cases k1
 ·rcases h2.2 with ⟨rfl,-⟩|⟨g2,cap2,cur2,rfl,-,hh2,-⟩
  ·cases k2
  ·have e3:g=k:=by injection k1
   have e4:g2=k:=by injection k2
   rw[e3] at hh;rw[e4,hh] at hh2;injection hh2 with hh2;injection hh2 with _ hh2;exact he hh2
theorem Yt:(Tryz.prog.info? 9).map (fun i=>(i.zero,i.size,i.bytes))=some (some (.string ⟨#[]⟩),1,16):=by kernel_rfl
attribute [local go_sem] Oper.semAt_some
theorem Vt (h:zI w B K P D M N hb X R own ownD) (hfew:R.next-R.first<=90000) (hp:X.S.pend.length<4611686018427387904) (hmany:(QD X R).1.length<=1000000) :
 Calls Tryz.prog 14 #[.pointer (some ⟨K,0,none⟩)] w (ziW w (QD X R)):=by
 refine (callsIn_wide (n:=4)).1 ?_;obtain ⟨H,hH⟩:∃H,H=w.heap.size:=⟨_,rfl⟩
 have HH:=gI hH;have HRO:=gI (show ∀W,Below w.heap.size w W->Calls Tryz.prog 21 #[.pointer (some ⟨K,0,none⟩)] W (zfF W X R) from fun W hW=>zho (h.past hW) hfew hp);have HMA:=gI hmany;clear h hfew hp hmany hH;refine callsIn_of_wp_marks Tryz.func14 rfl trivial ?_ rfl;simp only[Tryz.ntmps14,List.size_toArray,List.length_cons,List.length_nil,Nat.reduceAdd,Nat.reduceSub,Array.replicate_succ,Array.replicate_zero,List.push_toArray,List.append_toArray,List.nil_append,List.cons_append]
 gi_wp2_with fail
 rw[<-HH.out];obtain ⟨W1,hW1⟩:∃W1,(w.alloc (.cells #[] 9)).alloc (.cells #[.slice (some ⟨H,0,none⟩) 0 0] 36)=W1:=⟨_,rfl⟩
 have hb1:Below w.heap.size w W1:=by rw[<-hW1];exact ((Below.refl _ _).alloc (Nat.le_refl _) _).alloc (by simp) _
 have hs1:W1.heap.size=H+2:=by rw[<-hW1,HH.out];simp
 have hI1:∀T,LrI H T [] W1:=fun T=>by
  refine ⟨some ⟨H,0,none⟩,0,0,?_,?_,rfl,fun k hk=>.inl ?_⟩
  ·rw[<-hW1,HH.out];exact Blk.new' (w.alloc _) [.slice (some ⟨w.heap.size,0,none⟩) 0 0] _ (by simp)
  ·refine ⟨rfl,.inr ⟨H,0,#[],rfl,Nat.le_refl _,?_,Nat.le_refl _,by decide,rfl,rfl⟩⟩;rw[<-hW1,HH.out];exact (Below.heap_alloc _ _ _ (by simp)).trans (World.alloc_heap_new w _)
  ·injection hk with hk;exact hk.symm
 rw[hW1];have HB1:=gI hb1;have HI1:=gI hI1;have HS1:=gI hs1;clear hW1 hb1 hs1 hI1;refine ⟨trivial,(callsIn_wide.2 (HRO.out W1 HB1.out)).mono ?_⟩;rintro e w2 ⟨hb2,hcase⟩;have HB2:=gI (HB1.out.trans (hb2.mono HB1.out.size));have HI2:=gI (fun T=>zh3 (by have:=HS1.out;omega) (HI1.out T) (.of_below hb2));have hs2:H+2<=w2.heap.size:=by have:=HS1.out;have:=hb2.size;omega
 rcases hcase with ⟨h0,rfl⟩|⟨h0,Bl,Bw,ln,lc,LA,L,rfl,hMg,hLs⟩
 ·obtain ⟨r,hr⟩:∃r,r=ZY X R R.first (R.next-R.first):=⟨_,rfl⟩
  have HE:=gI (show QD X R=([],r) by unfold QD;rw[if_pos h0,hr]);rw[<-hr] at h0;rw[<-hr];have d0:(r != 0)=true:=by simp[h0]
  obtain ⟨A,n,c,i1,i2,i3,-⟩:=HI2.out 0;have q0:=i1.cell (i:=0) rfl;have FIN:=gI (show ziW w (QD X R) (.returned (.tuple #[.slice A n c,.int .i64 r])) w2 from by
   rw[HE.out];exact ⟨A,n,c,rfl,by rw[<-HH.out];exact i2,i3,HB2.out⟩)
  clear hr hb2 HE HI2 i1 i2 i3
  gi_wp2
  refine ⟨.tuple #[.slice A n c,.int .i64 r],?_,FIN.out⟩;simp[results,Tryz.results14,go_sem]
 ·have HE:=gI (show QD X R=(zG (YD X R R.next).flatten,0) by unfold QD;rw[if_neg (fun h=>h h0)]);have HMG:=gI hMg;have HLS:=gI hLs;have HMA2:=gI (show (zG (YD X R R.next).flatten).length<=1000000 by have:=HMA.out;rw[HE.out] at this;exact this);clear h0 hMg hLs hb2;have hnn:=zdS w2 (.func 75) #[] #[.pointer (some ⟨Bl,0,none⟩),.pointer (some ⟨Bw,0,none⟩)]
  gi_wp2_with fail
  refine Rt.YR (gf:=75) (lb:=#[.pointer (some ⟨Bl,0,none⟩),.pointer (some ⟨Bw,0,none⟩)]) rfl (enters_of Tryz.func75 (by kernel_rfl) rfl) (zcU HMG.out) (Below.refl _ _) (fun T x av W h=>by obtain ⟨A,n,c,h,-⟩:=h;rw[h];rfl)
   (fun T k=>k=H\/k=H+1\/T<=k) ?hS ?hM
   (fun T pre W'=>LrI H T pre W') (fun _ _ _ _=>False)
   (fun T hT=>LrI.free (by omega)) (fun _ _ _ _ _ _ h _=>h.elim) (fun T hT=>?hI)
   (fun T x a' W=>∃A n c,a'={tmps:=#[.pointer (some ⟨K,0,none⟩),undef,.slice none 0 0,.int .i64 0,.pointer (some ⟨H+1,0,none⟩),.func (.func 75) #[] #[.pointer (some ⟨Bl,0,none⟩),.pointer (some ⟨Bw,0,none⟩)],.int .i64 0,.slice A n c,undef,.slice (some ⟨H,0,none⟩) 0 0,.tuple #[.func (.func 75) #[] #[.pointer (some ⟨Bl,0,none⟩),.pointer (some ⟨Bw,0,none⟩)],.int .i64 0],.pointer (some ⟨K,0,none⟩),.tuple #[.func (.func 75) #[] #[.pointer (some ⟨Bl,0,none⟩),.pointer (some ⟨Bw,0,none⟩)],.int .i64 0],.func (.func 75) #[] #[.pointer (some ⟨Bl,0,none⟩),.pointer (some ⟨Bw,0,none⟩)],.int .i64 0,.int .i64 0,.bool false,undef,undef,.func (.func 75) #[] #[.pointer (some ⟨Bl,0,none⟩),.pointer (some ⟨Bw,0,none⟩)],.bool false,undef,.func (.func 75) #[] #[.pointer (some ⟨Bl,0,none⟩),.pointer (some ⟨Bw,0,none⟩)],.slice A n c,undef,undef,undef,undef,undef,undef,undef,undef,undef,undef,undef,undef,undef,undef,undef,undef],defers:=[]}/\x.length=n/\W.ownsRow T 5 1 (.slice A n c) n (cellsOf x))
   (fun T x a' hT _ W W' ⟨A,n,c,h1,h2,h3⟩ ho=>⟨A,n,c,h1,h2,zn h3 ho (fun k hk e=>by have:=(World.ownsRow.lt h3 k hk).1;omega)⟩)
   ?assign ?body ?done (fun _ _ _ _ _ _ _ _ _ _ h _=>h.elim)
  case assign=>
   rintro T l' m pre x av W' K2 hT hTW ⟨A,n,c,rfl,hn,hx⟩ hI ho hK2
   gi_wp2
   exact hK2 _ _ (Out.refl _ _) hI ⟨A,n,c,rfl,hn,hx⟩
  case hS=>
   rintro T k hT (rfl|rfl|hk)
   ·exact ⟨.inl (by omega),fun h=>by have:=HS1.out;omega⟩
   ·exact ⟨.inl (by omega),fun h=>by have:=HS1.out;omega⟩
   ·exact ⟨.inr hk,fun h=>by omega⟩
  case hM=>
   intro k hk;exact hk.2
  case hI=>
   exact HI2.out T
  case body=>
   rintro T l' m pre x post a' W2 hT hXs hsz ho ⟨A,n,c,h1,h2,h3,h4⟩ ⟨A1,n1,c1,rfl,hx1,hx2⟩;have z0:=h1.cell (i:=0) rfl;have z1:=h1.frozen 0;have hln:pre.length+1<=1000000:=by
    have:=HMA2.out;have e:(zG (L.map Prod.snd).flatten).length=pre.length+(post.length+1):=by rw[hXs,List.length_append,List.length_cons]
    rw[HLS.out] at e;omega
   obtain ⟨i0,hi0,hz0,hz1,hz2⟩:=info_parts Yt;have hrd:=Rd.of_own hx2;have hn63:n1<=9223372036854775807:=by have:=yF hx2;omega
   have HCV:=gI (xD A1 n1 c1 x W2 W2.heap.size hx1 hrd);have HA:=gI h1;have HB:=gI h2;have HN:=gI h3;have H4:=gI h4;have HX2:=gI hx2;have HMX:=gI (show n+1<=maxLen by unfold maxLen;omega);have hn6:n<=1000000:=by omega
   have HSZ:=gI (show T<=W2.heap.size from hsz);have hHT:H+1<T:=by omega
   clear h1 h2 hXs ho hrd
   gi_wp2_with (first
    |(refine YC rfl 24 9 _ rfl _ _ rfl HCV.out ?_)
    |(gi_at_builtin
      go_loud (refine qN rfl (.tmp 24) (.tmp 27) 36 rfl H 9 i0 _ 1 16 Tryz.underlying36 hi0 hz0 hz1 hz2 rfl (by decide) A n c _ rfl (HB.out.alloc _) ⟨W2.heap.size,0,none⟩ 1 1 [.string ⟨x.toArray⟩] rfl rfl (cell_one_new W2 _ _) (fun u hu=>by rw[List.mem_singleton.1 hu];rfl) (by decide) HMX.out (by omega) (by rw[World.size_alloc];have:=HSZ.out;omega) ?_)
      intro v6 w6 ho6 hg6 hn6 hfit6;refine Classical.byContradiction fun hcontra=>?_))
   obtain ⟨A7,d7,hv7,-⟩:=zC ho6;subst hv7;have hne6:(Value.slice A n c).ownBlock≠some (H+1):=fun e=>by have:=H4.out _ e;omega
   have hb6:=(HA.out.alloc (.cells #[.string ⟨x.toArray⟩] 9)).grown hg6 hne6;have e7:=hb6.cell (i:=0) rfl;have y7:=hb6.frozen 0;rw[World.size_alloc] at hn6;have hsz2:=HSZ.out;obtain ⟨w7,hw7⟩:∃w7,w7=w6.setCell ⟨H+1,0,none⟩ (.slice A7 (n+1) d7):=⟨_,rfl⟩
   have ho26:Out (fun k=>k=H\/k=H+1\/T<=k) W2 w6:=((Out.refl (fun k=>k=H\/k=H+1\/T<=k) W2).alloc _).grown hg6 (fun k e=>.inl (by have:=H4.out k e;omega));have ho67:Out (fun k=>k=H+1) w6 w7:=by rw[hw7];exact (Out.refl (fun k=>k=H+1) w6).setCell (p:=⟨H+1,0,none⟩) (.inl rfl) _
   have ho27:Out (fun k=>k=H\/k=H+1\/T<=k) W2 w7:=by rw[hw7];exact ho26.setCell (p:=⟨H+1,0,none⟩) (.inl (.inr (.inl rfl))) _
   have h47:∀k,(Value.slice A7 (n+1) d7).ownBlock=some k->k=H\/T<=k:=fun k hk=>by
    rcases hn6 with e|e
    ·exact H4.out k (e.symm.trans hk)
    ·rw[e] at hk;injection hk with hk;omega
   have hrow7:w7.ownsRow H 9 1 (.slice A7 (n+1) d7) (n+1) ((pre++[x]).map sv):=by
    have:=zn ho6 ho67 (fun k hk e=>by have:=h47 k hk;omega);rw[List.map_append];exact this
   have hbrow:w7.ownsRow T 5 1 (.slice A1 n1 c1) n1 (cellsOf x):=by
    refine zn HX2.out (((Out.refl (fun k=>k=H+1\/(Value.slice A n c).ownBlock=some k) W2).alloc _).grown hg6 (fun k e=>.inl (.inr e)) |>.trans (ho67.more fun k _ e=>.inl e)) (fun k hk e=>?_);rcases e with e|e
    ·have:=(World.ownsRow.lt HX2.out k hk).1;omega
    ·exact zcK HB.out HX2.out (by decide) e hk
   have HBW:=gI hbrow;have HRW:=gI hrow7;have HBX:=gI (show Blk w7 (H+1) [.slice A7 (n+1) d7] by rw[hw7];exact hb6.set 0 _);have H27:=gI ho27;have H47:=gI h47;have HW7:=gI hw7;clear ho6 hg6 hn6 hfit6 hb6 hne6 z0 z1 ho26 ho67 ho27 h47 hrow7 hbrow hw7
   apply hcontra
   clear hcontra
   gi_wp2
   rw[<-HW7.out]
   gi_loopw [8] (fun iv wr=>∃k:Nat,k<=n1/\iv=.int .i64 (k:Int)/\Hid (Out (fun j=>(Value.slice A1 n1 c1).ownBlock=some j) w7 wr)/\Hid (∃xs,wr.ownsRow T 5 1 (.slice A1 n1 c1) n1 xs)) (fun iv _=>n1-(intOf iv).toNat)
   case atStart=>exact ⟨0,Nat.zero_le _,rfl,gI (Out.refl _ _),gI ⟨_,HBW.out⟩⟩
   case round=>
    obtain ⟨k,hk,rfl,HOW,HWK⟩:=hrel
    by_cases hlt:k<n1
    ·obtain ⟨xs,hxs⟩:=HWK.out;obtain ⟨g,hA1,hg1,hg2,hg3,hg4⟩:=vC (v:=.int .u8 99) hxs hlt;subst hA1;obtain ⟨u,hu⟩:∃u,xs[k]?=some u:=⟨_,List.getElem?_eq_getElem (by have:=hxs.1;omega)⟩
     rw[hu] at hg2;have HN:=gI (show Out (fun j=>(Value.slice (some ⟨g,0,none⟩) n1 c1).ownBlock=some j) w7 (wr.setCell ⟨g,k,none⟩ (.int .u8 99)) from HOW.out.setCell (p:=⟨g,k,none⟩) (.inl rfl) _);have HN2:=gI (show ∃xs,(wr.setCell ⟨g,k,none⟩ (.int .u8 99)).ownsRow T 5 1 (.slice (some ⟨g,0,none⟩) n1 c1) n1 xs from ⟨_,hg4⟩);have hlt2:(k:Int)<(n1:Int):=by omega
     clear hxs hg4 hu
     gi_wp2
     go_roundw
     case rel=>exact ⟨k+1,by omega,by go_num,HN,HN2⟩
     case measure=>simp[intOf];omega
    ·have hnl:¬(k:Int)<(n1:Int):=by omega
     have hbl:∀j,(Value.slice A1 n1 c1).ownBlock=some j->T<=j:=fun j hj=>(World.ownsRow.lt HBW.out j hj).1
     have FIN:=gI (show Out (fun k=>k=H\/k=H+1\/T<=k) W2 wr/\LrI H T (pre++[x]) wr from by
      refine ⟨H27.out.trans (HOW.out.more fun j _ e=>.inr (.inr (hbl j e))),A7,n+1,d7,HBX.out.out HOW.out (fun e=>by have:=hbl _ e;omega),zn HRW.out HOW.out (fun j hj e=>zcK HRW.out HBW.out (by decide) hj e),by rw[List.length_append,HN.out];rfl,H47.out⟩)
     gi_wp2
     exact FIN.out
  case done=>
   rintro T D W2 hT hD ho ⟨A,n,c,h1,h2,h3,h4⟩ hK;have z0:=h1.cell (i:=0) rfl;have hlt:=(Array.getElem?_eq_some_iff.1 hK).1;have hbw:Below w.heap.size w W2:=HB2.out.trans (ho.below (fun k _ hk=>by
    have hk:k=H\/k=H+1\/T<=k:=hk;have:=HH.out
    omega) HB2.out.size)
   have HK:=gI hK;have hD2:H+2<=D:=by omega
   have FIN:=gI (show ziW w (QD X R) (.returned (.tuple #[.slice A n c,.int .i64 0])) (W2.putObj D (.deferred none)) from by
    rw[HE.out,<-HLS.out];refine ⟨A,n,c,rfl,?_,h3,hbw.grown (grownBy_putObj' _ D _) (by have:=hbw.size;omega) (fun k e=>by cases e;have:=HH.out;omega)⟩;rw[<-HH.out];exact zn h2 (Out.of_grown (S:=fun k=>k=D) (grownBy_putObj' W2 D (.deferred none)) (fun k e _=>by injection e with e;exact e.symm)) (fun k hk e=>by have:=h4 k hk;omega))
   clear h1 h2 h3 h4 ho hbw hK
   gi_wp2
   refine ⟨by simp,.inl ⟨_,_,rfl,run_takeDeferred HK.out,?_⟩⟩;refine ⟨.tuple #[.slice A n c,.int .i64 0],?_,FIN.out⟩;simp[results,Tryz.results14,go_sem]
end
section
open Go.RowKit Me Mf Rw Ds Rn Tx Fr Mw Hp
def lsG (a1 a2:Addr) (n c1 c2 k:Nat) (x:List UInt8):Gw.Fact:=fun s v _=>
 match s with
 |0|17=>v=.slice (some a1) n c1
 |1|21=>v=.slice (some a2) n c2
 |5|18|22=>v=.int .i64 (k:Int)
 |19=>v=.pointer (some (a1.add k))
 |23=>v=.pointer (some (a2.add k))
 |20|24=>v=sv x
 |25=>v=.bool false
 |_=>True
theorem Vs (A1 A2:Option Addr) (n c1 c2:Nat) (ls:List (List UInt8)) (hn:ls.length=n) (hn30:n<=1073741824) (w:World) (h1:Cs w w.heap.size A1 (ls.map sv)) (h2:Cs w w.heap.size A2 (ls.map sv)) :
 Calls Tryz.prog 16 #[.slice A1 n c1,.slice A2 n c2] w fun e w'=>e=.returned (.bool true)/\Below w.heap.size w w':=by
 have H1:=gI h1;have H2:=gI h2;have HN:=gI hn;have HB:=gI (Below.refl w.heap.size w);clear h1 h2 hn
 go_enter Tryz.func16,Tryz.ntmps16
 go_wp2
 go_loopw [5] (fun i wr=>∃k:Nat,i=.int .i64 (k:Int)/\k<=n/\Hid (Below w.heap.size w wr)) (fun i _=>(n-intOf i).toNat)
 case atStart=>exact ⟨0,rfl,Nat.zero_le _,HB⟩
 case round=>
  clear HB;obtain ⟨k,rfl,hk,HB⟩:=hrel
  by_cases hkn:k<n
  ·obtain ⟨x,hx⟩:∃x,ls[k]?=some x:=⟨_,List.getElem?_eq_getElem (by rw[HN.out];exact hkn)⟩
   have hx2:(ls.map sv)[k]?=some (sv x):=by rw[List.getElem?_map,hx];rfl
   have hlen:0<(ls.map sv).length:=by rw[List.length_map,HN.out];omega
   obtain ⟨a1,rfl,b1,q1⟩:=(H1.out.below HB.out) hlen;obtain ⟨a2,rfl,b2,q2⟩:=(H2.out.below HB.out) hlen;have y1:=q1 k _ hx2;have y2:=q2 k _ hx2;have hlt2:(k:Int)<(n:Int):=by omega
   clear q1 q2 hx hx2 hlen b1 b2
   go_wp2_with fail
   refine Gw.zl (lsG a1 a2 n c1 c2 k x) [17,18,19,20,21,22,23,24,25] [([0],none),([5],none),([17,18],none),([19],none),([1],none),([5],none),([21,22],none),([23],none),([20,24],none)] 26 (by kernel_rfl) (by kernel_rfl) rfl ?h0 ?hreq ?hend
   case h0=>
    intro t W hnd _;unfold lsG
    split<;>first|rfl|trivial|exact absurd (by simp) hnd
   case hreq=>
    refine ⟨?_,?_,?_,?_,?_,?_,?_,?_,?_,trivial⟩
    all_goals
     intro ac W hg hk;have z1:=(Below.cell (show Below wr.heap.size wr W from hg) (World.block_lt_of_cell? _ _ y1)).trans y1;have z2:=(Below.cell (show Below wr.heap.size wr W from hg) (World.block_lt_of_cell? _ _ y2)).trans y2;simp only[Gw.Knows,lsG] at hk
     try (simp[go_sem,Gw.zw,Gw.Ok,Gw.Post,Gw.Holds,lsG,Gw.zk.refl,hk,z1,z2,hkn];done)
   case hend=>
    intro x' w' hg hx;have h25:=(hx 25 (by simp)).now;simp only[lsG] at h25;have HB2:=gI (HB.out.trans (Below.mono (show Below wr.heap.size wr w' from hg) HB.out.size));clear hx hg y1 y2;simp only[Gw.zm,Act.put,List.setIfInBounds_toArray,List.set_cons_zero,List.set_cons_succ];rw[h25]
    go_wp2
    go_roundw
    case rel=>exact ⟨k+1,by go_num,by omega,HB2⟩
    case measure=>simp[intOf];omega
  ·have hnl:¬(k:Int)<(n:Int):=by omega
   go_wp2
   go_ret
   exact ⟨rfl,HB.out⟩
def zmv (w:World) (e:Ending) (w':World):Prop:=
 ∃P D M own ownD,e=.returned (.tuple #[.pointer (some ⟨D,0,none⟩),.pointer (some ⟨P,0,none⟩),.bool true])/\zo w' w.heap.size P D M 0 ⟨newD 400,ql,noC,false⟩ own ownD/\Below w.heap.size w w'
theorem zaE (w:World):Calls Tryz.prog 8 #[] w (zmv w):=by
 have HN:=gI (zkA 400 (by omega) (by omega) w)
 go_enter Tryz.func8,Tryz.ntmps8
 go_wp2_with (go_at_call 26;refine HN.out.mono ?_)
 rintro e w1 ⟨D,ownD,rfl,hd,hb1⟩;have hrest:=Rest.new (F:=fun _=>[]) (n:=400) (by omega);obtain ⟨T,Z,hT,hZ,hans⟩:=hrest.read;have hmr:=zcS hd (show (newD 400).pend.length<_ by show 0<_;omega) hT hZ;rw[hans] at hmr;have HO:=gI (zcM (own:=ownD) hd (fun k hk=>hk) (fun k hk=>hd.lt hk) hmr zbB zdD (fun z hz=>by cases hz) hrest.ok.big (show 0+64<=_ by omega));have HD:=gI hd;have HB1:=gI hb1;clear hd hb1 hmr hans hT hZ hrest
 go_wp2_with fail
 refine HO.out.mono ?_;intro e w2 hop;simp only[zfG,show ql.version=0 from rfl,↓reduceIte] at hop;rcases hop with ⟨q,-⟩|⟨-,P,M,own,ownD2,rfl,hst,ho2,hn2,-⟩
 ·exact absurd rfl q
 ·have hb2:Below w.heap.size w w2:=HB1.out.trans (ho2.below (fun k hk hs=>(HD.out.lt hs).1) HB1.out.size);have HS:=gI hst;have HB2:=gI hb2;clear hst ho2 hn2 hb2
  go_wp2_with fail
  exact bodyPost_ret (v:=.tuple #[.pointer (some ⟨D,0,none⟩),.pointer (some ⟨P,0,none⟩),.bool true]) (by simp[results,Tryz.results8,go_sem]) rfl ⟨P,D,M,own,ownD2,rfl,HS.out,HB2.out⟩
end
section
open Go.RowKit Me Mf Rw Ds Rn Tx Fr Mw Hp
variable {w w':World} {B K P D M N:Nat} {hb:Option Nat} {X:Sto} {R:SrD} {own ownD:Nat->Prop}
theorem yR.lower {B':Nat} (h:yR w B K P hb R) (hB:B'<=B) (hT:1<B'):yR w B' K P hb R:=by
 obtain ⟨A,n,c,h1,h2,h3,h4⟩:=h.box;exact ⟨⟨A,n,c,h1,zU h2 hB,h3,h4⟩,Nat.le_trans hB h.lo,h.ne,h.ok,h.tab,hT⟩
theorem PTab.lt (h:PTab w):(1:Nat)<w.heap.size:=World.block_lt_of_cell? _ _ (h.at 0 (by omega))
theorem zI.new (h:zo w B P D M N X own ownD) (hB:B<=w.heap.size) (hT:1<B) (hb2:Below w.heap.size w w') (hx:yR w' w.heap.size K P none R):zI w' B K P D M N none X R (fun k=>own k\/k=K) ownD:=
 ⟨h.with hb2 (E:=fun k=>k=K) (fun k hk=>by rw[hk];exact ⟨hx.lo,hx.lt⟩) hB,hx.lower hB hT,⟨.inr rfl,fun hf=>by
   have h1:=(h.lt (h.own K hf)).2;have h2:=hx.lo
   omega⟩,fun k e=>by cases e⟩
theorem zln {i:Nat} {l:List (List UInt8)} (hs:xS X (zq R i)=(runB l,0)) (hw:0<R.wd) (hl:Wid R.wd l) (hr:yu l) (hb:l.flatten.length<=1048576):rdD X R i=(l.flatten,0):=by
 have hg:getS (runB l)=(⟨82,l.flatten⟩,(runB l).length,0):=by
  have:=zfq ⟨82,l.flatten⟩ [] hb;rw[List.append_nil] at this;rw[yU];exact this
 unfold rdD
 dsimp only
 rw[hs]
 dsimp only
 rw[if_neg (fun h=>h rfl),hg]
 dsimp only
 rw[if_neg];rw[Vi hw hl,X5];rintro (h|h|h|h)
 ·exact h rfl
 ·exact h rfl
 ·exact h rfl
 ·exact h ⟨hl,hr⟩
theorem zhe {x b:List UInt8} (hu:upD X=true):xS {X with C:=setC X.C x (some b)} x=(b,0):=by
 unfold xS;rw[show upD {X with C:=setC X.C x (some b)}=upD X from rfl,hu,if_pos rfl];simp[setC]
abbrev X400:Sto:=⟨newD 400,ql,noC,false⟩
theorem zma:upD X400=true:=by decide
theorem zk4 (x:List UInt8):¬hasN X400 x=true:=by
 unfold hasN;simp[noC,ql]
abbrev RAw (n:Nat) (l:List (List UInt8)):SrD:=⟨[114],1,2,l,0,n⟩
theorem zl3:putR X400 (RAw 0 []) [3]=(0,X400,RAw 0 [[3]]):=by simp[putR]
theorem zl2:putR X400 (RAw 0 [[3]]) [1]=(0,X400,RAw 0 [[3],[1]]):=by simp[putR]
theorem zl0:zG [[3],[1]]=[[1],[3]]:=vz (by unfold yu;simp[leB];decide) (List.Perm.swap _ _ _)
abbrev XAw:Sto:={X400 with C:=setC noC (zq (RAw 0 [[3],[1]]) 0) (some (runB [[1],[3]]))}
theorem zkI:xB X400 (RAw 0 [[3],[1]])=(0,XAw,RAw 1 []):=by
 have ha:xg (upD X400) (zq (RAw 0 [[3],[1]]) 0) ((runB [[1],[3]]).length:Nat)=0:=by
  rw[yU];unfold xg;rw[zma];simp[zq,Ye]
 unfold xB;rw[if_neg (by simp),zl0];rw[if_neg (fun h=>h ha)]
theorem zl1:putR X400 (RAw 0 [[3],[1]]) [2]=(0,XAw,RAw 1 [[2]]):=by
 have h:(if (RAw 0 [[3],[1]]).held.length=(RAw 0 [[3],[1]]).rm then xB X400 (RAw 0 [[3],[1]]) else (0,X400,RAw 0 [[3],[1]]))=(0,XAw,RAw 1 []):=by
  rw[if_pos (show (RAw 0 [[3],[1]]).held.length=(RAw 0 [[3],[1]]).rm from rfl),zkI]
 unfold putR;rw[if_neg (by simp)]
 dsimp only
 rw[h]
 simp
theorem ziQ:QD XAw (RAw 1 [[2]])=([[1],[2],[3]],0):=by
 have h1:rdD XAw (RAw 1 [[2]]) 0=([[1],[3]].flatten,0):=zln (zhe (X:=X400) zma) (by decide) (by unfold Wid;simp) (by unfold yu;simp[leB];decide) (by decide);have h2:ZY XAw (RAw 1 [[2]]) 0 (1-0)=0:=by
  show (if (rdD XAw (RAw 1 [[2]]) 0).2≠0 then _ else _)=_
  rw[h1,if_neg (fun h=>h rfl)];rfl
 unfold QD;rw[if_neg (fun h=>h h2)];have h3:YD XAw (RAw 1 [[2]]) 1=[[[2]],[[1],[3]]]:=by
  unfold YD;show zG [[2]]::[pieces 1 (rdD XAw (RAw 1 [[2]]) 0).1]=_
  rw[h1,Vi (by decide) (by unfold Wid;simp),zjo (by unfold yu;simp)]
 show (zG (YD XAw (RAw 1 [[2]]) 1).flatten,(0:Int))=_
 rw[h3];have h4:zG [[2],[1],[3]]=[[1],[2],[3]]:=vz (by unfold yu;simp[leB];decide) (List.Perm.swap _ _ _);exact congrArg (fun l=>(l,(0:Int))) h4
end
section
open Go.RowKit Me Mf Rw Ds Rn Tx Fr Mw Hp
variable {X:Sto} {R:SrD} {L:List (List UInt8)}
theorem zau:∀(k n:Nat),n<10^(k+1)->(putN n).length<=k+1
 |0,n,h=>by rw[Ye (by simpa using h)];simp
 |k+1,n,h=>by
  by_cases h0:n<10
  ·rw[Ye h0];simp
  ·rw[Ve h0,List.length_append];have:=zau k (n / 10) (by rw[Nat.pow_succ] at h;omega);simp only[List.length_cons,List.length_nil];omega
theorem qm (h:OkR R) {n:Nat} (hn:n<1000000):1<=(zq R n).length/\(zq R n).length<=22:=by
 unfold zq;rw[List.length_append];have:=h.pre;have:=zau 5 n (by omega);omega
theorem zhU {a b:Nat} (h:zq R a=zq R b):a=b:=zeY (List.append_cancel_left h)
end
section
open Go.RowKit Me Mf Rw Rn Tx
variable {w w':World}
theorem zie {x:List UInt8}:∀(l:List (List UInt8)) (i:Nat),i<=l.length->(∀j y,j<i->l[j]?=some y->Rn.leB y x)->(∀y,l[i]?=some y->Op.bytesLess x y=true)->insL x l=l.take i++x::l.drop i
 |[],i,h,_,_=>by
  have:i=0:=by simpa using h
  subst this;rfl
 |y::l,0,_,_,h2=>by
  rw[insL,if_pos (h2 y rfl)];rfl
 |y::l,i+1,h,h1,h2=>by
  have hy:Rn.leB y x:=h1 0 y (by omega) rfl;rw[insL,if_neg (by unfold Rn.leB at hy;rw[hy];simp),zie l i (by simpa using h) (fun j z hj hz=>h1 (j+1) z (by omega) hz) (fun z hz=>h2 z hz)];rfl
theorem zfN (l:List (List UInt8)) (x:List UInt8):zG (l++[x])=insL x (zG l):=by
 unfold zG;rw[List.foldl_append];rfl
def soG (a al:Addr) (k c n cl i:Nat) (y x:List UInt8) (q0 q1:Bool):Gw.Fact:=fun s v _=>
 match s with
 |0=>v=.slice (some al) n cl
 |22=>q0=true->v=.slice (some al) n cl
 |3|14=>v=.slice (some a) k c
 |18=>q0=true->v=.slice (some a) k c
 |5|13=>v=.int .i64 (i:Int)
 |19=>q0=true->v=.int .i64 (i:Int)
 |4=>v=.int .i64 (k:Int)
 |23=>q0=true->v=.int .i64 (k:Int)
 |15=>v=.int .i64 (k:Int)
 |16|17=>v=.bool q0
 |20=>q0=true->v=.pointer (some (a.add i))
 |21=>q0=true->v=sv y
 |24=>q0=true->v=.pointer (some (al.add k))
 |25=>q0=true->v=sv x
 |26=>q0=true->v=.bool q1
 |27=>v=.bool (q0&&q1)
 |_=>True
theorem zbt (y x:List UInt8):(Op.bytesLess y x||y==x)= !Op.bytesLess x y:=zk3 y x
theorem Vr (Al:Option Addr) (n cl:Nat) (l:List (List UInt8)) (hl:l.length=n) (hn:n<=100000000) (w:World) (hc:Cs w w.heap.size Al (l.map sv)) :
 Calls Tryz.prog 20 #[.slice Al n cl] w fun e w'=>∃A c,e=.returned (.slice A n c)/\w'.ownsRow w.heap.size 9 1 (.slice A n c) n ((zG l).map sv)/\Below w.heap.size w w':=by
 have HL:=gI hl;have HC:=gI hc;obtain ⟨i0,hi0,hz0,hz1,hz2⟩:=info_parts Yt;have H0:=gI (show (w.alloc (.cells #[] 9)).ownsRow w.heap.size 9 1 (.slice (some ⟨w.heap.size,0,none⟩) 0 0) 0 ((zG []).map sv)/\Below w.heap.size w (w.alloc (.cells #[] 9)) from
  ⟨⟨rfl,.inr ⟨w.heap.size,0,#[],rfl,Nat.le_refl _,heap_alloc_new w _,Nat.le_refl _,by decide,rfl,rfl⟩⟩,(Below.refl _ _).alloc (Nat.le_refl _) _⟩)
 clear hl hc
 go_enter Tryz.func20,Tryz.ntmps20
 go_wp2
 go_loopw [3,10] (fun v kv wr=>∃(k:Nat) (a:Addr) (c:Nat),v=.slice (some a) k c/\kv=.int .i64 (k:Int)/\k<=n/\Hid (wr.ownsRow w.heap.size 9 1 (.slice (some a) k c) k ((zG (l.take k)).map sv))/\Hid (Below w.heap.size w wr)) (fun _ kv _=>n-(intOf kv).toNat)
 case atStart=>exact ⟨0,⟨w.heap.size,0,none⟩,0,rfl,rfl,Nat.zero_le _,gI H0.out.1,gI H0.out.2⟩
 case round=>
  clear H0;obtain ⟨wo,rfl⟩:∃wo,wo=wr:=⟨_,rfl⟩
  obtain ⟨k,a,c,rfl,rfl,hk,HO,HB⟩:=hrel
  by_cases hlt:k<n
  ·obtain ⟨x,hx⟩:∃x,l[k]?=some x:=⟨_,List.getElem?_eq_getElem (by rw[HL.out];exact hlt)⟩
   obtain ⟨al,rfl,hab,hcl⟩:=HC.out (by rw[List.length_map,HL.out];omega);have cx:wo.cell? (al.add k)=some (sv x):=(HB.out.cell (by rw[block_add];exact hab)).trans (hcl k (sv x) (by rw[List.getElem?_map,hx];rfl));obtain ⟨S,hS⟩:∃S,S=zG (l.take k):=⟨_,rfl⟩
   have HS:=gI hS;rw[<-hS] at HO;have HSL:=gI (show S.length=k by have:=HO.out.1;rw[List.length_map,Nat.mul_one] at this;exact this);have HX:=gI hx;have hlt2:(k:Int)<(n:Int):=by omega
   have hcs:=Cs.of_own HO.out;have HCS:=gI (show ∀j y,S[j]?=some y->wo.cell? (a.add j)=some (sv y) from fun j y hy=>by
    have hj:j<S.length:=(List.getElem?_eq_some_iff.1 hy).1;obtain ⟨a',ha,-,hc2⟩:=hcs (by rw[List.length_map];omega);injection ha with ha;subst ha;exact hc2 j (sv y) (by rw[List.getElem?_map,hy];rfl))
   have hgl:=(World.ownsRow.lt HO.out a.block rfl).2;clear hx hcl hS hcs
   go_wp2
   go_loopw [5] (fun iv w2=>∃i:Nat,iv=.int .i64 (i:Int)/\i<=k/\Hid (∀j y,j<i->S[j]?=some y->Rn.leB y x)/\Hid (Below wo.heap.size wo w2)) (fun iv _=>k-(intOf iv).toNat)
   case atStart=>exact ⟨0,rfl,Nat.zero_le _,gI (fun j y hj=>by omega),gI (Below.refl _ _)⟩
   case round=>
    obtain ⟨i,rfl,hik,HI,HB2⟩:=hrel;obtain ⟨q0,hq0⟩:∃q0,decide ((i:Int)<(k:Int))=q0:=⟨_,rfl⟩
    obtain ⟨y,hy⟩:∃y,y=S.getD i []:=⟨_,rfl⟩
    obtain ⟨q1,hq1⟩:∃q1,(Op.bytesLess y x||y==x)=q1:=⟨_,rfl⟩
    have HY:=gI hy;have hq0n:decide (i<k)=q0:=by rw[<-hq0];simp
    have hT:q0=true->i<k:=fun h=>by rw[<-hq0n] at h;exact of_decide_eq_true h
    have hcy:q0=true->∀W,Below wr.heap.size wr W->W.cell? (a.add i)=some (sv y):=fun h W hW=>by
     have hik:i<k:=by rw[<-hq0] at h;have:=of_decide_eq_true h;omega
     have h1:=HCS.out i y (by rw[hy,List.getD_eq_getElem?_getD,List.getElem?_eq_getElem (by rw[HSL.out];exact hik)];rfl);exact (hW.cell (by rw[block_add];have:=HB2.out.size;omega)).trans ((HB2.out.cell (by rw[block_add];exact hgl)).trans h1)
    have HCY:=gI hcy;have hcx:∀W,Below wr.heap.size wr W->W.cell? (al.add k)=some (sv x):=fun W hW=>by
     have hlt:=World.block_lt_of_cell? _ _ cx;exact (hW.cell (by have:=HB2.out.size;omega)).trans ((HB2.out.cell hlt).trans cx)
    have HCX:=gI hcx;clear hy hcy hcx
    go_wp2_with fail
    refine Gw.zl (soG a al k c n cl i y x q0 q1) [13,14,15,16,17,18,19,20,21,22,23,24,25,26,27] [([5],none),([3],none),([14],none),([13,15],none),([16],none),([3,17],some (17,true)),([5,17],some (17,true)),([18,19,17],some (17,true)),([20,17],some (17,true)),([0,17],some (17,true)),([4,17],some (17,true)),([22,23,17],some (17,true)),([24,17],some (17,true)),([21,25,17],some (17,true)),([17,26],none)] 49 (by kernel_rfl) (by kernel_rfl) rfl ?h0 ?hreq ?hend
    case h0=>
     intro t W hnd _;unfold soG
     split<;>first|(exfalso;apply hnd;decide)|rfl|trivial
    case hreq=>
     refine ⟨?_,?_,?_,?_,?_,?_,?_,?_,?_,?_,?_,?_,?_,?_,?_,trivial⟩
     all_goals
      intro ac W hg hk;have zy:=fun h=>HCY.out h W hg
      have zx:=HCX.out W hg;simp only[Gw.Knows,soG] at hk
      try (first
       |(simp[go_sem,Gw.zw,Gw.Ok,Gw.Post,Gw.Holds,soG,Gw.zk.refl,hk,hq0,hq0n,hq1,zx];done)
       |(rcases Bool.eq_false_or_eq_true q0 with hq|hq
         ·have hik9:=hT hq;have zy9:=zy hq;simp[go_sem,Gw.zw,Gw.Ok,Gw.Post,Gw.Holds,soG,Gw.zk.refl,hk,hq,hq1,hik9,hlt,zx,zy9]
          done
         ·simp[go_sem,Gw.zw,Gw.Ok,Gw.Post,Gw.Holds,soG,Gw.zk.refl,hk,hq]
          done))
    case hend=>
     intro y2 w5 hg hy2;have h27:=(hy2 27 (by simp)).now;simp only[soG] at h27;have HB5:=gI (HB2.out.trans (Below.mono (show Below wr.heap.size wr w5 from hg) HB2.out.size));clear hg hy2;simp only[Gw.zm,Act.put,List.setIfInBounds_toArray,List.set_cons_zero,List.set_cons_succ];rw[h27]
     cases hq:(q0&&q1) with
     |true=>
      rw[Bool.and_eq_true] at hq;have hik9:=hT hq.1;have HN:=gI (show ∀j z,j<i+1->S[j]?=some z->Rn.leB z x from fun j z hj hz=>by
       by_cases hji:j<i
       ·exact HI.out j z hji hz
       ·have e:j=i:=by omega
        subst e;have h1:y=z:=by rw[HY.out,List.getD_eq_getElem?_getD,hz];rfl
        have h2:=hq1.trans hq.2;rw[zbt,h1] at h2
        simpa [Rn.leB] using h2)
      clear hq1 hq0 hq0n hT h27
      go_wp2
      go_roundw
      case rel=>exact ⟨i+1,by go_num,by omega,HN,HB5⟩
      case measure=>simp[intOf];omega
     |false=>
      have HNX:=gI (show ∀z,S[i]?=some z->Op.bytesLess x z=true from fun z hz=>by
       have hil:i<S.length:=(List.getElem?_eq_some_iff.1 hz).1;have h0:q0=true:=by rw[<-hq0n];simp;have:=HSL.out;omega
       rw[h0,Bool.true_and] at hq;have h1:y=z:=by rw[HY.out,List.getD_eq_getElem?_getD,hz];rfl
       have h2:=hq1.trans hq;rw[zbt,h1] at h2
       simpa using h2)
      have HINS:=gI (show zG (l.take (k+1))=S.take i++x::S.drop i from by
       rw[List.take_add_one,HX.out];show zG (l.take k++[x])=_
       rw[zfN,<-HS.out];exact zie S i (by rw[HSL.out];exact hik) HI.out HNX.out)
      have HK5:=gI (show ∀j y,S[j]?=some y->w5.cell? (a.add j)=some (sv y) from fun j y hy=>(HB5.out.cell (by rw[block_add];exact hgl)).trans (HCS.out j y hy));have hs5:=HB5.out.size;have hws:=HB.out.size;have cx5:=(HB5.out.cell (World.block_lt_of_cell? _ _ cx)).trans cx;have hik2:(i:Int)<=(k:Int):=by omega
      have hkc:=(yF HO.out).1;have hic:(i:Int)<=(c:Int):=by omega
      have hkc2:(k:Int)<=(c:Int):=by omega
      clear hq hq1 hq0 hq0n hT h27 HCY HCX HY HI;have HOWN:=gI (yF HO.out);have HO5:=gI (show (w5.alloc (.cells #[] 9)).ownsRow w5.heap.size 9 1 (.slice (some ⟨w5.heap.size,0,none⟩) 0 0) 0 [] from ⟨rfl,.inr ⟨w5.heap.size,0,#[],rfl,Nat.le_refl _,heap_alloc_new w5 _,Nat.le_refl _,by decide,rfl,rfl⟩⟩);have HN1:=gI (show ((S.take i).map sv).length=i*1 by rw[List.length_map,List.length_take,HSL.out];omega);have HN2:=gI (show ∀W,Below w5.heap.size w5 W->∀j u,((S.take i).map sv)[j]?=some u->W.cell? (a.add j)=some u from fun W hW j u hu=>by
       rw[List.getElem?_map] at hu
       cases h3:(S.take i)[j]? with
       |none=>rw[h3] at hu;cases hu
       |some z=>
        rw[h3] at hu;injection hu with hu;subst hu;have h4:S[j]?=some z:=by
         rw[List.getElem?_take] at h3
         split at h3
         ·exact h3
         ·cases h3
        have h5:=HK5.out j z h4;exact (hW.cell (World.block_lt_of_cell? _ _ h5)).trans h5)
      have HSV:=gI (show ∀u∈(S.take i).map sv,u.oneCell'=true from fun u hu=>by
       obtain ⟨z,-,rfl⟩:=List.mem_map.1 hu
       rfl)
      have HMX:=gI (show 0+i<=maxLen/\(0+i)*16<=140737488355328 by unfold maxLen;omega)
      go_wp2_with (at_builtin
                   go_loud (refine wpList_append_own_at _ rfl (.tmp 30) (.tmp 33) 36 rfl w5.heap.size 9 i0 _ 1 16 Tryz.underlying36 hi0 hz0 hz1 hz2 rfl (by decide) (.slice (some ⟨w5.heap.size,0,none⟩) 0 0) 0 [] rfl HO5.out a i c ((S.take i).map sv) rfl HN1.out (HN2.out _ ((Below.refl _ _).alloc (Nat.le_refl _) _)) HSV.out HMX.out.1 HMX.out.2 (by rw[World.size_alloc];omega) ?_)
                   intro v6 w6 ho6 hg6 hnn6 hn6;refine Classical.byContradiction fun hcontra=>?_)
      obtain ⟨A6,c6,hv6⟩:=zJ ho6;subst hv6;rw[Nat.zero_add] at hcontra;have hb6:Below w5.heap.size w5 w6:=(((Below.refl _ w5).alloc (Nat.le_refl _) (.cells #[] 9)).grown hg6 (by rw[World.size_alloc];omega) (fun k e=>by cases e;exact Nat.le_refl _))
      have HO6:=gI (show w6.ownsRow w5.heap.size 9 1 (.slice A6 i c6) i ((S.take i).map sv) from by rw[Nat.zero_add,List.nil_append] at ho6;exact ho6);have cx6:=(hb6.cell (World.block_lt_of_cell? _ _ cx5)).trans cx5;have hs6:=hb6.size;have HB6:=gI hb6;obtain ⟨w6a,hw6a⟩:∃w6a,w6a=w6.alloc (.cells #[sv x] 9):=⟨_,rfl⟩
      have HC6:=gI (show ∀j u,[sv x][j]?=some u->w6a.cell? ((⟨w6.heap.size,0,none⟩:Addr).add j)=some u from by rw[hw6a];exact cell_one_new w6 _ _);have HO6a:=gI (show w6a.ownsRow w5.heap.size 9 1 (.slice A6 i c6) i ((S.take i).map sv) from by rw[hw6a];exact HO6.out.alloc _);have HS6a:=gI (show w6a.heap.size=w6.heap.size+1 by rw[hw6a];simp);have HMX7:=gI (show i+1<=maxLen/\(i+1)*16<=140737488355328 by unfold maxLen;omega);have HW6A:=gI hw6a;clear ho6 hg6 hnn6 hn6 hb6 cx5 hw6a
      apply hcontra
      clear hcontra
      go_wp2_with (at_builtin
                   rw[<-HW6A.out]
                   go_loud (refine wpList_append_own_at _ rfl (.tmp 35) (.tmp 40) 36 rfl w5.heap.size 9 i0 _ 1 16 Tryz.underlying36 hi0 hz0 hz1 hz2 rfl (by decide) (.slice A6 i c6) i _ rfl HO6a.out ⟨w6.heap.size,0,none⟩ 1 1 [sv x] rfl rfl HC6.out (fun u hu=>by rw[List.mem_singleton.1 hu];rfl) HMX7.out.1 HMX7.out.2 (by rw[HS6a.out];omega) ?_)
                   intro v7 w7 ho7 hg7 hnn7 hn7;refine Classical.byContradiction fun hcontra=>?_)
      obtain ⟨A7,c7,hv7⟩:=zJ ho7;subst hv7;have hs7:w5.heap.size<=w7.heap.size:=by have:=hg7.size;rw[HS6a.out] at this;omega
      have hb67:Below w5.heap.size w5 w7:=(HB6.out.trans ((show Below w6.heap.size w6 w6a by rw[HW6A.out];exact (Below.refl _ _).alloc (Nat.le_refl _) _).mono HB6.out.size)).grown hg7 (by rw[HS6a.out];omega) (fun j e=>(HO6a.out.lt j e).1);have HB7:=gI hb67;have HO7:=gI ho7;have HN3:=gI (show ((S.drop i).map sv).length=(k-i)*1 by rw[List.length_map,List.length_drop,HSL.out];omega);have HSV3:=gI (show ∀u∈(S.drop i).map sv,u.oneCell'=true from fun u hu=>by
       obtain ⟨z,-,rfl⟩:=List.mem_map.1 hu
       rfl)
      have HMX8:=gI (show i+1+(k-i)<=maxLen/\(i+1+(k-i))*16<=140737488355328 by unfold maxLen;omega);have HS7:=gI hs7;have HSD:=gI (show ∀j u,((S.drop i).map sv)[j]?=some u->j<k-i/\w7.cell? (a.add (i+j))=some u from fun j u hu=>by
       have hj:j<k-i:=by have:=(List.getElem?_eq_some_iff.1 hu).1;rw[List.length_map,List.length_drop,HSL.out] at this;exact this
       rw[List.getElem?_map,List.getElem?_drop] at hu
       cases h3:S[i+j]? with
       |none=>rw[h3] at hu;cases hu
       |some z=>
        rw[h3] at hu;injection hu with hu;subst hu;have h5:=HK5.out _ z h3;exact ⟨hj,(hb67.cell (World.block_lt_of_cell? _ _ h5)).trans h5⟩)
      have HLST:=gI (show (S.take i).map sv++[sv x]++(S.drop i).map sv=(zG (l.take (k+1))).map sv from by rw[HINS.out];simp);have HBW7:=gI (HB.out.trans ((HB5.out.trans (hb67.mono HB5.out.size)).mono HB.out.size));clear ho7 hg7 hnn7 hn7 hb67 cx6 hs7
      apply hcontra
      clear hcontra
      by_cases hci:c=i
      ·have HK7:=gI (show ∀j u,((S.drop i).map sv)[j]?=some u->w7.cell? (a.add j)=some u from fun j u hu=>by
        have:=(HSD.out j u hu).1
        omega)
       go_wp2_with (at_builtin
                    go_loud (refine wpList_append_own_at _ rfl (.tmp 42) (.tmp 45) 36 rfl w5.heap.size 9 i0 _ 1 16 Tryz.underlying36 hi0 hz0 hz1 hz2 rfl (by decide) (.slice A7 (i+1) c7) (i+1) _ rfl HO7.out a (k-i) 0 ((S.drop i).map sv) rfl HN3.out HK7.out HSV3.out HMX8.out.1 HMX8.out.2 HS7.out ?_)
                    intro v8 w8 ho8 hg8 hnn8 hn8;refine Classical.byContradiction fun hcontra=>?_)
       rw[show i+1+(k-i)=k+1 by omega,HLST.out] at ho8;obtain ⟨g8,c8,hv8,-⟩:=ho8.form (Nat.succ_pos k);subst hv8;have HB8:=gI (show Below w.heap.size w w8 from HBW7.out.grown hg8 (Nat.le_trans HBW7.out.size (Nat.le_refl _)) (fun j e=>by have:=(HO7.out.lt j e).1;omega));have HO8:=gI (zU ho8 (show w.heap.size<=w5.heap.size by omega));clear ho8 hg8 hnn8 hn8
       apply hcontra
       clear hcontra
       go_wp2
       go_roundw
       case rel=>exact ⟨k+1,⟨g8,0,none⟩,c8,rfl,by go_num,by omega,HO8,HB8⟩
       case measure=>simp[intOf];omega
      ·have HK7:=gI (show ∀j u,((S.drop i).map sv)[j]?=some u->w7.cell? ((a.add i).add j)=some u from fun j u hu=>by
        rw[add_add];exact (HSD.out j u hu).2)
       go_wp2_with (at_builtin
                    go_loud (refine wpList_append_own_at _ rfl (.tmp 42) (.tmp 45) 36 rfl w5.heap.size 9 i0 _ 1 16 Tryz.underlying36 hi0 hz0 hz1 hz2 rfl (by decide) (.slice A7 (i+1) c7) (i+1) _ rfl HO7.out (a.add i) (k-i) (c-i) ((S.drop i).map sv) rfl HN3.out HK7.out HSV3.out HMX8.out.1 HMX8.out.2 HS7.out ?_)
                    intro v8 w8 ho8 hg8 hnn8 hn8;refine Classical.byContradiction fun hcontra=>?_)
       rw[show i+1+(k-i)=k+1 by omega,HLST.out] at ho8;obtain ⟨g8,c8,hv8,-⟩:=ho8.form (Nat.succ_pos k);subst hv8;have HB8:=gI (show Below w.heap.size w w8 from HBW7.out.grown hg8 (Nat.le_trans HBW7.out.size (Nat.le_refl _)) (fun j e=>by have:=(HO7.out.lt j e).1;omega));have HO8:=gI (zU ho8 (show w.heap.size<=w5.heap.size by omega));clear ho8 hg8 hnn8 hn8
       apply hcontra
       clear hcontra
       go_wp2
       go_roundw
       case rel=>exact ⟨k+1,⟨g8,0,none⟩,c8,rfl,by go_num,by omega,HO8,HB8⟩
       case measure=>simp[intOf];omega
  ·have e:k=n:=by omega
   subst e;have HE:=gI (show zG (l.take k)=zG l by rw[List.take_of_length_le (by rw[HL.out];exact Nat.le_refl _)]);have HO9:=gI (show wo.ownsRow w.heap.size 9 1 (.slice (some a) k c) k ((zG l).map sv) by rw[<-HE.out];exact HO.out);clear HO HE
   go_wp2
   go_ret
   exact ⟨some a,c,rfl,HO9.out,HB.out⟩
end
section
open Go.RowKit Me Mf Rw Ds Rn Tx Fr Mw Hp
theorem zka (w:World) (b:UInt8):Rd (w.alloc (.cells #[.int .u8 (b.toNat:Int)] 5)) (w.heap.size+1) (some ⟨w.heap.size,0,none⟩) [b]:=by
 have:=Rd.of_block (l:=[b]) (heap_alloc_new w (.cells #[.int .u8 (b.toNat:Int)] 5)) (fun i u hu=>by
  have:=Y3 hu;rw[show (#[.int .u8 (b.toNat:Int)]:Array Value)=(cellsOf [b]).toArray from rfl]
  simpa using this)
 rw[World.size_alloc] at this;exact this
theorem zdY {w:World} {B K P D M N:Nat} {hb:Option Nat} {X:Sto} {R:SrD} {own ownD:Nat->Prop} (h:zI w B K P D M N hb X R own ownD) (hN:N<maxLen) (hnx:R.next<1000000) (b:UInt8) :
 Calls Tryz.prog 18 #[.pointer (some ⟨K,0,none⟩),.slice (some ⟨w.heap.size,0,none⟩) 1 1] (w.alloc (.cells #[.int .u8 (b.toNat:Int)] 5)) (YK (w.alloc (.cells #[.int .u8 (b.toNat:Int)] 5)) B K P D M N hb own ownD (putR X R [b])):=by
 have hb2:Below w.heap.size w (w.alloc (.cells #[.int .u8 (b.toNat:Int)] 5)):=(Below.refl _ _).alloc (Nat.le_refl _) _;refine zcf (h.past hb2) hN hnx (some ⟨w.heap.size,0,none⟩) 1 1 [b] rfl (by omega) (fun W hW=>?_);have h1:=zka w b;have h2:Rd W (w.heap.size+1) (some ⟨w.heap.size,0,none⟩) [b]:=fun hn=>by
  obtain ⟨a,e,hab,hc⟩:=h1 hn;injection e with e;subst e;refine ⟨_,rfl,hab,fun i u hu=>?_⟩;refine (hW.cell (by rw[World.size_alloc,block_add];exact hab) (fun hf=>?_)).trans (hc i u hu);have h3:=(h.st.lt (h.foot hf)).2;rw[block_add] at h3;exact Nat.lt_irrefl _ h3
 exact h2.more (by have:=hW.size;rw[World.size_alloc] at this;exact this)
theorem zI.below {w w':World} {B K P D M N:Nat} {hb:Option Nat} {X:Sto} {R:SrD} {own ownD:Nat->Prop} (h:zI w B K P D M N hb X R own ownD) (hB:B<=w.heap.size) (ho:Out (yg P M K hb ownD) w w'):Below B w w':=ho.below (fun k _ hf=>(h.st.lt (h.foot hf)).1) hB
theorem Yy (w:World) (hT:PTab w):Calls Tryz.prog 7 #[] w fun e w'=>e=.returned (.bool true)/\Below w.heap.size w w':=by
 have HT:=gI hT;have HTL:=gI hT.lt;clear hT;have HBG:=gI (zaE w)
 go_enter Tryz.func7,Tryz.ntmps7
 go_wp2_with (go_at_call 8;refine HBG.out.mono ?_)
 rintro e w1 ⟨P,D,M,own,ownD,rfl,hst,hb1⟩;have hT1:PTab w1:=HT.out.out (S:=fun _=>False) (.of_below hb1) id;have HN:=gI (Q8 hst (by omega) [114] 1 2 (by decide) hT1);have HS:=gI hst;have HB1:=gI hb1;clear hst hb1 hT1
 go_wp2_with fail
 refine HN.out.mono ?_;rintro e w2 ⟨K,n,rfl,hx,hnx,hb2⟩;have hn0:n=0:=hnx.one ⟨fun i hi=>by omega,zk4 _⟩;subst hn0;have HB2:=gI (HB1.out.trans (hb2.mono HB1.out.size));have HR2:=gI (zI.new HS.out HB1.out.size HTL.out hb2 hx);have HP1:=gI (zdY HR2.out (by decide) (by decide) 3);rw[zl3] at HP1;clear hx hnx hb2 HS HN
 go_wp2_with fail
 refine HP1.out.mono ?_;rintro e w3 ⟨rfl,ho3,N3,hb3,own3,hN3,h3,-,-,-⟩;have HB3:=gI (HB2.out.trans ((((Below.refl _ w2).alloc (Nat.le_refl _) _).mono HB2.out.size).trans ((HR2.out.past ((Below.refl _ w2).alloc (Nat.le_refl _) _)).below (by rw[World.size_alloc];have:=HB2.out.size;omega) ho3)));have HP2:=gI (zdY h3 (show N3<maxLen by unfold maxLen;omega) (by decide) 1);rw[zl2] at HP2;have HR3:=gI h3;clear ho3 h3 HP1 HR2 HB2
 go_wp2_with fail
 refine HP2.out.mono ?_;rintro e w4 ⟨rfl,ho4,N4,hb4,own4,hN4,h4,-,-,-⟩;have HB4:=gI (HB3.out.trans ((((Below.refl _ w3).alloc (Nat.le_refl _) _).mono HB3.out.size).trans ((HR3.out.past ((Below.refl _ w3).alloc (Nat.le_refl _) _)).below (by rw[World.size_alloc];have:=HB3.out.size;omega) ho4)));have HP3:=gI (zdY h4 (show N4<maxLen by unfold maxLen;omega) (by decide) 2);rw[zl1] at HP3;have HR4:=gI h4;clear ho4 h4 HP2 HR3 HB3
 go_wp2_with fail
 refine HP3.out.mono ?_;rintro e w5 ⟨rfl,ho5,N5,hb5,own5,hN5,h5,-,-,-⟩;have HB5:=gI (HB4.out.trans ((((Below.refl _ w4).alloc (Nat.le_refl _) _).mono HB4.out.size).trans ((HR4.out.past ((Below.refl _ w4).alloc (Nat.le_refl _) _)).below (by rw[World.size_alloc];have:=HB4.out.size;omega) ho5)));have HRW:=gI (Vt h5 (by decide) (by decide) (by rw[ziQ];decide));rw[ziQ] at HRW;have HR5:=gI h5;clear ho5 h5 HP3 HR4 HB4
 go_wp2_with fail
 refine HRW.out.mono ?_;rintro e w6 ⟨A6,n6,c6,rfl,ho6,hl6,hb6⟩;have hn6:n6=3:=hl6.symm;subst hn6;have HB6:=gI (HB5.out.trans (hb6.mono HB5.out.size));have HR6:=gI (HR5.out.past hb6);have HC6:=gI (Cs.of_own ho6);clear ho6 hl6 hb6 HRW HR5 HB5
 go_wp2_with fail
 have hb7:Below w6.heap.size w6 (w6.alloc (.cells #[sv [1],sv [2],sv [3]] 9)):=(Below.refl _ _).alloc (Nat.le_refl _) _;refine (Vs A6 (some ⟨w6.heap.size,0,none⟩) 3 c6 3 [[1],[2],[3]] rfl (by omega) (w6.alloc (.cells #[sv [1],sv [2],sv [3]] 9)) ((HC6.out.below hb7).more hb7.size) (fun _=>⟨_,rfl,by simp,fun i v hv=>?_⟩)).mono ?_
 ·have hbk:=Blk.new w6 [sv [1],sv [2],sv [3]] 9
  match i,hv with
  |0,hv=>injection hv with hv;subst hv;exact hbk.cell (i:=0) rfl
  |1,hv=>injection hv with hv;subst hv;exact hbk.cell (i:=1) rfl
  |2,hv=>injection hv with hv;subst hv;exact hbk.cell (i:=2) rfl
  |k+3,hv=>simp at hv
 rintro e w8 ⟨rfl,hb8⟩;have hb68:Below w6.heap.size w6 w8:=hb7.trans (hb8.mono hb7.size);have HB8:=gI (HB6.out.trans (hb68.mono HB6.out.size));have HR8:=gI (HR6.out.past hb68);clear hb7 hb8 hb68 HR6 HB6 HC6
 go_wp2_with fail
 refine (zcc HR8.out.bx).mono ?_;rintro e w9 ⟨rfl,hb9⟩;have HB9:=gI (HB8.out.trans (hb9.mono HB8.out.size));have HR9:=gI (HR8.out.past hb9);clear hb9 HR8 HB8
 go_wp2_with fail
 refine (Vb HR9.out.bx).mono ?_;rintro e w10 ⟨rfl,hb10⟩;have HB10:=gI (HB9.out.trans (hb10.mono HB9.out.size));clear hb10 HR9 HB9
 go_wp2
 go_ret
 exact ⟨rfl,HB10.out⟩
end
section
open Go.RowKit Me Mf Rw Ds Rn Tx Fr Mw Hp
variable {w w':World} {B K P D M N:Nat} {hb:Option Nat} {X:Sto} {R:SrD} {own ownD:Nat->Prop}
theorem yR.zero (h:yR w B K P hb R):yR ((w.setCell ⟨K,5,none⟩ (.int .i64 0)).setCell ⟨K,6,none⟩ (.int .i64 0)) B K P hb {R with first:=0,next:=0}:=by
 obtain ⟨A,n,c,h1,h2,h3,h4⟩:=h.box;have hT:=h.tlo;have hlo:=h.lo;have ho:Out (fun k=>k=K) w ((w.setCell ⟨K,5,none⟩ (.int .i64 0)).setCell ⟨K,6,none⟩ (.int .i64 0)):=((Out.refl (fun k=>k=K) w).setCell (p:=⟨K,5,none⟩) (.inl rfl) _).setCell (p:=⟨K,6,none⟩) (.inl rfl) _;exact ⟨⟨A,n,c,(h1.set 5 _).set 6 _,zn h2 ho (fun k hk e=>h.ne (by rw[<-h3,hk,e])),h3,h4⟩,h.lo,h.ne,⟨h.ok.pre,h.ok.wd,h.ok.rm,h.ok.wid,h.ok.few,⟨Nat.le_refl _,Nat.zero_le _⟩⟩,h.tab.out ho (fun e=>by have e:1=K:=e;omega),hT⟩
end
section
open Go.RowKit Me Mf Rw Ds Rn Tx Fr Mw Hp
end
section
open Go.RowKit Me Mf Rw Ds Rn Tx Fr Mw Hp
variable {w w':World} {B K P D M N:Nat} {hb:Option Nat} {X:Sto} {R:SrD} {own own' ownD T:Nat->Prop}
theorem zI.beside (h:zI w B K P D M N hb X R own ownD) (ho:Out T w w') (hT:∀k,k<w.heap.size->T k->own k/\¬yg P M K hb ownD k) (h1:∀k,own k->own' k) (h2:∀k,own' k->own k\/(w.heap.size<=k/\k<w'.heap.size)) (hB:B<=w.heap.size):zI w' B K P D M N hb X R own' ownD:=by
 refine ⟨h.st.wide (ho.more fun k hk q=>(hT k hk q).1) (ho.more fun k hk q=>⟨(hT k hk q).1,fun f=>(hT k hk q).2 (.inl f)⟩) h1 (fun k hk=>(h2 k hk).imp (fun q=>q) fun q=>q.1) (fun k hk=>?_),h.bx.out ho (fun q=>(hT K h.bx.lt q).2 (.inr (.inl rfl))) (fun k hk q=>(hT k (h.bx.row k hk).2 q).2 (.inr (.inr hk))) (fun k hk=>?_),⟨h1 K h.k.1,h.k.2⟩,fun k hk=>⟨h1 k (h.h k hk).1,(h.h k hk).2⟩⟩
 ·rcases h2 k hk with q|q
  ·have:=h.st.lt q;have:=ho.size;omega
  ·omega
 ·by_cases hlt:k<w.heap.size
  ·exact .inl (h.st.lt (hT k hlt hk).1).1
  ·exact .inr (by omega)
section
variable {wd rm t q:Nat} {L:List (List UInt8)} {Z:(Nat->Prop)->(Nat->Prop)->World->Prop}
end
end
end Go.Proofs.YtcdkopbjlakebaaGreatDoor
