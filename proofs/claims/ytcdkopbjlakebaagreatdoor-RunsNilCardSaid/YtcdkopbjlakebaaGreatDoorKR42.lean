/- Texts put together, for a law: Ro, Row, Lr, Ls, Lm, Awk13, Cl0, Rnl. -/
import Derived.Test.YtcdkopbjlakebaaGreatDoorKR41
import Derived.Test.YtcdkopbjlakebaaGreatDoorKR28
section
namespace Go.Proofs.YtcdkopbjlakebaaGreatDoor
open Go.RowKit Me Mf Rw Ds Rn Tx Fr Mw Hp
variable {w w':World} {B K P D M N:Nat} {hb:Option Nat} {X:Sto} {R:SrD} {own ownD:Nat→Prop}
def rowsE (X:Sto) (R:SrD):Nat→Nat→Int
 |_,0=>0
 |k,n+1=>if (rdD X R k).2≠0 then (rdD X R k).2 else rowsE X R (k+1) n
def rowsU (X:Sto) (R:SrD) (k:Nat):List (List (List UInt8)):=sortL R.held::(List.range' R.first (k-R.first)).map fun i=>pieces R.wd (rdD X R i).1
theorem rowsU_succ {k:Nat} (h:R.first≤k):rowsU X R (k+1)=rowsU X R k++[pieces R.wd (rdD X R k).1]:=by
 unfold rowsU
 rw[show k+1-R.first=(k-R.first)+1 by omega,List.range'_concat,List.map_append,Nat.one_mul,show R.first+(k-R.first)=k by omega]
 rfl
theorem rdD_good {i:Nat} (h:(rdD X R i).2=0):fitR R.wd (pieces R.wd (rdD X R i).1)=true:=by
 unfold rdD at h ⊢
 dsimp only at h ⊢
 split at h
 ·rename_i h1
  exact absurd h h1
 ·rename_i h1
  rw[if_neg h1]
  split at h
  ·cases h
  ·rename_i h2
   rw[if_neg h2]
   cases hf:fitR R.wd (pieces R.wd (getS (sreadD X (nameR R i)).1).1.body) with
   |true=>rfl
   |false=>exact absurd (.inr (.inr (.inr hf))) h2
theorem merged_any (A:Option Addr) (n c wd:Nat) (w:World) :
 Calls Tryz.prog 48 #[.slice A n c,.int .i64 (wd:Int)] w fun e w'=>e=.returned (.func (.func 75) #[] #[.pointer (some ⟨w.heap.size,0,none⟩),.pointer (some ⟨w.heap.size+1,0,none⟩)]) ∧
  w'=(w.alloc (.cells #[.slice A n c] 94)).alloc (.cells #[.int .i64 (wd:Int)] 3):=by
 go_enter Tryz.func48,Tryz.ntmps48
 go_wp2
 go_ret
 exact ⟨rfl,rfl⟩
def Away (rb:Option Nat) (p:Qe):Prop:=∀A n c a,p.1=.slice A n c→A=some a→0<n→rb≠some a.block
theorem Lv.keepR {lo hi hi' wd:Nat} {rb:Option Nat} {p:Qe} (h:Lv w lo hi wd p) (hw:Away rb p) (hh:hi≤hi') (hk:∀a:Addr,a.block<hi→rb≠some a.block→w'.cell? a=w.cell? a):Lv w' lo hi' wd p:=by
 obtain ⟨h1,h2,A,n,c,h3,h4,h5,h6,h7,h8⟩:=h
 refine ⟨h1,h2,A,n,c,h3,h4,h5,h6,fun hn=>?_,h8⟩
 obtain ⟨a,e,hb,hc⟩:=h7 hn
 exact ⟨a,e,by omega,fun i u hu=>(hk _ (by rw[block_add];exact hb) (by rw[block_add];exact hw A n c a h3 e (by omega))).trans (hc i u hu)⟩
structure RoI (w wr:World) (X:Sto) (R:SrD) (k n c:Nat) (A:Option Addr) (L:List Qe):Prop where
 own:wr.ownsRow w.heap.size 92 1 (.slice A n c) n (L.map Prod.fst)
 len:L.length=n
 few:n=k-R.first+1
 lv:∀p∈L,Lv wr w.heap.size wr.heap.size R.wd p∧Away (Value.slice A n c).ownBlock p
 snd:L.map Prod.snd=rowsU X R k
 err:rowsE X R R.first (R.next-R.first)=rowsE X R k (R.next-k)
 b:Below w.heap.size w wr
theorem Lv.past {lo hi wd:Nat} {p:Qe} (h:Lv w lo hi wd p) (hh:hi≤w.heap.size) (hb:Below w.heap.size w w'):Lv w' lo w'.heap.size wd p:=by
 have hs:=hb.size
 obtain ⟨h1,h2,A,n,c,h3,h4,h5,h6,h7,h8⟩:=h
 exact ⟨h1,h2,A,n,c,h3,h4,h5,h6,((h7.more hh).below hb).more hs,h8⟩
def RoPost (w:World) (X:Sto) (R:SrD) (e:Ending) (w':World):Prop:=
 Below w.heap.size w w'∧((rowsE X R R.first (R.next-R.first)≠0∧e=.returned (.tuple #[.nilFunc,.int .i64 (rowsE X R R.first (R.next-R.first))])) ∨
  (rowsE X R R.first (R.next-R.first)=0∧∃Bl Bw ln lc LA L,e=.returned (.tuple #[.func (.func 75) #[] #[.pointer (some ⟨Bl,0,none⟩),.pointer (some ⟨Bw,0,none⟩)],.int .i64 0]) ∧
    MgAt w' w.heap.size w'.heap.size Bl Bw ln lc R.wd LA L∧L.map Prod.snd=rowsU X R R.next))
theorem ro_start {w1:World} {A:Option Addr} {n c:Nat} (hok:OkR R) (hl:(sortL R.held).flatten.length=n) (hc:n≤c) (hc2:c≤9223372036854775807) (ho:w1.ownsRow w.heap.size 5 1 (.slice A n c) n (cellsOf (sortL R.held).flatten)) (hb:Below w.heap.size w w1) :
 RoI w (w1.alloc (.cells #[.slice A n c] 92)) X R R.first 1 1 (some ⟨w1.heap.size,0,none⟩) [(.slice A n c,sortL R.held)]:=by
 have hs:=hb.size
 have hb2:Below w1.heap.size w1 (w1.alloc (.cells #[.slice A n c] 92)):=(Below.refl _ _).alloc (Nat.le_refl _) _
 have hrd:Rd w1 w1.heap.size A (sortL R.held).flatten:=Rd.of_own ho
 refine ⟨⟨rfl,.inr ⟨w1.heap.size,1,#[.slice A n c],rfl,hs,heap_alloc_new w1 _,by omega,by decide,rfl,rfl⟩⟩,rfl,by omega,fun p hp=>?_,?_,rfl,hb.trans (hb2.mono hs)⟩
 ·rw[List.mem_singleton.1 hp]
  refine ⟨⟨?_,sortL_rises _,A,n,c,rfl,hl,hc,hc2,(hrd.below hb2).more hb2.size,fun a ha=>?_⟩,fun A' n' c' a e ha hn=>?_⟩
  ·exact fun r hr=>hok.wid r ((sortL_perm _).mem_iff.1 hr)
  ·subst ha;exact (World.ownsRow.lt ho a.block rfl).1
  ·injection e with e1 e2 e3
   subst e1 ha
   have h2:=(World.ownsRow.lt ho a.block rfl).2
   intro e
   injection e with e
   have e:w1.heap.size=a.block:=e
   omega
 ·unfold rowsU
  rw[Nat.sub_self]
  rfl
end Go.Proofs.YtcdkopbjlakebaaGreatDoor
end
section
namespace Go.Proofs.YtcdkopbjlakebaaGreatDoor
open Go.RowKit Me Mf Rw Ds Rn Tx Fr Mw Hp
variable {w w':World} {B K P D M N:Nat} {hb:Option Nat} {X:Sto} {R:SrD} {own ownD:Nat→Prop}
theorem RoI.more {wr w2:World} {k n c:Nat} {A:Option Addr} {L:List Qe} (h:RoI w wr X R k n c A L) (hb:Below wr.heap.size wr w2):(∀p∈L,Lv w2 w.heap.size w2.heap.size R.wd p)∧w2.ownsRow w.heap.size 92 1 (.slice A n c) n (L.map Prod.fst)∧Below w.heap.size w w2:=
 ⟨fun p hp=>(h.lv p hp).1.past (Nat.le_refl _) hb,own_out h.own (.of_below hb) (fun _ _=>id),h.b.trans (hb.mono h.b.size)⟩
theorem RoI.snoc {wr w2 w6:World} {k n c n1 c1 d7:Nat} {A A1 A7:Option Addr} {L:List Qe} (h:RoI w wr X R k n c A L) (hk:R.first≤k∧k<R.next) (hb:Below wr.heap.size wr w2) (he:(rdD X R k).2=0) (hl:(rdD X R k).1.length=n1) (hc:n1≤c1) (hc2:c1≤9223372036854775807) (hrd:Rd w2 w2.heap.size A1 (rdD X R k).1)
 (ha:∀a,A1=some a→wr.heap.size≤a.block) (hwd:0<R.wd) (T:TypeId)
 (ho6:w6.ownsRow w.heap.size 92 1 (.slice A7 (n+1) d7) (n+1) (L.map Prod.fst++[.slice A1 n1 c1])) (hg6:(w2.alloc (.cells #[.slice A1 n1 c1] T)).grownBy w6 (Value.slice A n c).ownBlock) (hn6:(Value.slice A7 (n+1) d7).ownBlock=(Value.slice A n c).ownBlock∨(Value.slice A7 (n+1) d7).ownBlock=some (w2.heap.size+1)) :
 RoI w w6 X R (k+1) (n+1) d7 A7 (L++[(.slice A1 n1 c1,pieces R.wd (rdD X R k).1)]):=by
 obtain ⟨m1,m2,m3⟩:=h.more hb
 have hs:=hb.size
 have hlo:=h.b.size
 have ho:Out (fun j=>(Value.slice A n c).ownBlock=some j) w2 w6:=((Out.refl (fun j=>(Value.slice A n c).ownBlock=some j) w2).alloc _).grown hg6 (fun j e=>.inl e)
 have hs6:=ho.size
 have hkp:∀a:Addr,a.block<w2.heap.size→(Value.slice A n c).ownBlock≠some a.block→w6.cell? a=w2.cell? a:=fun a h1 h2=>ho.cell h1 h2
 have hgood:=rdD_good he
 rw[fitR_true] at hgood
 have hfl:(pieces R.wd (rdD X R k).1).flatten=(rdD X R k).1:=pieces_join hwd _
 have haw:Away (Value.slice A n c).ownBlock (.slice A1 n1 c1,pieces R.wd (rdD X R k).1):=fun A' n' c' a e hA hn e2=>by
  injection e with e1 _ _
  subst e1
  have h1:=(World.ownsRow.lt h.own a.block e2).2
  have h2:=ha a hA
  omega
 have hnew:Lv w2 w.heap.size w2.heap.size R.wd (.slice A1 n1 c1,pieces R.wd (rdD X R k).1):=⟨hgood.1,hgood.2,A1,n1,c1,rfl,by rw[hfl];exact hl,hc,hc2,by rw[hfl];exact hrd,fun a e=>by have:=ha a e;omega⟩
 have hall:∀p∈L++[(.slice A1 n1 c1,pieces R.wd (rdD X R k).1)],Lv w2 w.heap.size w2.heap.size R.wd p∧Away (Value.slice A n c).ownBlock p:=fun p hp=>by
  rcases List.mem_append.1 hp with hp|hp
  ·exact ⟨m1 p hp,(h.lv p hp).2⟩
  ·rw[List.mem_singleton.1 hp];exact ⟨hnew,haw⟩
 refine ⟨by rw[List.map_append];exact ho6,by rw[List.length_append,h.len];rfl,by have:=h.few;omega,fun p hp=>?_,?_,?_,?_⟩
 ·obtain ⟨h1,h2⟩:=hall p hp
  refine ⟨h1.keepR h2 hs6 hkp,fun A' n' c' a e hA hn=>?_⟩
  rcases hn6 with e6|e6
  ·rw[e6];exact h2 A' n' c' a e hA hn
  ·rw[e6]
   intro e7
   injection e7 with e7
   obtain ⟨-,-,A9,n9,c9,e9,l9,-,-,r9,-⟩:=h1
   rw[e9] at e
   injection e with g1 g2 g3
   subst g1 g2 g3
   obtain ⟨a9,b9,b10,-⟩:=r9 (by omega)
   rw[hA] at b9
   injection b9 with b9
   subst b9
   omega
 ·rw[List.map_append,h.snd,rowsU_succ hk.1]
  rfl
 ·rw[h.err,show R.next-k=(R.next-(k+1))+1 by omega]
  show (if (rdD X R k).2≠0 then (rdD X R k).2 else rowsE X R (k+1) (R.next-(k+1)))=_
  rw[if_neg (fun h=>h he)]
 ·exact m3.trans (ho.below (fun j _ e=>(World.ownsRow.lt h.own j e).1) m3.size)
set_option maxRecDepth 100000 in
set_option maxHeartbeats 2000000 in
theorem rrows_any (h:SrtAt w B K P D M N hb X R own ownD) (hfew:R.next-R.first≤90000) (hp:X.S.pend.length<4611686018427387904) :
 Calls Tryz.prog 21 #[.pointer (some ⟨K,0,none⟩)] w (RoPost w X R):=by
 obtain ⟨A',n',c',h1,-⟩:=h.bx.box
 obtain ⟨c0,c1,c2,c3,c4,c5,c6⟩:=h1.seven
 have hk0:=World.block_lt_of_cell? _ _ c0
 have hok:=h.bx.ok
 obtain ⟨f,hf⟩:∃f,f=R.first:=⟨_,rfl⟩
 obtain ⟨nx,hnx⟩:∃nx,nx=R.next:=⟨_,rfl⟩
 obtain ⟨wd,hwd⟩:∃wd,wd=R.wd:=⟨_,rfl⟩
 have hrun:=hok.run
 rw[←hf,←hnx] at hrun
 rw[←hf] at c5
 rw[←hnx] at c6
 rw[←hwd] at c2
 rw[←hf,←hnx] at hfew
 have HSO:=Lib.hid (rsorted_any h.bx)
 have HRD:=Lib.hid (show ∀W,Below w.heap.size w W→∀k:Nat,k≤1000000→Calls Tryz.prog 47 #[.pointer (some ⟨K,0,none⟩),.int .i64 (k:Int)] W (RrPost W (rdD X R k)) from fun W hW k hk=>rread_any (h.past hW) k hk hp)
 have HC:=Lib.hid (And.intro c2 (And.intro c5 c6))
 have HK:=Lib.hid hk0
 have HOK:=Lib.hid hok
 have HF:=Lib.hid hf
 have HNX:=Lib.hid hnx
 have HWD:=Lib.hid hwd
 obtain ⟨i0,hi0,hz0,hz1,hz2⟩:=info_parts list_info
 clear h h1 c0 c1 c2 c3 c4 c5 c6 hok hf hnx hwd hp
 go_enter Tryz.func21,Tryz.ntmps21
 go_wp2_with fail
 refine HSO.out.mono ?_
 intro e w1 hn1
 have hn2:=hn1
 obtain ⟨A,n,c,rfl,hl,hc,ho,hrd,hb1⟩:=hn2.open
 have HI0:=Lib.hid (ro_start (X:=X) HOK.out hl hc (own_bounds ho).2 ho hb1)
 have q5:(w1.alloc (.cells #[.slice A n c] 92)).cell? ⟨K,5,none⟩=some (.int .i64 (f:Int)):=(((Below.refl _ w1).alloc (Nat.le_refl _) _).cell (by show K<_;have:=hb1.size;omega)).trans ((hb1.cell hk0).trans HC.out.2.1)
 have hs1:=hb1.size
 clear hn1 hn2 hl hc ho hrd hb1 HSO
 go_wp2
 go_loopw [4,5] (fun v kv wr=>∃(k n c:Nat) (A:Option Addr) (L:List Qe),v=.slice A n c∧kv=.int .i64 (k:Int)∧f≤k∧k≤nx∧Hid (RoI w wr X R k n c A L)) (fun _ kv _=>nx-(intOf kv).toNat)
 case atStart=>exact ⟨f,1,1,_,_,rfl,rfl,Nat.le_refl _,hrun.1,by rw[HF.out];exact Lib.hid HI0.out⟩
 case round=>
  clear HI0 q5
  obtain ⟨k,n,c,A,L,rfl,rfl,hfk,hkn,HI⟩:=hrel
  have HB:=Lib.hid HI.out.b
  have q6:=(HB.out.cell (p:=⟨K,6,none⟩) HK.out).trans HC.out.2.2
  have q2:=(HB.out.cell (p:=⟨K,2,none⟩) HK.out).trans HC.out.1
  have hn5:n+1≤100000:=by have:=HI.out.few;have:=HF.out;omega
  by_cases hlt:k<nx
  ·have hlt2:(k:Int)<(nx:Int):=by omega
   have HR:=Lib.hid (HRD.out wr HB.out k (by omega))
   obtain ⟨r,hr⟩:∃r,r=(rdD X R k).2:=⟨_,rfl⟩
   have HRR:=Lib.hid hr
   have hgo:Calls Tryz.prog 47 #[.pointer (some ⟨K,0,none⟩),.int .i64 (k:Int)] wr fun e w'=>∃A1 n1 c1,e=.returned (.tuple #[.slice A1 n1 c1,.int .i64 r])∧Below wr.heap.size wr w'∧Hid ((rdD X R k).1.length=n1∧n1≤c1∧c1≤9223372036854775807∧Rd w' w'.heap.size A1 (rdD X R k).1∧∀a,A1=some a→wr.heap.size≤a.block):=HR.out.mono fun e w' ⟨A1,n1,c1,h1,h2,h3,_,h5,h6,h7,h8⟩=>⟨A1,n1,c1,by rw[h1,hr],h2,Lib.hid ⟨h3,h5,h6,h7,h8⟩⟩
   have HGO:=Lib.hid hgo
   clear hr hgo HR
   go_wp2_with fail
   refine HGO.out.mono ?_
   rintro e w2 ⟨A1,n1,c1,rfl,hb2,HN⟩
   have HB2:=Lib.hid hb2
   have hs2:=hb2.size
   have hsr:=HB.out.size
   clear hb2 HGO
   by_cases hr0:r=0
   ·subst hr0
    have HOW:=Lib.hid (HI.out.more HB2.out).2.1
    have HMX:=Lib.hid (show n+1≤maxLen by unfold maxLen;omega)
    go_wp2_with (at_builtin
                 go_loud (refine wpList_append_both rfl (.tmp 34) (.tmp 36) 94 rfl w.heap.size 92 i0 _ 1 24 Tryz.underlying94 hi0 hz0 hz1 hz2 rfl (by decide) A n c _ rfl (HOW.out.alloc _) ⟨w2.heap.size,0,none⟩ 1 1 [.slice A1 n1 c1] rfl rfl (cell_one_new w2 _ _) (fun u hu=>by rw[List.mem_singleton.1 hu];rfl) (by decide) HMX.out (by omega) (by rw[World.size_alloc];omega) ?_)
                 intro v6 w6 ho6 hg6 hn6 hfit6
                 refine Classical.byContradiction fun hcontra=>?_)
    obtain ⟨A7,d7,hv7,hnd7⟩:=own_slice' ho6
    subst hv7
    rw[World.size_alloc] at hn6
    have FIN:=Lib.hid (HI.out.snoc (k:=k) ⟨by have:=HF.out;omega,by have:=HNX.out;omega⟩ HB2.out HRR.out.symm HN.out.1 HN.out.2.1 HN.out.2.2.1 HN.out.2.2.2.1 HN.out.2.2.2.2 (by have:=HOK.out.wd;omega) _ ho6 hg6 hn6)
    clear ho6 hg6 hn6 hfit6
    apply hcontra
    clear hcontra
    go_wp2
    go_roundw
    case rel=>exact ⟨k+1,n+1,d7,A7,_,rfl,by go_num,by omega,by omega,FIN⟩
    case measure=>simp[intOf];omega
   ·have d0:(r != 0)=true:=by simp[hr0]
    have FIN:=Lib.hid (show RoPost w X R (.returned (.tuple #[.nilFunc,.int .i64 r])) w2 from by
     have e1:rowsE X R R.first (R.next-R.first)=r:=by
      rw[HI.out.err,show R.next-k=(R.next-(k+1))+1 by have:=HNX.out;omega]
      show (if (rdD X R k).2≠0 then (rdD X R k).2 else rowsE X R (k+1) (R.next-(k+1)))=_
      rw[←HRR.out,if_pos hr0]
     refine ⟨HB.out.trans (HB2.out.mono HB.out.size),.inl ⟨by rw[e1];exact hr0,by rw[e1]⟩⟩)
    go_wp2
    go_ret2
    exact FIN.out
  ·have hkk:k=nx:=by omega
   have hnl:¬(k:Int)<(nx:Int):=by omega
   have HME:=Lib.hid (merged_any A n c wd wr)
   have HKK:=Lib.hid hkk
   clear hkk
   go_wp2_with fail
   refine HME.out.mono ?_
   rintro e w2 ⟨rfl,rfl⟩
   have FIN:=Lib.hid (show RoPost w X R (.returned (.tuple #[.func (.func 75) #[] #[.pointer (some ⟨wr.heap.size,0,none⟩),.pointer (some ⟨wr.heap.size+1,0,none⟩)],.int .i64 0])) ((wr.alloc (.cells #[.slice A n c] 94)).alloc (.cells #[.int .i64 (wd:Int)] 3)) from by
    have hb2:Below wr.heap.size wr ((wr.alloc (.cells #[.slice A n c] 94)).alloc (.cells #[.int .i64 (wd:Int)] 3)):=((Below.refl _ wr).alloc (Nat.le_refl _) _).alloc (by simp) _
    obtain ⟨m1,m2,m3⟩:=HI.out.more hb2
    have hkx:k=R.next:=HKK.out.trans HNX.out
    have e1:rowsE X R R.first (R.next-R.first)=0:=by
     rw[HI.out.err,hkx,Nat.sub_self];rfl
    have hsr:=HB.out.size
    refine ⟨m3,.inr ⟨e1,wr.heap.size,wr.heap.size+1,n,c,A,L,rfl,⟨?_,?_,⟨hsr,by simp;omega⟩,⟨by omega,by simp⟩,Cs.of_own m2,fun a ha=>?_,m1,HI.out.len,by omega,⟨by have:=HOK.out.wd;omega,by have:=HOK.out.wd;omega⟩,Nat.le_refl _⟩,?_⟩⟩
    ·exact (Blk.new wr [.slice A n c] _).alloc _
    ·rw[←HWD.out];exact Blk.new' (wr.alloc _) [.int .i64 (wd:Int)] _ (by simp)
    ·subst ha;exact (World.ownsRow.lt m2 a.block rfl).1
    ·rw[HI.out.snd,hkx])
   go_wp2
   go_ret2
   exact FIN.out
theorem rrows_nil (w:World):Calls Tryz.prog 21 #[.pointer none] w fun e w'=>e=.returned (.tuple #[.func (.func 46) #[] #[],.int .i64 1])∧w=w':=by
 go_enter Tryz.func21,Tryz.ntmps21
 go_wp2
 go_ret2
 exact ⟨rfl,rfl⟩
end Go.Proofs.YtcdkopbjlakebaaGreatDoor
end
section
namespace Go.Proofs.YtcdkopbjlakebaaGreatDoor
open Go.RowKit Me Mf Rw Ds Rn Tx Fr Mw Hp
variable {w w':World} {B K P D M N:Nat} {hb:Option Nat} {X:Sto} {R:SrD} {own ownD:Nat→Prop}
def rowsR (X:Sto) (R:SrD):List (List UInt8)×Int:=
 if rowsE X R R.first (R.next-R.first)≠0 then ([],rowsE X R R.first (R.next-R.first)) else (sortL (rowsU X R R.next).flatten,0)
def SsPost (w:World) (r:List (List UInt8)×Int) (e:Ending) (w':World):Prop:=
 ∃A n c,e=.returned (.tuple #[.slice A n c,.int .i64 r.2])∧w'.ownsRow w.heap.size 9 1 (.slice A n c) n (r.1.map sv)∧r.1.length=n∧Below w.heap.size w w'
def LrI (H0 T:Nat) (pre:List (List UInt8)) (W:World):Prop:=∃A n c,Blk W (H0+1) [.slice A n c]∧W.ownsRow H0 9 1 (.slice A n c) n (pre.map sv)∧pre.length=n∧∀k,(Value.slice A n c).ownBlock=some k→k=H0∨T≤k
theorem LrI.free {H0 T Bz:Nat} (h:H0+1<Bz):Rt.Free Bz T (LrI H0 T):=fun pre W W' ⟨A,n,c,h1,h2,h3,h4⟩ ho=>
 ⟨A,n,c,h1.out ho (by omega),own_out h2 ho (fun k hk e=>by have:=h4 k hk;omega),h3,h4⟩
theorem run_equalIn_func13 {P:Program} {w:World} (d:Nat) {t:TypeId} {ps rs:Array TypeId} {vd:Bool} (h:P.underlying t=some (.func ps rs vd)) (f:Fn) (x c:Array Value) :
 (Op.equalIn (d+1) t (.func f x c) .nilFunc).run P w=.ok false w:=by
 simp[Op.equalIn,run_underlying h]
theorem run_eql_func13 {P:Program} {w:World} {t:TypeId} {ps rs:Array TypeId} {vd:Bool} (h:P.underlying t=some (.func ps rs vd)) (f:Fn) (x c:Array Value) :
 (binOp .eql t (.func f x c) .nilFunc).run P w=.ok (.bool false) w:=by
 have e:(Op.equal t (.func f x c) .nilFunc).run P w=.ok false w:=run_equalIn_func13 9999 h f x c
 simp only[binOp]
 simp[e]
theorem seq_not_nil (w:World) (f:Fn) (x c:Array Value):(binOp .eql 61 (.func f x c) .nilFunc).run Tryz.prog w=.ok (.bool false) w:=run_eql_func13 Tryz.underlying61 f x c
theorem lri_stays {H0 T:Nat} {pre:List (List UInt8)} {W W':World} (hlt:H0+1<W.heap.size) (h:LrI H0 T pre W) (ho:Out (fun _=>False) W W'):LrI H0 T pre W':=by
 obtain ⟨A,n,c,h1,h2,h3,h4⟩:=h
 exact ⟨A,n,c,h1.out ho id,own_out h2 ho (fun _ _=>id),h3,h4⟩
theorem wpListIn_convert_run {F:Fence} {r:Nat} {P:Program} {ops:Array Oper} {rest:List Oper} {op:Oper} {a:Act} {w w':World} {Q:Exit→Act→World→Prop} (hgd:op.guard=none) (src dst:TypeId) (x:Operand)
 (ho:op.op=.convert src dst x) (v u:Value) (hx:a.eval x=v)
 (hr:(convert src dst v).run P w=.ok u w') (h:wpListIn F r P ops Q rest (a.put op.dst u) w'):wpListIn F r P ops Q (op::rest) a w:=by
 refine wpListIn_plain hgd fun K hK=>?_
 unfold Oper.wpIn
 refine ⟨by simp[Oper.about,ho],?_⟩
 rw[Oper.semAt_plain F _ _ (by rw[ho];intro c hc';cases hc')]
 unfold execOp
 simp only[ho,hx,hr,Sem.run_bind,Sem.run_pure,Result.andThen_ok]
 exact hK _ _ h
theorem own_apart {b1 b2 s1 s2 n1 n2:Nat} {e1 e2:TypeId} {v1 v2:Value} {xs1 xs2:List Value} (h1:w.ownsRow b1 e1 s1 v1 n1 xs1) (h2:w.ownsRow b2 e2 s2 v2 n2 xs2) (he:e1≠e2) {k:Nat} (k1:v1.ownBlock=some k) (k2:v2.ownBlock=some k):False:=by
 rcases h1.2 with ⟨rfl,-⟩|⟨g,cap,cur,rfl,-,hh,-⟩
 ·cases k1
 ·rcases h2.2 with ⟨rfl,-⟩|⟨g2,cap2,cur2,rfl,-,hh2,-⟩
  ·cases k2
  ·have e3:g=k:=by injection k1
   have e4:g2=k:=by injection k2
   rw[e3] at hh
   rw[e4,hh] at hh2
   injection hh2 with hh2
   injection hh2 with _ hh2
   exact he hh2
theorem str_info:(Tryz.prog.info? 9).map (fun i=>(i.zero,i.size,i.bytes))=some (some (.string ⟨#[]⟩),1,16):=by kernel_rfl
attribute [local go_sem] Oper.semAt_some
set_option maxRecDepth 100000 in
set_option maxHeartbeats 2000000 in
theorem lrows_any (h:SrtAt w B K P D M N hb X R own ownD) (hfew:R.next-R.first≤90000) (hp:X.S.pend.length<4611686018427387904) (hmany:(rowsR X R).1.length≤1000000) :
 Calls Tryz.prog 14 #[.pointer (some ⟨K,0,none⟩)] w (SsPost w (rowsR X R)):=by
 refine (callsIn_wide (n:=4)).1 ?_
 obtain ⟨H,hH⟩:∃H,H=w.heap.size:=⟨_,rfl⟩
 have HH:=Lib.hid hH
 have HRO:=Lib.hid (show ∀W,Below w.heap.size w W→Calls Tryz.prog 21 #[.pointer (some ⟨K,0,none⟩)] W (RoPost W X R) from fun W hW=>rrows_any (h.past hW) hfew hp)
 have HMA:=Lib.hid hmany
 clear h hfew hp hmany hH
 refine callsIn_of_wp_marks Tryz.func14 rfl trivial ?_ rfl
 simp only[Tryz.ntmps14,List.size_toArray,List.length_cons,List.length_nil,Nat.reduceAdd,Nat.reduceSub,Array.replicate_succ,Array.replicate_zero,List.push_toArray,List.append_toArray,List.nil_append,List.cons_append]
 gi_wp2_with fail
 rw[←HH.out]
 obtain ⟨W1,hW1⟩:∃W1,(w.alloc (.cells #[] 9)).alloc (.cells #[.slice (some ⟨H,0,none⟩) 0 0] 36)=W1:=⟨_,rfl⟩
 have hb1:Below w.heap.size w W1:=by rw[←hW1];exact ((Below.refl _ _).alloc (Nat.le_refl _) _).alloc (by simp) _
 have hs1:W1.heap.size=H+2:=by rw[←hW1,HH.out];simp
 have hI1:∀T,LrI H T [] W1:=fun T=>by
  refine ⟨some ⟨H,0,none⟩,0,0,?_,?_,rfl,fun k hk=>.inl ?_⟩
  ·rw[←hW1,HH.out];exact Blk.new' (w.alloc _) [.slice (some ⟨w.heap.size,0,none⟩) 0 0] _ (by simp)
  ·refine ⟨rfl,.inr ⟨H,0,#[],rfl,Nat.le_refl _,?_,Nat.le_refl _,by decide,rfl,rfl⟩⟩
   rw[←hW1,HH.out]
   exact (Below.heap_alloc _ _ _ (by simp)).trans (World.alloc_heap_new w _)
  ·injection hk with hk;exact hk.symm
 rw[hW1]
 have HB1:=Lib.hid hb1
 have HI1:=Lib.hid hI1
 have HS1:=Lib.hid hs1
 clear hW1 hb1 hs1 hI1
 refine ⟨trivial,(callsIn_wide.2 (HRO.out W1 HB1.out)).mono ?_⟩
 rintro e w2 ⟨hb2,hcase⟩
 have HB2:=Lib.hid (HB1.out.trans (hb2.mono HB1.out.size))
 have HI2:=Lib.hid (fun T=>lri_stays (by have:=HS1.out;omega) (HI1.out T) (.of_below hb2))
 have hs2:H+2≤w2.heap.size:=by have:=HS1.out;have:=hb2.size;omega
 rcases hcase with ⟨h0,rfl⟩|⟨h0,Bl,Bw,ln,lc,LA,L,rfl,hMg,hLs⟩
 ·obtain ⟨r,hr⟩:∃r,r=rowsE X R R.first (R.next-R.first):=⟨_,rfl⟩
  have HE:=Lib.hid (show rowsR X R=([],r) by unfold rowsR;rw[if_pos h0,hr])
  rw[←hr] at h0
  rw[←hr]
  have d0:(r != 0)=true:=by simp[h0]
  obtain ⟨A,n,c,i1,i2,i3,-⟩:=HI2.out 0
  have q0:=i1.cell (i:=0) rfl
  have FIN:=Lib.hid (show SsPost w (rowsR X R) (.returned (.tuple #[.slice A n c,.int .i64 r])) w2 from by
   rw[HE.out]
   exact ⟨A,n,c,rfl,by rw[←HH.out];exact i2,i3,HB2.out⟩)
  clear hr hb2 HE HI2 i1 i2 i3
  gi_wp2
  refine ⟨.tuple #[.slice A n c,.int .i64 r],?_,FIN.out⟩
  simp[results,Tryz.results14,go_sem]
 ·have HE:=Lib.hid (show rowsR X R=(sortL (rowsU X R R.next).flatten,0) by unfold rowsR;rw[if_neg (fun h=>h h0)])
  have HMG:=Lib.hid hMg
  have HLS:=Lib.hid hLs
  have HMA2:=Lib.hid (show (sortL (rowsU X R R.next).flatten).length≤1000000 by have:=HMA.out;rw[HE.out] at this;exact this)
  clear h0 hMg hLs hb2
  have hnn:=seq_not_nil w2 (.func 75) #[] #[.pointer (some ⟨Bl,0,none⟩),.pointer (some ⟨Bw,0,none⟩)]
  gi_wp2_with fail
  refine Rt.range_gives (gf:=75) (lb:=#[.pointer (some ⟨Bl,0,none⟩),.pointer (some ⟨Bw,0,none⟩)]) rfl (enters_of Tryz.func75 (by kernel_rfl) rfl) (merged_gives HMG.out) (Below.refl _ _) (fun T x av W h=>by obtain ⟨A,n,c,h,-⟩:=h;rw[h];rfl)
   (fun T k=>k=H∨k=H+1∨T≤k) ?hS ?hM
   (fun T pre W'=>LrI H T pre W') (fun _ _ _ _=>False)
   (fun T hT=>LrI.free (by omega)) (fun _ _ _ _ _ _ h _=>h.elim) (fun T hT=>?hI)
   (fun T x a' W=>∃A n c,a'={tmps:=#[.pointer (some ⟨K,0,none⟩),undef,.slice none 0 0,.int .i64 0,.pointer (some ⟨H+1,0,none⟩),.func (.func 75) #[] #[.pointer (some ⟨Bl,0,none⟩),.pointer (some ⟨Bw,0,none⟩)],.int .i64 0,.slice A n c,undef,.slice (some ⟨H,0,none⟩) 0 0,.tuple #[.func (.func 75) #[] #[.pointer (some ⟨Bl,0,none⟩),.pointer (some ⟨Bw,0,none⟩)],.int .i64 0],.pointer (some ⟨K,0,none⟩),.tuple #[.func (.func 75) #[] #[.pointer (some ⟨Bl,0,none⟩),.pointer (some ⟨Bw,0,none⟩)],.int .i64 0],.func (.func 75) #[] #[.pointer (some ⟨Bl,0,none⟩),.pointer (some ⟨Bw,0,none⟩)],.int .i64 0,.int .i64 0,.bool false,undef,undef,.func (.func 75) #[] #[.pointer (some ⟨Bl,0,none⟩),.pointer (some ⟨Bw,0,none⟩)],.bool false,undef,.func (.func 75) #[] #[.pointer (some ⟨Bl,0,none⟩),.pointer (some ⟨Bw,0,none⟩)],.slice A n c,undef,undef,undef,undef,undef,undef,undef,undef,undef,undef,undef,undef,undef,undef,undef,undef],defers:=[]}∧x.length=n∧W.ownsRow T 5 1 (.slice A n c) n (cellsOf x))
   (fun T x a' hT _ W W' ⟨A,n,c,h1,h2,h3⟩ ho=>⟨A,n,c,h1,h2,own_out h3 ho (fun k hk e=>by have:=(World.ownsRow.lt h3 k hk).1;omega)⟩)
   ?assign ?body ?done (fun _ _ _ _ _ _ _ _ _ _ h _=>h.elim)
  case assign=>
   rintro T l' m pre x av W' K2 hT hTW ⟨A,n,c,rfl,hn,hx⟩ hI ho hK2
   gi_wp2
   exact hK2 _ _ (Out.refl _ _) hI ⟨A,n,c,rfl,hn,hx⟩
  case hS=>
   rintro T k hT (rfl|rfl|hk)
   ·exact ⟨.inl (by omega),fun h=>by have:=HS1.out;omega⟩
   ·exact ⟨.inl (by omega),fun h=>by have:=HS1.out;omega⟩
   ·exact ⟨.inr hk,fun h=>by omega⟩
  case hM=>
   intro k hk
   exact hk.2
  case hI=>
   exact HI2.out T
  case body=>
   rintro T l' m pre x post a' W2 hT hXs hsz ho ⟨A,n,c,h1,h2,h3,h4⟩ ⟨A1,n1,c1,rfl,hx1,hx2⟩
   have z0:=h1.cell (i:=0) rfl
   have z1:=h1.frozen 0
   have hln:pre.length+1≤1000000:=by
    have:=HMA2.out
    have e:(sortL (L.map Prod.snd).flatten).length=pre.length+(post.length+1):=by rw[hXs,List.length_append,List.length_cons]
    rw[HLS.out] at e
    omega
   obtain ⟨i0,hi0,hz0,hz1,hz2⟩:=info_parts str_info
   have hrd:=Rd.of_own hx2
   have hn63:n1≤9223372036854775807:=by have:=own_bounds hx2;omega
   have HCV:=Lib.hid (str_any A1 n1 c1 x W2 W2.heap.size hx1 hrd)
   have HA:=Lib.hid h1
   have HB:=Lib.hid h2
   have HN:=Lib.hid h3
   have H4:=Lib.hid h4
   have HX2:=Lib.hid hx2
   have HMX:=Lib.hid (show n+1≤maxLen by unfold maxLen;omega)
   have hn6:n≤1000000:=by omega
   have HSZ:=Lib.hid (show T≤W2.heap.size from hsz)
   have hHT:H+1<T:=by omega
   clear h1 h2 hXs ho hrd
   gi_wp2_with (first
    |(refine wpListIn_convert_run rfl 24 9 _ rfl _ _ rfl HCV.out ?_)
    |(gi_at_builtin
      go_loud (refine wpListIn_append_both rfl (.tmp 24) (.tmp 27) 36 rfl H 9 i0 _ 1 16 Tryz.underlying36 hi0 hz0 hz1 hz2 rfl (by decide) A n c _ rfl (HB.out.alloc _) ⟨W2.heap.size,0,none⟩ 1 1 [.string ⟨x.toArray⟩] rfl rfl (cell_one_new W2 _ _) (fun u hu=>by rw[List.mem_singleton.1 hu];rfl) (by decide) HMX.out (by omega) (by rw[World.size_alloc];have:=HSZ.out;omega) ?_)
      intro v6 w6 ho6 hg6 hn6 hfit6
      refine Classical.byContradiction fun hcontra=>?_))
   obtain ⟨A7,d7,hv7,-⟩:=own_slice' ho6
   subst hv7
   have hne6:(Value.slice A n c).ownBlock≠some (H+1):=fun e=>by have:=H4.out _ e;omega
   have hb6:=(HA.out.alloc (.cells #[.string ⟨x.toArray⟩] 9)).grown hg6 hne6
   have e7:=hb6.cell (i:=0) rfl
   have y7:=hb6.frozen 0
   rw[World.size_alloc] at hn6
   have hsz2:=HSZ.out
   obtain ⟨w7,hw7⟩:∃w7,w7=w6.setCell ⟨H+1,0,none⟩ (.slice A7 (n+1) d7):=⟨_,rfl⟩
   have ho26:Out (fun k=>k=H∨k=H+1∨T≤k) W2 w6:=((Out.refl (fun k=>k=H∨k=H+1∨T≤k) W2).alloc _).grown hg6 (fun k e=>.inl (by have:=H4.out k e;omega))
   have ho67:Out (fun k=>k=H+1) w6 w7:=by rw[hw7];exact (Out.refl (fun k=>k=H+1) w6).setCell (p:=⟨H+1,0,none⟩) (.inl rfl) _
   have ho27:Out (fun k=>k=H∨k=H+1∨T≤k) W2 w7:=by rw[hw7];exact ho26.setCell (p:=⟨H+1,0,none⟩) (.inl (.inr (.inl rfl))) _
   have h47:∀k,(Value.slice A7 (n+1) d7).ownBlock=some k→k=H∨T≤k:=fun k hk=>by
    rcases hn6 with e|e
    ·exact H4.out k (e.symm.trans hk)
    ·rw[e] at hk;injection hk with hk;omega
   have hrow7:w7.ownsRow H 9 1 (.slice A7 (n+1) d7) (n+1) ((pre++[x]).map sv):=by
    have:=own_out ho6 ho67 (fun k hk e=>by have:=h47 k hk;omega)
    rw[List.map_append]
    exact this
   have hbrow:w7.ownsRow T 5 1 (.slice A1 n1 c1) n1 (cellsOf x):=by
    refine own_out HX2.out (((Out.refl (fun k=>k=H+1∨(Value.slice A n c).ownBlock=some k) W2).alloc _).grown hg6 (fun k e=>.inl (.inr e)) |>.trans (ho67.more fun k _ e=>.inl e)) (fun k hk e=>?_)
    rcases e with e|e
    ·have:=(World.ownsRow.lt HX2.out k hk).1;omega
    ·exact own_apart HB.out HX2.out (by decide) e hk
   have HBW:=Lib.hid hbrow
   have HRW:=Lib.hid hrow7
   have HBX:=Lib.hid (show Blk w7 (H+1) [.slice A7 (n+1) d7] by rw[hw7];exact hb6.set 0 _)
   have H27:=Lib.hid ho27
   have H47:=Lib.hid h47
   have HW7:=Lib.hid hw7
   clear ho6 hg6 hn6 hfit6 hb6 hne6 z0 z1 ho26 ho67 ho27 h47 hrow7 hbrow hw7
   apply hcontra
   clear hcontra
   gi_wp2
   rw[←HW7.out]
   gi_loopw [8] (fun iv wr=>∃k:Nat,k≤n1∧iv=.int .i64 (k:Int)∧Hid (Out (fun j=>(Value.slice A1 n1 c1).ownBlock=some j) w7 wr)∧Hid (∃xs,wr.ownsRow T 5 1 (.slice A1 n1 c1) n1 xs)) (fun iv _=>n1-(intOf iv).toNat)
   case atStart=>exact ⟨0,Nat.zero_le _,rfl,Lib.hid (Out.refl _ _),Lib.hid ⟨_,HBW.out⟩⟩
   case round=>
    obtain ⟨k,hk,rfl,HOW,HWK⟩:=hrel
    by_cases hlt:k<n1
    ·obtain ⟨xs,hxs⟩:=HWK.out
     obtain ⟨g,hA1,hg1,hg2,hg3,hg4⟩:=own_put (v:=.int .u8 99) hxs hlt
     subst hA1
     obtain ⟨u,hu⟩:∃u,xs[k]?=some u:=⟨_,List.getElem?_eq_getElem (by have:=hxs.1;omega)⟩
     rw[hu] at hg2
     have HN:=Lib.hid (show Out (fun j=>(Value.slice (some ⟨g,0,none⟩) n1 c1).ownBlock=some j) w7 (wr.setCell ⟨g,k,none⟩ (.int .u8 99)) from HOW.out.setCell (p:=⟨g,k,none⟩) (.inl rfl) _)
     have HN2:=Lib.hid (show ∃xs,(wr.setCell ⟨g,k,none⟩ (.int .u8 99)).ownsRow T 5 1 (.slice (some ⟨g,0,none⟩) n1 c1) n1 xs from ⟨_,hg4⟩)
     have hlt2:(k:Int)<(n1:Int):=by omega
     clear hxs hg4 hu
     gi_wp2
     go_roundw
     case rel=>exact ⟨k+1,by omega,by go_num,HN,HN2⟩
     case measure=>simp[intOf];omega
    ·have hnl:¬(k:Int)<(n1:Int):=by omega
     have hbl:∀j,(Value.slice A1 n1 c1).ownBlock=some j→T≤j:=fun j hj=>(World.ownsRow.lt HBW.out j hj).1
     have FIN:=Lib.hid (show Out (fun k=>k=H∨k=H+1∨T≤k) W2 wr∧LrI H T (pre++[x]) wr from by
      refine ⟨H27.out.trans (HOW.out.more fun j _ e=>.inr (.inr (hbl j e))),A7,n+1,d7,HBX.out.out HOW.out (fun e=>by have:=hbl _ e;omega),own_out HRW.out HOW.out (fun j hj e=>own_apart HRW.out HBW.out (by decide) hj e),by rw[List.length_append,HN.out];rfl,H47.out⟩)
     gi_wp2
     exact FIN.out
  case done=>
   rintro T D W2 hT hD ho ⟨A,n,c,h1,h2,h3,h4⟩ hK
   have z0:=h1.cell (i:=0) rfl
   have hlt:=(Array.getElem?_eq_some_iff.1 hK).1
   have hbw:Below w.heap.size w W2:=HB2.out.trans (ho.below (fun k _ hk=>by
    have hk:k=H∨k=H+1∨T≤k:=hk
    have:=HH.out
    omega) HB2.out.size)
   have HK:=Lib.hid hK
   have hD2:H+2≤D:=by omega
   have FIN:=Lib.hid (show SsPost w (rowsR X R) (.returned (.tuple #[.slice A n c,.int .i64 0])) (W2.putObj D (.deferred none)) from by
    rw[HE.out,←HLS.out]
    refine ⟨A,n,c,rfl,?_,h3,hbw.grown (grownBy_putObj' _ D _) (by have:=hbw.size;omega) (fun k e=>by cases e;have:=HH.out;omega)⟩
    rw[←HH.out]
    exact own_out h2 (Out.of_grown (S:=fun k=>k=D) (grownBy_putObj' W2 D (.deferred none)) (fun k e _=>by injection e with e;exact e.symm)) (fun k hk e=>by have:=h4 k hk;omega))
   clear h1 h2 h3 h4 ho hbw hK
   gi_wp2
   refine ⟨by simp,.inl ⟨_,_,rfl,run_takeDeferred HK.out,?_⟩⟩
   refine ⟨.tuple #[.slice A n c,.int .i64 0],?_,FIN.out⟩
   simp[results,Tryz.results14,go_sem]
end Go.Proofs.YtcdkopbjlakebaaGreatDoor
end
section
namespace Go.Proofs.YtcdkopbjlakebaaGreatDoor
open Go.RowKit Me Mf Rw Ds Rn Tx Fr Mw Hp
def lsG (a1 a2:Addr) (n c1 c2 k:Nat) (x:List UInt8):Gw.Fact:=fun s v _=>
 match s with
 |0|17=>v=.slice (some a1) n c1
 |1|21=>v=.slice (some a2) n c2
 |5|18|22=>v=.int .i64 (k:Int)
 |19=>v=.pointer (some (a1.add k))
 |23=>v=.pointer (some (a2.add k))
 |20|24=>v=sv x
 |25=>v=.bool false
 |_=>True
set_option maxRecDepth 100000 in
set_option maxHeartbeats 1000000 in
theorem lsame_any (A1 A2:Option Addr) (n c1 c2:Nat) (ls:List (List UInt8)) (hn:ls.length=n) (hn30:n≤1073741824) (w:World) (h1:Cs w w.heap.size A1 (ls.map sv)) (h2:Cs w w.heap.size A2 (ls.map sv)) :
 Calls Tryz.prog 16 #[.slice A1 n c1,.slice A2 n c2] w fun e w'=>e=.returned (.bool true)∧Below w.heap.size w w':=by
 have H1:=Lib.hid h1
 have H2:=Lib.hid h2
 have HN:=Lib.hid hn
 have HB:=Lib.hid (Below.refl w.heap.size w)
 clear h1 h2 hn
 go_enter Tryz.func16,Tryz.ntmps16
 go_wp2
 go_loopw [5] (fun i wr=>∃k:Nat,i=.int .i64 (k:Int)∧k≤n∧Hid (Below w.heap.size w wr)) (fun i _=>(n-intOf i).toNat)
 case atStart=>exact ⟨0,rfl,Nat.zero_le _,HB⟩
 case round=>
  clear HB
  obtain ⟨k,rfl,hk,HB⟩:=hrel
  by_cases hkn:k<n
  ·obtain ⟨x,hx⟩:∃x,ls[k]?=some x:=⟨_,List.getElem?_eq_getElem (by rw[HN.out];exact hkn)⟩
   have hx2:(ls.map sv)[k]?=some (sv x):=by rw[List.getElem?_map,hx];rfl
   have hlen:0<(ls.map sv).length:=by rw[List.length_map,HN.out];omega
   obtain ⟨a1,rfl,b1,q1⟩:=(H1.out.below HB.out) hlen
   obtain ⟨a2,rfl,b2,q2⟩:=(H2.out.below HB.out) hlen
   have y1:=q1 k _ hx2
   have y2:=q2 k _ hx2
   have hlt2:(k:Int)<(n:Int):=by omega
   clear q1 q2 hx hx2 hlen b1 b2
   go_wp2_with fail
   refine Gw.wp_region_grow (lsG a1 a2 n c1 c2 k x) [17,18,19,20,21,22,23,24,25] [([0],none),([5],none),([17,18],none),([19],none),([1],none),([5],none),([21,22],none),([23],none),([20,24],none)] 26 (by kernel_rfl) (by kernel_rfl) rfl ?h0 ?hreq ?hend
   case h0=>
    intro t W hnd _
    unfold lsG
    split<;>first|rfl|trivial|exact absurd (by simp) hnd
   case hreq=>
    refine ⟨?_,?_,?_,?_,?_,?_,?_,?_,?_,trivial⟩
    all_goals
     intro ac W hg hk
     have z1:=(Below.cell (show Below wr.heap.size wr W from hg) (World.block_lt_of_cell? _ _ y1)).trans y1
     have z2:=(Below.cell (show Below wr.heap.size wr W from hg) (World.block_lt_of_cell? _ _ y2)).trans y2
     simp only[Gw.Knows,lsG] at hk
     try (simp[go_sem,Gw.OpReq,Gw.Ok,Gw.Post,Gw.Holds,lsG,Gw.Grows.refl,hk,z1,z2,hkn];done)
   case hend=>
    intro x' w' hg hx
    have h25:=(hx 25 (by simp)).now
    simp only[lsG] at h25
    have HB2:=Lib.hid (HB.out.trans (Below.mono (show Below wr.heap.size wr w' from hg) HB.out.size))
    clear hx hg y1 y2
    simp only[Gw.putAll,Act.put,List.setIfInBounds_toArray,List.set_cons_zero,List.set_cons_succ]
    rw[h25]
    go_wp2
    go_roundw
    case rel=>exact ⟨k+1,by go_num,by omega,HB2⟩
    case measure=>simp[intOf];omega
  ·have hnl:¬(k:Int)<(n:Int):=by omega
   go_wp2
   go_ret
   exact ⟨rfl,HB.out⟩
def LbPost (w:World) (e:Ending) (w':World):Prop:=
 ∃P D M own ownD,e=.returned (.tuple #[.pointer (some ⟨D,0,none⟩),.pointer (some ⟨P,0,none⟩),.bool true])∧StoreAt w' w.heap.size P D M 0 ⟨newD 400,noMan,noC,false⟩ own ownD∧Below w.heap.size w w'
set_option maxRecDepth 100000 in
set_option maxHeartbeats 1000000 in
theorem lbegin_any (w:World):Calls Tryz.prog 8 #[] w (LbPost w):=by
 have HN:=Lib.hid (dnew_any 400 (by omega) (by omega) w)
 go_enter Tryz.func8,Tryz.ntmps8
 go_wp2_with (go_at_call 26;refine HN.out.mono ?_)
 rintro e w1 ⟨D,ownD,rfl,hd,hb1⟩
 have hrest:=Rest.new (F:=fun _=>[]) (n:=400) (by omega)
 obtain ⟨T,Z,hT,hZ,hans⟩:=hrest.read
 have hmr:=mread_any hd (show (newD 400).pend.length<_ by show 0<_;omega) hT hZ
 rw[hans] at hmr
 have HO:=Lib.hid (open_good (own:=ownD) hd (fun k hk=>hk) (fun k hk=>hd.lt hk) hmr fit_none wf_none (fun z hz=>by cases hz) hrest.ok.big (show 0+64≤_ by omega))
 have HD:=Lib.hid hd
 have HB1:=Lib.hid hb1
 clear hd hb1 hmr hans hT hZ hrest
 go_wp2_with fail
 refine HO.out.mono ?_
 intro e w2 hop
 simp only[OpPost,show noMan.version=0 from rfl,↓reduceIte] at hop
 rcases hop with ⟨q,-⟩|⟨-,P,M,own,ownD2,rfl,hst,ho2,hn2,-⟩
 ·exact absurd rfl q
 ·have hb2:Below w.heap.size w w2:=HB1.out.trans (ho2.below (fun k hk hs=>(HD.out.lt hs).1) HB1.out.size)
  have HS:=Lib.hid hst
  have HB2:=Lib.hid hb2
  clear hst ho2 hn2 hb2
  go_wp2_with fail
  exact bodyPost_ret (v:=.tuple #[.pointer (some ⟨D,0,none⟩),.pointer (some ⟨P,0,none⟩),.bool true]) (by simp[results,Tryz.results8,go_sem]) rfl ⟨P,D,M,own,ownD2,rfl,HS.out,HB2.out⟩
end Go.Proofs.YtcdkopbjlakebaaGreatDoor
end
section
namespace Go.Proofs.YtcdkopbjlakebaaGreatDoor
open Go.RowKit Me Mf Rw Ds Rn Tx Fr Mw Hp
variable {w w':World} {B K P D M N:Nat} {hb:Option Nat} {X:Sto} {R:SrD} {own ownD:Nat→Prop}
theorem SrBox.lower {B':Nat} (h:SrBox w B K P hb R) (hB:B'≤B) (hT:1<B'):SrBox w B' K P hb R:=by
 obtain ⟨A,n,c,h1,h2,h3,h4⟩:=h.box
 exact ⟨⟨A,n,c,h1,own_more h2 hB,h3,h4⟩,Nat.le_trans hB h.lo,h.ne,h.ok,h.tab,hT⟩
theorem PTab.lt (h:PTab w):(1:Nat)<w.heap.size:=World.block_lt_of_cell? _ _ (h.at 0 (by omega))
theorem SrtAt.new (h:StoreAt w B P D M N X own ownD) (hB:B≤w.heap.size) (hT:1<B) (hb2:Below w.heap.size w w') (hx:SrBox w' w.heap.size K P none R):SrtAt w' B K P D M N none X R (fun k=>own k∨k=K) ownD:=
 ⟨h.with hb2 (E:=fun k=>k=K) (fun k hk=>by rw[hk];exact ⟨hx.lo,hx.lt⟩) hB,hx.lower hB hT,⟨.inr rfl,fun hf=>by
   have h1:=(h.lt (h.own K hf)).2
   have h2:=hx.lo
   omega⟩,fun k e=>by cases e⟩
theorem rdD_run {i:Nat} {l:List (List UInt8)} (hs:sreadD X (nameR R i)=(runB l,0)) (hw:0<R.wd) (hl:Wid R.wd l) (hr:Rises l) (hb:l.flatten.length≤1048576):rdD X R i=(l.flatten,0):=by
 have hg:getS (runB l)=(⟨82,l.flatten⟩,(runB l).length,0):=by
  have:=getS_enc ⟨82,l.flatten⟩ [] hb
  rw[List.append_nil] at this
  rw[runB_length]
  exact this
 unfold rdD
 dsimp only
 rw[hs]
 dsimp only
 rw[if_neg (fun h=>h rfl),hg]
 dsimp only
 rw[if_neg]
 rw[pieces_flat hw hl,fitR_false]
 rintro (h|h|h|h)
 ·exact h rfl
 ·exact h rfl
 ·exact h rfl
 ·exact h ⟨hl,hr⟩
theorem sread_put {x b:List UInt8} (hu:upD X=true):sreadD {X with C:=setC X.C x (some b)} x=(b,0):=by
 unfold sreadD
 rw[show upD {X with C:=setC X.C x (some b)}=upD X from rfl,hu,if_pos rfl]
 simp[setC]
abbrev X400:Sto:=⟨newD 400,noMan,noC,false⟩
theorem up400:upD X400=true:=by decide
theorem has400 (x:List UInt8):¬hasN X400 x=true:=by
 unfold hasN
 simp[noC,noMan]
abbrev RAw (n:Nat) (l:List (List UInt8)):SrD:=⟨[114],1,2,l,0,n⟩
theorem aw_put1:putR X400 (RAw 0 []) [3]=(0,X400,RAw 0 [[3]]):=by simp[putR]
theorem aw_put2:putR X400 (RAw 0 [[3]]) [1]=(0,X400,RAw 0 [[3],[1]]):=by simp[putR]
theorem aw_sort:sortL [[3],[1]]=[[1],[3]]:=sortL_one (by unfold Rises;simp[leB];decide) (List.Perm.swap _ _ _)
abbrev XAw:Sto:={X400 with C:=setC noC (nameR (RAw 0 [[3],[1]]) 0) (some (runB [[1],[3]]))}
theorem aw_flush:flushD X400 (RAw 0 [[3],[1]])=(0,XAw,RAw 1 []):=by
 have ha:allowD (upD X400) (nameR (RAw 0 [[3],[1]]) 0) ((runB [[1],[3]]).length:Nat)=0:=by
  rw[runB_length]
  unfold allowD
  rw[up400]
  simp[nameR,putN_lt]
 unfold flushD
 rw[if_neg (by simp),aw_sort]
 rw[if_neg (fun h=>h ha)]
theorem aw_put3:putR X400 (RAw 0 [[3],[1]]) [2]=(0,XAw,RAw 1 [[2]]):=by
 have h:(if (RAw 0 [[3],[1]]).held.length=(RAw 0 [[3],[1]]).rm then flushD X400 (RAw 0 [[3],[1]]) else (0,X400,RAw 0 [[3],[1]]))=(0,XAw,RAw 1 []):=by
  rw[if_pos (show (RAw 0 [[3],[1]]).held.length=(RAw 0 [[3],[1]]).rm from rfl),aw_flush]
 unfold putR
 rw[if_neg (by simp)]
 dsimp only
 rw[h]
 simp
theorem aw_rows:rowsR XAw (RAw 1 [[2]])=([[1],[2],[3]],0):=by
 have h1:rdD XAw (RAw 1 [[2]]) 0=([[1],[3]].flatten,0):=rdD_run (sread_put (X:=X400) up400) (by decide) (by unfold Wid;simp) (by unfold Rises;simp[leB];decide) (by decide)
 have h2:rowsE XAw (RAw 1 [[2]]) 0 (1-0)=0:=by
  show (if (rdD XAw (RAw 1 [[2]]) 0).2≠0 then _ else _)=_
  rw[h1,if_neg (fun h=>h rfl)]
  rfl
 unfold rowsR
 rw[if_neg (fun h=>h h2)]
 have h3:rowsU XAw (RAw 1 [[2]]) 1=[[[2]],[[1],[3]]]:=by
  unfold rowsU
  show sortL [[2]]::[pieces 1 (rdD XAw (RAw 1 [[2]]) 0).1]=_
  rw[h1,pieces_flat (by decide) (by unfold Wid;simp),sortL_id (by unfold Rises;simp)]
 show (sortL (rowsU XAw (RAw 1 [[2]]) 1).flatten,(0:Int))=_
 rw[h3]
 have h4:sortL [[2],[1],[3]]=[[1],[2],[3]]:=sortL_one (by unfold Rises;simp[leB];decide) (List.Perm.swap _ _ _)
 exact congrArg (fun l=>(l,(0:Int))) h4
end Go.Proofs.YtcdkopbjlakebaaGreatDoor
end
section
namespace Go.Proofs.YtcdkopbjlakebaaGreatDoor
open Go.RowKit Me Mf Rw Ds Rn Tx Fr Mw Hp
theorem lit_rd13 (w:World) (b:UInt8):Rd (w.alloc (.cells #[.int .u8 (b.toNat:Int)] 5)) (w.heap.size+1) (some ⟨w.heap.size,0,none⟩) [b]:=by
 have:=Rd.of_block (l:=[b]) (heap_alloc_new w (.cells #[.int .u8 (b.toNat:Int)] 5)) (fun i u hu=>by
  have:=cellsOf_get hu
  rw[show (#[.int .u8 (b.toNat:Int)]:Array Value)=(cellsOf [b]).toArray from rfl]
  simpa using this)
 rw[World.size_alloc] at this
 exact this
theorem put_lit {w:World} {B K P D M N:Nat} {hb:Option Nat} {X:Sto} {R:SrD} {own ownD:Nat→Prop} (h:SrtAt w B K P D M N hb X R own ownD) (hN:N<maxLen) (hnx:R.next<1000000) (b:UInt8) :
 Calls Tryz.prog 18 #[.pointer (some ⟨K,0,none⟩),.slice (some ⟨w.heap.size,0,none⟩) 1 1] (w.alloc (.cells #[.int .u8 (b.toNat:Int)] 5)) (SrPost (w.alloc (.cells #[.int .u8 (b.toNat:Int)] 5)) B K P D M N hb own ownD (putR X R [b])):=by
 have hb2:Below w.heap.size w (w.alloc (.cells #[.int .u8 (b.toNat:Int)] 5)):=(Below.refl _ _).alloc (Nat.le_refl _) _
 refine rput3_any (h.past hb2) hN hnx (some ⟨w.heap.size,0,none⟩) 1 1 [b] rfl (by omega) (fun W hW=>?_)
 have h1:=lit_rd13 w b
 have h2:Rd W (w.heap.size+1) (some ⟨w.heap.size,0,none⟩) [b]:=fun hn=>by
  obtain ⟨a,e,hab,hc⟩:=h1 hn
  injection e with e
  subst e
  refine ⟨_,rfl,hab,fun i u hu=>?_⟩
  refine (hW.cell (by rw[World.size_alloc,block_add];exact hab) (fun hf=>?_)).trans (hc i u hu)
  have h3:=(h.st.lt (h.foot hf)).2
  rw[block_add] at h3
  exact Nat.lt_irrefl _ h3
 exact h2.more (by have:=hW.size;rw[World.size_alloc] at this;exact this)
theorem SrtAt.below {w w':World} {B K P D M N:Nat} {hb:Option Nat} {X:Sto} {R:SrD} {own ownD:Nat→Prop} (h:SrtAt w B K P D M N hb X R own ownD) (hB:B≤w.heap.size) (ho:Out (FootR P M K hb ownD) w w'):Below B w w':=ho.below (fun k _ hf=>(h.st.lt (h.foot hf)).1) hB
set_option maxRecDepth 100000 in
set_option maxHeartbeats 4000000 in
theorem lawake_any (w:World) (hT:PTab w):Calls Tryz.prog 7 #[] w fun e w'=>e=.returned (.bool true)∧Below w.heap.size w w':=by
 have HT:=Lib.hid hT
 have HTL:=Lib.hid hT.lt
 clear hT
 have HBG:=Lib.hid (lbegin_any w)
 go_enter Tryz.func7,Tryz.ntmps7
 go_wp2_with (go_at_call 8;refine HBG.out.mono ?_)
 rintro e w1 ⟨P,D,M,own,ownD,rfl,hst,hb1⟩
 have hT1:PTab w1:=HT.out.out (S:=fun _=>False) (.of_below hb1) id
 have HN:=Lib.hid (rnew_good hst (by omega) [114] 1 2 (by decide) hT1)
 have HS:=Lib.hid hst
 have HB1:=Lib.hid hb1
 clear hst hb1 hT1
 go_wp2_with fail
 refine HN.out.mono ?_
 rintro e w2 ⟨K,n,rfl,hx,hnx,hb2⟩
 have hn0:n=0:=hnx.one ⟨fun i hi=>by omega,has400 _⟩
 subst hn0
 have HB2:=Lib.hid (HB1.out.trans (hb2.mono HB1.out.size))
 have HR2:=Lib.hid (SrtAt.new HS.out HB1.out.size HTL.out hb2 hx)
 have HP1:=Lib.hid (put_lit HR2.out (by decide) (by decide) 3)
 rw[aw_put1] at HP1
 clear hx hnx hb2 HS HN
 go_wp2_with fail
 refine HP1.out.mono ?_
 rintro e w3 ⟨rfl,ho3,N3,hb3,own3,hN3,h3,-,-,-⟩
 have HB3:=Lib.hid (HB2.out.trans ((((Below.refl _ w2).alloc (Nat.le_refl _) _).mono HB2.out.size).trans ((HR2.out.past ((Below.refl _ w2).alloc (Nat.le_refl _) _)).below (by rw[World.size_alloc];have:=HB2.out.size;omega) ho3)))
 have HP2:=Lib.hid (put_lit h3 (show N3<maxLen by unfold maxLen;omega) (by decide) 1)
 rw[aw_put2] at HP2
 have HR3:=Lib.hid h3
 clear ho3 h3 HP1 HR2 HB2
 go_wp2_with fail
 refine HP2.out.mono ?_
 rintro e w4 ⟨rfl,ho4,N4,hb4,own4,hN4,h4,-,-,-⟩
 have HB4:=Lib.hid (HB3.out.trans ((((Below.refl _ w3).alloc (Nat.le_refl _) _).mono HB3.out.size).trans ((HR3.out.past ((Below.refl _ w3).alloc (Nat.le_refl _) _)).below (by rw[World.size_alloc];have:=HB3.out.size;omega) ho4)))
 have HP3:=Lib.hid (put_lit h4 (show N4<maxLen by unfold maxLen;omega) (by decide) 2)
 rw[aw_put3] at HP3
 have HR4:=Lib.hid h4
 clear ho4 h4 HP2 HR3 HB3
 go_wp2_with fail
 refine HP3.out.mono ?_
 rintro e w5 ⟨rfl,ho5,N5,hb5,own5,hN5,h5,-,-,-⟩
 have HB5:=Lib.hid (HB4.out.trans ((((Below.refl _ w4).alloc (Nat.le_refl _) _).mono HB4.out.size).trans ((HR4.out.past ((Below.refl _ w4).alloc (Nat.le_refl _) _)).below (by rw[World.size_alloc];have:=HB4.out.size;omega) ho5)))
 have HRW:=Lib.hid (lrows_any h5 (by decide) (by decide) (by rw[aw_rows];decide))
 rw[aw_rows] at HRW
 have HR5:=Lib.hid h5
 clear ho5 h5 HP3 HR4 HB4
 go_wp2_with fail
 refine HRW.out.mono ?_
 rintro e w6 ⟨A6,n6,c6,rfl,ho6,hl6,hb6⟩
 have hn6:n6=3:=hl6.symm
 subst hn6
 have HB6:=Lib.hid (HB5.out.trans (hb6.mono HB5.out.size))
 have HR6:=Lib.hid (HR5.out.past hb6)
 have HC6:=Lib.hid (Cs.of_own ho6)
 clear ho6 hl6 hb6 HRW HR5 HB5
 go_wp2_with fail
 have hb7:Below w6.heap.size w6 (w6.alloc (.cells #[sv [1],sv [2],sv [3]] 9)):=(Below.refl _ _).alloc (Nat.le_refl _) _
 refine (lsame_any A6 (some ⟨w6.heap.size,0,none⟩) 3 c6 3 [[1],[2],[3]] rfl (by omega) (w6.alloc (.cells #[sv [1],sv [2],sv [3]] 9)) ((HC6.out.below hb7).more hb7.size) (fun _=>⟨_,rfl,by simp,fun i v hv=>?_⟩)).mono ?_
 ·have hbk:=Blk.new w6 [sv [1],sv [2],sv [3]] 9
  match i,hv with
  |0,hv=>injection hv with hv;subst hv;exact hbk.cell (i:=0) rfl
  |1,hv=>injection hv with hv;subst hv;exact hbk.cell (i:=1) rfl
  |2,hv=>injection hv with hv;subst hv;exact hbk.cell (i:=2) rfl
  |k+3,hv=>simp at hv
 rintro e w8 ⟨rfl,hb8⟩
 have hb68:Below w6.heap.size w6 w8:=hb7.trans (hb8.mono hb7.size)
 have HB8:=Lib.hid (HB6.out.trans (hb68.mono HB6.out.size))
 have HR8:=Lib.hid (HR6.out.past hb68)
 clear hb7 hb8 hb68 HR6 HB6 HC6
 go_wp2_with fail
 refine (rruns_any HR8.out.bx).mono ?_
 rintro e w9 ⟨rfl,hb9⟩
 have HB9:=Lib.hid (HB8.out.trans (hb9.mono HB8.out.size))
 have HR9:=Lib.hid (HR8.out.past hb9)
 clear hb9 HR8 HB8
 go_wp2_with fail
 refine (rheld_any HR9.out.bx).mono ?_
 rintro e w10 ⟨rfl,hb10⟩
 have HB10:=Lib.hid (HB9.out.trans (hb10.mono HB9.out.size))
 clear hb10 HR9 HB9
 go_wp2
 go_ret
 exact ⟨rfl,HB10.out⟩
end Go.Proofs.YtcdkopbjlakebaaGreatDoor
end
section
namespace Go.Proofs.YtcdkopbjlakebaaGreatDoor
open Go.RowKit Me Mf Rw Ds Rn Tx Fr Mw Hp
variable {w w':World} {B K P D M N:Nat} {hb:Option Nat} {X:Sto} {R:SrD} {own ownD:Nat→Prop}
theorem rclear_nil (w:World):Calls Tryz.prog 23 #[.pointer none] w fun e w'=>e=.returned (.int .i64 1)∧w=w':=by
 go_enter Tryz.func23,Tryz.ntmps23
 go_wp2
 go_ret
 exact ⟨rfl,rfl⟩
theorem rrewrite_nil (v:Value) (w:World):Calls Tryz.prog 24 #[.pointer none,v] w fun e w'=>e=.returned (.int .i64 1)∧w=w':=by
 go_enter Tryz.func24,Tryz.ntmps24
 go_wp2
 go_ret
 exact ⟨rfl,rfl⟩
theorem SrBox.zero (h:SrBox w B K P hb R):SrBox ((w.setCell ⟨K,5,none⟩ (.int .i64 0)).setCell ⟨K,6,none⟩ (.int .i64 0)) B K P hb {R with first:=0,next:=0}:=by
 obtain ⟨A,n,c,h1,h2,h3,h4⟩:=h.box
 have hT:=h.tlo
 have hlo:=h.lo
 have ho:Out (fun k=>k=K) w ((w.setCell ⟨K,5,none⟩ (.int .i64 0)).setCell ⟨K,6,none⟩ (.int .i64 0)):=((Out.refl (fun k=>k=K) w).setCell (p:=⟨K,5,none⟩) (.inl rfl) _).setCell (p:=⟨K,6,none⟩) (.inl rfl) _
 exact ⟨⟨A,n,c,(h1.set 5 _).set 6 _,own_out h2 ho (fun k hk e=>h.ne (by rw[←h3,hk,e])),h3,h4⟩,h.lo,h.ne,⟨h.ok.pre,h.ok.wd,h.ok.rm,h.ok.wid,h.ok.few,⟨Nat.le_refl _,Nat.zero_le _⟩⟩,h.tab.out ho (fun e=>by have e:1=K:=e;omega),hT⟩
def clG (K nx:Nat):Gw.Fact:=fun t v _=>
 match t with
 |0|8|9|12|13=>v=.pointer (some ⟨K,0,none⟩)
 |10=>v=.pointer (some ⟨K,5,none⟩)
 |14=>v=.pointer (some ⟨K,6,none⟩)
 |11|15=>v=.int .i64 (nx:Int)
 |16=>v=.bool false
 |_=>True
set_option maxRecDepth 100000 in
set_option maxHeartbeats 1000000 in
theorem rclear_none (h:SrtAt w B K P D M N hb X R own ownD) (he:R.first=R.next) :
 Calls Tryz.prog 23 #[.pointer (some ⟨K,0,none⟩)] w fun e w'=>e=.returned (.int .i64 0)∧Out (FootR P M K hb ownD) w w'∧SrtAt w' B K P D M N none X {R with held:=[],first:=0,next:=0} own ownD:=by
 have HF:=Lib.hid (rforget_any h.bx)
 have HS:=Lib.hid h
 obtain ⟨nx,hnx⟩:∃nx,nx=R.next:=⟨_,rfl⟩
 have HE:=Lib.hid (And.intro he hnx)
 clear h he hnx
 go_enter Tryz.func23,Tryz.ntmps23
 go_wp2_with fail
 refine HF.out.mono ?_
 rintro e w1 ⟨rfl,hx,ho⟩
 obtain ⟨A',n',c',h1,-⟩:=hx.box
 obtain ⟨c0,c1,c2,c3,c4,c5,c6⟩:=h1.seven
 have c5':w1.cell? ⟨K,5,none⟩=some (.int .i64 (nx:Int)):=by rw[c5,HE.out.2];show some (Value.int .i64 (R.first:Int))=_;rw[HE.out.1]
 have c6':w1.cell? ⟨K,6,none⟩=some (.int .i64 (nx:Int)):=by rw[c6,HE.out.2]
 have f5:=h1.frozen 5
 have f6:=h1.frozen 6
 have HS1:=Lib.hid (HS.out.fewer (hb':=none) hx ho)
 have HO:=Lib.hid ho
 clear hx ho h1 c0 c1 c2 c3 c4 c5 c6 HF
 go_wp2
 go_loopw [3] (fun _ wr=>wr=w1) (fun _ _=>0)
 case atStart=>rfl
 case round=>
  subst hrel
  have hnl:¬(nx:Int)<(nx:Int):=by omega
  go_wp2_with fail
  refine Gw.wp_region_grow (clG K nx) [8,9,10,11,12,13,14,15,16] [([0],none),([8],none),([9],none),([10],none),([0],none),([12],none),([13],none),([14],none),([11,15],none)] 44 (by kernel_rfl) (by kernel_rfl) rfl ?h0 ?hreq ?hend
  case h0=>
   intro t W hnd _
   unfold clG
   split<;>first|rfl|trivial|exact absurd (by simp) hnd
  case hreq=>
   refine ⟨?_,?_,?_,?_,?_,?_,?_,?_,?_,trivial⟩
   all_goals
    intro ac W hg hk
    have z5:=(Below.cell (show Below wr.heap.size wr W from hg) (World.block_lt_of_cell? _ _ c5')).trans c5'
    have z6:=(Below.cell (show Below wr.heap.size wr W from hg) (World.block_lt_of_cell? _ _ c6')).trans c6'
    simp only[Gw.Knows,clG] at hk
    try (simp[go_sem,Gw.OpReq,Gw.Ok,Gw.Post,Gw.Holds,clG,Gw.Grows.refl,hk,z5,z6];done)
  case hend=>
   intro x' w2 hg hx
   have h16:=(hx 16 (by simp)).now
   simp only[clG] at h16
   have hb2:Below wr.heap.size wr w2:=hg
   have HS2:=Lib.hid (HS1.out.past hb2)
   have HO2:=Lib.hid (HO.out.trans (.of_below hb2))
   have y5:=(hb2.cell (World.block_lt_of_cell? _ _ c5')).trans c5'
   have y6:=(hb2.cell (World.block_lt_of_cell? _ _ c6')).trans c6'
   obtain ⟨A8,n8,c8,h8,-⟩:=HS2.out.bx.box
   have g5:=h8.frozen 5
   have g6:=h8.frozen 6
   clear hx hg hb2 c5' c6' f5 f6 h8
   simp only[Gw.putAll,Act.put,List.setIfInBounds_toArray,List.set_cons_zero,List.set_cons_succ]
   rw[h16]
   have FIN:=Lib.hid (show Out (FootR P M K hb ownD) w ((w2.setCell ⟨K,5,none⟩ (.int .i64 0)).setCell ⟨K,6,none⟩ (.int .i64 0))∧SrtAt ((w2.setCell ⟨K,5,none⟩ (.int .i64 0)).setCell ⟨K,6,none⟩ (.int .i64 0)) B K P D M N none X {R with held:=[],first:=0,next:=0} own ownD from by
    have ho:Out (fun k=>k=K) w2 ((w2.setCell ⟨K,5,none⟩ (.int .i64 0)).setCell ⟨K,6,none⟩ (.int .i64 0)):=((Out.refl (fun k=>k=K) w2).setCell (p:=⟨K,5,none⟩) (.inl rfl) _).setCell (p:=⟨K,6,none⟩) (.inl rfl) _
    exact ⟨(HO2.out.trans ho).more fun k _ e=>.inr (.inl e),HS2.out.turn (ho.more fun k _ e=>.inl e) HS2.out.bx.zero (fun k e=>by cases e)⟩)
   go_wp2
   go_ret
   exact ⟨rfl,FIN.out⟩
theorem SrtAt.offed {ownD' own':Nat→Prop} {S:Dsk} (h:SrtAt w B K P D M N hb X R own ownD) (hs:StoreAt w' B P D M N {X with S:=S} own' ownD') (hf:Fol w w' P M own ownD own' ownD'):SrtAt w' B K P D M N hb {X with S:=S} R own' ownD':=
 have up:∀k,own k→¬Foot P M ownD k→¬Foot P M ownD' k:=fun k hk hn hf2=>by
  rcases hf2 with e|e|e
  ·exact hn (.inl e)
  ·exact hn (.inr (.inl e))
  ·rcases hf.2.2.2 k e with q|q
   ·exact hn (.inr (.inr q))
   ·have:=(h.st.lt hk).2;omega
 ⟨hs,h.bx.out hf.1 h.k.2 (fun k hk=>(h.h k hk).2) (fun k hk=>.inl (h.st.lt (h.st.own k hk)).1),⟨hf.2.2.1 K h.k.1,up K h.k.1 h.k.2⟩,fun k e=>⟨hf.2.2.1 k (h.h k e).1,up k (h.h k e).1 (h.h k e).2⟩⟩
end Go.Proofs.YtcdkopbjlakebaaGreatDoor
end
section
namespace Go.Proofs.YtcdkopbjlakebaaGreatDoor
open Go.RowKit Me Mf Rw Ds Rn Tx Fr Mw Hp
abbrev XOff:Sto:=⟨{newD 400 with on:=false},noMan,noC,false⟩
abbrev RNl (n:Nat) (l:List (List UInt8)):SrD:=⟨[114],n,1,l,0,0⟩
theorem nl_put1 {l:List UInt8}:putR X400 (RNl l.length []) l=(0,X400,RNl l.length [l]):=by simp[putR]
theorem nl_flush {l:List UInt8}:flushD XOff (RNl l.length [l])=(6,XOff,RNl l.length [l]):=by
 have ha:∀x n,allowD (upD XOff) x n=6:=fun x n=>by
  unfold allowD
  rw[show upD XOff=false from rfl]
  rfl
 unfold flushD
 rw[if_neg (by simp),ha,if_pos (by decide)]
theorem nl_put2 {l:List UInt8}:putR XOff (RNl l.length [l]) l=(6,XOff,RNl l.length [l]):=by
 have h:(if (RNl l.length [l]).held.length=(RNl l.length [l]).rm then flushD XOff (RNl l.length [l]) else (0,XOff,RNl l.length [l]))=(6,XOff,RNl l.length [l]):=by
  rw[if_pos (show (RNl l.length [l]).held.length=(RNl l.length [l]).rm from rfl),nl_flush]
 unfold putR
 rw[if_neg (by simp)]
 dsimp only
 rw[h]
 simp
theorem nl_rows {l:List UInt8}:rowsR XOff (RNl l.length [l])=([l],0):=by
 unfold rowsR
 rw[if_neg (fun h=>h rfl)]
 show (sortL ([sortL [l]]:List (List (List UInt8))).flatten,(0:Int))=_
 have h1:sortL [l]=[l]:=sortL_id (by unfold Rises;simp)
 rw[h1]
 show (sortL [l],(0:Int))=_
 rw[h1]
theorem put_own {w w0:World} {B K P D M N:Nat} {hb:Option Nat} {X:Sto} {R:SrD} {own ownD:Nat→Prop} (h:SrtAt w B K P D M N hb X R own ownD) (hN:N<maxLen) (hnx:R.next<1000000) (hb0:Below B w0 w) (hB:B≤w.heap.size) (A:Option Addr) (n c:Nat) (l:List UInt8) (hl:l.length=n) (hn:n≤1000) (hr:Rd w0 B A l) :
 Calls Tryz.prog 18 #[.pointer (some ⟨K,0,none⟩),.slice A n c] w (SrPost w B K P D M N hb own ownD (putR X R l)):=
 rput3_any h hN hnx A n c l hl hn (fun W hW=>((hr.below hb0).keep fun p hp=>hW.cell (by omega) (fun hf=>by have:=(h.st.lt (h.foot hf)).1;omega)).more (Nat.le_trans hB hW.size))
set_option maxRecDepth 100000 in
set_option maxHeartbeats 4000000 in
theorem rnil_walk (A:Option Addr) (n c:Nat) (l:List UInt8) (hl:l.length=n) (hn63:n≤9223372036854775807) (w:World) (hr:Rd w w.heap.size A l) (hT:PTab w) :
 Calls Tryz.prog 6 #[.slice A n c] w fun e w'=>e=.returned (.bool true)∧Below w.heap.size w w':=by
 by_cases hg:n<1∨64<n
 ·have HAW:=Lib.hid (lawake_any w hT)
  by_cases h1:n<1
  ·have d1:decide ((n:Int)<1)=true:=by simp;omega
   clear hl hr hT
   go_enter Tryz.func6,Tryz.ntmps6
   go_wp2_with (go_at_call 7;refine HAW.out.mono ?_;rintro e w9 ⟨rfl,hb⟩;have HB9:=Lib.hid hb;clear hb)
   go_ret
   exact ⟨rfl,HB9.out⟩
  ·have d1:decide ((n:Int)<1)=false:=by simp;omega
   have d2:decide ((64:Int)<(n:Int))=true:=by simp;omega
   clear hl hr hT
   go_enter Tryz.func6,Tryz.ntmps6
   go_wp2_with (go_at_call 7;refine HAW.out.mono ?_;rintro e w9 ⟨rfl,hb⟩;have HB9:=Lib.hid hb;clear hb)
   go_ret
   exact ⟨rfl,HB9.out⟩
 ·have d1:decide ((n:Int)<1)=false:=by simp;omega
  have d2:decide ((64:Int)<(n:Int))=false:=by simp;omega
  have hn1:1≤n∧n≤64:=by omega
  have HL:=Lib.hid hl
  have HR:=Lib.hid hr
  have HT:=Lib.hid hT
  have HTL:=Lib.hid hT.lt
  have HBG:=Lib.hid (lbegin_any w)
  clear hl hr hT hg
  go_enter Tryz.func6,Tryz.ntmps6
  go_wp2_with (first
   |(go_at_call 22;refine (rforget_nil _).mono ?_;rintro e w' ⟨rfl,rfl⟩)
   |(go_at_call 21;refine (rrows_nil _).mono ?_;rintro e w' ⟨rfl,rfl⟩)
   |(go_at_call 18;refine (putput_nil _ _ _ _).mono ?_;rintro e w' ⟨rfl,rfl⟩)
   |(go_at_call 19;refine (rflush_nil _).mono ?_;rintro e w' ⟨rfl,rfl⟩)
   |(go_at_call 23;refine (rclear_nil _).mono ?_;rintro e w' ⟨rfl,rfl⟩)
   |(go_at_call 24;refine (rrewrite_nil _ _).mono ?_;rintro e w' ⟨rfl,rfl⟩)
   |(go_at_call 12;refine (rheld_nil _).mono ?_;rintro e w' ⟨rfl,rfl⟩)
   |(go_at_call 13;refine (rruns_nil _).mono ?_;rintro e w' ⟨rfl,rfl⟩)
   |(go_at_call 8;refine HBG.out.mono ?_))
  rintro e w1 ⟨P,D,M,own,ownD,rfl,hst,hb1⟩
  have hT1:PTab w1:=HT.out.out (S:=fun _=>False) (.of_below hb1) id
  have HN:=Lib.hid (rnew_good hst (by omega) [114] n 1 (by unfold newOk;simp;omega) hT1)
  have HS:=Lib.hid hst
  have HB1:=Lib.hid hb1
  clear hst hb1 hT1
  go_wp2_with fail
  refine HN.out.mono ?_
  rintro e w2 ⟨K,n2,rfl,hx,hnx,hb2⟩
  have hn0:n2=0:=hnx.one ⟨fun i hi=>by omega,has400 _⟩
  subst hn0
  have HB2:=Lib.hid (HB1.out.trans (hb2.mono HB1.out.size))
  have HR2:=Lib.hid (SrtAt.new HS.out HB1.out.size HTL.out hb2 hx)
  have HP1:=Lib.hid (put_own HR2.out (by decide) (by show 0<1000000;omega) HB2.out HB2.out.size A n c l HL.out (by omega) HR.out)
  have e1:putR X400 ⟨[114],n,1,[],0,0⟩ l=(0,X400,RNl n [l]):=by rw[←HL.out];exact nl_put1
  rw[e1] at HP1
  clear hx hnx hb2 HS HN e1
  go_wp2_with fail
  refine HP1.out.mono ?_
  rintro e w3 ⟨rfl,ho3,N3,hb3,own3,hN3,h3,-,-,-⟩
  have HB3:=Lib.hid (HB2.out.trans (HR2.out.below HB2.out.size ho3))
  have HOF:=Lib.hid (off_any h3.st.disk)
  have HR3:=Lib.hid h3
  clear ho3 h3 HP1 HR2 HB2
  go_wp2_with fail
  refine HOF.out.mono ?_
  rintro e w4 ⟨rfl,hdp⟩
  obtain ⟨own4,ownD4,hs4,hf4⟩:=HR3.out.st.disked hdp (show (newD 400).stored.length=_ from rfl)
  have h4:SrtAt w4 w.heap.size K P D M N3 hb3 XOff (RNl n [l]) own4 ownD4:=HR3.out.offed hs4 hf4
  have HB4:=Lib.hid (HB3.out.trans ((HR3.out.st.foot hf4.1).below (fun k hk hs=>(HR3.out.st.lt hs).1) HB3.out.size))
  have HR4:=Lib.hid h4
  have HP2:=Lib.hid (put_own h4 (show N3<maxLen by unfold maxLen;omega) (by show 0<1000000;omega) HB4.out HB4.out.size A n c l HL.out (by omega) HR.out)
  have e2:putR XOff (RNl n [l]) l=(6,XOff,RNl n [l]):=by rw[←HL.out];exact nl_put2
  rw[e2] at HP2
  clear hdp hs4 hf4 h4 HOF HR3 HB3 e2
  go_wp2_with fail
  refine HP2.out.mono ?_
  rintro e w5 ⟨rfl,ho5,N5,hb5,own5,hN5,h5,-,-,-⟩
  have HB5:=Lib.hid (HB4.out.trans (HR4.out.below HB4.out.size ho5))
  have HR5:=Lib.hid h5
  have HFL:=Lib.hid (rflush_any h5 (show N5<maxLen by unfold maxLen;omega) (by show 0<1000000;omega))
  have e3:flushD XOff (RNl n [l])=(6,XOff,RNl n [l]):=by rw[←HL.out];exact nl_flush
  rw[e3] at HFL
  clear ho5 h5 HP2 HR4 HB4 e3
  go_wp2_with fail
  refine HFL.out.mono ?_
  rintro e w6 ⟨rfl,ho6,N6,hb6,own6,hN6,h6,-,-,-⟩
  have HB6:=Lib.hid (HB5.out.trans (HR5.out.below HB5.out.size ho6))
  have HR6:=Lib.hid h6
  clear ho6 h6 HFL HR5 HB5
  go_wp2_with fail
  refine (rheld_any HR6.out.bx).mono ?_
  rintro e w7 ⟨rfl,hb7⟩
  have HB7:=Lib.hid (HB6.out.trans (hb7.mono HB6.out.size))
  have HR7:=Lib.hid (HR6.out.past hb7)
  clear hb7 HR6 HB6
  go_wp2_with fail
  refine (rruns_any HR7.out.bx).mono ?_
  rintro e w8 ⟨rfl,hb8⟩
  have HB8:=Lib.hid (HB7.out.trans (hb8.mono HB7.out.size))
  have HR8:=Lib.hid (HR7.out.past hb8)
  have e4:rowsR XOff (RNl n [l])=([l],0):=by rw[←HL.out];exact nl_rows
  have HRW:=Lib.hid (lrows_any HR8.out (by show 0-0≤90000;omega) (by decide) (by rw[e4];show 1≤1000000;omega))
  rw[e4] at HRW
  clear hb8 HR7 HB7 e4
  go_wp2_with fail
  refine HRW.out.mono ?_
  rintro e w9 ⟨A9,n9,c9,rfl,ho9,hl9,hb9⟩
  have hn9:n9=1:=hl9.symm
  subst hn9
  have HB9:=Lib.hid (HB8.out.trans (hb9.mono HB8.out.size))
  have HR9:=Lib.hid (HR8.out.past hb9)
  have HC9:=Lib.hid (Cs.of_own ho9)
  have hcv:(convert 24 9 (.slice A n c)).run Tryz.prog w9=.ok (.string ⟨l.toArray⟩) w9:=str_any A n c l w9 w.heap.size HL.out (HR.out.below HB9.out)
  clear ho9 hl9 hb9 HRW HR8 HB8
  go_wp2_with fail
  have hb10:Below w9.heap.size w9 (w9.alloc (.cells #[sv l] 9)):=(Below.refl _ _).alloc (Nat.le_refl _) _
  refine (lsame_any A9 (some ⟨w9.heap.size,0,none⟩) 1 c9 1 [l] rfl (by omega) (w9.alloc (.cells #[sv l] 9)) ((HC9.out.below hb10).more hb10.size) (fun _=>⟨_,rfl,by simp,fun i v hv=>?_⟩)).mono ?_
  ·have hbk:=Blk.new w9 [sv l] 9
   match i,hv with
   |0,hv=>injection hv with hv;subst hv;exact hbk.cell (i:=0) rfl
   |k+1,hv=>simp at hv
  rintro e w11 ⟨rfl,hb11⟩
  have hb911:Below w9.heap.size w9 w11:=hb10.trans (hb11.mono hb10.size)
  have HB11:=Lib.hid (HB9.out.trans (hb911.mono HB9.out.size))
  have HR11:=Lib.hid (HR9.out.past hb911)
  clear hb10 hb11 hb911 HR9 HB9 HC9 hcv
  go_wp2_with fail
  refine (rclear_none HR11.out rfl).mono ?_
  rintro e w12 ⟨rfl,ho12,h12⟩
  have HB12:=Lib.hid (HB11.out.trans (HR11.out.below HB11.out.size ho12))
  have HR12:=Lib.hid h12
  clear ho12 h12 HR11 HB11
  go_wp2_with fail
  refine (rheld_any HR12.out.bx).mono ?_
  rintro e w13 ⟨rfl,hb13⟩
  have HB13:=Lib.hid (HB12.out.trans (hb13.mono HB12.out.size))
  have HR13:=Lib.hid (HR12.out.past hb13)
  clear hb13 HR12 HB12
  have HAW:=Lib.hid (lawake_any w13 HR13.out.bx.tab)
  go_wp2_with fail
  refine HAW.out.mono ?_
  rintro e w14 ⟨rfl,hb14⟩
  have HB14:=Lib.hid (HB13.out.trans (hb14.mono HB13.out.size))
  clear hb14
  go_wp2
  go_ret
  exact ⟨rfl,HB14.out⟩
end Go.Proofs.YtcdkopbjlakebaaGreatDoor
end
