/- StoreAgain: opened anew behind a fall, where the power falls again, and opened once more, all files are as at the last commit that was answered, or as at the one under way; unless blocks of two writes together are a manifest's bytes; for every input. -/
import Derived.ProofKit
import Derived.Lib.SmallJoins
import Derived.Deep.DeepCutAuto
import Derived.Test.YtiocpefgccndbaaGreatKG32
import Derived.Test.YtiocpefgccndbaaGreatKG25
import Derived.Test.YtiocpefgccndbaaGreatKG31
import Derived.Test.YtiocpefgccndbaaGreatKG30
import Derived.Test.YtiocpefgccndbaaGreatKG2
namespace Go.Proofs.YtiocpefgccndbaaGreat
open Go.RowKit Me Mf Rw Ds Va Go.Maps
def mqA (G D H14 H15:Nat) (mv dv:Value) (q:Bool):Gw.Fact:=fun t v _=>
 match t with
 |15|60|61=>v=.pointer (some ⟨G,0,none⟩)
 |62=>v=.pointer (some ⟨G,1,none⟩)
 |63=>v=.pointer (some ⟨D,0,none⟩)
 |19=>v=.pointer (some ⟨H15,0,none⟩)
 |18=>v=.pointer (some ⟨H14,0,none⟩)
 |64=>v=dv
 |65=>v=mv
 |66=>v=.bool q
 |_=>True
def mqB (G D H21 H22:Nat) (mv dv:Value) (q:Bool):Gw.Fact:=fun t v _=>
 match t with
 |15|116|117=>v=.pointer (some ⟨G,0,none⟩)
 |118=>v=.pointer (some ⟨G,1,none⟩)
 |119=>v=.pointer (some ⟨D,0,none⟩)
 |21=>v=.pointer (some ⟨H21,0,none⟩)
 |22=>v=.pointer (some ⟨H22,0,none⟩)
 |120=>v=dv
 |121=>v=mv
 |122=>v=.bool q
 |_=>True
def agG (G P H14 H22:Nat) (A8:Option Addr) (n8 c8:Nat) (mv:Value) (vm:Nat):Gw.Fact:=fun t v _=>
 match t with
 |15|139=>v=.pointer (some ⟨G,0,none⟩)
 |24|132|140|146=>v=.pointer (some ⟨P,0,none⟩)
 |25|135=>v=.int .i64 0
 |17|141=>v=.slice A8 n8 c8
 |18=>v=.pointer (some ⟨H14,0,none⟩)
 |22|148=>v=.pointer (some ⟨H22,0,none⟩)
 |142=>v=mv
 |147|149=>v=.int .u64 (vm:Int)
 |133|134|136|137|138|143|144|145|150|151|152|153|154|14=>v=.bool true
 |_=>True
set_option maxRecDepth 100000 in
set_option maxHeartbeats 8000000 in
theorem sagain_walk (count:Int) (A:Option Addr) (n c:Nat) (acts:List AS) (fuse:Int) (hfu:fuse≤9223372036854775807) (K T:Nat) (hK:K<18446744073709551616) (hT:T<18446744073709551616) (ag:Int) (hag:ag≤9223372036854775807) (sy:Nat) (hsy:sy<18446744073709551616) (w:World) (hl:acts.length=n) (hn:n≤c∧c≤9223372036854775807) (ha:SActs w w.heap.size A acts) :
 Calls Tryz.prog 5 #[.int .i64 count,.slice A n c,.int .i64 fuse,.int .u64 (K:Int),.int .u64 (T:Int),.int .i64 ag,.int .u64 (sy:Int)] w fun e w'=>e=.returned (.bool true)∧Below w.heap.size w w':=by
 have HG:=Lib.hid (great_any count A n c acts w w.heap.size hl (by omega) ha)
 have HL:=Lib.hid hl
 have HA:=Lib.hid ha
 clear hl ha
 go_enter Tryz.func5,Tryz.ntmps5
 go_wp2_with fail
 refine HG.out.mono ?_
 rintro e w1 ⟨⟨g,rfl,hg⟩,rfl⟩
 have HFW:=Lib.hid hg
 clear hg HG
 cases g with
 |true=>
  have HAW:=Lib.hid (awake_any w)
  go_wp2_with (go_at_call 10;refine HAW.out.mono ?_;rintro e w9 ⟨rfl,hb⟩;have HB9:=Lib.hid hb;clear hb)
  go_ret
  exact ⟨rfl,HB9.out⟩
 |false=>
  obtain ⟨f1,f2,f3,f4⟩:=HFW.out rfl
  have HF4:=Lib.hid f4
  obtain ⟨cn,rfl⟩:∃cn:Nat,count=(cn:Int):=⟨count.toNat,by omega⟩
  have hcn:40≤cn∧cn≤200:=by omega
  have hn60:n≤60:=by have:=HL.out;omega
  have HBG:=Lib.hid (begin_play cn (by omega) (by omega) w)
  clear f1 f2 f3 f4 HFW
  go_upto_region 6 with (go_at_call 11;refine HBG.out.mono ?_;rintro e w1 ⟨G,D,rfl,hp,hb1⟩;have HP:=Lib.hid hp;have HB1:=Lib.hid hb1;clear hp hb1)
  clear HBG
  obtain ⟨P,M,N,own,ownD,hN,hBw,hp⟩:=HP.out
  obtain rfl:N=0:=by omega
  obtain ⟨A1,n1,c1,A2,n2,c2,A3,n3,c3,A4,n4,c4,hpb⟩:=hp.pbx
  have k1:=hpb.1.cell (i:=1) rfl
  have HPA:=Lib.hid hp
  have HFU:=Lib.hid (fuse_any hp.st.disk fuse hfu)
  clear hp hpb HP
  go_upto_region 7 with (go_at_call 21;refine HFU.out.mono ?_;rintro e w2 ⟨rfl,hdp⟩;have HDP:=Lib.hid hdp;clear hdp)
  obtain ⟨own2,ownD2,hs2,hf2⟩:=HPA.out.st.disked HDP.out rfl
  have hp2:=HPA.out.store hs2 hf2
  have hst:Still (⟨{newD cn with fuse:=max fuse (-1)},noMan,noC,false⟩:Sto) (fun _=>[]):=(Rest.new (F:=fun _=>[]) (n:=cn) (by omega)).still.fuse (max fuse (-1))
  have hO12:Out own w1 w2:=HPA.out.st.foot hf2.1
  have HB2:=Lib.hid (show Below w.heap.size w w2 from HB1.out.trans (hO12.below (fun k _ hk=>(HPA.out.st.lt hk).1) hBw))
  have hcl:({newD cn with fuse:=max fuse (-1)}:Dsk).stored.length=cn:=by show (List.replicate cn _).length=cn;exact List.length_replicate ..
  have HFL:=Lib.hid (falls_any (c:=c) hp2 rfl hst (ply_new _ _) few_new HL.out hn60 (show SActs w2 w.heap.size A acts from HA.out.below HB2.out) HF4.out)
  rw[show (⟨{newD cn with fuse:=max fuse (-1)},noMan,noC,false⟩:Sto).S.stored.length=cn from hcl] at HFL
  have HLT:=Lib.hid (show ∀k,own2 k→w.heap.size≤k from fun k hk=>(hp2.st.lt hk).1)
  clear k1 hs2 hf2 hp2 hst hO12 hcl HPA HDP HFU HB1 hBw
  go_upto_region 8 with (go_at_call 22;refine HFL.out.mono ?_;rintro e w3 ⟨P2,M2,N2,own3,ownD3,X,F,Y,mb,nx,R,A8,n8,c8,A9,n9,c9,Am,nm,cm,rfl,hk⟩;have HK:=Lib.hid hk;clear hk)
  obtain ⟨w4,hw4⟩:∃w4,w4=w3.alloc (.cells #[.int .u64 (nx.version:Int),.int .u32 (nx.next:Int),.slice A9 n9 c9] 38):=⟨_,rfl⟩
  obtain ⟨w5,hw5⟩:∃w5,w5=w4.alloc (.cells #[.int .i64 (cn:Int),.bool false,.int .i64 (-1),.slice Am nm cm,.slice none 0 0] 59):=⟨_,rfl⟩
  obtain ⟨H14,hH14⟩:∃H,H=w3.heap.size:=⟨_,rfl⟩
  have hs4:w4.heap.size=H14+1:=by rw[hw4,hH14];simp
  have hb4:Below w3.heap.size w3 w4:=by rw[hw4];exact (Below.refl _ _).alloc (Nat.le_refl _) _
  have hb5:Below w4.heap.size w4 w5:=by rw[hw5];exact (Below.refl _ _).alloc (Nat.le_refl _) _
  have X14:=Lib.hid (show Blk w5 H14 [.int .u64 (nx.version:Int),.int .u32 (nx.next:Int),.slice A9 n9 c9] by
   have:Blk w4 w3.heap.size [.int .u64 (nx.version:Int),.int .u32 (nx.next:Int),.slice A9 n9 c9]:=by rw[hw4];exact Blk.new w3 [.int .u64 (nx.version:Int),.int .u32 (nx.next:Int),.slice A9 n9 c9] _
   rw[hH14];exact this.past hb5)
  have X15:=Lib.hid (show Blk w5 (H14+1) [.int .i64 (cn:Int),.bool false,.int .i64 (-1),.slice Am nm cm,.slice none 0 0] by rw[hw5];exact Blk.new' w4 [.int .i64 (cn:Int),.bool false,.int .i64 (-1),.slice Am nm cm,.slice none 0 0] _ hs4)
  have hb35:=hb4.trans (hb5.mono hb4.size)
  obtain ⟨A1,n1,c1,A2,n2,c2,A3,n3,c3,A4,n4,c4,hbk⟩:=(HK.out.past hb35).bk
  have HBK:=Lib.hid hbk
  have HN14:=Lib.hid (show ¬own3 H14∧¬own3 (H14+1) from ⟨fun e=>by have:=(HK.out.at_.st.lt e).2;omega,fun e=>by have:=(HK.out.at_.st.lt e).2;omega⟩)
  have HB5:=Lib.hid (show Below w.heap.size w w5 from (HB2.out.trans (HK.out.out.below (fun k _ hk=>HLT.out k hk) HB2.out.size)).trans (hb35.mono (by have:=HB2.out.size;have:=HK.out.out.size;omega)))
  have HFE:=Lib.hid HK.out.few
  have HCN:=Lib.hid HK.out.hcn
  have HVL:=Lib.hid HK.out.val
  have HBA:=Lib.hid (back_any hbk.disk K T hK hT hbk.is.pend)
  have k1:=hbk.box.1.cell (i:=1) rfl
  rw[←hw4,←hw5,←hH14]
  clear hw4 hw5 hH14 hs4 hb4 hb5 hb35 hbk HK HFL
  go_upto_region 11 with (go_at_call 23;refine HBA.out.mono ?_;rintro e w6 ⟨rfl,hdp⟩;have HDP:=Lib.hid hdp;clear hdp)
  obtain ⟨ownD4,hd4,ho4,hn4⟩:=HDP.out
  have HB6:=Lib.hid (HBK.out.post hd4 ho4 hn4)
  have hO6:Out own3 w5 w6:=ho4.more fun k _ hk=>HBK.out.od k hk
  have HN14b:=Lib.hid (show ¬ownD4 H14 from fun e=>by
   rcases hn4 _ e with q|q
   ·exact HN14.out.1 (HBK.out.od _ q)
   ·have:=X14.out.lt;omega)
  have HB56:=Lib.hid (show Below w.heap.size w5 w6 from hO6.below (fun k _ hk=>(HBK.out.lo k hk).1) HB5.out.size)
  have X14b:=Lib.hid (X14.out.out hO6 HN14.out.1)
  have X15b:=Lib.hid (X15.out.out hO6 HN14.out.2)
  obtain ⟨S1,hS1⟩:∃S1,S1=backD K T X.S:=⟨_,rfl⟩
  obtain ⟨own4,hown4⟩:∃o,o=fun k=>own3 k∨ownD4 k:=⟨_,rfl⟩
  have HS1:=Lib.hid hS1
  have HOW:=Lib.hid hown4
  rw[←hS1,←hown4] at HB6
  have hon:S1.on=true:=by rw[hS1];rfl
  have hlen:S1.stored.length=cn:=by
   rw[hS1,←HCN.out]
   show (Ds.settle K T 0 X.S.pend X.S.stored).length=_
   exact settle_length K T X.S.pend 0 X.S.stored
  have hpe:S1.pend=[]:=by rw[hS1];rfl
  obtain ⟨Tl,Z,hTl,hZ⟩:=slots_say S1
  have HSY:=Lib.hid (And.intro hTl hZ)
  have HON:=Lib.hid (And.intro hon (And.intro hlen hpe))
  have HAL:=Lib.hid (show ∀b∈S1.stored,b.length=128 from HB6.out.disk.good.1)
  have HLE1:=Lib.hid (fun i=>readR_mdl_le (S:=S1) HB6.out.disk.good i)
  obtain ⟨q0,hq0⟩:∃q,q=mixB (slotD S1 0 16) (slotR R 0 16) (slotOf nx) (Tl 0):=⟨_,rfl⟩
  obtain ⟨q1,hq1⟩:∃q,q=mixB (slotD S1 1 16) (slotR R 1 16) (slotOf nx) (Tl 1):=⟨_,rfl⟩
  have HMX:=Lib.hid (fun (W:World) (hW:Below w6.heap.size w6 W)=>mixed_any (HB6.out.past hW).disk (by rw[hpe];show 0<_;omega) hon (by omega) (HB6.out.past hW).ref HB6.out.made HB6.out.wait (by have:=HB6.out.most;omega) (by omega) HB6.out.le (HB6.out.past hW).hnx.now HB6.out.fit (hTl 0 (by omega)) (hTl 1 (by omega)))
  rw[←hq0,←hq1] at HMX
  have HQ:=Lib.hid (And.intro hq0 hq1)
  obtain ⟨ver,hver⟩:∃v,v=nx.version:=⟨_,rfl⟩
  obtain ⟨nxt,hnxt⟩:∃v,v=nx.next:=⟨_,rfl⟩
  have HVN:=Lib.hid (And.intro hver hnxt)
  rw[←hver,←hnxt] at X14b HMX
  rw[show refV R Am nm cm none 0 0=.agg #[.int .i64 (cn:Int),.bool false,.int .i64 (-1),.slice Am nm cm,.slice none 0 0] by rw[refV_def,HVL.out.1,HVL.out.2.1,HVL.out.2.2]] at HMX
  clear hd4 ho4 hn4 hO6 hS1 hown4 hon hlen hpe hTl hZ hq0 hq1 hver hnxt k1 X14 X15 HBA HDP
  refine Gw.wp_region_grow (mqA G D H14 (H14+1) (mval ver nxt A9 n9 c9) (.agg #[.int .i64 (cn:Int),.bool false,.int .i64 (-1),.slice Am nm cm,.slice none 0 0]) (q0||q1)) [60,61,62,63,64,65,66] [([15],none),([60],none),([61],none),([62],none),([19],none),([18],none),([63,64,65],none)] 155 (by kernel_rfl) (by kernel_rfl) rfl ?h0 ?hreq ?hend
  case h0=>
   intro t W hnd _
   unfold mqA
   split<;>first|(exfalso;apply hnd;decide)|rfl|trivial
  case hreq=>
   refine ⟨?_,?_,?_,?_,?_,?_,?_,trivial⟩
   all_goals
    intro ac W hg hk
    have hg':Below w6.heap.size w6 W:=hg
    have k1:=(HB6.out.past hg').box.1.cell (i:=1) rfl
    have y0:=(X14b.out.past hg').cell (i:=0) rfl
    have y1:=(X14b.out.past hg').cell (i:=1) rfl
    have y2:=(X14b.out.past hg').cell (i:=2) rfl
    obtain ⟨z0,z1,z2,z3,z4⟩:=(X15b.out.past hg').five
    simp only[Gw.Knows,mqA] at hk
    try (simp[go_sem,Gw.OpReq,Gw.Ok,Gw.Post,Gw.Holds,mqA,Gw.Grows.refl,hk,k1,y0,y1,y2,z0,z1,z2,z3,z4,mval];done)
   simp[go_sem,Gw.OpReq,Gw.Ok,Gw.Post,Gw.Holds,mqA,Gw.Grows.refl,hk]
   refine (HMX.out W hg').mono ?_
   rintro e w7 ⟨hb7,rfl⟩
   exact ⟨_,rfl,hb7,fun _ _=>by simp⟩
  case hend=>
   intro y w7 hg hy
   have y66:y 66=.bool (q0||q1):=(hy 66 (by simp)).now
   have HB7:=Lib.hid (show Below w6.heap.size w6 w7 from hg)
   clear hg hy
   simp only[Gw.putAll,Act.put,List.setIfInBounds_toArray,List.set_cons_zero,List.set_cons_succ]
   rw[y66]
   obtain ⟨q,hq⟩:∃q,q=(q0||q1):=⟨_,rfl⟩
   rw[←hq]
   have HQ2:=Lib.hid hq
   clear hq y66
   cases q with
   |true=>
    have HAW:=Lib.hid (awake_any w7)
    go_wp2_with (go_at_call 10;refine HAW.out.mono ?_;rintro e w9 ⟨rfl,hb⟩;have HB9:=Lib.hid hb;clear hb)
    go_ret
    exact ⟨rfl,((HB5.out.trans HB56.out).trans (HB7.out.mono (by have:=HB5.out.size;have:=HB56.out.size;omega))).trans (HB9.out.mono (by have:=HB5.out.size;have:=HB56.out.size;have:=HB7.out.size;omega))⟩
   |false=>
    have hq:q0=false∧q1=false:=by
     have:=HQ2.out
     revert this
     cases q0<;>cases q1<;>simp
    have hmix:∀k,k<2→mixB (slotD S1 k 16) (slotR R k 16) (slotOf nx) (Tl k)=false:=fun k hk=>by
     rcases (show k=0∨k=1 by omega) with rfl|rfl
     ·rw[←HQ.out.1];exact hq.1
     ·rw[←HQ.out.2];exact hq.2
    have hbk:=HB6.out.is.back K T (Tl:=Tl) (Z:=Z)
    rw[←HS1.out] at hbk
    obtain ⟨m',F',hway,haft,hans,hfst⟩:=hbk HAL.out HSY.out.1 HSY.out.2 hmix
    have h7:=HB6.out.past HB7.out
    have hcn':S1.stored.length=cn:=HON.out.2.1
    have hon:S1.on=true:=HON.out.1
    have hbig:32<S1.stored.length:=haft.ok.big
    have HSL2:=Lib.hid (show Calls Tryz.prog 26 #[.pointer (some ⟨D,0,none⟩)] w7 fun e w8=>Below w7.heap.size w7 w8∧∃Ak nk ck,e=.returned (.agg #[.int .i64 (cn:Int),.bool false,.int .i64 (-1),.slice Ak nk ck,.slice none 0 0])∧(mdlR S1).made.length=nk∧nk≤32∧RefAt w8 own4 (mdlR S1) Ak ck none 0 by
     refine (slots_on (ownQ:=own4) h7.disk (fun k hk=>(h7.lo k hk).2) (by rw[HON.out.2.2];show 0<_;omega) hon (by omega)).mono ?_
     rintro e w8 ⟨hb8,Ak,nk,ck,rfl,q1,q2,q3⟩
     refine ⟨hb8,Ak,nk,ck,?_,q1,q2,q3⟩
     rw[←hcn']
     rfl)
    have k1:=h7.box.1.cell (i:=1) rfl
    have H7:=Lib.hid h7
    have HAF:=Lib.hid haft
    have HWY:=Lib.hid hway
    have HAN:=Lib.hid (And.intro hans hfst)
    clear hq hmix hbk hway haft hans hfst h7
    go_upto_region 14 with (go_at_call 26;refine HSL2.out.mono ?_;rintro e w8 ⟨hb8,Ak,nk,ck,rfl,q1,q2,q3⟩;have HB8:=Lib.hid hb8;have HKR:=Lib.hid (And.intro q1 (And.intro q2 q3));clear hb8 q1 q2 q3)
    obtain ⟨w9,hw9⟩:∃w9,w9=w8.alloc (.cells #[.int .i64 (cn:Int),.bool false,.int .i64 (-1),.slice Ak nk ck,.slice none 0 0] 59):=⟨_,rfl⟩
    obtain ⟨H21,hH21⟩:∃H,H=w8.heap.size:=⟨_,rfl⟩
    have hb9:Below w8.heap.size w8 w9:=by rw[hw9];exact (Below.refl _ _).alloc (Nat.le_refl _) _
    have X21:=Lib.hid (show Blk w9 H21 [.int .i64 (cn:Int),.bool false,.int .i64 (-1),.slice Ak nk ck,.slice none 0 0] by rw[hw9,hH21];exact Blk.new w8 [.int .i64 (cn:Int),.bool false,.int .i64 (-1),.slice Ak nk ck,.slice none 0 0] _)
    have HB79:=Lib.hid (show Below w7.heap.size w7 w9 from HB8.out.trans (hb9.mono HB8.out.size))
    have hk9:RefAt w9 own4 (mdlR S1) Ak ck none 0:=HKR.out.2.2.past hb9
    have h21:w7.heap.size≤H21:=by rw[hH21];exact HB8.out.size
    have hrd:=rread_bigk (T:=Tl) (Z:=Z) hk9 HKR.out.1 (show (mdlR S1).wait.length=0 from rfl) (by have:=HKR.out.2.1;omega) (by omega) (readR_mdl_le (H7.out.disk.good)) (show 32<S1.stored.length from hbig) rfl (fun k hk=>by rw[slotR_mdl hon (by omega) 16 (Nat.le_refl _)];exact HSY.out.1 k hk) (fun k hk=>by rw[slotR_mdl hon (by omega) 16 (Nat.le_refl _)];exact HSY.out.2 k hk)
    rw[←ansD_on hbig hon,HAN.out.1,show (mdlR S1).count=cn from hcn',show (mdlR S1).off=false from rfl,show (mdlR S1).fuse=-1 from rfl] at hrd
    have HRD:=Lib.hid hrd
    have HK9:=Lib.hid hk9
    obtain ⟨z0,z1,z2,z3,z4⟩:=X21.out.five
    rw[←hw9,←hH21]
    clear hw9 hH21 hb9 hk9 hrd k1 HSL2
    go_upto_region 15 with (go_at_call 27;refine HRD.out.mono ?_;rintro e w10 ⟨hb10,Aq,nq,cq,rfl,hmq⟩;have HB10:=Lib.hid hb10;have HMQ:=Lib.hid hmq;clear hb10 hmq)
    obtain ⟨w11,hw11⟩:∃w11,w11=w10.alloc (.cells #[.int .u64 (m'.version:Int),.int .u32 (m'.next:Int),.slice Aq nq cq] 38):=⟨_,rfl⟩
    obtain ⟨H22,hH22⟩:∃H,H=w10.heap.size:=⟨_,rfl⟩
    have hb11:Below w10.heap.size w10 w11:=by rw[hw11];exact (Below.refl _ _).alloc (Nat.le_refl _) _
    have hx22:Blk w11 H22 [.int .u64 (m'.version:Int),.int .u32 (m'.next:Int),.slice Aq nq cq]:=by rw[hw11,hH22];exact Blk.new w10 [.int .u64 (m'.version:Int),.int .u32 (m'.next:Int),.slice Aq nq cq] _
    have hb911:Below w9.heap.size w9 w11:=HB10.out.trans (hb11.mono HB10.out.size)
    have hb711:Below w7.heap.size w7 w11:=HB79.out.trans (hb911.mono HB79.out.size)
    have hl7:∀k,own4 k→k<w7.heap.size:=fun k hk=>(H7.out.lo k hk).2
    have hx14:Bq w11 own4 H14 [.int .u64 (ver:Int),.int .u32 (nxt:Int),.slice A9 n9 c9]:=⟨(X14b.out.past HB7.out).past hb711,fun e=>by
     rw[HOW.out] at e
     rcases e with q|q
     ·exact HN14.out.1 q
     ·exact HN14b.out q⟩
    have HA11:=Lib.hid (show AgAt w11 _ G P2 D M2 N2 cn X S1 F Y mb nx R own4 ownD4 A1 n1 c1 A2 n2 c2 A3 n3 c3 A4 n4 c4 A8 n8 c8 A9 n9 c9 Am nm cm S1 m' H14 H21 H22 ver nxt Ak nk ck Aq nq cq from
     ⟨H7.out.past hb711,hx14,⟨X21.out.past hb911,fun e=>by have:=hl7 _ e;omega⟩,⟨hx22,fun e=>by have:=hl7 _ e;have:=HB79.out.size;have:=HB10.out.size;omega⟩,HK9.out.past hb911,(HMQ.out.past hb11).less fun k _ hk=>by have:=hl7 k hk;have:=HB79.out.size;omega⟩)
    have HBB11:=Lib.hid (show Below w.heap.size w w11 from ((HB5.out.trans HB56.out).trans (HB7.out.mono (by have:=HB5.out.size;have:=HB56.out.size;omega))).trans (hb711.mono (by have:=HB5.out.size;have:=HB56.out.size;have:=HB7.out.size;omega)))
    have HNK:=Lib.hid (And.intro HKR.out.1 HKR.out.2.1)
    have k1:=HA11.out.bk.box.1.cell (i:=1) rfl
    have HFU2:=Lib.hid (fuse_any HA11.out.bk.disk ag hag)
    rw[←hw11,←hH22]
    clear hw11 hH22 hb11 hx22 hb911 hb711 hl7 hx14 h21 z0 z1 z2 z3 z4 HRD X21 HB79 HB8 HB10 HKR HMQ HK9 X14b X15b HN14 HN14b H7 HB5 HB56 HB7 HB6
    go_upto_region 16 with (go_at_call 21;refine HFU2.out.mono ?_;rintro e w12 ⟨rfl,hdp⟩;have HDP2:=Lib.hid hdp;clear hdp)
    obtain ⟨own5,ownD5,ha12,hO12⟩:=HA11.out.post HDP2.out
    have HBB12:=Lib.hid (HBB11.out.trans (hO12.below (fun k _ hk=>(HA11.out.bk.lo k hk).1) HBB11.out.size))
    obtain ⟨f2,hf2⟩:∃f,f=max ag (-1):=⟨_,rfl⟩
    rw[←hf2] at ha12
    have hmr:=mread_any ha12.bk.disk (show S1.pend.length<4611686018427387904 by rw[HON.out.2.2];show 0<_;omega) (T:=Tl) (Z:=Z) (fun k hk=>by rw[slotD_fuse];exact HSY.out.1 k hk) (fun k hk=>by rw[slotD_fuse];exact HSY.out.2 k hk)
    rw[show ansD {S1 with fuse:=f2} Tl Z=(m',0) from HAN.out.1] at hmr
    have HOP:=Lib.hid (open_fell (own:=own5) ha12.bk.disk ha12.bk.od ha12.bk.lo hmr HAF.out.ok.fit HAF.out.ok.wf HAF.out.ok.disk hbig (show S1.pend.length+64≤_ by rw[HON.out.2.2];show 0+64≤_;omega) hon)
    have k1:=ha12.bk.box.1.cell (i:=1) rfl
    have HA12:=Lib.hid ha12
    clear hmr ha12 hO12 hf2 HFU2 HDP2 HA11 HBB11
    go_upto_region 17 with (go_at_call 20;refine HOP.out.mono ?_;rintro e w13 ⟨pv,r,rfl,hpr,hdp⟩;have HPR:=Lib.hid hpr;have HDP3:=Lib.hid hdp;clear hpr hdp)
    clear k1 HOP
    go_cut [108] (fun s wx=>s=.bool false∧wx=w13)
    case first=>
     rcases HPR.out with ⟨rfl,P9,rfl⟩|⟨rfl,rfl⟩
     ·go_wp2_with fail
      go_meet
      exact ⟨rfl,rfl⟩
     ·go_wp2_with fail
      go_meet
      exact ⟨rfl,rfl⟩
    case rest=>
     obtain ⟨rfl,rfl⟩:=hcut
     obtain ⟨own6,ownD6,ha13,hO13⟩:=HA12.out.post HDP3.out
     have HBB13:=Lib.hid (HBB12.out.trans (hO13.below (fun k _ hk=>(HA12.out.bk.lo k hk).1) HBB12.out.size))
     have hpd:(opD {S1 with fuse:=f2} m').1.pend.length≤S1.pend.length+32:=opD_pend {S1 with fuse:=f2} m'
     have hz:S1.pend.length=0:=by rw[HON.out.2.2];rfl
     have HBA2:=Lib.hid (back_any ha13.bk.disk sy T hsy hT (by omega))
     have k1:=ha13.bk.box.1.cell (i:=1) rfl
     have HA13:=Lib.hid ha13
     clear ha13 hO13 hpd hz HA12 HBB12 HDP3 HPR
     go_upto_region 20 with (go_at_call 23;refine HBA2.out.mono ?_;rintro e w14 ⟨rfl,hdp⟩;have HDP4:=Lib.hid hdp;clear hdp)
     obtain ⟨own7,ownD7,ha14,hO14⟩:=HA13.out.post HDP4.out
     have HBB14:=Lib.hid (HBB13.out.trans (hO14.below (fun k _ hk=>(HA13.out.bk.lo k hk).1) HBB13.out.size))
     obtain ⟨S3,hS3⟩:∃S,S=backD sy T (opD {S1 with fuse:=f2} m').1:=⟨_,rfl⟩
     rw[←hS3] at ha14
     have hon3:S3.on=true:=by rw[hS3];rfl
     have hpe3:S3.pend=[]:=by rw[hS3];rfl
     have hlen3:S3.stored.length=cn:=by
      rw[hS3]
      show (Ds.settle sy T 0 (opD {S1 with fuse:=f2} m').1.pend (opD {S1 with fuse:=f2} m').1.stored).length=_
      rw[settle_length,opD_size]
      exact hcn'
     obtain ⟨T3,Z3,hT3,hZ3⟩:=slots_say S3
     have HS3:=Lib.hid hS3
     have HSY3:=Lib.hid (And.intro hT3 hZ3)
     have HON3:=Lib.hid (And.intro hon3 (And.intro hlen3 hpe3))
     obtain ⟨p0,hp0⟩:∃q,q=mixB (slotD S3 0 16) (slotR (mdlR S1) 0 16) (slotOf m') (T3 0):=⟨_,rfl⟩
     obtain ⟨p1,hp1⟩:∃q,q=mixB (slotD S3 1 16) (slotR (mdlR S1) 1 16) (slotOf m') (T3 1):=⟨_,rfl⟩
     have HA14:=Lib.hid ha14
     have HMX3:=Lib.hid (fun (W:World) (hW:Below w14.heap.size w14 W)=>mixed_any (HA14.out.past hW).bk.disk (by rw[hpe3];show 0<_;omega) hon3 (by omega) (HA14.out.past hW).kref HNK.out.1 (show (mdlR S1).wait.length=0 from rfl) (by have:=HNK.out.2;omega) (by omega) HLE1.out (HA14.out.past hW).man.now HAF.out.ok.fit (hT3 0 (by omega)) (hT3 1 (by omega)))
     rw[←hp0,←hp1] at HMX3
     rw[show refV (mdlR S1) Ak nk ck none 0 0=.agg #[.int .i64 (cn:Int),.bool false,.int .i64 (-1),.slice Ak nk ck,.slice none 0 0] by rw[refV_def,show (mdlR S1).count=cn from hcn'];rfl] at HMX3
     have HQ3:=Lib.hid (And.intro hp0 hp1)
     clear hon3 hpe3 hlen3 hT3 hZ3 hp0 hp1 hS3 ha14 hO14 k1 HBA2 HDP4 HA13 HBB13
     refine Gw.wp_region_grow (mqB G D H21 H22 (mval m'.version m'.next Aq nq cq) (.agg #[.int .i64 (cn:Int),.bool false,.int .i64 (-1),.slice Ak nk ck,.slice none 0 0]) (p0||p1)) [116,117,118,119,120,121,122] [([15],none),([116],none),([117],none),([118],none),([21],none),([22],none),([119,120,121],none)] 155 (by kernel_rfl) (by kernel_rfl) rfl ?h0 ?hreq ?hend
     case h0=>
      intro t W hnd _
      unfold mqB
      split<;>first|(exfalso;apply hnd;decide)|rfl|trivial
     case hreq=>
      refine ⟨?_,?_,?_,?_,?_,?_,?_,trivial⟩
      all_goals
       intro ac W hg hk
       have hg':Below w14.heap.size w14 W:=hg
       have k1:=(HA14.out.past hg').bk.box.1.cell (i:=1) rfl
       have y0:=(HA14.out.past hg').b22.1.cell (i:=0) rfl
       have y1:=(HA14.out.past hg').b22.1.cell (i:=1) rfl
       have y2:=(HA14.out.past hg').b22.1.cell (i:=2) rfl
       obtain ⟨z0,z1,z2,z3,z4⟩:=(HA14.out.past hg').b21.1.five
       simp only[Gw.Knows,mqB] at hk
       try (simp[go_sem,Gw.OpReq,Gw.Ok,Gw.Post,Gw.Holds,mqB,Gw.Grows.refl,hk,k1,y0,y1,y2,z0,z1,z2,z3,z4,mval];done)
      simp[go_sem,Gw.OpReq,Gw.Ok,Gw.Post,Gw.Holds,mqB,Gw.Grows.refl,hk]
      refine (HMX3.out W hg').mono ?_
      rintro e w15 ⟨hb15,rfl⟩
      exact ⟨_,rfl,hb15,fun _ _=>by simp⟩
     case hend=>
      intro y w15 hg hy
      have y122:y 122=.bool (p0||p1):=(hy 122 (by simp)).now
      have HB15:=Lib.hid (show Below w14.heap.size w14 w15 from hg)
      clear hg hy
      simp only[Gw.putAll,Act.put,List.setIfInBounds_toArray,List.set_cons_zero,List.set_cons_succ]
      rw[y122]
      obtain ⟨q3,hq3⟩:∃q,q=(p0||p1):=⟨_,rfl⟩
      rw[←hq3]
      have HQ4:=Lib.hid hq3
      clear hq3 y122
      cases q3 with
      |true=>
       have HAW:=Lib.hid (awake_any w15)
       go_wp2_with (go_at_call 10;refine HAW.out.mono ?_;rintro e w16 ⟨rfl,hb⟩;have HB16:=Lib.hid hb;clear hb)
       go_ret
       have hB15:Below w.heap.size w w15:=HBB14.out.trans (HB15.out.mono HBB14.out.size)
       exact ⟨rfl,hB15.trans (HB16.out.mono hB15.size)⟩
      |false=>
       have hq:p0=false∧p1=false:=by
        have:=HQ4.out
        revert this
        cases p0<;>cases p1<;>simp
       have hmix:∀k,k<2→mixB (slotD S3 k 16) (slotR (mdlR S1) k 16) (slotOf m') (T3 k)=false:=fun k hk=>by
        rcases (show k=0∨k=1 by omega) with rfl|rfl
        ·rw[←HQ3.out.1];exact hq.1
        ·rw[←HQ3.out.2];exact hq.2
       obtain ⟨haft,hans⟩:=HAF.out.again HAN.out.2 HSY.out.1 HSY.out.2 HAN.out.1 f2 sy T HS3.out HA14.out.bk.disk.good.1 HSY3.out.1 HSY3.out.2 hmix
       have h15:=HA14.out.past HB15.out
       have hmr:=mread_any h15.bk.disk (show S3.pend.length<4611686018427387904 by rw[HON3.out.2.2];show 0<_;omega) HSY3.out.1 HSY3.out.2
       rw[hans] at hmr
       have HOP:=Lib.hid (open_good (own:=own7) h15.bk.disk h15.bk.od h15.bk.lo hmr haft.ok.fit haft.ok.wf haft.ok.disk haft.ok.big (by rw[HON3.out.2.2];show 0+64≤_;omega))
       have k1:=h15.bk.box.1.cell (i:=1) rfl
       have HBB15:=Lib.hid (HBB14.out.trans (HB15.out.mono HBB14.out.size))
       have H15:=Lib.hid h15
       have HAF3:=Lib.hid haft
       clear hq hmix haft hans hmr h15
       go_upto_region 23 with (go_at_call 20;refine HOP.out.mono ?_;intro e w16 hop;simp only[OpPost] at hop;rcases hop with ⟨q,-⟩|⟨-,P3,M3,own8,ownD8,rfl,hst,ho8,hn8,hi8,hd8,-⟩;exact absurd HAF3.out.anew.1 q;have HS8:=Lib.hid hst;have HO8:=Lib.hid ho8;clear hst ho8 hn8 hi8 hd8)
       have hO8:Out own7 w15 w16:=HO8.out.more fun k _ hk=>H15.out.bk.od k hk
       have hx8:=H15.out.bk.box.1.out HO8.out H15.out.bk.g.2
       have hh8:=H15.out.bk.box.2.2.1.out hO8
       have hm8:=H15.out.bk.hmb.out hO8
       have HSTD:=Lib.hid (fun (W:World) (hW:Below w16.heap.size w16 W)=>stands_any (nx:=nxt) (cm:=c8) (An:=A9) (nn:=n9) (cn:=c9) (vN:=ver) (HS8.out.past hW) HAF3.out.anew.2 (show 0≤1000 by omega) (hx8.past hW) (hh8.out (.of_below hW)).at_.now hh8.len (hm8.out (.of_below hW)).at_.now hm8.len (fun l hl=>by
        have e:=(PlyOk.plain HAF3.out.ok.fit (if m'.version=0 then (S3,(0:Int)) else wmD S3 m' 2).1 false F').all hl
        rcases HWY.out with ⟨e1,e2⟩|⟨e1,e2⟩
        ·exact .inl ⟨e.trans e2,by rw[←e1]⟩
        ·exact .inr ⟨e.trans e2,by rw[HVN.out.1,←e1]⟩))
       have HVR:=Lib.hid (fun (W:World) (hW:Below w16.heap.size w16 W)=>version_any (HS8.out.past hW))
       have HX14:=Lib.hid (H15.out.b14.1.out hO8 H15.out.b14.2)
       have HX22:=Lib.hid (H15.out.b22.1.out hO8 H15.out.b22.2)
       have HBB16:=Lib.hid (show Below w.heap.size w w16 from HBB15.out.trans (hO8.below (fun k _ hk=>(H15.out.bk.lo k hk).1) HBB15.out.size))
       clear k1 hO8 hx8 hh8 hm8 HOP
       refine Gw.wp_region_grow (agG G P3 H14 H22 A8 n8 c8 (mval ver nxt A9 n9 c9) m'.version) [132,133,134,135,136,137,138,139,140,141,142,143,144,145,146,147,148,149,150,151,152,153,154,14] [([24],none),([132],none),([133],none),([25,134],some (134,true)),([135,134],some (134,true)),([134,136],none),([137],none),([15,138],some (138,true)),([24,138],some (138,true)),([17,138],some (138,true)),([18,138],some (138,true)),([139,140,141,142,138],some (138,true)),([138,143],none),([144],none),([24,145],some (145,true)),([146,145],some (145,true)),([22,145],some (145,true)),([148,145],some (145,true)),([147,149,145],some (145,true)),([145,150],none),([151],none),([152],some (152,true)),([152,153],none),([154],none)] 155 (by kernel_rfl) (by kernel_rfl) rfl ?h0 ?hreq ?hend
       case h0=>
        intro t W hnd _
        unfold agG
        split<;>first|(exfalso;apply hnd;decide)|rfl|trivial
       case hreq=>
        refine ⟨?_,?_,?_,?_,?_,?_,?_,?_,?_,?_,?_,?_,?_,?_,?_,?_,?_,?_,?_,?_,?_,?_,?_,?_,trivial⟩
        all_goals
         intro ac W hg hk
         have hg':Below w16.heap.size w16 W:=hg
         have x0:=(HX14.out.past hg').cell (i:=0) rfl
         have x1:=(HX14.out.past hg').cell (i:=1) rfl
         have x2:=(HX14.out.past hg').cell (i:=2) rfl
         have y0:=(HX22.out.past hg').cell (i:=0) rfl
         simp only[Gw.Knows,agG] at hk
         try (simp[go_sem,Gw.OpReq,Gw.Ok,Gw.Post,Gw.Holds,agG,Gw.Grows.refl,hk,x0,x1,x2,y0,mval];done)
        ·simp[go_sem,Gw.OpReq,Gw.Ok,Gw.Post,Gw.Holds,agG,Gw.Grows.refl,hk]
         refine (HSTD.out W hg').mono ?_
         rintro e w17 ⟨rfl,hb17⟩
         exact ⟨_,rfl,hb17,fun _ _=>rfl⟩
        ·simp[go_sem,Gw.OpReq,Gw.Ok,Gw.Post,Gw.Holds,agG,Gw.Grows.refl,hk]
         refine (HVR.out W hg').mono ?_
         rintro e w17 ⟨rfl,rfl⟩
         exact ⟨_,rfl,Gw.Grows.refl _,fun _ _=>rfl⟩
        ·simp[go_sem,Gw.OpReq,Gw.Ok,Gw.Post,Gw.Holds,agG,Gw.Grows.refl,hk]
         refine (awake_any W).mono ?_
         rintro e w17 ⟨rfl,hb17⟩
         exact ⟨_,rfl,hb17,fun _ _=>rfl⟩
       case hend=>
        intro y w17 hg hy
        have y14:y 14=.bool true:=(hy 14 (by simp)).now
        have HB17:=Lib.hid (show Below w16.heap.size w16 w17 from hg)
        clear hg hy
        simp only[Gw.putAll,Act.put,List.setIfInBounds_toArray,List.set_cons_zero,List.set_cons_succ]
        rw[y14]
        go_wp2
        go_ret
        exact ⟨rfl,HBB16.out.trans (HB17.out.mono HBB16.out.size)⟩
open Go.ChangeShapes Go.WideShapes Go.ChangeAt Go.Joins
set_option maxRecDepth 100000 in
theorem storeAgain_lifted (os:Os) (started:os.Started) (H:Type) (enc:TypeId×Value→H) :
 ReturnsInHanded {} Tryz.checked os 5 .any (Rows.storeAgainSpec.pre6 enc Tryz.prog Tryz.f5 Rows.storeAgainRow.domain false) (Rows.storeAgainSpec.post enc Tryz.prog Tryz.f5 false true false false):=by
 refine returnsInHanded_of_change (C:=Tryz.checked) own started (by kernel_rfl) Tryz.func5
  (ChangeSpec.witness6 (enc:=enc) (C:=Tryz.checked) false ⟨#[],#[.int .i64 0,.slice none 0 0,.int .i64 0,.int .u64 0,.int .u64 0,.int .i64 0,.int .u64 0],[]⟩ 8 (by kernel_rfl) (by kernel_rfl) (by kernel_rfl) (by kernel_rfl)) ?_
 intro W base args ds gs before hval0 hW hcnd _
 have hval:∀(j:Nat) t v,Tryz.f5.params[j]?=some t→args[j]?=some v→Value.okWide Tryz.prog W .any base t v:=hval0
 have hW':=hW
 obtain ⟨p,q,hA0,hV,rfl,hfz,hnd⟩:=hW
 have hA:DataW.TrodAll enc Tryz.prog W 0 (fun _=>true) true Tryz.f5.params.toList args.toList ds p:=hA0
 rw[Tryz.params5] at hA hval
 obtain ⟨v0,v1,v2,v3,v4,v5,v6,d0,d1,d2,d3,d4,d5,d6,p0,p1,p2,p3,p4,p5,p6,rfl,rfl,rfl,h0,h1,h2,h3,h4,h5,h6⟩:=Lw.trodAll_seven hA
 obtain ⟨count,rfl,-,-,wz⟩:=open_int Tryz.underlying3 (hval 0 3 v0 rfl rfl) h0
 obtain ⟨A,n,c,acts,rfl,hl,hnc,hc63,ha⟩:=open_sacts (hval 1 22 v1 rfl rfl) h1
 obtain ⟨fu,rfl,-,-,wf⟩:=open_int Tryz.underlying3 (hval 2 3 v2 rfl rfl) h2
 obtain ⟨K,rfl,-,-,wK⟩:=open_int Tryz.underlying32 (hval 3 32 v3 rfl rfl) h3
 obtain ⟨T,rfl,-,-,wT⟩:=open_int Tryz.underlying32 (hval 4 32 v4 rfl rfl) h4
 obtain ⟨ag,rfl,-,-,wa⟩:=open_int Tryz.underlying3 (hval 5 3 v5 rfl rfl) h5
 obtain ⟨sy,rfl,-,-,ws⟩:=open_int Tryz.underlying32 (hval 6 32 v6 rfl rfl) h6
 have hag:ag≤9223372036854775807:=by simp[Lit.wf,IntKind.min,IntKind.max,IntKind.bits,IntKind.signed] at wa;omega
 have hsy:0≤sy∧sy<18446744073709551616:=by simp[Lit.wf,IntKind.min,IntKind.max,IntKind.bits,IntKind.signed] at ws;omega
 obtain ⟨sn,rfl⟩:∃k:Nat,sy=(k:Int):=⟨sy.toNat,by omega⟩
 have hfu:fu≤9223372036854775807:=by simp[Lit.wf,IntKind.min,IntKind.max,IntKind.bits,IntKind.signed] at wf;omega
 have hK:0≤K∧K<18446744073709551616:=by simp[Lit.wf,IntKind.min,IntKind.max,IntKind.bits,IntKind.signed] at wK;omega
 have hT:0≤T∧T<18446744073709551616:=by simp[Lit.wf,IntKind.min,IntKind.max,IntKind.bits,IntKind.signed] at wT;omega
 obtain ⟨kn,rfl⟩:∃k:Nat,K=(k:Int):=⟨K.toNat,by omega⟩
 obtain ⟨tn,rfl⟩:∃k:Nat,T=(k:Int):=⟨T.toNat,by omega⟩
 have hwalk:=sagain_walk count A n c acts fu hfu kn tn (by omega) (by omega) ag hag sn (by omega) W hl ⟨hnc,hc63⟩ ha
 refine hwalk.mono fun e W' ⟨he,hb⟩=>?_
 subst he
 exact ⟨_,rfl,Lw.post_true laidOut (by kernel_rfl) rfl rfl rfl rfl (by kernel_rfl) Tryz.underlying4 hW' hb⟩
theorem storeAgain_holds:Rows.StoreAgainSaid:=
 OpenClaim.holds_of_wide 5 Tryz.f5 rfl rfl rfl rfl rfl rfl rfl ⟨rfl,rfl,rfl,rfl,rfl⟩ rfl rfl rfl rfl rfl (by kernel_rfl) Tryz.func5 (by kernel_rfl)
  (of_decide_eq_true (by kernel_rfl)) (by unfold Func.isWrapper;rw[if_neg (of_decide_eq_false (by kernel_rfl))];exact ⟨rfl,rfl⟩)
  (fun os started H enc _=>storeAgain_lifted os started H enc)
#print axioms storeAgain_holds
end Go.Proofs.YtiocpefgccndbaaGreat
