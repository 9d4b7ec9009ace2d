/- StoreFalls: opened anew behind a fall, wherever, and whatever stayed, all files are as at the last commit that was answered, or as at the one under way; unless blocks of two writes together are a manifest's bytes; for every input. -/
import Derived.ProofKit
import Derived.Lib.SmallJoins
import Derived.Test.YtiocpefgccndbaaGreatKG32
import Derived.Test.YtiocpefgccndbaaGreatKG25
import Derived.Test.YtiocpefgccndbaaGreatKG31
import Derived.Test.YtiocpefgccndbaaGreatKG30
namespace Go.Proofs.YtiocpefgccndbaaGreat
open Go.RowKit Me Mf Rw Ds Va Go.Maps
def mqG (G D H14 H15:Nat) (mv dv:Value) (q:Bool):Gw.Fact:=fun t v _=>
 match t with
 |11|53|54=>v=.pointer (some ⟨G,0,none⟩)
 |55=>v=.pointer (some ⟨G,1,none⟩)
 |56=>v=.pointer (some ⟨D,0,none⟩)
 |15=>v=.pointer (some ⟨H15,0,none⟩)
 |14=>v=.pointer (some ⟨H14,0,none⟩)
 |57=>v=dv
 |58=>v=mv
 |59=>v=.bool q
 |_=>True
set_option maxRecDepth 100000 in
set_option maxHeartbeats 8000000 in
theorem sfalls_walk (count:Int) (A:Option Addr) (n c:Nat) (acts:List AS) (fuse:Int) (hfu:fuse≤9223372036854775807) (K T:Nat) (hK:K<18446744073709551616) (hT:T<18446744073709551616) (w:World) (hl:acts.length=n) (hn:n≤c∧c≤9223372036854775807) (ha:SActs w w.heap.size A acts) :
 Calls Tryz.prog 4 #[.int .i64 count,.slice A n c,.int .i64 fuse,.int .u64 (K:Int),.int .u64 (T:Int)] w fun e w'=>e=.returned (.bool true)∧Below w.heap.size w w':=by
 have HG:=Lib.hid (great_any count A n c acts w w.heap.size hl (by omega) ha)
 have HL:=Lib.hid hl
 have HA:=Lib.hid ha
 clear hl ha
 go_enter Tryz.func4,Tryz.ntmps4
 go_wp2_with fail
 refine HG.out.mono ?_
 rintro e w1 ⟨⟨g,rfl,hg⟩,rfl⟩
 have HFW:=Lib.hid hg
 clear hg HG
 cases g with
 |true=>
  have HAW:=Lib.hid (awake_any w)
  go_wp2_with (go_at_call 10;refine HAW.out.mono ?_;rintro e w9 ⟨rfl,hb⟩;have HB9:=Lib.hid hb;clear hb)
  go_ret
  exact ⟨rfl,HB9.out⟩
 |false=>
  obtain ⟨f1,f2,f3,f4⟩:=HFW.out rfl
  have HF4:=Lib.hid f4
  obtain ⟨cn,rfl⟩:∃cn:Nat,count=(cn:Int):=⟨count.toNat,by omega⟩
  have hcn:40≤cn∧cn≤200:=by omega
  have hn60:n≤60:=by have:=HL.out;omega
  have HBG:=Lib.hid (begin_play cn (by omega) (by omega) w)
  clear f1 f2 f3 f4 HFW
  go_upto_region 6 with (go_at_call 11;refine HBG.out.mono ?_;rintro e w1 ⟨G,D,rfl,hp,hb1⟩;have HP:=Lib.hid hp;have HB1:=Lib.hid hb1;clear hp hb1)
  clear HBG
  obtain ⟨P,M,N,own,ownD,hN,hBw,hp⟩:=HP.out
  obtain rfl:N=0:=by omega
  obtain ⟨A1,n1,c1,A2,n2,c2,A3,n3,c3,A4,n4,c4,hpb⟩:=hp.pbx
  have k1:=hpb.1.cell (i:=1) rfl
  have HPA:=Lib.hid hp
  have HFU:=Lib.hid (fuse_any hp.st.disk fuse hfu)
  clear hp hpb HP
  go_upto_region 7 with (go_at_call 21;refine HFU.out.mono ?_;rintro e w2 ⟨rfl,hdp⟩;have HDP:=Lib.hid hdp;clear hdp)
  obtain ⟨own2,ownD2,hs2,hf2⟩:=HPA.out.st.disked HDP.out rfl
  have hp2:=HPA.out.store hs2 hf2
  have hst:Still (⟨{newD cn with fuse:=max fuse (-1)},noMan,noC,false⟩:Sto) (fun _=>[]):=(Rest.new (F:=fun _=>[]) (n:=cn) (by omega)).still.fuse (max fuse (-1))
  have hO12:Out own w1 w2:=HPA.out.st.foot hf2.1
  have HB2:=Lib.hid (show Below w.heap.size w w2 from HB1.out.trans (hO12.below (fun k _ hk=>(HPA.out.st.lt hk).1) hBw))
  have hcl:({newD cn with fuse:=max fuse (-1)}:Dsk).stored.length=cn:=by show (List.replicate cn _).length=cn;exact List.length_replicate ..
  have HFL:=Lib.hid (falls_any (c:=c) hp2 rfl hst (ply_new _ _) few_new HL.out hn60 (show SActs w2 w.heap.size A acts from HA.out.below HB2.out) HF4.out)
  rw[show (⟨{newD cn with fuse:=max fuse (-1)},noMan,noC,false⟩:Sto).S.stored.length=cn from hcl] at HFL
  have HLT:=Lib.hid (show ∀k,own2 k→w.heap.size≤k from fun k hk=>(hp2.st.lt hk).1)
  clear k1 hs2 hf2 hp2 hst hO12 hcl HPA HDP HFU HB1 hBw
  go_upto_region 8 with (go_at_call 22;refine HFL.out.mono ?_;rintro e w3 ⟨P2,M2,N2,own3,ownD3,X,F,Y,mb,nx,R,A8,n8,c8,A9,n9,c9,Am,nm,cm,rfl,hk⟩;have HK:=Lib.hid hk;clear hk)
  obtain ⟨w4,hw4⟩:∃w4,w4=w3.alloc (.cells #[.int .u64 (nx.version:Int),.int .u32 (nx.next:Int),.slice A9 n9 c9] 38):=⟨_,rfl⟩
  obtain ⟨w5,hw5⟩:∃w5,w5=w4.alloc (.cells #[.int .i64 (cn:Int),.bool false,.int .i64 (-1),.slice Am nm cm,.slice none 0 0] 59):=⟨_,rfl⟩
  obtain ⟨H14,hH14⟩:∃H,H=w3.heap.size:=⟨_,rfl⟩
  have hs4:w4.heap.size=H14+1:=by rw[hw4,hH14];simp
  have hb4:Below w3.heap.size w3 w4:=by rw[hw4];exact (Below.refl _ _).alloc (Nat.le_refl _) _
  have hb5:Below w4.heap.size w4 w5:=by rw[hw5];exact (Below.refl _ _).alloc (Nat.le_refl _) _
  have X14:=Lib.hid (show Blk w5 H14 [.int .u64 (nx.version:Int),.int .u32 (nx.next:Int),.slice A9 n9 c9] by
   have:Blk w4 w3.heap.size [.int .u64 (nx.version:Int),.int .u32 (nx.next:Int),.slice A9 n9 c9]:=by rw[hw4];exact Blk.new w3 [.int .u64 (nx.version:Int),.int .u32 (nx.next:Int),.slice A9 n9 c9] _
   rw[hH14];exact this.past hb5)
  have X15:=Lib.hid (show Blk w5 (H14+1) [.int .i64 (cn:Int),.bool false,.int .i64 (-1),.slice Am nm cm,.slice none 0 0] by rw[hw5];exact Blk.new' w4 [.int .i64 (cn:Int),.bool false,.int .i64 (-1),.slice Am nm cm,.slice none 0 0] _ hs4)
  have hb35:=hb4.trans (hb5.mono hb4.size)
  obtain ⟨A1,n1,c1,A2,n2,c2,A3,n3,c3,A4,n4,c4,hbk⟩:=(HK.out.past hb35).bk
  have HBK:=Lib.hid hbk
  have HN14:=Lib.hid (show ¬own3 H14∧¬own3 (H14+1) from ⟨fun e=>by have:=(HK.out.at_.st.lt e).2;omega,fun e=>by have:=(HK.out.at_.st.lt e).2;omega⟩)
  have HB5:=Lib.hid (show Below w.heap.size w w5 from (HB2.out.trans (HK.out.out.below (fun k _ hk=>HLT.out k hk) HB2.out.size)).trans (hb35.mono (by have:=HB2.out.size;have:=HK.out.out.size;omega)))
  have HFE:=Lib.hid HK.out.few
  have HCN:=Lib.hid HK.out.hcn
  have HVL:=Lib.hid HK.out.val
  have HBA:=Lib.hid (back_any hbk.disk K T hK hT hbk.is.pend)
  have k1:=hbk.box.1.cell (i:=1) rfl
  rw[←hw4,←hw5,←hH14]
  clear hw4 hw5 hH14 hs4 hb4 hb5 hb35 hbk HK HFL
  go_upto_region 11 with (go_at_call 23;refine HBA.out.mono ?_;rintro e w6 ⟨rfl,hdp⟩;have HDP:=Lib.hid hdp;clear hdp)
  obtain ⟨ownD4,hd4,ho4,hn4⟩:=HDP.out
  have HB6:=Lib.hid (HBK.out.post hd4 ho4 hn4)
  have hO6:Out own3 w5 w6:=ho4.more fun k _ hk=>HBK.out.od k hk
  have HN14b:=Lib.hid (show ¬ownD4 H14 from fun e=>by
   rcases hn4 _ e with q|q
   ·exact HN14.out.1 (HBK.out.od _ q)
   ·have:=X14.out.lt;omega)
  have HB56:=Lib.hid (show Below w.heap.size w5 w6 from hO6.below (fun k _ hk=>(HBK.out.lo k hk).1) HB5.out.size)
  have X14b:=Lib.hid (X14.out.out hO6 HN14.out.1)
  have X15b:=Lib.hid (X15.out.out hO6 HN14.out.2)
  obtain ⟨S1,hS1⟩:∃S1,S1=backD K T X.S:=⟨_,rfl⟩
  obtain ⟨own4,hown4⟩:∃o,o=fun k=>own3 k∨ownD4 k:=⟨_,rfl⟩
  have HS1:=Lib.hid hS1
  rw[←hS1,←hown4] at HB6
  have hon:S1.on=true:=by rw[hS1];rfl
  have hlen:S1.stored.length=cn:=by
   rw[hS1,←HCN.out]
   show (Ds.settle K T 0 X.S.pend X.S.stored).length=_
   exact settle_length K T X.S.pend 0 X.S.stored
  have hpe:S1.pend=[]:=by rw[hS1];rfl
  obtain ⟨Tl,Z,hTl,hZ⟩:=slots_say S1
  have HSY:=Lib.hid (And.intro hTl hZ)
  have HON:=Lib.hid (And.intro hon (And.intro hlen hpe))
  have HAL:=Lib.hid (show ∀b∈S1.stored,b.length=128 from HB6.out.disk.good.1)
  obtain ⟨q0,hq0⟩:∃q,q=mixB (slotD S1 0 16) (slotR R 0 16) (slotOf nx) (Tl 0):=⟨_,rfl⟩
  obtain ⟨q1,hq1⟩:∃q,q=mixB (slotD S1 1 16) (slotR R 1 16) (slotOf nx) (Tl 1):=⟨_,rfl⟩
  have HMX:=Lib.hid (fun (W:World) (hW:Below w6.heap.size w6 W)=>mixed_any (HB6.out.past hW).disk (by rw[hpe];show 0<_;omega) hon (by omega) (HB6.out.past hW).ref HB6.out.made HB6.out.wait (by have:=HB6.out.most;omega) (by omega) HB6.out.le (HB6.out.past hW).hnx.now HB6.out.fit (hTl 0 (by omega)) (hTl 1 (by omega)))
  rw[←hq0,←hq1] at HMX
  have HQ:=Lib.hid (And.intro hq0 hq1)
  obtain ⟨ver,hver⟩:∃v,v=nx.version:=⟨_,rfl⟩
  obtain ⟨nxt,hnxt⟩:∃v,v=nx.next:=⟨_,rfl⟩
  have HVN:=Lib.hid (And.intro hver hnxt)
  rw[←hver,←hnxt] at X14b HMX
  rw[show refV R Am nm cm none 0 0=.agg #[.int .i64 (cn:Int),.bool false,.int .i64 (-1),.slice Am nm cm,.slice none 0 0] by rw[refV_def,HVL.out.1,HVL.out.2.1,HVL.out.2.2]] at HMX
  clear hd4 ho4 hn4 hO6 hS1 hown4 hon hlen hpe hTl hZ hq0 hq1 hver hnxt k1 X14 X15 HBA HDP
  refine Gw.wp_region_grow (mqG G D H14 (H14+1) (mval ver nxt A9 n9 c9) (.agg #[.int .i64 (cn:Int),.bool false,.int .i64 (-1),.slice Am nm cm,.slice none 0 0]) (q0||q1)) [53,54,55,56,57,58,59] [([11],none),([53],none),([54],none),([55],none),([15],none),([14],none),([56,57,58],none)] 85 (by kernel_rfl) (by kernel_rfl) rfl ?h0 ?hreq ?hend
  case h0=>
   intro t W hnd _
   unfold mqG
   split<;>first|(exfalso;apply hnd;decide)|rfl|trivial
  case hreq=>
   refine ⟨?_,?_,?_,?_,?_,?_,?_,trivial⟩
   all_goals
    intro ac W hg hk
    have hg':Below w6.heap.size w6 W:=hg
    have k1:=(HB6.out.past hg').box.1.cell (i:=1) rfl
    have y0:=(X14b.out.past hg').cell (i:=0) rfl
    have y1:=(X14b.out.past hg').cell (i:=1) rfl
    have y2:=(X14b.out.past hg').cell (i:=2) rfl
    obtain ⟨z0,z1,z2,z3,z4⟩:=(X15b.out.past hg').five
    simp only[Gw.Knows,mqG] at hk
    try (simp[go_sem,Gw.OpReq,Gw.Ok,Gw.Post,Gw.Holds,mqG,Gw.Grows.refl,hk,k1,y0,y1,y2,z0,z1,z2,z3,z4,mval];done)
   simp[go_sem,Gw.OpReq,Gw.Ok,Gw.Post,Gw.Holds,mqG,Gw.Grows.refl,hk]
   refine (HMX.out W hg').mono ?_
   rintro e w7 ⟨hb7,rfl⟩
   exact ⟨_,rfl,hb7,fun _ _=>by simp⟩
  case hend=>
   intro y w7 hg hy
   have y59:y 59=.bool (q0||q1):=(hy 59 (by simp)).now
   have HB7:=Lib.hid (show Below w6.heap.size w6 w7 from hg)
   clear hg hy
   simp only[Gw.putAll,Act.put,List.setIfInBounds_toArray,List.set_cons_zero,List.set_cons_succ]
   rw[y59]
   obtain ⟨q,hq⟩:∃q,q=(q0||q1):=⟨_,rfl⟩
   rw[←hq]
   have HQ2:=Lib.hid hq
   clear hq y59
   cases q with
   |true=>
    have HAW:=Lib.hid (awake_any w7)
    go_wp2_with (go_at_call 10;refine HAW.out.mono ?_;rintro e w9 ⟨rfl,hb⟩;have HB9:=Lib.hid hb;clear hb)
    go_ret
    exact ⟨rfl,((HB5.out.trans HB56.out).trans (HB7.out.mono (by have:=HB5.out.size;have:=HB56.out.size;omega))).trans (HB9.out.mono (by have:=HB5.out.size;have:=HB56.out.size;have:=HB7.out.size;omega))⟩
   |false=>
    have hq:q0=false∧q1=false:=by
     have:=HQ2.out
     revert this
     cases q0<;>cases q1<;>simp
    have hmix:∀k,k<2→mixB (slotD S1 k 16) (slotR R k 16) (slotOf nx) (Tl k)=false:=fun k hk=>by
     rcases (show k=0∨k=1 by omega) with rfl|rfl
     ·rw[←HQ.out.1];exact hq.1
     ·rw[←HQ.out.2];exact hq.2
    have hbk:=HB6.out.is.back K T (Tl:=Tl) (Z:=Z)
    rw[←HS1.out] at hbk
    obtain ⟨m',F',hway,haft,hans,-⟩:=hbk HAL.out HSY.out.1 HSY.out.2 hmix
    have h7:=HB6.out.past HB7.out
    have hmr:=mread_any h7.disk (show S1.pend.length<4611686018427387904 by rw[HON.out.2.2];show 0<_;omega) HSY.out.1 HSY.out.2
    rw[hans] at hmr
    have HOP:=Lib.hid (open_good (own:=own4) h7.disk h7.od h7.lo hmr haft.ok.fit haft.ok.wf haft.ok.disk haft.ok.big (by rw[HON.out.2.2];show 0+64≤_;omega))
    have k1:=h7.box.1.cell (i:=1) rfl
    have H7:=Lib.hid h7
    have HAF:=Lib.hid haft
    have HWY:=Lib.hid hway
    clear hq hmix hbk hway haft hans hmr h7
    go_upto_region 14 with (go_at_call 20;refine HOP.out.mono ?_;intro e w8 hop;simp only[OpPost] at hop;rcases hop with ⟨q,-⟩|⟨-,P3,M3,own5,ownD5,rfl,hst,ho8,hn8,hi8,hd8,-⟩;exact absurd HAF.out.anew.1 q;have HS8:=Lib.hid hst;have HO8:=Lib.hid ho8;clear hst ho8 hn8 hi8 hd8)
    have hO8:Out own4 w7 w8:=HO8.out.more fun k _ hk=>H7.out.od k hk
    have hx8:=H7.out.box.1.out HO8.out H7.out.g.2
    have hh8:=(H7.out.box.2.2.1.out hO8)
    have hm8:=(H7.out.hmb.out hO8)
    have HSTD:=Lib.hid (stands_any (nx:=nxt) (cm:=c8) (An:=A9) (nn:=n9) (cn:=c9) (vN:=ver) HS8.out HAF.out.anew.2 (show 0≤1000 by omega) hx8 hh8.at_.now hh8.len hm8.at_.now hm8.len (fun l hl=>by
     have e:=(PlyOk.plain HAF.out.ok.fit (if m'.version=0 then (S1,(0:Int)) else wmD S1 m' 2).1 false F').all hl
     rcases HWY.out with ⟨e1,e2⟩|⟨e1,e2⟩
     ·exact .inl ⟨e.trans e2,by rw[←e1]⟩
     ·exact .inr ⟨e.trans e2,by rw[HVN.out.1,←e1]⟩))
    have hX:=(X14b.out.past HB7.out).out HO8.out HN14b.out
    have y0:=hX.cell (i:=0) rfl
    have y1:=hX.cell (i:=1) rfl
    have y2:=hX.cell (i:=2) rfl
    have HBB:=Lib.hid (show Below w.heap.size w w8 from ((HB5.out.trans HB56.out).trans (HB7.out.mono (by have:=HB5.out.size;have:=HB56.out.size;omega))).trans (hO8.below (fun k _ hk=>(H7.out.lo k hk).1) (by have:=HB5.out.size;have:=HB56.out.size;have:=HB7.out.size;omega)))
    clear k1 hO8 hx8 hh8 hm8 hX HOP
    go_wp2_with (first|(go_at_call 25;refine HSTD.out.mono ?_;rintro e w9 ⟨rfl,hb⟩;have HB9:=Lib.hid (HBB.out.trans (hb.mono HBB.out.size));clear hb)|(go_at_call 10;refine (awake_any _).mono ?_;rintro e w10 ⟨rfl,hb⟩;have HB10:=Lib.hid (HB9.out.trans (hb.mono HB9.out.size));clear hb))
    go_ret
    exact ⟨rfl,HB10.out⟩
open Go.ChangeShapes Go.WideShapes Go.ChangeAt Go.Joins
set_option maxRecDepth 100000 in
theorem storeFalls_lifted (os:Os) (started:os.Started) (H:Type) (enc:TypeId×Value→H) :
 ReturnsInHanded {} Tryz.checked os 4 .any (Rows.storeFallsSpec.pre6 enc Tryz.prog Tryz.f4 Rows.storeFallsRow.domain false) (Rows.storeFallsSpec.post enc Tryz.prog Tryz.f4 false true false false):=by
 refine returnsInHanded_of_change (C:=Tryz.checked) own started (by kernel_rfl) Tryz.func4
  (ChangeSpec.witness6 (enc:=enc) (C:=Tryz.checked) false ⟨#[],#[.int .i64 0,.slice none 0 0,.int .i64 0,.int .u64 0,.int .u64 0],[]⟩ 8 (by kernel_rfl) (by kernel_rfl) (by kernel_rfl) (by kernel_rfl)) ?_
 intro W base args ds gs before hval0 hW hcnd _
 have hval:∀(j:Nat) t v,Tryz.f4.params[j]?=some t→args[j]?=some v→Value.okWide Tryz.prog W .any base t v:=hval0
 have hW':=hW
 obtain ⟨p,q,hA0,hV,rfl,hfz,hnd⟩:=hW
 have hA:DataW.TrodAll enc Tryz.prog W 0 (fun _=>true) true Tryz.f4.params.toList args.toList ds p:=hA0
 rw[Tryz.params4] at hA hval
 obtain ⟨v0,v1,v2,v3,v4,d0,d1,d2,d3,d4,p0,p1,p2,p3,p4,rfl,rfl,rfl,h0,h1,h2,h3,h4⟩:=Lw.trodAll_five hA
 obtain ⟨count,rfl,-,-,wz⟩:=open_int Tryz.underlying3 (hval 0 3 v0 rfl rfl) h0
 obtain ⟨A,n,c,acts,rfl,hl,hnc,hc63,ha⟩:=open_sacts (hval 1 22 v1 rfl rfl) h1
 obtain ⟨fu,rfl,-,-,wf⟩:=open_int Tryz.underlying3 (hval 2 3 v2 rfl rfl) h2
 obtain ⟨K,rfl,-,-,wK⟩:=open_int Tryz.underlying32 (hval 3 32 v3 rfl rfl) h3
 obtain ⟨T,rfl,-,-,wT⟩:=open_int Tryz.underlying32 (hval 4 32 v4 rfl rfl) h4
 have hfu:fu≤9223372036854775807:=by simp[Lit.wf,IntKind.min,IntKind.max,IntKind.bits,IntKind.signed] at wf;omega
 have hK:0≤K∧K<18446744073709551616:=by simp[Lit.wf,IntKind.min,IntKind.max,IntKind.bits,IntKind.signed] at wK;omega
 have hT:0≤T∧T<18446744073709551616:=by simp[Lit.wf,IntKind.min,IntKind.max,IntKind.bits,IntKind.signed] at wT;omega
 obtain ⟨kn,rfl⟩:∃k:Nat,K=(k:Int):=⟨K.toNat,by omega⟩
 obtain ⟨tn,rfl⟩:∃k:Nat,T=(k:Int):=⟨T.toNat,by omega⟩
 have hwalk:=sfalls_walk count A n c acts fu hfu kn tn (by omega) (by omega) W hl ⟨hnc,hc63⟩ ha
 refine hwalk.mono fun e W' ⟨he,hb⟩=>?_
 subst he
 exact ⟨_,rfl,Lw.post_true laidOut (by kernel_rfl) rfl rfl rfl rfl (by kernel_rfl) Tryz.underlying4 hW' hb⟩
theorem storeFalls_holds:Rows.StoreFallsSaid:=
 OpenClaim.holds_of_wide 4 Tryz.f4 rfl rfl rfl rfl rfl rfl rfl ⟨rfl,rfl,rfl,rfl,rfl⟩ rfl rfl rfl rfl rfl (by kernel_rfl) Tryz.func4 (by kernel_rfl)
  (of_decide_eq_true (by kernel_rfl)) (by unfold Func.isWrapper;rw[if_neg (of_decide_eq_false (by kernel_rfl))];exact ⟨rfl,rfl⟩)
  (fun os started H enc _=>storeFalls_lifted os started H enc)
#print axioms storeFalls_holds
end Go.Proofs.YtiocpefgccndbaaGreat
