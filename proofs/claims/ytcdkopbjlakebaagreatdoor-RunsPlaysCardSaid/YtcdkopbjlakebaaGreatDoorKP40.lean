/- Texts put together, for a law: StPl, StNx. -/
import Derived.Test.YtcdkopbjlakebaaGreatDoorKP34
import Derived.Test.YtcdkopbjlakebaaGreatDoorKP38
import Derived.Test.YtcdkopbjlakebaaGreatDoorKP17
import Derived.Test.YtcdkopbjlakebaaGreatDoorKP20
set_option maxRecDepth 100000
set_option maxHeartbeats 8000000
namespace Go.Proofs.YtcdkopbjlakebaaGreatDoor
section
open Go.RowKit Me Mf Rw Ds Va St
def szC (X:Sto) (x:List UInt8):Option Nat:=match X.C x with
 |some (some b)=>some b.length
 |_=>none
def YE (X:Sto) (l:List (List UInt8)):List (List UInt8×Option Nat):=l.map fun x=>(x,szC X x)
theorem filter_one:∀{l:List zi} {f:zi},l.Pairwise (fun a b=>a.name≠b.name)->f∈l->l.filter (fun g=>g.name==f.name)=[f]
 |g::l,f,hp,hf=>by
  rw[List.pairwise_cons] at hp;rcases List.mem_cons.1 hf with rfl|hf
  ·rw[List.filter_cons_of_pos (by simp)]
   congr 1
   rw[List.filter_eq_nil_iff];intro h hh e;exact hp.1 h hh (by simpa using e:h.name=f.name).symm
  ·rw[List.filter_cons_of_neg (by simpa using hp.1 f hf)];exact filter_one hp.2 hf
theorem zd3 {l:List zi} (h:xM l):l.Pairwise fun a b=>a.name≠b.name:=h.2.imp fun {a b} hl e=>by rw[e,yA] at hl;cases hl
theorem zef {m:ManD} (h:xM m.files) {x:List UInt8} {f:zi} (hf:fileOf m x=some f):(m.files.filter fun g=>g.name==x)=[f]:=by
 obtain ⟨h1,h2⟩:=xK hf;rw[<-h2];exact filter_one (zd3 h) h1
structure XC (fs:List zi) (L:List (List UInt8×Option Nat)) (fr0:List Nat) (nx0:Nat) (j:Nat) (acc:List zi) (fr:List Nat) (nx:Nat):Prop where
 eq:yX fs L fr0 nx0=(yX fs (L.drop j) fr nx).map fun r=>(acc++r.1,r.2)
theorem XC.zero (fs:List zi) (L:List (List UInt8×Option Nat)) (fr:List Nat) (nx:Nat):XC fs L fr nx 0 [] fr nx:=⟨by simp⟩
section
variable {fs acc:List zi} {L:List (List UInt8×Option Nat)} {fr0 fr:List Nat} {nx0 nx j s:Nat} {x:List UInt8} {f:zi}
theorem drop_at {α:Type} {l:List α} {j:Nat} {a:α} (h:l[j]?=some a):l.drop j=a::l.drop (j+1):=by
 obtain ⟨hj,e⟩:=List.getElem?_eq_some_iff.1 h;rw[<-e,List.drop_eq_getElem_cons hj]
theorem XC.old (h:XC fs L fr0 nx0 j acc fr nx) (hx:L[j]?=some (x,none)) (hf:(fs.filter fun g=>g.name==x)=[f]):XC fs L fr0 nx0 (j+1) (acc++[f]) fr nx:=⟨by
 rw[h.eq,drop_at hx,yX,hf,Option.map_map]
 congr 1
 funext r
 simp⟩
theorem XC.new (h:XC fs L fr0 nx0 j acc fr nx) (hx:L[j]?=some (x,some s)) (hs:pages s<=fr.length) (hn:nx≠4294967295):XC fs L fr0 nx0 (j+1) (acc++[⟨x,nx,(s:Int),ints (fr.take (pages s))⟩]) (fr.drop (pages s)) (nx+1):=⟨by
 rw[h.eq,drop_at hx,yX,if_pos ⟨hs,hn⟩,Option.map_map]
 congr 1
 funext r
 simp⟩
theorem XC.full (h:XC fs L fr0 nx0 j acc fr nx) (hx:L[j]?=some (x,some s)) (hs:¬(pages s<=fr.length/\nx≠4294967295)):yX fs L fr0 nx0=none:=by
 rw[h.eq,drop_at hx,yX,if_neg hs];rfl
theorem XC.done (h:XC fs L fr0 nx0 j acc fr nx) (hj:L.length<=j):yX fs L fr0 nx0=some (acc,nx):=by
 rw[h.eq,List.drop_of_length_le hj,yX];simp
end
def xC (X:Sto) (l:List (List UInt8)) (m:ManD):Prop:=QE X.m X.S.stored.length (YE X l)=some m/\X.m.version<18446744073709551615/\Fit m
theorem zaV:∀l:List zi,(∀f∈l,WfF f)->(∀f∈l,f.name.length<=32)->(yQ l).length<=72*l.length+10*zK l
 |[],_,_=>Nat.zero_le _
 |f::l,hw,hn=>by
  have h1:=zaV l (fun g hg=>hw g (by simp[hg])) (fun g hg=>hn g (by simp[hg]));have h2:=hn f (by simp);have h3:=hw f (by simp);have e1:=ZP (show f.name.length<18446744073709551616 by omega);have e2:=ZP (show f.id<18446744073709551616 by have:=h3.id;omega);have e3:=ZP (show f.size.toNat<18446744073709551616 by have:=h3.high;omega);have e4:(xE f.blocks).length<=10*f.blocks.length:=by
   have:∀bs:List Int,(∀b∈bs,b<=9223372036854775807)->(xE bs).length<=10*bs.length:=by
    intro bs
    induction bs with
    |nil=>intro _;exact Nat.le_refl _
    |cons b r ih=>
     intro hb;have:=ih (fun c hc=>hb c (by simp[hc]));have:=ZP (show b.toNat<18446744073709551616 by have:=hb b (by simp);omega);simp only[xE,List.length_append,List.length_cons];omega
   exact this _ fun b hb=>(h3.blocks b hb).2
  have e5:zK (f::l)=f.blocks.length+zK l:=by unfold zK zh;simp
  rw[e5];simp only[yQ,encF,List.length_append,List.length_cons];omega
theorem Qy (l:List zi) (f:zi):zK (l++[f])=zK l+f.blocks.length:=by unfold zK zh;simp
theorem zdN {m:ManD} (hw:Wf m) (hn:∀f∈m.files,f.name.length<=32) (h1:m.files.length<=100000) (h2:zK m.files<=100000000):Small m:=by
 have h3:=zaV m.files hw.files hn;have e2:=ZP hw.version;have e3:=ZP (show m.next<18446744073709551616 by have:=hw.next;omega);have e4:=ZP (show m.files.length<18446744073709551616 by omega);refine ⟨by omega,by omega,?_⟩;unfold body;simp only[List.length_append];omega
end
section
open Go.RowKit Me Mf Rw Ds Va Go.Maps
theorem VY (w:World) (nm:List UInt8) (id:Nat) (sz:Int) (A:Option Addr) (n c:Nat):(Instr.buildSlice 108 1 #[(0,.agg #[sv nm,.int .u32 (id:Int),.int .i64 sz,.slice A n c])]).run Tryz.prog w=.ok (.slice (some ⟨w.heap.size,0,none⟩) 1 1) (w.alloc (fbox nm id sz A n c)):=by
 simp[go_sem]
theorem zcA {w5:World} {B4 G ve nx j fc:Nat} {FA:Option Addr} {vs:List Value} (hr:w5.ownsRow B4 123 4 (.slice FA j fc) j vs) (hG:Blk w5 G [.int .u64 (ve:Int),.int .u32 (nx:Int),.slice FA j fc]) (hG4:G<B4) (hB4:B4<=w5.heap.size) (hj:j<=1000000)
 (nm:List UInt8) (id:Nat) (sz:Int) (A3:Option Addr) (n3 c3:Nat) :
 ∃FA' fc' wB,(Builtin.append_ #[108,108] 108 #[.slice FA j fc,.slice (some ⟨w5.heap.size,0,none⟩) 1 1]).run Tryz.prog (w5.alloc (fbox nm id sz A3 n3 c3))=.ok (.slice FA' (j+1) fc') wB /\
  (storeVar 108 ⟨G,2,none⟩ (.slice FA' (j+1) fc')).run Tryz.prog wB=.ok () (wB.setCell ⟨G,2,none⟩ (.slice FA' (j+1) fc')) /\
  (wB.setCell ⟨G,2,none⟩ (.slice FA' (j+1) fc')).ownsRow B4 123 4 (.slice FA' (j+1) fc') (j+1) (vs++[sv nm,.int .u32 (id:Int),.int .i64 sz,.slice A3 n3 c3]) /\
  Blk (wB.setCell ⟨G,2,none⟩ (.slice FA' (j+1) fc')) G [.int .u64 (ve:Int),.int .u32 (nx:Int),.slice FA' (j+1) fc'] /\
  Out (fun k=>k=G\/(Value.slice FA j fc).ownBlock=some k) w5 (wB.setCell ⟨G,2,none⟩ (.slice FA' (j+1) fc'))/\(∀k,(Value.slice FA' (j+1) fc').ownBlock=some k->(Value.slice FA j fc).ownBlock=some k\/w5.heap.size<=k)/\j+1<=fc'/\Blk wB G [.int .u64 (ve:Int),.int .u32 (nx:Int),.slice FA j fc]:=by
 obtain ⟨i0,hi0,hz0,hz1,hz2⟩:=info_parts VH;have hs5:(w5.alloc (fbox nm id sz A3 n3 c3)).heap.size=w5.heap.size+1:=by simp
 obtain ⟨v',wB,h1,h2,h3,-,h5⟩:=run_append_own_at (P:=Tryz.prog) (w5.alloc (fbox nm id sz A3 n3 c3)) B4 108 108 123 i0 _ 4 56 Tryz.underlying108 hi0 hz0 hz1 hz2 rfl (by decide) (.slice FA j fc) j vs (hr.alloc (fbox nm id sz A3 n3 c3)) ⟨w5.heap.size,0,none⟩ 1 1 [sv nm,.int .u32 (id:Int),.int .i64 sz,.slice A3 n3 c3] rfl (zfu w5 (sv nm) (.int .u32 (id:Int)) (.int .i64 sz) (.slice A3 n3 c3) _) (zft _ _ _ _ _ _) (by unfold maxLen;omega) (by omega) (by rw[hs5];omega);obtain ⟨FA',fc',rfl,hfc⟩:=zC h2;have hrow:(Value.slice FA j fc).ownBlock≠some G:=fun e=>by have:=(hr.lt G e).1;omega
 have hGA:Blk (w5.alloc (fbox nm id sz A3 n3 c3)) G _:=hG.alloc _;have hGB:Blk wB G [.int .u64 (ve:Int),.int .u32 (nx:Int),.slice FA j fc]:=hGA.grown h3 hrow;have hst:(storeVar 108 ⟨G,2,none⟩ (.slice FA' (j+1) fc')).run Tryz.prog wB=.ok () (wB.setCell ⟨G,2,none⟩ (.slice FA' (j+1) fc')):=by
  have c2:=hGB.cell (i:=2) rfl;have f2:=hGB.frozen 2;simp[go_sem,c2,f2]
 have ho:Out (fun k=>k=G\/(Value.slice FA j fc).ownBlock=some k) w5 wB:=((Out.refl _ w5).alloc _).grown h3 fun k e=>.inl (.inr e)
 have hnew:∀k,(Value.slice FA' (j+1) fc').ownBlock=some k->(Value.slice FA j fc).ownBlock=some k\/w5.heap.size<=k:=fun k hk=>by
  rcases h5 with h|h
  ·exact .inl (h▸hk)
  ·rw[h] at hk;injection hk with hk;right;omega
 refine ⟨FA',fc',wB,h1,hst,zn h2 (S:=fun k=>k=G) ((Out.refl (fun k=>k=G) wB).setCell (p:=⟨G,2,none⟩) (.inl rfl) _) (fun k hk e=>?_),hGB.set 2 _,ho.setCell (p:=⟨G,2,none⟩) (.inl (.inl rfl)) _,hnew,hfc,hGB⟩;have:=(h2.lt k hk).1;omega
theorem zcO {X:Sto} {l:List (List UInt8)} (h:St.yX X.m.files (YE X l) (St.Yh X.S.stored.length X.m.files) X.m.next=none):∀m,¬xC X l m:=fun m hm=>by
 have h1:=hm.1;unfold St.QE at h1;rw[h] at h1
 cases h1
section
variable {w w':World} {B P D M N:Nat} {X:Sto} {own ownD T:Nat->Prop}
def zmr (w:World) (X:Sto) (own:Nat->Prop) (N:Nat) (e:Ending) (w':World):Prop:=
 Below w.heap.size w w'/\∃l,ZT X l/\l.length<=2035+N/\((∃m A n c,xC X l m/\e=.returned (.tuple #[mval m.version m.next A n c,.int .i64 0])/\ManK own A n c m w') \/
  ((∀m,¬xC X l m)/\e=.returned (.tuple #[mval 0 0 none 0 0,.int .i64 7])))
def nxT (own:Nat->Prop) (H B4:Nat) (v:Value):Nat->Prop:=fun k=>own k\/(H<=k/\k<B4)\/v.ownBlock=some k
def nxB (P G j fc r n0 c0 H5 id n3 c3 fc':Nat) (FA FA' A3:Option Addr) (a:Addr) (nm:List UInt8) (sz:Int):Gw.Fact:=fun t v _=>
 match t with
 |4=>v=.pointer (some ⟨G,0,none⟩)
 |59|71=>v=.pointer (some ⟨G,2,none⟩)
 |60=>v=.slice FA j fc
 |0|61|62=>v=.pointer (some ⟨P,0,none⟩)
 |63=>v=.pointer (some ⟨P,1,none⟩)
 |64=>v=.pointer (some ⟨P,3,none⟩)
 |65=>v=.slice (some a) n0 c0
 |11|66=>v=.int .i64 (r:Int)
 |67=>v=.pointer (some (a.add (r*4)))
 |68=>v=.agg #[sv nm,.int .u32 (id:Int),.int .i64 sz,.slice A3 n3 c3]
 |69=>v=.slice (some ⟨H5,0,none⟩) 1 1
 |70=>v=.slice FA' (j+1) fc'
 |_=>True
def nxA (P H ver nx:Nat):Gw.Fact:=fun t v w=>
 match t with
 |0|15|16|21|22=>v=.pointer (some ⟨P,0,none⟩)
 |17|18|23=>v=.pointer (some ⟨P,1,none⟩)
 |24=>v=.pointer (some ⟨P,2,none⟩)
 |19=>v=.int .u64 (ver:Int)
 |20=>v=.int .u64 (IntKind.u64.wrap ((ver:Int)+1))
 |25=>v=.int .u32 (nx:Int)
 |26=>v=.agg #[.int .u64 (IntKind.u64.wrap ((ver:Int)+1)),.int .u32 (nx:Int),.slice none 0 0]
 |4=>∃b,v=.pointer (some ⟨b,0,none⟩)/\H<=b/\Blk w b [.int .u64 0,.int .u32 0,.slice none 0 0]
 |_=>True
theorem zhg (h:zo w B P D M N X own ownD) (hN:N<=1000):Calls Tryz.prog 63 #[.pointer (some ⟨P,0,none⟩)] w (zmr w X own N):=by
 obtain ⟨i0,hi0,hz0,hz1,hz2⟩:=info_parts VH;obtain ⟨A0,n0,c0',hbk,hm⟩:=h.blk;obtain ⟨H,hH⟩:∃H,H=w.heap.size:=⟨_,rfl⟩
 obtain ⟨w0,hw0⟩:∃w0,w0=w.alloc (.cells #[.int .u64 0,.int .u32 0,.slice none 0 0] 110):=⟨_,rfl⟩
 have hb0:Below w.heap.size w w0:=by rw[hw0];exact (Below.refl _ _).alloc (Nat.le_refl _) _
 have RS0:=gI (show Blk w0 H [.int .u64 0,.int .u32 0,.slice none 0 0] by rw[hw0,hH];exact Blk.new w [.int .u64 0,.int .u32 0,.slice none 0 0] _);have HW0:=gI hw0;have HB0:=gI hb0;have HH:=gI h;have HM:=gI hm;have HBK:=gI hbk;have HHW:=gI hH;obtain ⟨ver,hver⟩:∃ver,ver=X.m.version:=⟨_,rfl⟩
 obtain ⟨nx0,hnx0⟩:∃nx0,nx0=X.m.next:=⟨_,rfl⟩
 have HBK0:=gI (hbk.past hb0);rw[<-hver,<-hnx0] at HBK0;have HVER:=gI hver;have HNX0:=gI hnx0;clear hw0 hb0 h hm hbk hH hver hnx0
 go_enter Tryz.func63,Tryz.ntmps63
 go_wp2_with fail
 rw[<-HW0.out,<-HHW.out];clear HW0;refine Qh 13 (nxA P w0.heap.size ver nx0) [15,16,17,18,19,20,21,22,23,24,25,26,4] [([0],none),([15],none),([16],none),([17],none),([18],none),([19],none),([0],none),([21],none),([22],none),([23],none),([24],none),([20,25],none),([],none)] 120 (by kernel_rfl) (by kernel_rfl) rfl ?h0 ?hreq rfl ?hend
 case h0=>
  intro t W hnd _;unfold nxA
  split<;>first|rfl|trivial|exact absurd (by simp) hnd
 case hreq=>
  refine ⟨?_,?_,?_,?_,?_,?_,?_,?_,?_,?_,?_,?_,?_,trivial⟩
  all_goals
   intro ac W hg hk;have hg':Below w0.heap.size w0 W:=hg;obtain ⟨q0,q1,q2,q3,q4,q5⟩:=(HBK0.out.past hg').six;simp only[Gw.Knows,nxA] at hk
   try (simp[go_sem,Gw.zw,Gw.Ok,Gw.Post,Gw.Holds,nxA,Gw.zk.refl,hk,q1,q2];done)
  ·simp[go_sem,Gw.zw,Gw.Ok,Gw.Post,Gw.Holds,nxA,hk];exact ⟨(Below.refl _ _).alloc (Nat.le_refl _) _,fun W2 hW2=>⟨hg'.size,(Blk.new W [.int .u64 0,.int .u32 0,.slice none 0 0] _).past hW2⟩⟩
 case hend=>
  intro y w1 hg hy;obtain ⟨G,e4,hG0,hGB⟩:∃b,y 4=.pointer (some ⟨b,0,none⟩)/\w0.heap.size<=b/\Blk w1 b [.int .u64 0,.int .u32 0,.slice none 0 0]:=(hy 4 (by simp)).now;have e26:y 26=.agg #[.int .u64 (IntKind.u64.wrap ((ver:Int)+1)),.int .u32 (nx0:Int),.slice none 0 0]:=(hy 26 (by simp)).now;obtain ⟨ve,hve⟩:∃ve:Nat,ve=(ver+1)%18446744073709551616:=⟨_,rfl⟩
  have ewr:IntKind.u64.wrap ((ver:Int)+1)=(ve:Int):=by
   simp[IntKind.wrap,IntKind.bits,IntKind.signed];omega
  rw[ewr] at e26;have HVE:=gI hve;have hg':Below w0.heap.size w0 w1:=hg;have hs0:=RS0.out.lt;have HB1:=gI (HB0.out.trans (hg'.mono HB0.out.size));have RS1:=gI (RS0.out.past hg');have hG1:=hGB.lt;have HGB:=gI hGB;simp only[Gw.zm,Act.put,List.setIfInBounds_toArray,List.set_cons_zero,List.set_cons_succ];rw[e4,e26];refine zjg 110 _ _ rfl G _ #[.int .u64 (ve:Int),.int .u32 (nx0:Int),.slice none 0 0] rfl rfl HGB.out rfl zP (yt _ _ _ _ _) ?_;intro w2 hb2 ho2;have GB2:=gI (show Blk w2 G [.int .u64 (ve:Int),.int .u32 (nx0:Int),.slice none 0 0] from hb2);have hHG:H<G:=by omega
  have HB2:=gI (HB1.out.trans (ho2.below (B:=w.heap.size) (fun k _ hk=>by have:=HHW.out;omega) HB1.out.size));have RS2:=gI (RS1.out.out ho2 (by omega));have HH2:=gI (HH.out.past HB2.out);have hG2:G<w2.heap.size:=GB2.out.lt;clear hb2 ho2 hy hg hg' hGB HGB e4 e26 ewr hve RS1 HB1 HB0 RS0 hG0 hG1 hs0;refine zeD ?_;simp only[Act.put,List.setIfInBounds_toArray,List.set_cons_zero,List.set_cons_succ]
  go_wp2_with fail
  refine (zaW HH2.out).mono ?_;rintro e w3 ⟨D2,own2,rfl,hk3,hb3⟩;have HK3:=gI hk3;have HB3:=gI (HB2.out.trans (hb3.mono HB2.out.size));have RS3:=gI (RS2.out.past hb3);have GB3:=gI (GB2.out.past hb3);have HH3:=gI (HH2.out.past hb3);have h23:=hb3.size;clear hk3 hb3 RS2 GB2 HH2 HB2
  go_wp2_with fail
  refine (zai HH3.out (by omega)).mono ?_;rintro e w4 ⟨A,n,c,l,rfl,hl,hln,hn2,hrow,hb4⟩;have HK4:=gI (HK3.out.past hb4);have HB4:=gI (HB3.out.trans (hb4.mono HB3.out.size));have RS4:=gI (RS3.out.past hb4);have GB4:=gI (GB3.out.past hb4);have HROW:=gI hrow;have HNL:=gI hl;have HLN:=gI hln;have h34:=hb4.size;have HROWB:=gI (fun k (hk:(Value.slice A n c).ownBlock=some k)=>(hrow.lt k hk).2);have HO2:=gI (fun k (hk:own2 k)=>HK3.out.lt hk);obtain ⟨cn,hcn⟩:∃cn,cn=X.S.stored.length:=⟨_,rfl⟩
  have HCN:=gI hcn;rw[<-hcn] at HK4;clear hl hln hrow hb4 RS3 GB3 HK3 HH3 HB3 hcn
  go_wp2_with fail
  obtain ⟨B2,hB2⟩:∃B2,B2=w2.heap.size:=⟨_,rfl⟩
  obtain ⟨B3,hB3⟩:∃B3,B3=w3.heap.size:=⟨_,rfl⟩
  obtain ⟨B4,hB4⟩:∃B4,B4=w4.heap.size:=⟨_,rfl⟩
  rw[<-hB2] at HK4 HO2 hG2 h23;rw[<-hB3] at HROW HO2 h23 h34;rw[<-hB4] at h34 HROWB;have HB4E:=gI hB4;have HFR:=gI (show St.qH cn (St.vw X.m.files)=St.Yh cn X.m.files from rfl);clear hB2 hB3 hB4
  go_loopw [35] (fun i wr=>∃(j nx:Nat) (FA:Option Addr) (fc:Nat) (acc:List zi) (vs:List Value) (p:Nat->Bool) (fr:List Nat),i=.int .i64 (j:Int)/\j<=n/\nx<4294967296/\j<=fc/\Hid (St.qH cn p=fr)/\Hid (XC X.m.files (YE X l) (St.Yh cn X.m.files) nx0 j acc fr nx)/\Hid (acc.length=j)/\zK acc+fr.length<=65536+2035*j /\
   Hid (Xt.MapAt wr B2 D2 (St.xG cn p) own2)/\Hid (Blk wr H [.int .u64 0,.int .u32 0,.slice none 0 0])/\Hid (Blk wr G [.int .u64 (ve:Int),.int .u32 (nx:Int),.slice FA j fc])/\Hid (wr.ownsRow B4 123 4 (.slice FA j fc) j vs)/\Hid (FKs (nxT own H B4 (.slice FA j fc)) wr vs acc)/\Hid (∀f∈acc,WfF f/\f.name.length<=32) /\
   Hid (wr.ownsRow B3 9 1 (.slice A n c) n (l.map sv))/\Hid (Below w.heap.size w wr)/\B4<=wr.heap.size) (fun i _=>n-(intOf i).toNat)
  case atStart=>
   refine ⟨0,nx0,none,0,[],[],St.vw X.m.files,_,rfl,Nat.zero_le _,?_,Nat.le_refl _,HFR,gI (XC.zero _ _ _ _),gI rfl,?_,HK4,RS4,GB4,gI (World.ownsRow_nil _ _ _ _),gI (FKs.nil _ _),gI (fun f h=>by cases h),HROW,HB4,?_⟩
   ·have:=HH.out.ok.wf.next;have:=HNX0.out;omega
   ·have h1:(St.Yh cn X.m.files).length<=cn:=by
     unfold St.Yh St.qH;exact Nat.le_trans (List.length_filter_le _ _) (by simp)
    have h2:=HH.out.disk.good.2.2.2.1;have h3:=HCN.out;have h4:zK ([]:List zi)=0:=rfl;omega
   ·have:=HB4E.out;omega
  case round=>
   clear HK4 RS4 GB4 HROW HB4;obtain ⟨j,nx,FA,fc,acc,vs,p,fr,rfl,hjn,hnx,hjfc,HFP,HPI,HAL,hcnt,HK,RS,GB,HO,HFK,HWA,HROW,HB,hB4⟩:=hrel
   by_cases hlt:j<n
   ·have hj:j<l.length:=by rw[HLN.out];exact hlt
    obtain ⟨x,hx⟩:∃x,l[j]?=some x:=⟨_,List.getElem?_eq_getElem hj⟩
    obtain ⟨an,rfl,hanb,hcn⟩:=Cs.of_own HROW.out (by simp;omega);have hcx:=hcn j (sv x) (by simp[hx]);have HXM:=gI ((HNL.out.mem x).1 (List.mem_of_getElem? hx));have HLX:=gI (show (YE X l)[j]?=some (x,szC X x) by unfold YE;rw[List.getElem?_map,hx];rfl);have HXN:=gI (show 1<=x.length/\x.length<=32 by
     have h1:=HXM.out;unfold hasN at h1
     cases hC:X.C x with
     |some z=>exact HH.out.ok.keys x (by rw[hC];simp)
     |none=>
      rw[hC] at h1;simp only[decide_eq_true_eq] at h1;obtain ⟨f,hf,e⟩:=List.mem_map.1 h1;have:=HH.out.ok.fit.1.1.1 f hf;rw[e] at this;exact this)
    have HXL:=gI (show x.length<=maxLen by have:=HXN.out;unfold maxLen;omega);have HHR:=gI (HH.out.past HB.out);obtain ⟨DD,hc⟩:=HHR.out.chs;have HC:=gI hc;have HBKR:=gI (HBK.out.past HB.out);have HMR:=gI (HM.out.past HB.out);obtain ⟨p0,p1,p2,p3,p4,p5⟩:=HBKR.out.six;have hlt':(j:Int)<(n:Int):=by omega
    clear hj hx hcn hc
    go_wp2_with (at_lookup;refine qb HC.out rfl _ _ rfl rfl x rfl HXL.out ?_ ?_)
    ·intro hC;have HCX:=gI hC;obtain ⟨f,hfo⟩:∃f,fileOf X.m x=some f:=by
      have h1:=HXM.out;unfold hasN at h1;rw[hC] at h1;simp only[decide_eq_true_eq] at h1;obtain ⟨f,hf,e⟩:=List.mem_map.1 h1
      cases hfo:fileOf X.m x with
      |some f=>exact ⟨f,rfl⟩
      |none=>
       unfold fileOf at hfo;rw[List.find?_eq_none] at hfo;exact absurd (by simpa using e) (hfo f hf)
     have HFO:=gI hfo;obtain ⟨d0,d1,d2,d3,d4,d5⟩:=(HBKR.out.alloc (.cells #[.slice none 0 0,.bool false] 126)).six;obtain ⟨wc,hwc⟩:∃wc,wc=wr.alloc (.cells #[.slice none 0 0,.bool false] 126):=⟨_,rfl⟩
     have hbc:Below wr.heap.size wr wc:=by rw[hwc];exact (Below.refl _ _).alloc (Nat.le_refl _) _
     have HBC:=gI hbc;have HWC:=gI hwc;have hnn:n0<=4294967296:=by have:=Xr HH.out.ok.fit;have:=HMR.out.now.len;omega
     clear hC hfo hwc hbc p0 p1 p2 p3 p4 p5
     go_wp2_with fail
     rw[<-HWC.out];refine (Vo X.m.version X.m.next A0 n0 c0' X.m x wc hnn HH.out.ok.fit.1.1 (HMR.out.past HBC.out).now).mono ?_;rintro e w5 ⟨r,bb,rfl,hs,hb5⟩;obtain ⟨hrf,rfl⟩:X.m.files[r]?=some f/\bb=true:=by
      have h1:=YO hs HH.out.ok.fit.1.1;have h2:X.m.files.find? _=some f:=HFO.out;rw[h2] at h1
      cases bb with
      |true=>exact ⟨h1.symm,rfl⟩
      |false=>cases h1
     have hbr:Below wr.heap.size wr w5:=HBC.out.trans (hb5.mono HBC.out.size);have HBR:=gI hbr;have HB5:=gI (HB.out.trans (hbr.mono HB.out.size));obtain ⟨a,A3,n3,c3,rfl,hab,hna,g0,g1,g2,g3,hfk⟩:=zh1 HM.out hrf;have habk:(a.add (r*4)).block<w.heap.size:=by rw[block_add];exact hab
     replace g0:=(HB5.out.cell habk).trans g0;replace g1:=(HB5.out.cell (p:=⟨(a.add (r*4)).block,(a.add (r*4)).off+1,none⟩) habk).trans g1;replace g2:=(HB5.out.cell (p:=⟨(a.add (r*4)).block,(a.add (r*4)).off+2,none⟩) habk).trans g2;replace g3:=(HB5.out.cell (p:=⟨(a.add (r*4)).block,(a.add (r*4)).off+3,none⟩) habk).trans g3;have HFV:=gI hfk;have hbd:Below w5.heap.size w5 w5.drew:=(Below.refl _ _).drew;obtain ⟨q0,q1,q2,q3,q4,q5⟩:=((HBKR.out.past hbr).past hbd).six;have HRW:=gI (own_below' (own_below' HO.out hbr) hbd);have HGW:=gI ((GB.out.past hbr).past hbd);obtain ⟨m0,m1,m2⟩:w5.drew.cell? ⟨G,0,none⟩=_/\w5.drew.cell? ⟨G,1,none⟩=_/\w5.drew.cell? ⟨G,2,none⟩=_:=⟨HGW.out.cell rfl,HGW.out.cell rfl,HGW.out.cell rfl⟩
     obtain ⟨nm,hnm⟩:∃nm,nm=f.name:=⟨_,rfl⟩
     obtain ⟨id,hid⟩:∃id:Nat,id=f.id:=⟨_,rfl⟩
     obtain ⟨sz,hsz⟩:∃sz,sz=f.size:=⟨_,rfl⟩
     rw[<-hnm] at g0;rw[<-hid] at g1;rw[<-hsz] at g2;replace g0:w5.drew.cell? (a.add (r*4))=_:=g0;replace g1:w5.drew.cell? ⟨(a.add (r*4)).block,(a.add (r*4)).off+1,none⟩=_:=g1;replace g2:w5.drew.cell? ⟨(a.add (r*4)).block,(a.add (r*4)).off+2,none⟩=_:=g2;replace g3:w5.drew.cell? ⟨(a.add (r*4)).block,(a.add (r*4)).off+3,none⟩=_:=g3;have hj6:j<=1000000:=by omega
     have h54:B4<=w5.heap.size:=Nat.le_trans hB4 hbr.size;have hG4:G<B4:=by omega
     obtain ⟨FA',fc',wB,hrun,hst,hrow',hG',ho',hnew',hfc',-⟩:=zcA HRW.out HGW.out hG4 h54 hj6 nm id sz A3 n3 c3;obtain ⟨wA,hwA⟩:∃wA,wA=w5.drew.alloc (fbox nm id sz A3 n3 c3):=⟨_,rfl⟩
     have hbs:=VY w5.drew nm id sz A3 n3 c3;have hGA:Blk wA G [.int .u64 (ve:Int),.int .u32 (nx:Int),.slice FA j fc]:=by rw[hwA];exact HGW.out.alloc _
     have m2A:wA.cell? ⟨G,2,none⟩=_:=hGA.cell rfl;obtain ⟨wC,hwC⟩:∃wC,wC=wB.setCell ⟨G,2,none⟩ (.slice FA' (j+1) fc'):=⟨_,rfl⟩
     rw[<-hwC] at hst hrow' hG' ho';rw[<-hwA] at hrun hbs;have hsd:w5.drew.heap.size=w5.heap.size:=rfl;rw[hsd] at hbs hrun hnew';replace ho':=(xu (fun k=>k=G\/(Value.slice FA j fc).ownBlock=some k) w5).trans ho';have HRUN:=gI hrun;have HST:=gI hst;have HBS:=gI hbs;have HRW':=gI hrow';have HGW':=gI hG';have HOW':=gI ho';have HNEW:=gI hnew';have HRF:=gI hrf;have HNM:=gI hnm;have HEQ:=gI (And.intro hid hsz);have hrn:(r:Int)<(n0:Int):=by have:=(List.getElem?_eq_some_iff.1 hrf).1;have:=HMR.out.now.len;omega
     clear hs hb5 hbr hfk hbd hwA hwC hrun hst hbs hrow' hG' ho' hnew' hrf hnm hid hsz hGA hsd d0 d1 d2 d3 d4 d5
     go_wp2_with fail
     refine Gw.zN (fun _ _=>True) (fun _=>trivial) (fun _ _ _ _ _=>trivial) (Gw.Ph [w5.drew,wA,wB,wC]) (nxB P G j fc r n0 c0' w5.heap.size id n3 c3 fc' FA FA' A3 a nm sz) [10,11,13] [59,60,61,62,63,64,65,66,67,68,69,70,71] [([4],none,[0,1],false),([59],none,[0,1],false),([0],none,[0],false),([61],none,[0],false),([62],none,[0],false),([63],none,[0],false),([64],none,[0],false),([11],none,[0],false),([65,66],none,[0],false),([67],none,[0],false),([68],none,[0],true),([60,69],none,[1],true),([4],none,[2],false),([71,70],none,[2],true)] 120 3 (by kernel_rfl) (by kernel_rfl) rfl trivial rfl ?h0 ?hreq ?hend
     case h0=>
      intro t W hnd _;unfold nxB
      split<;>first|rfl|trivial|exact absurd (by simp) hnd
     case hreq=>
      refine ⟨⟨?_,?_,trivial⟩,⟨?_,?_,trivial⟩,⟨?_,trivial⟩,⟨?_,trivial⟩,⟨?_,trivial⟩,⟨?_,trivial⟩,⟨?_,trivial⟩,⟨?_,trivial⟩,⟨?_,trivial⟩,⟨?_,trivial⟩,⟨?_,trivial⟩,⟨?_,trivial⟩,⟨?_,trivial⟩,⟨?_,trivial⟩,trivial⟩
      all_goals
       intro ac W _ hI hk
       obtain rfl:=Option.some.inj hI
       clear hI;simp only[Gw.Knows,nxB] at hk
       try (simp[go_sem,Gw.yo,Gw.OkP,Gw.xH,Gw.zW,Gw.Ph,nxB,hk,q3,m2,m2A,g0,g1,g2,g3,hrn];done)
      ·exact Gw.Xk rfl (by simp[Gw.zD,hk]) HBS.out ⟨trivial,rfl,fun _ _=>rfl⟩
      ·exact Gw.zcN rfl ((Gw.zD ac 60).trans hk.1) ((Gw.zD ac 69).trans hk.2.1) HRUN.out ⟨trivial,rfl,fun _ _=>rfl⟩
      ·exact Gw.zbm rfl ((Gw.zD ac 71).trans hk.1) ((Gw.zD ac 70).trans hk.2.1) HST.out ⟨trivial,rfl,trivial⟩
     case hend=>
      intro y' w9 _ hI hx'
      obtain rfl:=Option.some.inj hI
      clear hx' hI q0 q1 q2 q3 q4 q5 m0 m1 m2 m2A g0 g1 g2 g3;simp only[Gw.zm,Act.put,List.setIfInBounds_toArray,List.set_cons_zero,List.set_cons_succ];have hHG2:H<B4:=by omega
      have HOT:=gI (show Out (nxT own H B4 (.slice FA j fc)) wr wC from (Out.of_below HBR.out).trans' HOW'.out (fun k hk=>by
       rcases hk with rfl|hk
       ·exact .inl (.inr (.inl ⟨by omega,hG4⟩))
       ·exact .inl (.inr (.inr hk))))
      have hTs:∀k,nxT own H B4 (.slice FA' (j+1) fc') k->nxT own H B4 (.slice FA j fc) k\/wr.heap.size<=k:=fun k hk=>by
       rcases hk with h|h|h
       ·exact .inl (.inl h)
       ·exact .inl (.inr (.inl h))
       ·rcases HNEW.out k h with h|h
        ·exact .inl (.inr (.inr h))
        ·exact .inr (Nat.le_trans HBR.out.size h)
      have HOWN:=gI (fun k (hk:nxT own H B4 (.slice FA j fc) k)=>show own k\/w.heap.size<=k by
       rcases hk with h|h|h
       ·exact .inl h
       ·right;have:=HHW.out;omega
       ·right;have:=(HO.out.lt k h).1;have:=HHW.out;omega)
      have HBR9:=gI (show Below w.heap.size w wC from HB.out.trans ((HBR.out.mono HB.out.size).trans (HOW'.out.below (B:=w.heap.size) (fun k _ hk=>by
       rcases hk with rfl|hk
       ·have:=HHW.out;omega
       ·have:=(HO.out.lt k hk).1;have:=HHW.out;omega) HB5.out.size)))
      have hT9:∀k,nxT own H B4 (.slice FA' (j+1) fc') k->own k\/w.heap.size<=k:=fun k hk=>by
       rcases hTs k hk with h|h
       ·exact HOWN.out k h
       ·exact .inr (Nat.le_trans HB.out.size h)
      have HFK9:=gI ((HFK.out.next HOT.out hTs).snoc (f:=f) (HFV.out.next (Out.of_below HBR9.out) hT9));have hs9:w5.heap.size<=wC.heap.size:=HOW'.out.size;have hO9:Out (fun k=>k=G\/B4<=k) wr wC:=(Out.of_below HBR.out).trans' HOW'.out (fun k hk=>by
       rcases hk with rfl|hk
       ·exact .inl (.inl rfl)
       ·exact .inl (.inr (HO.out.lt k hk).1))
      have HK9:=gI (HK.out.out hO9 (fun k hk e=>by
       have:=HO2.out k hk;rcases e with rfl|e<;>omega))
      have RS9:=gI (RS.out.out hO9 (by omega));have HROW9:=gI (zn HROW.out hO9 (fun k hk e=>by
       have h1:=(HROW.out.lt k hk).1;have h2:=HROWB.out k hk;rcases e with rfl|e<;>omega))
      have HPI9:=gI (HPI.out.old (by rw[HLX.out];unfold szC;rw[HCX.out]) (zef HH.out.ok.fit.1.1 HFO.out));have HWA9:=gI (show ∀g∈acc++[f],WfF g/\g.name.length<=32 from fun g hg=>by
       rcases List.mem_append.1 hg with h|h
       ·exact HWA.out g h
       ·simp at h;subst h;exact ⟨HH.out.ok.wf.files g (List.mem_of_getElem? HRF.out),(HH.out.ok.fit.1.1.1 g (List.mem_of_getElem? HRF.out)).2⟩)
      have HAL9:=gI (show (acc++[f]).length=j+1 by rw[List.length_append,HAL.out];rfl);have hcnt9:zK (acc++[f])+fr.length<=65536+2035*(j+1):=by
       rw[Qy];have:=Qc HH.out.ok.fit (List.mem_of_getElem? HRF.out);omega
      have h94:B4<=wC.heap.size:=by omega
      have hF:=HFK9.out;rw[<-HNM.out,<-HEQ.out.1,<-HEQ.out.2] at hF;have HF9:=gI hF;clear hTs hT9 hF HFK9 HFK HOT HOWN HOW' HNEW hO9
      go_wp2
      go_roundw
      case rel=>exact ⟨j+1,nx,FA',fc',acc++[f],_,p,fr,by go_num,by omega,hnx,hfc',HFP,HPI9,HAL9,hcnt9,HK9,RS9,HGW',HRW',HF9,HWA9,HROW9,HBR9,h94⟩
      case measure=>simp[intOf];omega
    ·intro z A' k' c' hC h1 h2 h3 h4;obtain ⟨b,rfl⟩:∃b,z=some b:=by
      have h1:=HXM.out;unfold hasN at h1;rw[hC] at h1
      cases z with
      |none=>cases h1
      |some b=>exact ⟨b,rfl⟩
     have hkb:b.length=k':=h1;have HSZ:=gI (show szC X x=some k' by unfold szC;rw[hC];simp only[hkb]);have hk20:k'<=1048576:=by rw[<-hkb];exact HH.out.ok.len x b hC
     obtain ⟨wc,hwc⟩:∃wc,wc=wr.alloc (.cells #[.slice A' k' c',.bool false] 126):=⟨_,rfl⟩
     have hbc:Below wr.heap.size wr wc:=by rw[hwc];exact (Below.refl _ _).alloc (Nat.le_refl _) _
     have HBC:=gI hbc;have HWC:=gI hwc;have hsc:wc.heap.size=wr.heap.size+1:=by rw[hwc];simp
     have CB:=gI (show Blk wc wr.heap.size [.slice A' k' c',.bool false] by rw[hwc];exact Blk.new wr [.slice A' k' c',.bool false] _);obtain ⟨pg,hpg⟩:∃pg,pg=St.pages k':=⟨_,rfl⟩
     have HPGE:=gI hpg;have HMY:=gI (zbq (k':Int) wc (by omega));rw[St.zf5,<-hpg] at HMY;have HTK:=gI (Xt.zeF (HK.out.past hbc) (pg:Int));clear hC h1 h4 hwc hbc hkb hpg p0 p1 p2 p3 p4 p5
     go_wp2_with fail
     rw[<-HWC.out];refine HMY.out.mono ?_;rintro e w5 ⟨rfl,rfl⟩
     go_wp2_with fail
     by_cases hfull:pg<=fr.length
     ·rw[St.zb1 (by rw[HFP.out];exact hfull),HFP.out] at HTK;refine HTK.out.mono ?_;rintro e w5 ⟨A3,n3,c3,rfl,hl3,hn3,-,hrow3,-,hk5,ho5⟩;have HOU5:=gI (show Out own2 wr w5 from (Out.of_below HBC.out).trans ho5);have HK5:=gI (show Xt.MapAt w5 B2 D2 (St.xG cn (St.with_ p (St.ints (fr.take pg)))) own2 from hk5);have HROW3:=gI hrow3;have HL3:=gI (show (St.ints (fr.take pg)).length=n3 from hl3);have hcbn:¬own2 wr.heap.size:=fun e=>by have:=HO2.out _ e;omega
      have CB5:=gI (CB.out.out ho5 hcbn);have hs5:wr.heap.size+1<=w5.heap.size:=by rw[<-hsc];exact ho5.size
      have hnH:¬own2 H:=fun e=>by have:=HO2.out _ e;omega
      have hnG:¬own2 G:=fun e=>by have:=HO2.out _ e;omega
      have hnF:∀k,(Value.slice FA j fc).ownBlock=some k->¬own2 k:=fun k hk e=>by have:=(HO.out.lt k hk).1;have:=HO2.out _ e;omega
      have RS5:=gI (RS.out.out HOU5.out hnH);have GB5:=gI (GB.out.out HOU5.out hnG);have HRO5:=gI (zn HO.out HOU5.out hnF);have HB5:=gI (show Below w.heap.size w w5 from HB.out.trans (HOU5.out.below (B:=w.heap.size) (fun k _ hk=>by have:=HO2.out _ hk;have:=HHW.out;omega) HB.out.size));have HROW5:=gI (zn HROW.out HOU5.out (fun k hk e=>by have:=(HROW.out.lt k hk).1;have:=HO2.out _ e;omega));obtain ⟨m0,m1,m2⟩:w5.cell? ⟨G,0,none⟩=_/\w5.cell? ⟨G,1,none⟩=_/\w5.cell? ⟨G,2,none⟩=_:=⟨GB5.out.cell rfl,GB5.out.cell rfl,GB5.out.cell rfl⟩
      clear hl3 hrow3 hk5 ho5 HTK
      by_cases hmax:nx=4294967295
      ·subst hmax;have HNO:=gI (HPI.out.full (s:=k') (by rw[HLX.out,HSZ.out]) (fun e=>e.2 rfl))
       go_wp2_with (first
        |(refine ze rfl 110 _ _ rfl H _ #[.int .u64 0,.int .u32 0,.slice none 0 0] rfl rfl RS5.out rfl zP (yt _ _ _ _ _) ?_
          intro w7 hb7 ho7;have HB7:=gI (show Blk w7 H [.int .u64 0,.int .u32 0,.slice none 0 0] from hb7);have HO7:=gI ho7;clear hb7 ho7)
        |fail)
       have r0:=HB7.out.cell (i:=0) rfl;have r1:=HB7.out.cell (i:=1) rfl;have r2:=HB7.out.cell (i:=2) rfl;refine bodyPost_ret (v:=.tuple #[mval 0 0 none 0 0,.int .i64 7]) (by simp[results,Tryz.results63,go_sem,r0,r1,r2,mval]) rfl ?_;exact ⟨HB5.out.trans (HO7.out.below (B:=w.heap.size) (fun k _ hk=>by have:=HHW.out;omega) HB5.out.size),l,HNL.out,by have:=HLN.out;omega,.inr ⟨zcO (by rw[<-HCN.out,<-HNX0.out];exact HNO.out),rfl⟩⟩
      ·have HPI9:=gI (HPI.out.new (s:=k') (by rw[HLX.out,HSZ.out]) (by rw[<-HPGE.out];exact hfull) hmax);rw[<-HPGE.out] at HPI9;have hnx1:nx+1<4294967296:=by omega
       have d1:((nx:Int)==4294967295)=false:=by simp;omega
       have eu:IntKind.u32.wrap ((nx:Int)+1)=(nx:Int)+1:=by rw[IntKind.wrap_u32];omega
       have cb0:w5.cell? ⟨wr.heap.size,0,none⟩=some (.slice A' k' c'):=CB5.out.cell rfl;have hj6:j<=1000000:=by omega
       have h54:B4<=w5.heap.size:=by omega
       have hG4:G<B4:=by omega
       obtain ⟨FA',fc',wB,hrun,hst,hrow',hG',ho',hnew',hfc',hGB⟩:=zcA HRO5.out GB5.out hG4 h54 hj6 x nx (k':Int) A3 n3 c3;obtain ⟨wA,hwA⟩:∃wA,wA=w5.alloc (fbox x nx (k':Int) A3 n3 c3):=⟨_,rfl⟩
       have hgr:=hrun;obtain ⟨wC,hwC⟩:∃wC,wC=wB.setCell ⟨G,2,none⟩ (.slice FA' (j+1) fc'):=⟨_,rfl⟩
       rw[<-hwC] at hst hrow' hG' ho';have HRUN:=gI hrun;have HRW':=gI hrow';have HGW':=gI hG';have HOW':=gI ho';have HNEW:=gI hnew';have HWC2:=gI hwC;obtain ⟨b0,b1,b2⟩:wB.cell? ⟨G,0,none⟩=_/\wB.cell? ⟨G,1,none⟩=_/\wB.cell? ⟨G,2,none⟩=_:=⟨hGB.cell rfl,hGB.cell rfl,hGB.cell rfl⟩
       have f1:=hGB.frozen 1;have f2:=hGB.frozen 2;clear hwA hwC hrun hst hrow' hG' ho' hnew' hgr hGB;obtain ⟨wD,hwD⟩:∃wD,wD=wC.setCell ⟨G,1,none⟩ (.int .u32 ((nx+1:Nat):Int)):=⟨_,rfl⟩
       have HGD:=gI (show Blk wD G [.int .u64 (ve:Int),.int .u32 ((nx+1:Nat):Int),.slice FA' (j+1) fc'] by rw[hwD];exact HGW'.out.set 1 _);have hoD:Out (fun k=>k=G) wC wD:=by rw[hwD];exact (Out.refl (fun k=>k=G) wC).setCell (p:=⟨G,1,none⟩) (.inl rfl) _
       have HRD:=gI (zn HRW'.out hoD (fun k hk e=>by have:=(HRW'.out.lt k hk).1;omega));have HO9:=gI (show Out (fun k=>k=G\/(Value.slice FA j fc).ownBlock=some k) w5 wD from HOW'.out.trans (hoD.more fun k _ hk=>.inl hk));have HTT:=gI (show Out (nxT own H B4 (.slice FA j fc)) w5 wD from HO9.out.more (fun k _ hk=>by
        rcases hk with rfl|hk
        ·exact .inr (.inl ⟨by omega,hG4⟩)
        ·exact .inr (.inr hk)))
       have hT5:∀k,nxT own H B4 (.slice FA' (j+1) fc') k->nxT own H B4 (.slice FA j fc) k\/w5.heap.size<=k:=fun k hk=>by
        rcases hk with h|h|h
        ·exact .inl (.inl h)
        ·exact .inl (.inr (.inl h))
        ·rcases HNEW.out k h with h|h
         ·exact .inl (.inr (.inr h))
         ·exact .inr h
       have hLT:∀k,nxT own H B4 (.slice FA j fc) k->k<wr.heap.size:=fun k hk=>by
        rcases hk with h|h|h
        ·have:=(HH.out.lt h).2;have:=HB.out.size;omega
        ·omega
        ·exact (HO.out.lt k h).2
       have HF5:=gI (HFK.out.next (T':=nxT own H B4 (.slice FA j fc)) (HOU5.out.more (S':=nxT own H B4 (.slice FA j fc)) (fun k _ hk=>by have:=HO2.out k hk;exact .inr (.inl ⟨by omega,by omega⟩))) (fun k hk=>.inl hk));have HFV:=gI (show FKv (nxT own H B4 (.slice FA j fc)) w5 ⟨x,nx,(k':Int),St.ints (fr.take pg)⟩ A3 n3 c3 from ⟨HL3.out,hn3,by have:=HL3.out;rw[St.YW,List.length_take] at this;omega,fun W hW=>Cs.of_own (zn HROW3.out hW (fun k hk e=>by have:=(HROW3.out.lt k hk).1;have:=hLT k e;omega))⟩);have HF9:=gI ((HF5.out.next HTT.out hT5).snoc (HFV.out.next HTT.out hT5));have hO9:Out (fun k=>k=G\/B4<=k) w5 wD:=HO9.out.more (fun k _ hk=>by
        rcases hk with rfl|hk
        ·exact .inl rfl
        ·exact .inr (HO.out.lt k hk).1)
       have HK9:=gI (HK5.out.out hO9 (fun k hk e=>by
        have:=HO2.out k hk;rcases e with rfl|e<;>omega))
       have RS9:=gI (RS5.out.out hO9 (by omega));have HROW9:=gI (zn HROW5.out hO9 (fun k hk e=>by
        have h1:=(HROW.out.lt k hk).1;have h2:=HROWB.out k hk;rcases e with rfl|e<;>omega))
       have HB9:=gI (show Below w.heap.size w wD from HB5.out.trans (hO9.below (B:=w.heap.size) (fun k _ hk=>by
        have:=HHW.out;rcases hk with rfl|hk<;>omega) HB5.out.size))
       have HFP9:=gI (show St.qH cn (St.with_ p (St.ints (fr.take pg)))=fr.drop pg by have:=St.zgt (c:=cn) (p:=p) pg;rwa[HFP.out] at this);have HWA9:=gI (show ∀g∈acc++[(⟨x,nx,(k':Int),St.ints (fr.take pg)⟩:zi)],WfF g/\g.name.length<=32 from fun g hg=>by
        rcases List.mem_append.1 hg with h|h
        ·exact HWA.out g h
        ·simp only[List.mem_singleton] at h;subst h;refine ⟨⟨hnx,by show -9223372036854775808<=(k':Int);omega,by show (k':Int)<=_;omega,fun q hq=>?_⟩,HXN.out.2⟩;obtain ⟨i,hi,rfl⟩:=List.mem_map.1 hq;have hi2:i∈St.qH cn p:=by rw[HFP.out];exact List.mem_of_mem_take hi
         have:=(St.Xo.1 hi2).1;have h2:=HH.out.disk.good.2.2.2.1;have h3:=HCN.out
         omega)
       have HAL9:=gI (show (acc++[(⟨x,nx,(k':Int),St.ints (fr.take pg)⟩:zi)]).length=j+1 by rw[List.length_append,HAL.out];rfl);have hcnt9:zK (acc++[(⟨x,nx,(k':Int),St.ints (fr.take pg)⟩:zi)])+(fr.drop pg).length<=65536+2035*(j+1):=by
        rw[Qy,List.length_drop];have:(St.ints (fr.take pg)).length=pg:=by rw[St.YW,List.length_take];omega
        show zK acc+(St.ints (fr.take pg)).length+_<=_
        omega
       have h94:B4<=wD.heap.size:=Nat.le_trans h54 hO9.size;have HWD:=gI (show wD=(wB.setCell ⟨G,2,none⟩ (.slice FA' (j+1) fc')).setCell ⟨G,1,none⟩ (.int .u32 ((nx:Int)+1)) by rw[hwD,HWC2.out];rfl);clear hwD hoD hT5 hLT hO9 HFV HF5 HTT HO9 HNEW HOW' HFK
       go_wp2_with (at_builtin
                    refine wpList_append_run rfl (.tmp 90) (.tmp 99) _ rfl _ _ _ rfl rfl HRUN.out ?_)
       rw[<-HWD.out]
       go_roundw
       case rel=>exact ⟨j+1,nx+1,FA',fc',_,_,_,fr.drop pg,by go_num,by omega,hnx1,hfc',HFP9,HPI9,HAL9,hcnt9,HK9,RS9,HGD,HRD,HF9,HWA9,HROW9,HB9,h94⟩
       case measure=>simp[intOf];omega
     ·rw[St.zg9 (by rw[HFP.out];omega)] at HTK;refine HTK.out.mono ?_;rintro e w5 ⟨A3,n3,c3,rfl,-,-,-,-,-,hk5,ho5⟩;have HOU5:=gI (show Out own2 wr w5 from (Out.of_below HBC.out).trans ho5);have hnH:¬own2 H:=fun e=>by have:=HO2.out _ e;omega
      have RS5:=gI (RS.out.out HOU5.out hnH);have HB5:=gI (show Below w.heap.size w w5 from HB.out.trans (HOU5.out.below (B:=w.heap.size) (fun k _ hk=>by have:=HO2.out _ hk;have:=HHW.out;omega) HB.out.size));have HNO:=gI (HPI.out.full (s:=k') (by rw[HLX.out,HSZ.out]) (fun e=>hfull (by rw[HPGE.out];exact e.1)));clear hk5 ho5 HTK
      go_wp2_with (first
       |(refine ze rfl 110 _ _ rfl H _ #[.int .u64 0,.int .u32 0,.slice none 0 0] rfl rfl RS5.out rfl zP (yt _ _ _ _ _) ?_
         intro w7 hb7 ho7;have HB7:=gI (show Blk w7 H [.int .u64 0,.int .u32 0,.slice none 0 0] from hb7);have HO7:=gI ho7;clear hb7 ho7)
       |fail)
      have r0:=HB7.out.cell (i:=0) rfl;have r1:=HB7.out.cell (i:=1) rfl;have r2:=HB7.out.cell (i:=2) rfl;refine bodyPost_ret (v:=.tuple #[mval 0 0 none 0 0,.int .i64 7]) (by simp[results,Tryz.results63,go_sem,r0,r1,r2,mval]) rfl ?_;exact ⟨HB5.out.trans (HO7.out.below (B:=w.heap.size) (fun k _ hk=>by have:=HHW.out;omega) HB5.out.size),l,HNL.out,by have:=HLN.out;omega,.inr ⟨zcO (by rw[<-HCN.out,<-HNX0.out];exact HNO.out),rfl⟩⟩
   ·have hjn':j=n:=by omega
    subst hjn';have HPL:=gI (HPI.out.done (by unfold YE;rw[List.length_map,HLN.out];exact Nat.le_refl _));have HPD:=gI (show ∀m,St.QE X.m X.S.stored.length (YE X l)=some m->m=⟨ver+1,nx,acc⟩ from fun m hm=>by
     unfold St.QE at hm;rw[<-HCN.out,<-HNX0.out,HPL.out] at hm;injection hm with hm;rw[<-hm,HVER.out])
    have HPE:=gI (show St.QE X.m X.S.stored.length (YE X l)=some ⟨ver+1,nx,acc⟩ by
     unfold St.QE;rw[<-HCN.out,<-HNX0.out,HPL.out,HVER.out];rfl)
    obtain ⟨q0,q1,q2,q3,q4,q5⟩:=(HBK.out.past HB.out).six;rw[<-HVER.out] at q1;have hv64:ver<18446744073709551616:=by rw[HVER.out];exact HH.out.ok.wf.version
    by_cases hmx:ver=18446744073709551615
    ·have HNO:=gI (show ∀m,¬xC X l m from fun m hm=>by have:=hm.2.1;rw[<-HVER.out] at this;omega);subst hmx
     go_wp2_with (first
      |(refine ze rfl 110 _ _ rfl H _ #[.int .u64 0,.int .u32 0,.slice none 0 0] rfl rfl RS.out rfl zP (yt _ _ _ _ _) ?_
        intro w7 hb7 ho7;have HB7:=gI (show Blk w7 H [.int .u64 0,.int .u32 0,.slice none 0 0] from hb7);have HO7:=gI ho7;clear hb7 ho7)
      |fail)
     have r0:=HB7.out.cell (i:=0) rfl;have r1:=HB7.out.cell (i:=1) rfl;have r2:=HB7.out.cell (i:=2) rfl;refine bodyPost_ret (v:=.tuple #[mval 0 0 none 0 0,.int .i64 7]) (by simp[results,Tryz.results63,go_sem,r0,r1,r2,mval]) rfl ?_;exact ⟨HB.out.trans (HO7.out.below (B:=w.heap.size) (fun k _ hk=>by have:=HHW.out;omega) HB.out.size),l,HNL.out,by have:=HLN.out;omega,.inr ⟨HNO.out,rfl⟩⟩
    ·have d1:((ver:Int)==18446744073709551615)=false:=by simp;omega
     have hve:ve=ver+1:=by rw[HVE.out];omega
     subst hve;have hHG3:H<B4:=by omega
     have HMAN:=gI (show ManK (fun k=>own k\/k=H) FA j fc ⟨ver+1,nx,acc⟩ wr from
      FKs.man (m:=⟨ver+1,nx,acc⟩) (HFK.out.next (T':=fun k=>own k\/k=H) (Out.refl _ _) (fun k hk=>hk.elim (fun h=>.inl (.inl h)) (fun h=>.inl (.inr (.inl ⟨by omega,by omega⟩))))) HO.out (fun k hk ho=>by
       have:=(HO.out.lt k hk).1;rcases ho with ho|ho
       ·have:=(HH.out.lt ho).2;have:=HHW.out;omega
       ·omega) HAL.out hjfc (by omega) ⟨by show ver+1<_;omega,hnx,fun f hf=>(HWA.out f hf).1⟩)
     have HMY:=gI (zfg FA j fc ⟨ver+1,nx,acc⟩ wr (zdN HMAN.out.now.wf (fun f hf=>(HWA.out f hf).2) (by show acc.length<=_;rw[HAL.out];omega) (by show zK acc<=_;omega)) HMAN.out.now);obtain ⟨m0,m1,m2⟩:wr.cell? ⟨G,0,none⟩=_/\wr.cell? ⟨G,1,none⟩=_/\wr.cell? ⟨G,2,none⟩=_:=⟨GB.out.cell rfl,GB.out.cell rfl,GB.out.cell rfl⟩
     go_wp2_with fail
     refine HMY.out.mono ?_;rintro e w5 ⟨bb,rfl,hbb,hb5⟩;have HBB:=gI hbb;have HB5:=gI (HB.out.trans (hb5.mono HB.out.size));have RS5:=gI (RS.out.past hb5);have GB5:=gI (GB.out.past hb5);have HMAN5:=gI (HMAN.out.past hb5);obtain ⟨m0,m1,m2⟩:w5.cell? ⟨G,0,none⟩=_/\w5.cell? ⟨G,1,none⟩=_/\w5.cell? ⟨G,2,none⟩=_:=⟨GB5.out.cell rfl,GB5.out.cell rfl,GB5.out.cell rfl⟩
     have hs5:=hb5.size;clear hbb hb5 q0 q1 q2 q3 q4 q5
     cases bb with
     |false=>
      have HNO:=gI (show ∀m,¬xC X l m from fun m hm=>by
       have h1:=HPD.out m hm.1;have h2:=hm.2.2;rw[h1] at h2;exact absurd (HBB.out.2 h2) (by decide))
      clear HBB
      go_wp2_with (first
       |(refine ze rfl 110 _ _ rfl H _ #[.int .u64 0,.int .u32 0,.slice none 0 0] rfl rfl RS5.out rfl zP (yt _ _ _ _ _) ?_
         intro w7 hb7 ho7;have HB7:=gI (show Blk w7 H [.int .u64 0,.int .u32 0,.slice none 0 0] from hb7);have HO7:=gI ho7;clear hb7 ho7)
       |fail)
      have r0:=HB7.out.cell (i:=0) rfl;have r1:=HB7.out.cell (i:=1) rfl;have r2:=HB7.out.cell (i:=2) rfl;refine bodyPost_ret (v:=.tuple #[mval 0 0 none 0 0,.int .i64 7]) (by simp[results,Tryz.results63,go_sem,r0,r1,r2,mval]) rfl ?_;exact ⟨HB5.out.trans (HO7.out.below (B:=w.heap.size) (fun k _ hk=>by have:=HHW.out;omega) HB5.out.size),l,HNL.out,by have:=HLN.out;omega,.inr ⟨HNO.out,rfl⟩⟩
     |true=>
      have HYES:=gI (show xC X l ⟨ver+1,nx,acc⟩ from ⟨HPE.out,by rw[<-HVER.out];omega,HBB.out.1 rfl⟩);clear HBB
      go_wp2_with (first
       |(refine ze rfl 110 _ _ rfl H _ #[.int .u64 (((ver+1:Nat)):Int),.int .u32 (nx:Int),.slice FA j fc] rfl rfl RS5.out rfl zP (yt _ _ _ _ _) ?_
         intro w7 hb7 ho7;have HB7:=gI (show Blk w7 H [.int .u64 (((ver+1:Nat)):Int),.int .u32 (nx:Int),.slice FA j fc] from hb7);have HO7:=gI ho7;clear hb7 ho7)
       |fail)
      have r0:=HB7.out.cell (i:=0) rfl;have r1:=HB7.out.cell (i:=1) rfl;have r2:=HB7.out.cell (i:=2) rfl;refine bodyPost_ret (v:=.tuple #[mval (ver+1) nx FA j fc,.int .i64 0]) (by simp[results,Tryz.results63,go_sem,r0,r1,r2,mval]) rfl ?_;refine ⟨HB5.out.trans (HO7.out.below (B:=w.heap.size) (fun k _ hk=>by have:=HHW.out;omega) HB5.out.size),l,HNL.out,by have:=HLN.out;omega,.inl ⟨_,FA,j,fc,HYES.out,rfl,?_⟩⟩;exact (HMAN5.out.out (HO7.out.more (S':=fun k=>own k\/k=H) (fun k _ hk=>.inr hk))).less (fun k _ hk=>.inl hk)
end
end
end Go.Proofs.YtcdkopbjlakebaaGreatDoor
