/- Texts put together, for a law: PlA0, PlM, PlAl, Stands. -/
import Derived.Deep.Grids
import Derived.Test.YtiocpefgccndbaaGreatKG30
import Derived.Test.YtiocpefgccndbaaGreatKG2
section
namespace Go.Proofs.YtiocpefgccndbaaGreat
open Go.RowKit Me Mf Rw Ds Va Go.Maps
structure AS where
 kind:Int
 name:List UInt8
 b:List UInt8
def SActAt (w:World) (B:Nat) (x:Addr) (p:AS):Prop:=∃A n c,w.cell? x=some (.int .i64 p.kind)∧w.cell? ⟨x.block,x.off+1,none⟩=some (sv p.name)∧w.cell? ⟨x.block,x.off+2,none⟩=some (.slice A n c) ∧
 p.b.length=n∧p.name.length≤maxLen∧n≤9223372036854775807∧Rd w B A p.b
def SActs (w:World) (B:Nat) (L:Option Addr) (acts:List AS):Prop:=0<acts.length→∃a,L=some a∧a.block<B∧∀i p,acts[i]?=some p→SActAt w B (a.add (i*3)) p
theorem SActAt.below {w w':World} {B:Nat} {x:Addr} {p:AS} (h:SActAt w B x p) (hx:x.block<B) (hb:Below B w w'):SActAt w' B x p:=by
 obtain ⟨A,n,c,h1,h2,h3,h4,h5,h6,h7⟩:=h
 exact ⟨A,n,c,(hb.cell hx).trans h1,(hb.cell (p:=⟨x.block,x.off+1,none⟩) hx).trans h2,(hb.cell (p:=⟨x.block,x.off+2,none⟩) hx).trans h3,h4,h5,h6,h7.below hb⟩
theorem SActs.below {w w':World} {B:Nat} {L:Option Addr} {acts:List AS} (h:SActs w B L acts) (hb:Below B w w'):SActs w' B L acts:=fun hn=>by
 obtain ⟨a,rfl,h1,hc⟩:=h hn
 exact ⟨a,rfl,h1,fun i p hp=>(hc i p hp).below (by rw[block_add];exact h1) hb⟩
theorem SActs.at {w:World} {B:Nat} {L:Option Addr} {acts:List AS} (h:SActs w B L acts) {i:Nat} (hi:i<acts.length):∃a p,L=some a∧a.block<B∧acts[i]?=some p∧SActAt w B (a.add (i*3)) p:=by
 obtain ⟨a,e,h1,hc⟩:=h (by omega)
 exact ⟨a,acts[i],e,h1,List.getElem?_eq_getElem hi,hc i _ (List.getElem?_eq_getElem hi)⟩
open Go.ChangeShapes Go.WideShapes
theorem sact_hone:∃f0 f1 f2:Field,Tryz.prog.underlying 31=some (.struct #[f0,f1,f2])∧Go.Deep.oneCellFields Tryz.prog #[f0,f1,f2]=true∧f0.type=3∧f1.type=9∧f2.type=29:=
 ⟨_,_,_,Tryz.underlying31,by kernel_rfl,rfl,rfl,rfl⟩
theorem sact_cells:Tryz.prog.cellsOf 31=3:=by kernel_rfl
set_option maxRecDepth 100000 in
theorem open_sacts {H:Type} {enc:TypeId×Value→H} {W:World} {b0:Nat} {v:Value} {d:DataW H} {ps:List MemPlace}
 (hv:Value.okWide Tryz.prog W .any b0 22 v) (h:DataW.Trod enc Tryz.prog W 0 (fun _=>true) true 22 v d ps) :
 ∃A n c acts,v=.slice A n c∧acts.length=n∧n≤c∧c≤9223372036854775807∧SActs W W.heap.size A acts:=by
 obtain ⟨A,n,c,rfl⟩:=WideShapes.okWide_slice Tryz.underlying22 hv
 obtain ⟨fuel,hf⟩:=h
 rcases Go.Deep.open_slice Tryz.underlying22 hf with ⟨hcs,hx⟩|⟨a,len,cap,m,n',D,Pl,hcs,hb,hl,hm,hmm,hx,hi'⟩
 ·simp[Value.cells] at hcs
  obtain ⟨rfl,rfl,rfl⟩:=hcs
  exact ⟨_,_,_,[],rfl,rfl,Nat.le_refl _,by omega,fun hn=>by simp at hn⟩
 ·simp[Value.cells] at hcs
  obtain ⟨rfl,rfl,rfl⟩:=hcs
  have hone':∀i,i<n→∃p:AS,SActAt W W.heap.size (a.add (i*3)) p:=by
   intro i hin
   obtain ⟨f0,f1,f2,he,hone,h0,h1,h2⟩:=sact_hone
   obtain ⟨cs',hc,ht'⟩:=hi' i (by rw[hmm];simp;omega)
   rw[sact_cells] at hc
   obtain ⟨ys,n2,hn2,hy,hlen,hyl,hfld⟩:=DataW.trod_struct he ht'
   obtain ⟨_,hcl,hat⟩:=World.cells?_some hc
   obtain ⟨o0,k0⟩:=Go.Deep.hone_of hone 0 f0 rfl
   obtain ⟨o1,k1⟩:=Go.Deep.hone_of hone 1 f1 rfl
   obtain ⟨o2,k2⟩:=Go.Deep.hone_of hone 2 f2 rfl
   match cs',hcl,hat with
   |[c0,c1,c2],_,hat=>
    match ys,hyl with
    |[y0,y1,y2],_=>
     have g0:=hfld 0 f0 rfl
     have g1:=hfld 1 f1 rfl
     have g2:=hfld 2 f2 rfl
     rw[o0,k0,h0] at g0
     rw[o1,k1,h1] at g1
     rw[o2,k2,h2] at g2
     obtain ⟨z0,e0,-,w0⟩:=DataW.trod_int Tryz.underlying3 g0
     obtain ⟨s,e1,-,hs⟩:=DataW.trod_string Tryz.underlying9 g1
     obtain ⟨v2,l,e2,A,n3,c3,rfl,q1,q2,q3⟩:=bytes_of_trod Tryz.underlying29 Tryz.underlying5 cells_u8 g2
     simp at e0 e1 e2
     subst e0 e1 e2
     have a0:=hat 0 (by simp)
     have a1:=hat 1 (by simp)
     have a2:=hat 2 (by simp)
     rw[add_zero'] at a0
     rw[add_at _ 0] at a1
     rw[add_at _ 1] at a2
     exact ⟨⟨z0,s.data.toList,l⟩,A,n3,c3,a0,by rw[sv_data];exact a1,a2,q1,by have:s.data.size≤maxLen:=hs;simpa using this,q2,q3⟩
  refine ⟨_,n,c,(List.range n).map (fun i=>if h:i<n then (hone' i h).choose else ⟨0,[],[]⟩),rfl,by simp,hl,by unfold maxLen at hm;omega,fun hn=>?_⟩
  have hn0:0<n:=by simpa using hn
  refine ⟨a,rfl,?_,fun i p hp=>?_⟩
  ·obtain ⟨A,n,c,h1,-⟩:=(hone' 0 hn0).choose_spec
   have:=block_lt_of_cell h1
   rwa[Me.block_add] at this
  ·rw[List.getElem?_map] at hp
   by_cases hin:i<n
   ·simp[hin] at hp
    subst hp
    exact (hone' i hin).choose_spec
   ·simp[hin] at hp
def FewA (count:Int) (acts:List AS):Prop:=40≤count∧count≤200∧acts.length≤60∧∀p∈acts,p.b.length≤1000∧p.name.length≤100
set_option maxRecDepth 100000 in
set_option maxHeartbeats 1000000 in
theorem great_any (count:Int) (A:Option Addr) (n c:Nat) (acts:List AS) (w:World) (B:Nat) (hl:acts.length=n) (hn:n≤9223372036854775807) (h:SActs w B A acts) :
 Calls Tryz.prog 9 #[.int .i64 count,.slice A n c] w fun e w'=>(∃b,e=.returned (.bool b)∧(b=false→FewA count acts))∧w=w':=by
 have HL:=Lib.hid hl
 have HA:=Lib.hid h
 clear hl h
 have hway:(decide (count<40)=true)∨(decide (count<40)=false∧decide (200<count)=true)∨(decide (count<40)=false∧decide (200<count)=false∧decide ((60:Int)<(n:Int))=true)∨(decide (count<40)=false∧decide (200<count)=false∧decide ((60:Int)<(n:Int))=false):=by
  by_cases h0:count<40
  ·exact .inl (by simp;omega)
  ·by_cases h1:200<count
   ·exact .inr (.inl ⟨by simp;omega,by simp;omega⟩)
   ·by_cases h2:60<n
    ·exact .inr (.inr (.inl ⟨by simp;omega,by simp;omega,by simp;omega⟩))
    ·exact .inr (.inr (.inr ⟨by simp;omega,by simp;omega,by simp;omega⟩))
 rcases hway with d0|⟨d0,d1⟩|⟨d0,d1,d2⟩|⟨d0,d1,d2⟩
 iterate 3
  ·go_enter Tryz.func9,Tryz.ntmps9
   go_wp2
   go_ret
   exact ⟨⟨true,rfl,fun e=>by cases e⟩,rfl⟩
 have HD0:=Lib.hid (show 40≤count∧count≤200 by simp at d0 d1;omega)
 have h60:n≤60:=by simp at d2;omega
 go_enter Tryz.func9,Tryz.ntmps9
 go_wp2
 clear d0 d1 d2
 go_loopw [5] (fun x wr=>∃j:Nat,x=.int .i64 (j:Int)∧j≤n∧w=wr∧Hid (∀i p,i<j→acts[i]?=some p→p.b.length≤1000∧p.name.length≤100)) (fun x _=>n-(intOf x).toNat)
 case atStart=>exact ⟨0,rfl,Nat.zero_le _,rfl,Lib.hid fun i p hi=>by omega⟩
 case round=>
  obtain ⟨j,rfl,hjn,rfl,HI⟩:=hrel
  by_cases hlt:j<n
  ·obtain ⟨a,p,rfl,-,hp,A2,n2,c2,g0,g1,g2,q1,-⟩:=HA.out.at (i:=j) (by rw[HL.out];exact hlt)
   have hlti:(j:Int)<(n:Int):=by omega
   obtain ⟨k,hk⟩:∃k,k=p.name.length:=⟨_,rfl⟩
   have hsz:(ByteArray.mk p.name.toArray).size=k:=by rw[hk];exact List.size_toArray ..
   have HP:=Lib.hid hp
   have HQ:=Lib.hid (And.intro q1 hk)
   clear hp q1 hk
   by_cases h2:1000<n2
   ·have d3:decide ((1000:Int)<(n2:Int))=true:=by simp;omega
    go_wp2
    go_ret
    exact ⟨⟨true,rfl,fun e=>by cases e⟩,rfl⟩
   ·have d3:decide ((1000:Int)<(n2:Int))=false:=by simp;omega
    by_cases h3:100<k
    ·have d4:decide ((100:Int)<(k:Int))=true:=by simp;omega
     go_wp2
     go_ret
     exact ⟨⟨true,rfl,fun e=>by cases e⟩,rfl⟩
    ·have d4:decide ((100:Int)<(k:Int))=false:=by simp;omega
     have HI2:=Lib.hid (show ∀i q,i<j+1→acts[i]?=some q→q.b.length≤1000∧q.name.length≤100 from fun i q hi hq=>by
      rcases (show i<j∨i=j by omega) with h|rfl
      ·exact HI.out i q h hq
      ·rw[HP.out] at hq
       injection hq with hq
       subst hq
       have:=HQ.out
       omega)
     go_wp2
     go_roundw
     case rel=>exact ⟨j+1,by go_num,by omega,trivial,HI2⟩
     case measure=>simp[intOf];omega
  ·have HF:=Lib.hid (show FewA count acts from ⟨HD0.out.1,HD0.out.2,by rw[HL.out];exact h60,fun p hp=>by
    obtain ⟨i,hi⟩:=List.mem_iff_getElem?.1 hp
    exact HI.out i p (by have:=(List.getElem?_eq_some_iff.1 hi).1;have:=HL.out;omega) hi⟩)
   go_wp2
   go_ret
   exact ⟨⟨false,rfl,fun _=>HF.out⟩,rfl⟩
end Go.Proofs.YtiocpefgccndbaaGreat
end
section
namespace Go.Proofs.YtiocpefgccndbaaGreat
open Go.RowKit Me Mf Rw Ds Va Go.Maps
theorem less_lt {x y:List UInt8}:less x y=true↔x<y:=by
 have h:less x y=decide (x<y):=bytesLess_eq x y
 rw[h]
 simp
theorem less_tr {x y z:List UInt8} (h:less x y=true) (k:less y z=true):less x z=true:=less_lt.2 (List.lt_trans (less_lt.1 h) (less_lt.1 k))
theorem less_as {x y:List UInt8} (h:less x y=true) (k:less y x=true):False:=List.lt_asymm (less_lt.1 h) (less_lt.1 k)
theorem rise_ext:∀{l k:List (List UInt8)},l.Pairwise (fun x y=>less x y=true)→k.Pairwise (fun x y=>less x y=true)→(∀x,x∈l↔x∈k)→l=k
 |[],[],_,_,_=>rfl
 |[],b::k,_,_,h=>absurd ((h b).2 (by simp)) (by simp)
 |a::l,[],_,_,h=>absurd ((h a).1 (by simp)) (by simp)
 |a::l,b::k,h1,h2,h=>by
  rw[List.pairwise_cons] at h1 h2
  have hab:a=b:=by
   have ha:=(h a).1 (by simp)
   have hb:=(h b).2 (by simp)
   rw[List.mem_cons] at ha hb
   rcases ha with rfl|ha
   ·rfl
   ·rcases hb with rfl|hb
    ·rfl
    ·exact (less_as (h1.1 b hb) (h2.1 a ha)).elim
  subst hab
  congr 1
  refine rise_ext h1.2 h2.2 fun i=>?_
  have:=h i
  rw[List.mem_cons,List.mem_cons] at this
  constructor
  ·intro hi
   rcases this.1 (.inr hi) with rfl|h'
   ·have:=h1.1 i hi;rw[less_irrefl] at this;cases this
   ·exact h'
  ·intro hi
   rcases this.2 (.inr hi) with rfl|h'
   ·have:=h2.1 i hi;rw[less_irrefl] at this;cases this
   ·exact h'
theorem IsNames.one {X:Sto} {l k:List (List UInt8)} (h:IsNames X l) (h':IsNames X k):l=k:=rise_ext h.rise h'.rise fun x=>(h.mem x).trans (h'.mem x).symm
structure Live (X:Sto) (F:List UInt8→List UInt8):Prop where
 calm:Calm X.S
 on:X.S.on=true
 ok:OkS X
 live:X.broken=false
 holds:Holds X.S.stored X.m.files F
section
variable {X:Sto} {F:List UInt8→List UInt8} {m:ManD} {l:List (List UInt8)} {x b:List UInt8}
theorem Rest.lives (h:Rest X F):Live X F:=⟨h.calm,h.on,h.ok,h.live,h.holds⟩
theorem Live.up (h:Live X F):upD X=true:=by unfold upD;rw[h.live,h.on];rfl
theorem Live.file (h:Live X F) {f:FileD} (hf:f∈X.m.files):readF X.S f=(F f.name,0):=by
 refine readF_is h.on h.calm.pend (h.holds f hf) fun z hz=>⟨?_,h.ok.disk z (by unfold allBlocks;exact List.mem_flatMap.2 ⟨f,hf,hz⟩)⟩
 have:=((h.ok.fit.1.2.2.1 f hf).2.2 z hz).1
 omega
theorem Live.reads (h:Live X F) (x:List UInt8):sreadD X x=if hasN X x then (newF X.C F x,0) else ([],8):=by
 unfold sreadD hasN newF
 rw[h.up,if_pos rfl]
 cases hC:X.C x with
 |some z=>
  cases z with
  |some b=>rfl
  |none=>rfl
 |none=>
  cases hf:fileOf X.m x with
  |none=>
   have:=fileOf_mem.1 hf
   simp only[decide_eq_true_eq]
   rw[if_neg this]
  |some f=>
   obtain ⟨h1,h2⟩:=fileOf_some hf
   have:x∈X.m.files.map (·.name):=List.mem_map.2 ⟨f,h1,h2⟩
   simp only[decide_eq_true_eq]
   rw[if_pos this,h.file h1,h2]
theorem Live.change (h:Live X F) {C:Chg} (hok:OkS {X with C:=C}):Live {X with C:=C} F:={h with ok:=hok}
theorem size_has (x:List UInt8):(sizeD X x).2=hasN X x:=by
 unfold sizeD hasN
 cases hC:X.C x with
 |some z=>cases z<;>rfl
 |none=>
  cases hf:fileOf X.m x with
  |none=>simp[fileOf_mem.1 hf]
  |some f=>
   obtain ⟨h1,h2⟩:=fileOf_some hf
   have:x∈X.m.files.map (·.name):=List.mem_map.2 ⟨f,h1,h2⟩
   simp only[decide_eq_true this]
theorem hasN_len (h:OkS X) (hx:hasN X x=true):1≤x.length∧x.length≤32:=by
 unfold hasN at hx
 cases hC:X.C x with
 |some z=>exact h.keys x (by rw[hC];simp)
 |none=>
  rw[hC] at hx
  simp only[decide_eq_true_eq] at hx
  obtain ⟨f,hf,e⟩:=List.mem_map.1 hx
  have:=h.fit.1.1.1 f hf
  rw[e] at this
  exact this
theorem Live.size (h:Live X F) (hx:hasN X x=true):(sizeD X x).1=((newF X.C F x).length:Int):=by
 have h1:=h.reads x
 rw[if_pos hx] at h1
 have h2:=sread_length h.ok (x:=x) (by rw[h1])
 rw[h1] at h2
 exact h2.symm
theorem size_no (hx:hasN X x=false):sizeD X x=(0,false):=by
 have h2:=size_has (X:=X) x
 rw[hx] at h2
 cases hC:X.C x with
 |some z=>
  cases z with
  |some c=>unfold hasN at hx;rw[hC] at hx;cases hx
  |none=>unfold sizeD;rw[hC]
 |none=>
  cases hf:fileOf X.m x with
  |none=>unfold sizeD;rw[hC];simp only[hf]
  |some f=>unfold sizeD at h2;rw[hC] at h2;simp[hf] at h2
theorem app_bad (h:Live X F) (hx:x.length=0∨32<x.length):(sappD X x b).1=8:=by
 unfold sappD
 have:allowD true x ((sizeD X x).1+(b.length:Int))=8:=by unfold allowD;rw[if_pos rfl,if_pos hx]
 rw[h.up,if_pos rfl,this,if_pos (by decide)]
theorem app_good (h:Live X F) (hx:1≤x.length∧x.length≤32) (hb:(if hasN X x then newF X.C F x else []).length+b.length≤1048576):sappD X x b=(0,(if hasN X x then newF X.C F x else [])++b):=by
 unfold sappD
 rw[h.up,if_pos rfl]
 cases hh:hasN X x with
 |true=>
  rw[hh,if_pos rfl] at hb
  have h1:allowD true x ((sizeD X x).1+(b.length:Int))=0:=by
   unfold allowD
   rw[if_pos rfl,if_neg (by omega),h.size hh,if_neg (by omega)]
  have h2:=h.reads x
  rw[hh,if_pos rfl] at h2
  rw[h1,if_neg (by simp),size_has,hh,if_pos rfl,h2,if_neg (by simp),if_pos rfl]
 |false=>
  rw[hh,if_neg (by decide),List.length_nil] at hb
  have h1:allowD true x ((sizeD X x).1+(b.length:Int))=0:=by
   unfold allowD
   rw[if_pos rfl,if_neg (by omega),size_no hh,if_neg (by show ¬(1048576<(0:Int)+_);omega)]
  rw[h1,if_neg (by simp),size_has,hh,if_neg (by simp),if_neg (by simp)]
  rfl
end
structure Ply where
 m:ManD
 hv:List FB
 now:List FB
 ch:List (List UInt8)
 waits:Bool
def namesF (l:List FB):List (List UInt8):=l.map fun f=>f.1
structure PlyOk (X:Sto) (F:List UInt8→List UInt8) (Y:Ply):Prop where
 m:Y.m=X.m
 hv:Y.hv=X.m.files.map fun f=>(f.name,F f.name)
 names:IsNames X (namesF Y.now)
 vals:∀f∈Y.now,f.2=newF X.C F f.1
 ch1:∀x b,X.C x=some (some b)→x∈Y.ch
 ch2:∀x∈Y.ch,X.C x≠none
 waits:Y.waits=true↔¬∀x,X.C x=none
section
variable {l:List FB} {x b:List UInt8}
theorem findD_some (h:x∈namesF l):∃(i:Nat) (f:FB),findD l x=((i:Int),true)∧l[i]?=some f∧f.1=x:=by
 unfold findD
 cases hf:l.findIdx? (fun f=>f.1==x) with
 |some i=>
  obtain ⟨hi,h1,-⟩:=List.findIdx?_eq_some_iff_getElem.1 hf
  exact ⟨i,l[i],rfl,List.getElem?_eq_getElem hi,by simpa using h1⟩
 |none=>
  rw[List.findIdx?_eq_none_iff] at hf
  obtain ⟨f,h1,h2⟩:=List.mem_map.1 h
  have:=hf f h1
  simp at this
  exact absurd h2 this
theorem findD_none (h:x∉namesF l):findD l x=(0,false):=by
 unfold findD
 have:l.findIdx? (fun f=>f.1==x)=none:=by
  rw[List.findIdx?_eq_none_iff]
  intro f hf
  have:f.1≠x:=fun e=>h (List.mem_map.2 ⟨f,hf,e⟩)
  simpa using this
 rw[this]
theorem putGo_mem {f:FB}:∀(l:List FB) (done:Bool),f∈putGo x b l done↔(done=false∧f=(x,b))∨(f∈l∧f.1≠x)
 |[],done=>by
  rw[putGo]
  cases done<;>simp
 |g::l,done=>by
  rw[putGo]
  split
  ·rename_i h
   rw[putGo_mem l done]
   constructor
   ·rintro (h1|⟨h1,h2⟩)
    ·exact .inl h1
    ·exact .inr ⟨List.mem_cons_of_mem _ h1,h2⟩
   ·rintro (h1|⟨h1,h2⟩)
    ·exact .inl h1
    ·rcases List.mem_cons.1 h1 with rfl|h1
     ·exact absurd h h2
     ·exact .inr ⟨h1,h2⟩
  ·rename_i h
   split
   ·rename_i hd
    rw[Bool.and_eq_true,Bool.not_eq_true'] at hd
    rw[List.mem_cons,List.mem_cons,putGo_mem l true,hd.1]
    constructor
    ·rintro (rfl|rfl|⟨h1,-⟩|⟨h1,h2⟩)
     ·exact .inl ⟨rfl,rfl⟩
     ·exact .inr ⟨List.mem_cons_self,h⟩
     ·cases h1
     ·exact .inr ⟨List.mem_cons_of_mem _ h1,h2⟩
    ·rintro (⟨-,rfl⟩|⟨h1,h2⟩)
     ·exact .inl rfl
     ·rcases List.mem_cons.1 h1 with rfl|h1
      ·exact .inr (.inl rfl)
      ·exact .inr (.inr (.inr ⟨h1,h2⟩))
   ·rw[List.mem_cons,putGo_mem l done]
    constructor
    ·rintro (rfl|h1|⟨h1,h2⟩)
     ·exact .inr ⟨List.mem_cons_self,h⟩
     ·exact .inl h1
     ·exact .inr ⟨List.mem_cons_of_mem _ h1,h2⟩
    ·rintro (h1|⟨h1,h2⟩)
     ·exact .inr (.inl h1)
     ·rcases List.mem_cons.1 h1 with rfl|h1
      ·exact .inl rfl
      ·exact .inr (.inr ⟨h1,h2⟩)
def RiseF (l:List FB):Prop:=l.Pairwise fun f g=>less f.1 g.1=true
theorem riseF:(namesF l).Pairwise (fun x y=>less x y=true)↔RiseF l:=by unfold namesF RiseF;rw[List.pairwise_map]
theorem putGo_done:∀(l:List FB),RiseF l→RiseF (putGo x b l true)
 |[],_=>by rw[putGo];exact List.Pairwise.nil
 |g::l,h=>by
  unfold RiseF at h
  rw[List.pairwise_cons] at h
  rw[putGo]
  split
  ·exact putGo_done l h.2
  ·rw[if_neg (by simp)]
   refine List.pairwise_cons.2 ⟨fun f hf=>?_,putGo_done l h.2⟩
   rcases (putGo_mem l true).1 hf with ⟨h1,-⟩|⟨h1,-⟩
   ·cases h1
   ·exact h.1 f h1
theorem putGo_rise:∀(l:List FB),RiseF l→RiseF (putGo x b l false)
 |[],_=>by rw[putGo];exact List.pairwise_singleton _ _
 |g::l,h=>by
  have hd:=putGo_done (x:=x) (b:=b) l (List.Pairwise.of_cons h)
  unfold RiseF at h
  rw[List.pairwise_cons] at h
  rw[putGo]
  split
  ·exact putGo_rise l h.2
  ·rename_i hne
   split
   ·rename_i hl
    have hl:less x g.1=true:=by simpa using hl
    have hin:∀f∈putGo x b l true,less g.1 f.1=true:=fun f hf=>by
     rcases (putGo_mem l true).1 hf with ⟨h1,-⟩|⟨h1,-⟩
     ·cases h1
     ·exact h.1 f h1
    refine List.pairwise_cons.2 ⟨fun f hf=>?_,List.pairwise_cons.2 ⟨hin,hd⟩⟩
    rcases List.mem_cons.1 hf with rfl|hf
    ·exact hl
    ·exact less_tr hl (hin f hf)
   ·rename_i hl
    have hl:less x g.1=false:=by simpa using hl
    have hgx:less g.1 x=true:=by
     have:=less_turn (x:=x) (y:=g.1) (fun e=>hne e.symm)
     rw[hl] at this
     exact this
    refine List.pairwise_cons.2 ⟨fun f hf=>?_,putGo_rise l h.2⟩
    rcases (putGo_mem l false).1 hf with ⟨-,rfl⟩|⟨h1,-⟩
    ·exact hgx
    ·exact h.1 f h1
theorem putGo_length:∀(l:List FB) (done:Bool),(putGo x b l done).length≤l.length+(if done then 0 else 1)
 |[],done=>by rw[putGo];cases done<;>simp
 |g::l,done=>by
  have h1:=putGo_length l done
  have h2:=putGo_length l true
  simp at h2
  rw[putGo]
  split
  ·rw[List.length_cons];omega
  ·split
   ·rename_i hd
    rw[Bool.and_eq_true,Bool.not_eq_true'] at hd
    rw[hd.1]
    simp
    omega
   ·rw[List.length_cons,List.length_cons];omega
end
section
variable {X:Sto} {F:List UInt8→List UInt8} {Y:Ply} {m:ManD} {x b:List UInt8}
theorem has_set (z:Option (List UInt8)) (y:List UInt8):hasN {X with C:=setC X.C x z} y=if y=x then z.isSome else hasN X y:=by
 unfold hasN setC
 by_cases e:y=x
 ·simp[e]
 ·simp[e]
theorem new_set (z:List UInt8) (y:List UInt8):newF (setC X.C x (some z)) F y=if y=x then z else newF X.C F y:=by
 unfold newF setC
 by_cases e:y=x
 ·simp[e]
 ·simp[e]
theorem new_set' (y:List UInt8) (h:y≠x):newF (setC X.C x none) F y=newF X.C F y:=by
 unfold newF setC
 simp[h]
theorem PlyOk.put (h:PlyOk X F Y) (x b:List UInt8):PlyOk {X with C:=setC X.C x (some b)} F ⟨Y.m,Y.hv,putGo x b Y.now false,Y.ch++[x],true⟩ where
 m:=h.m
 hv:=h.hv
 names:=⟨riseF.2 (putGo_rise _ (riseF.1 h.names.rise)),fun y=>by
  rw[has_set]
  constructor
  ·intro hy
   obtain ⟨f,h1,h2⟩:=List.mem_map.1 hy
   rcases (putGo_mem _ _).1 h1 with ⟨-,rfl⟩|⟨h1,h3⟩
   ·rw[if_pos h2.symm];rfl
   ·rw[if_neg (by rw[←h2];exact h3)]
    exact (h.names.mem y).1 (List.mem_map.2 ⟨f,h1,h2⟩)
  ·intro hy
   by_cases e:y=x
   ·exact List.mem_map.2 ⟨(x,b),(putGo_mem _ _).2 (.inl ⟨rfl,rfl⟩),e.symm⟩
   ·rw[if_neg e] at hy
    obtain ⟨f,h1,h2⟩:=List.mem_map.1 ((h.names.mem y).2 hy)
    exact List.mem_map.2 ⟨f,(putGo_mem _ _).2 (.inr ⟨h1,by rw[h2];exact e⟩),h2⟩⟩
 vals:=fun f hf=>by
  rw[new_set]
  rcases (putGo_mem _ _).1 hf with ⟨-,rfl⟩|⟨h1,h2⟩
  ·rw[if_pos rfl]
  ·rw[if_neg h2];exact h.vals f h1
 ch1:=fun y c hy=>by
  by_cases e:y=x
  ·simp[e]
  ·have:X.C y=some (some c):=by have:=hy;unfold setC at this;simpa [e] using this
   exact List.mem_append_left _ (h.ch1 y c this)
 ch2:=fun y hy=>by
  show setC X.C x (some b) y≠none
  unfold setC
  by_cases e:y=x
  ·simp[e]
  ·rw[if_neg e]
   rcases List.mem_append.1 hy with h1|h1
   ·exact h.ch2 y h1
   ·exact absurd (by simpa using h1) e
 waits:=by
  simp only[true_iff]
  intro hn
  have:=hn x
  simp[setC] at this
theorem PlyOk.remove (h:PlyOk X F Y) (x:List UInt8):PlyOk {X with C:=setC X.C x none} F ⟨Y.m,Y.hv,withoutD Y.now x,Y.ch,true⟩ where
 m:=h.m
 hv:=h.hv
 names:=⟨riseF.2 (List.Pairwise.sublist List.filter_sublist (riseF.1 h.names.rise)),fun y=>by
  rw[has_set]
  unfold withoutD
  constructor
  ·intro hy
   obtain ⟨f,h1,h2⟩:=List.mem_map.1 hy
   obtain ⟨h3,h4⟩:=List.mem_filter.1 h1
   have h4:f.1≠x:=by simpa using h4
   rw[if_neg (by rw[←h2];exact h4)]
   exact (h.names.mem y).1 (List.mem_map.2 ⟨f,h3,h2⟩)
  ·intro hy
   by_cases e:y=x
   ·rw[if_pos e] at hy;cases hy
   ·rw[if_neg e] at hy
    obtain ⟨f,h1,h2⟩:=List.mem_map.1 ((h.names.mem y).2 hy)
    exact List.mem_map.2 ⟨f,List.mem_filter.2 ⟨h1,by rw[h2];simpa using e⟩,h2⟩⟩
 vals:=fun f hf=>by
  obtain ⟨h3,h4⟩:=List.mem_filter.1 hf
  have h4:f.1≠x:=by simpa using h4
  rw[new_set' _ h4]
  exact h.vals f h3
 ch1:=fun y c hy=>by
  by_cases e:y=x
  ·have:setC X.C x none y=some (some c):=hy
   unfold setC at this
   rw[if_pos e] at this
   cases this
  ·have:X.C y=some (some c):=by have:=hy;unfold setC at this;simpa [e] using this
   exact h.ch1 y c this
 ch2:=fun y hy=>by
  show setC X.C x none y≠none
  unfold setC
  by_cases e:y=x
  ·simp[e]
  ·rw[if_neg e];exact h.ch2 y hy
 waits:=by
  simp only[true_iff]
  intro hn
  have:=hn x
  simp[setC] at this
theorem names_of (hf:Fit m) {S:Dsk} {br:Bool}:IsNames ⟨S,m,noC,br⟩ (m.files.map (·.name)):=by
 refine ⟨?_,fun x=>?_⟩
 ·rw[List.pairwise_map]
  exact hf.1.1.2
 ·unfold hasN noC
  simp
theorem PlyOk.plain (hf:Fit m) (S:Dsk) (br:Bool) (F:List UInt8→List UInt8):PlyOk ⟨S,m,noC,br⟩ F ⟨m,m.files.map fun f=>(f.name,F f.name),m.files.map fun f=>(f.name,F f.name),[],false⟩ where
 m:=rfl
 hv:=rfl
 names:=by
  have e:namesF (m.files.map fun f=>(f.name,F f.name))=m.files.map (·.name):=by unfold namesF;rw[List.map_map];rfl
  rw[e]
  exact names_of hf
 vals:=fun f hf=>by
  obtain ⟨g,-,rfl⟩:=List.mem_map.1 hf
  rfl
 ch1:=fun x b hx=>by cases hx
 ch2:=fun x hx=>by cases hx
 waits:=⟨(fun h=>by cases h),(fun h=>absurd (fun _=>rfl) h)⟩
theorem PlyOk.forget (h:PlyOk X F Y) (hf:Fit X.m) (S:Dsk) (br:Bool):PlyOk ⟨S,X.m,noC,br⟩ F ⟨Y.m,Y.hv,Y.hv,[],false⟩:=by
 rw[h.m,h.hv]
 exact PlyOk.plain hf S br F
theorem PlyOk.list (h:PlyOk X F Y):listP Y.now Y.ch=listC X (namesF Y.now):=by
 unfold listP listC namesF
 rw[List.map_map]
 refine List.map_congr_left fun f hf=>?_
 show (f.1,_)=(f.1,szC X f.1)
 congr 1
 have hN:hasN X f.1=true:=(h.names.mem f.1).1 (List.mem_map.2 ⟨f,hf,rfl⟩)
 have hv:=h.vals f hf
 unfold szC
 cases hC:X.C f.1 with
 |none=>
  rw[if_neg (fun hm=>h.ch2 _ hm hC)]
 |some z=>
  cases z with
  |none=>unfold hasN at hN;rw[hC] at hN;cases hN
  |some c=>
   rw[if_pos (h.ch1 _ _ hC)]
   unfold newF at hv
   rw[hC] at hv
   rw[hv]
theorem planL_has (fs:List FileD):∀(L:List (List UInt8×Option Nat)) (fr:List Nat) (nx:Nat) (r:List FileD×Nat),St.planL fs L fr nx=some r→∀x o,(x,o)∈L→(o=none→x∈fs.map (·.name))→x∈r.1.map (·.name)
 |[],fr,nx,r,h,x,o,hx,_=>by cases hx
 |(y,none)::l,fr,nx,r,h,x,o,hx,ho=>by
  rw[St.planL] at h
  cases hr:St.planL fs l fr nx with
  |none=>rw[hr] at h;cases h
  |some q=>
   rw[hr] at h
   injection h with h
   subst h
   show x∈(_++q.1).map _
   rw[List.map_append,List.mem_append]
   rcases List.mem_cons.1 hx with e|hx
   ·injection e with e1 e2
    subst e1 e2
    obtain ⟨f,h1,h2⟩:=List.mem_map.1 (ho rfl)
    exact .inl (List.mem_map.2 ⟨f,List.mem_filter.2 ⟨h1,by simpa using h2⟩,h2⟩)
   ·exact .inr (planL_has fs l fr nx q hr x o hx ho)
 |(y,some s)::l,fr,nx,r,h,x,o,hx,ho=>by
  rw[St.planL] at h
  split at h
  ·cases hr:St.planL fs l (fr.drop (St.pages s)) (nx+1) with
   |none=>rw[hr] at h;cases h
   |some q=>
    rw[hr] at h
    injection h with h
    subst h
    show x∈(_::q.1).map _
    rw[List.map_cons,List.mem_cons]
    rcases List.mem_cons.1 hx with e|hx
    ·injection e with e1 e2
     exact .inl e1
    ·exact .inr (planL_has fs l _ _ q hr x o hx ho)
  ·cases h
theorem NextIs.names {l:List (List UInt8)} (h:NextIs X l m) (hl:IsNames X l):m.files.map (·.name)=l:=by
 refine rise_ext ?_ hl.rise fun x=>⟨fun hx=>?_,fun hx=>?_⟩
 ·rw[List.pairwise_map]
  exact h.2.2.1.1.2
 ·obtain ⟨f,hf,rfl⟩:=List.mem_map.1 hx
  rcases h.file hf with ⟨h1,-⟩|⟨s,h1,-⟩<;>exact h1
 ·have h1:=h.1
  unfold St.planD at h1
  cases hr:St.planL X.m.files (listC X l) (St.freeM X.S.stored.length X.m.files) X.m.next with
  |none=>rw[hr] at h1;cases h1
  |some r=>
   rw[hr] at h1
   injection h1 with h1
   rw[←h1]
   refine planL_has _ _ _ _ r hr x (szC X x) (List.mem_map.2 ⟨x,hx,rfl⟩) fun ho=>?_
   have hN:=(hl.mem x).1 hx
   unfold hasN at hN
   unfold szC at ho
   cases hC:X.C x with
   |none=>rw[hC] at hN;simpa using hN
   |some z=>
    cases z with
    |none=>rw[hC] at hN;cases hN
    |some c=>rw[hC] at ho;cases ho
theorem PlyOk.commit (h:PlyOk X F Y) (hn:NextIs X (namesF Y.now) m) (S:Dsk) (br:Bool):PlyOk ⟨S,m,noC,br⟩ (newF X.C F) ⟨m,Y.now,Y.now,[],false⟩:=by
 have e:Y.now=m.files.map fun f=>(f.name,newF X.C F f.name):=by
  have h1:=hn.names h.names
  have h2:Y.now=(namesF Y.now).map fun x=>(x,newF X.C F x):=by
   unfold namesF
   rw[List.map_map]
   conv=>lhs;rw[←List.map_id Y.now]
   refine List.map_congr_left fun f hf=>?_
   show f=(f.1,newF X.C F f.1)
   rw[←h.vals f hf]
  rw[h2,←h1,List.map_map]
  rfl
 have:=PlyOk.plain hn.2.2 S br (newF X.C F)
 rw[←e] at this
 exact this
theorem PlyOk.there (h:PlyOk X F Y) (x:List UInt8):(hasN X x=true∧∃(i:Nat) (f:FB),findD Y.now x=((i:Int),true)∧Y.now[i]?=some f∧f.1=x∧f.2=newF X.C F x)∨(hasN X x=false∧findD Y.now x=(0,false)):=by
 by_cases hx:x∈namesF Y.now
 ·obtain ⟨i,f,h1,h2,h3⟩:=findD_some hx
  exact .inl ⟨(h.names.mem x).1 hx,i,f,h1,h2,h3,by rw[←h3];exact h.vals f (List.mem_of_getElem? h2)⟩
 ·refine .inr ⟨?_,findD_none hx⟩
  cases hh:hasN X x with
  |false=>rfl
  |true=>exact absurd ((h.names.mem x).2 hh) hx
end
structure FewY (Y:Ply) (j:Nat):Prop where
 now:Y.now.length≤j
 hv:Y.hv.length≤j
 ch:Y.ch.length≤j
 ver:Y.m.version≤j
 bn:∀f∈Y.now,f.2.length≤1000*j
 bh:∀f∈Y.hv,f.2.length≤1000*j
end Go.Proofs.YtiocpefgccndbaaGreat
end
section
namespace Go.Proofs.YtiocpefgccndbaaGreat
open Go.RowKit Me Mf Rw Ds Va Go.Maps
def allF (X:Sto) (F:List UInt8→List UInt8) (l:List (List UInt8)):List FB:=l.map fun x=>(x,newF X.C F x)
def AlPost (w:World) (X:Sto) (F:List UInt8→List UInt8) (N:Nat) (e:Ending) (w':World):Prop:=
 ∃A n c l,e=.returned (.tuple #[.slice A n c,.bool true])∧IsNames X l∧l.length=n∧n≤2035+N∧w'.ownsRow w.heap.size 75 2 (.slice A n c) n (fcl (allF X F l))∧Below w.heap.size w w'
set_option maxRecDepth 100000 in
set_option maxHeartbeats 4000000 in
theorem all_any {w:World} {B P D M N:Nat} {X:Sto} {own ownD:Nat→Prop} {F:List UInt8→List UInt8} (h:StoreAt w B P D M N X own ownD) (hL:Live X F) (hN:N≤1000) :
 Calls Tryz.prog 16 #[.pointer (some ⟨P,0,none⟩)] w (AlPost w X F N):=by
 obtain ⟨i0,hi0,hz0,hz1,hz2⟩:=info_parts f_info
 have HS:=Lib.hid h
 have HL:=Lib.hid hL
 obtain ⟨w0,hw0⟩:∃w0,w0=w.alloc (.cells #[] 75):=⟨_,rfl⟩
 obtain ⟨H,hH⟩:∃H,H=w.heap.size:=⟨_,rfl⟩
 have hb0:Below w.heap.size w w0:=by rw[hw0];exact (Below.refl _ _).alloc (Nat.le_refl _) _
 have HB0:=Lib.hid hb0
 have HO0:=Lib.hid (show w0.ownsRow w.heap.size 75 2 (.slice (some ⟨H,0,none⟩) 0 0) 0 (fcl []) by rw[hw0,hH];exact own_none w)
 have HNM:=Lib.hid (snames_any (h.past hb0) (by omega))
 have HW0:=Lib.hid hw0
 have HW1:=Lib.hid hw0
 have HH:=Lib.hid hH
 clear h hL hw0 hH hb0
 go_enter Tryz.func16,Tryz.ntmps16
 go_upto_region 2 with fail
 rw[←HW0.out,←HH.out]
 clear HW0
 go_wp2_with fail
 refine HNM.out.mono ?_
 rintro e w1 ⟨A,n,c,l,rfl,hl,hln,hn2,hrow,hb1⟩
 have HNL:=Lib.hid hl
 have HLN:=Lib.hid hln
 have HROW:=Lib.hid hrow
 have HB1:=Lib.hid (HB0.out.trans (hb1.mono HB0.out.size))
 have HO1:=Lib.hid (own_below' HO0.out hb1)
 have HS0:=Lib.hid (show w0.heap.size=H+1 by rw[HW1.out,HH.out];simp)
 have hs1:=hb1.size
 have hHw:=HH.out
 clear hl hln hrow hb1 HNM HO0 HB0 HW1
 have HHH:=Lib.hid hHw
 clear hHw
 go_wp2_with fail
 go_loopw [6,4] (fun z v wr=>∃(j:Nat) (FA:Option Addr) (fc:Nat),z=.int .i64 (j:Int)∧v=.slice FA j fc∧j≤n∧Hid (Out (fun k=>k=H) w1 wr)∧Hid (wr.ownsRow w.heap.size 75 2 (.slice FA j fc) j (fcl (allF X F (l.take j))))∧Hid (∀k,(Value.slice FA j fc).ownBlock=some k→k=H∨w1.heap.size≤k)) (fun z _ _=>n-(intOf z).toNat)
 case atStart=>exact ⟨0,_,0,rfl,rfl,Nat.zero_le _,Lib.hid (Out.refl _ _),HO1,Lib.hid (fun k hk=>.inl (Option.some.inj hk).symm)⟩
 case round=>
  clear HO1
  obtain ⟨j,FA,fc,rfl,rfl,hj,HO,HR,HK⟩:=hrel
  have HB:=Lib.hid (show Below w.heap.size w wr from HB1.out.trans (HO.out.below (B:=w.heap.size) (fun k _ hk=>by have:=HHH.out;omega) HB1.out.size))
  have hrw:wr.ownsRow w0.heap.size 9 1 (.slice A n c) n (l.map sv):=own_out HROW.out HO.out (fun k hk e=>by have h1:=(HROW.out.lt k hk).1;have h2:=HS0.out;omega)
  by_cases hlt:j<n
  ·obtain ⟨x,hx⟩:∃x,l[j]?=some x:=⟨_,List.getElem?_eq_getElem (by rw[HLN.out];exact hlt)⟩
   obtain ⟨an,rfl,hcx⟩:=names_cell (Cs.of_own hrw) hx
   have hlt':(j:Int)<(n:Int):=by omega
   have hhas:=(HNL.out.mem x).1 (List.mem_of_getElem? hx)
   have hxl:=hasN_len HL.out.ok hhas
   have HRD:=Lib.hid (sread_any (HS.out.past HB.out) x (by omega) (by rw[HL.out.calm.pend];show 0<_;omega))
   rw[HL.out.reads,if_pos hhas] at HRD
   have HX:=Lib.hid hx
   clear hrw hx hhas
   go_wp2_with fail
   refine HRD.out.mono ?_
   rintro e w5 ⟨A5,n5,c5,rfl,ho5,hb5⟩
   have hHs:=HR.out
   have HR5:=Lib.hid (own_below' HR.out hb5)
   have HO5:=Lib.hid (HO.out.trans (.of_below hb5))
   have HB5:=Lib.hid (HB.out.trans (hb5.mono HB.out.size))
   have hcx5:=(hb5.cell (World.block_lt_of_cell? _ _ hcx)).trans hcx
   have hl5:(newF X.C F x).length=n5:=by have:=ho5.1;rw[cellsOf_length,Nat.mul_one] at this;exact this
   have HRA:=Lib.hid (Rd.of_own ho5)
   have hcs5:∀W,Below w5.heap.size w5 W→_:=fun W hW=>str_any A5 n5 c5 (newF X.C F x) W w5.heap.size hl5 (HRA.out.below hW)
   have HX5:=Lib.hid hcx5
   clear ho5 hb5 hcx hHs HR HO HB HRD
   go_wp2_with fail
   have hbd:Below w5.heap.size w5 w5.drew:=(Below.refl _ _).drew
   have HRD5:=Lib.hid (own_below' HR5.out hbd)
   have HSZ5:=Lib.hid (show w.heap.size≤(w5.drew.alloc (.cells #[sv x,sv (newF X.C F x)] 75)).heap.size by rw[World.size_alloc];exact Nat.le_trans HB5.out.size (Nat.le_succ _))
   have HSRC:=Lib.hid (twoF_lit w5.drew (sv x) (sv (newF X.C F x)) 75)
   have HMX:=Lib.hid (show j+1≤maxLen by unfold maxLen;omega)
   have hcs5d:=hcs5 w5.drew hbd
   have hcx5d:w5.drew.cell? (an.add j)=_:=hcx5
   clear hcs5 hbd
   go_region_law (refine step_append_own (w:=w5.drew.alloc (.cells #[sv x,sv (newF X.C F x)] 75)) rfl (.tmp 30) (.tmp 38) 39 rfl w.heap.size 75 i0 _ 2 32 Tryz.underlying39 hi0 hz0 hz1 hz2 rfl (by decide) (.slice FA j fc) j _ (by simp[Act.eval]) (HRD5.out.alloc _) ⟨w5.heap.size,0,none⟩ 1 1 [sv x,sv (newF X.C F x)] (by simp[Act.eval]) rfl HSRC.out (twoF_one _ _) HMX.out (by omega) HSZ5.out ?_
                  intro v6 w6 ho6 hg6 hn6
                  have HO6:=Lib.hid ho6
                  have HG6:=Lib.hid hg6
                  have HN6:=Lib.hid hn6
                  clear ho6 hg6 hn6)
   all_goals
    obtain ⟨FA',fc',rfl,-⟩:=own_slice' HO6.out
    have HW1:=Lib.hid (show w1.heap.size≤w5.heap.size from HO5.out.size)
    have HO7:=Lib.hid (show Out (fun k=>k=H) w1 w6 from (HO5.out.trans (((out_drew _ w5).alloc _))).trans' (Out.of_grown (S:=fun k=>(Value.slice FA j fc).ownBlock=some k) HG6.out (fun k e _=>e)) (fun k hk=>HK.out k hk))
    have HK6:=Lib.hid (show ∀k,(Value.slice FA' (j+1) fc').ownBlock=some k→k=H∨w1.heap.size≤k from fun k hk=>by
     rcases HN6.out with h|h
     ·exact HK.out k (h▸hk)
     ·rw[h] at hk
      injection hk with hk
      have:=HW1.out
      have e2:(w5.drew.alloc (.cells #[sv x,sv (newF X.C F x)] 75)).heap.size=w5.heap.size+1:=by rw[World.size_alloc];rfl
      right
      omega)
    have HR6:=Lib.hid (show w6.ownsRow w.heap.size 75 2 (.slice FA' (j+1) fc') (j+1) (fcl (allF X F (l.take (j+1)))) by
     rw[List.take_add_one,HX.out]
     unfold allF
     rw[List.map_append,fcl_append]
     exact HO6.out)
    clear hcs5d hcx5 hcx5d
    go_wp2_with fail
    exact ⟨⟨j+1,FA',fc',by simp,rfl,hlt,HO7,HR6,HK6⟩,by simp[intOf];omega⟩
  ·have e:j=n:=by omega
   subst e
   have HE:=Lib.hid (show l.take j=l from List.take_of_length_le (by rw[HLN.out];exact Nat.le_refl _))
   rw[HE.out] at HR
   clear hrw
   go_wp2_with fail
   go_ret2
   exact ⟨FA,j,fc,l,rfl,HNL.out,HLN.out,hn2,HR.out,HB.out⟩
end Go.Proofs.YtiocpefgccndbaaGreat
end
section
namespace Go.Proofs.YtiocpefgccndbaaGreat
open Go.RowKit Me Mf Rw Ds Va Go.Maps
def sdX (G P H:Nat) (L A2 Am:Option Addr) (nl cl n2 c2 nm cm:Nat) (vX vY vN:Nat) (q0 v0 q1 v1:Bool):Gw.Fact:=fun t v _=>
 match t with
 |0=>v=.pointer (some ⟨G,0,none⟩)
 |1=>v=.pointer (some ⟨P,0,none⟩)
 |2=>v=.slice Am nm cm
 |7=>v=.pointer (some ⟨H,0,none⟩)
 |9=>v=.slice L nl cl
 |10|16|17=>v=.bool true
 |18=>v=.slice L nl cl
 |19|20=>v=.pointer (some ⟨G,0,none⟩)
 |21=>v=.pointer (some ⟨G,5,none⟩)
 |22=>v=.slice A2 n2 c2
 |23|24=>v=.bool q0
 |25=>q0=true→v=.pointer (some ⟨P,0,none⟩)
 |26=>q0=true→v=.int .u64 (vX:Int)
 |27|28=>q0=true→v=.pointer (some ⟨G,0,none⟩)
 |29|30=>q0=true→v=.pointer (some ⟨G,2,none⟩)
 |31=>q0=true→v=.int .u64 (vY:Int)
 |32=>q0=true→v=.bool v0
 |33|34=>v=.bool (q0&&v0)
 |35=>(q0&&v0)=false→v=.slice L nl cl
 |36=>(q0&&v0)=false→v=.slice Am nm cm
 |37=>(q0&&v0)=false→v=.bool q1
 |38=>((q0&&v0)=false→v=.bool q1)∧((q0&&v0)=true→v=undef)
 |39=>(q0&&v0)=false→q1=true→v=.pointer (some ⟨P,0,none⟩)
 |40=>(q0&&v0)=false→q1=true→v=.int .u64 (vX:Int)
 |41=>(q0&&v0)=false→q1=true→v=.pointer (some ⟨H,0,none⟩)
 |42=>(q0&&v0)=false→q1=true→v=.int .u64 (vN:Int)
 |43=>(q0&&v0)=false→q1=true→v=.bool v1
 |44=>(q0&&v0)=false→v=.bool (q1&&v1)
 |45|46|8=>v=.bool ((q0&&v0)||(q1&&v1))
 |_=>True
theorem undef_no (c:Bool):undef≠.bool c:=by simp[undef]
set_option maxRecDepth 100000 in
set_option maxHeartbeats 8000000 in
theorem stands_any {w:World} {B P D M N G:Nat} {X:Sto} {own ownD:Nat→Prop} {F:List UInt8→List UInt8} (h:StoreAt w B P D M N X own ownD) (hL:Live X F) (hN:N≤1000) {p0 p1 p3 p4 p6 p7 p8:Value} {vY vN nx:Nat} {A2 Am An:Option Addr} {n2 c2 nm cm nn cn:Nat} {hv mb:List FB}
 (hx:Blk w G [p0,p1,.int .u64 (vY:Int),p3,p4,.slice A2 n2 c2,p6,p7,p8]) (hh:Cs w w.heap.size A2 (fcl hv)) (hhl:hv.length=n2) (hm:Cs w w.heap.size Am (fcl mb)) (hml:mb.length=nm)
 (hq:∀l,IsNames X l→(allF X F l=hv∧X.m.version=vY)∨(allF X F l=mb∧X.m.version=vN)) :
 Calls Tryz.prog 25 #[.pointer (some ⟨G,0,none⟩),.pointer (some ⟨P,0,none⟩),.slice Am nm cm,mval vN nx An nn cn] w fun e w'=>e=.returned (.bool true)∧Below w.heap.size w w':=by
 obtain ⟨H,hH⟩:∃H,H=w.heap.size:=⟨_,rfl⟩
 obtain ⟨w1,hw1⟩:∃w1,w1=w.alloc (.cells #[.int .u64 (vN:Int),.int .u32 (nx:Int),.slice An nn cn] 38):=⟨_,rfl⟩
 have HW1:=Lib.hid hw1
 have hb1:Below w.heap.size w w1:=by rw[hw1];exact (Below.refl _ _).alloc (Nat.le_refl _) _
 have K1:=Lib.hid (show Blk w1 H [.int .u64 (vN:Int),.int .u32 (nx:Int),.slice An nn cn] by rw[hw1,hH];exact Blk.new w [.int .u64 (vN:Int),.int .u32 (nx:Int),.slice An nn cn] _)
 have HB1:=Lib.hid hb1
 have HH:=Lib.hid hH
 have HAL:=Lib.hid (all_any (h.past hb1) hL hN)
 have HS:=Lib.hid h
 have HX:=Lib.hid hx
 have HC:=Lib.hid hh
 have HCL:=Lib.hid hhl
 have HM:=Lib.hid hm
 have HML:=Lib.hid hml
 have HQ:=Lib.hid hq
 clear h hL hx hh hhl hm hml hq hH hw1 hb1
 go_enter Tryz.func25,Tryz.ntmps25
 go_upto_region 1 with fail
 rw[←HW1.out,←HH.out]
 clear HW1
 go_wp2_with fail
 refine HAL.out.mono ?_
 rintro e w2 ⟨L,nl,cl,l,rfl,hil,hll,hn2,hrow,hb2⟩
 have HB2:=Lib.hid (HB1.out.trans (hb2.mono HB1.out.size))
 have K2:=Lib.hid (K1.out.past hb2)
 have HQL:=Lib.hid (HQ.out l hil)
 have HLL:=Lib.hid (show (allF X F l).length=nl by unfold allF;rw[List.length_map];exact hll)
 have HR:=Lib.hid (Cs.of_own hrow)
 clear hil hll hrow hb2 HQ HAL K1 HB1
 go_upto_region 2 with fail
 obtain ⟨q0,hq0⟩:∃q0,decide (allF X F l=hv)=q0:=⟨_,rfl⟩
 obtain ⟨q1,hq1⟩:∃q1,decide (allF X F l=mb)=q1:=⟨_,rfl⟩
 obtain ⟨v0,hv0⟩:∃v0,((X.m.version:Int)==(vY:Int))=v0:=⟨_,rfl⟩
 obtain ⟨v1,hv1⟩:∃v1,((X.m.version:Int)==(vN:Int))=v1:=⟨_,rfl⟩
 obtain ⟨vX,hvX⟩:∃vX,vX=X.m.version:=⟨_,rfl⟩
 have HA:=Lib.hid (show ((q0&&v0)||(q1&&v1))=true by
  rcases HQL.out with ⟨h1,h2⟩|⟨h1,h2⟩
  ·rw[←hq0,←hv0,decide_eq_true h1,h2];simp
  ·rw[←hq1,←hv1,decide_eq_true h1,h2];simp)
 have HS0:=Lib.hid (fun (W:World) (hW:Below w2.heap.size w2 W)=>rsame_any L nl cl (allF X F l) A2 n2 c2 hv W HLL.out (by omega) ((HR.out.below hW).more hW.size) HCL.out (((HC.out.below HB2.out).below (hW.mono HB2.out.size)).more (Nat.le_trans HB2.out.size hW.size)))
 have HS1:=Lib.hid (fun (W:World) (hW:Below w2.heap.size w2 W)=>rsame_any L nl cl (allF X F l) Am nm cm mb W HLL.out (by omega) ((HR.out.below hW).more hW.size) HML.out (((HM.out.below HB2.out).below (hW.mono HB2.out.size)).more (Nat.le_trans HB2.out.size hW.size)))
 have HV:=Lib.hid (fun (W:World) (hW:Below w2.heap.size w2 W)=>version_any (HS.out.past (HB2.out.trans (hW.mono HB2.out.size))))
 have HX2:=Lib.hid (HX.out.past HB2.out)
 rw[hq0] at HS0
 rw[hq1] at HS1
 rw[←hvX] at HV hv0 hv1
 have f0:=hv0
 have f1:=hv1
 try simp at f0
 try simp at f1
 clear HQL hq0 hq1 hvX HX HC HM HR HS
 have x2:=HX2.out.cell (i:=2) rfl
 have x5:=HX2.out.cell (i:=5) rfl
 have k0:=K2.out.cell (i:=0) rfl
 refine Gw.wp_region_grow2 (sdX G P H L A2 Am nl cl n2 c2 nm cm vX vY vN q0 v0 q1 v1) [16,17,18,19,20,21,22,23,24,25,26,27,28,29,30,31,32,33,34,35,36,37,38,39,40,41,42,43,44,45,46,8] [([10],none),([16],none),([9,17],some (17,true)),([0,17],some (17,true)),([19,17],some (17,true)),([20,17],some (17,true)),([21,17],some (17,true)),([18,22,17],some (17,true)),([23,17],some (17,true)),([1,24],some (24,true)),([25,24],some (24,true)),([0,24],some (24,true)),([27,24],some (24,true)),([28,24],some (24,true)),([29,24],some (24,true)),([30,24],some (24,true)),([26,31,24],some (24,true)),([24,32,17],some (17,true)),([33,17],some (17,true)),([9,34],some (34,false)),([2,34],some (34,false)),([35,36,34],some (34,false)),([37,34],some (34,false)),([1,38],some (38,true)),([39,38],some (38,true)),([7,38],some (38,true)),([41,38],some (38,true)),([40,42,38],some (38,true)),([38,43,34],some (34,false)),([34,44,17],some (17,true)),([17,45],none),([46],none)] 47 (by kernel_rfl) (by kernel_rfl) rfl ?h0 ?hreq ?hend
 case h0=>
  intro t W hnd _
  unfold sdX
  split<;>first|(exfalso;apply hnd;decide)|rfl|trivial
 case hreq=>
  refine ⟨?_,?_,?_,?_,?_,?_,?_,?_,?_,?_,?_,?_,?_,?_,?_,?_,?_,?_,?_,?_,?_,?_,?_,?_,?_,?_,?_,?_,?_,?_,?_,?_,trivial⟩
  all_goals
   intro ac W hg hk
   have hg':Below w2.heap.size w2 W:=hg
   have x2:=(HX2.out.past hg').cell (i:=2) rfl
   have x5:=(HX2.out.past hg').cell (i:=5) rfl
   have k0:=(K2.out.past hg').cell (i:=0) rfl
   simp only[Gw.Knows,sdX] at hk
   try (first
    |(simp[go_sem,Gw.OpReq2,Gw.Ok,Gw.Post,Gw.Holds,sdX,Gw.Grows.refl,hk,x2,x5,k0,hv0,hv1,f0,f1,undef_no];done)
    |(cases q0<;>(simp[go_sem,Gw.OpReq2,Gw.Ok,Gw.Post,Gw.Holds,sdX,Gw.Grows.refl,hk,x2,x5,k0,hv0,hv1,f0,f1,undef_no];done))
    |(cases q0<;>cases v0<;>(simp[go_sem,Gw.OpReq2,Gw.Ok,Gw.Post,Gw.Holds,sdX,Gw.Grows.refl,hk,x2,x5,k0,hv0,hv1,f0,f1,undef_no];done))
    |(cases q0<;>cases v0<;>cases q1<;>(simp[go_sem,Gw.OpReq2,Gw.Ok,Gw.Post,Gw.Holds,sdX,Gw.Grows.refl,hk,x2,x5,k0,hv0,hv1,f0,f1,undef_no];done)))
  ·simp[go_sem,Gw.OpReq2,Gw.Ok,Gw.Post,Gw.Holds,sdX,Gw.Grows.refl,hk,undef_no]
   refine (HS0.out W hg').mono ?_
   rintro e w5 ⟨rfl,hb5⟩
   exact ⟨_,rfl,hb5,fun _ _=>rfl⟩
  ·cases q0 with
   |false=>simp[Gw.OpReq2,Gw.Post,Gw.Holds,sdX,hk]
   |true=>
    simp[go_sem,Gw.OpReq2,Gw.Ok,Gw.Post,Gw.Holds,sdX,Gw.Grows.refl,hk,undef_no]
    refine (HV.out W hg').mono ?_
    rintro e w5 ⟨rfl,rfl⟩
    exact ⟨_,rfl,Gw.Grows.refl _,fun _ _=>rfl⟩
  ·cases h:(q0&&v0) with
   |true=>simp[Gw.OpReq2,Gw.Post,Gw.Holds,sdX,hk,h]
   |false=>
    rw[h] at hk
    simp[go_sem,Gw.OpReq2,Gw.Ok,Gw.Post,Gw.Holds,sdX,Gw.Grows.refl,hk,h]
    refine (HS1.out W hg').mono ?_
    rintro e w5 ⟨rfl,hb5⟩
    exact ⟨_,rfl,hb5,fun _ _=>rfl⟩
  ·cases h:(q0&&v0) with
   |true=>
    rw[h] at hk
    simp[Gw.OpReq2,Gw.Post,Gw.Holds,sdX,hk,h,undef_no]
   |false=>
    rw[h] at hk
    cases q1 with
    |false=>simp[Gw.OpReq2,Gw.Post,Gw.Holds,sdX,hk,h]
    |true=>
     simp[go_sem,Gw.OpReq2,Gw.Ok,Gw.Post,Gw.Holds,sdX,Gw.Grows.refl,hk,h]
     refine (HV.out W hg').mono ?_
     rintro e w5 ⟨rfl,rfl⟩
     exact ⟨_,rfl,Gw.Grows.refl _,fun _ _=>rfl⟩
 case hend=>
  intro y w9 hg hy
  have h8:y 8=.bool ((q0&&v0)||(q1&&v1)):=(hy 8 (by simp)).now
  have HB9:=Lib.hid (HB2.out.trans (Below.mono (show Below w2.heap.size w2 w9 from hg) HB2.out.size))
  clear hg hy
  simp only[Gw.putAll,Act.put,List.setIfInBounds_toArray,List.set_cons_zero,List.set_cons_succ]
  rw[h8,HA.out]
  go_wp2
  go_ret
  exact ⟨rfl,HB9.out⟩
end Go.Proofs.YtiocpefgccndbaaGreat
end
