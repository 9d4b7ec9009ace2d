/- Texts put together, for a law: DkB. -/
import Derived.Great.BuildSlice
import Derived.Laws.Cover3
import Derived.Maps.AppendAt
import Derived.Test.YtcdkopbjlakebaaGreatDoorKP4
set_option maxRecDepth 100000
set_option maxHeartbeats 8000000
namespace Go.Proofs.YtcdkopbjlakebaaGreatDoor
section
section
open Go.RowKit Me Rw Ds
theorem Zo {n:Nat} {i:Int} (h:hasB n i=true):∃k:Nat,i=(k:Int)/\k<n:=by
 unfold hasB at h;simp at h;exact ⟨i.toNat,by omega,by omega⟩
theorem ZM (n k:Nat):hasB n (k:Int)=decide (k<n):=by
 unfold hasB
 by_cases h:k<n
 ·rw[decide_eq_true (by omega),decide_eq_true (by omega),decide_eq_true h];rfl
 ·rw[decide_eq_true (by omega),decide_eq_false (by omega),decide_eq_false h];rfl
section
variable {w w':World} {B D g:Nat} {Pv:Value} {S:Dsk} {own:Nat->Prop}
end
end
namespace Gw
open Go.RowKit
section
variable {P:Program} {o:Oper} {a:Act} {w w':World} {p:Value->World->Prop}
theorem zjV {t:TypeId} {parts:Array (Nat×Operand)} {vs:Array (Nat×Value)} {cs:Array Value} (ho:o.op=.build t parts) (hv:(parts.map fun (i,x)=>(i,a.eval x))=vs) (hb:P.built t vs.toList=some cs) (h:p (.agg cs) w):OkP P o a w p:=by
 unfold OkP execOp;simp only[ho,hv,Sem.run_bind,run_build w t vs cs hb,Result.andThen_ok,Sem.run_pure];exact h
theorem Xk {t:TypeId} {n:Nat} {parts:Array (Nat×Operand)} {vs:Array (Nat×Value)} {v:Value} (ho:o.op=.buildSlice t n parts) (hv:(parts.map fun (i,x)=>(i,a.eval x))=vs) (hr:(Instr.buildSlice t n vs).run P w=.ok v w') (h:p v w'):OkP P o a w p:=by
 unfold OkP execOp;simp only[ho,hv,Sem.run_bind,hr,Result.andThen_ok,Sem.run_pure];exact h
theorem zhK {t:TypeId} {x:Operand} {b:Addr} {v:Value} (ho:o.op=.load t x) (hx:a.eval x=.pointer (some b)) (hr:(loadVar t b).run P w=.ok v w) (h:p v w):OkP P o a w p:=by
 unfold OkP execOp;simp only[ho,hx,Instr.loadAt,Instr.sureAddr,Sem.run_bind,Sem.run_pure,Result.andThen_ok,hr];exact h
theorem zbm {t:TypeId} {x y:Operand} {b:Addr} {v:Value} (ho:o.op=.store t x y) (hx:a.eval x=.pointer (some b)) (hy:a.eval y=v) (hr:(storeVar t b v).run P w=.ok () w') (h:p undef w'):OkP P o a w p:=by
 unfold OkP execOp;simp only[ho,hx,hy,Instr.storeAt,Instr.sureAddr,Sem.run_bind,Sem.run_pure,Result.andThen_ok,hr];exact h
theorem zcN {s x:Operand} {t:TypeId} {v u r:Value} (ho:o.op=.call {callee:=.builtin .append,args:=#[s,x],argTypes:=#[t,t]}) (hs:a.eval s=v) (hx:a.eval x=u) (hr:(Builtin.append_ #[t,t] o.type #[v,u]).run P w=.ok r w') (h:p r w'):OkP P o a w p:=by
 unfold OkP execOp;simp only[ho,resolve,invoke,builtin,Sem.run_bind,Sem.run_pure,Result.andThen_ok,List.map_toArray,List.map_cons,List.map_nil,hs,hx,hr];exact h
end
def Ph (l:List World):Nat->World->Prop:=fun p W=>l[p]?=some W
end Gw
section
open Go.RowKit Me Rw Ds
theorem zeb (off:Nat) (l:List Value) (cs:Array Value) (h:off+l.length<=cs.size) :
 ((l.toArray.zipIdx).foldl (fun cs (x:Value×Nat)=>cs.setIfInBounds (off+x.2) x.1) cs)=(splice cs.toList off l).toArray:=by
 have e:((l.toArray.zipIdx).foldl (fun cs (x:Value×Nat)=>cs.setIfInBounds (off+x.2) x.1) cs)=((l.zipIdx 0).foldl (fun cs (x:Value×Nat)=>cs.setIfInBounds (off+x.2) x.1) cs):=by
  rw[<-Array.foldl_toList]
  simp
 rw[e];obtain ⟨h1,h2⟩:=Great.foldl_set off l 0 cs
 apply Array.ext_getElem?
 intro k;rw[h2 k];simp only[Nat.add_zero,List.getElem?_toArray,splice,List.getElem?_append,List.length_take,Array.length_toList,List.getElem?_take,List.getElem?_drop,Array.getElem?_toList]
 by_cases h3:k<off
 ·rw[if_neg (by omega),if_pos (by omega),if_pos h3]
 ·by_cases h4:k<off+l.length
  ·rw[if_pos (by omega),if_neg (by omega),if_pos (by omega)]
   congr 1;omega
  ·rw[if_neg (by omega),if_neg (by omega),if_neg (by omega)]
   congr 1;omega
def placesOf (P:Program) (t:TypeId):Option (List (Nat×Nat)):=match P.underlying t with
 |some (.struct fields)=>fields.toList.mapM (fun f=>(P.info? f.type).map fun i=>(f.offset,i.size))
 |_=>none
theorem zdn {P:Program} {t:TypeId} {pl:List (Nat×Nat)} {z:Value} {n:Nat} {parts:List (Nat×Value)} {cs:Array Value} (hp:placesOf P t=some pl) (hz:(P.info? t).map (fun i=>(i.zero,i.size))=some (some z,n))
 (hf:Instr.fill (pl.toArray[·]?) z.cells parts=some cs):P.built t parts=some cs:=by
 unfold placesOf at hp;unfold Program.built
 cases hi:P.info? t with
 |none=>rw[hi] at hz;cases hz
 |some it=>
  rw[hi] at hz;simp only[Option.map_some] at hz;injection hz with hz;injection hz with hz _
  cases hu:P.underlying t with
  |none=>rw[hu] at hp;cases hp
  |some d=>
   rw[hu] at hp
   cases d<;>simp_all
theorem zbD {pl:Nat->Option (Nat×Nat)} {cs:Array Value} {i off n:Nat} {v:Value} {rest:List (Nat×Value)} (hp:pl i=some (off,n)) (hv:v.cells.size=n) (ho:off+n<=cs.size) :
 Instr.fill pl cs ((i,v)::rest)=Instr.fill pl (splice cs.toList off v.cells.toList).toArray rest:=by
 rw[Instr.fill,hp];simp only;rw[if_neg (by simp[hv];omega)]
 congr 1
 have:=zeb off v.cells.toList cs (by simp[hv];omega);rw[<-this]
theorem zep (i:Int) (b:List UInt8) (hb:b.length=128):Tryz.prog.built 238 [(0,.int .i64 i),(1,.agg (cellsOf b).toArray)]=some (Value.int .i64 i::cellsOf b).toArray:=by
 refine zdn (pl:=[(0,1),(1,128)]) (by kernel_rfl) qZ ?_;rw[zbD (off:=0) (n:=1) rfl rfl (by simp[qA,Value.cells]),zbD (off:=1) (n:=128) rfl (by simp[Value.cells,za,hb]) (by simp[splice,qA,Value.cells])];rw[Instr.fill]
 congr 2
 have e:(Value.agg (cellsOf b).toArray).cells.toList=cellsOf b:=by simp[Value.cells]
 rw[e];have e2:splice (Value.agg qA).cells.toList 0 (Value.int IntKind.i64 i).cells.toList=Value.int .i64 i::List.replicate 128 (.int .u8 0):=by
  simp[splice,qA,Value.cells]
 rw[e2];unfold splice;rw[List.drop_of_length_le (by simp[za,hb]),List.append_nil];rfl
theorem zbb (w:World) (cs:List Value) (hc:cs.length=129):(Instr.buildSlice 103 1 #[(0,.agg cs.toArray)]).run Tryz.prog w=.ok (.slice (some ⟨w.heap.size,0,none⟩) 1 1) (w.alloc (.cells cs.toArray 238)):=by
 obtain ⟨ie,hie⟩:∃ie,Tryz.prog.info? 238=some ie:=by
  have:=qZ
  cases h:Tryz.prog.info? 238 with
  |none=>rw[h] at this;cases this
  |some ie=>exact ⟨ie,rfl⟩
 have h:=qZ;rw[hie] at h;simp only[Option.map_some] at h;injection h with h;injection h with hz hs;refine run_buildSlice w _ _ 1 _ _ ie _ Tryz.underlying103 hie hz (by rw[hs];decide) (by rw[hs];decide) ?_;rw[hs,zbD (off:=0) (n:=129) rfl (by simp[Value.cells,hc]) (by simp)];rw[Instr.fill]
 congr 2
 rw[xN _ _ (by simp[Value.cells,hc])];simp[Value.cells]
end
section
open Go.RowKit Me Rw Ds
theorem zfI:(Tryz.prog.info? 238).map (fun i=>(i.zero,i.size,i.bytes))=some (some (.agg qA),129,136):=by kernel_rfl
def zY (S:Dsk) (i:Int) (l:List UInt8):Dsk×Int:=
 if S.on then (if hasB S.stored.length i then (if l.length=128 then (if (power S).on then ({power S with pend:=(power S).pend++[⟨i.toNat,l⟩]},0) else (power S,6)) else (S,3)) else (S,9)) else (S,6)
section
variable {w w':World} {B D g:Nat} {Pv:Value} {S:Dsk} {own:Nat->Prop}
theorem Laid.push (h:Laid w B D g Pv S own) {x:WD} (hx:x.b.length=128) (hi:x.i<S.stored.length) (hn:S.pend.length+1<=1073741824) :
 ∃v' w3,(Builtin.append_ #[103,103] 103 #[Pv,.slice (some ⟨w.heap.size,0,none⟩) 1 1]).run Tryz.prog (w.alloc (.cells (zu x).toArray 238))=.ok v' w3 /\
  w3.cell? ⟨D,1,none⟩=some Pv/\w3.frozen? ⟨D,1,none⟩=false/\(∃A n c,v'=.slice A n c) /\
  ∃own',Laid (w3.setCell ⟨D,1,none⟩ v') B D g v' {S with pend:=S.pend++[x]} own'/\Out own w (w3.setCell ⟨D,1,none⟩ v')/\∀k,own' k->own k\/w.heap.size<=k:=by
 obtain ⟨i0,hi0,hz0,hz1,hz2⟩:=info_parts zfI;have hA:=h.out (T:=fun _=>False) (w':=w.alloc (.cells (zu x).toArray 238)) ((Out.refl _ _).alloc _) (fun _ _ h=>h);have hsz:(w.alloc (.cells (zu x).toArray 238)).heap.size=w.heap.size+1:=by simp
 have hnew:=Blk.new w (zu x) 238;have hDlt:=h.blk.lt;obtain ⟨v',w3,hrun,hown,hg,-,hat⟩:=run_append_own_at (P:=Tryz.prog) (w.alloc (.cells (zu x).toArray 238)) B 103 103 238 i0 _ 129 136 Tryz.underlying103 hi0 hz0 hz1 hz2 (by simp[Value.cells,qA]) (by omega) Pv S.pend.length _ hA.pend ⟨w.heap.size,0,none⟩ 1 1 (zu x)
  (by rw[zH hx]) (fun j u hu=>by rw[Addr.add_mid,Nat.zero_add];exact hnew.cell hu) (YM x) (by unfold maxLen;omega) (by omega) (by have:=h.ld;omega)
 have hb3:=hA.blk.grown hg h.pd;have hr3:=hA.rows.grown hg h.pg;have hvD:v'.ownBlock≠some D:=by
  rcases hat with e|e
  ·rw[e];exact h.pd
  ·rw[e,hsz];intro e;injection e with e;omega
 have hvg:v'.ownBlock≠some g:=by
  have:=h.rows.lt;rcases hat with e|e
  ·rw[e];exact h.pg
  ·rw[e,hsz];intro e;injection e with e;omega
 have hD:own D:=(h.own _).2 (.inl rfl);have hout:Out own w w3:=((Out.refl own w).alloc _).grown hg (fun k hk=>.inl ((h.own _).2 (.inr (.inr hk))));have hset:Out (fun k=>k=D) w3 (w3.setCell ⟨D,1,none⟩ v'):=(Out.refl (fun k=>k=D) w3).setCell (p:=⟨D,1,none⟩) (.inl rfl) v';obtain ⟨A',c',hv',-⟩:=zC hown;refine ⟨v',w3,hrun,hb3.cell rfl,hb3.frozen _,⟨A',_,c',hv'⟩,fun k=>k=D\/k=g\/v'.ownBlock=some k,⟨?_,?_,?_,h.dg,hvD,hvg,h.ld,h.lg,fun k=>Iff.rfl,⟨h.good.1,?_,h.good.2.2⟩⟩,hout.setCell (p:=⟨D,1,none⟩) (.inl hD) v',?_⟩
 ·exact hb3.set 1 v'
 ·exact hr3.other (p:=⟨D,1,none⟩) h.dg v'
 ·have:=zn hown hset fun k hk e=>hvD (by rw[hk,e])
  rw[show (S.pend++[x]).length=S.pend.length+1 by simp,zhr];exact this
 ·intro y hy;rcases List.mem_append.1 hy with hy|hy
  ·exact h.good.2.1 y hy
  ·simp at hy;subst hy;exact ⟨hx,hi⟩
 ·rintro k (rfl|rfl|hk)
  ·exact .inl hD
  ·exact .inl ((h.own _).2 (.inr (.inl rfl)))
  ·rcases hat with e|e
   ·exact .inl ((h.own _).2 (.inr (.inr (by rw[<-e];exact hk))))
   ·rw[e,hsz] at hk;injection hk with hk;exact .inr (by omega)
def wrG (D k b o c H:Nat) (l:List UInt8) (Pv v':Value):Gw.Fact:=fun t v _=>
 match t with
 |0|24|25|26|36=>v=.pointer (some ⟨D,0,none⟩)
 |27|37=>v=.pointer (some ⟨D,1,none⟩)
 |1|29=>v=.int .i64 (k:Int)
 |2|30=>v=.slice (some ⟨b,o,none⟩) 128 c
 |28=>v=Pv
 |31=>v=.pointer (some ⟨b,o,none⟩)
 |32=>v=.agg (cellsOf l).toArray
 |33=>v=.agg (zu ⟨k,l⟩).toArray
 |34=>v=.slice (some ⟨H,0,none⟩) 1 1
 |35=>v=v'
 |_=>True
theorem zbS (h:zQ w B D S own) (i:Int) (A:Option Addr) (n c:Nat) (l:List UInt8) (hl:l.length=n) (hr:Cz w own A (cellsOf l)) (hA:∀a,A=some a->a.spot=none) (hp:S.pend.length+1<=1073741824) :
 Calls Tryz.prog 131 #[.pointer (some ⟨D,0,none⟩),.int .i64 i,.slice A n c] w fun e w'=>e=.returned (.int .i64 (zY S i l).2)/\XD w B D (zY S i l).1 own w':=by
 have HON:=gI (zfc h);have HHAS:=gI (zbx h i);have HPW:=gI (Vf h);have HD:=gI h;obtain ⟨R,hR⟩:∃R,R=zY S i l:=⟨_,rfl⟩
 rw[<-hR];have HL:=gI hl;have HRd:=gI hr;clear hr h
 cases ho:S.on with
 |false=>
  rw[ho] at HON;have HE:=gI (show R=(S,6) by rw[hR];unfold zY;rw[ho];rfl);clear hR ho hl
  go_enter Tryz.func131,Tryz.ntmps131
  go_wp2_with (go_at_call 100;refine HON.out.mono ?_;rintro e w' ⟨rfl,rfl⟩)
  go_ret
  rw[HE.out];exact ⟨rfl,.same HD.out (Out.refl _ _)⟩
 |true=>
 rw[ho] at HON
 cases hi:hasB S.stored.length i with
 |false=>
  rw[hi] at HHAS;have HE:=gI (show R=(S,9) by rw[hR];unfold zY;rw[ho,hi];rfl);clear hR ho hl hi
  go_enter Tryz.func131,Tryz.ntmps131
  go_wp2_with (first
   |(go_at_call 100;refine HON.out.mono ?_;rintro e w' ⟨rfl,rfl⟩)
   |(go_at_call 151;refine HHAS.out.mono ?_;rintro e w' ⟨rfl,rfl⟩))
  go_ret
  rw[HE.out];exact ⟨rfl,.same HD.out (Out.refl _ _)⟩
 |true=>
 rw[hi] at HHAS
 by_cases h128:n=128
 ·subst h128;obtain ⟨P,hP⟩:∃P,P=power S:=⟨_,rfl⟩
  rw[<-hP] at HPW
  cases hq:P.on with
  |false=>
   rw[hq] at HPW;have HE:=gI (show R=(P,6) by rw[hR];unfold zY;rw[ho,hi,hl,<-hP,hq];rfl);clear hR ho hl hi hP hq
   go_enter Tryz.func131,Tryz.ntmps131
   go_wp2_with (first
    |(go_at_call 100;refine HON.out.mono ?_;rintro e w' ⟨rfl,rfl⟩)
    |(go_at_call 151;refine HHAS.out.mono ?_;rintro e w' ⟨rfl,rfl⟩)
    |(go_at_call 143;refine HPW.out.mono ?_;rintro e w1 ⟨rfl,hd⟩;have HD1:=gI hd;clear hd))
   go_ret
   rw[HE.out];exact ⟨rfl,HD1.out⟩
  |true=>
   rw[hq] at HPW;obtain ⟨k,rfl,hk⟩:=Zo hi;have HE:=gI (show R=({P with pend:=P.pend++[⟨k,l⟩]},0) by rw[hR];unfold zY;rw[ho,if_pos rfl,hi,if_pos rfl,hl,if_pos rfl,<-hP,if_pos hq];rfl);have hPp:P.pend.length+1<=1073741824:=by rw[hP,(xk S).1];exact hp
   have hPk:k<P.stored.length:=by rw[hP,(xk S).2];exact hk
   have HQ:=gI (And.intro hPp hPk);clear hR ho hi hP hq hPp hPk
   go_enter Tryz.func131,Tryz.ntmps131
   go_wp2_with (first
    |(go_at_call 100;refine HON.out.mono ?_;rintro e w' ⟨rfl,rfl⟩)
    |(go_at_call 151;refine HHAS.out.mono ?_;rintro e w' ⟨rfl,rfl⟩)
    |(go_at_call 143;refine HPW.out.mono ?_;rintro e w1 ⟨rfl,own1,⟨g,Pv,hL1⟩,ho1,hn1⟩;have HL1:=gI hL1;have HO1:=gI (And.intro ho1 hn1);clear hL1 ho1 hn1)
    |fail)
   have hbd:=HL1.out.out (T:=fun _=>False) (xu _ _) (fun _ _ h=>h);obtain ⟨v',w3,hrun,hc3,hf3,⟨A3,n3,c3,hv3⟩,own',hL4,hO4,hn4⟩:=hbd.push (x:=⟨k,l⟩) hl HQ.out.2 HQ.out.1;obtain ⟨-,b1,-,-⟩:=hbd.blk.four;obtain ⟨-,b1',-,-⟩:=(hbd.out (T:=fun _=>False) (w':=w1.drew.alloc (.cells (zu ⟨k,l⟩).toArray 238)) ((Out.refl _ _).alloc _) (fun _ _ h=>h)).blk.four;obtain ⟨⟨b,o,sp⟩,rfl,hbl,hbn,hbc⟩:=HRd.out (by rw[za,hl];omega)
   obtain rfl:sp=none:=hA _ rfl
   have hload:(loadVar 224 ⟨b,o,none⟩).run Tryz.prog w1.drew=.ok (.agg (cellsOf l).toArray) w1.drew:=
    run_loadVar_mid w1.drew b o 224 (cellsOf l) _ (fun j v hv=>by
     have:=hbc j v hv;rw[Addr.add_mid] at this;exact (HO1.out.1.cell (p:=⟨b,o+j,none⟩) hbl hbn).trans this) Tryz.underlying224 rfl (by rw[za,hl];exact qx)
   have harr:∀w,(Instr.arrayAt 224 (.slice (some ⟨b,o,none⟩) 128 c)).run Tryz.prog w=.ok (.pointer (some ⟨b,o,none⟩)) w:=fun w=>run_arrayAt w 224 _ 128 _ 128 c Tryz.underlying224 (by omega)
   have hstore:(storeVar 103 ⟨D,1,none⟩ v').run Tryz.prog w3=.ok () (w3.setCell ⟨D,1,none⟩ v'):=by
    subst hv3;simp[go_sem,hc3,hf3]
   have hsl:=zbb w1.drew (zu ⟨k,l⟩) (zH hl);have hbu:=zep k l hl;obtain ⟨wA,hwA⟩:∃wA,wA=w1.drew.alloc (.cells (zu ⟨k,l⟩).toArray 238):=⟨_,rfl⟩
   rw[<-hwA] at b1' hsl hrun;clear hwA;have HLd:=gI hload;have HSt:=gI hstore;have HSl:=gI hsl;have HBu:=gI hbu;have HRun:=gI hrun;have HL4:=gI hL4;have HO4:=gI (And.intro hO4 hn4);clear hload hstore hsl hbu hrun hL4 hO4 hn4 hbd hbc hbl hbn hc3 hf3 hv3 hl;refine Gw.zN (fun _ _=>True) (fun _=>trivial) (fun _ _ _ _ _=>trivial) (Gw.Ph [w1.drew,wA,w3,w3.setCell ⟨D,1,none⟩ v']) (wrG D k b o c w1.heap.size l Pv v') [10,11,14] [24,25,26,27,28,29,30,31,32,33,34,35,36,37] [([0],none,[0,1,2],false),([0],none,[0,1],false),([25],none,[0,1],false),([26],none,[0,1],false),([27],none,[0,1],false),([1],none,[0],false),([2],none,[0],false),([30],none,[0],false),([31],none,[0],false),([29,32],none,[0],false),([33],none,[0],true),([28,34],none,[1],true),([24],none,[2],false),([36],none,[2],false),([37,35],none,[2],true)] 38 3 (by kernel_rfl) (by kernel_rfl) rfl trivial rfl ?h0 ?hreq ?hend
   case h0=>
    intro t W hnd _;unfold wrG
    split<;>first|rfl|trivial|exact absurd (by simp) hnd
   case hreq=>
    refine ⟨⟨?_,?_,?_,trivial⟩,⟨?_,?_,trivial⟩,⟨?_,?_,trivial⟩,⟨?_,?_,trivial⟩,⟨?_,?_,trivial⟩,⟨?_,trivial⟩,⟨?_,trivial⟩,⟨?_,trivial⟩,⟨?_,trivial⟩,⟨?_,trivial⟩,⟨?_,trivial⟩,⟨?_,trivial⟩,⟨?_,trivial⟩,⟨?_,trivial⟩,⟨?_,trivial⟩,trivial⟩
    all_goals
     intro ac W _ hI hk
     obtain rfl:=Option.some.inj hI
     clear hI;simp only[Gw.Knows,wrG] at hk
     try (simp[go_sem,Gw.yo,Gw.OkP,Gw.xH,Gw.zW,Gw.Ph,wrG,hk,b1,b1',harr];done)
    ·exact Gw.zhK rfl ((Gw.zD ac 31).trans hk.1) HLd.out ⟨trivial,rfl,fun _ _=>rfl⟩
    ·exact Gw.zjV rfl (by simp[Gw.zD,hk]) HBu.out ⟨trivial,rfl,fun _ _=>rfl⟩
    ·exact Gw.Xk rfl (by simp[Gw.zD,hk]) HSl.out ⟨trivial,rfl,fun _ _=>rfl⟩
    ·exact Gw.zcN rfl ((Gw.zD ac 28).trans hk.1) ((Gw.zD ac 34).trans hk.2.1) HRun.out ⟨trivial,rfl,fun _ _=>rfl⟩
    ·exact Gw.zbm rfl ((Gw.zD ac 37).trans hk.1) ((Gw.zD ac 35).trans hk.2.1) HSt.out ⟨trivial,rfl,trivial⟩
   case hend=>
    intro x' w' _ hI hx
    obtain rfl:=Option.some.inj hI
    clear hx hI;simp only[Gw.zm,Act.put,List.setIfInBounds_toArray,List.set_cons_zero,List.set_cons_succ]
    go_wp2
    go_ret
    rw[HE.out];obtain ⟨hO4,hn4⟩:=HO4.out;obtain ⟨ho1,hn1⟩:=HO1.out;refine ⟨rfl,own',⟨g,v',HL4.out⟩,ho1.trans' ((xu own1 _).trans hO4) hn1,fun j hj=>?_⟩;rcases hn4 j hj with h|h
    ·exact hn1 j h
    ·exact .inr (Nat.le_trans ho1.size h)
 ·have HE:=gI (show R=(S,3) by rw[hR];unfold zY;rw[ho,if_pos rfl,hi,if_pos rfl,if_neg (by omega)]);have d1:((n:Int) != 128)=true:=by rw[bne_iff_ne];omega
  clear hR ho hl hi
  go_enter Tryz.func131,Tryz.ntmps131
  go_wp2_with (first
   |(go_at_call 100;refine HON.out.mono ?_;rintro e w' ⟨rfl,rfl⟩)
   |(go_at_call 151;refine HHAS.out.mono ?_;rintro e w' ⟨rfl,rfl⟩))
  go_ret
  rw[HE.out];exact ⟨rfl,.same HD.out (Out.refl _ _)⟩
end
end
section
open Go.RowKit Me Rw Ds
theorem zes:(Tryz.prog.info? 224).map (fun i=>(i.zero,i.size,i.bytes))=some (some (.agg (Array.replicate 128 (.int .u8 0))),128,128):=by kernel_rfl
def newD (n:Nat):Dsk:={stored:=List.replicate n qI,pend:=[],on:=true,fuse:=-1}
theorem zgE:cellsOf qI=List.replicate 128 (.int .u8 0):=by simp[cellsOf,qI]
theorem zcg:∀n:Nat,Rw.rows cellsOf (List.replicate n qI)=List.replicate (n*128) (.int .u8 0)
 |0=>rfl
 |n+1=>by
  rw[List.replicate_succ,qC,zcg n,zgE,List.replicate_append_replicate]
  congr 1
  omega
theorem zgh (n:Nat):(madeCells (Value.agg (Array.replicate 128 (.int .u8 0))).cells (n*128)).toList=Rw.rows cellsOf (List.replicate n qI):=by
 rw[zcg];unfold madeCells
 apply List.ext_getElem?
 intro i
 by_cases hi:i<n*128
 ·have:i%128<128:=Nat.mod_lt _ (by omega);simp[hi,Value.cells,this]
 ·simp[hi]
theorem Blk.of_own {w:World} {base size n g:Nat} {e:TypeId} {xs:List Value} (h:w.ownsRow base e size (.slice (some ⟨g,0,none⟩) n n) n xs):Blk w g xs:=by
 obtain ⟨h1,h2⟩:=h;rcases h2 with ⟨h,-⟩|⟨g',cap,cur,hv,-,hg,-,-,hs,ht⟩
 ·cases h
 ·injection hv with e1 e2 e3;injection e1 with e1;injection e1 with e1;subst e1 e3;rw[List.take_of_length_le (by simp[hs])] at ht;subst ht;exact ⟨e,by simpa using hg⟩
theorem zkA (n:Nat) (h1:1<=n) (hn:n<=65536) (w:World) :
 Calls Tryz.prog 26 #[.int .i64 (n:Int)] w fun e w'=>∃D own,e=.returned (.tuple #[.pointer (some ⟨D,0,none⟩),.int .i64 0])/\zQ w' w.heap.size D (newD n) own/\Below w.heap.size w w':=by
 obtain ⟨i0,hi0,hz0,hz1,hz2⟩:=info_parts zes;have d1:decide ((n:Int)<1)=false:=by simp;omega
 have d2:decide ((65536:Int)<(n:Int))=false:=by simp;omega
 have q0:(n:Int)<=65536:=by omega
 go_enter Tryz.func26,Tryz.ntmps26
 go_wp2_with (refine wpList_make_full w rfl _ _ 102 rfl w.heap.size 224 i0 _ 128 Tryz.underlying102 hi0 hz0 hz1 .i64 .i64 _ _ n rfl rfl rfl rfl (by rw[hz2];omega) (by unfold maxLen;omega) (Nat.le_refl _) ?_
              intro w1 ho1 hg1;rw[zgh] at ho1;have HO1:=gI ho1;have HG1:=gI hg1;clear ho1 hg1)
 refine bodyPost_ret (v:=.tuple #[.pointer (some ⟨w1.heap.size,0,none⟩),.int .i64 0]) (by simp[results,Tryz.results26,go_sem]) rfl ?_;have hb:=Blk.of_own HO1.out;have hlt:=hb.lt;have hne:w1.heap.size≠w.heap.size:=by omega
 have hbelow:Below w.heap.size w w1:=(Below.refl _ _).grown HG1.out (Nat.le_refl _) (fun k e=>by cases e);refine ⟨w1.heap.size,fun k=>k=w1.heap.size\/k=w.heap.size,rfl,⟨w.heap.size,.slice none 0 0,?_⟩,hbelow.alloc hbelow.size _⟩;refine ⟨?_,hb.alloc _,World.ownsRow_nil _ _ _ _,hne,by simp[Value.ownBlock],by simp[Value.ownBlock],by omega,Nat.le_refl _,fun k=>by simp[Value.ownBlock],⟨fun b hb=>?_,fun x hx=>(by cases hx),?_,?_,?_,?_⟩⟩
 ·have:=Blk.new w1 [.slice (some ⟨w.heap.size,0,none⟩) n n,.slice none 0 0,.bool true,.int .i64 (-1)] 105
  simpa [newD] using this
 ·have:=List.eq_of_mem_replicate hb;rw[this];exact vZ
 ·simpa [newD] using h1
 ·simpa [newD] using hn
 ·simp[newD]
 ·simp[newD]
end
end
end Go.Proofs.YtcdkopbjlakebaaGreatDoor
