/- Texts put together, for a law: Gen, RnP, HpP, MwP, MyP, RcP, Tx, TxL, DnP, AppRow, GwT, Gw2. -/
import Derived.Test.YtcdkopbjlakebaaGreatDoorRows
import Derived.WalkKit
import Derived.ProofKit
import Derived.Lib.SmallJoins
import Derived.Below
import Derived.Laws.OwnMore
import Derived.Deep.AppendLies
import Derived.Deep.Draws
import Derived.Maps.AppendAt
import Derived.RegionTactic
import Derived.OwnWalk
import Derived.Laws.BytesArg
import Derived.WalkSpells
import Derived.Lib.Hide
import Derived.Lib.SliceRun
import Derived.WalkLawsBesides
import Derived.Deep.Slices
import Derived.Deep.Fields
import Derived.ChangeSame
import Derived.Laws.BitsAllLaws
import Derived.Orders
import Derived.BigFrame
import Derived.Deep.MidRow
import Derived.Laws.CopyOwn
import Derived.Laws.MakeOwn
import Derived.Laws.IdiomStrings
set_option maxRecDepth 100000
set_option maxHeartbeats 8000000
namespace Go.Proofs.YtcdkopbjlakebaaGreatDoor
theorem gI {p:Prop} (h:p):Go.RowKit.Hid p:=h
section
section
open Go.RowKit
theorem qK {k:IntKind} {a b:Int} (h:a=b):Ending.returned (.int k a)=.returned (.int k b):=by rw[h]
theorem own:ownKnob Tryz.prog.godebug=none:=by kernel_rfl
theorem laidOut:laidOutB Tryz.prog=true:=by kernel_rfl
end
namespace Me
open Go.RowKit
theorem block_add (a:Addr) (n:Nat):(a.add n).block=a.block:=by unfold Addr.add;split<;>rfl
theorem add_add (a:Addr) (i j:Nat):(a.add i).add j=a.add (i+j):=by
 unfold Addr.add
 by_cases hi:i=0<;>by_cases hj:j=0<;>simp[hi,hj,Nat.add_assoc]
def cellsOf (l:List UInt8):List Value:=l.map fun u=>Value.int .u8 (u.toNat:Int)
theorem za (l:List UInt8):(cellsOf l).length=l.length:=by simp[cellsOf]
theorem qz (l m:List UInt8):cellsOf (l++m)=cellsOf l++cellsOf m:=by simp[cellsOf]
theorem Y3 {l:List UInt8} {i:Nat} {u:UInt8} (h:l[i]?=some u):(cellsOf l)[i]?=some (.int .u8 (u.toNat:Int)):=by simp[cellsOf,h]
theorem xL (l:List UInt8):∀v∈cellsOf l,v.oneCell'=true:=by
 intro v hv;simp only[cellsOf,List.mem_map] at hv;obtain ⟨u,-,rfl⟩:=hv;rfl
def Rd (w:World) (B:Nat) (A:Option Addr) (l:List UInt8):Prop:=
 0<l.length->∃a,A=some a/\a.block<B/\∀i u,l[i]?=some u->w.cell? (a.add i)=some (.int .u8 (u.toNat:Int))
section
variable {w w':World} {B B':Nat} {A:Option Addr} {l:List UInt8}
theorem Rd.empty:Rd w B A []:=fun h=>by simp at h
theorem yw {l:List UInt8} {k:Nat} {u:UInt8} (h:l[k]?=some u):l.take (k+1)=l.take k++[u]:=by
 rw[List.take_add_one,h];rfl
theorem Rd.at {k:Nat} (h:Rd w B A l) (hk:k<l.length):∃a u,A=some a/\a.block<B/\l[k]?=some u/\w.cell? (a.add k)=some (.int .u8 (u.toNat:Int)):=by
 obtain ⟨a,e,hb,hc⟩:=h (by omega);exact ⟨a,l[k],e,hb,List.getElem?_eq_getElem hk,hc k _ (List.getElem?_eq_getElem hk)⟩
theorem Rd.keep (h:Rd w B A l) (hk:∀p:Addr,p.block<B->w'.cell? p=w.cell? p):Rd w' B A l:=fun hn=>by
 obtain ⟨a,e,hb,hc⟩:=h hn;exact ⟨a,e,hb,fun j u hu=>(hk _ (by rw[block_add];exact hb)).trans (hc j u hu)⟩
theorem Rd.more (h:Rd w B A l) (hB:B<=B'):Rd w B' A l:=fun hn=>by
 obtain ⟨a,e,hb,hc⟩:=h hn;exact ⟨a,e,by omega,hc⟩
theorem Rd.below (h:Rd w B A l) (hb:Below B w w'):Rd w' B A l:=h.keep fun _ hp=>hb.cell hp
theorem Rd.drew (h:Rd w B A l):Rd w.drew B A l:=h
theorem Rd.alloc (h:Rd w B A l) (hB:B<=w.heap.size) (o:Obj):Rd (w.alloc o) B A l:=h.keep fun p hp=>World.cell?_alloc_lt w o p (by omega)
theorem Rd.setCell (h:Rd w B A l) {p:Addr} (hB:B<=p.block) (u:Value):Rd (w.setCell p u) B A l:=
 h.keep fun q hq=>World.cell?_setCell_other w p q u (fun e=>by subst e;omega)
theorem Rd.grown (h:Rd w B A l) {row:Option Nat} (hg:w.grownBy w' row) (hB:B<=w.heap.size) (hr:∀g,row=some g->B<=g):Rd w' B A l:=
 h.keep fun p hp=>World.cell?_of_block (hg.block p.block (by omega) (fun e=>by have:=hr _ e.symm;omega))
theorem Rd.take (h:Rd w B A l) (k:Nat):Rd w B A (l.take k):=fun hn=>by
 obtain ⟨a,e,hb,hc⟩:=h (by simp at hn;omega);refine ⟨a,e,hb,fun i u hu=>hc i u ?_⟩;rw[List.getElem?_take] at hu
 split at hu
 ·exact hu
 ·cases hu
theorem Rd.drop (h:Rd w B A l) {k cap:Nat} (hc:l.length<=cap):Rd w B (if cap=k then A else A.map (·.add k)) (l.drop k):=fun hn=>by
 obtain ⟨a,rfl,hb,hcell⟩:=h (by simp at hn;omega);rw[if_neg (by simp at hn;omega)];refine ⟨a.add k,rfl,by rw[block_add];exact hb,fun j u hu=>?_⟩;rw[add_add];exact hcell _ u (by rw[<-hu,List.getElem?_drop])
theorem Rd.of_own {base:Nat} {e:TypeId} {c:Nat} {n:Nat} (h:w.ownsRow base e 1 (.slice A n c) n (cellsOf l)):Rd w w.heap.size A l:=fun hn=>by
 have hl:=h.1;rw[za] at hl;obtain ⟨g,cap,hv,_,hlt⟩:=h.form (by omega);have hA:A=some ⟨g,0,none⟩:=by injection hv
 subst hA;exact ⟨_,rfl,hlt,fun i u hu=>h.cells (g:=g) rfl i _ (Y3 hu)⟩
theorem Rd.of_block {g:Nat} {cur:Array Value} {t:TypeId} {fr:Nat×Nat} (hh:w.heap[g]?=some (.cells cur t fr)) (hc:∀(i:Nat) (u:UInt8),l[i]?=some u->cur[i]?=some (Value.int .u8 (u.toNat:Int))):Rd w w.heap.size (some ⟨g,0,none⟩) l:=fun _=>by
 refine ⟨_,rfl,(Array.getElem?_eq_some_iff.1 hh).1,fun i u hu=>?_⟩;have e:(⟨g,0,none⟩:Addr).add i=⟨g,i,none⟩:=by unfold Addr.add;split<;>simp_all
 rw[e];simp only[World.cell?,hh]
 simpa using hc i u hu
end
section
variable {P:Program}
theorem zlm (src e dst:TypeId) (hs:P.underlying src=some (.slice e)) (he:P.underlying e=some (.int .u8)) (hd:P.underlying dst=some .string) (w:World) (B:Nat) (A:Option Addr) (l:List UInt8) (n c:Nat)
 (hn:l.length=n) (h:Rd w B A l):(convert src dst (.slice A n c)).run P w=.ok (.string ⟨l.toArray⟩) w:=by
 rw[run_convert_bytes_string w src dst e A n c hs he hd];subst hn
 cases A with
 |none=>
  have h0:l=[]:=by
   rcases Nat.eq_zero_or_pos l.length with h0|h0
   ·exact List.eq_nil_of_length_eq_zero h0
   ·obtain ⟨a,e,_⟩:=h h0
    cases e
  subst h0;have:=run_convert_bytes_string (P:=P) w src dst e none 0 c hs he hd;simp[Conv.bytesToString];rfl
 |some a=>
  have hload:(loadCells a l.length).run P w=.ok ((l.map fun u=>(u.toNat:Int)).map (Value.int .u8)).toArray w:=by
   have:=run_loadCells_list (P:=P) w a (cellsOf l) (fun j v hv=>by
    simp only[cellsOf,List.getElem?_map] at hv
    cases hj:l[j]? with
    |none=>simp[hj] at hv
    |some u=>
     simp[hj] at hv;subst hv;have hlt:j<l.length:=(List.getElem?_eq_some_iff.1 hj).1;obtain ⟨a',e,_,hc⟩:=h (by omega)
     cases e
     exact hc j u hj)
   rw[za] at this;rw[this];simp[cellsOf,Function.comp_def]
  rw[run_bytesToString w a l.length c _ hload,foldl_push_bytes]
  congr 2
  simp[Function.comp_def]
end
section
variable {P:Program}
theorem zhn (w:World) (base:Nat) (t ty e:TypeId) (i:TypeInfo) (z:Value) (ht:P.underlying t=some (.slice e)) (hi:P.info? e=some i) (hz:i.zero=some z) (hsize:i.size=1) (hby:i.bytes=1) (hzs:z.cells.size=1)
 (v:Value) (n:Nat) (l:List UInt8) (hown:w.ownsRow base e 1 v n (cellsOf l)) (B:Nat) (A:Option Addr) (k c:Nat) (m:List UInt8) (hm:m.length=k) (hr:Rd w B A m) (hbytes:n+k<=140737488355328) (hbase:base<=w.heap.size) :
 ∃v' w',(Builtin.append_ #[t,t] ty #[v,.slice A k c]).run P w=.ok v' w'/\w'.ownsRow base e 1 v' (n+k) (cellsOf (l++m))/\w.grownBy w' v.ownBlock/\(v'.ownBlock=v.ownBlock\/v'.ownBlock=some w.heap.size):=by
 cases A with
 |none=>
  have h0:m=[]:=by
   rcases Nat.eq_zero_or_pos m.length with h0|h0
   ·exact List.eq_nil_of_length_eq_zero h0
   ·obtain ⟨a,e,_⟩:=hr h0
    cases e
  subst h0;subst hm;refine ⟨v,w,?_,by simpa using hown,World.grownBy.refl w _,.inl rfl⟩;rcases hown.2 with ⟨rfl,rfl⟩|⟨g,cap,cur,rfl,_,_,hnc,_⟩
  ·simp[Builtin.append_,run_underlying ht,sizeOf,typeInfo,hi,Builtin.lenOf,Builtin.firstCells]
  ·simp[Builtin.append_,run_underlying ht,sizeOf,typeInfo,hi,Builtin.lenOf,Builtin.firstCells,hnc,storeCells]
 |some a=>
  have hcells:∀j u,(cellsOf m)[j]?=some u->w.cell? (a.add j)=some u:=fun j u hu=>by
   simp only[cellsOf,List.getElem?_map] at hu
   cases hj:m[j]? with
   |none=>simp[hj] at hu
   |some x=>
    simp[hj] at hu;subst hu;have hlt:j<m.length:=(List.getElem?_eq_some_iff.1 hj).1;obtain ⟨a',e,_,hc⟩:=hr (by omega)
    cases e
    exact hc j x hj
  obtain ⟨v',w',hrun,h2,h3,_,h5⟩:=run_append_own_at (P:=P) w base t ty e i z 1 1 ht hi hz hsize hby hzs (by omega) v n (cellsOf l) hown a k c (cellsOf m) (by rw[za];omega) hcells (xL m) (by unfold maxLen;omega) (by omega) hbase;rw[<-qz] at h2;exact ⟨v',w',hrun,h2,h3,h5⟩
theorem zF {w:World} {ops:Array Oper} {rest:List Oper} {o:Oper} {a:Act} {Q:Exit->Act->World->Prop} (hgd:o.guard=none) (s x:Operand) (t:TypeId)
 (ho:o.op=.call {callee:=.builtin .append,args:=#[s,x],argTypes:=#[t,t]})
 (base:Nat) (e:TypeId) (i:TypeInfo) (z:Value) (ht:P.underlying t=some (.slice e)) (hi:P.info? e=some i) (hz:i.zero=some z) (hsize:i.size=1) (hby:i.bytes=1) (hzs:z.cells.size=1)
 (v:Value) (n:Nat) (l:List UInt8) (hs:a.eval s=v) (hown:w.ownsRow base e 1 v n (cellsOf l)) (B:Nat) (A:Option Addr) (k c:Nat) (m:List UInt8) (hx:a.eval x=.slice A k c) (hm:m.length=k) (hr:Rd w B A m)
 (hbytes:n+k<=140737488355328) (hbase:base<=w.heap.size)
 (h:∀v' w',w'.ownsRow base e 1 v' (n+k) (cellsOf (l++m))->w.grownBy w' v.ownBlock->(v'.ownBlock=v.ownBlock\/v'.ownBlock=some w.heap.size)->wpList P ops Q rest (a.put o.dst v') w'):wpList P ops Q (o::rest) a w:=by
 refine wpList_plain hgd fun K hK=>?_
 obtain ⟨v',w',hrun,h2,h3,h4⟩:=zhn (P:=P) w base t o.type e i z ht hi hz hsize hby hzs v n l hown B A k c m hm hr hbytes hbase;unfold Oper.wp execOp;simp only[ho,resolve,invoke,builtin,Sem.run_bind,Sem.run_pure,Result.andThen_ok,List.map_toArray,List.map_cons,List.map_nil,hs,hx,hrun];exact hK _ _ (h v' w' h2 h3 h4)
theorem qF (w:World) (base:Nat) (e:TypeId) (hb:base<=w.heap.size):(w.alloc (.cells #[] e)).ownsRow base e 1 (.slice (some ⟨w.heap.size,0,none⟩) 0 0) 0 (cellsOf []):=
 World.ownsRow_lit w #[] 0 hb (by unfold maxLen;omega) rfl
theorem Rd.lit (w:World) (cs:Array Value) (t:TypeId) (l:List UInt8) (hc:cs.toList=cellsOf l):Rd (w.alloc (.cells cs t)) (w.heap.size+1) (some ⟨w.heap.size,0,none⟩) l:=by
 have hh:=heap_alloc_new w (.cells cs t);have:=Rd.of_block (l:=l) hh (fun i u hu=>by
  have:=Y3 hu;rw[<-hc] at this
  simpa using this)
 rwa[World.size_alloc] at this
theorem zU {w:World} {base base':Nat} {e:TypeId} {size:Nat} {v:Value} {n:Nat} {xs:List Value} (h:w.ownsRow base' e size v n xs) (hb:base<=base'):w.ownsRow base e size v n xs:=by
 refine ⟨h.1,?_⟩;rcases h.2 with h0|⟨g,cap,cur,h1,h2,h3⟩
 ·exact .inl h0
 ·exact .inr ⟨g,cap,cur,h1,by omega,h3⟩
theorem zJ {w:World} {base:Nat} {e:TypeId} {v:Value} {n:Nat} {xs:List Value} (h:w.ownsRow base e 1 v n xs):∃A c,v=.slice A n c:=by
 rcases h.2 with ⟨rfl,rfl⟩|⟨g,cap,cur,rfl,_⟩
 ·exact ⟨_,_,rfl⟩
 ·exact ⟨_,_,rfl⟩
theorem zlw {w:World} {base:Nat} {e:TypeId} {A:Option Addr} {n c:Nat} {xs:List Value} (h:w.ownsRow base e 1 (.slice A n c) n xs) (hn:0<n):n<=c:=by
 rcases h.2 with ⟨_,h0⟩|⟨g,cap,cur,h1,_,_,h2,_⟩
 ·omega
 ·injection h1 with _ _ h3;omega
theorem own_below {w w':World} {base:Nat} {e:TypeId} {v:Value} {n:Nat} {xs:List Value} (h:w.ownsRow base e 1 v n xs) (hb:Below w.heap.size w w'):w'.ownsRow base e 1 v n xs:=
 h.kept (row:=none) ⟨hb.os,hb.tape,hb.output,hb.size,fun k hk _=>hb.block k hk⟩ (by
  rcases h.2 with ⟨rfl,_⟩|⟨g,cap,cur,rfl,_⟩
  ·exact .inl rfl
  ·exact .inr (by simp[Value.ownBlock]))
theorem yj {B:Nat} {a w w':World} {v:Value} {base n:Nat} {e:TypeId} {xs:List Value} (h:Below B a w) (hown:w.ownsRow base e 1 v n xs) (hB:B<=base) (hs:B<=w.heap.size) (hg:w.grownBy w' v.ownBlock):Below B a w':=
 h.grown hg hs fun k hk=>by have:=(hown.lt k hk).1;omega
end
end Me
namespace Lw
open Go.ChangeShapes Go.WideShapes Go.ChangeAt Go.RowKit
section
variable {H:Type} {enc:TypeId×Value->H} {P:Program}
theorem Xa (hl:laidOutB P=true) {W W':World} (hb:Below W.heap.size W W') :
 ∀{ts:List TypeId} {vs:List Value} {ds:List (DataW H)} {p:List MemPlace},
  (∀t∈ts,P.readableRec t=true/\t<P.types.size)->(∀x∈p,x.block<W.heap.size) ->
  DataW.TrodAll enc P W 0 (fun _=>true) true ts vs ds p->DataW.TrodAll enc P W' 0 (fun b=>decide (b<W.heap.size)) true ts vs ds p
 |[],_,_,_,_,_,h=>by
  obtain ⟨rfl,rfl,rfl⟩:=trodAll_nil h;exact trodAll_mk0
 |t::ts,_,_,_,hr,hlt,h=>by
  obtain ⟨v,vs1,d,ds1,a,b,rfl,rfl,rfl,h1,h2⟩:=trodAll_cons h;exact trodAll_cons_mk (Below.trod hl (hr t (by simp)).1 (hr t (by simp)).2 h1 hb (fun x hx=>hlt x (by simp[hx])))
   (Xa hl hb (fun t' ht'=>hr t' (by simp[ht'])) (fun x hx=>hlt x (by simp[hx])) h2)
def zmd (P:Program) (f:Func):Bool:=f.params.toList.all fun t=>P.readableRec t&&decide (t<P.types.size)
theorem zhC {f:Func} {s:ChangeSpec} {fresh handsOn:Bool} {W W':World} {args:Array Value} {ds gs:List (DataW H)} {before:List MemPlace} {bt:TypeId}
 (hl:laidOutB P=true) (hr:zmd P f=true) (hs:s.vars=[]) (hf:(s.fn H ds).results=[.lit (.bool true)]) (ha:(s.fn H ds).args=ds) (hv:(s.fn H ds).vars=[])
 (hrt:f.resultTypes=#[bt]) (hbt:P.underlying bt=some .bool)
 (hW:DataW.Whole enc P f.params.toList s.vars false W args.toList ds gs before) (hb:Below W.heap.size W W') :
 s.post enc P f false fresh handsOn false W args (.bool true) W':=by
 have hlt:∀p∈before,p.block<W.heap.size:=fun p hp=>hW.lt p hp
 have hW':=hW;obtain ⟨p,q,hA,hV,hpq,_,_⟩:=hW;rw[hs] at hV;obtain ⟨rfl,rfl⟩:=trodVars_none hV;simp only[List.append_nil] at hpq;subst hpq;have hrr:∀t∈f.params.toList,P.readableRec t=true/\t<P.types.size:=fun t ht=>by
  have:=List.all_eq_true.1 hr t ht
  simpa using this
 refine ⟨ds,[],before,[],before,[],hW',?_,?_,?_,World.keptBut_mono (fun p hp=>⟨hp,?_⟩) (hb.frame (·∈before)),fun h=>by cases h⟩
 ·rw[List.append_nil,hf,hrt];exact trodAll_mk1 (shut_bool hbt true)
 ·rw[List.append_nil,ha];exact Xa hl hb hrr hlt hA
 ·rw[List.append_nil,hv,hs];exact rfl
 ·exact Or.inr (Or.inl hp)
end
end Lw
section
open Go.RowKit Me
def Cs (w:World) (B:Nat) (A:Option Addr) (vs:List Value):Prop:=
 0<vs.length->∃a,A=some a/\a.block<B/\∀i v,vs[i]?=some v->w.cell? (a.add i)=some v
section
variable {w w':World} {B B':Nat} {A:Option Addr} {vs:List Value}
theorem Cs.empty:Cs w B A []:=fun h=>by simp at h
theorem Cs.keep (h:Cs w B A vs) (hk:∀p:Addr,p.block<B->w'.cell? p=w.cell? p):Cs w' B A vs:=fun hn=>by
 obtain ⟨a,e,hb,hc⟩:=h hn;exact ⟨a,e,hb,fun j u hu=>(hk _ (by rw[block_add];exact hb)).trans (hc j u hu)⟩
theorem Cs.more (h:Cs w B A vs) (hB:B<=B'):Cs w B' A vs:=fun hn=>by
 obtain ⟨a,e,hb,hc⟩:=h hn;exact ⟨a,e,by omega,hc⟩
theorem Cs.below (h:Cs w B A vs) (hb:Below B w w'):Cs w' B A vs:=h.keep fun _ hp=>hb.cell hp
theorem Cs.of_own {base:Nat} {e:TypeId} {size c:Nat} {n:Nat} (h:w.ownsRow base e size (.slice A n c) n vs):Cs w w.heap.size A vs:=fun hn=>by
 have hl:=h.1;have hn0:0<n:=by
  rcases Nat.eq_zero_or_pos n with e|e
  ·subst e;simp at hl;subst hl;simp at hn
  ·exact e
 obtain ⟨g,cap,hv,_,hlt⟩:=h.form hn0;have hA:A=some ⟨g,0,none⟩:=by injection hv
 subst hA;exact ⟨_,rfl,hlt,fun i u hu=>h.cells (g:=g) rfl i _ hu⟩
end
theorem xX (a:Addr) (j i:Nat):a.add (j+(i+1))=⟨(a.add j).block,(a.add j).off+(i+1),none⟩:=by
 rw[<-add_add]
 generalize a.add j=b
 unfold Addr.add;rw[if_neg (by omega)]
theorem Cs.lit (w:World) (cs:Array Value) (t:TypeId):Cs (w.alloc (.cells cs t)) (w.heap.size+1) (some ⟨w.heap.size,0,none⟩) cs.toList:=fun _=>by
 have hh:=heap_alloc_new w (.cells cs t);refine ⟨_,rfl,Nat.lt_succ_self _,fun i u hu=>?_⟩;have e:(⟨w.heap.size,0,none⟩:Addr).add i=⟨w.heap.size,i,none⟩:=by unfold Addr.add;split<;>simp_all
 rw[e];simp only[World.cell?,hh]
 simpa using hu
theorem grownBy_set (w:World) (p:Addr) (u:Value):w.grownBy (w.setCell p u) (some p.block):=
 ⟨rfl,rfl,rfl,by simp[World.setCell],fun k _ hne=>Below.heap_setCell _ _ _ _ (fun e=>hne (by rw[e]))⟩
theorem ZN (w:World) (o:Obj) (row:Option Nat):w.grownBy (w.alloc o) row:=
 ⟨rfl,rfl,rfl,by simp,fun k hk _=>Below.heap_alloc w o k hk⟩
theorem vL {w w':World} (h:Below w.heap.size w w') (row:Option Nat):w.grownBy w' row:=⟨h.os,h.tape,h.output,h.size,fun k hk _=>h.block k hk⟩
theorem zin {w w':World} {row:Option Nat} (h:w.grownBy w' row) {p:Addr} (hp:w.heap.size<=p.block) (u:Value):w.grownBy (w'.setCell p u) row:=
 h.andThen (grownBy_set w' p u) (fun j e=>by injection e with e;exact .inl (by omega))
theorem ziN {w:World} {b:Nat} {v v':Value} {t:TypeId} (hh:w.heap[b]?=some (.cells #[v,v'] t)) :
 w.cell? ⟨b,0,none⟩=some v/\w.cell? ⟨b,1,none⟩=some v'/\w.frozen? ⟨b,0,none⟩=false/\w.frozen? ⟨b,1,none⟩=false:=by
 refine ⟨?_,?_,?_,?_⟩
 ·simp only[World.cell?,hh];rfl
 ·simp only[World.cell?,hh];rfl
 ·unfold World.frozen?;rw[hh];simp
 ·unfold World.frozen?;rw[hh];simp
theorem ziI {h:Nat} {w1:World} {v v' a a':Value} (q0:w1.cell? ⟨h,0,none⟩=some a) (q1:w1.cell? ⟨h,1,none⟩=some a') :
 ((w1.setCell ⟨h,0,none⟩ v).setCell ⟨h,1,none⟩ v').cell? ⟨h,0,none⟩=some v/\((w1.setCell ⟨h,0,none⟩ v).setCell ⟨h,1,none⟩ v').cell? ⟨h,1,none⟩=some v':=by
 have hne:(⟨h,0,none⟩:Addr)≠⟨h,1,none⟩:=by simp
 have hne':(⟨h,1,none⟩:Addr)≠⟨h,0,none⟩:=by simp
 have e1:(w1.setCell ⟨h,0,none⟩ v).cell? ⟨h,1,none⟩=some a':=by rw[World.cell?_setCell_other _ _ _ _ hne];exact q1
 refine ⟨?_,World.cell?_setCell_same _ _ _ e1⟩;rw[World.cell?_setCell_other _ _ _ _ hne',World.cell?_setCell_same _ _ _ q0]
theorem ze8 {w w':World} {base g size:Nat} {e:TypeId} {v:Value} {n:Nat} {xs:List Value} (h:w.ownsRow base e size v n xs) (hg:w.grownBy w' (some g)) (hlt:g<base):w'.ownsRow base e size v n xs:=by
 refine h.kept hg ?_
 cases hv:v.ownBlock with
 |none=>exact .inl rfl
 |some k=>
  right
  have:=(World.ownsRow.lt h k hv).1
  simp
  omega
theorem zC {w:World} {base size:Nat} {e:TypeId} {v:Value} {n:Nat} {xs:List Value} (h:w.ownsRow base e size v n xs):∃A c,v=.slice A n c/\n<=c:=by
 rcases h.2 with ⟨rfl,rfl⟩|⟨g,cap,cur,rfl,-,-,hc,-⟩
 ·exact ⟨_,_,rfl,Nat.le_refl _⟩
 ·exact ⟨_,_,rfl,hc⟩
theorem own_below' {w w':World} {base size:Nat} {e:TypeId} {v:Value} {n:Nat} {xs:List Value} (h:w.ownsRow base e size v n xs) (hb:Below w.heap.size w w'):w'.ownsRow base e size v n xs:=
 h.kept (row:=none) ⟨hb.os,hb.tape,hb.output,hb.size,fun k hk _=>hb.block k hk⟩ (by
  rcases h.2 with ⟨rfl,_⟩|⟨g,cap,cur,rfl,_⟩
  ·exact .inl rfl
  ·exact .inr (by simp[Value.ownBlock]))
def Two (w:World) (b:Nat) (v v':Value):Prop:=
 w.cell? ⟨b,0,none⟩=some v/\w.cell? ⟨b,1,none⟩=some v'/\w.frozen? ⟨b,0,none⟩=false/\w.frozen? ⟨b,1,none⟩=false
section
variable {w w':World} {b B:Nat} {v v' a a':Value}
theorem Two.here (h:Two w b v v'):b<w.heap.size:=block_lt_of_cell h.1
theorem Two.below (h:Two w b v v') (hb:Below B w w') (hlt:b<B):Two w' b v v':=
 ⟨(hb.cell (p:=⟨b,0,none⟩) hlt).trans h.1,(hb.cell (p:=⟨b,1,none⟩) hlt).trans h.2.1,(hb.frozen (p:=⟨b,0,none⟩) hlt).trans h.2.2.1,(hb.frozen (p:=⟨b,1,none⟩) hlt).trans h.2.2.2⟩
theorem Two.past (h:Two w b v v') (hb:Below w.heap.size w w'):Two w' b v v':=h.below hb h.here
theorem Two.grown {row:Option Nat} (h:Two w b v v') (hg:w.grownBy w' row) (hne:row≠some b):Two w' b v v':=
 have k:=hg.block b h.here (fun e=>hne e.symm)
 ⟨(World.cell?_of_block (a:=⟨b,0,none⟩) k).trans h.1,(World.cell?_of_block (a:=⟨b,1,none⟩) k).trans h.2.1,(World.frozen?_of_block (a:=⟨b,0,none⟩) k).trans h.2.2.1,(World.frozen?_of_block (a:=⟨b,1,none⟩) k).trans h.2.2.2⟩
theorem Two.alloc (h:Two w b v v') (o:Obj):Two (w.alloc o) b v v':=h.past ((Below.refl _ _).alloc (Nat.le_refl _) o)
theorem Two.set (h:Two w b a a') (v v':Value):Two ((w.setCell ⟨b,0,none⟩ v).setCell ⟨b,1,none⟩ v') b v v':=by
 obtain ⟨g0,g1⟩:=ziI (v:=v) (v':=v') h.1 h.2.1;exact ⟨g0,g1,by simpa using h.2.2.1,by simpa using h.2.2.2⟩
theorem Two.new (w:World) (v v':Value) (t:TypeId):Two (w.alloc (.cells #[v,v'] t)) w.heap.size v v':=ziN (heap_alloc_new w _)
theorem Two.new' {H:Nat} (w:World) (v v':Value) (t:TypeId) (hH:w.heap.size=H):Two (w.alloc (.cells #[v,v'] t)) H v v':=by subst hH;exact Two.new w v v' t
end
theorem Xj {w:World} {base size:Nat} {e:TypeId} {A:Option Addr} {n c:Nat} {xs:List Value} (h:w.ownsRow base e size (.slice A n c) n xs):n<=c:=by
 obtain ⟨A',c',e,hc⟩:=zC h;injection e with _ _ e;omega
theorem own_ne {w:World} {base n size:Nat} {e:TypeId} {v:Value} {xs:List Value} (h:w.ownsRow base e size v n xs):v.ownBlock≠some w.heap.size:=fun he=>by
 have:=(h.lt _ he).2;omega
theorem yF {w:World} {base size:Nat} {e:TypeId} {A:Option Addr} {n c:Nat} {xs:List Value} (h:w.ownsRow base e size (.slice A n c) n xs):n<=c/\c<=9223372036854775807:=by
 rcases h.2 with ⟨e,e2⟩|⟨g,cap,cur,e,-,-,h1,h2,-⟩
 ·injection e with e1 e2 e3;omega
 ·injection e with e1 e2 e3;subst e3;unfold maxLen at h2;omega
theorem zcW (n:Nat):(madeCells (Value.int .u8 0).cells (n*1)).toList=cellsOf (List.replicate n 0):=by
 rw[Nat.mul_one];have e:(Value.int .u8 0).cells=#[Value.int .u8 0]:=rfl;rw[e];unfold madeCells cellsOf
 apply List.ext_getElem?
 intro i
 by_cases hi:i<n
 ·simp[hi,Nat.mod_one]
 ·simp[hi]
theorem zeT {w4:World} {H B:Nat} {Y:Option Addr} {bo:List UInt8} (hr:Rd w4 w4.heap.size Y bo) (hnw:0<bo.length->∃a,Y=some a/\B<=a.block) (hlt:H<B) (u v:Value) :
 Rd ((w4.setCell ⟨H,0,none⟩ u).setCell ⟨H,1,none⟩ v) ((w4.setCell ⟨H,0,none⟩ u).setCell ⟨H,1,none⟩ v).heap.size Y bo:=by
 intro hn;obtain ⟨g,e,hb,hc⟩:=hr hn;obtain ⟨g',e',hg'⟩:=hnw hn;rw[e] at e';injection e' with e';subst e';refine ⟨g,e,by simpa [World.setCell] using hb,fun i u hu=>?_⟩;have hne:∀o,g.add i≠⟨H,o,none⟩:=fun o h=>by
  have h1:=congrArg Addr.block h;rw[block_add] at h1;have h2:g.block=H:=h1;omega
 rw[World.cell?_setCell_other _ _ _ _ (hne 1).symm,World.cell?_setCell_other _ _ _ _ (hne 0).symm];exact hc i u hu
def sliceLen:Value->Nat
 | .slice _ n _=>n
 |_=>0
theorem zlf {w:World} {u v:Value} {T:TypeId} {H:Nat} (hH:w.heap.size=H):∀(j:Nat) (x:Value),([u,v]:List Value)[j]?=some x->(w.alloc (.cells #[u,v] T)).cell? ((⟨H,0,none⟩:Addr).add j)=some x:=by
 intro j x hj;subst hH;obtain ⟨a,e,-,hc⟩:=Cs.lit w #[u,v] T (by simp);injection e with e;subst e;exact hc j x hj
end
namespace Gw
open Go.RowKit
def zk (w w':World):Prop:=Below w.heap.size w w'
theorem zk.refl (w:World):zk w w:=Below.refl _ _
theorem zk.trans {a b c:World} (h:zk a b) (k:zk b c):zk a c:=Below.trans h (Below.mono k h.size)
abbrev Fact:=Tmp->Value->World->Prop
def Holds (G:Fact) (t:Tmp) (v:Value) (w:World):Prop:=∀W,zk w W->G t v W
theorem Holds.grow {G:Fact} {t:Tmp} {v:Value} {w w':World} (h:Holds G t v w) (hg:zk w w'):Holds G t v w':=fun W hW=>h W (hg.trans hW)
theorem Holds.now {G:Fact} {t:Tmp} {v:Value} {w:World} (h:Holds G t v w):G t v w:=h w (zk.refl w)
def Knows (G:Fact) (a:Act) (w:World):List Tmp->Prop
 |[]=>True
 |t::l=>G t (a.tmps[t]?.getD undef) w/\Knows G a w l
def Ok (P:Program) (o:Oper) (a:Act) (w:World) (p:Value->World->Prop):Prop:=
 match (execOp a.eval o).run P w with
 | .ok (.value v) w'=>zk w w'/\p v w'
 | .ok .skip w'=>zk w w'/\p undef w'
 | .ok (.enter f args) w'=>zk w w'/\Calls P f args w' fun e w''=>∃v,e=.returned v/\zk w' w''/\p v w''
 |_=>False
def Post (G:Fact) (dst:Option Tmp) (v:Value) (w:World):Prop:=
 match dst with
 |some d=>Holds G d v w
 |none=>True
def zw (P:Program) (G:Fact) (o:Oper) (g:Option (Tmp×Bool)) (a:Act) (w:World):Prop:=
 match g with
 |none=>Ok P o a w (Post G o.dst)
 |some (d,b)=>(a.tmps[d]?.getD undef=.bool b/\Ok P o a w (Post G o.dst))\/(a.tmps[d]?.getD undef=.bool (!b)/\Post G o.dst undef w)
def Req (P:Program) (G:Fact) (w0:World):List Oper->List (List Tmp×Option (Tmp×Bool))->Prop
 |[],[]=>True
 |o::os,m::ms=>(∀a w,zk w0 w->Knows G a w m.1->zw P G o m.2 a w)/\Req P G w0 os ms
 |_,_=>False
def guardOf (ops:Array Oper) (o:Oper):Option (Tmp×Bool):=
 match o.guard with
 |some (g,b)=>((ops[g]?).bind (·.dst)).map fun d=>(d,b)
 |none=>none
def qP (ops:Array Oper):List (List Tmp×Option (Tmp×Bool)):=ops.toList.map fun o=>(o.looksAt ops,guardOf ops o)
def dstsOf (ops:Array Oper):List Tmp:=ops.toList.filterMap (·.dst)
def YF (ops:Array Oper) (n:Nat):Bool:=
 (List.range ops.size).all fun i=>
   match ops[i]? with
   |none=>true
   |some o=>
    (o.after.all fun e=> !Region.binds .any e||decide (e.on<i)) &&
    (match o.guard with|some (g,_)=>((ops[g]?).bind (·.dst)).isSome|none=>true) &&
    (match o.dst with|some d=>decide (d<n)|none=>true) &&
    (List.range ops.size).all fun j=>
      match ops[j]? with
      |none=>true
      |some q=>
       match q.dst with
       |none=>true
       |some d=>(!(o.looksAt ops).contains d||o.after.any fun e=>Region.binds .any e&&e.on==j)&&(i==j||o.dst != some d)
section
variable {P:Program} {ops:Array Oper} {n:Nat}
theorem xJ (h:YF ops n=true) {i:Nat} {o:Oper} (hi:ops[i]?=some o) :
 (∀e∈o.after,Region.binds .any e=true->e.on<i)/\(∀g b,o.guard=some (g,b)->∃q d,ops[g]?=some q/\q.dst=some d)/\(∀d,o.dst=some d->d<n) /\
 (∀(j:Nat) (q:Oper) (d:Tmp),ops[j]?=some q->q.dst=some d->(d∈o.looksAt ops->∃e∈o.after,Region.binds .any e=true/\e.on=j)/\(i≠j->o.dst≠some d)):=by
 have hlt:i<ops.size:=(Array.getElem?_eq_some_iff.1 hi).1;have h1:=List.all_eq_true.1 h i (List.mem_range.2 hlt);simp only[hi,Bool.and_eq_true] at h1;obtain ⟨⟨⟨ha,hg⟩,hd⟩,hq⟩:=h1;refine ⟨fun e he hb=>?_,fun g b hgb=>?_,fun d hdd=>?_,fun j q d hj hqd=>?_⟩
 ·have:=Array.all_eq_true_iff_forall_mem.1 ha e he
  simpa [hb] using this
 ·rw[hgb] at hg;simp only at hg
  cases hgo:ops[g]? with
  |none=>simp[hgo] at hg
  |some q=>
   simp only[hgo,Option.bind_some] at hg
   cases hqd:q.dst with
   |none=>simp[hqd] at hg
   |some d=>exact ⟨q,d,rfl,hqd⟩
 ·rw[hdd] at hd
  simpa using hd
 ·have hjlt:j<ops.size:=(Array.getElem?_eq_some_iff.1 hj).1;have h2:=List.all_eq_true.1 hq j (List.mem_range.2 hjlt);simp only[hj,hqd,Bool.and_eq_true] at h2;refine ⟨fun hm=>?_,fun hne he=>?_⟩
  ·have h3:=h2.1;have hc:(o.looksAt ops).contains d=true:=by simpa using hm
   rw[hc] at h3;rw[Bool.not_true,Bool.false_or,Array.any_eq_true] at h3;obtain ⟨x,hx,h3⟩:=h3;simp only[Bool.and_eq_true,beq_iff_eq] at h3;exact ⟨o.after[x],Array.getElem_mem hx,h3.1,h3.2⟩
  ·have h3:=h2.2;simp[hne,he] at h3
theorem zeQ {G:Fact} {w0:World}:∀(os:List Oper) (ms:List (List Tmp×Option (Tmp×Bool))),Req P G w0 os ms->∀(i:Nat) (o:Oper),os[i]?=some o->∃m:List Tmp×Option (Tmp×Bool),ms[i]?=some m/\∀a w,zk w0 w->Knows G a w m.1->zw P G o m.2 a w
 |[],_,_,i,o,h=>by simp at h
 |o::os,[],hr,_,_,_=>hr.elim
 |o::os,m::ms,hr,0,_,h=>⟨m,rfl,by simp at h;subst h;exact hr.1⟩
 |o::os,m::ms,hr,i+1,o',h=>by
  obtain ⟨m',h1,h2⟩:=zeQ os ms hr.2 i o' (by simpa using h);exact ⟨m',by simpa using h1,h2⟩
theorem zD (a:Act) (t:Tmp):a.eval (.tmp t)=a.tmps[t]?.getD undef:=Array.getD_eq_getD_getElem? ..
theorem ZL {G:Fact} {a:Act} {w:World}:∀(l:List Tmp),(∀t∈l,G t (a.eval (.tmp t)) w)->Knows G a w l
 |[],_=>trivial
 |t::l,h=>⟨by rw[<-zD];exact h t (by simp),ZL l fun t' ht'=>h t' (by simp[ht'])⟩
theorem eval_put_same {a:Act} {d:Tmp} {v:Value} (hd:d<a.tmps.size):(a.put (some d) v).eval (.tmp d)=v:=by
 simp[Act.eval,Act.put,hd]
theorem zZ {a:Act} {d:Option Tmp} {t:Tmp} {v:Value} (hd:d≠some t):(a.put d v).eval (.tmp t)=a.eval (.tmp t):=
 Act.eval_put (fun d' hd' he=>hd (by cases he;exact hd'))
theorem size_put (a:Act) (d:Option Tmp) (v:Value):(a.put d v).tmps.size=a.tmps.size:=by cases d<;>simp[Act.put]
theorem Zt (a:Act) (d:Option Tmp) (v:Value):(a.put d v).defers=a.defers:=by cases d<;>rfl
theorem yK {o:Oper} {a:Act} {d:Tmp} {b c:Bool} {g:Nat} (hg:o.guard=some (g,b)) (hd:(ops[g]?).bind (·.dst)=some d) (he:a.eval (.tmp d)=.bool c):Region.wanted o (yielded ops a.tmps)=(c==b):=by
 unfold Region.wanted;rw[hg];simp only;unfold yielded;rw[hd];have:a.tmps[d]?=some (.bool c):=by
  have h:a.tmps.getD d undef=.bool c:=he;rw[Array.getD_eq_getD_getElem?] at h
  cases hx:a.tmps[d]? with
  |none=>rw[hx] at h;simp[undef] at h
  |some x=>rw[hx] at h;simp at h;rw[h]
 simp only[Option.bind_some,this]
 cases c<;>cases b<;>rfl
structure Inv (ops:Array Oper) (G:Fact) (a0:Act) (w0:World) (listed:Array Bool) (a:Act) (w:World):Prop where
 grows:zk w0 w
 defers:a.defers=a0.defers
 size:a.tmps.size=a0.tmps.size
 facts:∀t,(∀(j:Nat) (o:Oper),ops[j]?=some o->o.dst=some t->listed.getD j true=true)->Holds G t (a.eval (.tmp t)) w
 others:∀t,(∀(j:Nat) (o:Oper),ops[j]?=some o->o.dst≠some t)->a.eval (.tmp t)=a0.eval (.tmp t)
 listedSize:listed.size=ops.size
theorem vP {o:Oper} {a:Act} {w:World} {K:Act->World->Prop} {Q:Exit->Act->World->Prop} {p:Value->World->Prop} (h:Ok P o a w p) (hK:∀v w',zk w w'->p v w'->K (a.put o.dst v) w'):o.wp P a w K Q:=by
 unfold Ok at h;unfold Oper.wp
 generalize (execOp a.eval o).run P w=r at *
 cases r with
 |ok nx w'=>
  cases nx with
  |value v=>exact hK _ _ h.1 h.2
  |skip=>exact hK _ _ h.1 h.2
  |enter f args=>exact h.2.mono fun e w'' ⟨v,he,hg,hp⟩=>by subst he;exact hK _ _ (h.1.trans hg) hp
  |_=>exact h.elim
 |halt x w'=>exact h.elim
theorem zic {G:Fact} {a0:Act} {w0:World} {listed:Array Bool} {a:Act} {w w':World} {i:Nat} {o:Oper} {v:Value} (hB:YF ops a0.tmps.size=true) (hi:ops[i]?=some o)
 (h:Inv ops G a0 w0 listed a w) (hg:zk w w') (hp:Post G o.dst v w'):Inv ops G a0 w0 (listed.setIfInBounds i true) (a.put o.dst v) w':=by
 obtain ⟨-,-,hlt,hone⟩:=xJ hB hi;refine ⟨h.grows.trans hg,by rw[Zt,h.defers],by rw[size_put,h.size],fun t ht=>?_,fun t ht=>?_,by simpa using h.listedSize⟩
 ·by_cases hd:o.dst=some t
  ·rw[hd] at hp ⊢;rw[eval_put_same (by rw[h.size];exact hlt t hd)];exact hp
  ·rw[zZ hd];refine (h.facts t fun j q hj hq=>?_).grow hg;have hne:i≠j:=fun e=>by
    subst e;rw[hi] at hj;injection hj with hj;subst hj;exact hd hq
   have:=ht j q hj hq
   rwa[getD_set_ne true hne] at this
 ·rw[zZ (ht i o hi)];exact h.others t ht
theorem count_set:∀(l:List Bool) (i:Nat),l[i]?=some false->(l.set i true).count false+1=l.count false
 |[],i,h=>by simp at h
 |b::l,0,h=>by simp at h;subst h;simp
 |b::l,i+1,h=>by
  have:=count_set l i (by simpa using h);simp only[List.set_cons_succ,List.count_cons];omega
theorem zgN {G:Fact} {a0:Act} {w0:World} {Q:Exit->Act->World->Prop} (hB:YF ops a0.tmps.size=true) (hreq:Req P G w0 ops.toList (qP ops))
 (hend:∀a w,(∀listed:Array Bool,(∀j,j<ops.size->listed.getD j true=true)->Inv ops G a0 w0 listed a w->Q .normal a w)) :
 ∀(fuel:Nat) (listed:Array Bool) (a:Act) (w:World),listed.toList.count false<=fuel->Inv ops G a0 w0 listed a w->wpAny P .any ops Q fuel listed a w:=by
 have fin:∀(listed:Array Bool) (a:Act) (w:World),Inv ops G a0 w0 listed a w->Region.ready .any ops listed=[]->∀j,j<ops.size->listed.getD j true=true:=fun listed a w h hr=>by
  intro j
  induction j using Nat.strongRecOn with
  |_ j ih=>
   intro hj
   cases hl:listed.getD j true with
   |true=>rfl
   |false=>
    exfalso
    have hjo:ops[j]?=some ops[j]:=Array.getElem?_eq_getElem hj;have:j∈Region.ready .any ops listed:=mem_ready.2 ⟨hl,ops[j],hjo,fun e he hb=>by
     have hlt:=(xJ hB hjo).1 e he hb;have h1:=ih e.on hlt (by omega);have hb:e.on<listed.size:=by rw[h.listedSize];omega
     simpa [hb] using h1⟩
    rw[hr] at this
    cases this
 intro fuel
 induction fuel with
 |zero=>
  intro listed a w hc h;have h0:∀j,j<ops.size->listed.getD j true=true:=fun j hj=>by
   cases hl:listed.getD j true with
   |true=>rfl
   |false=>
    exfalso
    have hb:j<listed.size:=by rw[h.listedSize];exact hj
    have:(false:Bool)∈listed.toList:=by
     have e:listed[j]=false:=by simpa [hb] using hl
     rw[<-e];exact Array.getElem_mem_toList hb
    have:=List.count_pos_iff.2 this;omega
  refine ⟨?_,hend a w listed h0 h⟩
  cases hr:Region.ready .any ops listed with
  |nil=>rfl
  |cons i r=>
   exfalso
   have hm:i∈Region.ready .any ops listed:=by rw[hr];simp
   obtain ⟨hu,o,ho,-⟩:=mem_ready.1 hm;rw[h0 i (Array.getElem?_eq_some_iff.1 ho).1] at hu
   cases hu
 |succ fuel ih=>
  intro listed a w hc h;refine ⟨fun hr=>hend a w listed (fin listed a w h hr) h,fun i hm=>?_⟩;obtain ⟨hu,o,ho,hall⟩:=mem_ready.1 hm;have hlt:i<listed.size:=by rw[h.listedSize];exact (Array.getElem?_eq_some_iff.1 ho).1
  have hcount:(listed.setIfInBounds i true).toList.count false<=fuel:=by
   have e:listed.toList[i]?=some false:=by
    have:listed[i]=false:=by simpa [hlt] using hu
    simp[hlt,this]
   have:=count_set listed.toList i e;simp only[Array.toList_setIfInBounds];omega
  obtain ⟨hacyc,hguard,hdlt,hflow⟩:=xJ hB ho;obtain ⟨m,hm1,hm2⟩:=zeQ ops.toList (qP ops) hreq i o (by simpa using ho);have hme:m=(o.looksAt ops,guardOf ops o):=by
   unfold qP at hm1;rw[List.getElem?_map] at hm1;have:ops.toList[i]?=some o:=by simpa using ho
   rw[this] at hm1
   simpa using hm1.symm
  subst hme;have hk:Knows G a w (o.looksAt ops):=ZL _ fun t ht=>(h.facts t fun j q hj hq=>by
   obtain ⟨e,he,hb,rfl⟩:=(hflow j q t hj hq).1 ht;have h1:=hall e he hb;have hjl:e.on<listed.size:=by rw[h.listedSize];exact (Array.getElem?_eq_some_iff.1 hj).1
   simpa [hjl] using h1).now
  have hreq':=hm2 a w h.grows hk;unfold wpOp;simp only[ho];have go:∀v w',zk w w'->Post G o.dst v w'->wpAny P .any ops Q fuel (listed.setIfInBounds i true) (a.put o.dst v) w':=fun v w' hg hp=>
   ih _ _ _ hcount (zic hB ho h hg hp)
  unfold zw guardOf at hreq'
  cases hgd:o.guard with
  |none=>
   rw[hgd] at hreq';have hw:Region.wanted o (yielded ops a.tmps)=true:=by unfold Region.wanted;rw[hgd]
   rw[if_pos hw];exact .inl (vP hreq' go)
  |some gb=>
   obtain ⟨g,b⟩:=gb;obtain ⟨q,d,hq,hqd⟩:=hguard g b hgd;rw[hgd] at hreq';have hbind:(ops[g]?).bind (·.dst)=some d:=by rw[hq];exact hqd
   simp only[hbind,Option.map_some] at hreq';rw[<-zD] at hreq';rcases hreq' with ⟨he,hok⟩|⟨he,hp⟩
   ·have hw:=yK (ops:=ops) hgd hbind he;rw[if_pos (by rw[hw];simp)];exact .inl (vP hok go)
   ·have hw:=yK (ops:=ops) hgd hbind he;rw[if_neg (by rw[hw];cases b<;>simp)];exact go _ _ (zk.refl w) hp
theorem Qf {a b:Act} (h1:a.tmps=b.tmps) (h2:a.defers=b.defers):a=b:=by
 cases a;cases b
 simp at h1 h2;rw[h1,h2]
def zm (x:Tmp->Value):List Tmp->Act->Act
 |[],a=>a
 |d::l,a=>zm x l (a.put (some d) (x d))
theorem xI (x:Tmp->Value):∀(l:List Tmp) (a:Act),(zm x l a).tmps.size=a.tmps.size
 |[],_=>rfl
 |d::l,a=>by rw[zm,xI x l,size_put]
theorem yJ (x:Tmp->Value):∀(l:List Tmp) (a:Act),(zm x l a).defers=a.defers
 |[],_=>rfl
 |d::l,a=>by rw[zm,yJ x l,Zt]
theorem qg (x:Tmp->Value):∀(l:List Tmp) (a:Act) (t:Tmp),t<a.tmps.size->(zm x l a).tmps[t]?=if t∈l then some (x t) else a.tmps[t]?
 |[],a,t,_=>by simp[zm]
 |d::l,a,t,ht=>by
  rw[zm,qg x l _ t (by rw[size_put];exact ht)]
  by_cases h:t∈l
  ·simp[h]
  ·by_cases hd:t=d
   ·subst hd;simp[h,Act.put,ht]
   ·simp[h,hd,Act.put,Array.getElem?_setIfInBounds_ne (Ne.symm hd)]
theorem zl {id:Nat} {Q:Exit->Act->World->Prop} {a0:Act} {w:World} {l:List Oper} (G:Fact) (dsts:List Tmp) (ms:List (List Tmp×Option (Tmp×Bool))) (size:Nat) (hm:P.follows .mixedOrders=true)
 (hB:(YF l.toArray size&&(qP l.toArray==ms)&&(dstsOf l.toArray==dsts))=true) (hsz:a0.tmps.size=size)
 (h0:∀t W,t∉dsts->zk w W->G t (a0.eval (.tmp t)) W) (hreq:Req P G w l ms)
 (hend:∀(x:Tmp->Value) (w':World),zk w w'->(∀d∈dsts,Holds G d (x d) w')->Q .normal (zm x dsts a0) w'):(Code.region id l.toArray true).wp P Q a0 w:=by
 simp only[Bool.and_eq_true,beq_iff_eq] at hB;obtain ⟨⟨hf,hme⟩,hde⟩:=hB;subst hsz;have hmem:∀t:Tmp,t∈dsts↔∃(j:Nat) (o:Oper),l.toArray[j]?=some o/\o.dst=some t:=fun t=>by
  rw[<-hde];unfold dstsOf;simp only[List.mem_filterMap]
  constructor
  ·rintro ⟨o,ho,hd⟩;obtain ⟨j,hj⟩:=List.mem_iff_getElem?.1 ho;exact ⟨j,o,by simpa using hj,hd⟩
  ·rintro ⟨j,o,hj,hd⟩;exact ⟨o,List.mem_iff_getElem?.2 ⟨j,by simpa using hj⟩,hd⟩
 refine wp_region_any hm (zgN (G:=G) (a0:=a0) (w0:=w) hf (by rw[hme];exact hreq) ?_ _ _ _ _ ?_ ?_)
 ·intro a w' listed hall hinv;have e:a=zm (fun t=>a.eval (.tmp t)) dsts a0:=by
   have hsz:=hinv.size;have hdf:=hinv.defers;have ht:a.tmps=(zm (fun t=>a.eval (.tmp t)) dsts a0).tmps:=by
    apply Array.ext_getElem?
    intro t
    by_cases hlt:t<a0.tmps.size
    ·rw[qg _ _ _ _ hlt];have hat:a.tmps[t]?=some (a.eval (.tmp t)):=by
      have:t<a.tmps.size:=by rw[hsz];exact hlt
      simp[Act.eval,this]
     by_cases hd:t∈dsts
     ·rw[if_pos hd,hat]
     ·rw[if_neg hd,hat,hinv.others t (fun j o hj hq=>hd ((hmem t).2 ⟨j,o,hj,hq⟩))];simp[Act.eval,hlt]
    ·rw[Array.getElem?_eq_none (by rw[hsz];omega),Array.getElem?_eq_none (by rw[xI];omega)]
   have hdd:a.defers=(zm (fun t=>a.eval (.tmp t)) dsts a0).defers:=by rw[yJ,hdf]
   exact Qf ht hdd
  rw[e];refine hend _ _ hinv.grows fun d hd=>?_
  exact hinv.facts d fun j o hj _=>hall j (Array.getElem?_eq_some_iff.1 hj).1
 ·simp
 ·refine ⟨⟨rfl,rfl,rfl,Nat.le_refl _,fun _ _=>rfl⟩,rfl,rfl,fun t ht=>?_,fun _ _=>rfl,by simp⟩;have hnd:t∉dsts:=fun hd=>by
   obtain ⟨j,o,hj,hq⟩:=(hmem t).1 hd;have:=ht j o hj hq;have hlt:=(Array.getElem?_eq_some_iff.1 hj).1;simp at hlt;simp[hlt] at this
  exact fun W hW=>h0 t W hnd ⟨hW.os,hW.tape,hW.output,hW.size,hW.block⟩
end
end Gw
namespace Gw
open Go.RowKit
def Z5 (ops:Array Oper):Nat->Nat->Nat->Bool
 |0,_,_=>false
 |f+1,i,j=>match ops[i]? with
  |none=>false
  |some o=>o.after.any fun e=>Region.binds .any e&&(e.on==j||Z5 ops f e.on j)
def za1 (ops:Array Oper) (n:Nat):Bool:=
 (List.range ops.size).all fun i=>decide (i<n)||((match ops[i]? with|some o=>o.guard.isNone|none=>true)&&(List.range i).all fun j=>Z5 ops ops.size i j)
def zX (P:Program) (Q:Exit->Act->World->Prop):List Oper->Act->World->Prop
 |[],a,w=>Q .normal a w
 |o::os,a,w=>o.wp P a w (zX P Q os) Q
def Closed (ops:Array Oper) (listed:Array Bool):Prop:=
 ∀(k:Nat) (o:Oper),ops[k]?=some o->listed.getD k false=true->∀e∈o.after,Region.binds .any e=true->listed.getD e.on false=true
section
variable {P:Program} {ops:Array Oper} {n size:Nat}
theorem yS {listed:Array Bool} (hc:Closed ops listed):∀(f i j:Nat) (o:Oper),ops[i]?=some o->(∀e∈o.after,Region.binds .any e=true->listed.getD e.on false=true)->Z5 ops f i j=true->listed.getD j false=true
 |0,_,_,_,_,_,h=>by simp[Z5] at h
 |f+1,i,j,o,ho,hd,h=>by
  unfold Z5 at h;rw[ho] at h;simp only[Array.any_eq_true] at h;obtain ⟨x,hx,h⟩:=h;simp only[Bool.and_eq_true,Bool.or_eq_true,beq_iff_eq] at h;have h1:=hd o.after[x] (Array.getElem_mem hx) h.1;rcases h.2 with h2|h2
  ·rw[<-h2];exact h1
  ·cases hk:ops[(o.after[x]).on]? with
   |none=>cases f<;>simp[Z5,hk] at h2
   |some o'=>exact yS hc f _ j o' hk (hc _ o' hk h1) h2
theorem tail_at (h:za1 ops n=true) {i:Nat} {o:Oper} (hi:ops[i]?=some o) (hn:n<=i):o.guard=none/\∀j,j<i->Z5 ops ops.size i j=true:=by
 have hlt:i<ops.size:=(Array.getElem?_eq_some_iff.1 hi).1;have h1:=List.all_eq_true.1 h i (List.mem_range.2 hlt);have h2:¬i<n:=by omega
 simp only[hi,decide_eq_false h2,Bool.false_or,Bool.and_eq_true] at h1;refine ⟨by simpa using h1.1,fun j hj=>?_⟩;exact List.all_eq_true.1 h1.2 j (List.mem_range.2 hj)
theorem qo {listed:Array Bool} {i:Nat} (hs:i<listed.size):listed.getD i true=listed.getD i false:=by simp[hs]
theorem qy {listed:Array Bool} (hs:listed.size=ops.size) {i:Nat} (hm:i∈Region.ready .any ops listed) :
 listed.getD i false=false/\∃o,ops[i]?=some o/\∀e∈o.after,Region.binds .any e=true->listed.getD e.on false=true:=by
 obtain ⟨hu,o,ho,hall⟩:=mem_ready.1 hm;have hlt:i<listed.size:=by rw[hs];exact (Array.getElem?_eq_some_iff.1 ho).1
 exact ⟨by rw[<-qo hlt];exact hu,o,ho,hall⟩
theorem zeG {Q:Exit->Act->World->Prop} (hF:YF ops size=true) (hT:za1 ops n=true):∀(fuel m:Nat) (listed:Array Bool) (a:Act) (w:World),n<=m->m<=ops.size->listed.size=ops.size ->
 (∀k,k<ops.size->(listed.getD k false=true↔k<m))->ops.size-m<=fuel->zX P Q (ops.toList.drop m) a w->wpAny P .any ops Q fuel listed a w:=by
 intro fuel
 induction fuel with
 |zero=>
  intro m listed a w hn hm hs hl hf h;have e:m=ops.size:=by omega
  subst e;rw[List.drop_of_length_le (by simp)] at h;refine ⟨?_,h⟩
  cases hr:Region.ready .any ops listed with
  |nil=>rfl
  |cons i r=>
   exfalso
   obtain ⟨hu,o,ho,-⟩:=qy hs (show i∈Region.ready .any ops listed by rw[hr];simp);have hlt:=(Array.getElem?_eq_some_iff.1 ho).1;rw[(hl i hlt).2 hlt] at hu
   cases hu
 |succ fuel ih=>
  intro m listed a w hn hm hs hl hf h;have closed:Closed ops listed:=fun k o hk hlk e he hb=>by
   have hkl:=(Array.getElem?_eq_some_iff.1 hk).1;have h1:=(xJ hF hk).1 e he hb;exact (hl e.on (by omega)).2 (by have:=(hl k hkl).1 hlk;omega)
  refine ⟨fun hr=>?_,fun i hi=>?_⟩
  ·by_cases e:m=ops.size
   ·subst e;rw[List.drop_of_length_le (by simp)] at h;exact h
   ·exfalso
    have hlt:m<ops.size:=by omega
    have ho:ops[m]?=some ops[m]:=Array.getElem?_eq_getElem hlt;have:m∈Region.ready .any ops listed:=mem_ready.2 ⟨by
     rw[qo (by omega)]
     cases hx:listed.getD m false with
     |false=>rfl
     |true=>exact absurd ((hl m hlt).1 hx) (Nat.lt_irrefl _),_,ho,fun e he hb=>by
     have h1:=(xJ hF ho).1 e he hb;exact (hl e.on (by omega)).2 h1⟩
    rw[hr] at this
    cases this
  ·obtain ⟨hu,o,ho,hall⟩:=qy hs hi;have hlt:=(Array.getElem?_eq_some_iff.1 ho).1;have him:m<=i:=by
    rcases Nat.lt_or_ge i m with h1|h1
    ·rw[(hl i hlt).2 h1] at hu;cases hu
    ·exact h1
   obtain ⟨hg,hw⟩:=tail_at hT ho (by omega);have hei:i=m:=by
    rcases Nat.lt_or_ge m i with h1|h1
    ·have:=yS closed _ _ _ o ho hall (hw m h1);exact absurd ((hl m (by omega)).1 this) (Nat.lt_irrefl _)
    ·omega
   subst hei;have hd:ops.toList.drop i=o::ops.toList.drop (i+1):=by
    rw[List.drop_eq_getElem_cons (by simpa using hlt)]
    congr 1
    have:=(Array.getElem?_eq_some_iff.1 ho).2
    simpa using this
   rw[hd] at h;unfold wpOp;simp only[ho];have hwt:Region.wanted o (yielded ops a.tmps)=true:=by unfold Region.wanted;rw[hg]
   rw[if_pos hwt];refine .inl (Oper.wp_mono (fun a' w' hK=>?_) h);refine ih (i+1) _ _ _ (by omega) (by omega) (by simpa using hs) (fun k hk=>?_) (by omega) hK
   by_cases hki:i=k
   ·subst hki;have hx:i<listed.size:=by omega
    simp[hx]
   ·rw[getD_set_ne false hki,hl k hk];omega
structure InvT (ops:Array Oper) (n:Nat) (G:Fact) (a0:Act) (w0:World) (listed:Array Bool) (a:Act) (w:World):Prop where
 grows:zk w0 w
 defers:a.defers=a0.defers
 size:a.tmps.size=a0.tmps.size
 facts:∀t,(∀(j:Nat) (o:Oper),j<n->ops[j]?=some o->o.dst=some t->listed.getD j false=true)->Holds G t (a.eval (.tmp t)) w
 others:∀t,(∀(j:Nat) (o:Oper),j<n->ops[j]?=some o->o.dst≠some t)->a.eval (.tmp t)=a0.eval (.tmp t)
 listedSize:listed.size=ops.size
 closed:Closed ops listed
 none:∀k,n<=k->listed.getD k false=false
theorem zkg {G:Fact} {a0:Act} {w0:World} {listed:Array Bool} {a:Act} {w w':World} {i:Nat} {o:Oper} {v:Value} (hB:YF ops a0.tmps.size=true) (hin:i<n) (hi:ops[i]?=some o)
 (hall:∀e∈o.after,Region.binds .any e=true->listed.getD e.on false=true)
 (h:InvT ops n G a0 w0 listed a w) (hg:zk w w') (hp:Post G o.dst v w'):InvT ops n G a0 w0 (listed.setIfInBounds i true) (a.put o.dst v) w':=by
 obtain ⟨hac,-,hlt,hone⟩:=xJ hB hi;have hil:i<listed.size:=by rw[h.listedSize];exact (Array.getElem?_eq_some_iff.1 hi).1
 refine ⟨h.grows.trans hg,by rw[Zt,h.defers],by rw[size_put,h.size],fun t ht=>?_,fun t ht=>?_,by simpa using h.listedSize,fun k q hk hlk e he hb=>?_,fun k hk=>?_⟩
 ·by_cases hd:o.dst=some t
  ·rw[hd] at hp ⊢;rw[eval_put_same (by rw[h.size];exact hlt t hd)];exact hp
  ·rw[zZ hd];refine (h.facts t fun j q hjn hj hq=>?_).grow hg;have hne:i≠j:=fun e=>by
    subst e;rw[hi] at hj;injection hj with hj;subst hj;exact hd hq
   have:=ht j q hjn hj hq
   rwa[getD_set_ne false hne] at this
 ·rw[zZ (ht i o hin hi)];exact h.others t ht
 ·have hold:listed.getD e.on false=true->(listed.setIfInBounds i true).getD e.on false=true:=getD_set_true
  by_cases hki:i=k
  ·subst hki;rw[hi] at hk;injection hk with hk;subst hk;exact hold (hall e he hb)
  ·rw[getD_set_ne false hki] at hlk;exact hold (h.closed k q hk hlk e he hb)
 ·rw[getD_set_ne false (by omega)];exact h.none k hk
theorem vo:∀(l:List Bool) (n:Nat),(∀k,n<=k->l.getD k false=false)->l.length-n<=l.count false
 |[],n,_=>by simp
 |b::l,0,h=>by
  have hb:=h 0 (Nat.le_refl _);have:=vo l 0 (fun k _=>by have:=h (k+1) (Nat.zero_le _);simpa using this);simp at hb;subst hb;simp at this ⊢;omega
 |b::l,n+1,h=>by
  have:=vo l n (fun k hk=>by have:=h (k+1) (by omega);simpa using this);simp only[List.length_cons,List.count_cons];omega
theorem zet {G:Fact} {a0:Act} {w0:World} {Q:Exit->Act->World->Prop} {ms:List (List Tmp×Option (Tmp×Bool))} (hB:YF ops a0.tmps.size=true) (hT:za1 ops n=true) (hn:n<=ops.size) (hms:ms=(qP ops).take n) (hreq:Req P G w0 (ops.toList.take n) ms)
 (hend:∀a w,(∀listed:Array Bool,(∀j,j<n->listed.getD j false=true)->InvT ops n G a0 w0 listed a w->zX P Q (ops.toList.drop n) a w)) :
 ∀(fuel:Nat) (listed:Array Bool) (a:Act) (w:World),listed.toList.count false<=fuel->InvT ops n G a0 w0 listed a w->wpAny P .any ops Q fuel listed a w:=by
 intro fuel
 induction fuel with
 |zero=>
  intro listed a w hc h;have hcnt:=vo listed.toList n (fun k hk=>by have:=h.none k hk;simpa using this);rw[Array.length_toList,h.listedSize] at hcnt;have hall:∀j,j<n->listed.getD j false=true:=fun j hj=>by
   cases hl:listed.getD j false with
   |true=>rfl
   |false=>
    exfalso
    have hb:j<listed.size:=by rw[h.listedSize];omega
    have:(false:Bool)∈listed.toList:=by
     have e:listed[j]=false:=by simpa [hb] using hl
     rw[<-e];exact Array.getElem_mem_toList hb
    have:=List.count_pos_iff.2 this;omega
  exact zeG hB hT 0 n listed a w (Nat.le_refl _) hn h.listedSize (fun k _=>⟨fun hk=>Nat.lt_of_not_le fun h1=>(by rw[h.none k h1] at hk;cases hk),hall k⟩) (by omega) (hend a w listed hall h)
 |succ fuel ih=>
  intro listed a w hc h;have hcnt:=vo listed.toList n (fun k hk=>by have:=h.none k hk;simpa using this);rw[Array.length_toList,h.listedSize] at hcnt
  by_cases hall:∀j,j<n->listed.getD j false=true
  ·exact zeG hB hT _ n listed a w (Nat.le_refl _) hn h.listedSize (fun k _=>⟨fun hk=>Nat.lt_of_not_le fun h1=>(by rw[h.none k h1] at hk;cases hk),hall k⟩) (by omega) (hend a w listed hall h)
  ·have hready:Region.ready .any ops listed≠[]:=fun hr=>hall fun j=>by
    induction j using Nat.strongRecOn with
    |_ j ihj=>
     intro hj
     cases hl:listed.getD j false with
     |true=>rfl
     |false=>
      exfalso
      have hjo:ops[j]?=some ops[j]:=Array.getElem?_eq_getElem (by omega);have:j∈Region.ready .any ops listed:=mem_ready.2 ⟨by rw[qo (by rw[h.listedSize];omega)];exact hl,ops[j],hjo,fun e he hb=>by
       have hlt:=(xJ hB hjo).1 e he hb;exact ihj e.on hlt (by omega)⟩
      rw[hr] at this
      cases this
   refine ⟨fun hr=>absurd hr hready,fun i hm=>?_⟩;obtain ⟨hu,o,ho,hal⟩:=qy h.listedSize hm;have hil:i<ops.size:=(Array.getElem?_eq_some_iff.1 ho).1;have hin:i<n:=by
    rcases Nat.lt_or_ge i n with h1|h1
    ·exact h1
    ·exact absurd (fun j hj=>yS h.closed _ _ _ o ho hal ((tail_at hT ho h1).2 j (by omega))) hall
   have hlt:i<listed.size:=by rw[h.listedSize];exact hil
   have hcount:(listed.setIfInBounds i true).toList.count false<=fuel:=by
    have e:listed.toList[i]?=some false:=by
     have:listed[i]=false:=by simpa [hlt] using hu
     simp[hlt,this]
    have:=count_set listed.toList i e;simp only[Array.toList_setIfInBounds];omega
   obtain ⟨hacyc,hguard,hdlt,hflow⟩:=xJ hB ho;obtain ⟨m,hm1,hm2⟩:=zeQ (ops.toList.take n) ms hreq i o (by rw[List.getElem?_take,if_pos hin];simpa using ho);have hme:m=(o.looksAt ops,guardOf ops o):=by
    rw[hms,List.getElem?_take,if_pos hin] at hm1;unfold qP at hm1;rw[List.getElem?_map] at hm1;have:ops.toList[i]?=some o:=by simpa using ho
    rw[this] at hm1
    simpa using hm1.symm
   subst hme;have hk:Knows G a w (o.looksAt ops):=ZL _ fun t ht=>(h.facts t fun j q _ hj hq=>by
    obtain ⟨e,he,hb,rfl⟩:=(hflow j q t hj hq).1 ht;exact hal e he hb).now
   have hreq':=hm2 a w h.grows hk;unfold wpOp;simp only[ho];have go:∀v w',zk w w'->Post G o.dst v w'->wpAny P .any ops Q fuel (listed.setIfInBounds i true) (a.put o.dst v) w':=fun v w' hg hp=>
    ih _ _ _ hcount (zkg hB hin ho hal h hg hp)
   unfold zw guardOf at hreq'
   cases hgd:o.guard with
   |none=>
    rw[hgd] at hreq';have hw:Region.wanted o (yielded ops a.tmps)=true:=by unfold Region.wanted;rw[hgd]
    rw[if_pos hw];exact .inl (vP hreq' go)
   |some gb=>
    obtain ⟨g,b⟩:=gb;obtain ⟨q,d,hq,hqd⟩:=hguard g b hgd;rw[hgd] at hreq';have hbind:(ops[g]?).bind (·.dst)=some d:=by rw[hq];exact hqd
    simp only[hbind,Option.map_some] at hreq';rw[<-zD] at hreq';rcases hreq' with ⟨he,hok⟩|⟨he,hp⟩
    ·have hw:=yK (ops:=ops) hgd hbind he;rw[if_pos (by rw[hw];simp)];exact .inl (vP hok go)
    ·have hw:=yK (ops:=ops) hgd hbind he;rw[if_neg (by rw[hw];cases b<;>simp)];exact go _ _ (zk.refl w) hp
theorem Za {id:Nat} {Q:Exit->Act->World->Prop} {a0:Act} {w:World} {l tail:List Oper} (n:Nat) (G:Fact) (dsts:List Tmp) (ms:List (List Tmp×Option (Tmp×Bool))) (size:Nat) (hm:P.follows .mixedOrders=true)
 (hB:(YF l.toArray size&&za1 l.toArray n&&decide (n<=l.length)&&(ms==(qP l.toArray).take n)&&((l.take n).filterMap (·.dst)==dsts))=true) (hsz:a0.tmps.size=size)
 (h0:∀t W,t∉dsts->zk w W->G t (a0.eval (.tmp t)) W) (hreq:Req P G w (l.take n) ms)
 (htail:l.drop n=tail)
 (hend:∀(x:Tmp->Value) (w':World),zk w w'->(∀d∈dsts,Holds G d (x d) w')->zX P Q tail (zm x dsts a0) w'):(Code.region id l.toArray true).wp P Q a0 w:=by
 simp only[Bool.and_eq_true,beq_iff_eq,decide_eq_true_eq] at hB;obtain ⟨⟨⟨⟨hf,hT⟩,hn⟩,hme⟩,hde⟩:=hB;subst hsz htail;have hmem:∀t:Tmp,t∈dsts↔∃(j:Nat) (o:Oper),j<n/\l.toArray[j]?=some o/\o.dst=some t:=fun t=>by
  rw[<-hde];simp only[List.mem_filterMap]
  constructor
  ·rintro ⟨o,ho,hd⟩;obtain ⟨j,hj⟩:=List.mem_iff_getElem?.1 ho;rw[List.getElem?_take] at hj
   split at hj
   ·rename_i hjn
    exact ⟨j,o,hjn,by simpa using hj,hd⟩
   ·cases hj
  ·rintro ⟨j,o,hjn,hj,hd⟩;exact ⟨o,List.mem_iff_getElem?.2 ⟨j,by rw[List.getElem?_take,if_pos hjn];simpa using hj⟩,hd⟩
 refine wp_region_any hm (zet (n:=n) (ms:=ms) (G:=G) (a0:=a0) (w0:=w) hf hT (by simpa using hn) hme (by simpa using hreq) ?_ _ _ _ _ ?_ ?_)
 ·intro a w' listed hall hinv;have e:a=zm (fun t=>a.eval (.tmp t)) dsts a0:=by
   have hsz:=hinv.size;have hdf:=hinv.defers;have ht:a.tmps=(zm (fun t=>a.eval (.tmp t)) dsts a0).tmps:=by
    apply Array.ext_getElem?
    intro t
    by_cases hlt:t<a0.tmps.size
    ·rw[qg _ _ _ _ hlt];have hat:a.tmps[t]?=some (a.eval (.tmp t)):=by
      have:t<a.tmps.size:=by rw[hsz];exact hlt
      simp[Act.eval,this]
     by_cases hd:t∈dsts
     ·rw[if_pos hd,hat]
     ·rw[if_neg hd,hat,hinv.others t (fun j o hjn hj hq=>hd ((hmem t).2 ⟨j,o,hjn,hj,hq⟩))];simp[Act.eval,hlt]
    ·rw[Array.getElem?_eq_none (by rw[hsz];omega),Array.getElem?_eq_none (by rw[xI];omega)]
   have hdd:a.defers=(zm (fun t=>a.eval (.tmp t)) dsts a0).defers:=by rw[yJ,hdf]
   exact Qf ht hdd
  rw[e];have:=hend (fun t=>a.eval (.tmp t)) w' hinv.grows fun d hd=>hinv.facts d fun j o hjn _ _=>hall j hjn
  simpa using this
 ·simp
 ·refine ⟨⟨rfl,rfl,rfl,Nat.le_refl _,fun _ _=>rfl⟩,rfl,rfl,fun t ht=>?_,fun _ _=>rfl,by simp,fun k o hk hl=>?_,fun k _=>?_⟩
  ·have hnd:t∉dsts:=fun hd=>by
    obtain ⟨j,o,hjn,hj,hq⟩:=(hmem t).1 hd;have:=ht j o hjn hj hq;have hlt:=(Array.getElem?_eq_some_iff.1 hj).1;simp at hlt;simp[hlt] at this
   exact fun W hW=>h0 t W hnd ⟨hW.os,hW.tape,hW.output,hW.size,hW.block⟩
  ·have hlt:=(Array.getElem?_eq_some_iff.1 hk).1;simp at hlt;simp[hlt] at hl
  ·by_cases hlt:k<l.length
   ·simp[hlt]
   ·simp[hlt]
theorem zkV {w:World} {o:Oper} {a:Act} {K:Act->World->Prop} {Q:Exit->Act->World->Prop} (s x:Operand) (t:TypeId)
 (ho:o.op=.call {callee:=.builtin .append,args:=#[s,x],argTypes:=#[t,t]})
 (base:Nat) (e:TypeId) (i:TypeInfo) (z:Value) (ht:P.underlying t=some (.slice e)) (hi:P.info? e=some i) (hz:i.zero=some z) (hsize:i.size=1) (hby:i.bytes=1) (hzs:z.cells.size=1)
 (v:Value) (n:Nat) (l:List UInt8) (hs:a.eval s=v) (hown:w.ownsRow base e 1 v n (Me.cellsOf l)) (B:Nat) (A:Option Addr) (k c:Nat) (m:List UInt8) (hx:a.eval x=.slice A k c) (hm:m.length=k) (hr:Me.Rd w B A m)
 (hbytes:n+k<=140737488355328) (hbase:base<=w.heap.size)
 (h:∀v' w',w'.ownsRow base e 1 v' (n+k) (Me.cellsOf (l++m))->w.grownBy w' v.ownBlock->K (a.put o.dst v') w'):Oper.wp P o a w K Q:=by
 obtain ⟨v',w',hrun,h2,h3,-⟩:=Me.zhn (P:=P) w base t o.type e i z ht hi hz hsize hby hzs v n l hown B A k c m hm hr hbytes hbase;unfold Oper.wp execOp;simp only[ho,resolve,invoke,builtin,Sem.run_bind,Sem.run_pure,Result.andThen_ok,List.map_toArray,List.map_cons,List.map_nil,hs,hx,hrun];exact h v' w' h2 h3
theorem wp_assign {w:World} {o:Oper} {a:Act} {K:Act->World->Prop} {Q:Exit->Act->World->Prop} (x:Operand) (v:Value) (ho:o.op=.assign x) (hv:a.eval x=v) (h:K (a.put o.dst v) w):Oper.wp P o a w K Q:=by
 subst hv;unfold Oper.wp execOp;simp only[ho,Sem.run_pure];exact h
end
end Gw
namespace Gw
open Go.RowKit
def mayB (ops:Array Oper) (wrs:List Nat) (i p:Nat):Bool:=
 (List.range wrs.length).all fun k=>match wrs[k]? with
   |none=>true
   |some j=>(!Z5 ops ops.size i j||decide (k<p))&&(!decide (k<p)||(!Z5 ops ops.size j i&&j != i))
def vS (ops:Array Oper) (wrs:List Nat) (i:Nat):List Nat:=(List.range (wrs.length+1)).filter (mayB ops wrs i)
abbrev Row:=List Tmp×Option (Tmp×Bool)×List Nat×Bool
def rowOf (ops:Array Oper) (wrs:List Nat) (i:Nat):Row:=
 match ops[i]? with
 |none=>([],none,[],false)
 |some o=>(o.looksAt ops,guardOf ops o,vS ops wrs i,wrs.contains i)
def rowsOf (ops:Array Oper) (wrs:List Nat):List Row:=(List.range ops.size).map (rowOf ops wrs)
def ownB (ops:Array Oper) (wrs:List Nat):Bool:=(List.range wrs.length).all fun k=>match wrs[k]? with
 |none=>true
 |some i=>(vS ops wrs i==[k])&&decide (i<ops.size)
def zW (R:World->World->Prop) (G:Fact) (t:Tmp) (v:Value) (w:World):Prop:=∀W,R w W->G t v W
def OkP (P:Program) (o:Oper) (a:Act) (w:World) (p:Value->World->Prop):Prop:=
 match (execOp a.eval o).run P w with
 | .ok (.value v) w'=>p v w'
 | .ok .skip w'=>p undef w'
 | .ok (.enter f args) w'=>Calls P f args w' fun e w''=>∃v,e=.returned v/\p v w''
 |_=>False
def xH (R:World->World->Prop) (I:Nat->World->Prop) (G:Fact) (p:Nat) (dst:Option Tmp) (w:World) (v:Value) (w':World):Prop:=
 R w w'/\I p w'/\match dst with
  |some d=>zW R G d v w'
  |none=>True
def yo (P:Program) (R:World->World->Prop) (I:Nat->World->Prop) (G:Fact) (o:Oper) (g:Option (Tmp×Bool)) (p:Nat) (a:Act) (w:World):Prop:=
 match g with
 |none=>OkP P o a w (xH R I G p o.dst w)
 |some (d,b)=>(a.tmps[d]?.getD undef=.bool b/\OkP P o a w (xH R I G p o.dst w))\/(a.tmps[d]?.getD undef=.bool (!b)/\xH R I G p o.dst w undef w)
def zkU:List Nat->(Nat->Prop)->Prop
 |[],_=>True
 |p::l,f=>f p/\zkU l f
theorem zkU.at {f:Nat->Prop}:∀{l:List Nat} {p:Nat},zkU l f->p∈l->f p
 |_::_,p,h,hm=>by
  rcases List.mem_cons.1 hm with rfl|hm
  ·exact h.1
  ·exact h.2.at hm
def PReq (P:Program) (R:World->World->Prop) (I:Nat->World->Prop) (G:Fact) (w0:World):List Oper->List Row->Prop
 |[],[]=>True
 |o::os,(ts,g,ph,wr)::ms=>zkU ph (fun p=>∀a w,R w0 w->I p w->Knows G a w ts->yo P R I G o g (bif wr then p+1 else p) a w)/\PReq P R I G w0 os ms
 |_,_=>False
section
variable {P:Program} {ops:Array Oper} {wrs:List Nat} {R:World->World->Prop} {I:Nat->World->Prop} {G:Fact}
theorem zW.reach (hRt:∀a b c,R a b->R b c->R a c) {t:Tmp} {v:Value} {w w':World} (h:zW R G t v w) (hg:R w w'):zW R G t v w':=fun W hW=>h W (hRt _ _ _ hg hW)
theorem zd0 {w0:World}:∀(os:List Oper) (ms:List Row),PReq P R I G w0 os ms->∀(i:Nat) (o:Oper),os[i]?=some o->∃m:Row,ms[i]?=some m/\∀p∈m.2.2.1,∀a w,R w0 w->I p w->Knows G a w m.1->yo P R I G o m.2.1 (bif m.2.2.2 then p+1 else p) a w
 |[],_,_,i,o,h=>by simp at h
 |o::os,[],hr,_,_,_=>hr.elim
 |o::os,(ts,g,ph,wr)::ms,hr,0,_,h=>⟨_,rfl,by
   simp at h;subst h;intro p hp;exact hr.1.at hp⟩
 |o::os,(ts,g,ph,wr)::ms,hr,i+1,o',h=>by
  obtain ⟨m',h1,h2⟩:=zd0 os ms hr.2 i o' (by simpa using h);exact ⟨m',by simpa using h1,h2⟩
structure InvP (ops:Array Oper) (wrs:List Nat) (R:World->World->Prop) (I:Nat->World->Prop) (G:Fact) (a0:Act) (w0:World) (p:Nat) (listed:Array Bool) (a:Act) (w:World):Prop where
 reach:R w0 w
 inv:I p w
 defers:a.defers=a0.defers
 size:a.tmps.size=a0.tmps.size
 facts:∀t,(∀(j:Nat) (o:Oper),ops[j]?=some o->o.dst=some t->listed.getD j false=true)->zW R G t (a.eval (.tmp t)) w
 others:∀t,(∀(j:Nat) (o:Oper),ops[j]?=some o->o.dst≠some t)->a.eval (.tmp t)=a0.eval (.tmp t)
 listedSize:listed.size=ops.size
 closed:Closed ops listed
 here:∀(k i:Nat),wrs[k]?=some i->(listed.getD i false=true↔k<p)
theorem vD (h:ownB ops wrs=true) {k i:Nat} (hk:wrs[k]?=some i):vS ops wrs i=[k]/\i<ops.size:=by
 have hlt:=(List.getElem?_eq_some_iff.1 hk).1;have h1:=List.all_eq_true.1 h k (List.mem_range.2 hlt);simp only[hk,Bool.and_eq_true,beq_iff_eq,decide_eq_true_eq] at h1;exact h1
theorem zk2 {a0:Act} {w0:World} {p:Nat} {listed:Array Bool} {a:Act} {w:World} {i:Nat} {o:Oper} (h:InvP ops wrs R I G a0 w0 p listed a w) (hp:p<=wrs.length) (hi:ops[i]?=some o) (hu:listed.getD i false=false)
 (hall:∀e∈o.after,Region.binds .any e=true->listed.getD e.on false=true) (hO:ownB ops wrs=true):p∈vS ops wrs i:=by
 unfold vS;rw[List.mem_filter];refine ⟨List.mem_range.2 (by omega),?_⟩;unfold mayB;rw[List.all_eq_true];intro k hk;have hk:=List.mem_range.1 hk;have hwk:wrs[k]?=some wrs[k]:=List.getElem?_eq_getElem hk;rw[hwk];simp only[Bool.and_eq_true,Bool.or_eq_true,Bool.not_eq_true',decide_eq_true_eq,decide_eq_false_iff_not,bne_iff_ne,ne_eq];have hw:=h.here k _ hwk;refine ⟨?_,?_⟩
 ·cases hb:Z5 ops ops.size i wrs[k] with
  |false=>exact .inl rfl
  |true=>exact .inr (hw.1 (yS h.closed _ _ _ o hi hall hb))
 ·by_cases hkp:k<p
  ·right
   have hl:=hw.2 hkp;refine ⟨?_,fun e=>?_⟩
   ·cases hb:Z5 ops ops.size wrs[k] i with
    |false=>rfl
    |true=>
     exfalso
     have hlt:=(vD hO hwk).2;have hok:ops[wrs[k]]?=some ops[wrs[k]]:=Array.getElem?_eq_getElem hlt;have:=yS h.closed _ _ _ _ hok (h.closed _ _ hok hl) hb;rw[hu] at this
     cases this
   ·rw[e,hu] at hl
    cases hl
  ·exact .inl hkp
theorem zbV {o:Oper} {a:Act} {w:World} {K:Act->World->Prop} {Q:Exit->Act->World->Prop} {p:Value->World->Prop} (h:OkP P o a w p) (hK:∀v w',p v w'->K (a.put o.dst v) w'):o.wp P a w K Q:=by
 unfold OkP at h;unfold Oper.wp
 generalize (execOp a.eval o).run P w=r at *
 cases r with
 |ok nx w'=>
  cases nx with
  |value v=>exact hK _ _ h
  |skip=>exact hK _ _ h
  |enter f args=>exact h.mono fun e w'' ⟨v,he,hp⟩=>by subst he;exact hK _ _ hp
  |_=>exact h.elim
 |halt x w'=>exact h.elim
theorem zfm (hRt:∀a b c,R a b->R b c->R a c) {a0:Act} {w0:World} {p:Nat} {listed:Array Bool} {a:Act} {w w':World} {i:Nat} {o:Oper} {v:Value} (hB:YF ops a0.tmps.size=true) (hO:ownB ops wrs=true) (hi:ops[i]?=some o)
 (hph:p∈vS ops wrs i)
 (hall:∀e∈o.after,Region.binds .any e=true->listed.getD e.on false=true)
 (h:InvP ops wrs R I G a0 w0 p listed a w) (hp:xH R I G (bif wrs.contains i then p+1 else p) o.dst w v w'):InvP ops wrs R I G a0 w0 (bif wrs.contains i then p+1 else p) (listed.setIfInBounds i true) (a.put o.dst v) w':=by
 obtain ⟨hac,-,hlt,hone⟩:=xJ hB hi;obtain ⟨hr,hI,hd⟩:=hp;have hil:i<listed.size:=by rw[h.listedSize];exact (Array.getElem?_eq_some_iff.1 hi).1
 refine ⟨hRt _ _ _ h.reach hr,hI,by rw[Zt,h.defers],by rw[size_put,h.size],fun t ht=>?_,fun t ht=>?_,by simpa using h.listedSize,fun k q hk hlk e he hb=>?_,fun k j hk=>?_⟩
 ·by_cases hdt:o.dst=some t
  ·rw[hdt] at hd ⊢;rw[eval_put_same (by rw[h.size];exact hlt t hdt)];exact hd
  ·rw[zZ hdt];refine (h.facts t fun j q hj hq=>?_).reach hRt hr;have hne:i≠j:=fun e=>by
    subst e;rw[hi] at hj;injection hj with hj;subst hj;exact hdt hq
   have:=ht j q hj hq
   rwa[getD_set_ne false hne] at this
 ·rw[zZ (ht i o hi)];exact h.others t ht
 ·have hold:listed.getD e.on false=true->(listed.setIfInBounds i true).getD e.on false=true:=getD_set_true
  by_cases hki:i=k
  ·subst hki;rw[hi] at hk;injection hk with hk;subst hk;exact hold (hall e he hb)
  ·rw[getD_set_ne false hki] at hlk;exact hold (h.closed k q hk hlk e he hb)
 ·have hw:=h.here k j hk
  by_cases hij:i=j
  ·subst hij;have hc:wrs.contains i=true:=by
    rw[List.contains_iff_mem];exact List.mem_of_getElem? hk
   rw[hc];have:=(vD hO hk).1;rw[this] at hph;have hpk:p=k:=by simpa using hph
   subst hpk;simp[hil]
  ·rw[getD_set_ne false hij,hw]
   cases hc:wrs.contains i with
   |false=>simp
   |true=>
    rw[List.contains_iff_mem] at hc;obtain ⟨k',hk'⟩:=List.mem_iff_getElem?.1 hc;have:=(vD hO hk').1;rw[this] at hph;have hpk:p=k':=by simpa using hph
    subst hpk;have hne:k≠p:=fun e=>by
     subst e;rw[hk] at hk';injection hk' with hk';exact hij hk'.symm
    simp only[cond_true];omega
theorem zeu (hRr:∀w,R w w) (hRt:∀a b c,R a b->R b c->R a c) {a0:Act} {w0:World} {Q:Exit->Act->World->Prop} (hB:YF ops a0.tmps.size=true) (hO:ownB ops wrs=true) (hreq:PReq P R I G w0 ops.toList (rowsOf ops wrs))
 (hend:∀a w,(∀listed:Array Bool,(∀j,j<ops.size->listed.getD j false=true)->InvP ops wrs R I G a0 w0 wrs.length listed a w->Q .normal a w)) :
 ∀(fuel p:Nat) (listed:Array Bool) (a:Act) (w:World),p<=wrs.length->listed.toList.count false<=fuel->InvP ops wrs R I G a0 w0 p listed a w->wpAny P .any ops Q fuel listed a w:=by
 have fin:∀(p:Nat) (listed:Array Bool) (a:Act) (w:World),InvP ops wrs R I G a0 w0 p listed a w->Region.ready .any ops listed=[]->∀j,j<ops.size->listed.getD j false=true:=fun p listed a w h hr=>by
  intro j
  induction j using Nat.strongRecOn with
  |_ j ih=>
   intro hj
   cases hl:listed.getD j false with
   |true=>rfl
   |false=>
    exfalso
    have hjo:ops[j]?=some ops[j]:=Array.getElem?_eq_getElem hj;have:j∈Region.ready .any ops listed:=mem_ready.2 ⟨by rw[qo (by rw[h.listedSize];exact hj)];exact hl,ops[j],hjo,fun e he hb=>by
     have hlt:=(xJ hB hjo).1 e he hb;exact ih e.on hlt (by omega)⟩
    rw[hr] at this
    cases this
 have done:∀(p:Nat) (listed:Array Bool) (a:Act) (w:World),p<=wrs.length->InvP ops wrs R I G a0 w0 p listed a w->(∀j,j<ops.size->listed.getD j false=true)->Q .normal a w:=fun p listed a w hp h hall=>by
  have e:p=wrs.length:=by
   rcases Nat.lt_or_ge p wrs.length with hlt|hge
   ·exfalso
    have hk:wrs[p]?=some wrs[p]:=List.getElem?_eq_getElem hlt;have:=(h.here p _ hk).1 (hall _ (vD hO hk).2);omega
   ·omega
  subst e;exact hend a w listed hall h
 intro fuel
 induction fuel with
 |zero=>
  intro p listed a w hp hc h;have h0:∀j,j<ops.size->listed.getD j false=true:=fun j hj=>by
   cases hl:listed.getD j false with
   |true=>rfl
   |false=>
    exfalso
    have hb:j<listed.size:=by rw[h.listedSize];exact hj
    have:(false:Bool)∈listed.toList:=by
     have e:listed[j]=false:=by simpa [hb] using hl
     rw[<-e];exact Array.getElem_mem_toList hb
    have:=List.count_pos_iff.2 this;omega
  refine ⟨?_,done p listed a w hp h h0⟩
  cases hr:Region.ready .any ops listed with
  |nil=>rfl
  |cons i r=>
   exfalso
   obtain ⟨hu,o,ho,-⟩:=qy h.listedSize (show i∈Region.ready .any ops listed by rw[hr];simp);rw[h0 i (Array.getElem?_eq_some_iff.1 ho).1] at hu
   cases hu
 |succ fuel ih=>
  intro p listed a w hp hc h;refine ⟨fun hr=>done p listed a w hp h (fin p listed a w h hr),fun i hm=>?_⟩;obtain ⟨hu,o,ho,hall⟩:=qy h.listedSize hm;have hil:i<ops.size:=(Array.getElem?_eq_some_iff.1 ho).1;have hlt:i<listed.size:=by rw[h.listedSize];exact hil
  have hcount:(listed.setIfInBounds i true).toList.count false<=fuel:=by
   have e:listed.toList[i]?=some false:=by
    have:listed[i]=false:=by simpa [hlt] using hu
    simp[hlt,this]
   have:=count_set listed.toList i e;simp only[Array.toList_setIfInBounds];omega
  obtain ⟨hacyc,hguard,hdlt,hflow⟩:=xJ hB ho;have hph:=zk2 h hp ho hu hall hO;obtain ⟨m,hm1,hm2⟩:=zd0 ops.toList (rowsOf ops wrs) hreq i o (by simpa using ho);have hme:m=(o.looksAt ops,guardOf ops o,vS ops wrs i,wrs.contains i):=by
   unfold rowsOf at hm1;rw[List.getElem?_map,List.getElem?_range hil] at hm1;simp only[Option.map_some] at hm1;injection hm1 with hm1;rw[<-hm1];unfold rowOf;rw[ho]
  subst hme;have hk:Knows G a w (o.looksAt ops):=ZL _ fun t ht=>(h.facts t fun j q hj hq=>by
   obtain ⟨e,he,hb,rfl⟩:=(hflow j q t hj hq).1 ht;exact hall e he hb) w (hRr w)
  have hreq':=hm2 p hph a w h.reach h.inv hk;have hle:(bif wrs.contains i then p+1 else p)<=wrs.length:=by
   cases hc:wrs.contains i with
   |false=>exact hp
   |true=>
    rw[List.contains_iff_mem] at hc;obtain ⟨k',hk'⟩:=List.mem_iff_getElem?.1 hc;have h1:=(vD hO hk').1;rw[h1] at hph;have hpk:p=k':=by simpa using hph
    subst hpk;have:=(List.getElem?_eq_some_iff.1 hk').1;simp only[cond_true];omega
  unfold wpOp;simp only[ho];have go:∀v w',xH R I G (bif wrs.contains i then p+1 else p) o.dst w v w'->wpAny P .any ops Q fuel (listed.setIfInBounds i true) (a.put o.dst v) w':=fun v w' hq=>
   ih _ _ _ _ hle hcount (zfm hRt hB hO ho hph hall h hq)
  unfold yo guardOf at hreq'
  cases hgd:o.guard with
  |none=>
   rw[hgd] at hreq';have hw:Region.wanted o (yielded ops a.tmps)=true:=by unfold Region.wanted;rw[hgd]
   rw[if_pos hw];exact .inl (zbV hreq' go)
  |some gb=>
   obtain ⟨g,b⟩:=gb;obtain ⟨q,d,hq,hqd⟩:=hguard g b hgd;rw[hgd] at hreq';have hbind:(ops[g]?).bind (·.dst)=some d:=by rw[hq];exact hqd
   simp only[hbind,Option.map_some] at hreq';rw[<-zD] at hreq';rcases hreq' with ⟨he,hok⟩|⟨he,hp'⟩
   ·have hw:=yK (ops:=ops) hgd hbind he;rw[if_pos (by rw[hw];simp)];exact .inl (zbV hok go)
   ·have hw:=yK (ops:=ops) hgd hbind he;rw[if_neg (by rw[hw];cases b<;>simp)];exact go _ _ hp'
theorem zN {id:Nat} {Q:Exit->Act->World->Prop} {a0:Act} {w:World} {l:List Oper} (R:World->World->Prop) (hRr:∀w,R w w) (hRt:∀a b c,R a b->R b c->R a c) (I:Nat->World->Prop) (G:Fact) (wrs:List Nat) (dsts:List Tmp) (ms:List Row) (size m:Nat) (hm:P.follows .mixedOrders=true)
 (hB:(YF l.toArray size&&ownB l.toArray wrs&&(rowsOf l.toArray wrs==ms)&&(dstsOf l.toArray==dsts)&&(wrs.length==m))=true) (hsz:a0.tmps.size=size)
 (hRd:R w w.drew) (hI0:I 0 w.drew) (h0:∀t W,t∉dsts->R w W->G t (a0.eval (.tmp t)) W) (hreq:PReq P R I G w l ms)
 (hend:∀(x:Tmp->Value) (w':World),R w w'->I m w'->(∀d∈dsts,zW R G d (x d) w')->Q .normal (zm x dsts a0) w'):(Code.region id l.toArray true).wp P Q a0 w:=by
 simp only[Bool.and_eq_true,beq_iff_eq] at hB;obtain ⟨⟨⟨⟨hf,hO⟩,hme⟩,hde⟩,hwm⟩:=hB;subst hsz hwm;have hmem:∀t:Tmp,t∈dsts↔∃(j:Nat) (o:Oper),l.toArray[j]?=some o/\o.dst=some t:=fun t=>by
  rw[<-hde];unfold dstsOf;simp only[List.mem_filterMap]
  constructor
  ·rintro ⟨o,ho,hd⟩;obtain ⟨j,hj⟩:=List.mem_iff_getElem?.1 ho;exact ⟨j,o,by simpa using hj,hd⟩
  ·rintro ⟨j,o,hj,hd⟩;exact ⟨o,List.mem_iff_getElem?.2 ⟨j,by simpa using hj⟩,hd⟩
 refine wp_region_any hm (zeu (wrs:=wrs) (I:=I) (G:=G) (a0:=a0) (w0:=w) hRr hRt hf hO (by rw[hme];simpa using hreq) ?_ _ 0 _ _ _ (Nat.zero_le _) ?_ ?_)
 ·intro a w' listed hall hinv;have e:a=zm (fun t=>a.eval (.tmp t)) dsts a0:=by
   have hsz:=hinv.size;have hdf:=hinv.defers;have ht:a.tmps=(zm (fun t=>a.eval (.tmp t)) dsts a0).tmps:=by
    apply Array.ext_getElem?
    intro t
    by_cases hlt:t<a0.tmps.size
    ·rw[qg _ _ _ _ hlt];have hat:a.tmps[t]?=some (a.eval (.tmp t)):=by
      have:t<a.tmps.size:=by rw[hsz];exact hlt
      simp[Act.eval,this]
     by_cases hd:t∈dsts
     ·rw[if_pos hd,hat]
     ·rw[if_neg hd,hat,hinv.others t (fun j o hj hq=>hd ((hmem t).2 ⟨j,o,hj,hq⟩))];simp[Act.eval,hlt]
    ·rw[Array.getElem?_eq_none (by rw[hsz];omega),Array.getElem?_eq_none (by rw[xI];omega)]
   have hdd:a.defers=(zm (fun t=>a.eval (.tmp t)) dsts a0).defers:=by rw[yJ,hdf]
   exact Qf ht hdd
  rw[e];refine hend _ _ hinv.reach hinv.inv fun d hd=>?_
  exact hinv.facts d fun j o hj _=>hall j (Array.getElem?_eq_some_iff.1 hj).1
 ·simp
 ·refine ⟨hRd,hI0,rfl,rfl,fun t ht=>?_,fun _ _=>rfl,by simp,fun k o hk hl=>?_,fun k i hk=>?_⟩
  ·have hnd:t∉dsts:=fun hd=>by
    obtain ⟨j,o,hj,hq⟩:=(hmem t).1 hd;have:=ht j o hj hq;have hlt:=(Array.getElem?_eq_some_iff.1 hj).1;simp at hlt;simp[hlt] at this
   exact fun W hW=>h0 t W hnd (hRt _ _ _ hRd hW)
  ·have hlt:=(Array.getElem?_eq_some_iff.1 hk).1;simp at hlt;simp[hlt] at hl
  ·by_cases hlt:i<l.length
   ·simp[hlt]
   ·simp[hlt]
end
end Gw
section
open Go.RowKit Me
structure Out (S:Nat->Prop) (w w':World):Prop where
 os:w'.os=w.os
 tape:w'.tape=w.tape
 output:w'.output=w.output
 size:w.heap.size<=w'.heap.size
 block:∀k,k<w.heap.size->¬S k->w'.heap[k]?=w.heap[k]?
section
variable {S S':Nat->Prop} {w w' a b c:World}
theorem Out.refl (S:Nat->Prop) (w:World):Out S w w:=⟨rfl,rfl,rfl,Nat.le_refl _,fun _ _ _=>rfl⟩
theorem Out.more (h:Out S w w') (hs:∀k,k<w.heap.size->S k->S' k):Out S' w w':=⟨h.os,h.tape,h.output,h.size,fun k hk hn=>h.block k hk fun hS=>hn (hs k hk hS)⟩
theorem Out.trans' (h:Out S a b) (k:Out S' b c) (hs:∀j,S' j->S j\/a.heap.size<=j):Out S a c:=
 ⟨k.os.trans h.os,k.tape.trans h.tape,k.output.trans h.output,Nat.le_trans h.size k.size,fun i hi hn=>
   (k.block i (Nat.lt_of_lt_of_le hi h.size) fun hS=>(hs i hS).elim hn (fun h1=>by omega)).trans (h.block i hi hn)⟩
theorem Out.trans (h:Out S a b) (k:Out S b c):Out S a c:=h.trans' k fun _ hj=>.inl hj
theorem Out.of_grown {row:Option Nat} (h:w.grownBy w' row) (hr:∀k,row=some k->k<w.heap.size->S k):Out S w w':=
 ⟨h.os,h.tape,h.output,h.size,fun k hk hn=>h.block k hk fun e=>hn (hr k e.symm hk)⟩
theorem Out.of_below (h:Below w.heap.size w w'):Out S w w':=⟨h.os,h.tape,h.output,h.size,fun k hk _=>h.block k hk⟩
theorem Out.alloc (h:Out S w w') (o:Obj):Out S w (w'.alloc o):=h.trans (.of_below ((Below.refl _ _).alloc (Nat.le_refl _) o))
theorem Out.setCell (h:Out S w w') {p:Addr} (hp:S p.block\/w.heap.size<=p.block) (u:Value):Out S w (w'.setCell p u):=
 h.trans' (S':=fun k=>k=p.block) (.of_grown (grownBy_set w' p u) fun _ e _=>by injection e with e;exact e.symm) fun j hj=>by subst hj;exact hp
theorem Out.below {B:Nat} (h:Out S w w') (hS:∀k,k<w.heap.size->S k->B<=k) (hB:B<=w.heap.size):Below B w w':=
 ⟨h.os,h.tape,h.output,h.size,fun k hk=>h.block k (by omega) fun hs=>by have:=hS k (by omega) hs;omega⟩
theorem Out.cell (h:Out S w w') {p:Addr} (hp:p.block<w.heap.size) (hn:¬S p.block):w'.cell? p=w.cell? p:=World.cell?_of_block (h.block _ hp hn)
theorem Out.setCells (b:Nat):∀(vs:List Value) (o:Nat) {w w':World},Out S w w'->(S b\/w.heap.size<=b)->Out S w (w'.setCells b o vs)
 |[],_,_,_,h,_=>h
 |_::vs,o,_,_,h,hb=>Out.setCells b vs (o+1) (h.setCell (p:=⟨b,o,none⟩) hb _) hb
theorem Out.grown {row:Option Nat} (h:Out S w a) (hg:a.grownBy b row) (hr:∀k,row=some k->S k\/w.heap.size<=k):Out S w b:=
 h.trans' (S':=fun k=>row=some k) (.of_grown hg fun _ e _=>e) fun j hj=>hr j hj
theorem xu (S:Nat->Prop) (w:World):Out S w w.drew:=⟨rfl,rfl,rfl,Nat.le_refl _,fun _ _ _=>rfl⟩
end
def Kk (T:Nat->Prop) (p:World->Prop) (w:World):Prop:=∀w',Out T w w'->p w'
section
variable {T T':Nat->Prop} {p q:World->Prop} {w w':World}
theorem Kk.out (h:Kk T p w) (ho:Out T w w'):Kk T p w':=fun w2 h2=>h w2 (ho.trans h2)
theorem Kk.past (h:Kk T p w) (hb:Below w.heap.size w w'):Kk T p w':=h.out (.of_below hb)
theorem Kk.now (h:Kk T p w):p w:=h w (.refl _ _)
theorem Kk.next (h:Kk T p w) (ho:Out T w w') (hs:∀j,T' j->T j\/w.heap.size<=j):Kk T' p w':=fun w2 h2=>h w2 (ho.trans' h2 hs)
theorem Kk.less (h:Kk T p w) (hs:∀k,k<w.heap.size->T' k->T k):Kk T' p w:=fun w2 h2=>h w2 (h2.more hs)
end
def Blk (w:World) (b:Nat) (cs:List Value):Prop:=∃t,w.heap[b]?=some (.cells cs.toArray t (0,0))
section
variable {S:Nat->Prop} {w w':World} {b:Nat} {cs:List Value}
theorem Blk.lt (h:Blk w b cs):b<w.heap.size:=by obtain ⟨t,h⟩:=h;exact (Array.getElem?_eq_some_iff.1 h).1
theorem Blk.keep (h:Blk w b cs) (hk:w'.heap[b]?=w.heap[b]?):Blk w' b cs:=by obtain ⟨t,h⟩:=h;exact ⟨t,hk.trans h⟩
theorem Blk.out (h:Blk w b cs) (ho:Out S w w') (hn:¬S b):Blk w' b cs:=h.keep (ho.block b h.lt hn)
theorem Blk.past (h:Blk w b cs) (hb:Below w.heap.size w w'):Blk w' b cs:=h.keep (hb.block b h.lt)
theorem Blk.grown {row:Option Nat} (h:Blk w b cs) (hg:w.grownBy w' row) (hne:row≠some b):Blk w' b cs:=h.keep (hg.block b h.lt fun e=>hne e.symm)
theorem Blk.alloc (h:Blk w b cs) (o:Obj):Blk (w.alloc o) b cs:=h.keep (Below.heap_alloc w o b h.lt)
theorem Blk.drew (h:Blk w b cs):Blk w.drew b cs:=h
theorem Blk.new (w:World) (cs:List Value) (t:TypeId):Blk (w.alloc (.cells cs.toArray t)) w.heap.size cs:=⟨t,heap_alloc_new w _⟩
theorem Blk.new' (w:World) (cs:List Value) (t:TypeId) {H:Nat} (hH:w.heap.size=H):Blk (w.alloc (.cells cs.toArray t)) H cs:=by subst hH;exact Blk.new w cs t
theorem Blk.cell (h:Blk w b cs) {i:Nat} {v:Value} (hi:cs[i]?=some v):w.cell? ⟨b,i,none⟩=some v:=by
 obtain ⟨t,h⟩:=h;rw[cell_of_row w b i _ t _ h]
 simpa using hi
theorem Blk.frozen (h:Blk w b cs) (i:Nat):w.frozen? ⟨b,i,none⟩=false:=by
 obtain ⟨t,h⟩:=h;exact frozen_of_row w b i _ t h
theorem Blk.set (h:Blk w b cs) (i:Nat) (v:Value):Blk (w.setCell ⟨b,i,none⟩ v) b (cs.set i v):=by
 obtain ⟨t,h⟩:=h;refine ⟨t,?_⟩;rw[heap_setCell_same w b i _ t v h]
 simp
theorem Blk.other (h:Blk w b cs) {p:Addr} (hp:p.block≠b) (v:Value):Blk (w.setCell p v) b cs:=h.keep (Below.heap_setCell _ _ _ _ (Ne.symm hp))
theorem Blk.range (h:Blk w b cs) (o n:Nat):w.rangeAt b o ((cs.drop o).take n):=fun j v hv=>by
 refine h.cell ?_;rw[List.getElem?_take] at hv
 split at hv
 ·rw[List.getElem?_drop] at hv;exact hv
 ·cases hv
theorem Blk.there (h:Blk w b cs) {o n:Nat} (hn:o+n<=cs.length):w.there b o n:=fun j hj=>
 ⟨by rw[h.cell (List.getElem?_eq_getElem (show o+j<cs.length by omega))];rfl,h.frozen _⟩
theorem Blk.sets {vs:List Value} {o:Nat} (h:Blk w b cs) (hn:o+vs.length<=cs.length):Blk (w.setCells b o vs) b (splice cs o vs):=by
 induction vs generalizing w cs o with
 |nil=>
  have e:splice cs o []=cs:=by simp[splice]
  rw[e];exact h
 |cons v vs ih=>
  have:=ih (h.set o v) (o:=o+1) (by simp at hn ⊢;omega);have e:splice (cs.set o v) (o+1) vs=splice cs o (v::vs):=by
   simp only[List.length_cons] at hn;have e1:(cs.set o v).take (o+1)=cs.take o++[v]:=by
    rw[List.take_add_one,List.getElem?_set_self (by omega),List.take_set_of_le (Nat.le_refl _)];rfl
   have e2:(cs.set o v).drop (o+1+vs.length)=cs.drop (o+(vs.length+1)):=by
    rw[List.drop_set_of_lt (by omega)]
    congr 1
    omega
   unfold splice;rw[e1,e2]
   simp
  rw[e] at this;exact this
theorem Blk.five_free {a0 a1 a2 a3 a4:Value} (h:Blk w b [a0,a1,a2,a3,a4]) :
 w.frozen? ⟨b,0,none⟩=false/\w.frozen? ⟨b,1,none⟩=false/\w.frozen? ⟨b,2,none⟩=false/\w.frozen? ⟨b,3,none⟩=false/\w.frozen? ⟨b,4,none⟩=false:=
 ⟨h.frozen _,h.frozen _,h.frozen _,h.frozen _,h.frozen _⟩
theorem Blk.set5 {a0 a1 a2 a3 a4:Value} (h:Blk w b [a0,a1,a2,a3,a4]) (v0 v1 v2 v3 v4:Value) :
 Blk (((((w.setCell ⟨b,0,none⟩ v0).setCell ⟨b,1,none⟩ v1).setCell ⟨b,2,none⟩ v2).setCell ⟨b,3,none⟩ v3).setCell ⟨b,4,none⟩ v4) b [v0,v1,v2,v3,v4]:=
 ((((h.set 0 v0).set 1 v1).set 2 v2).set 3 v3).set 4 v4
theorem Blk.four {a0 a1 a2 a3:Value} (h:Blk w b [a0,a1,a2,a3]) :
 w.cell? ⟨b,0,none⟩=some a0/\w.cell? ⟨b,1,none⟩=some a1/\w.cell? ⟨b,2,none⟩=some a2/\w.cell? ⟨b,3,none⟩=some a3:=
 ⟨h.cell rfl,h.cell rfl,h.cell rfl,h.cell rfl⟩
theorem Blk.four_free {a0 a1 a2 a3:Value} (h:Blk w b [a0,a1,a2,a3]) :
 w.frozen? ⟨b,0,none⟩=false/\w.frozen? ⟨b,1,none⟩=false/\w.frozen? ⟨b,2,none⟩=false/\w.frozen? ⟨b,3,none⟩=false:=
 ⟨h.frozen _,h.frozen _,h.frozen _,h.frozen _⟩
end
theorem zn {S:Nat->Prop} {w w':World} {base size n:Nat} {e:TypeId} {v:Value} {xs:List Value} (h:w.ownsRow base e size v n xs) (ho:Out S w w') (hn:∀k,v.ownBlock=some k->¬S k):w'.ownsRow base e size v n xs:=by
 refine ⟨h.1,?_⟩;rcases h.2 with hn'|⟨g,cap,cur,rfl,hb,hgg,rest⟩
 ·exact .inl hn'
 ·refine .inr ⟨g,cap,cur,rfl,hb,?_,rest⟩;rw[ho.block g (Array.getElem?_eq_some_iff.1 hgg).1 (hn g rfl)];exact hgg
theorem zgG {B:Nat} {a w w':World} {v:Value} {base n size:Nat} {e:TypeId} {xs:List Value} (h:Below B a w) (hown:w.ownsRow base e size v n xs) (hB:B<=base) (hs:B<=w.heap.size) (hg:w.grownBy w' v.ownBlock):Below B a w':=
 h.grown hg hs fun k hk=>by have:=(hown.lt k hk).1;omega
theorem qL {P:Program} {fn:Func} {p:Tmp} {ty:TypeId} (h:fn.results=#[.cell p ty]) (tmps:Array Value) (w:World) (b o:Nat) (cs:List Value) (d:TypeDesc)
 (hp:tmps.getD p undef=.pointer (some ⟨b,o,none⟩)) (hc:w.rangeAt b o cs) (hu:P.underlying ty=some d) (hd:d.isRow=true) (hi:(P.info? ty).map (·.size)=some cs.length) :
 (results fn tmps).run P w=.ok (.agg cs.toArray) w:=by
 have hp':tmps[p]?.getD undef=.pointer (some ⟨b,o,none⟩):=by simpa using hp
 simp[results,h,hp',asAddr,run_loadVar_mid w b o ty cs d hc hu hd hi]
def Cz (w:World) (S:Nat->Prop) (A:Option Addr) (vs:List Value):Prop:=
 0<vs.length->∃a,A=some a/\a.block<w.heap.size/\¬S a.block/\∀i v,vs[i]?=some v->w.cell? (a.add i)=some v
section
variable {S S':Nat->Prop} {w w':World} {A:Option Addr} {vs:List Value}
theorem Cz.empty:Cz w S A []:=fun h=>by simp at h
theorem Cz.out (h:Cz w S A vs) (ho:Out S w w'):Cz w' S A vs:=fun hn=>by
 obtain ⟨a,e,hb,hs,hc⟩:=h hn;exact ⟨a,e,Nat.lt_of_lt_of_le hb ho.size,hs,fun j u hu=>(ho.cell (p:=a.add j) (by rw[block_add];exact hb) (by rw[block_add];exact hs)).trans (hc j u hu)⟩
theorem Cz.past (h:Cz w S A vs) (hb:Below w.heap.size w w'):Cz w' S A vs:=h.out (.of_below hb)
theorem Cz.of_own {base size n c:Nat} {e:TypeId} (h:w.ownsRow base e size (.slice A n c) n vs) (hs:∀k,base<=k->k<w.heap.size->¬S k):Cz w S A vs:=fun hn=>by
 obtain ⟨a,e',hb,hc⟩:=Cs.of_own h hn;refine ⟨a,e',hb,hs _ ?_ hb,hc⟩;subst e';exact (h.lt _ rfl).1
end
end
section
open Go.RowKit
section
variable {P:Program}
theorem Xd {w:World} {b:Nat} {old:List Value} {ty:TypeId} {vs:Array Value} (hb:Blk w b old) (hl:old.length=vs.size) (hi:(P.info? ty).map (·.size)=some vs.size) (h1:vs.all (·.oneCell')=true) :
 ∃w',(storeVar ty ⟨b,0,none⟩ (.agg vs)).run P w=.ok () w'/\Blk w' b vs.toList/\Out (fun k=>k=b) w w':=by
 refine ⟨_,run_storeVar_mid w b 0 ty vs (hb.there (by omega)) hi h1,?_,Out.setCells b _ _ (Out.refl _ _) (.inl rfl)⟩;have:=hb.sets (o:=0) (vs:=vs.toList) (by simp[hl]);have e:splice old 0 vs.toList=vs.toList:=by
  unfold splice;rw[List.take_zero,List.nil_append,Nat.zero_add,List.drop_of_length_le (by simp[hl]),List.append_nil]
 rwa[e] at this
theorem ze {ops:Array Oper} {rest:List Oper} {op:Oper} {a:Act} {w:World} {Q:Exit->Act->World->Prop} (hgd:op.guard=none) (ty:TypeId) (x y:Operand) (ho:op.op=.store ty x y)
 (b:Nat) (old:List Value) (vs:Array Value) (hx:a.eval x=.pointer (some ⟨b,0,none⟩)) (hy:a.eval y=.agg vs) (hb:Blk w b old) (hl:old.length=vs.size) (hi:(P.info? ty).map (·.size)=some vs.size) (h1:vs.all (·.oneCell')=true)
 (h:∀w',Blk w' b vs.toList->Out (fun k=>k=b) w w'->wpList P ops Q rest (a.put op.dst undef) w'):wpList P ops Q (op::rest) a w:=by
 refine wpList_plain hgd fun K hK=>?_
 obtain ⟨w',hrun,h2,h3⟩:=Xd (P:=P) hb hl hi h1;unfold Oper.wp execOp;simp only[ho,hx,hy,Instr.storeAt,Instr.sureAddr,Sem.run_bind,Sem.run_pure,Result.andThen_ok,hrun];exact hK _ _ (h w' h2 h3)
theorem zbU {op:Oper} {a:Act} {w:World} {K:Act->World->Prop} {Q:Exit->Act->World->Prop} (ty:TypeId) (x y:Operand) (ho:op.op=.store ty x y)
 (b:Nat) (old:List Value) (vs:Array Value) (hx:a.eval x=.pointer (some ⟨b,0,none⟩)) (hy:a.eval y=.agg vs) (hb:Blk w b old) (hl:old.length=vs.size) (hi:(P.info? ty).map (·.size)=some vs.size) (h1:vs.all (·.oneCell')=true)
 (h:∀w',Blk w' b vs.toList->Out (fun k=>k=b) w w'->K (a.put op.dst undef) w'):Oper.wp P op a w K Q:=by
 obtain ⟨w',hrun,h2,h3⟩:=Xd (P:=P) hb hl hi h1;unfold Oper.wp execOp;simp only[ho,hx,hy,Instr.storeAt,Instr.sureAddr,Sem.run_bind,Sem.run_pure,Result.andThen_ok,hrun];exact h w' h2 h3
theorem wpList_append_run {ops:Array Oper} {rest:List Oper} {op:Oper} {a:Act} {w w':World} {Q:Exit->Act->World->Prop} (hgd:op.guard=none) (s x:Operand) (t:TypeId)
 (ho:op.op=.call {callee:=.builtin .append,args:=#[s,x],argTypes:=#[t,t]}) (v u r:Value) (hs:a.eval s=v) (hx:a.eval x=u)
 (hr:(Builtin.append_ #[t,t] op.type #[v,u]).run P w=.ok r w') (h:wpList P ops Q rest (a.put op.dst r) w'):wpList P ops Q (op::rest) a w:=by
 refine wpList_plain hgd fun K hK=>?_
 unfold Oper.wp execOp;simp only[ho,resolve,invoke,builtin,Sem.run_bind,Sem.run_pure,Result.andThen_ok,List.map_toArray,List.map_cons,List.map_nil,hs,hx,hr];exact hK _ _ h
theorem xQ {ops:Array Oper} {rest:List Oper} {op:Oper} {a:Act} {w w':World} {Q:Exit->Act->World->Prop} (hgd:op.guard=none) (src dst:TypeId) (x:Operand)
 (ho:op.op=.convert src dst x) (v r:Value) (hx:a.eval x=v)
 (hr:(convert src dst v).run P w=.ok r w') (h:wpList P ops Q rest (a.put op.dst r) w'):wpList P ops Q (op::rest) a w:=by
 refine wpList_plain hgd fun K hK=>?_
 unfold Oper.wp execOp;simp only[ho,hx,hr,Sem.run_bind,Sem.run_pure,Result.andThen_ok];exact hK _ _ h
theorem zbc {P:Program} (src dst e:TypeId) (hs:P.underlying src=some .string) (hd:P.underlying dst=some (.slice e)) (he:P.underlying e=some (.int .u8)) (w:World) (l:List UInt8) :
 ∃w' c,(convert src dst (.string ⟨l.toArray⟩)).run P w=.ok (.slice (some ⟨w.heap.size,0,none⟩) l.length c) w'/\Below w.heap.size w w'/\w.heap.size<w'.heap.size /\
  (∀j u,l[j]?=some u->w'.cell? ⟨w.heap.size,j,none⟩=some (.int .u8 (u.toNat:Int)))/\(∀j,j<l.length->w'.frozen? ⟨w.heap.size,j,none⟩=false):=by
 have hrun:=run_bytes_of_string (P:=P) w src dst e ⟨l.toArray⟩ hs hd he;have hsz:(⟨l.toArray⟩:ByteArray).size=l.length:=by simp[ByteArray.size]
 rw[hsz] at hrun;refine ⟨_,_,hrun,?_,by simp,fun j u hu=>?_,fun j hj=>?_⟩
 ·exact ((Below.refl w.heap.size w).drew).alloc (Nat.le_refl _) _
 ·have hh:=heap_alloc_new w.drew (.cells (bytesRow ⟨l.toArray⟩ (grownCap w l.length 0 e)) e ((bytesRow ⟨l.toArray⟩ (grownCap w l.length 0 e)).size,(bytesRow ⟨l.toArray⟩ (grownCap w l.length 0 e)).size+1));have hd':w.drew.heap.size=w.heap.size:=rfl;rw[hd'] at hh;rw[cell_of_row _ _ _ _ _ _ hh];have hj:=(List.getElem?_eq_some_iff.1 hu).1;unfold bytesRow;rw[Array.getElem?_append_left (by simpa using hj)];simp[hu]
 ·have hh:=heap_alloc_new w.drew (.cells (bytesRow ⟨l.toArray⟩ (grownCap w l.length 0 e)) e ((bytesRow ⟨l.toArray⟩ (grownCap w l.length 0 e)).size,(bytesRow ⟨l.toArray⟩ (grownCap w l.length 0 e)).size+1));have hd':w.drew.heap.size=w.heap.size:=rfl;rw[hd'] at hh;unfold World.frozen?;rw[hh];have:j<(bytesRow ⟨l.toArray⟩ (grownCap w l.length 0 e)).size:=by unfold bytesRow;simp;omega
  simp
  omega
structure Tl (p:Prop):Prop where
 out:p
theorem zeD {a:Act} {w:World} {Q:Exit->Act->World->Prop} (h:Q .normal a w):Tl (Gw.zX P Q [] a w):=⟨h⟩
theorem zjg {op:Oper} {rest:List Oper} {a:Act} {w:World} {Q:Exit->Act->World->Prop} (ty:TypeId) (x y:Operand) (ho:op.op=.store ty x y)
 (b:Nat) (old:List Value) (vs:Array Value) (hx:a.eval x=.pointer (some ⟨b,0,none⟩)) (hy:a.eval y=.agg vs) (hb:Blk w b old) (hl:old.length=vs.size) (hi:(P.info? ty).map (·.size)=some vs.size) (h1:vs.all (·.oneCell')=true)
 (h:∀w',Blk w' b vs.toList->Out (fun k=>k=b) w w'->Tl (Gw.zX P Q rest (a.put op.dst undef) w')):Tl (Gw.zX P Q (op::rest) a w):=
 ⟨zbU ty x y ho b old vs hx hy hb hl hi h1 fun w' h2 h3=>(h w' h2 h3).out⟩
theorem Qh {id:Nat} {Q:Exit->Act->World->Prop} {a0:Act} {w:World} {l tail:List Oper} (n:Nat) (G:Gw.Fact) (dsts:List Tmp) (ms:List (List Tmp×Option (Tmp×Bool))) (size:Nat) (hm:P.follows .mixedOrders=true)
 (hB:(Gw.YF l.toArray size&&Gw.za1 l.toArray n&&decide (n<=l.length)&&(ms==(Gw.qP l.toArray).take n)&&((l.take n).filterMap (·.dst)==dsts))=true) (hsz:a0.tmps.size=size)
 (h0:∀t W,t∉dsts->Gw.zk w W->G t (a0.eval (.tmp t)) W) (hreq:Gw.Req P G w (l.take n) ms)
 (htail:l.drop n=tail)
 (hend:∀(x:Tmp->Value) (w':World),Gw.zk w w'->(∀d∈dsts,Gw.Holds G d (x d) w')->Tl (Gw.zX P Q tail (Gw.zm x dsts a0) w')):(Code.region id l.toArray true).wp P Q a0 w:=
 Gw.Za n G dsts ms size hm hB hsz h0 hreq htail fun x w' hg hx=>(hend x w' hg hx).out
end
end
namespace Rw
def rows {α:Type} (f:α->List Value) (l:List α):List Value:=l.flatMap f
section
variable {α:Type} {f:α->List Value} {s:Nat}
theorem qC (x:α) (l:List α):rows f (x::l)=f x++rows f l:=by simp[rows]
theorem zhr (l:List α) (x:α):rows f (l++[x])=rows f l++f x:=by simp[rows]
theorem ZC:∀{l:List α},(∀x∈l,(f x).length=s)->(rows f l).length=l.length*s
 |[],_=>by simp[rows]
 |x::l,h=>by
  rw[qC,List.length_append,h x (by simp),ZC fun y hy=>h y (by simp[hy]),List.length_cons,Nat.add_mul];omega
theorem zch:∀{l:List α} {k:Nat},(∀x∈l,(f x).length=s)->(rows f l).drop (k*s)=rows f (l.drop k)
 |[],k,_=>by simp[rows]
 |x::l,0,_=>by simp
 |x::l,k+1,h=>by
  rw[qC,List.drop_succ_cons,<-zch (l:=l) (k:=k) fun y hy=>h y (by simp[hy])];rw[show (k+1)*s=(f x).length+k*s by rw[h x (by simp),Nat.add_mul];omega];rw[<-List.drop_drop,List.drop_left'];rfl
theorem Q7 {l:List α} {k:Nat} {x:α} (h:∀x∈l,(f x).length=s) (hk:l[k]?=some x):((rows f l).drop (k*s)).take s=f x:=by
 obtain ⟨hlt,e⟩:=List.getElem?_eq_some_iff.1 hk;have hx:(f x).length=s:=h x (by rw[<-e];exact List.getElem_mem _);rw[zch h,List.drop_eq_getElem_cons hlt,e,qC,<-hx,List.take_left'];rfl
theorem zjv {l:List α} {k j:Nat} {x:α} (h:∀x∈l,(f x).length=s) (hk:l[k]?=some x) (hj:j<s):(rows f l)[k*s+j]?=(f x)[j]?:=by
 rw[<-Q7 h hk,List.getElem?_take,if_pos hj,List.getElem?_drop]
theorem zeO:∀{l:List α} {k:Nat} {x:α},(∀x∈l,(f x).length=s)->(f x).length=s->k<l.length->rows f (l.set k x)=splice (rows f l) (k*s) (f x)
 |[],k,_,_,_,hk=>by simp at hk
 |y::l,0,x,h,hx,_=>by
  have hy:=h y (by simp);rw[List.set_cons_zero,qC,qC];unfold splice;rw[Nat.zero_mul,List.take_zero,List.nil_append,hx,Nat.zero_add,<-hy,List.drop_left'];rfl
 |y::l,k+1,x,h,hx,hk=>by
  have hy:=h y (by simp);rw[List.set_cons_succ,qC,qC,zeO (fun z hz=>h z (by simp[hz])) hx (by simpa using hk)];unfold splice;have e:(k+1)*s=(f y).length+k*s:=by rw[hy,Nat.add_mul];omega
  rw[e,List.take_append,List.drop_append];have e1:(f y).take ((f y).length+k*s)=f y:=List.take_of_length_le (by omega);have e2:(f y).drop ((f y).length+k*s+(f x).length)=[]:=List.drop_of_length_le (by omega);rw[e1,e2,List.nil_append,List.append_assoc]
  congr 3
  ·congr 1;omega
  ·congr 2;omega
end
end Rw
end
section
namespace Rn
theorem Y5 (a b:UInt8) (x y:List UInt8):Op.bytesLess (a::x) (b::y)=true↔a.toNat<b.toNat\/(a=b/\Op.bytesLess x y=true):=by
 rw[Op.bytesLess,Bool.or_eq_true,Bool.and_eq_true,decide_eq_true_eq,beq_iff_eq,UInt8.lt_iff_toNat_lt]
theorem ziO (x:List UInt8):Op.bytesLess x []=false:=by cases x<;>rfl
theorem Yn:∀x:List UInt8,Op.bytesLess x x=false
 |[]=>rfl
 |a::x=>by
  rw[<-Bool.not_eq_true,Y5,Yn x]
  simp
theorem XA:∀{x y z:List UInt8},Op.bytesLess x y=true->Op.bytesLess y z=true->Op.bytesLess x z=true
 |_,_,[],_,h=>by rw[ziO] at h;cases h
 |_,[],_::_,h,_=>by rw[ziO] at h;cases h
 |[],_::_,_::_,_,_=>rfl
 |a::x,b::y,c::z,h,k=>by
  rw[Y5] at h k ⊢;rcases h with h|⟨rfl,h⟩
  ·rcases k with k|⟨rfl,k⟩
   ·exact .inl (by omega)
   ·exact .inl h
  ·rcases k with k|⟨rfl,k⟩
   ·exact .inl k
   ·exact .inr ⟨rfl,XA h k⟩
theorem zfD:∀x y:List UInt8,Op.bytesLess x y=true\/x=y\/Op.bytesLess y x=true
 |[],[]=>.inr (.inl rfl)
 |[],_::_=>.inl rfl
 |_::_,[]=>.inr (.inr rfl)
 |a::x,b::y=>by
  rw[Y5,Y5];rcases Nat.lt_trichotomy a.toNat b.toNat with h|h|h
  ·exact .inl (.inl h)
  ·have e:a=b:=UInt8.toNat.inj h;subst e;rcases zfD x y with h|h|h
   ·exact .inl (.inr ⟨rfl,h⟩)
   ·exact .inr (.inl (by rw[h]))
   ·exact .inr (.inr (.inr ⟨rfl,h⟩))
  ·exact .inr (.inr (.inl h))
def leB (x y:List UInt8):Prop:=Op.bytesLess y x=false
theorem zbu (x:List UInt8):leB x x:=Yn x
theorem zcX {x y:List UInt8} (h:Op.bytesLess x y=true):leB x y:=by
 unfold leB
 cases q:Op.bytesLess y x with
 |false=>rfl
 |true=>have:=XA h q;rw[Yn] at this;cases this
theorem zh5 {x y:List UInt8}:leB x y↔Op.bytesLess x y=true\/x=y:=by
 refine ⟨fun h=>?_,fun h=>?_⟩
 ·rcases zfD x y with q|q|q
  ·exact .inl q
  ·exact .inr q
  ·unfold leB at h;rw[h] at q;cases q
 ·rcases h with h|rfl
  ·exact zcX h
  ·exact zbu x
theorem Zl {x y z:List UInt8} (h:leB x y) (k:leB y z):leB x z:=by
 rw[zh5] at h k ⊢;rcases h with h|rfl
 ·rcases k with k|rfl
  ·exact .inl (XA h k)
  ·exact .inl h
 ·exact k
theorem zkc {x y:List UInt8} (h:leB x y) (k:leB y x):x=y:=by
 rcases zh5.1 h with q|q
 ·unfold leB at k;rw[k] at q;cases q
 ·exact q
def yu (l:List (List UInt8)):Prop:=l.Pairwise leB
def insL (x:List UInt8):List (List UInt8)->List (List UInt8)
 |[]=>[x]
 |y::l=>if Op.bytesLess x y then x::y::l else y::insL x l
def zG (l:List (List UInt8)):List (List UInt8):=l.foldl (fun out x=>insL x out) []
theorem VA (x:List UInt8):∀l:List (List UInt8),(insL x l).Perm (x::l)
 |[]=>List.Perm.refl _
 |y::l=>by
  rw[insL]
  split
  ·exact List.Perm.refl _
  ·exact ((VA x l).cons y).trans (List.Perm.swap x y l)
theorem zaI {x:List UInt8}:∀{l:List (List UInt8)},yu l->yu (insL x l)
 |[],_=>List.pairwise_singleton _ _
 |y::l,h=>by
  have hp:=List.pairwise_cons.1 h;rw[insL]
  cases q:Op.bytesLess x y with
  |true=>
   rw[if_pos rfl];refine List.pairwise_cons.2 ⟨fun z hz=>?_,h⟩;rcases List.mem_cons.1 hz with rfl|hz
   ·exact zcX q
   ·exact Zl (zcX q) (hp.1 z hz)
  |false=>
   rw[if_neg (by simp)];refine List.pairwise_cons.2 ⟨fun z hz=>?_,zaI hp.2⟩;rcases List.mem_cons.1 ((VA x l).mem_iff.1 hz) with rfl|hz
   ·exact q
   ·exact hp.1 z hz
theorem zR (l:List (List UInt8)):(zG l).Perm l:=by
 have key:∀(l acc:List (List UInt8)),(l.foldl (fun out x=>insL x out) acc).Perm (acc++l):=fun l=>by
  induction l with
  |nil=>exact fun acc=>by rw[List.append_nil];exact List.Perm.refl _
  |cons x l ih=>
   intro acc;refine (ih _).trans (((VA x acc).append_right l).trans ?_);exact (List.perm_middle (a:=x) (l₁:=acc) (l₂:=l)).symm
 exact key l []
theorem ZA (l:List (List UInt8)):yu (zG l):=by
 have key:∀(l acc:List (List UInt8)),yu acc->yu (l.foldl (fun out x=>insL x out) acc):=fun l=>by
  induction l with
  |nil=>exact fun _ h=>h
  |cons x l ih=>exact fun acc h=>ih _ (zaI h)
 exact key l [] List.Pairwise.nil
theorem zck:∀{l m:List (List UInt8)},yu l->yu m->l.Perm m->l=m
 |[],m,_,_,h=>(List.nil_perm.1 h).symm
 |a::l,[],_,_,h=>by have:=h.length_eq;simp at this
 |a::l,b::m,hl,hm,h=>by
  have pl:=List.pairwise_cons.1 hl;have pm:=List.pairwise_cons.1 hm;have e:a=b:=by
   rcases List.mem_cons.1 (h.mem_iff.1 (List.mem_cons_self)) with e|h1
   ·exact e
   ·rcases List.mem_cons.1 (h.mem_iff.2 (List.mem_cons_self)) with e|h2
    ·exact e.symm
    ·exact zkc (pl.1 b h2) (pm.1 a h1)
  subst e;rw[zck pl.2 pm.2 ((List.perm_cons a).1 h)]
theorem vz {l m:List (List UInt8)} (hm:yu m) (h:m.Perm l):zG l=m:=zck (ZA l) hm ((zR l).trans h.symm)
theorem zjo {l:List (List UInt8)} (h:yu l):zG l=l:=vz h (List.Perm.refl _)
theorem zfO {l m:List (List UInt8)} (h:l.Perm m):zG l=zG m:=vz (ZA m) ((zR m).trans h.symm)
end Rn
end
section
namespace Hp
variable {α:Type} [Inhabited α]
def at' (l:List α) (k:Nat):α:=l.getD k default
theorem zmH {l:List α} {k:Nat} {a:α} (h:l[k]?=some a):at' l k=a:=by unfold at';rw[List.getD_eq_getElem?_getD,h];rfl
theorem zl4 {l:List α} {k:Nat} (h:k<l.length):l[k]?=some (at' l k):=by unfold at';rw[List.getD_eq_getElem?_getD,List.getElem?_eq_getElem h];rfl
def swp (l:List α) (i j:Nat):List α:=(l.set i (at' l j)).set j (at' l i)
theorem zB (l:List α) (i j:Nat):(swp l i j).length=l.length:=by simp[swp]
theorem at_set {l:List α} {i k:Nat} {a:α} (hi:i<l.length):at' (l.set i a) k=if k=i then a else at' l k:=by
 unfold at';rw[List.getD_eq_getElem?_getD,List.getElem?_set,List.getD_eq_getElem?_getD]
 by_cases h:i=k
 ·subst h;simp[hi]
 ·simp[h,Ne.symm h]
theorem Zx {l:List α} {i j k:Nat} (hi:i<l.length) (hj:j<l.length):at' (swp l i j) k=if k=j then at' l i else if k=i then at' l j else at' l k:=by
 unfold swp;rw[at_set (by simpa using hj),at_set hi]
theorem zbk:∀{l:List α} {i:Nat} (b:α),i<l.length->(at' l i::l.set i b).Perm (b::l)
 |[],i,b,h=>by simp at h
 |x::l,0,b,_=>List.Perm.swap b x l
 |x::l,i+1,b,h=>by
  have ih:=zbk (l:=l) (i:=i) b (by simpa using h);have e:at' (x::l) (i+1)=at' l i:=rfl;rw[e,List.set_cons_succ];exact (List.Perm.swap x (at' l i) _).trans ((ih.cons x).trans (List.Perm.swap b x l))
theorem Zz {l:List α} {i j:Nat} (hi:i<l.length) (hj:j<l.length):(swp l i j).Perm l:=by
 have h1:=zbk (l:=l) (i:=i) (at' l j) hi;have h2:=zbk (l:=l.set i (at' l j)) (i:=j) (at' l i) (by simpa using hj);have e:at' (l.set i (at' l j)) j=at' l j:=by
  rw[at_set hi]
  by_cases h:j=i
  ·rw[if_pos h]
  ·rw[if_neg h]
 rw[e] at h2;exact (List.perm_cons (at' l j)).1 (h2.trans h1)
def down (lt:α->α->Bool):Nat->List α->Nat->Nat->List α×Nat
 |0,l,i,_=>(l,i)
 |f+1,l,i,n=>
  if n<=2*i+1 then (l,i)
  else
   let j:=if decide (2*i+2<n)&&lt (at' l (2*i+2)) (at' l (2*i+1)) then 2*i+2 else 2*i+1
   if lt (at' l j) (at' l i) then down lt f (swp l i j) j n else (l,i)
def up (lt:α->α->Bool):Nat->List α->Nat->List α
 |0,l,_=>l
 |f+1,l,j=>if j=0 then l else if lt (at' l j) (at' l ((j-1) / 2)) then up lt f (swp l j ((j-1) / 2)) ((j-1) / 2) else l
structure Ord (lt:α->α->Bool):Prop where
 asym:∀a b,lt a b=true->lt b a=false
 tr:∀a b c,lt b a=false->lt c b=false->lt c a=false
omit [Inhabited α] in
theorem Ord.refl {lt:α->α->Bool} (h:Ord lt) (a:α):lt a a=false:=by
 cases q:lt a a with
 |false=>rfl
 |true=>have:=h.asym a a q;rw[q] at this;exact this
def Heap (lt:α->α->Bool) (l:List α) (i0 n:Nat):Prop:=∀k,0<k->k<n->i0<=(k-1) / 2->lt (at' l k) (at' l ((k-1) / 2))=false
structure Hole (lt:α->α->Bool) (l:List α) (i0 n i:Nat):Prop where
 a:∀k,0<k->k<n->i0<=(k-1) / 2->(k-1) / 2≠i->lt (at' l k) (at' l ((k-1) / 2))=false
 b:∀k,0<k->k<n->(k-1) / 2=i->0<i->i0<=(i-1) / 2->lt (at' l k) (at' l ((i-1) / 2))=false
theorem y8 (lt:α->α->Bool):∀(f:Nat) (l:List α) (i n:Nat),(down lt f l i n).1.length=l.length
 |0,_,_,_=>rfl
 |f+1,l,i,n=>by
  rw[down]
  split
  ·rfl
  ·obtain ⟨j,hj⟩:∃j,j=(if decide (2*i+2<n)&&lt (at' l (2*i+2)) (at' l (2*i+1)) then 2*i+2 else 2*i+1):=⟨_,rfl⟩
   simp only;rw[<-hj]
   split
   ·rw[y8 lt f,zB]
   ·rfl
theorem Xw (lt:α->α->Bool):∀(f:Nat) (l:List α) (i n:Nat),i<n->n<=l.length->(down lt f l i n).1.Perm l
 |0,_,_,_,_,_=>List.Perm.refl _
 |f+1,l,i,n,hi,hn=>by
  rw[down]
  split
  ·exact List.Perm.refl _
  ·rename_i h1
   obtain ⟨j,hj⟩:∃j,j=(if decide (2*i+2<n)&&lt (at' l (2*i+2)) (at' l (2*i+1)) then 2*i+2 else 2*i+1):=⟨_,rfl⟩
   simp only;rw[<-hj];have hjn:j<n:=by
    rw[hj]
    split
    ·rename_i h2
     simp only[Bool.and_eq_true,decide_eq_true_eq] at h2;exact h2.1
    ·omega
   split
   ·exact (Xw lt f _ j n hjn (by rw[zB];exact hn)).trans (Zz (by omega) (by omega))
   ·exact List.Perm.refl _
theorem zdi (lt:α->α->Bool):∀(f:Nat) (l:List α) (i n k:Nat),i<n->n<=l.length->n<=k->at' (down lt f l i n).1 k=at' l k
 |0,_,_,_,_,_,_,_=>rfl
 |f+1,l,i,n,k,hi,hn,hk=>by
  rw[down]
  split
  ·rfl
  ·rename_i h1
   obtain ⟨j,hj⟩:∃j,j=(if decide (2*i+2<n)&&lt (at' l (2*i+2)) (at' l (2*i+1)) then 2*i+2 else 2*i+1):=⟨_,rfl⟩
   simp only;rw[<-hj];have hjn:j<n:=by
    rw[hj]
    split
    ·rename_i h2
     simp only[Bool.and_eq_true,decide_eq_true_eq] at h2;exact h2.1
    ·omega
   split
   ·rw[zdi lt f _ j n k hjn (by rw[zB];exact hn) hk,Zx (by omega) (by omega),if_neg (by omega),if_neg (by omega)]
   ·rfl
theorem VL {lt:α->α->Bool} (ho:Ord lt):∀(f:Nat) (l:List α) (i i0 n:Nat),n<=l.length->n<=i+f->i0<=i->i<n->Hole lt l i0 n i->Heap lt (down lt f l i n).1 i0 n
 |0,l,i,i0,n,hn,hf,h0,hi,h=>by omega
 |f+1,l,i,i0,n,hn,hf,h0,hi,h=>by
  rw[down]
  by_cases h1:n<=2*i+1
  ·rw[if_pos h1];intro k hk hkn hp;exact h.a k hk hkn hp (by omega)
  ·rw[if_neg h1];obtain ⟨j,hj⟩:∃j,j=(if decide (2*i+2<n)&&lt (at' l (2*i+2)) (at' l (2*i+1)) then 2*i+2 else 2*i+1):=⟨_,rfl⟩
   simp only;rw[<-hj];have hjc:(j=2*i+1\/j=2*i+2)/\j<n/\∀k,0<k->k<n->(k-1) / 2=i->lt (at' l k) (at' l j)=false:=by
    rw[hj]
    by_cases h2:decide (2*i+2<n)&&lt (at' l (2*i+2)) (at' l (2*i+1))
    ·rw[if_pos h2];simp only[Bool.and_eq_true,decide_eq_true_eq] at h2;refine ⟨.inr rfl,h2.1,fun k hk hkn hp=>?_⟩
     obtain rfl|rfl:k=2*i+1\/k=2*i+2:=by omega
     ·exact ho.asym _ _ h2.2
     ·exact ho.refl _
    ·rw[if_neg h2];refine ⟨.inl rfl,by omega,fun k hk hkn hp=>?_⟩
     obtain rfl|rfl:k=2*i+1\/k=2*i+2:=by omega
     ·exact ho.refl _
     ·cases q:lt (at' l (2*i+2)) (at' l (2*i+1)) with
      |false=>rfl
      |true=>exact absurd (by simp[q];omega) h2
   obtain ⟨hjd,hjn,hmin⟩:=hjc;have hpj:(j-1) / 2=i:=by omega
   by_cases h3:lt (at' l j) (at' l i)=true
   ·rw[if_pos h3];have hil:i<l.length:=by omega
    have hjl:j<l.length:=by omega
    refine VL ho f (swp l i j) j i0 n (by rw[zB];exact hn) (by omega) (by omega) hjn ⟨fun k hk hkn hp hpj2=>?_,fun k hk hkn hp hj0 hjp=>?_⟩
    ·rw[Zx hil hjl,Zx hil hjl]
     by_cases hkj:k=j
     ·subst hkj;rw[if_pos rfl,if_neg (by omega),if_pos hpj];exact ho.asym _ _ h3
     ·rw[if_neg hkj,if_neg hpj2]
      by_cases hki:k=i
      ·subst hki;rw[if_pos rfl,if_neg (by omega)];exact h.b j (by omega) hjn hpj hk hp
      ·rw[if_neg hki]
       by_cases hpi:(k-1) / 2=i
       ·rw[if_pos hpi];exact hmin k hk hkn hpi
       ·rw[if_neg hpi];exact h.a k hk hkn hp hpi
    ·rw[hpj,Zx hil hjl,Zx hil hjl,if_neg (by omega),if_neg (by omega),if_neg (by omega),if_pos rfl];have:=h.a k hk hkn (by omega) (by omega);rw[hp] at this;exact this
   ·rw[if_neg h3];intro k hk hkn hp
    by_cases hpi:(k-1) / 2=i
    ·rw[hpi];exact ho.tr _ _ _ (by cases q:lt (at' l j) (at' l i) with|false=>rfl|true=>exact absurd q h3) (hmin k hk hkn hpi)
    ·exact h.a k hk hkn hp hpi
theorem zfU {lt:α->α->Bool} (ho:Ord lt) {l:List α} {n:Nat} (h:Heap lt l 0 n):∀k,k<n->lt (at' l k) (at' l 0)=false:=by
 intro k
 induction k using Nat.strongRecOn with
 |_ k ih=>
  intro hk
  by_cases h0:k=0
  ·subst h0;exact ho.refl _
  ·exact ho.tr _ _ _ (ih ((k-1) / 2) (by omega) (by omega)) (h k (by omega) hk (Nat.zero_le _))
def init (lt:α->α->Bool) (f:Nat):Nat->List α->Nat->List α
 |0,l,_=>l
 |i+1,l,n=>init lt f i (down lt f l i n).1 n
theorem zim (lt:α->α->Bool) (l:List α) (n:Nat):Heap lt l (n / 2) n:=fun k _ hkn hp=>by omega
theorem zlP {lt:α->α->Bool} {l:List α} {i n:Nat} (h:Heap lt l (i+1) n):Hole lt l i n i:=
 ⟨fun k hk hkn hp hpi=>h k hk hkn (by omega),fun k hk hkn hp h0 hi=>by omega⟩
theorem VB (lt:α->α->Bool) (f:Nat):∀(i:Nat) (l:List α) (n:Nat),(init lt f i l n).length=l.length
 |0,_,_=>rfl
 |i+1,l,n=>by rw[init,VB lt f i,y8]
theorem zcZ (lt:α->α->Bool) (f:Nat):∀(i:Nat) (l:List α) (n:Nat),i<=n->n<=l.length->(init lt f i l n).Perm l
 |0,_,_,_,_=>List.Perm.refl _
 |i+1,l,n,hi,hn=>by
  rw[init];exact (zcZ lt f i _ n (by omega) (by rw[y8];exact hn)).trans (Xw lt f l i n (by omega) hn)
theorem zc0 {lt:α->α->Bool} (ho:Ord lt) (f:Nat):∀(i:Nat) (l:List α) (n:Nat),i<=n->n<=l.length->n<=f->Heap lt l i n->Heap lt (init lt f i l n) 0 n
 |0,_,_,_,_,_,h=>h
 |i+1,l,n,hi,hn,hf,h=>by
  rw[init];exact zc0 ho f i _ n (by omega) (by rw[y8];exact hn) hf (VL ho f l i i n hn (by omega) (Nat.le_refl _) (by omega) (zlP h))
theorem zbX (lt:α->α->Bool):∀(f:Nat) (l:List α) (j:Nat),(up lt f l j).length=l.length
 |0,_,_=>rfl
 |f+1,l,j=>by
  rw[up]
  split
  ·rfl
  ·split
   ·rw[zbX lt f,zB]
   ·rfl
theorem zgY (lt:α->α->Bool):∀(f:Nat) (l:List α) (j:Nat),j<l.length->(up lt f l j).Perm l
 |0,_,_,_=>List.Perm.refl _
 |f+1,l,j,hj=>by
  rw[up]
  split
  ·exact List.Perm.refl _
  ·split
   ·exact (zgY lt f _ _ (by rw[zB];omega)).trans (Zz hj (by omega))
   ·exact List.Perm.refl _
structure High (lt:α->α->Bool) (l:List α) (n j:Nat):Prop where
 a:∀k,0<k->k<n->k≠j->lt (at' l k) (at' l ((k-1) / 2))=false
 b:∀k,0<k->k<n->(k-1) / 2=j->0<j->lt (at' l k) (at' l ((j-1) / 2))=false
theorem zgZ {lt:α->α->Bool} (ho:Ord lt):∀(f:Nat) (l:List α) (j n:Nat),n<=l.length->j<n->j<f->High lt l n j->Heap lt (up lt f l j) 0 n
 |0,_,_,_,_,_,hf,_=>by omega
 |f+1,l,j,n,hn,hj,hf,h=>by
  rw[up]
  by_cases h0:j=0
  ·rw[if_pos h0];intro k hk hkn _;exact h.a k hk hkn (by omega)
  ·rw[if_neg h0];obtain ⟨p,hp⟩:∃p,p=(j-1) / 2:=⟨_,rfl⟩
   rw[<-hp]
   by_cases h1:lt (at' l j) (at' l p)=true
   ·rw[if_pos h1];have hjl:j<l.length:=by omega
    have hpl:p<l.length:=by omega
    refine zgZ ho f (swp l j p) p n (by rw[zB];exact hn) (by omega) (by omega) ⟨fun k hk hkn hkp=>?_,fun k hk hkn hkp hp0=>?_⟩
    ·rw[Zx hjl hpl,Zx hjl hpl,if_neg hkp]
     by_cases hkj:k=j
     ·rw[if_pos hkj,hkj,<-hp,if_pos rfl];exact ho.asym _ _ h1
     ·rw[if_neg hkj]
      by_cases hq:(k-1) / 2=p
      ·rw[if_pos hq];have h2:=h.a k hk hkn hkj;rw[hq] at h2;exact ho.tr _ _ _ (ho.asym _ _ h1) h2
      ·rw[if_neg hq]
       by_cases hq2:(k-1) / 2=j
       ·rw[if_pos hq2];have:=h.b k hk hkn hq2 (by omega);rw[<-hp] at this;exact this
       ·rw[if_neg hq2];exact h.a k hk hkn hkj
    ·have e1:at' (swp l j p) ((p-1) / 2)=at' l ((p-1) / 2):=by rw[Zx hjl hpl,if_neg (by omega),if_neg (by omega)]
     rw[e1,Zx hjl hpl,if_neg (show ¬k=p by omega)];have h3:=h.a p hp0 (by omega) (by omega)
     by_cases hkj:k=j
     ·rw[if_pos hkj];exact h3
     ·rw[if_neg hkj];have h2:=h.a k hk hkn hkj;rw[hkp] at h2;exact ho.tr _ _ _ h3 h2
   ·rw[if_neg h1];intro k hk hkn _
    by_cases hkj:k=j
    ·rw[hkj,<-hp]
     cases q:lt (at' l j) (at' l p) with
     |false=>rfl
     |true=>exact absurd q h1
    ·exact h.a k hk hkn hkj
theorem zhy {lt:α->α->Bool} (ho:Ord lt) {l:List α} (h:Heap lt l 0 l.length) (x:α):Heap lt (up lt (l.length+1) (l++[x]) l.length) 0 (l.length+1):=by
 refine zgZ ho _ _ _ _ (by simp) (by omega) (by omega) ⟨fun k hk hkn hkl=>?_,fun k hk hkn hp h0=>by omega⟩;have e:∀i,i<l.length->at' (l++[x]) i=at' l i:=fun i hi=>by
  unfold at';rw[List.getD_eq_getElem?_getD,List.getD_eq_getElem?_getD,List.getElem?_append_left hi]
 rw[e k (by omega),e _ (by omega)];exact h k hk (by omega) (Nat.zero_le _)
theorem zjJ {lt:α->α->Bool} (ho:Ord lt) {l:List α} {n:Nat} (hn:n+1<=l.length) (h0:0<n) (h:Heap lt l 0 (n+1)) (f:Nat) (hf:n<=f):Heap lt (down lt f (swp l 0 n) 0 n).1 0 n:=by
 refine VL ho f _ 0 0 n (by rw[zB];omega) (by omega) (Nat.le_refl _) h0 ⟨fun k hk hkn _ hp=>?_,fun k hk hkn hp hi=>by omega⟩;rw[Zx (by omega) (by omega),Zx (by omega) (by omega),if_neg (by omega),if_neg (by omega),if_neg (by omega),if_neg hp];exact h k hk (by omega) (Nat.zero_le _)
end Hp
end
section
namespace Mw
open Rn Hp
def ltS (a b:List (List UInt8)):Bool:=Op.bytesLess (a.headD []) (b.headD [])
theorem zbr:Ord ltS where
 asym a b h:=zcX h
 tr a b c h k:=Zl (x:=a.headD []) (y:=b.headD []) (z:=c.headD []) h k
theorem Yf {l m:List (List (List UInt8))} (h:l.Perm m):l.flatten.Perm m.flatten:=by
 induction h with
 |nil=>exact List.Perm.refl _
 |cons x _ ih=>simp only[List.flatten_cons];exact ih.append_left x
 |swap x y l=>
  simp only[List.flatten_cons,<-List.append_assoc];exact List.Perm.append_right _ List.perm_append_comm
 |trans _ _ ih1 ih2=>exact ih1.trans ih2
structure Mrg (out:List (List UInt8)) (H:List (List (List UInt8))):Prop where
 ne:∀s∈H,s≠[]
 so:∀s∈H,yu s
 hp:Heap ltS H 0 H.length
 ro:yu out
 le:∀o∈out,∀s∈H,∀x∈s,leB o x
theorem zml {α:Type} [Inhabited α] {l:List α} {x:α} (h:x∈l):∃k,k<l.length/\at' l k=x:=by
 obtain ⟨k,hk,e⟩:=List.getElem_of_mem h;exact ⟨k,hk,zmH (by rw[List.getElem?_eq_getElem hk,e])⟩
theorem zlQ {s:List (List UInt8)} (h:yu s) {x:List UInt8} (hx:x∈s):leB (s.headD []) x:=by
 cases s with
 |nil=>simp at hx
 |cons r t=>
  rcases List.mem_cons.1 hx with rfl|hx
  ·exact zbu _
  ·exact (List.pairwise_cons.1 h).1 x hx
theorem Mrg.root {out:List (List UInt8)} {H:List (List (List UInt8))} (h:Mrg out H) {s:List (List UInt8)} (hs:s∈H) {x:List UInt8} (hx:x∈s):leB ((at' H 0).headD []) x:=by
 obtain ⟨k,hk,rfl⟩:=zml hs;exact Zl (show leB ((at' H 0).headD []) ((at' H k).headD []) from zfU zbr h.hp k hk) (zlQ (h.so _ hs) hx)
theorem zfV {out:List (List UInt8)} {r:List UInt8} (h:yu out) (hr:∀o∈out,leB o r):yu (out++[r]):=by
 refine List.pairwise_append.2 ⟨h,List.pairwise_singleton _ _,fun o ho x hx=>?_⟩;rw[List.mem_singleton.1 hx];exact hr o ho
theorem at_mem {α:Type} [Inhabited α] {l:List α} {k:Nat} (hk:k<l.length):at' l k∈l:=List.mem_of_getElem? (zl4 hk)
theorem Mrg.done {out all:List (List UInt8)} (h:Mrg out []) (hp:(out++([]:List (List (List UInt8))).flatten).Perm all):out=zG all:=by
 simp only[List.flatten_nil,List.append_nil] at hp;exact (vz h.ro hp).symm
theorem Mrg.start {H:List (List (List UInt8))} (hne:∀s∈H,s≠[]) (hso:∀s∈H,yu s) {f:Nat} (hf:H.length<=f):Mrg [] (init ltS f (H.length / 2) H H.length)/\(init ltS f (H.length / 2) H H.length).flatten.Perm H.flatten:=by
 have hp:=zcZ ltS f (H.length / 2) H H.length (by omega) (Nat.le_refl _);refine ⟨⟨fun s hs=>hne s (hp.mem_iff.1 hs),fun s hs=>hso s (hp.mem_iff.1 hs),?_,List.Pairwise.nil,fun o ho=>by simp at ho⟩,Yf hp⟩;rw[VB];exact zc0 zbr f _ H _ (by omega) (Nat.le_refl _) hf (zim ltS H _)
end Mw
end
section
namespace Mw
open Rn Hp
structure Cur (out:List (List UInt8)) (l:List (List UInt8)) (H:List (List (List UInt8))):Prop where
 m:Mrg out H
 ne:l≠[]
 so:yu l
 le:∀o∈out,∀x∈l,leB o x
def XR (l:List (List UInt8)) (H:List (List (List UInt8))):Bool:=H.isEmpty|| !Op.bytesLess ((at' H 0).headD []) (l.headD [])
theorem zfd {out l:List (List UInt8)} {H:List (List (List UInt8))} (h:Mrg out H) (hn:XR l H=true):∀s∈H,∀x∈s,leB (l.headD []) x:=by
 intro s hs x hx;have hne:H≠[]:=fun e=>by rw[e] at hs;cases hs
 have h1:leB (l.headD []) ((at' H 0).headD []):=by
  unfold XR at hn
  cases H with
  |nil=>exact absurd rfl hne
  |cons a b=>simpa [leB] using hn
 exact Zl h1 (h.root hs hx)
theorem Mrg.take {out:List (List UInt8)} {H:List (List (List UInt8))} (h:Mrg out H) {n:Nat} (hn:H.length=n+1) {f:Nat} (hf:n<=f) {E:List (List (List UInt8))} (hE:E=(down ltS f (swp H 0 n) 0 n).1) :
 E.length=n+1/\E=E.take n++[at' E n]/\Cur out (at' E n) (E.take n)/\XR (at' E n) (E.take n)=true/\(at' E n++(E.take n).flatten).Perm H.flatten:=by
 have hEl:E.length=n+1:=by rw[hE,y8,zB,hn]
 have hp1:E.Perm H:=by
  rw[hE]
  by_cases h0:n=0
  ·subst h0;have:(down ltS f (swp H 0 0) 0 0).1=swp H 0 0:=by cases f<;>simp[down]
   rw[this];exact Zz (by omega) (by omega)
  ·exact (Xw ltS f _ 0 n (by omega) (by rw[zB];omega)).trans (Zz (by omega) (by omega))
 have hlast:at' E n=at' H 0:=by
  rw[hE]
  by_cases h0:n=0
  ·subst h0;have:(down ltS f (swp H 0 0) 0 0).1=swp H 0 0:=by cases f<;>simp[down]
   rw[this,Zx (by omega) (by omega),if_pos rfl]
  ·rw[zdi ltS f _ 0 n n (by omega) (by rw[zB];omega) (Nat.le_refl _),Zx (by omega) (by omega),if_pos rfl]
 have hsplit:E=E.take n++[at' E n]:=by
  have h1:E.take (n+1)=E:=List.take_of_length_le (by omega);rw[List.take_add_one,zl4 (by omega)] at h1;exact h1.symm
 obtain ⟨D,hD⟩:∃D,D=E.take n:=⟨_,rfl⟩
 obtain ⟨l,hl⟩:∃l,l=at' E n:=⟨_,rfl⟩
 rw[<-hD,<-hl] at hsplit ⊢;have hlm:l∈H:=hp1.mem_iff.1 (by rw[hsplit];simp);have hmem:∀s∈D,s∈H:=fun s hs=>hp1.mem_iff.1 (by rw[hsplit];simp[hs])
 have hDl:D.length=n:=by rw[hD,List.length_take];omega
 have hheap:Heap ltS D 0 D.length:=by
  rw[hDl]
  by_cases h0:n=0
  ·intro k _ hk;omega
  ·have hh:Heap ltS E 0 n:=by rw[hE];exact zjJ zbr (by omega) (by omega) (by rw[<-hn];exact h.hp) f hf
   have e:∀i,i<n->at' D i=at' E i:=fun i hi=>by
    have h2:at' (D++[l]) i=at' D i:=by
     unfold at';rw[List.getD_eq_getElem?_getD,List.getD_eq_getElem?_getD,List.getElem?_append_left (by omega)]
    rw[<-h2,<-hsplit]
   intro k hk hkn _;rw[e k hkn,e _ (by omega)];exact hh k hk hkn (Nat.zero_le _)
 refine ⟨hEl,hsplit,⟨⟨fun s hs=>h.ne s (hmem s hs),fun s hs=>h.so s (hmem s hs),hheap,h.ro,fun o ho s hs=>h.le o ho s (hmem s hs)⟩,h.ne l hlm,h.so l hlm,fun o ho x hx=>h.le o ho l hlm x hx⟩,?_,?_⟩
 ·unfold XR
  cases hD2:D with
  |nil=>rfl
  |cons a b=>
   have ha:a∈H:=hmem a (by rw[hD2];simp);have hane:=h.ne a ha;have:leB (l.headD []) (a.headD []):=by
    rw[hl,hlast];exact h.root ha (by cases a with|nil=>exact absurd rfl hane|cons r t=>simp)
   simpa [leB,at'] using this
 ·have h2:=Yf hp1;rw[hsplit,List.flatten_append] at h2;simp only[List.flatten_cons,List.flatten_nil,List.append_nil] at h2;exact List.perm_append_comm.trans h2
theorem Cur.step {out t:List (List UInt8)} {r:List UInt8} {H:List (List (List UInt8))} (h:Cur out (r::t) H) (hn:XR (r::t) H=true) :
 Mrg (out++[r]) H/\(t≠[]->Cur (out++[r]) t H):=by
 have hle:=zfd h.m hn;have hrt:=List.pairwise_cons.1 h.so;have hm:Mrg (out++[r]) H:=⟨h.m.ne,h.m.so,h.m.hp,zfV h.m.ro fun o ho=>h.le o ho r (by simp),fun o ho s hs x hx=>by
  rcases List.mem_append.1 ho with ho|ho
  ·exact h.m.le o ho s hs x hx
  ·rw[List.mem_singleton.1 ho];exact hle s hs x hx⟩
 refine ⟨hm,fun ht=>⟨hm,ht,hrt.2,fun o ho x hx=>?_⟩⟩;rcases List.mem_append.1 ho with ho|ho
 ·exact h.le o ho x (by simp[hx])
 ·rw[List.mem_singleton.1 ho];exact hrt.1 x hx
theorem Cur.back {out l:List (List UInt8)} {H:List (List (List UInt8))} (h:Cur out l H) {E:List (List (List UInt8))} (hE:E=up ltS (H.length+1) (H++[l]) H.length) :
 Mrg out E/\E.length=H.length+1/\E.flatten.Perm (l++H.flatten):=by
 have hp:E.Perm (H++[l]):=by rw[hE];exact zgY ltS _ _ _ (by simp)
 have hlen:E.length=H.length+1:=by rw[hE,zbX];simp
 have hmem:∀s∈E,s∈H\/s=l:=fun s hs=>by
  have:=hp.mem_iff.1 hs
  simpa using this
 refine ⟨⟨fun s hs=>?_,fun s hs=>?_,?_,h.m.ro,fun o ho s hs x hx=>?_⟩,hlen,?_⟩
 ·rcases hmem s hs with q|rfl
  ·exact h.m.ne s q
  ·exact h.ne
 ·rcases hmem s hs with q|rfl
  ·exact h.m.so s q
  ·exact h.so
 ·rw[hlen,hE];exact zhy zbr h.m.hp l
 ·rcases hmem s hs with q|rfl
  ·exact h.m.le o ho s q x hx
  ·exact h.le o ho x hx
 ·have h2:=Yf hp;rw[List.flatten_append] at h2;simp only[List.flatten_cons,List.flatten_nil,List.append_nil] at h2;exact h2.trans List.perm_append_comm
theorem Cur.front_next {out t all:List (List UInt8)} {r:List UInt8} {H:List (List (List UInt8))} (h:Cur out (r::t) H) (hn:XR (r::t) H=true) (hp:(out++((r::t)++H.flatten)).Perm all) :
 ∃post,zG all=out++r::post:=by
 have hs:=h.step hn;have hrt:=List.pairwise_cons.1 h.so;have hle:=zfd h.m hn;refine ⟨zG (t++H.flatten),vz ?_ ?_⟩
 ·refine List.pairwise_append.2 ⟨h.m.ro,List.pairwise_cons.2 ⟨fun x hx=>?_,ZA _⟩,fun o ho x hx=>?_⟩
  ·rcases List.mem_append.1 ((zR _).mem_iff.1 hx) with hx|hx
   ·exact hrt.1 x hx
   ·obtain ⟨s,hs,hxs⟩:=List.mem_flatten.1 hx;exact hle s hs x hxs
  ·rcases List.mem_cons.1 hx with rfl|hx
   ·exact h.le o ho _ (by simp)
   ·rcases List.mem_append.1 ((zR _).mem_iff.1 hx) with hx|hx
    ·exact h.le o ho x (by simp[hx])
    ·obtain ⟨s,hs,hxs⟩:=List.mem_flatten.1 hx;exact h.m.le o ho s hs x hxs
 ·refine List.Perm.trans (List.Perm.append_left out ?_) hp;exact (zR (t++H.flatten)).cons r
end Mw
end
section
namespace Rn
instance decLeB (x y:List UInt8):Decidable (leB x y):=inferInstanceAs (Decidable (Op.bytesLess y x=false))
instance decRises (l:List (List UInt8)):Decidable (yu l):=inferInstanceAs (Decidable (l.Pairwise leB))
theorem zd7 (x:List UInt8):leB [] x:=ziO x
def Wid (w:Nat) (l:List (List UInt8)):Prop:=∀r∈l,r.length=w
instance decWid (w:Nat) (l:List (List UInt8)):Decidable (Wid w l):=inferInstanceAs (Decidable (∀r∈l,r.length=w))
def fitR (w:Nat) (l:List (List UInt8)):Bool:=decide (Wid w l)&&decide (yu l)
theorem yY {w:Nat} {l:List (List UInt8)}:fitR w l=true↔Wid w l/\yu l:=by unfold fitR;simp
theorem X5 {w:Nat} {l:List (List UInt8)}:fitR w l=false↔¬(Wid w l/\yu l):=by rw[<-Bool.not_eq_true,yY]
def Z0 (l:List (List UInt8)):List UInt8:=l.getLast?.getD []
theorem zh6:Z0 []=[]:=rfl
theorem Zm (l:List (List UInt8)) (x:List UInt8):Z0 (l++[x])=x:=by simp[Z0]
theorem zh7 {l:List (List UInt8)} (h:l≠[]):Z0 l∈l:=by
 unfold Z0;rw[List.getLast?_eq_some_getLast h];exact List.getLast_mem h
theorem zfW {l:List (List UInt8)} (h:yu l):∀o∈l,leB o (Z0 l):=by
 intro o ho;rcases List.eq_nil_or_concat l with rfl|⟨m,x,rfl⟩
 ·cases ho
 ·rw[List.concat_eq_append] at *;rw[Zm];rcases List.mem_append.1 ho with ho|ho
  ·exact (List.pairwise_append.1 h).2.2 o ho x (by simp)
  ·rw[List.mem_singleton.1 ho];exact zbu _
theorem XI {l:List (List UInt8)} {x:List UInt8}:yu (l++[x])↔yu l/\leB (Z0 l) x:=by
 refine ⟨fun h=>?_,fun ⟨h,k⟩=>?_⟩
 ·have hp:=List.pairwise_append.1 h;refine ⟨hp.1,?_⟩
  by_cases hl:l=[]
  ·subst hl;exact zd7 x
  ·exact hp.2.2 _ (zh7 hl) x (by simp)
 ·refine List.pairwise_append.2 ⟨h,List.pairwise_singleton _ _,fun o ho y hy=>?_⟩;rw[List.mem_singleton.1 hy];exact Zl (zfW h o ho) k
theorem QH {w:Nat} {l:List (List UInt8)} {x:List UInt8}:Wid w (l++[x])↔Wid w l/\x.length=w:=by
 unfold Wid;simp only[List.mem_append,List.mem_singleton];refine ⟨fun h=>⟨fun r hr=>h r (.inl hr),h x (.inr rfl)⟩,fun ⟨h,k⟩ r hr=>?_⟩;rcases hr with hr|rfl
 ·exact h r hr
 ·exact k
theorem zcj {l m:List (List UInt8)} (h:yu (l++m)):yu l:=(List.pairwise_append.1 h).1
theorem zlT {w:Nat} {l m:List (List UInt8)} (h:fitR w (l++m)=true):fitR w l=true:=by
 rw[yY] at h ⊢;exact ⟨fun r hr=>h.1 r (by simp[hr]),zcj h.2⟩
theorem zix {w:Nat} {l m:List (List UInt8)} (h:fitR w l=false):fitR w (l++m)=false:=by
 cases q:fitR w (l++m) with
 |false=>rfl
 |true=>rw[zlT q] at h;cases h
def pcs (w n:Nat):Nat:=(n+w-1) / w
def pieces (w:Nat) (b:List UInt8):List (List UInt8):=(List.range (pcs w b.length)).map fun k=>(b.drop (w*k)).take w
theorem xq (w:Nat) (b:List UInt8):(pieces w b).length=pcs w b.length:=by simp[pieces]
theorem XM {w:Nat} {b:List UInt8} {k:Nat} (h:k<pcs w b.length):(pieces w b)[k]?=some ((b.drop (w*k)).take w):=by simp[pieces,h]
theorem zay {w n k:Nat} (hw:0<w):k<pcs w n↔w*k<n:=by
 unfold pcs;rw[Nat.lt_div_iff_mul_lt hw];rw[Nat.mul_comm k w];omega
theorem zT {w:Nat}:∀{l:List (List UInt8)},Wid w l->l.flatten.length=w*l.length
 |[],_=>rfl
 |r::l,h=>by
  rw[List.flatten_cons,List.length_append,zT (l:=l) (fun x hx=>h x (by simp[hx])),h r (by simp),List.length_cons,Nat.mul_succ];omega
theorem zc8 {w:Nat}:∀{l:List (List UInt8)} {k:Nat},Wid w l->l.flatten.drop (w*k)=(l.drop k).flatten
 |[],k,_=>by simp
 |r::l,0,_=>by simp
 |r::l,k+1,h=>by
  have h0:=h r (by simp);rw[List.flatten_cons,List.drop_append,List.drop_of_length_le (by rw[h0,Nat.mul_succ];omega),List.nil_append,h0];rw[show w*(k+1)-w=w*k by rw[Nat.mul_succ];omega];exact zc8 (fun x hx=>h x (by simp[hx]))
theorem ziv {w:Nat} {l:List (List UInt8)} {k:Nat} {r:List UInt8} (h:Wid w l) (hk:l[k]?=some r):(l.flatten.drop (w*k)).take w=r:=by
 rw[zc8 h];have hlt:k<l.length:=(List.getElem?_eq_some_iff.1 hk).1;have e:l.drop k=r::l.drop (k+1):=by
  rw[List.drop_eq_getElem_cons hlt];rw[(List.getElem?_eq_some_iff.1 hk).2]
 rw[e,List.flatten_cons,List.take_append_of_le_length (by rw[h r (List.mem_of_getElem? hk)];omega),List.take_of_length_le (by rw[h r (List.mem_of_getElem? hk)];omega)]
theorem zbl {w:Nat} (hw:0<w) (n:Nat):pcs w (w*n)=n:=by
 have h1:∀k,k<pcs w (w*n)↔k<n:=fun k=>by
  rw[zay hw];exact ⟨fun h=>Nat.lt_of_mul_lt_mul_left h,fun h=>Nat.mul_lt_mul_of_pos_left h hw⟩
 have a:=h1 n;have b:=h1 (pcs w (w*n));omega
theorem Vi {w:Nat} (hw:0<w) {l:List (List UInt8)} (h:Wid w l):pieces w l.flatten=l:=by
 refine List.ext_getElem? fun k=>?_
 by_cases hk:k<l.length
 ·rw[XM (by rw[zT h,zbl hw];exact hk),ziv h (List.getElem?_eq_getElem hk),List.getElem?_eq_getElem hk]
 ·rw[List.getElem?_eq_none (by rw[xq,zT h,zbl hw];omega),List.getElem?_eq_none (by omega)]
theorem YT {w:Nat} (hw:0<w) (b:List UInt8):(pieces w b).flatten=b:=by
 have key:∀n,n<=pcs w b.length->((List.range n).map fun k=>(b.drop (w*k)).take w).flatten=b.take (w*n):=fun n=>by
  induction n with
  |zero=>intro _;simp
  |succ n ih=>
   intro hn;rw[List.range_succ,List.map_append,List.flatten_append,ih (by omega)];simp only[List.map_cons,List.map_nil,List.flatten_cons,List.flatten_nil,List.append_nil];rw[Nat.mul_succ,List.take_add]
 have h1:=key _ (Nat.le_refl _);unfold pieces;rw[h1,List.take_of_length_le];have h2:¬w*pcs w b.length<b.length:=fun h=>by have:=(zay hw).2 h;omega
 omega
theorem zaw {w:Nat} (hw:0<w) (b:List UInt8):Wid w (pieces w b)↔b.length%w=0:=by
 refine ⟨fun h=>?_,fun h=>?_⟩
 ·have:=zT h;rw[YT hw] at this;rw[this,Nat.mul_mod_right]
 ·obtain ⟨n,hn⟩:=Nat.dvd_of_mod_eq_zero h;intro r hr;obtain ⟨k,hk,e⟩:=List.getElem_of_mem hr;rw[xq] at hk;have h1:=XM hk;rw[List.getElem?_eq_getElem (by rw[xq];exact hk),e] at h1;injection h1 with h1;have hk2:=(zay hw).1 hk;rw[h1,List.length_take,List.length_drop];have h2:w*k+w<=b.length:=by
   rw[hn] at hk2 ⊢;have:k<n:=Nat.lt_of_mul_lt_mul_left hk2
   calc w*k+w=w*(k+1):=by rw[Nat.mul_succ]
    _<=w*n:=Nat.mul_le_mul_left _ this
  omega
def cmpB (a b:List UInt8):Int:=if Op.bytesLess a b then -1 else if Op.bytesLess b a then 1 else 0
theorem zbI {a b:List UInt8}:cmpB a b<0↔Op.bytesLess a b=true:=by
 unfold cmpB
 cases h:Op.bytesLess a b<;>cases k:Op.bytesLess b a<;>simp
theorem zfy {a b:List UInt8}:0<cmpB a b↔Op.bytesLess b a=true:=by
 unfold cmpB
 cases h:Op.bytesLess a b<;>cases k:Op.bytesLess b a<;>simp
 have:=XA h k;rw[Yn] at this;cases this
end Rn
end
section
namespace Tx
def Plain (l:List UInt8):Prop:=∀u∈l,u≠10
def dig (u:UInt8):Bool:=decide (48<=u.toNat)&&decide (u.toNat<=57)
theorem ziA {u:UInt8}:dig u=true↔48<=u.toNat/\u.toNat<=57:=by simp[dig]
def val (a:Nat) (l:List UInt8):Nat:=l.foldl (fun a u=>10*a+(u.toNat-48)) a
theorem zdE (a:Nat):val a []=a:=rfl
theorem Yr (a:Nat) (u:UInt8) (l:List UInt8):val a (u::l)=val (10*a+(u.toNat-48)) l:=List.foldl_cons ..
theorem val_append:∀(l m:List UInt8) (a:Nat),val a (l++m)=val (val a l) m
 |[],_,_=>rfl
 |u::l,m,a=>by rw[List.cons_append,Yr,val_append l m,Yr]
theorem zkW:∀(l:List UInt8) (a:Nat),a*10^l.length<=val a l
 |[],a=>by simp[zdE]
 |u::l,a=>by
  have h:=zkW l (10*a+(u.toNat-48));rw[Yr,List.length_cons,Nat.pow_succ];refine Nat.le_trans ?_ h;rw[Nat.mul_comm (10^l.length) 10,<-Nat.mul_assoc,Nat.mul_comm a 10];exact Nat.mul_le_mul_right _ (Nat.le_add_right _ _)
def isNum (l:List UInt8):Bool:= !l.isEmpty&& !(decide (1<l.length)&&l.headD 0==48)&&l.all dig
theorem zjb {l:List UInt8} (h:isNum l=true) (hl:1<l.length):10^(l.length-1)<=val 0 l:=by
 cases l with
 |nil=>simp at hl
 |cons u l=>
  simp only[isNum,List.isEmpty_cons,Bool.not_false,Bool.true_and,List.headD_cons,List.all_cons,Bool.and_eq_true,Bool.not_eq_true',Bool.and_eq_false_iff,decide_eq_false_iff_not,beq_eq_false_iff_ne] at h;obtain ⟨h1,h2,-⟩:=h;have h3:u≠48:=h1.resolve_left (fun q=>q hl);have hd:=ziA.1 h2;have h4:u.toNat≠48:=fun e=>h3 (UInt8.toNat.inj (by rw[e];rfl))
  have:=zkW l (10*0+(u.toNat-48));rw[Yr];refine Nat.le_trans ?_ this;show 10^(l.length+1-1)<=_
  rw[Nat.add_sub_cancel];exact Nat.le_mul_of_pos_left _ (by omega)
def putN (n:Nat):List UInt8:=if n<10 then [UInt8.ofNat (48+n)] else putN (n / 10)++[UInt8.ofNat (48+n%10)]
theorem ziz {k:Nat} (h:k<10):dig (UInt8.ofNat (48+k))=true/\(UInt8.ofNat (48+k)).toNat=48+k:=by
 have:(UInt8.ofNat (48+k)).toNat=48+k:=by rw[UInt8.toNat_ofNat'];omega
 exact ⟨ziA.2 (by omega),this⟩
theorem Ye {n:Nat} (h:n<10):putN n=[UInt8.ofNat (48+n)]:=by rw[putN,if_pos h]
theorem Ve {n:Nat} (h:¬n<10):putN n=putN (n / 10)++[UInt8.ofNat (48+n%10)]:=by rw[putN,if_neg h]
theorem zeX (n:Nat):0<(putN n).length:=by
 by_cases h:n<10
 ·rw[Ye h];exact Nat.one_pos
 ·rw[Ve h,List.length_append];exact Nat.lt_of_lt_of_le Nat.one_pos (Nat.le_add_left _ _)
theorem Yv (n:Nat):(putN n).all dig=true/\val 0 (putN n)=n/\(1<(putN n).length->(putN n).headD 0≠48)/\(n≠0->(putN n).headD 0≠48):=by
 induction n using Nat.strongRecOn with
 |_ n ih=>
  by_cases h:n<10
  ·rw[Ye h];have hd:=ziz h;refine ⟨by rw[List.all_cons,hd.1];rfl,by rw[Yr,zdE,hd.2];omega,fun q=>by simp at q,fun hn e=>?_⟩;have e':UInt8.ofNat (48+n)=48:=e;have:=hd.2;rw[e'] at this;have:(48:Nat)=48+n:=this;omega
  ·obtain ⟨h1,h2,-,h4⟩:=ih (n / 10) (by omega);have hp:=zeX (n / 10);have hd:=ziz (show n%10<10 by omega);rw[Ve h];have hh:(putN (n / 10)++[UInt8.ofNat (48+n%10)]).headD 0=(putN (n / 10)).headD 0:=by
    cases hq:putN (n / 10) with
    |nil=>rw[hq] at hp;exact absurd hp (by simp)
    |cons a b=>rfl
   refine ⟨by rw[List.all_append,h1,List.all_cons,hd.1];rfl,?_,fun _=>by rw[hh];exact h4 (by omega),fun _=>by rw[hh];exact h4 (by omega)⟩;rw[val_append,h2];rw[Yr,zdE,hd.2];omega
theorem zfY (n:Nat):isNum (putN n)=true:=by
 obtain ⟨h1,-,h3,-⟩:=Yv n;have hp:=zeX n;unfold isNum;rw[h1,Bool.and_true]
 cases hq:putN n with
 |nil=>rw[hq] at hp;exact absurd hp (by simp)
 |cons a b=>
  rw[hq] at h3
  by_cases hl:1<(a::b).length
  ·simp only[List.isEmpty_cons,Bool.not_false,Bool.true_and];have:=h3 hl;simp only[List.headD_cons] at this ⊢;simp[this]
  ·simp only[List.isEmpty_cons,Bool.not_false,Bool.true_and,decide_eq_false hl,Bool.false_and]
theorem YS {n:Nat} (h:n<18446744073709551616):(putN n).length<=20:=by
 by_cases hl:1<(putN n).length
 ·have:=zjb (zfY n) hl;rw[(Yv n).2.1] at this;refine Nat.le_of_not_lt fun q=>?_
  have h3:10^20<=10^((putN n).length-1):=Nat.pow_le_pow_right (by omega) (by omega);omega
 ·omega
end Tx
end
section
namespace Tx
end Tx
end
section
namespace Hp
variable {α β:Type} [Inhabited α] [Inhabited β] {rc:α->β}
theorem zaY (h0:rc default=default) (l:List α) (k:Nat):at' (l.map rc) k=rc (at' l k):=by
 unfold at';rw[List.getD_eq_getElem?_getD,List.getD_eq_getElem?_getD,List.getElem?_map]
 cases l[k]? with
 |none=>exact h0.symm
 |some a=>rfl
theorem za2 (h0:rc default=default) (l:List α) (i j:Nat):(swp l i j).map rc=swp (l.map rc) i j:=by
 unfold swp;rw[zaY h0,zaY h0,List.map_set,List.map_set]
theorem QN (h0:rc default=default) (lt:β->β->Bool):∀(f:Nat) (l:List α) (i n:Nat),(down (fun a b=>lt (rc a) (rc b)) f l i n).1.map rc=(down lt f (l.map rc) i n).1
 |0,_,_,_=>rfl
 |f+1,l,i,n=>by
  rw[down,down]
  split
  ·rfl
  ·simp only[zaY h0]
   split
   ·split
    ·rw[QN h0 lt f,za2 h0]
    ·rfl
   ·split
    ·rw[QN h0 lt f,za2 h0]
    ·rfl
theorem zfn (h0:rc default=default) (lt:β->β->Bool) (f:Nat):∀(i:Nat) (l:List α) (n:Nat),(init (fun a b=>lt (rc a) (rc b)) f i l n).map rc=init lt f i (l.map rc) n
 |0,_,_=>rfl
 |i+1,l,n=>by rw[init,init,zfn h0 lt f i,QN h0]
theorem zkX (h0:rc default=default) (lt:β->β->Bool):∀(f:Nat) (l:List α) (j:Nat),(up (fun a b=>lt (rc a) (rc b)) f l j).map rc=up lt f (l.map rc) j
 |0,_,_=>rfl
 |f+1,l,j=>by
  rw[up,up]
  split
  ·rfl
  ·simp only[zaY h0]
   split
   ·rw[zkX h0 lt f,za2 h0]
   ·rfl
end Hp
end
section
open Go.RowKit Me
section
variable {P:Program}
theorem V4 (w:World) (base:Nat) (t ty e:TypeId) (i:TypeInfo) (z:Value) (size bytes:Nat) (ht:P.underlying t=some (.slice e)) (hi:P.info? e=some i) (hz:i.zero=some z) (hsize:i.size=size) (hby:i.bytes=bytes) (hzs:z.cells.size=size) (hsz:0<size)
 (v:Value) (n:Nat) (xs:List Value) (hown:w.ownsRow base e size v n xs) (A:Option Addr) (k c:Nat) (news:List Value) (hl:news.length=k*size) (hr:0<news.length->∃a,A=some a/\∀j u,news[j]?=some u->w.cell? (a.add j)=some u) (h1:∀u∈news,u.oneCell'=true)
 (h63:n+k<=maxLen) (hbytes:(n+k)*bytes<=140737488355328) (hbase:base<=w.heap.size) :
 ∃v' w',(Builtin.append_ #[t,t] ty #[v,.slice A k c]).run P w=.ok v' w'/\w'.ownsRow base e size v' (n+k) (xs++news)/\w.grownBy w' v.ownBlock/\(v'.ownBlock=v.ownBlock\/v'.ownBlock=some w.heap.size):=by
 cases A with
 |none=>
  have h0:news=[]:=by
   rcases Nat.eq_zero_or_pos news.length with h0|h0
   ·exact List.eq_nil_of_length_eq_zero h0
   ·obtain ⟨a,e,_⟩:=hr h0
    cases e
  subst h0;have hk:k=0:=by
   rcases Nat.eq_zero_or_pos k with h|h
   ·exact h
   ·have:=Nat.mul_pos h hsz;rw[<-hl] at this;simp at this
  subst hk;refine ⟨v,w,?_,by simpa using hown,World.grownBy.refl w _,.inl rfl⟩;rcases hown.2 with ⟨rfl,rfl⟩|⟨g,cap,cur,rfl,_,_,hnc,_⟩
  ·simp[Builtin.append_,run_underlying ht,sizeOf,typeInfo,hi,Builtin.lenOf,Builtin.firstCells]
  ·simp[Builtin.append_,run_underlying ht,sizeOf,typeInfo,hi,Builtin.lenOf,Builtin.firstCells,hnc,storeCells]
 |some a=>
  have hcells:∀j u,news[j]?=some u->w.cell? (a.add j)=some u:=fun j u hu=>by
   have hlt:=(List.getElem?_eq_some_iff.1 hu).1;obtain ⟨a',e,hc⟩:=hr (by omega)
   cases e
   exact hc j u hu
  obtain ⟨v',w',hrun,h2,h3,_,h5⟩:=run_append_own_at (P:=P) w base t ty e i z size bytes ht hi hz hsize hby hzs hsz v n xs hown a k c news hl hcells h1 h63 hbytes hbase;exact ⟨v',w',hrun,h2,h3,h5⟩
theorem xh {w:World} {ops:Array Oper} {rest:List Oper} {o:Oper} {a:Act} {Q:Exit->Act->World->Prop} (hgd:o.guard=none) (s x:Operand) (t:TypeId)
 (ho:o.op=.call {callee:=.builtin .append,args:=#[s,x],argTypes:=#[t,t]})
 (base:Nat) (e:TypeId) (i:TypeInfo) (z:Value) (size bytes:Nat) (ht:P.underlying t=some (.slice e)) (hi:P.info? e=some i) (hz:i.zero=some z) (hsize:i.size=size) (hby:i.bytes=bytes) (hzs:z.cells.size=size) (hsz:0<size)
 (v:Value) (n:Nat) (xs:List Value) (hs:a.eval s=v) (hown:w.ownsRow base e size v n xs) (A:Option Addr) (k c:Nat) (news:List Value) (hx:a.eval x=.slice A k c) (hl:news.length=k*size) (hr:0<news.length->∃a,A=some a/\∀j u,news[j]?=some u->w.cell? (a.add j)=some u) (h1:∀u∈news,u.oneCell'=true)
 (h63:n+k<=maxLen) (hbytes:(n+k)*bytes<=140737488355328) (hbase:base<=w.heap.size)
 (h:∀v' w',w'.ownsRow base e size v' (n+k) (xs++news)->w.grownBy w' v.ownBlock->(v'.ownBlock=v.ownBlock\/v'.ownBlock=some w.heap.size)->wpList P ops Q rest (a.put o.dst v') w'):wpList P ops Q (o::rest) a w:=by
 refine wpList_plain hgd fun K hK=>?_
 obtain ⟨v',w',hrun,h2,h3,h4⟩:=V4 (P:=P) w base t o.type e i z size bytes ht hi hz hsize hby hzs hsz v n xs hown A k c news hl hr h1 h63 hbytes hbase;unfold Oper.wp execOp;simp only[ho,resolve,invoke,builtin,Sem.run_bind,Sem.run_pure,Result.andThen_ok,List.map_toArray,List.map_cons,List.map_nil,hs,hx,hrun];exact hK _ _ (h v' w' h2 h3 h4)
end
end
section
namespace Gw
open Go.RowKit
def zgx (ops:Array Oper) (n m:Nat):Bool:=
 (List.range ops.size).all fun i=>
   match ops[i]? with
   |none=>true
   |some o=>
    (o.after.all fun e=> !Region.binds .any e||decide (e.on<i)) &&
    (match o.guard with|some (g,_)=>((ops[g]?).bind (·.dst)).isSome|none=>true) &&
    (match o.dst with|some d=>decide (d<n)|none=>true) &&
    (List.range m).all fun j=>
      match ops[j]? with
      |none=>true
      |some q=>
       match q.dst with
       |none=>true
       |some d=>(!(o.looksAt ops).contains d||o.after.any fun e=>Region.binds .any e&&e.on==j)&&(i==j||o.dst != some d)
section
variable {P:Program} {ops:Array Oper} {n:Nat}
theorem Xp {m:Nat} (hm:m<=ops.size) (h:zgx ops n m=true) {i:Nat} {o:Oper} (hi:ops[i]?=some o) :
 (∀e∈o.after,Region.binds .any e=true->e.on<i)/\(∀g b,o.guard=some (g,b)->∃q d,ops[g]?=some q/\q.dst=some d)/\(∀d,o.dst=some d->d<n) /\
 (∀(j:Nat) (q:Oper) (d:Tmp),j<m->ops[j]?=some q->q.dst=some d->(d∈o.looksAt ops->∃e∈o.after,Region.binds .any e=true/\e.on=j)/\(i≠j->o.dst≠some d)):=by
 have hlt:i<ops.size:=(Array.getElem?_eq_some_iff.1 hi).1;have h1:=List.all_eq_true.1 h i (List.mem_range.2 hlt);simp only[hi,Bool.and_eq_true] at h1;obtain ⟨⟨⟨ha,hg⟩,hd⟩,hq⟩:=h1;refine ⟨fun e he hb=>?_,fun g b hgb=>?_,fun d hdd=>?_,fun j q d hjm hj hqd=>?_⟩
 ·have:=Array.all_eq_true_iff_forall_mem.1 ha e he
  simpa [hb] using this
 ·rw[hgb] at hg;simp only at hg
  cases hgo:ops[g]? with
  |none=>simp[hgo] at hg
  |some q=>
   simp only[hgo,Option.bind_some] at hg
   cases hqd:q.dst with
   |none=>simp[hqd] at hg
   |some d=>exact ⟨q,d,rfl,hqd⟩
 ·rw[hdd] at hd
  simpa using hd
 ·have hjlt:j<ops.size:=(Array.getElem?_eq_some_iff.1 hj).1;have h2:=List.all_eq_true.1 hq j (List.mem_range.2 hjm);simp only[hj,hqd,Bool.and_eq_true] at h2;refine ⟨fun hm=>?_,fun hne he=>?_⟩
  ·have h3:=h2.1;have hc:(o.looksAt ops).contains d=true:=by simpa using hm
   rw[hc] at h3;rw[Bool.not_true,Bool.false_or,Array.any_eq_true] at h3;obtain ⟨x,hx,h3⟩:=h3;simp only[Bool.and_eq_true,beq_iff_eq] at h3;exact ⟨o.after[x],Array.getElem_mem hx,h3.1,h3.2⟩
  ·have h3:=h2.2;simp[hne,he] at h3
end
section
variable {P:Program} {ops:Array Oper} {n size:Nat}
theorem zb2 {Q:Exit->Act->World->Prop} (hF:zgx ops size n=true) (hT:za1 ops n=true) (hnn:n<=ops.size):∀(fuel m:Nat) (listed:Array Bool) (a:Act) (w:World),n<=m->m<=ops.size->listed.size=ops.size ->
 (∀k,k<ops.size->(listed.getD k false=true↔k<m))->ops.size-m<=fuel->zX P Q (ops.toList.drop m) a w->wpAny P .any ops Q fuel listed a w:=by
 intro fuel
 induction fuel with
 |zero=>
  intro m listed a w hn hm hs hl hf h;have e:m=ops.size:=by omega
  subst e;rw[List.drop_of_length_le (by simp)] at h;refine ⟨?_,h⟩
  cases hr:Region.ready .any ops listed with
  |nil=>rfl
  |cons i r=>
   exfalso
   obtain ⟨hu,o,ho,-⟩:=qy hs (show i∈Region.ready .any ops listed by rw[hr];simp);have hlt:=(Array.getElem?_eq_some_iff.1 ho).1;rw[(hl i hlt).2 hlt] at hu
   cases hu
 |succ fuel ih=>
  intro m listed a w hn hm hs hl hf h;have closed:Closed ops listed:=fun k o hk hlk e he hb=>by
   have hkl:=(Array.getElem?_eq_some_iff.1 hk).1;have h1:=(Xp hnn hF hk).1 e he hb;exact (hl e.on (by omega)).2 (by have:=(hl k hkl).1 hlk;omega)
  refine ⟨fun hr=>?_,fun i hi=>?_⟩
  ·by_cases e:m=ops.size
   ·subst e;rw[List.drop_of_length_le (by simp)] at h;exact h
   ·exfalso
    have hlt:m<ops.size:=by omega
    have ho:ops[m]?=some ops[m]:=Array.getElem?_eq_getElem hlt;have:m∈Region.ready .any ops listed:=mem_ready.2 ⟨by
     rw[qo (by omega)]
     cases hx:listed.getD m false with
     |false=>rfl
     |true=>exact absurd ((hl m hlt).1 hx) (Nat.lt_irrefl _),_,ho,fun e he hb=>by
     have h1:=(Xp hnn hF ho).1 e he hb;exact (hl e.on (by omega)).2 h1⟩
    rw[hr] at this
    cases this
  ·obtain ⟨hu,o,ho,hall⟩:=qy hs hi;have hlt:=(Array.getElem?_eq_some_iff.1 ho).1;have him:m<=i:=by
    rcases Nat.lt_or_ge i m with h1|h1
    ·rw[(hl i hlt).2 h1] at hu;cases hu
    ·exact h1
   obtain ⟨hg,hw⟩:=tail_at hT ho (by omega);have hei:i=m:=by
    rcases Nat.lt_or_ge m i with h1|h1
    ·have:=yS closed _ _ _ o ho hall (hw m h1);exact absurd ((hl m (by omega)).1 this) (Nat.lt_irrefl _)
    ·omega
   subst hei;have hd:ops.toList.drop i=o::ops.toList.drop (i+1):=by
    rw[List.drop_eq_getElem_cons (by simpa using hlt)]
    congr 1
    have:=(Array.getElem?_eq_some_iff.1 ho).2
    simpa using this
   rw[hd] at h;unfold wpOp;simp only[ho];have hwt:Region.wanted o (yielded ops a.tmps)=true:=by unfold Region.wanted;rw[hg]
   rw[if_pos hwt];refine .inl (Oper.wp_mono (fun a' w' hK=>?_) h);refine ih (i+1) _ _ _ (by omega) (by omega) (by simpa using hs) (fun k hk=>?_) (by omega) hK
   by_cases hki:i=k
   ·subst hki;have hx:i<listed.size:=by omega
    simp[hx]
   ·rw[getD_set_ne false hki,hl k hk];omega
theorem zid {G:Fact} {a0:Act} {w0:World} {listed:Array Bool} {a:Act} {w w':World} {i:Nat} {o:Oper} {v:Value} (hB:zgx ops a0.tmps.size n=true) (hnn:n<=ops.size) (hin:i<n) (hi:ops[i]?=some o)
 (hall:∀e∈o.after,Region.binds .any e=true->listed.getD e.on false=true)
 (h:InvT ops n G a0 w0 listed a w) (hg:zk w w') (hp:Post G o.dst v w'):InvT ops n G a0 w0 (listed.setIfInBounds i true) (a.put o.dst v) w':=by
 obtain ⟨hac,-,hlt,hone⟩:=Xp hnn hB hi;have hil:i<listed.size:=by rw[h.listedSize];exact (Array.getElem?_eq_some_iff.1 hi).1
 refine ⟨h.grows.trans hg,by rw[Zt,h.defers],by rw[size_put,h.size],fun t ht=>?_,fun t ht=>?_,by simpa using h.listedSize,fun k q hk hlk e he hb=>?_,fun k hk=>?_⟩
 ·by_cases hd:o.dst=some t
  ·rw[hd] at hp ⊢;rw[eval_put_same (by rw[h.size];exact hlt t hd)];exact hp
  ·rw[zZ hd];refine (h.facts t fun j q hjn hj hq=>?_).grow hg;have hne:i≠j:=fun e=>by
    subst e;rw[hi] at hj;injection hj with hj;subst hj;exact hd hq
   have:=ht j q hjn hj hq
   rwa[getD_set_ne false hne] at this
 ·rw[zZ (ht i o hin hi)];exact h.others t ht
 ·have hold:listed.getD e.on false=true->(listed.setIfInBounds i true).getD e.on false=true:=getD_set_true
  by_cases hki:i=k
  ·subst hki;rw[hi] at hk;injection hk with hk;subst hk;exact hold (hall e he hb)
  ·rw[getD_set_ne false hki] at hlk;exact hold (h.closed k q hk hlk e he hb)
 ·rw[getD_set_ne false (by omega)];exact h.none k hk
theorem zdp {G:Fact} {a0:Act} {w0:World} {Q:Exit->Act->World->Prop} {ms:List (List Tmp×Option (Tmp×Bool))} (hB:zgx ops a0.tmps.size n=true) (hT:za1 ops n=true) (hn:n<=ops.size) (hms:ms=(qP ops).take n) (hreq:Req P G w0 (ops.toList.take n) ms)
 (hend:∀a w,(∀listed:Array Bool,(∀j,j<n->listed.getD j false=true)->InvT ops n G a0 w0 listed a w->zX P Q (ops.toList.drop n) a w)) :
 ∀(fuel:Nat) (listed:Array Bool) (a:Act) (w:World),listed.toList.count false<=fuel->InvT ops n G a0 w0 listed a w->wpAny P .any ops Q fuel listed a w:=by
 intro fuel
 induction fuel with
 |zero=>
  intro listed a w hc h;have hcnt:=vo listed.toList n (fun k hk=>by have:=h.none k hk;simpa using this);rw[Array.length_toList,h.listedSize] at hcnt;have hall:∀j,j<n->listed.getD j false=true:=fun j hj=>by
   cases hl:listed.getD j false with
   |true=>rfl
   |false=>
    exfalso
    have hb:j<listed.size:=by rw[h.listedSize];omega
    have:(false:Bool)∈listed.toList:=by
     have e:listed[j]=false:=by simpa [hb] using hl
     rw[<-e];exact Array.getElem_mem_toList hb
    have:=List.count_pos_iff.2 this;omega
  exact zb2 hB hT hn 0 n listed a w (Nat.le_refl _) hn h.listedSize (fun k _=>⟨fun hk=>Nat.lt_of_not_le fun h1=>(by rw[h.none k h1] at hk;cases hk),hall k⟩) (by omega) (hend a w listed hall h)
 |succ fuel ih=>
  intro listed a w hc h;have hcnt:=vo listed.toList n (fun k hk=>by have:=h.none k hk;simpa using this);rw[Array.length_toList,h.listedSize] at hcnt
  by_cases hall:∀j,j<n->listed.getD j false=true
  ·exact zb2 hB hT hn _ n listed a w (Nat.le_refl _) hn h.listedSize (fun k _=>⟨fun hk=>Nat.lt_of_not_le fun h1=>(by rw[h.none k h1] at hk;cases hk),hall k⟩) (by omega) (hend a w listed hall h)
  ·have hready:Region.ready .any ops listed≠[]:=fun hr=>hall fun j=>by
    induction j using Nat.strongRecOn with
    |_ j ihj=>
     intro hj
     cases hl:listed.getD j false with
     |true=>rfl
     |false=>
      exfalso
      have hjo:ops[j]?=some ops[j]:=Array.getElem?_eq_getElem (by omega);have:j∈Region.ready .any ops listed:=mem_ready.2 ⟨by rw[qo (by rw[h.listedSize];omega)];exact hl,ops[j],hjo,fun e he hb=>by
       have hlt:=(Xp hn hB hjo).1 e he hb;exact ihj e.on hlt (by omega)⟩
      rw[hr] at this
      cases this
   refine ⟨fun hr=>absurd hr hready,fun i hm=>?_⟩;obtain ⟨hu,o,ho,hal⟩:=qy h.listedSize hm;have hil:i<ops.size:=(Array.getElem?_eq_some_iff.1 ho).1;have hin:i<n:=by
    rcases Nat.lt_or_ge i n with h1|h1
    ·exact h1
    ·exact absurd (fun j hj=>yS h.closed _ _ _ o ho hal ((tail_at hT ho h1).2 j (by omega))) hall
   have hlt:i<listed.size:=by rw[h.listedSize];exact hil
   have hcount:(listed.setIfInBounds i true).toList.count false<=fuel:=by
    have e:listed.toList[i]?=some false:=by
     have:listed[i]=false:=by simpa [hlt] using hu
     simp[hlt,this]
    have:=count_set listed.toList i e;simp only[Array.toList_setIfInBounds];omega
   obtain ⟨hacyc,hguard,hdlt,hflow⟩:=Xp hn hB ho;obtain ⟨m,hm1,hm2⟩:=zeQ (ops.toList.take n) ms hreq i o (by rw[List.getElem?_take,if_pos hin];simpa using ho);have hme:m=(o.looksAt ops,guardOf ops o):=by
    rw[hms,List.getElem?_take,if_pos hin] at hm1;unfold qP at hm1;rw[List.getElem?_map] at hm1;have:ops.toList[i]?=some o:=by simpa using ho
    rw[this] at hm1
    simpa using hm1.symm
   subst hme;have hk:Knows G a w (o.looksAt ops):=ZL _ fun t ht=>(h.facts t fun j q hjn hj hq=>by
    obtain ⟨e,he,hb,rfl⟩:=(hflow j q t hjn hj hq).1 ht;exact hal e he hb).now
   have hreq':=hm2 a w h.grows hk;unfold wpOp;simp only[ho];have go:∀v w',zk w w'->Post G o.dst v w'->wpAny P .any ops Q fuel (listed.setIfInBounds i true) (a.put o.dst v) w':=fun v w' hg hp=>
    ih _ _ _ hcount (zid hB hn hin ho hal h hg hp)
   unfold zw guardOf at hreq'
   cases hgd:o.guard with
   |none=>
    rw[hgd] at hreq';have hw:Region.wanted o (yielded ops a.tmps)=true:=by unfold Region.wanted;rw[hgd]
    rw[if_pos hw];exact .inl (vP hreq' go)
   |some gb=>
    obtain ⟨g,b⟩:=gb;obtain ⟨q,d,hq,hqd⟩:=hguard g b hgd;rw[hgd] at hreq';have hbind:(ops[g]?).bind (·.dst)=some d:=by rw[hq];exact hqd
    simp only[hbind,Option.map_some] at hreq';rw[<-zD] at hreq';rcases hreq' with ⟨he,hok⟩|⟨he,hp⟩
    ·have hw:=yK (ops:=ops) hgd hbind he;rw[if_pos (by rw[hw];simp)];exact .inl (vP hok go)
    ·have hw:=yK (ops:=ops) hgd hbind he;rw[if_neg (by rw[hw];cases b<;>simp)];exact go _ _ (zk.refl w) hp
theorem QS {id:Nat} {Q:Exit->Act->World->Prop} {a0:Act} {w:World} {l tail:List Oper} (n:Nat) (G:Fact) (dsts:List Tmp) (ms:List (List Tmp×Option (Tmp×Bool))) (size:Nat) (hm:P.follows .mixedOrders=true)
 (hB:(zgx l.toArray size n&&za1 l.toArray n&&decide (n<=l.length)&&(ms==(qP l.toArray).take n)&&((l.take n).filterMap (·.dst)==dsts))=true) (hsz:a0.tmps.size=size)
 (h0:∀t W,t∉dsts->zk w W->G t (a0.eval (.tmp t)) W) (hreq:Req P G w (l.take n) ms)
 (htail:l.drop n=tail)
 (hend:∀(x:Tmp->Value) (w':World),zk w w'->(∀d∈dsts,Holds G d (x d) w')->zX P Q tail (zm x dsts a0) w'):(Code.region id l.toArray true).wp P Q a0 w:=by
 simp only[Bool.and_eq_true,beq_iff_eq,decide_eq_true_eq] at hB;obtain ⟨⟨⟨⟨hf,hT⟩,hn⟩,hme⟩,hde⟩:=hB;subst hsz htail;have hmem:∀t:Tmp,t∈dsts↔∃(j:Nat) (o:Oper),j<n/\l.toArray[j]?=some o/\o.dst=some t:=fun t=>by
  rw[<-hde];simp only[List.mem_filterMap]
  constructor
  ·rintro ⟨o,ho,hd⟩;obtain ⟨j,hj⟩:=List.mem_iff_getElem?.1 ho;rw[List.getElem?_take] at hj
   split at hj
   ·rename_i hjn
    exact ⟨j,o,hjn,by simpa using hj,hd⟩
   ·cases hj
  ·rintro ⟨j,o,hjn,hj,hd⟩;exact ⟨o,List.mem_iff_getElem?.2 ⟨j,by rw[List.getElem?_take,if_pos hjn];simpa using hj⟩,hd⟩
 refine wp_region_any hm (zdp (n:=n) (ms:=ms) (G:=G) (a0:=a0) (w0:=w) hf hT (by simpa using hn) hme (by simpa using hreq) ?_ _ _ _ _ ?_ ?_)
 ·intro a w' listed hall hinv;have e:a=zm (fun t=>a.eval (.tmp t)) dsts a0:=by
   have hsz:=hinv.size;have hdf:=hinv.defers;have ht:a.tmps=(zm (fun t=>a.eval (.tmp t)) dsts a0).tmps:=by
    apply Array.ext_getElem?
    intro t
    by_cases hlt:t<a0.tmps.size
    ·rw[qg _ _ _ _ hlt];have hat:a.tmps[t]?=some (a.eval (.tmp t)):=by
      have:t<a.tmps.size:=by rw[hsz];exact hlt
      simp[Act.eval,this]
     by_cases hd:t∈dsts
     ·rw[if_pos hd,hat]
     ·rw[if_neg hd,hat,hinv.others t (fun j o hjn hj hq=>hd ((hmem t).2 ⟨j,o,hjn,hj,hq⟩))];simp[Act.eval,hlt]
    ·rw[Array.getElem?_eq_none (by rw[hsz];omega),Array.getElem?_eq_none (by rw[xI];omega)]
   have hdd:a.defers=(zm (fun t=>a.eval (.tmp t)) dsts a0).defers:=by rw[yJ,hdf]
   exact Qf ht hdd
  rw[e];have:=hend (fun t=>a.eval (.tmp t)) w' hinv.grows fun d hd=>hinv.facts d fun j o hjn _ _=>hall j hjn
  simpa using this
 ·simp
 ·refine ⟨⟨rfl,rfl,rfl,Nat.le_refl _,fun _ _=>rfl⟩,rfl,rfl,fun t ht=>?_,fun _ _=>rfl,by simp,fun k o hk hl=>?_,fun k _=>?_⟩
  ·have hnd:t∉dsts:=fun hd=>by
    obtain ⟨j,o,hjn,hj,hq⟩:=(hmem t).1 hd;have:=ht j o hjn hj hq;have hlt:=(Array.getElem?_eq_some_iff.1 hj).1;simp at hlt;simp[hlt] at this
   exact fun W hW=>h0 t W hnd ⟨hW.os,hW.tape,hW.output,hW.size,hW.block⟩
  ·have hlt:=(Array.getElem?_eq_some_iff.1 hk).1;simp at hlt;simp[hlt] at hl
  ·by_cases hlt:k<l.length
   ·simp[hlt]
   ·simp[hlt]
end
end Gw
section
open Go.RowKit
theorem Y7 {P:Program} {id:Nat} {Q:Exit->Act->World->Prop} {a0:Act} {w:World} {l tail:List Oper} (n:Nat) (G:Gw.Fact) (dsts:List Tmp) (ms:List (List Tmp×Option (Tmp×Bool))) (size:Nat) (hm:P.follows .mixedOrders=true)
 (hB:(Gw.zgx l.toArray size n&&Gw.za1 l.toArray n&&decide (n<=l.length)&&(ms==(Gw.qP l.toArray).take n)&&((l.take n).filterMap (·.dst)==dsts))=true) (hsz:a0.tmps.size=size)
 (h0:∀t W,t∉dsts->Gw.zk w W->G t (a0.eval (.tmp t)) W) (hreq:Gw.Req P G w (l.take n) ms)
 (htail:l.drop n=tail)
 (hend:∀(x:Tmp->Value) (w':World),Gw.zk w w'->(∀d∈dsts,Gw.Holds G d (x d) w')->Tl (Gw.zX P Q tail (Gw.zm x dsts a0) w')):(Code.region id l.toArray true).wp P Q a0 w:=
 Gw.QS n G dsts ms size hm hB hsz h0 hreq htail fun x w' hg hx=>(hend x w' hg hx).out
end
end
section
namespace Gw
open Go.RowKit
def Qz (P:Program) (G:Fact) (o:Oper) (g:Option (Tmp×Bool)) (a:Act) (w:World):Prop:=
 match g with
 |none=>Ok P o a w (Post G o.dst)
 |some (d,b)=>(a.tmps[d]?.getD undef=.bool b/\Ok P o a w (Post G o.dst))\/(a.tmps[d]?.getD undef=.bool (!b)/\Post G o.dst undef w)\/((∀c,a.tmps[d]?.getD undef≠.bool c)/\Post G o.dst undef w)
def Req2 (P:Program) (G:Fact) (w0:World):List Oper->List (List Tmp×Option (Tmp×Bool))->Prop
 |[],[]=>True
 |o::os,m::ms=>(∀a w,zk w0 w->Knows G a w m.1->Qz P G o m.2 a w)/\Req2 P G w0 os ms
 |_,_=>False
section
variable {P:Program} {ops:Array Oper} {n:Nat}
theorem zhs {G:Fact} {w0:World}:∀(os:List Oper) (ms:List (List Tmp×Option (Tmp×Bool))),Req2 P G w0 os ms->∀(i:Nat) (o:Oper),os[i]?=some o->∃m:List Tmp×Option (Tmp×Bool),ms[i]?=some m/\∀a w,zk w0 w->Knows G a w m.1->Qz P G o m.2 a w
 |[],_,_,i,o,h=>by simp at h
 |o::os,[],hr,_,_,_=>hr.elim
 |o::os,m::ms,hr,0,_,h=>⟨m,rfl,by simp at h;subst h;exact hr.1⟩
 |o::os,m::ms,hr,i+1,o',h=>by
  obtain ⟨m',h1,h2⟩:=zhs os ms hr.2 i o' (by simpa using h);exact ⟨m',by simpa using h1,h2⟩
theorem zgW {o:Oper} {a:Act} {d:Tmp} {b:Bool} {g:Nat} (hg:o.guard=some (g,b)) (hd:(ops[g]?).bind (·.dst)=some d) (he:∀c,a.eval (.tmp d)≠.bool c):Region.wanted o (yielded ops a.tmps)=false:=by
 unfold Region.wanted;rw[hg];simp only;unfold yielded;rw[hd];simp only[Option.bind_some]
 cases hx:a.tmps[d]? with
 |none=>rfl
 |some x=>
  cases x with
  |bool c=>exact absurd (show a.tmps.getD d undef=.bool c by rw[Array.getD_eq_getD_getElem?,hx];rfl) (he c)
  |_=>rfl
theorem zev {G:Fact} {a0:Act} {w0:World} {Q:Exit->Act->World->Prop} (hB:YF ops a0.tmps.size=true) (hreq:Req2 P G w0 ops.toList (qP ops))
 (hend:∀a w,(∀listed:Array Bool,(∀j,j<ops.size->listed.getD j true=true)->Inv ops G a0 w0 listed a w->Q .normal a w)) :
 ∀(fuel:Nat) (listed:Array Bool) (a:Act) (w:World),listed.toList.count false<=fuel->Inv ops G a0 w0 listed a w->wpAny P .any ops Q fuel listed a w:=by
 have fin:∀(listed:Array Bool) (a:Act) (w:World),Inv ops G a0 w0 listed a w->Region.ready .any ops listed=[]->∀j,j<ops.size->listed.getD j true=true:=fun listed a w h hr=>by
  intro j
  induction j using Nat.strongRecOn with
  |_ j ih=>
   intro hj
   cases hl:listed.getD j true with
   |true=>rfl
   |false=>
    exfalso
    have hjo:ops[j]?=some ops[j]:=Array.getElem?_eq_getElem hj;have:j∈Region.ready .any ops listed:=mem_ready.2 ⟨hl,ops[j],hjo,fun e he hb=>by
     have hlt:=(xJ hB hjo).1 e he hb;have h1:=ih e.on hlt (by omega);have hb:e.on<listed.size:=by rw[h.listedSize];omega
     simpa [hb] using h1⟩
    rw[hr] at this
    cases this
 intro fuel
 induction fuel with
 |zero=>
  intro listed a w hc h;have h0:∀j,j<ops.size->listed.getD j true=true:=fun j hj=>by
   cases hl:listed.getD j true with
   |true=>rfl
   |false=>
    exfalso
    have hb:j<listed.size:=by rw[h.listedSize];exact hj
    have:(false:Bool)∈listed.toList:=by
     have e:listed[j]=false:=by simpa [hb] using hl
     rw[<-e];exact Array.getElem_mem_toList hb
    have:=List.count_pos_iff.2 this;omega
  refine ⟨?_,hend a w listed h0 h⟩
  cases hr:Region.ready .any ops listed with
  |nil=>rfl
  |cons i r=>
   exfalso
   have hm:i∈Region.ready .any ops listed:=by rw[hr];simp
   obtain ⟨hu,o,ho,-⟩:=mem_ready.1 hm;rw[h0 i (Array.getElem?_eq_some_iff.1 ho).1] at hu
   cases hu
 |succ fuel ih=>
  intro listed a w hc h;refine ⟨fun hr=>hend a w listed (fin listed a w h hr) h,fun i hm=>?_⟩;obtain ⟨hu,o,ho,hall⟩:=mem_ready.1 hm;have hlt:i<listed.size:=by rw[h.listedSize];exact (Array.getElem?_eq_some_iff.1 ho).1
  have hcount:(listed.setIfInBounds i true).toList.count false<=fuel:=by
   have e:listed.toList[i]?=some false:=by
    have:listed[i]=false:=by simpa [hlt] using hu
    simp[hlt,this]
   have:=count_set listed.toList i e;simp only[Array.toList_setIfInBounds];omega
  obtain ⟨hacyc,hguard,hdlt,hflow⟩:=xJ hB ho;obtain ⟨m,hm1,hm2⟩:=zhs ops.toList (qP ops) hreq i o (by simpa using ho);have hme:m=(o.looksAt ops,guardOf ops o):=by
   unfold qP at hm1;rw[List.getElem?_map] at hm1;have:ops.toList[i]?=some o:=by simpa using ho
   rw[this] at hm1
   simpa using hm1.symm
  subst hme;have hk:Knows G a w (o.looksAt ops):=ZL _ fun t ht=>(h.facts t fun j q hj hq=>by
   obtain ⟨e,he,hb,rfl⟩:=(hflow j q t hj hq).1 ht;have h1:=hall e he hb;have hjl:e.on<listed.size:=by rw[h.listedSize];exact (Array.getElem?_eq_some_iff.1 hj).1
   simpa [hjl] using h1).now
  have hreq':=hm2 a w h.grows hk;unfold wpOp;simp only[ho];have go:∀v w',zk w w'->Post G o.dst v w'->wpAny P .any ops Q fuel (listed.setIfInBounds i true) (a.put o.dst v) w':=fun v w' hg hp=>
   ih _ _ _ hcount (zic hB ho h hg hp)
  unfold Qz guardOf at hreq'
  cases hgd:o.guard with
  |none=>
   rw[hgd] at hreq';have hw:Region.wanted o (yielded ops a.tmps)=true:=by unfold Region.wanted;rw[hgd]
   rw[if_pos hw];exact .inl (vP hreq' go)
  |some gb=>
   obtain ⟨g,b⟩:=gb;obtain ⟨q,d,hq,hqd⟩:=hguard g b hgd;rw[hgd] at hreq';have hbind:(ops[g]?).bind (·.dst)=some d:=by rw[hq];exact hqd
   simp only[hbind,Option.map_some] at hreq';rw[<-zD] at hreq';rcases hreq' with ⟨he,hok⟩|⟨he,hp⟩|⟨he,hp⟩
   ·have hw:=yK (ops:=ops) hgd hbind he;rw[if_pos (by rw[hw];simp)];exact .inl (vP hok go)
   ·have hw:=yK (ops:=ops) hgd hbind he;rw[if_neg (by rw[hw];cases b<;>simp)];exact go _ _ (zk.refl w) hp
   ·have hw:=zgW (ops:=ops) hgd hbind he;rw[if_neg (by rw[hw];simp)];exact go _ _ (zk.refl w) hp
theorem QT {id:Nat} {Q:Exit->Act->World->Prop} {a0:Act} {w:World} {l:List Oper} (G:Fact) (dsts:List Tmp) (ms:List (List Tmp×Option (Tmp×Bool))) (size:Nat) (hm:P.follows .mixedOrders=true)
 (hB:(YF l.toArray size&&(qP l.toArray==ms)&&(dstsOf l.toArray==dsts))=true) (hsz:a0.tmps.size=size)
 (h0:∀t W,t∉dsts->zk w W->G t (a0.eval (.tmp t)) W) (hreq:Req2 P G w l ms)
 (hend:∀(x:Tmp->Value) (w':World),zk w w'->(∀d∈dsts,Holds G d (x d) w')->Q .normal (zm x dsts a0) w'):(Code.region id l.toArray true).wp P Q a0 w:=by
 simp only[Bool.and_eq_true,beq_iff_eq] at hB;obtain ⟨⟨hf,hme⟩,hde⟩:=hB;subst hsz;have hmem:∀t:Tmp,t∈dsts↔∃(j:Nat) (o:Oper),l.toArray[j]?=some o/\o.dst=some t:=fun t=>by
  rw[<-hde];unfold dstsOf;simp only[List.mem_filterMap]
  constructor
  ·rintro ⟨o,ho,hd⟩;obtain ⟨j,hj⟩:=List.mem_iff_getElem?.1 ho;exact ⟨j,o,by simpa using hj,hd⟩
  ·rintro ⟨j,o,hj,hd⟩;exact ⟨o,List.mem_iff_getElem?.2 ⟨j,by simpa using hj⟩,hd⟩
 refine wp_region_any hm (zev (G:=G) (a0:=a0) (w0:=w) hf (by rw[hme];exact hreq) ?_ _ _ _ _ ?_ ?_)
 ·intro a w' listed hall hinv;have e:a=zm (fun t=>a.eval (.tmp t)) dsts a0:=by
   have hsz:=hinv.size;have hdf:=hinv.defers;have ht:a.tmps=(zm (fun t=>a.eval (.tmp t)) dsts a0).tmps:=by
    apply Array.ext_getElem?
    intro t
    by_cases hlt:t<a0.tmps.size
    ·rw[qg _ _ _ _ hlt];have hat:a.tmps[t]?=some (a.eval (.tmp t)):=by
      have:t<a.tmps.size:=by rw[hsz];exact hlt
      simp[Act.eval,this]
     by_cases hd:t∈dsts
     ·rw[if_pos hd,hat]
     ·rw[if_neg hd,hat,hinv.others t (fun j o hj hq=>hd ((hmem t).2 ⟨j,o,hj,hq⟩))];simp[Act.eval,hlt]
    ·rw[Array.getElem?_eq_none (by rw[hsz];omega),Array.getElem?_eq_none (by rw[xI];omega)]
   have hdd:a.defers=(zm (fun t=>a.eval (.tmp t)) dsts a0).defers:=by rw[yJ,hdf]
   exact Qf ht hdd
  rw[e];refine hend _ _ hinv.grows fun d hd=>?_
  exact hinv.facts d fun j o hj _=>hall j (Array.getElem?_eq_some_iff.1 hj).1
 ·simp
 ·refine ⟨⟨rfl,rfl,rfl,Nat.le_refl _,fun _ _=>rfl⟩,rfl,rfl,fun t ht=>?_,fun _ _=>rfl,by simp⟩;have hnd:t∉dsts:=fun hd=>by
   obtain ⟨j,o,hj,hq⟩:=(hmem t).1 hd;have:=ht j o hj hq;have hlt:=(Array.getElem?_eq_some_iff.1 hj).1;simp at hlt;simp[hlt] at this
  exact fun W hW=>h0 t W hnd ⟨hW.os,hW.tape,hW.output,hW.size,hW.block⟩
end
end Gw
end
end Go.Proofs.YtcdkopbjlakebaaGreatDoor
