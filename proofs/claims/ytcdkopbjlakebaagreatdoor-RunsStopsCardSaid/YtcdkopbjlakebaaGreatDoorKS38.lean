/- Texts put together, for a law: RbA, Few. -/
import Derived.Deep.Grids
import Derived.Test.YtcdkopbjlakebaaGreatDoorKS32
import Derived.Test.YtcdkopbjlakebaaGreatDoorKS14
section
namespace Go.Proofs.YtcdkopbjlakebaaGreatDoor
open Go.RowKit Me Rn Go.ChangeShapes Go.WideShapes
theorem pc_of_trod {H:Type} {enc:TypeId×Value→H} {P:Program} {W:World} {t e:TypeId} {fuel:Nat} {cs:List Value} {x:DataW H×List MemPlace} (ht:P.underlying t=some (.slice e)) (he:P.underlying e=some (.int .u8)) (hc:P.cellsOf e=1)
 (hf:DataW.trod enc P W 0 (fun _=>true) true fuel t cs=some x):∃p:Pc,cs=[p.1]∧PcAt W W.heap.size p:=by
 rcases ChangeShapes.open_ints ht he hc hf with ⟨hcs,hx⟩|⟨a,len,cap,zs,hcs,_,hl,hm,hz,hx,hcell,hwz⟩
 ·exact ⟨(_,[]),hcs,none,0,0,rfl,rfl,Nat.le_refl _,by omega,Rd.empty⟩
 ·simp only[if_true] at hz
  refine ⟨(_,(zs.take len).map (fun z=>UInt8.ofNat z.toNat)),hcs,some a,len,cap,rfl,by simp;omega,hl,by unfold maxLen at hm;omega,fun hn=>?_⟩
  have hn':0<len:=by simp at hn;omega
  have h0:=hcell 0 (by omega)
  have hb:=block_lt_of_cell h0
  rw[Me.block_add] at hb
  refine ⟨a,rfl,hb,fun i u hu=>?_⟩
  have hu:((zs.take len).map (fun z=>UInt8.ofNat z.toNat))[i]?=some u:=hu
  rw[List.getElem?_map] at hu
  have hi:i<len:=by
   rcases Nat.lt_or_ge i len with h|h
   ·exact h
   ·rw[List.getElem?_take,if_neg (by omega)] at hu;cases hu
  rw[List.getElem?_take,if_pos hi,List.getElem?_eq_getElem (by omega)] at hu
  injection hu with hu
  have hw:=hwz zs[i] (List.getElem_mem _)
  have e1:zs.getD i 0=zs[i]:=by rw[List.getD_eq_getElem?_getD,List.getElem?_eq_getElem (by omega)];rfl
  rw[hcell i (by omega),e1,←hu]
  simp[Lit.wf,IntKind.min,IntKind.max,IntKind.bits,IntKind.signed] at hw
  congr 2
  rw[UInt8.toNat_ofNat']
  omega
theorem cells_bs:Tryz.prog.cellsOf 24=1:=by kernel_rfl
structure BRows (w:World) (B:Nat) (A:Option Addr) (es:List Pc):Prop where
 row:Cs w B A (es.map Prod.fst)
 all:∀p∈es,PcAt w B p
theorem BRows.below {w w':World} {B:Nat} {A:Option Addr} {es:List Pc} (h:BRows w B A es) (hb:Below B w w'):BRows w' B A es:=
 ⟨h.row.below hb,fun p hp=>(h.all p hp).keep fun a ha=>hb.cell ha⟩
theorem BRows.at {w:World} {B:Nat} {A:Option Addr} {es:List Pc} (h:BRows w B A es) {i:Nat} {p:Pc} (hi:es[i]?=some p):∃a A1 n c,A=some a∧a.block<B∧w.cell? (a.add i)=some (.slice A1 n c)∧p.2.length=n∧n≤c∧c≤9223372036854775807∧Rd w B A1 p.2:=by
 obtain ⟨a,e,hb,hc⟩:=h.row (by rw[List.length_map];have:=(List.getElem?_eq_some_iff.1 hi).1;omega)
 obtain ⟨A1,n,c,e1,h1,h2,h3,h4⟩:=h.all p (List.mem_of_getElem? hi)
 exact ⟨a,A1,n,c,e,hb,hc i _ (by rw[List.getElem?_map,hi];exact congrArg some e1),h1,h2,h3,h4⟩
set_option maxRecDepth 100000 in
theorem open_brows {H:Type} {enc:TypeId×Value→H} {W:World} {b0:Nat} {v:Value} {d:DataW H} {ps:List MemPlace}
 (hv:Value.okWide Tryz.prog W .any b0 25 v) (h:DataW.Trod enc Tryz.prog W 0 (fun _=>true) true 25 v d ps) :
 ∃(A:Option Addr) (n c:Nat) (es:List Pc),v=.slice A n c∧es.length=n∧n≤c∧c≤9223372036854775807∧BRows W W.heap.size A es:=by
 obtain ⟨A,n,c,rfl⟩:=WideShapes.okWide_slice Tryz.underlying25 hv
 obtain ⟨fuel,hf⟩:=h
 rcases Go.Deep.open_slice1 Tryz.underlying25 cells_bs hf with ⟨hcs,hx⟩|⟨a,len,cap,m,n',V,D,Pl,hcs,hb,hl,hm,hmm,hx,hi⟩
 ·simp[Value.cells] at hcs
  obtain ⟨rfl,rfl,rfl⟩:=hcs
  exact ⟨_,_,_,[],rfl,rfl,Nat.le_refl _,by omega,Cs.empty,fun p hp=>by cases hp⟩
 ·simp[Value.cells] at hcs
  obtain ⟨rfl,rfl,rfl⟩:=hcs
  simp only[if_true] at hmm
  have each:∀i,∃p:Pc,i<n→V i=p.1∧PcAt W W.heap.size p:=fun i=>by
   by_cases hin:i<n
   ·obtain ⟨p,h1,h2⟩:=pc_of_trod Tryz.underlying24 Tryz.underlying5 cells_u8 (hi i (by omega)).2
    exact ⟨p,fun _=>⟨by simpa using h1,h2⟩⟩
   ·exact ⟨(.nilFunc,[]),fun h=>absurd h hin⟩
  refine ⟨_,n,_,(List.range n).map fun i=>(each i).choose,rfl,by simp,hl,by unfold maxLen at hm;omega,fun hn=>?_,fun p hp=>?_⟩
  ·have h0:0<n:=by simpa using hn
   have hc0:=(hi 0 (by omega)).1
   have hb':=block_lt_of_cell hc0
   rw[Me.block_add] at hb'
   refine ⟨a,rfl,hb',fun i u hu=>?_⟩
   rw[List.map_map,List.getElem?_map] at hu
   by_cases hin:i<n
   ·rw[List.getElem?_range hin] at hu
    have hu:(each i).choose.1=u:=by simpa using hu
    rw[(hi i (by omega)).1,((each i).choose_spec hin).1,hu]
   ·rw[List.getElem?_eq_none (by simp;omega)] at hu
    cases hu
  ·obtain ⟨i,hir,rfl⟩:=List.mem_map.1 hp
   exact ((each i).choose_spec (List.mem_range.1 hir)).2
theorem cells_bool:Tryz.prog.cellsOf 4=1:=by kernel_rfl
set_option maxRecDepth 100000 in
theorem open_flags {H:Type} {enc:TypeId×Value→H} {W:World} {b0:Nat} {v:Value} {d:DataW H} {ps:List MemPlace}
 (hv:Value.okWide Tryz.prog W .any b0 54 v) (h:DataW.Trod enc Tryz.prog W 0 (fun _=>true) true 54 v d ps) :
 ∃(A:Option Addr) (n c:Nat) (bs:List Bool),v=.slice A n c∧bs.length=n∧n≤c∧c≤9223372036854775807∧Cs W W.heap.size A (bs.map Value.bool):=by
 obtain ⟨A,n,c,rfl⟩:=WideShapes.okWide_slice Tryz.underlying54 hv
 obtain ⟨fuel,hf⟩:=h
 rcases Go.Deep.open_bools Tryz.underlying54 Tryz.underlying4 cells_bool hf with ⟨hcs,hx⟩|⟨a,len,cap,F,hcs,hb,hl,hm,hx,hi⟩
 ·simp[Value.cells] at hcs
  obtain ⟨rfl,rfl,rfl⟩:=hcs
  exact ⟨_,_,_,[],rfl,rfl,Nat.le_refl _,by omega,Cs.empty⟩
 ·simp[Value.cells] at hcs
  obtain ⟨rfl,rfl,rfl⟩:=hcs
  refine ⟨_,n,_,(List.range n).map F,rfl,by simp,hl,by unfold maxLen at hm;omega,fun hn=>?_⟩
  have h0:0<n:=by simpa using hn
  have hc0:=hi 0 (by omega)
  have hb':=block_lt_of_cell hc0
  rw[Me.block_add] at hb'
  refine ⟨a,rfl,hb',fun i u hu=>?_⟩
  rw[List.map_map,List.getElem?_map] at hu
  by_cases hin:i<n
  ·rw[List.getElem?_range hin] at hu
   have hu:Value.bool (F i)=u:=by simpa using hu
   rw[hi i (by omega),hu]
  ·rw[List.getElem?_eq_none (by simp;omega)] at hu
   cases hu
end Go.Proofs.YtcdkopbjlakebaaGreatDoor
end
section
namespace Go.Proofs.YtcdkopbjlakebaaGreatDoor
open Go.RowKit Me Rn
def FewR (es:List Pc) (wd:Int):Prop:=es.length≤100∧1≤wd∧wd≤64∧∀p∈es,(p.2.length:Int)=wd
set_option maxRecDepth 100000 in
set_option maxHeartbeats 1000000 in
theorem few_any (A:Option Addr) (n c:Nat) (es:List Pc) (wd:Int) (w:World) (B:Nat) (hl:es.length=n) (hn:n≤9223372036854775807) (h:BRows w B A es) :
 Calls Tryz.prog 17 #[.slice A n c,.int .i64 wd] w fun e w'=>(∃b,e=.returned (.bool b)∧(b=true→FewR es wd))∧w=w':=by
 have HL:=Lib.hid hl
 have HA:=Lib.hid h
 clear hl h
 have hway:(decide ((100:Int)<(n:Int))=true)∨(decide ((100:Int)<(n:Int))=false∧decide (wd<1)=true)∨(decide ((100:Int)<(n:Int))=false∧decide (wd<1)=false∧decide (64<wd)=true)∨(decide ((100:Int)<(n:Int))=false∧decide (wd<1)=false∧decide (64<wd)=false):=by
  by_cases h0:100<n
  ·exact .inl (by simp;omega)
  ·by_cases h1:wd<1
   ·exact .inr (.inl ⟨by simp;omega,by simp;omega⟩)
   ·by_cases h2:64<wd
    ·exact .inr (.inr (.inl ⟨by simp;omega,by simp;omega,by simp;omega⟩))
    ·exact .inr (.inr (.inr ⟨by simp;omega,by simp;omega,by simp;omega⟩))
 rcases hway with d0|⟨d0,d1⟩|⟨d0,d1,d2⟩|⟨d0,d1,d2⟩
 iterate 3
  ·go_enter Tryz.func17,Tryz.ntmps17
   go_wp2
   go_ret
   exact ⟨⟨false,rfl,fun e=>by cases e⟩,rfl⟩
 have HD0:=Lib.hid (show 1≤wd∧wd≤64 by simp at d1 d2;omega)
 have h60:n≤100:=by simp at d0;omega
 go_enter Tryz.func17,Tryz.ntmps17
 go_wp2
 clear d0 d1 d2
 go_loopw [5] (fun x wr=>∃j:Nat,x=.int .i64 (j:Int)∧j≤n∧w=wr∧Hid (∀i p,i<j→es[i]?=some p→(p.2.length:Int)=wd)) (fun x _=>n-(intOf x).toNat)
 case atStart=>exact ⟨0,rfl,Nat.zero_le _,rfl,Lib.hid fun i p hi=>by omega⟩
 case round=>
  obtain ⟨j,rfl,hjn,rfl,HI⟩:=hrel
  by_cases hlt:j<n
  ·obtain ⟨p,hp⟩:∃p,es[j]?=some p:=⟨_,List.getElem?_eq_getElem (by rw[HL.out];exact hlt)⟩
   obtain ⟨a,A1,n1,c1,rfl,-,g0,q1,-⟩:=HA.out.at hp
   have hlti:(j:Int)<(n:Int):=by omega
   have HP:=Lib.hid hp
   have HQ:=Lib.hid q1
   clear hp q1
   by_cases h2:(n1:Int)=wd
   ·have d3:((n1:Int) != wd)=false:=by rw[h2];simp
    have HI2:=Lib.hid (show ∀i q,i<j+1→es[i]?=some q→(q.2.length:Int)=wd from fun i q hi hq=>by
     rcases (show i<j∨i=j by omega) with h|rfl
     ·exact HI.out i q h hq
     ·rw[HP.out] at hq
      injection hq with hq
      subst hq
      rw[HQ.out,h2])
    clear h2
    go_wp2
    go_roundw
    case rel=>exact ⟨j+1,by go_num,by omega,trivial,HI2⟩
    case measure=>simp[intOf];omega
   ·have d3:((n1:Int) != wd)=true:=by simp;omega
    go_wp2
    go_ret
    exact ⟨⟨false,rfl,fun e=>by cases e⟩,rfl⟩
  ·have HF:=Lib.hid (show FewR es wd from ⟨by rw[HL.out];exact h60,HD0.out.1,HD0.out.2,fun p hp=>by
    obtain ⟨i,hi⟩:=List.mem_iff_getElem?.1 hp
    exact HI.out i p (by have:=(List.getElem?_eq_some_iff.1 hi).1;have:=HL.out;omega) hi⟩)
   go_wp2
   go_ret
   exact ⟨⟨true,rfl,fun _=>HF.out⟩,rfl⟩
end Go.Proofs.YtcdkopbjlakebaaGreatDoor
end
