/- Texts put together, for a law: RbA, Few. -/
import Derived.Deep.Grids
import Derived.Test.YtcdkopbjlakebaaGreatDoorKP31
import Derived.Test.YtcdkopbjlakebaaGreatDoorKP14
set_option maxRecDepth 100000
set_option maxHeartbeats 8000000
namespace Go.Proofs.YtcdkopbjlakebaaGreatDoor
section
open Go.RowKit Me Rn Go.ChangeShapes Go.WideShapes
theorem zf3 {H:Type} {enc:TypeId×Value->H} {P:Program} {W:World} {t e:TypeId} {fuel:Nat} {cs:List Value} {x:DataW H×List MemPlace} (ht:P.underlying t=some (.slice e)) (he:P.underlying e=some (.int .u8)) (hc:P.cellsOf e=1)
 (hf:DataW.trod enc P W 0 (fun _=>true) true fuel t cs=some x):∃p:Pc,cs=[p.1]/\PcAt W W.heap.size p:=by
 rcases ChangeShapes.open_ints ht he hc hf with ⟨hcs,hx⟩|⟨a,len,cap,zs,hcs,_,hl,hm,hz,hx,hcell,hwz⟩
 ·exact ⟨(_,[]),hcs,none,0,0,rfl,rfl,Nat.le_refl _,by omega,Rd.empty⟩
 ·simp only[if_true] at hz;refine ⟨(_,(zs.take len).map (fun z=>UInt8.ofNat z.toNat)),hcs,some a,len,cap,rfl,by simp;omega,hl,by unfold maxLen at hm;omega,fun hn=>?_⟩;have hn':0<len:=by simp at hn;omega
  have h0:=hcell 0 (by omega);have hb:=block_lt_of_cell h0;rw[Me.block_add] at hb;refine ⟨a,rfl,hb,fun i u hu=>?_⟩;have hu:((zs.take len).map (fun z=>UInt8.ofNat z.toNat))[i]?=some u:=hu;rw[List.getElem?_map] at hu;have hi:i<len:=by
   rcases Nat.lt_or_ge i len with h|h
   ·exact h
   ·rw[List.getElem?_take,if_neg (by omega)] at hu;cases hu
  rw[List.getElem?_take,if_pos hi,List.getElem?_eq_getElem (by omega)] at hu;injection hu with hu;have hw:=hwz zs[i] (List.getElem_mem _);have e1:zs.getD i 0=zs[i]:=by rw[List.getD_eq_getElem?_getD,List.getElem?_eq_getElem (by omega)];rfl
  rw[hcell i (by omega),e1,<-hu];simp[Lit.wf,IntKind.min,IntKind.max,IntKind.bits,IntKind.signed] at hw
  congr 2
  rw[UInt8.toNat_ofNat'];omega
theorem zkC:Tryz.prog.cellsOf 24=1:=by kernel_rfl
structure ZU (w:World) (B:Nat) (A:Option Addr) (es:List Pc):Prop where
 row:Cs w B A (es.map Prod.fst)
 all:∀p∈es,PcAt w B p
theorem ZU.below {w w':World} {B:Nat} {A:Option Addr} {es:List Pc} (h:ZU w B A es) (hb:Below B w w'):ZU w' B A es:=
 ⟨h.row.below hb,fun p hp=>(h.all p hp).keep fun a ha=>hb.cell ha⟩
theorem ZU.at {w:World} {B:Nat} {A:Option Addr} {es:List Pc} (h:ZU w B A es) {i:Nat} {p:Pc} (hi:es[i]?=some p):∃a A1 n c,A=some a/\a.block<B/\w.cell? (a.add i)=some (.slice A1 n c)/\p.2.length=n/\n<=c/\c<=9223372036854775807/\Rd w B A1 p.2:=by
 obtain ⟨a,e,hb,hc⟩:=h.row (by rw[List.length_map];have:=(List.getElem?_eq_some_iff.1 hi).1;omega);obtain ⟨A1,n,c,e1,h1,h2,h3,h4⟩:=h.all p (List.mem_of_getElem? hi);exact ⟨a,A1,n,c,e,hb,hc i _ (by rw[List.getElem?_map,hi];exact congrArg some e1),h1,h2,h3,h4⟩
end
section
open Go.RowKit Me Rn
end
end Go.Proofs.YtcdkopbjlakebaaGreatDoor
