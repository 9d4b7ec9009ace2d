/- Texts put together, for a law: RaA. -/
import Derived.Test.YtcdkopbjlakebaaGreatDoorKP37
import Derived.Test.YtcdkopbjlakebaaGreatDoorKP42
set_option maxRecDepth 100000
set_option maxHeartbeats 8000000
namespace Go.Proofs.YtcdkopbjlakebaaGreatDoor
section
open Go.RowKit Me Mf Rw Ds Rn Tx Fr Mw Hp Va Go.Maps
structure RA where
 kind:Int
 b:List UInt8
 u:Nat
 l:List Pc
def zi2 (w:World) (B:Nat) (x:Addr) (p:RA):Prop:=∃A n c A2 n2 c2,w.cell? x=some (.int .i64 p.kind)/\w.cell? ⟨x.block,x.off+1,none⟩=some (.slice A n c)/\w.cell? ⟨x.block,x.off+2,none⟩=some (.int .u8 (p.u:Int))/\w.cell? ⟨x.block,x.off+3,none⟩=some (.slice A2 n2 c2) /\
 p.b.length=n/\n<=9223372036854775807/\Rd w B A p.b/\p.u<256/\p.l.length=n2/\n2<=9223372036854775807/\ZU w B A2 p.l
def zi1 (w:World) (B:Nat) (L:Option Addr) (acts:List RA):Prop:=0<acts.length->∃a,L=some a/\a.block<B/\∀i p,acts[i]?=some p->zi2 w B (a.add (i*4)) p
theorem zi1.at {w:World} {B:Nat} {L:Option Addr} {acts:List RA} (h:zi1 w B L acts) {i:Nat} (hi:i<acts.length):∃a p,L=some a/\a.block<B/\acts[i]?=some p/\zi2 w B (a.add (i*4)) p:=by
 obtain ⟨a,e,h1,hc⟩:=h (by omega);exact ⟨a,acts[i],e,h1,List.getElem?_eq_getElem hi,hc i _ (List.getElem?_eq_getElem hi)⟩
open Go.ChangeShapes Go.WideShapes
theorem zbK {H:Type} {enc:TypeId×Value->H} {W:World} {fuel:Nat} {cs:List Value} {x:DataW H×List MemPlace}
 (hf:DataW.trod enc Tryz.prog W 0 (fun _=>true) true fuel 25 cs=some x):∃(A:Option Addr) (n c:Nat) (es:List Pc),cs=[.slice A n c]/\es.length=n/\n<=9223372036854775807/\ZU W W.heap.size A es:=by
 rcases Go.Deep.open_slice1 Tryz.underlying25 zkC hf with ⟨hcs,hx⟩|⟨a,n,c,m,n',V,D,Pl,hcs,hb,hl,hm,hmm,hx,hi⟩
 ·exact ⟨none,0,0,[],hcs,rfl,by omega,Cs.empty,fun p hp=>by cases hp⟩
 ·simp only[if_true] at hmm;have each:∀i,∃p:Pc,i<n->V i=p.1/\PcAt W W.heap.size p:=fun i=>by
   by_cases hin:i<n
   ·obtain ⟨p,h1,h2⟩:=zf3 Tryz.underlying24 Tryz.underlying5 zfC (hi i (by omega)).2;exact ⟨p,fun _=>⟨by simpa using h1,h2⟩⟩
   ·exact ⟨(.nilFunc,[]),fun h=>absurd h hin⟩
  refine ⟨some a,n,c,(List.range n).map fun i=>(each i).choose,hcs,by simp,by unfold maxLen at hm;omega,fun hn=>?_,fun p hp=>?_⟩
  ·have h0:0<n:=by simpa using hn
   have hc0:=(hi 0 (by omega)).1;have hb':=block_lt_of_cell hc0;rw[Me.block_add] at hb';refine ⟨a,rfl,hb',fun i u hu=>?_⟩;rw[List.map_map,List.getElem?_map] at hu
   by_cases hin:i<n
   ·rw[List.getElem?_range hin] at hu;have hu:(each i).choose.1=u:=by simpa using hu
    rw[(hi i (by omega)).1,((each i).choose_spec hin).1,hu]
   ·rw[List.getElem?_eq_none (by simp;omega)] at hu
    cases hu
  ·obtain ⟨i,hir,rfl⟩:=List.mem_map.1 hp;exact ((each i).choose_spec (List.mem_range.1 hir)).2
theorem zhu:∃f0 f1 f2 f3:Field,Tryz.prog.underlying 27=some (.struct #[f0,f1,f2,f3])/\Go.Deep.oneCellFields Tryz.prog #[f0,f1,f2,f3]=true/\f0.type=3/\f1.type=24/\f2.type=5/\f3.type=25:=
 ⟨_,_,_,_,Tryz.underlying27,by kernel_rfl,rfl,rfl,rfl,rfl⟩
theorem zfX:Tryz.prog.cellsOf 27=4:=by kernel_rfl
theorem zf6 {H:Type} {enc:TypeId×Value->H} {W:World} {b0:Nat} {v:Value} {d:DataW H} {ps:List MemPlace}
 (hv:Value.okWide Tryz.prog W .any b0 22 v) (h:DataW.Trod enc Tryz.prog W 0 (fun _=>true) true 22 v d ps) :
 ∃A n c acts,v=.slice A n c/\acts.length=n/\n<=c/\c<=9223372036854775807/\zi1 W W.heap.size A acts:=by
 obtain ⟨A,n,c,rfl⟩:=WideShapes.okWide_slice Tryz.underlying22 hv;obtain ⟨fuel,hf⟩:=h;rcases Go.Deep.open_slice Tryz.underlying22 hf with ⟨hcs,hx⟩|⟨a,len,cap,m,n',D,Pl,hcs,hb,hl,hm,hmm,hx,hi'⟩
 ·simp[Value.cells] at hcs;obtain ⟨rfl,rfl,rfl⟩:=hcs;exact ⟨_,_,_,[],rfl,rfl,Nat.le_refl _,by omega,fun hn=>by simp at hn⟩
 ·simp[Value.cells] at hcs;obtain ⟨rfl,rfl,rfl⟩:=hcs;have hone':∀i,i<n->∃p:RA,zi2 W W.heap.size (a.add (i*4)) p:=by
   intro i hin;obtain ⟨f0,f1,f2,f3,he,hone,h0,h1,h2,h3⟩:=zhu;obtain ⟨cs',hc,ht'⟩:=hi' i (by rw[hmm];simp;omega);rw[zfX] at hc;obtain ⟨ys,n2,hn2,hy,hlen,hyl,hfld⟩:=DataW.trod_struct he ht';obtain ⟨_,hcl,hat⟩:=World.cells?_some hc;obtain ⟨o0,k0⟩:=Go.Deep.hone_of hone 0 f0 rfl;obtain ⟨o1,k1⟩:=Go.Deep.hone_of hone 1 f1 rfl;obtain ⟨o2,k2⟩:=Go.Deep.hone_of hone 2 f2 rfl;obtain ⟨o3,k3⟩:=Go.Deep.hone_of hone 3 f3 rfl
   match cs',hcl,hat with
   |[c0,c1,c2,c3],_,hat=>
    match ys,hyl with
    |[y0,y1,y2,y3],_=>
     have g0:=hfld 0 f0 rfl;have g1:=hfld 1 f1 rfl;have g2:=hfld 2 f2 rfl;have g3:=hfld 3 f3 rfl;rw[o0,k0,h0] at g0;rw[o1,k1,h1] at g1;rw[o2,k2,h2] at g2;rw[o3,k3,h3] at g3;obtain ⟨z0,e0,-,w0⟩:=DataW.trod_int Tryz.underlying3 g0;obtain ⟨v1,l,e1,A,n3,c3',rfl,q1,q2,q3⟩:=zbJ Tryz.underlying24 Tryz.underlying5 zfC g1;obtain ⟨z2,e2,-,w2⟩:=DataW.trod_int Tryz.underlying5 g2;obtain ⟨A3,n4,c4,es,e3,r1,r2,r3⟩:=zbK g3;simp at e0 e1 e2 e3;subst e0 e1 e2 e3;have hz2:0<=z2/\z2<256:=by simp[Lit.wf,IntKind.min,IntKind.max,IntKind.bits,IntKind.signed] at w2;omega
     obtain ⟨m2,rfl⟩:∃m:Nat,z2=(m:Int):=⟨z2.toNat,by omega⟩
     have a0:=hat 0 (by simp);have a1:=hat 1 (by simp);have a2:=hat 2 (by simp);have a3:=hat 3 (by simp);rw[add_zero'] at a0;rw[ziV _ 0] at a1;rw[ziV _ 1] at a2;rw[ziV _ 2] at a3;exact ⟨⟨z0,l,m2,es⟩,A,n3,c3',A3,n4,c4,a0,a1,a2,a3,q1,q2,q3,by show m2<256;omega,r1,r2,r3⟩
  refine ⟨_,n,c,(List.range n).map (fun i=>if h:i<n then (hone' i h).choose else ⟨0,[],0,[]⟩),rfl,by simp,hl,by unfold maxLen at hm;omega,fun hn=>?_⟩;have hn0:0<n:=by simpa using hn
  refine ⟨a,rfl,?_,fun i p hp=>?_⟩
  ·obtain ⟨A,n,c,A2,n2,c2,h1,-⟩:=(hone' 0 hn0).choose_spec;have:=block_lt_of_cell h1
   rwa[Me.block_add] at this
  ·rw[List.getElem?_map] at hp
   by_cases hin:i<n
   ·simp[hin] at hp;subst hp;exact (hone' i hin).choose_spec
   ·simp[hin] at hp
end
end Go.Proofs.YtcdkopbjlakebaaGreatDoor
