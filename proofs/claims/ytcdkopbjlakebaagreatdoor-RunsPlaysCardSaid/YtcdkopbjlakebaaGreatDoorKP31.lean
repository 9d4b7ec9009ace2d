/- Texts put together, for a law: Sf. -/
import Derived.Shelf.SlSortCmp.NoneTotal
import Derived.Lib.SortBridge
import Derived.Test.YtcdkopbjlakebaaGreatDoorKP11
import Derived.Test.YtcdkopbjlakebaaGreatDoorKP13
import Derived.Test.YtcdkopbjlakebaaGreatDoorKP1
set_option maxRecDepth 100000
set_option maxHeartbeats 8000000
namespace Go.Proofs.YtcdkopbjlakebaaGreatDoor
section
open Go.RowKit Me Rn Go.Sort
variable {w w':World}
def zfQ (xs:List Value):Nat->List Value->List Value
 |_,[]=>xs
 |o,v::vs=>zfQ (xs.set o v) (o+1) vs
theorem zb8:∀(vs xs:List Value) (o i:Nat),o+vs.length<=xs.length->(zfQ xs o vs)[i]?=if o<=i/\i<o+vs.length then vs[i-o]? else xs[i]?
 |[],xs,o,i,_=>by
  rw[zfQ,if_neg (by simp only[List.length_nil];omega)]
 |v::vs,xs,o,i,h=>by
  rw[List.length_cons] at h;rw[zfQ,zb8 vs _ (o+1) i (by rw[List.length_set];omega),List.length_cons]
  by_cases h1:o+1<=i/\i<o+1+vs.length
  ·rw[if_pos h1,if_pos (by omega)];obtain ⟨k,rfl⟩:∃k,i=o+1+k:=⟨i-(o+1),by omega⟩
   rw[show o+1+k-(o+1)=k by omega,show o+1+k-o=k+1 by omega,List.getElem?_cons_succ]
  ·rw[if_neg h1]
   by_cases h2:i=o
   ·subst h2;rw[if_pos (by omega),Nat.sub_self,List.getElem?_set_self (by omega)];rfl
   ·rw[if_neg (by omega),List.getElem?_set_ne (Ne.symm h2)]
theorem zhk {xs vs:List Value} (h:vs.length=xs.length):zfQ xs 0 vs=vs:=by
 refine List.ext_getElem? fun i=>?_
 rw[zb8 vs xs 0 i (by omega)]
 by_cases hi:i<vs.length
 ·rw[if_pos (by omega),Nat.sub_zero]
 ·rw[if_neg (by omega),List.getElem?_eq_none (by omega),List.getElem?_eq_none (by omega)]
theorem ze7 {base n c g:Nat} {e:TypeId}:∀(vs:List Value) (o:Nat) {w:World} {xs:List Value},w.ownsRow base e 1 (.slice (some ⟨g,0,none⟩) n c) n xs->o+vs.length<=n->(w.setCells g o vs).ownsRow base e 1 (.slice (some ⟨g,0,none⟩) n c) n (zfQ xs o vs)
 |[],_,_,_,h,_=>h
 |v::vs,o,w,xs,h,hl=>by
  rw[List.length_cons] at hl;obtain ⟨g',hg,-,-,-,h2⟩:=vC (v:=v) h (i:=o) (by omega);have hgg:g'=g:=by injection hg with hg;injection hg with hg;exact hg.symm
  subst hgg;exact ze7 vs (o+1) h2 (by omega)
theorem zfb {S:Nat->Prop} {w W:World} (h:Out S w W) (os:Array Obj):Out S w (grow W os):=
 ⟨h.os,h.tape,h.output,by have:=h.size;simp[grow];omega,fun k hk hn=>(heap_grow_old W os (by have:=h.size;omega)).trans (h.block k hk hn)⟩
theorem zcL (S:Nat->Prop) (w:World) (q:Nat):Out S w (w.drewN q):=⟨rfl,rfl,rfl,Nat.le_refl _,fun _ _ _=>rfl⟩
theorem zjT {w:World} {base size n:Nat} {e:TypeId} {v:Value} {xs:List Value} (h:w.ownsRow base e size v n xs) (os:Array Obj):(grow w os).ownsRow base e size v n xs:=zn (S:=fun _=>False) h (zfb (.refl _ _) os) (fun _ _=>id)
theorem swoB {β:Type} (rec_:β->List UInt8):SWO (ltOf fun x y=>cmpB (rec_ x) (rec_ y)):=by
 have h:∀x y,ltOf (fun x y=>cmpB (rec_ x) (rec_ y)) x y=Op.bytesLess (rec_ x) (rec_ y):=fun x y=>by
  unfold ltOf;rw[Bool.eq_iff_iff,decide_eq_true_iff,zbI]
 refine ⟨fun x=>?_,fun x y z h1 h2=>?_,fun x y z h1 h2=>?_⟩
 ·rw[h];exact Yn _
 ·rw[h] at *;exact XA h1 h2
 ·rw[h] at *;exact Zl (x:=rec_ z) (y:=rec_ y) (z:=rec_ x) h2 h1
abbrev Pc:=Value×List UInt8
def PcAt (w:World) (B:Nat) (p:Pc):Prop:=∃A n c,p.1=.slice A n c/\p.2.length=n/\n<=c/\c<=9223372036854775807/\Rd w B A p.2
theorem PcAt.keep {B:Nat} {p:Pc} (h:PcAt w B p) (hk:∀a:Addr,a.block<B->w'.cell? a=w.cell? a):PcAt w' B p:=by
 obtain ⟨A,n,c,h1,h2,h3,h4,h5⟩:=h;exact ⟨A,n,c,h1,h2,h3,h4,h5.keep hk⟩
theorem zb5 (es:List Pc) (base n c:Nat) (A:Option Addr) (hn:n<4611686018427387904) (hown:w.ownsRow base 24 1 (.slice A n c) n (es.map Prod.fst)) (he:∀p∈es,PcAt w base p) (hbase:base<=w.heap.size) :
 Calls Tryz.prog 111 #[.slice A n c,.func (.func 72) #[] #[]] w fun e w'=>e=.returned (.tuple #[]) /\
  ∃es':List Pc,es'.Perm es/\yu (es'.map Prod.snd)/\w'.ownsRow base 24 1 (.slice A n c) n (es'.map Prod.fst)/\Out (fun k=>(Value.slice A n c).ownBlock=some k) w w':=by
 have hl:es.length=n:=by have:=hown.1;rw[List.length_map,Nat.mul_one] at this;exact this
 by_cases h0:n=0
 ·subst h0;have hnil:es=[]:=List.length_eq_zero_iff.1 hl;subst hnil;have hS:=AnyF.slices_SortFunc_none (P:=Tryz.prog) (ρ:=Tryz.shSortF_ren) {Tryz.shSortF with} A c (.func (.func 72) #[] #[]) w
  change Calls Tryz.prog 111 _ _ _ at hS
  refine hS.mono ?_;rintro e w1 ⟨rfl,rfl⟩;exact ⟨rfl,[],List.Perm.refl _,List.Pairwise.nil,hown,.refl _ _⟩
 ·have hpos:0<es.length:=by omega
  obtain ⟨g,hA,hgb,-,-,-⟩:=vC (v:=undef) hown (i:=0) (by omega);subst hA;have hgl:=(hown.lt g rfl).2
  let enc:Fin es.length->Value:=fun i=>es[i].1
  let rc:Fin es.length->List UInt8:=fun i=>es[i].2
  haveI:Inhabited (Fin es.length):=⟨⟨0,hpos⟩⟩
  let d:Array (Fin es.length):=(List.finRange es.length).toArray
  have hd:d.size=n:=by simp[d,hl]
  have hdg:∀j (hj:j<es.length),d[j]! = ⟨j,hj⟩:=fun j hj=>by
   rw[getElem!_pos d j (by rw[hd];omega)];simp[d]
  have hH:Holds enc w g 0 d:=fun j hj=>by
   have hj':j<es.length:=by omega
   obtain ⟨g',hg',-,hc,hf,-⟩:=vC (v:=undef) hown (i:=j) (by omega);have hgg:g'=g:=by injection hg' with hg';injection hg' with hg';exact hg'.symm
   subst hgg;rw[Nat.zero_add,hdg j hj'];refine ⟨hc.trans ?_,hf⟩;rw[List.getElem?_map,List.getElem?_eq_getElem hj'];rfl
  have hSW:∀(m:Nat) (os:Array Obj) (dk:Array (Fin es.length)),dk.size=d.size->sortWorld enc w g 0 m dk os=grow ((w.drewN m).setCells g 0 (dk.toList.map enc)) os:=fun m os dk hs=>by
   have:=Lib.sorted_world enc w g 0 m d dk.toList os hH (by simpa using hs)
   simpa [sortWorld] using this
  have hOut:∀(m:Nat) (os:Array Obj) (dk:Array (Fin es.length)),dk.size=d.size->Out (fun k=>(Value.slice (some ⟨g,0,none⟩) n c).ownBlock=some k) w (sortWorld enc w g 0 m dk os):=fun m os dk hs=>by
   rw[hSW m os dk hs];exact zfb (Out.setCells g _ 0 (zcL (fun k=>(Value.slice (some ⟨g,0,none⟩) n c).ownBlock=some k) w m) (.inl rfl)) os
  have hcmp:CmpLays1 Tryz.prog 72 #[] enc (fun x y=>cmpB (rc x) (rc y)) g 0 d.size w:=fun m os dk hs x y=>by
   have ho:=hOut m os dk hs;have key:∀a:Addr,a.block<base->(sortWorld enc w g 0 m dk os).cell? a=w.cell? a:=fun a ha=>ho.cell (by omega) (fun e=>by have e:some g=some a.block:=e;injection e with e;omega)
   obtain ⟨A1,n1,c1,e1,l1,-,-,r1⟩:=(he _ (List.getElem_mem x.isLt)).keep key;obtain ⟨A2,n2,c2,e2,l2,-,-,r2⟩:=(he _ (List.getElem_mem y.isLt)).keep key;show Calls Tryz.prog 72 #[es[x].1,es[y].1] _ _
   rw[show es[x].1=.slice A1 n1 c1 from e1,show es[y].1=.slice A2 n2 c2 from e2];refine (Yo A1 A2 n1 c1 n2 c2 (rc x) (rc y) _ base base l1 r1 l2 r2).mono ?_;rintro e w1 ⟨rfl,rfl⟩;exact ⟨rfl,0,#[],by rw[grow_empty];rfl⟩
  have eg:∀args w,(callFunc 72 args).run Tryz.prog w=.ok (.enter 72 args) w:=enters_of Tryz.func72 (by kernel_rfl) rfl;have hone:OneCell enc:=fun x=>by
   obtain ⟨A1,n1,c1,e1,-⟩:=he _ (List.getElem_mem x.isLt);show (es[x].1).oneCell'=true
   rw[show es[x].1=.slice A1 n1 c1 from e1];rfl
  have hcon:=Any.slices_SortFunc Tryz.shSortF enc hone (fun x y=>cmpB (rc x) (rc y)) (swoB rc) 72 #[] g 0 c d w eg hcmp hH hgl (by omega)
  change Calls Tryz.prog 111 _ _ _ at hcon
  rw[hd] at hcon;refine hcon.mono ?_;rintro e w1 ⟨rfl,d',q,os,hp,hs,rfl⟩;have hds:d'.size=d.size:=hp.1;have hfin:(List.finRange es.length).map (fun i=>es[i])=es:=by
   refine List.ext_getElem (by simp) fun i h1 h2=>?_
   simp
  have hperm:d'.toList.Perm (List.finRange es.length):=by
   have h1:=hp.2.2;rw[show d'.extract 0 n=d' by rw[<-hd,<-hds];simp,show d.extract 0 n=d by rw[<-hd];simp] at h1;exact h1
  refine ⟨rfl,d'.toList.map fun i=>es[i],?_,?_,?_,hOut q os d' hds⟩
  ·have:=hperm.map (fun i:Fin es.length=>es[i]);rw[hfin] at this;exact this
  ·rw[List.map_map];refine List.pairwise_iff_getElem.2 fun i j hi hj hij=>?_
   simp only[List.length_map,Array.length_toList] at hi hj;have h1:=hs i j (Nat.zero_le _) hij (by omega);rw[getElem!_pos d' j hj,getElem!_pos d' i hi] at h1;simp only[List.getElem_map,Array.getElem_toList,Function.comp];show Op.bytesLess (rc d'[j]) (rc d'[i])=false
   cases hb:Op.bytesLess (rc d'[j]) (rc d'[i]) with
   |false=>rfl
   |true=>
    have:=zbI.2 hb;unfold ltOf at h1;simp[this] at h1
  ·rw[hSW q os d' hds];have h1:=ze7 (d'.toList.map enc) 0 (zn (S:=fun _=>False) hown (zcL _ w q) (fun _ _=>id)) (by simp;omega);rw[zhk (by simp;omega)] at h1;rw[List.map_map];exact zjT h1 os
end
end Go.Proofs.YtcdkopbjlakebaaGreatDoor
