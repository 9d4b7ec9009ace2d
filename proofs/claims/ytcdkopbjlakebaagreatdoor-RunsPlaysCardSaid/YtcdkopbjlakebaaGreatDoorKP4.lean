/- Texts put together, for a law: DkA. -/
import Derived.WalkKit
import Derived.Lib.Hide
import Derived.Laws.BitsAllLaws
import Derived.Deep.WholeRow
import Derived.Test.YtcdkopbjlakebaaGreatDoorKP2
set_option maxRecDepth 100000
set_option maxHeartbeats 8000000
namespace Go.Proofs.YtcdkopbjlakebaaGreatDoor
section
namespace Ds
open Me Rw
structure WD where
 i:Nat
 b:List UInt8
structure Dsk where
 stored:List (List UInt8)
 pend:List WD
 on:Bool
 fuse:Int
def qI:List UInt8:=List.replicate 128 0
theorem vZ:qI.length=128:=by simp[qI]
def qM:List WD->Nat->List UInt8->List UInt8
 |[],_,b=>b
 |x::l,i,b=>qM l i (if x.i=i then x.b else b)
theorem Yg:∀(l m:List WD) (i:Nat) (b:List UInt8),qM (l++m) i b=qM m i (qM l i b)
 |[],_,_,_=>rfl
 |x::l,m,i,b=>by simp only[List.cons_append,qM];exact Yg l m i _
theorem zgl (l:List WD) (x:WD) (i:Nat) (b:List UInt8):qM (l++[x]) i b=if x.i=i then x.b else qM l i b:=by
 rw[Yg];rfl
theorem Vy:∀{l:List WD} {i:Nat} {b:List UInt8},(∀x∈l,x.b.length=128)->b.length=128->(qM l i b).length=128
 |[],_,_,_,h=>h
 |x::l,i,b,hl,h=>by
  simp only[qM];refine Vy (fun y hy=>hl y (by simp[hy])) ?_
  split
  ·exact hl x (by simp)
  ·exact h
def surv (keep torn:Nat) (k:Nat):Nat:=if keep.testBit (k%64) then 128 else if torn.testBit (k%64) then 64 else 0
def settle (keep torn:Nat):Nat->List WD->List (List UInt8)->List (List UInt8)
 |_,[],st=>st
 |k,x::l,st=>settle keep torn (k+1) l (st.set x.i (x.b.take (surv keep torn k)++(st.getD x.i []).drop (surv keep torn k)))
def ones:Nat:=18446744073709551615
theorem zjU (k:Nat):ones.testBit (k%64)=true:=by
 have h:k%64<64:=Nat.mod_lt _ (by omega)
 generalize k%64=j at h
 have e:ones=2^64-1:=rfl;rw[e,Nat.testBit_two_pow_sub_one]
 simpa using h
def Same (st:List (List UInt8)) (made:List WD):Prop:=(∀x∈made,x.b.length=128)/\∀i,i<st.length->st[i]?=some (qM made i qI)
theorem Same.len {st:List (List UInt8)} {made:List WD} (h:Same st made):∀b∈st,b.length=128:=by
 intro b hb;obtain ⟨i,hi,rfl⟩:=List.mem_iff_getElem.1 hb;have:=h.2 i hi;rw[List.getElem?_eq_getElem hi] at this;injection this with this;rw[this];exact Vy h.1 vZ
theorem xU (keep torn:Nat):∀(l:List WD) (k:Nat) (st:List (List UInt8)),(settle keep torn k l st).length=st.length
 |[],_,_=>rfl
 |x::l,k,st=>by rw[settle,xU keep torn l];simp
def ZI (S:Dsk) (i:Nat):List UInt8:=qM S.pend i (S.stored.getD i [])
def Fine (S:Dsk):Prop:=(∀b∈S.stored,b.length=128)/\(∀x∈S.pend,x.b.length=128/\x.i<S.stored.length)/\1<=S.stored.length/\S.stored.length<=65536/\-1<=S.fuse/\S.fuse<=9223372036854775807
end Ds
section
open Go.RowKit Me Rw Ds
def zu (x:WD):List Value:=.int .i64 (x.i:Int)::cellsOf x.b
structure Laid (w:World) (B D g:Nat) (Pv:Value) (S:Dsk) (own:Nat->Prop):Prop where
 blk:Blk w D [.slice (some ⟨g,0,none⟩) S.stored.length S.stored.length,Pv,.bool S.on,.int .i64 S.fuse]
 rows:Blk w g (rows cellsOf S.stored)
 pend:w.ownsRow B 238 129 Pv S.pend.length (Rw.rows zu S.pend)
 dg:D≠g
 pd:Pv.ownBlock≠some D
 pg:Pv.ownBlock≠some g
 ld:B<=D
 lg:B<=g
 own:∀k,own k↔(k=D\/k=g\/Pv.ownBlock=some k)
 good:Fine S
def zQ (w:World) (B D:Nat) (S:Dsk) (own:Nat->Prop):Prop:=∃g Pv,Laid w B D g Pv S own
section
variable {w w':World} {B D g:Nat} {Pv:Value} {S:Dsk} {own T:Nat->Prop}
theorem Laid.out (h:Laid w B D g Pv S own) (ho:Out T w w') (hn:∀k,own k->¬T k):Laid w' B D g Pv S own:=
 {h with
  blk:=h.blk.out ho (hn _ ((h.own _).2 (.inl rfl)))
  rows:=h.rows.out ho (hn _ ((h.own _).2 (.inr (.inl rfl))))
  pend:=zn h.pend ho fun _ hk=>hn _ ((h.own _).2 (.inr (.inr hk)))}
theorem Laid.lt (h:Laid w B D g Pv S own) {k:Nat} (hk:own k):B<=k/\k<w.heap.size:=by
 rcases (h.own k).1 hk with rfl|rfl|hk
 ·exact ⟨h.ld,h.blk.lt⟩
 ·exact ⟨h.lg,h.rows.lt⟩
 ·exact h.pend.lt k hk
theorem zQ.out (h:zQ w B D S own) (ho:Out T w w') (hn:∀k,own k->¬T k):zQ w' B D S own:=by
 obtain ⟨g,Pv,h⟩:=h;exact ⟨g,Pv,h.out ho hn⟩
theorem zQ.past (h:zQ w B D S own) (hb:Below w.heap.size w w'):zQ w' B D S own:=h.out (T:=fun _=>False) (.of_below hb) fun _ _ h=>h
theorem zQ.lt (h:zQ w B D S own) {k:Nat} (hk:own k):B<=k/\k<w.heap.size:=by
 obtain ⟨g,Pv,h⟩:=h;exact h.lt hk
theorem zQ.good (h:zQ w B D S own):Fine S:=by
 obtain ⟨g,Pv,h⟩:=h;exact h.good
end
def XD (w:World) (B D:Nat) (S:Dsk) (own:Nat->Prop) (w':World):Prop:=
 ∃own',zQ w' B D S own'/\Out own w w'/\∀k,own' k->own k\/w.heap.size<=k
theorem XD.same {w w':World} {B D:Nat} {S:Dsk} {own:Nat->Prop} (h:zQ w' B D S own) (ho:Out own w w'):XD w B D S own w':=⟨own,h,ho,fun _ h=>.inl h⟩
section
variable {w:World} {B D:Nat} {S:Dsk} {own:Nat->Prop}
theorem zfc (h:zQ w B D S own):Calls Tryz.prog 100 #[.pointer (some ⟨D,0,none⟩)] w fun e w'=>e=.returned (.bool S.on)/\w=w':=by
 obtain ⟨g,Pv,h⟩:=h;obtain ⟨c0,c1,c2,c3⟩:=h.blk.four;clear h
 go_enter Tryz.func100,Tryz.ntmps100
 go_wp2
 go_ret
 exact ⟨rfl,rfl⟩
theorem Xy (h:zQ w B D S own):Calls Tryz.prog 84 #[.pointer (some ⟨D,0,none⟩)] w fun e w'=>e=.returned (.int .i64 (S.stored.length:Int))/\w=w':=by
 obtain ⟨g,Pv,h⟩:=h;obtain ⟨c0,c1,c2,c3⟩:=h.blk.four;obtain ⟨-,-,-,hn,-,-⟩:=h.good;clear h
 go_enter Tryz.func84,Tryz.ntmps84
 go_wp2
 go_ret
 exact ⟨rfl,rfl⟩
def hasB (n:Nat) (i:Int):Bool:=decide (0<=i)&&decide (i<n)
theorem zbx (h:zQ w B D S own) (i:Int):Calls Tryz.prog 151 #[.pointer (some ⟨D,0,none⟩),.int .i64 i] w fun e w'=>e=.returned (.bool (hasB S.stored.length i))/\w=w':=by
 have HC:=gI (Xy h);obtain ⟨n,hn⟩:∃n,n=S.stored.length:=⟨_,rfl⟩
 rw[<-hn] at HC ⊢;clear h hn;unfold hasB
 by_cases h0:0<=i
 ·have d0:decide (0<=i)=true:=by simp;omega
  rw[d0,Bool.true_and]
  by_cases h1:i<n
  ·have d1:decide (i<(n:Int))=true:=by simp;omega
   go_enter Tryz.func151,Tryz.ntmps151
   go_wp2_with (go_at_call 84;refine HC.out.mono ?_;rintro e w' ⟨rfl,rfl⟩)
   go_ret
   exact ⟨by rw[d1];rfl,rfl⟩
  ·have d1:decide (i<(n:Int))=false:=by simp;omega
   go_enter Tryz.func151,Tryz.ntmps151
   go_wp2_with (go_at_call 84;refine HC.out.mono ?_;rintro e w' ⟨rfl,rfl⟩)
   go_ret
   exact ⟨by rw[d1];rfl,rfl⟩
 ·have d0:decide (0<=i)=false:=by simp;omega
  rw[d0,Bool.false_and]
  go_enter Tryz.func151,Tryz.ntmps151
  go_wp2
  go_ret
  exact ⟨rfl,rfl⟩
end
end
section
open Go.RowKit Me Rw Ds
section
variable {w w':World} {B D g:Nat} {Pv:Value} {S:Dsk} {own T:Nat->Prop}
theorem Laid.setOther (h:Laid w B D g Pv S own) (i:Nat) (v:Value):Blk (w.setCell ⟨D,i,none⟩ v) g (Rw.rows cellsOf S.stored)/\(w.setCell ⟨D,i,none⟩ v).ownsRow B 238 129 Pv S.pend.length (Rw.rows zu S.pend):=
 ⟨h.rows.other (p:=⟨D,i,none⟩) h.dg v,zn (S:=fun k=>k=D) h.pend ((Out.refl (fun k=>k=D) _).setCell (p:=⟨D,i,none⟩) (.inl rfl) v) fun k hk e=>h.pd (by rw[hk,e])⟩
theorem Laid.setOn (h:Laid w B D g Pv S own) (b:Bool):Laid (w.setCell ⟨D,2,none⟩ (.bool b)) B D g Pv {S with on:=b} own:=
 ⟨h.blk.set 2 _,(h.setOther 2 _).1,(h.setOther 2 _).2,h.dg,h.pd,h.pg,h.ld,h.lg,h.own,h.good⟩
theorem Laid.setFuse (h:Laid w B D g Pv S own) {f:Int} (h1:-1<=f) (h2:f<=9223372036854775807):Laid (w.setCell ⟨D,3,none⟩ (.int .i64 f)) B D g Pv {S with fuse:=f} own:=
 ⟨h.blk.set 3 _,(h.setOther 3 _).1,(h.setOther 3 _).2,h.dg,h.pd,h.pg,h.ld,h.lg,h.own,⟨h.good.1,h.good.2.1,h.good.2.2.1,h.good.2.2.2.1,h1,h2⟩⟩
theorem zfa (h:Laid w B D g Pv S own) (i:Nat) (v:Value):Out own w (w.setCell ⟨D,i,none⟩ v):=
 (Out.refl _ _).setCell (p:=⟨D,i,none⟩) (.inl ((h.own _).2 (.inl rfl))) v
def power (S:Dsk):Dsk:=if S.fuse=0 then {S with on:=false} else if 0<S.fuse then {S with fuse:=S.fuse-1} else S
theorem zfZ {S:Dsk} (h:S.fuse=0):power S={S with on:=false}:=by unfold power;rw[if_pos h]
theorem zhA {S:Dsk} (h:0<S.fuse):power S={S with fuse:=S.fuse-1}:=by unfold power;rw[if_neg (by omega),if_pos h]
theorem Xh {S:Dsk} (h:S.fuse<0):power S=S:=by unfold power;rw[if_neg (by omega),if_neg (by omega)]
theorem Vf (h:zQ w B D S own):Calls Tryz.prog 143 #[.pointer (some ⟨D,0,none⟩)] w fun e w'=>e=.returned (.bool (power S).on)/\XD w B D (power S) own w':=by
 obtain ⟨g,Pv,h⟩:=h;obtain ⟨c0,c1,c2,c3⟩:=h.blk.four;obtain ⟨f0,f1,f2,f3⟩:=h.blk.four_free;have hf:=h.good.2.2.2.2;have HL:=gI h;obtain ⟨R,hR⟩:∃R,R=power S:=⟨_,rfl⟩
 rw[<-hR];obtain ⟨f,hff⟩:∃f,f=S.fuse:=⟨_,rfl⟩
 obtain ⟨o,ho⟩:∃o,o=S.on:=⟨_,rfl⟩
 rw[<-hff] at hf c3;rw[<-ho] at c2;have HF:=gI hff;have HO:=gI ho;have HE:=gI hR;clear h hR hff ho
 by_cases h0:f=0
 ·subst h0
  go_enter Tryz.func143,Tryz.ntmps143
  go_wp2
  go_ret
  have e:=HE.out.trans (zfZ HF.out.symm);subst e;exact ⟨rfl,.same ⟨g,Pv,HL.out.setOn false⟩ (zfa HL.out 2 _)⟩
 ·by_cases h1:0<f
  ·have d1:(f==0)=false:=by rw[beq_eq_false_iff_ne];exact h0
   go_enter Tryz.func143,Tryz.ntmps143
   go_wp2
   go_ret
   have e:=HE.out.trans (zhA (by rw[<-HF.out];exact h1));subst e;have e2:=HF.out;have e3:=HO.out;subst e2 e3;exact ⟨rfl,.same ⟨g,Pv,HL.out.setFuse (by omega) (by omega)⟩ (zfa HL.out 3 _)⟩
  ·have d1:(f==0)=false:=by rw[beq_eq_false_iff_ne];exact h0
   go_enter Tryz.func143,Tryz.ntmps143
   go_wp2
   go_ret
   have e:=HE.out.trans (Xh (by rw[<-HF.out];omega));have e3:=HO.out;subst e e3;exact ⟨rfl,.same ⟨g,Pv,HL.out⟩ (Out.refl _ _)⟩
end
end
section
open Go.RowKit Me Rw Ds
theorem ziS (K j:Nat):(K &&& 2^j=0)↔K.testBit j=false:=by
 constructor
 ·intro h;have:=congrArg (fun n=>n.testBit j) h
  simpa [Nat.testBit_and,Nat.testBit_two_pow] using this
 ·intro h
  apply Nat.eq_of_testBit_eq
  intro i;rw[Nat.testBit_and,Nat.testBit_two_pow]
  by_cases e:j=i
  ·subst e;simp[h]
  ·simp[e]
theorem ze2 {j:Nat} (hj:j<64):2^j<18446744073709551616:=by
 calc 2^j<=2^63:=Nat.pow_le_pow_right (by omega) (by omega)
  _<18446744073709551616:=by decide
theorem VR (B:Nat) (h:B<18446744073709551616):IntKind.u64.wrap (B:Int)=(B:Int):=by
 simp[IntKind.wrap,IntKind.bits,IntKind.signed];omega
theorem zja {j:Nat} (hj:j<64):IntKind.u64.wrap (2^j)=((2^j:Nat):Int):=by
 have h:=ze2 hj;have e:((2^j:Nat):Int)=(2:Int)^j:=by simp
 rw[<-e]
 generalize 2^j=B at h
 exact VR B h
theorem zjk (k K T:Nat) (hk:k<4611686018427387904) (hK:K<18446744073709551616) (hT:T<18446744073709551616) (w:World) :
 Calls Tryz.prog 182 #[.int .i64 (k:Int),.int .u64 (K:Int),.int .u64 (T:Int)] w fun e w'=>e=.returned (.int .i64 (surv K T k:Int))/\w=w':=by
 obtain ⟨j,hj⟩:∃j,j=k%64:=⟨_,rfl⟩
 have hj64:j<64:=by rw[hj];exact Nat.mod_lt _ (by omega)
 have t1:(k:Int).tmod 64=(j:Int):=by rw[Int.tmod_eq_emod_of_nonneg (by omega)];omega
 have hB:=ze2 hj64;obtain ⟨B,hBe⟩:∃B,B=2^j:=⟨_,rfl⟩
 have t2:IntKind.u64.wrap (2^j)=(B:Int):=by rw[hBe];exact zja hj64
 rw[<-hBe] at hB;obtain ⟨x,hx⟩:∃x,x=K &&& B:=⟨_,rfl⟩
 obtain ⟨y,hy⟩:∃y,y=T &&& B:=⟨_,rfl⟩
 have t3:bits .and .u64 (K:Int) (B:Int)=(x:Int):=by rw[hx];exact u64_and_nat K B hK hB
 have t4:bits .and .u64 (T:Int) (B:Int)=(y:Int):=by rw[hy];exact u64_and_nat T B hT hB
 have hX:x=0↔K.testBit (k%64)=false:=by rw[hx,hBe,<-hj];exact ziS K j
 have hY:y=0↔T.testBit (k%64)=false:=by rw[hy,hBe,<-hj];exact ziS T j
 have HS:=gI (show surv K T k=if x=0 then (if y=0 then 0 else 64) else 128 by
  unfold surv
  by_cases h1:x=0
  ·rw[if_pos h1,hX.1 h1]
   by_cases h2:y=0
   ·rw[if_pos h2,hY.1 h2];rfl
   ·have h3:T.testBit (k%64)=true:=by
     cases e:T.testBit (k%64) with
     |true=>rfl
     |false=>exact absurd (hY.2 e) h2
    rw[if_neg h2,h3];rfl
  ·have h3:K.testBit (k%64)=true:=by
    cases e:K.testBit (k%64) with
    |true=>rfl
    |false=>exact absurd (hX.2 e) h1
   rw[if_neg h1,h3];rfl)
 obtain ⟨r,hr⟩:∃r,r=surv K T k:=⟨_,rfl⟩
 rw[<-hr] at HS ⊢;clear hj hBe hx hy hX hY hr
 by_cases h0:x=0
 ·subst h0
  by_cases h1:y=0
  ·subst h1;have e:=gI (HS.out.trans (by rw[if_pos rfl,if_pos rfl]));clear HS
   go_enter Tryz.func182,Tryz.ntmps182
   go_wp2
   go_ret
   exact ⟨by rw[e.out];rfl,rfl⟩
  ·have d1:((y:Int) != 0)=true:=by rw[bne_iff_ne];omega
   have e:=gI (HS.out.trans (by rw[if_pos rfl,if_neg h1]));clear HS
   go_enter Tryz.func182,Tryz.ntmps182
   go_wp2
   go_ret
   exact ⟨by rw[e.out];rfl,rfl⟩
 ·have d1:((x:Int) != 0)=true:=by rw[bne_iff_ne];omega
  have e:=gI (HS.out.trans (by rw[if_neg h0]));clear HS
  go_enter Tryz.func182,Tryz.ntmps182
  go_wp2
  go_ret
  exact ⟨by rw[e.out];rfl,rfl⟩
end
section
open Go.RowKit Me Rw Ds
def qA:Array Value:=#[.int .i64 0]++Array.replicate 128 (.int .u8 0)
theorem qZ:(Tryz.prog.info? 238).map (fun i=>(i.zero,i.size))=some (some (.agg qA),129):=by kernel_rfl
theorem Qd:(Tryz.prog.info? 224).map (fun i=>(i.zero,i.size))=some (some (.agg (Array.replicate 128 (.int .u8 0))),128):=by kernel_rfl
theorem zdC:(Tryz.prog.info? 238).map (·.size)=some 129:=(zero_of_info qZ).2
theorem qx:(Tryz.prog.info? 224).map (·.size)=some 128:=(zero_of_info Qd).2
theorem byte_size:(Tryz.prog.info? 5).map (·.size)=some 1:=by kernel_rfl
theorem zH {x:WD} (h:x.b.length=128):(zu x).length=129:=by simp[zu,za,h]
theorem YM (x:WD):∀v∈zu x,v.oneCell'=true:=by
 intro v hv;rcases List.mem_cons.1 hv with rfl|hv
 ·rfl
 ·exact xL _ v hv
theorem xN (cs vs:List Value) (h:cs.length=vs.length):splice cs 0 vs=vs:=by
 unfold splice;rw[List.take_zero,List.nil_append,Nat.zero_add,List.drop_of_length_le (by omega),List.append_nil]
section
variable {w w':World} {B D g:Nat} {Pv:Value} {S:Dsk} {own T:Nat->Prop}
theorem Laid.pendAt (h:Laid w B D g Pv S own) {k:Nat} {x:WD} (hx:S.pend[k]?=some x) :
 ∃p c,Pv=.slice (some ⟨p,0,none⟩) S.pend.length c/\own p/\k<S.pend.length/\x.b.length=128/\x.i<S.stored.length/\w.rangeAt p (k*129) (zu x):=by
 have hk:=(List.getElem?_eq_some_iff.1 hx).1;obtain ⟨p,c,rfl,-,-⟩:=h.pend.form (by omega);obtain ⟨h1,h2⟩:=h.good.2.1 x (List.mem_of_getElem? hx);refine ⟨p,c,rfl,(h.own _).2 (.inr (.inr rfl)),hk,h1,h2,fun j v hv=>?_⟩;have hall:∀y∈S.pend,(zu y).length=129:=fun y hy=>zH (h.good.2.1 y hy).1
 have hj:j<129:=by have:=(List.getElem?_eq_some_iff.1 hv).1;rwa[zH h1] at this
 have:=zjv hall hx hj;rw[hv] at this;rw[h.pend.cellAt (k*129+j) (by have:=(List.getElem?_eq_some_iff.1 this).1;rw[ZC hall] at this;exact this)];exact this
theorem Laid.restored (h:Laid w B D g Pv S own) {k o:Nat} {b vs:List UInt8} (hk:k<S.stored.length) (hb:b.length=128) (ho:b=vs++(S.stored.getD k []).drop vs.length) (hoo:o=k*128) :
 Laid (w.setCells g o (cellsOf vs)) B D g Pv {S with stored:=S.stored.set k b} own/\Out own w (w.setCells g o (cellsOf vs)):=by
 subst hoo;have hown:own g:=(h.own _).2 (.inr (.inl rfl));have hout:Out (fun j=>j=g) w (w.setCells g (k*128) (cellsOf vs)):=Out.setCells g _ _ (Out.refl _ _) (.inl rfl);have hall:∀y∈S.stored,(cellsOf y).length=128:=fun y hy=>by rw[za];exact h.good.1 y hy
 have hv:vs.length<=128:=by have:=congrArg List.length ho;rw[hb,List.length_append] at this;omega
 have hlen:(Rw.rows cellsOf S.stored).length=S.stored.length*128:=ZC hall;refine ⟨⟨?_,?_,zn h.pend hout fun j hj e=>h.pg (by rw[hj,e]),h.dg,h.pd,h.pg,h.ld,h.lg,h.own,⟨?_,?_,?_⟩⟩,hout.more fun j _ e=>by rw[e];exact hown⟩
 ·have:=h.blk.out hout (fun e=>h.dg e)
  simpa using this
 ·have h1:=h.rows.sets (o:=k*128) (vs:=cellsOf vs) (by rw[hlen,za];omega);have e:splice (Rw.rows cellsOf S.stored) (k*128) (cellsOf vs)=Rw.rows cellsOf (S.stored.set k b):=by
   rw[zeO hall (by rw[za];exact hb) hk,ho,qz];have hx:S.stored[k]?=some (S.stored.getD k []):=by rw[List.getD_eq_getElem?_getD,List.getElem?_eq_getElem hk];rfl
   have hp:=Q7 hall hx
   generalize S.stored.getD k []=y at *
   have hy:y.length=128:=by
    have:=hall y (List.mem_of_getElem? hx)
    rwa[za] at this
   have e1:cellsOf (y.drop vs.length)=((Rw.rows cellsOf S.stored).drop (k*128+vs.length)).take (128-vs.length):=by
    rw[<-List.drop_drop,<-List.drop_take,hp];simp[cellsOf]
   unfold splice;rw[List.append_assoc,List.length_append,za,za,e1]
   congr 2
   have e2:(Rw.rows cellsOf S.stored).drop (k*128+vs.length)=((Rw.rows cellsOf S.stored).drop (k*128+vs.length)).take (128-vs.length)++((Rw.rows cellsOf S.stored).drop (k*128+vs.length)).drop (128-vs.length):=(List.take_append_drop _ _).symm;rw[e2]
   congr 1
   ·rw[List.take_append_drop]
   ·rw[List.drop_drop]
    congr 1
    rw[List.length_drop];omega
  rw[e] at h1;exact h1
 ·intro y hy;rcases List.mem_or_eq_of_mem_set hy with hy|rfl
  ·exact h.good.1 y hy
  ·exact hb
 ·intro y hy;rw[List.length_set];exact h.good.2.1 y hy
 ·rw[List.length_set];exact h.good.2.2
end
end
section
open Go.RowKit Me Rw Ds
def setG (D g H i k s:Nat) (n:Nat) (K T:Nat):Gw.Fact:=fun t v _=>
 match t with
 |0|18|19|20=>v=.pointer (some ⟨D,0,none⟩)
 |7|22=>v=.pointer (some ⟨H,0,none⟩)
 |6|27=>v=.int .i64 (k:Int)
 |1|28=>v=.int .u64 (K:Int)
 |2|29=>v=.int .u64 (T:Int)
 |21=>v=.slice (some ⟨g,0,none⟩) n n
 |23=>v=.int .i64 (i:Int)
 |24=>v=.pointer (some ⟨g,i*128,none⟩)
 |25=>v=.slice (some ⟨g,i*128,none⟩) 128 128
 |26=>v=.pointer (some ⟨H,1,none⟩)
 |30=>v=.int .i64 (s:Int)
 |31=>v=.slice (some ⟨H,1,none⟩) s 128
 |_=>True
theorem zhc (K T k:Nat):surv K T k<=128:=by
 unfold surv
 split
 ·omega
 ·split<;>omega
theorem zfP {w:World} {B D:Nat} {S:Dsk} {own:Nat->Prop} (h:zQ w B D S own) (K T:Nat) (hK:K<18446744073709551616) (hT:T<18446744073709551616) (hp:S.pend.length<4611686018427387904) :
 Calls Tryz.prog 144 #[.pointer (some ⟨D,0,none⟩),.int .u64 (K:Int),.int .u64 (T:Int)] w fun e w'=>e=.returned (.tuple #[])/\XD w B D {S with stored:=Ds.settle K T 0 S.pend S.stored,pend:=[]} own w':=by
 obtain ⟨g,Pv,h⟩:=h;obtain ⟨A,c,rfl,hc⟩:=zC h.pend;obtain ⟨c0,c1,c2,c3⟩:=h.blk.four;obtain ⟨n,hn⟩:∃n,n=S.pend.length:=⟨_,rfl⟩
 rw[<-hn] at hp hc c1;have HL:=gI h;have HN:=gI hn;have HO:=gI (Out.refl own w);have hz:∀w,(zeroValue 238).run Tryz.prog w=.ok (.agg qA) w:=(zero_of_info qZ).1;obtain ⟨R,hR⟩:∃R,R=Ds.settle K T 0 S.pend S.stored:=⟨_,rfl⟩
 rw[<-hR];have HR:=gI hR;clear h hn hR
 go_enter Tryz.func144,Tryz.ntmps144
 go_wp2
 go_loopw [13] (fun i wr=>∃k:Nat,k<=n/\i=.int .i64 k/\∃st,Hid (Ds.settle K T k (S.pend.drop k) st=R)/\Hid (Laid wr B D g (.slice A S.pend.length c) {S with stored:=st} own)/\Hid (Out own w wr)) (fun i _=>n-(intOf i).toNat)
 case atStart=>exact ⟨0,Nat.zero_le _,rfl,S.stored,HR.out.symm,HL,HO⟩
 case round=>
  obtain ⟨k,hk,rfl,st,HS,HLk,HOk⟩:=hrel
  by_cases hlt:k<n
  ·have hlt':k<S.pend.length:=by rw[<-HN.out];exact hlt
   obtain ⟨x,hx⟩:∃x,S.pend[k]?=some x:=⟨_,List.getElem?_eq_getElem hlt'⟩
   obtain ⟨q,c',hq,hown,-,hxb,hxi,hrange⟩:=HLk.out.pendAt (k:=k) (x:=x) hx;injection hq with hA hq1 hq2;subst hA hq2;have hw129:(zu x).length=129:=zH hxb;have hall:(zu x).toArray.all (·.oneCell')=true:=all_oneCell_toArray (YM x);have HR129:=gI hrange;have HB0:=gI (Blk.new wr qA.toList 238);have HTh:=gI ((Blk.new wr qA.toList 238).there (o:=0) (n:=(zu x).toArray.size) (by simp[hw129,qA]));have HSz:=gI (show (Tryz.prog.info? 238).map (·.size)=some (zu x).length by rw[hw129];exact zdC);have HAl:=gI hall;have HX:=gI hx;have HXb:=gI hxb;have HXi:=gI hxi;have q0:(k:Int)<(n:Int):=by omega
   clear hx hxb hxi hrange hall hw129 hlt' hown
   go_wp2_with (first
    |(refine wpList_load_mid rfl 238 _ rfl q (k*129) rfl (zu x) _ (HR129.out) Tryz.underlying238 rfl HSz.out ?_)
    |(refine wpList_store_mid rfl 238 _ _ rfl wr.heap.size 0 (zu x).toArray rfl rfl HTh.out (by rw[HSz.out];simp) HAl.out ?_))
   have hB4:Blk ((wr.alloc (.cells qA 238)).setCells wr.heap.size 0 (zu x)) wr.heap.size (zu x):=by
    have:=HB0.out.sets (o:=0) (vs:=zu x) (by simp[qA,zH HXb.out])
    rwa[xN _ _ (by simp[qA,zH HXb.out])] at this
   have hO4:Out (fun _=>False) wr ((wr.alloc (.cells qA 238)).setCells wr.heap.size 0 (zu x)):=
    Out.setCells _ _ _ ((Out.refl _ _).alloc _) (.inr (Nat.le_refl _))
   have hL4:=HLk.out.out hO4 (fun _ _ h=>h);have hO4w:Out own w ((wr.alloc (.cells qA 238)).setCells wr.heap.size 0 (zu x)):=HOk.out.trans' hO4 (fun _ h=>h.elim);obtain ⟨H,hH⟩:∃H,wr.heap.size=H:=⟨_,rfl⟩
   rw[hH] at hB4 hL4 hO4w ⊢;clear hO4 HTh HB0 HR129
   generalize (wr.alloc (.cells qA 238)).setCells H 0 (zu x)=w4 at *
   obtain ⟨s,hs⟩:∃s,s=surv K T k:=⟨_,rfl⟩
   have hs128:s<=128:=by rw[hs];exact zhc K T k
   have hvs:(cellsOf (x.b.take s)).length=s:=by rw[za,List.length_take,HXb.out];omega
   have HS':=gI hs;have hL5:=(hL4.out (xu (fun _=>False) w4) (fun _ _ h=>h)).restored (k:=x.i) (o:=x.i*128) (b:=x.b.take s++(st.getD x.i []).drop s) (vs:=x.b.take s) HXi.out (by
    have:(st.getD x.i []).length=128:=by
     rw[List.getD_eq_getElem?_getD,List.getElem?_eq_getElem HXi.out];exact hL4.good.1 _ (List.getElem_mem _)
    rw[List.length_append,List.length_take,List.length_drop,HXb.out,this];omega) (by
    have:(x.b.take s).length=s:=by rw[List.length_take,HXb.out];omega
    rw[this]) rfl
   have HSURV:=gI (zjk k K T (by omega) hK hT w4.drew);rw[<-hs] at HSURV;have hsn:(s:Int)<=128:=by omega
   have hin:(x.i:Int)<(st.length:Int):=by have:=HXi.out;omega
   obtain ⟨b0,-,-,-⟩:=hL4.blk.four;have e0:w4.drew.cell? ⟨D,0,none⟩=some (.slice (some ⟨g,0,none⟩) st.length st.length):=b0;have e1:w4.drew.cell? ⟨H,0,none⟩=some (.int .i64 (x.i:Int)):=hB4.cell (i:=0) rfl;have hcopy:(Builtin.copy_ #[24,24] 3 #[.slice (some ⟨g,x.i*128,none⟩) 128 128,.slice (some ⟨H,1,none⟩) s 128]).run Tryz.prog w4.drew=.ok (goInt s) (w4.drew.setCells g (x.i*128) (cellsOf (x.b.take s))):=by
    have h1:=run_copy_cells (P:=Tryz.prog) w4.drew 24 24 3 5 g (x.i*128) 128 128 ⟨H,1,none⟩ s 128 (cellsOf (x.b.take s)) Tryz.underlying24 byte_size (by rw[hvs];exact (Nat.min_eq_left hs128).symm)
     (fun j v hv=>by
       rw[Addr.add_mid];refine hB4.drew.cell ?_;rw[Nat.add_comm 1 j];show (cellsOf x.b)[j]?=some v
       have hj:=(List.getElem?_eq_some_iff.1 hv).1;rw[hvs] at hj;simp only[cellsOf,List.getElem?_map,List.getElem?_take,if_pos hj] at hv ⊢;exact hv)
     (fun j hj=>(hL4.rows.drew.there (o:=x.i*128) (n:=s) (by
       rw[ZC (s:=128) fun y hy=>by rw[za];exact hL4.good.1 y hy];show x.i*128+s<=st.length*128
       have:=HXi.out
       omega) j (by omega)).1)
     (fun j hj=>hL4.rows.drew.frozen _) (xL _)
    rw[hvs] at h1;exact h1
   have HCP:=gI hcopy;have HL5:=gI hL5;have HOw:=gI hO4w;clear hs hvs hL5 hL4 hB4 hO4w hcopy b0 hs128;refine Gw.zN (fun _ _=>True) (fun _=>trivial) (fun _ _ _ _ _=>trivial) (fun p W=>if p=0 then W=w4.drew else W=w4.drew.setCells g (x.i*128) (cellsOf (x.b.take s))) (setG D g H x.i k s st.length K T) [14] [18,19,20,21,22,23,24,25,26,27,28,29,30,31,32] [([0],none,[0],false),([18],none,[0],false),([19],none,[0],false),([20],none,[0],false),([7],none,[0],false),([22],none,[0],false),([21,23],none,[0],false),([24],none,[0],false),([7],none,[0],false),([6],none,[0],false),([1],none,[0],false),([2],none,[0],false),([27,28,29],none,[0],false),([26,30],none,[0],false),([25,31],none,[0],true)] 37 1 (by kernel_rfl) (by kernel_rfl) rfl trivial (by simp) ?h0 ?hreq ?hend
   case h0=>
    intro t W hnd _;unfold setG
    split<;>first|rfl|trivial|exact absurd (by simp) hnd
   case hreq=>
    refine ⟨⟨?_,trivial⟩,⟨?_,trivial⟩,⟨?_,trivial⟩,⟨?_,trivial⟩,⟨?_,trivial⟩,⟨?_,trivial⟩,⟨?_,trivial⟩,⟨?_,trivial⟩,⟨?_,trivial⟩,⟨?_,trivial⟩,⟨?_,trivial⟩,⟨?_,trivial⟩,⟨?_,trivial⟩,⟨?_,trivial⟩,⟨?_,trivial⟩,trivial⟩
    all_goals
     intro ac W _ hI hk;rw[if_pos rfl] at hI;subst hI;simp only[Gw.Knows,setG] at hk
     try (simp[go_sem,Gw.yo,Gw.OkP,Gw.xH,Gw.zW,setG,hk,e0,e1,hin,hsn];done)
    ·simp[go_sem,Gw.yo,Gw.OkP,Gw.xH,Gw.zW,setG,hk];refine HSURV.out.mono ?_;rintro e w' ⟨rfl,rfl⟩;exact ⟨rfl,rfl⟩
    ·simp[go_sem,Gw.yo,Gw.OkP,Gw.xH,Gw.zW,setG,hk,HCP.out]
   case hend=>
    intro x' w' _ hI hx;rw[if_neg (by simp)] at hI;subst hI;clear hx;simp only[Gw.zm,Act.put,List.setIfInBounds_toArray,List.set_cons_zero,List.set_cons_succ]
    go_wp2
    go_roundw
    case rel=>
     refine ⟨k+1,by omega,by go_num,st.set x.i (x.b.take s++(st.getD x.i []).drop s),?_,gI HL5.out.1,gI (HOw.out.trans ((xu _ _).trans HL5.out.2))⟩;refine gI ?_;obtain ⟨hkl,hxx⟩:=List.getElem?_eq_some_iff.1 HX.out;rw[<-HS.out,HS'.out,List.drop_eq_getElem_cons hkl,hxx];rfl
    case measure=>simp[intOf];omega
  ·have hkn:k=n:=by omega
   have HE:=gI (show st=R by rw[<-HS.out,hkn,HN.out,List.drop_length];rfl);obtain ⟨c0',c1',c2',c3'⟩:=HLk.out.blk.four;obtain ⟨f0',f1',f2',f3'⟩:=HLk.out.blk.four_free
   go_wp2
   go_end0
   have hl:=HLk.out;have hout:Out (fun j=>j=D) wr (wr.setCell ⟨D,1,none⟩ (.slice none 0 0)):=(Out.refl (fun j=>j=D) _).setCell (p:=⟨D,1,none⟩) (.inl rfl) _;refine ⟨rfl,fun j=>j=D\/j=g,⟨g,.slice none 0 0,?_⟩,HOk.out.trans (hout.more fun j _ e=>by rw[e];exact (hl.own _).2 (.inl rfl)),fun j hj=>.inl ((hl.own _).2 (hj.elim .inl fun h=>.inr (.inl h)))⟩;have e:=HE.out;subst e;refine ⟨hl.blk.set 1 _,(hl.setOther 1 _).1,World.ownsRow_nil _ _ _ _,hl.dg,by simp[Value.ownBlock],by simp[Value.ownBlock],hl.ld,hl.lg,fun j=>by simp[Value.ownBlock],⟨hl.good.1,fun y hy=>(by cases hy),hl.good.2.2⟩⟩
end
section
open Go.RowKit Me Rw Ds
def yB (S:Dsk):Dsk×Int:=
 if S.on then (if (power S).on then ({power S with stored:=Ds.settle ones 0 0 (power S).pend (power S).stored,pend:=[]},0) else (power S,6)) else (S,6)
theorem xk (S:Dsk):(power S).pend=S.pend/\(power S).stored=S.stored:=by
 unfold power
 split
 ·exact ⟨rfl,rfl⟩
 ·split<;>exact ⟨rfl,rfl⟩
section
variable {w w':World} {B D:Nat} {S:Dsk} {own:Nat->Prop}
theorem zeI (h:zQ w B D S own) (hp:S.pend.length<4611686018427387904) :
 Calls Tryz.prog 105 #[.pointer (some ⟨D,0,none⟩)] w fun e w'=>e=.returned (.int .i64 (yB S).2)/\XD w B D (yB S).1 own w':=by
 obtain ⟨o,ho⟩:∃o,S.on=o:=⟨_,rfl⟩
 have H1:=zfc h;rw[ho] at H1;have HON:=gI H1
 cases o with
 |false=>
  have HE:=gI (show yB S=(S,6) by unfold yB;rw[ho];rfl);have HD:=gI h;obtain ⟨R,hR⟩:∃R,R=yB S:=⟨_,rfl⟩
  rw[<-hR] at HE ⊢;clear h ho H1 hR
  go_enter Tryz.func105,Tryz.ntmps105
  go_wp2_with (go_at_call 100;refine HON.out.mono ?_;rintro e w' ⟨rfl,rfl⟩)
  go_ret
  rw[HE.out];exact ⟨rfl,.same HD.out (Out.refl _ _)⟩
 |true=>
  obtain ⟨P,hP⟩:∃P,P=power S:=⟨_,rfl⟩
  have H2:=Vf h;rw[<-hP] at H2;obtain ⟨q,hq⟩:∃q,P.on=q:=⟨_,rfl⟩
  rw[hq] at H2;have HPW:=gI H2;have hpl:P.pend.length<4611686018427387904:=by rw[hP,(xk S).1];exact hp
  have HE:=gI (show yB S=if q then ({P with stored:=Ds.settle ones 0 0 P.pend P.stored,pend:=[]},0) else (P,6) by unfold yB;rw[ho,if_pos rfl,<-hP];subst hq;rfl);obtain ⟨R,hR⟩:∃R,R=yB S:=⟨_,rfl⟩
  rw[<-hR] at HE ⊢;clear h ho H1 H2 hR hP hq
  cases q with
  |false=>
   go_enter Tryz.func105,Tryz.ntmps105
   go_wp2_with (first
    |(go_at_call 100;refine HON.out.mono ?_;rintro e w' ⟨rfl,rfl⟩)
    |(go_at_call 143;refine HPW.out.mono ?_;rintro e w1 ⟨rfl,hd⟩;have HD:=gI hd;clear hd))
   go_ret
   rw[HE.out];exact ⟨rfl,HD.out⟩
  |true=>
   go_enter Tryz.func105,Tryz.ntmps105
   go_wp2_with (first
    |(go_at_call 100;refine HON.out.mono ?_;rintro e w' ⟨rfl,rfl⟩)
    |(go_at_call 143;refine HPW.out.mono ?_;rintro e w1 ⟨rfl,hd⟩;have HD:=gI hd;clear hd)
    |(go_at_call 144
      obtain ⟨own1,hd1,ho1,hn1⟩:=HD.out;refine (zfP hd1 ones 0 (by decide) (by decide) hpl).mono ?_;rintro e w2 ⟨rfl,hd2⟩;have HD2:=gI hd2;have HD1:=gI (And.intro ho1 hn1);clear hd2 ho1 hn1 hd1))
   go_ret
   rw[HE.out];obtain ⟨own2,k1,k2,k3⟩:=HD2.out;obtain ⟨ho1,hn1⟩:=HD1.out;refine ⟨rfl,own2,k1,ho1.trans' k2 hn1,fun j hj=>?_⟩;rcases k3 j hj with h|h
   ·exact hn1 j h
   ·exact .inr (Nat.le_trans ho1.size h)
end
end
end
end Go.Proofs.YtcdkopbjlakebaaGreatDoor
