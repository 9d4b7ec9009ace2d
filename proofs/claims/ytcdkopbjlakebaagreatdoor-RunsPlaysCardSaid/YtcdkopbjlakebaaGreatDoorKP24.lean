/- Texts put together, for a law: MFind. -/
import Derived.Lib.Bytealg
import Derived.Shelf.Abstract
import Derived.Test.YtcdkopbjlakebaaGreatDoorKP20
set_option maxRecDepth 100000
set_option maxHeartbeats 8000000
namespace Go.Proofs.YtcdkopbjlakebaaGreatDoor
section
open Go.RowKit Me Mf
theorem zbH:∀(l m:List UInt8),(Lib.compareBytes l m<0↔less l m=true)/\(Lib.compareBytes l m=0↔l=m)
 |[],[]=>by simp[Lib.compareBytes,yA]
 |[],_::_=>by simp[Lib.compareBytes,less,Op.bytesLess]
 |_::_,[]=>by simp[Lib.compareBytes,less,Op.bytesLess]
 |a::l,b::m=>by
  have ih:=zbH l m;unfold Lib.compareBytes;rw[Vx]
  by_cases h1:a<b
  ·have h1':=(zfK a b).1 h1;rw[if_pos h1];refine ⟨⟨fun _=>.inl h1',fun _=>by decide⟩,⟨fun h=>by omega,fun h=>?_⟩⟩;injection h with h _;subst h;omega
  ·have h1':¬a.toNat<b.toNat:=fun h=>h1 ((zfK a b).2 h)
   rw[if_neg h1]
   by_cases h2:b<a
   ·have h2':=(zfK b a).1 h2;rw[if_pos h2];refine ⟨⟨fun h=>by omega,fun h=>?_⟩,⟨fun h=>by omega,fun h=>?_⟩⟩
    ·rcases h with h|⟨h,-⟩
     ·omega
     ·subst h;omega
    ·injection h with h _;subst h;omega
   ·have h2':¬b.toNat<a.toNat:=fun h=>h2 ((zfK b a).2 h)
    rw[if_neg h2];have e:a=b:=UInt8.toNat_inj.1 (by omega);subst e;refine ⟨ih.1.trans ⟨fun h=>.inr ⟨rfl,h⟩,fun h=>?_⟩,ih.2.trans ⟨fun h=>by rw[h],fun h=>by injection h⟩⟩;rcases h with h|⟨-,h⟩
    ·omega
    ·exact h
theorem Qa (a b:List UInt8) (w:World) :
 Calls Tryz.prog 180 #[sv a,sv b] w fun e w'=>e=.returned (.int .i64 (Lib.compareBytes a b))/\w=w':=by
 go_enter Tryz.func180,Tryz.ntmps180
 go_wp2
 rw[run_callFunc_extern Tryz.func214 (by kernel_rfl) (by kernel_rfl) (by kernel_rfl) (e:=Extern.BytealgCompare.compare) (by kernel_rfl),Lib.run_compareString];simp only[Result.andThen];rw[Oper.upon_value]
 go_wp2
 go_ret
 exact ⟨rfl,rfl⟩
theorem zek (a b:List UInt8) (w:World) :
 Calls Tryz.prog 141 #[sv a,sv b] w fun e w'=>e=.returned (.int .i64 (Lib.compareBytes a b))/\w=w':=by
 go_enter Tryz.func141,Tryz.ntmps141
 go_wp2_with fail
 refine (Qa a b w).mono ?_;rintro e w' ⟨rfl,rfl⟩
 go_wp2
 go_ret
 exact ⟨rfl,rfl⟩
theorem zdd (nm:List UInt8) (id:Nat) (sz:Int) (A:Option Addr) (n c:Nat) (x:List UInt8) (w:World) :
 Calls Tryz.prog 140 #[.agg #[sv nm,.int .u32 (id:Int),.int .i64 sz,.slice A n c],sv x] w fun e w'=>e=.returned (.int .i64 (Lib.compareBytes nm x))/\Below w.heap.size w w':=by
 go_enter Tryz.func140,Tryz.ntmps140
 go_wp2_with fail
 refine (zek nm x _).mono ?_;rintro e w' ⟨rfl,rfl⟩
 go_wp2
 go_ret
 exact ⟨rfl,(Below.refl _ _).alloc (Nat.le_refl _) _⟩
structure zex (l:List zi) (x:List UInt8) (r:Nat) (bb:Bool):Prop where
 le:r<=l.length
 lo:∀t f,l[t]?=some f->t<r->less f.name x=true
 hi:∀t f,l[t]?=some f->r<=t->less f.name x=false
 is:bb=true↔∃f,l[r]?=some f/\f.name=x
theorem XT {l:List zi} (h:xM l) {s t:Nat} {f g:zi} (hst:s<t) (hf:l[s]?=some f) (hg:l[t]?=some g):less f.name g.name=true:=by
 obtain ⟨h1,e1⟩:=List.getElem?_eq_some_iff.1 hf;obtain ⟨h2,e2⟩:=List.getElem?_eq_some_iff.1 hg;have:=List.pairwise_iff_getElem.1 h.2 s t h1 h2 hst;rw[e1,e2] at this;exact this
theorem zlY (L:Option Addr) (n c:Nat) (l:List zi) (x:List UInt8) (w:World) (hl:l.length=n) (hn:n<=4294967296) (hr:Files w w.heap.size L l) (hok:xM l) :
 Calls Tryz.prog 139 #[.slice L n c,sv x,.func (.func 140) #[] #[]] w fun e w'=>∃(r:Nat) (bb:Bool),e=.returned (.tuple #[.int .i64 (r:Int),.bool bb])/\zex l x r bb/\Below w.heap.size w w':=by
 have eg:∀args w,(callFunc 140 args).run Tryz.prog w=.ok (.enter 140 args) w:=Go.Proofs.enters_of Tryz.func140 (by kernel_rfl) rfl;have HL:=gI hl;have HR:=gI hr;have HOK:=gI hok;clear hl hr hok
 go_enter Tryz.func139,Tryz.ntmps139
 go_wp2
 go_loopw [9,10] (fun x' y wr=>∃lo hi:Nat,x'=.int .i64 (lo:Int)/\y=.int .i64 (hi:Int)/\lo<=hi/\hi<=n/\Hid ((∀t f,l[t]?=some f->t<lo->less f.name x=true)/\(∀t f,l[t]?=some f->hi<=t->less f.name x=false))/\Hid (Below w.heap.size w wr)) (fun x y _=>(intOf y-intOf x).toNat)
 case atStart=>exact ⟨0,n,rfl,rfl,Nat.zero_le _,Nat.le_refl _,gI ⟨fun t f _ ht=>absurd ht (Nat.not_lt_zero _),fun t f ht h2=>by have:=(List.getElem?_eq_some_iff.1 ht).1;have:=HL.out;omega⟩,gI (Below.refl _ _)⟩
 case round=>
  obtain ⟨lo,hi,rfl,rfl,hlh,hin,HI,HB⟩:=hrel
  by_cases hlt:lo<hi
  ·obtain ⟨m,hmm⟩:∃m,m=(lo+hi) / 2:=⟨_,rfl⟩
   have hm1:lo<=m:=by omega
   have hm2:m<hi:=by omega
   have hmn:m<n:=by omega
   have hmz:((lo:Int)+(hi:Int)) / 2=(m:Int):=by omega
   obtain ⟨a,f,rfl,hab,hf,A2,n2,c2,g0,g1,g2,g3,-⟩:=(HR.out.below HB.out).at (i:=m) (by rw[HL.out];omega);have HF:=gI hf;obtain ⟨nm,hnm⟩:∃nm,nm=f.name:=⟨_,rfl⟩
   obtain ⟨id,hid⟩:∃id:Nat,id=f.id:=⟨_,rfl⟩
   obtain ⟨sz,hsz⟩:∃sz,sz=f.size:=⟨_,rfl⟩
   rw[<-hnm] at g0;rw[<-hid] at g1;rw[<-hsz] at g2;obtain ⟨z,hz⟩:∃z,z=Lib.compareBytes nm x:=⟨_,rfl⟩
   have hzl:=(zbH nm x).1;rw[<-hz] at hzl;have HZL:=gI hzl;have HZ:=gI hz;have HNM:=gI hnm;clear hmm hf hnm hid hsz hz hzl
   go_wp2_with fail
   refine (zdd nm id sz A2 n2 c2 x wr).mono ?_;rw[<-HZ.out];rintro e w1 ⟨rfl,hb1⟩;have HB1:=gI (HB.out.trans (hb1.mono HB.out.size));clear hb1 g0 g1 g2 g3
   by_cases hneg:z<0
   ·have d1:decide (z<0)=true:=by simp;omega
    have HI2:=gI (show (∀t f,l[t]?=some f->t<m+1->less f.name x=true)/\(∀t f,l[t]?=some f->hi<=t->less f.name x=false) from ⟨fun t g hg ht=>by
     rcases Nat.lt_or_ge t m with h|h
     ·refine xO (XT HOK.out h hg HF.out) ?_;rw[<-HNM.out];exact HZL.out.1 hneg
     ·have:t=m:=by omega
      subst this;have e:=hg.symm.trans HF.out;injection e with e;rw[e,<-HNM.out];exact HZL.out.1 hneg,HI.out.2⟩)
    go_wp2
    go_roundw
    case rel=>exact ⟨m+1,hi,by go_num,rfl,by omega,hin,HI2,HB1⟩
    case measure=>simp[intOf];omega
   ·have d1:decide (z<0)=false:=by simp;omega
    have HI2:=gI (show (∀t f,l[t]?=some f->t<lo->less f.name x=true)/\(∀t f,l[t]?=some f->m<=t->less f.name x=false) from ⟨HI.out.1,fun t g hg ht=>by
     have hmf:less nm x=false:=by
      cases hh:less nm x with
      |false=>rfl
      |true=>exact absurd (HZL.out.2 hh) hneg
     cases hgx:less g.name x with
     |false=>rfl
     |true=>
      rcases Nat.lt_or_ge m t with h|h
      ·have:=xO (XT HOK.out h HF.out hg) hgx;rw[<-HNM.out,hmf] at this;exact absurd this (by decide)
      ·have:t=m:=by omega
       subst this;have e:=hg.symm.trans HF.out;injection e with e;rw[e,<-HNM.out,hmf] at hgx;exact absurd hgx (by decide)⟩)
    go_wp2
    go_roundw
    case rel=>exact ⟨lo,m,rfl,rfl,by omega,by omega,HI2,HB1⟩
    case measure=>simp[intOf];omega
  ·have hee:hi=lo:=by omega
   subst hee
   by_cases hin2:hi<n
   ·obtain ⟨a,f,rfl,hab,hf,A2,n2,c2,g0,g1,g2,g3,-⟩:=(HR.out.below HB.out).at (i:=hi) (by rw[HL.out];omega);have HF:=gI hf;obtain ⟨nm,hnm⟩:∃nm,nm=f.name:=⟨_,rfl⟩
    obtain ⟨id,hid⟩:∃id:Nat,id=f.id:=⟨_,rfl⟩
    obtain ⟨sz,hsz⟩:∃sz,sz=f.size:=⟨_,rfl⟩
    rw[<-hnm] at g0;rw[<-hid] at g1;rw[<-hsz] at g2;obtain ⟨z,hz⟩:∃z,z=Lib.compareBytes nm x:=⟨_,rfl⟩
    have hzl:=(zbH nm x).2;rw[<-hz] at hzl;have HZL:=gI hzl;have HZ:=gI hz;have HNM:=gI hnm;clear hf hnm hid hsz hz hzl
    go_wp2_with fail
    refine (zdd nm id sz A2 n2 c2 x wr).mono ?_;rw[<-HZ.out];rintro e w1 ⟨rfl,hb1⟩;have HB1:=gI (HB.out.trans (hb1.mono HB.out.size));clear hb1 g0 g1 g2 g3
    go_wp2
    exact bodyPost_ret (v:=.tuple #[.int .i64 (hi:Int),.bool (z==0)]) (by simp[results,Tryz.results139,go_sem]) rfl ⟨hi,_,rfl,⟨by rw[HL.out];omega,HI.out.1,HI.out.2,by
     rw[beq_iff_eq,HZL.out];exact ⟨fun h=>⟨f,HF.out,by rw[<-HNM.out];exact h⟩,fun ⟨g,hg,h⟩=>by
      have e:=hg.symm.trans HF.out;injection e with e;rw[HNM.out,<-e];exact h⟩⟩,HB1.out⟩
   ·go_wp2
    exact bodyPost_ret (v:=.tuple #[.int .i64 (hi:Int),.bool false]) (by simp[results,Tryz.results139,go_sem]) rfl ⟨hi,_,rfl,⟨by rw[HL.out];omega,HI.out.1,HI.out.2,
     ⟨fun h=>(by cases h),fun ⟨g,hg,_⟩=>by have:=(List.getElem?_eq_some_iff.1 hg).1;have:=HL.out;omega⟩⟩,HB.out⟩
theorem Vo (v y:Nat) (A:Option Addr) (n c:Nat) (m:ManD) (x:List UInt8) (w:World) (hn:n<=4294967296) (hok:xM m.files) (h:Zc w w.heap.size A n c m) :
 Calls Tryz.prog 101 #[mval v y A n c,sv x] w fun e w'=>∃(r:Nat) (bb:Bool),e=.returned (.tuple #[.int .i64 (r:Int),.bool bb])/\zex m.files x r bb/\Below w.heap.size w w':=by
 have HL:=gI h.len;have HOK:=gI hok;obtain ⟨wb,hwb⟩:∃wb,wb=w.alloc (mbox v y A n c):=⟨_,rfl⟩
 have HWB:=gI hwb;have HB0:=gI (show Below w.heap.size w wb by rw[hwb];exact (Below.refl _ _).alloc (Nat.le_refl _) _);have HF:=gI (h.past HB0.out).files;clear hwb h hok
 go_enter Tryz.func101,Tryz.ntmps101
 go_wp2_with fail
 rw[<-HWB.out];refine (zlY A n c m.files x wb HL.out hn HF.out HOK.out).mono ?_;rintro e w1 ⟨r,bb,rfl,hs,hb⟩;have HS:=gI hs;have HB:=gI (HB0.out.trans (hb.mono HB0.out.size));clear hs hb HWB
 go_wp2
 exact bodyPost_ret (v:=.tuple #[.int .i64 (r:Int),.bool bb]) (by simp[results,Tryz.results101,go_sem]) rfl ⟨r,bb,rfl,HS.out,HB.out⟩
end
end Go.Proofs.YtcdkopbjlakebaaGreatDoor
