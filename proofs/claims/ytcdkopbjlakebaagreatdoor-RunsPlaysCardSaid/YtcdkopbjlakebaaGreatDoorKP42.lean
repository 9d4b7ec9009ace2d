/- Texts put together, for a law: Sr, Sn, Sw. -/
import Derived.Test.YtcdkopbjlakebaaGreatDoorKP41
import Derived.Test.YtcdkopbjlakebaaGreatDoorKP30
import Derived.Test.YtcdkopbjlakebaaGreatDoorKP2
set_option maxRecDepth 100000
set_option maxHeartbeats 8000000
namespace Go.Proofs.YtcdkopbjlakebaaGreatDoor
section
open Go.RowKit Me Mf Rw Ds Rn Tx Go.Shelf Go.Lib
structure SrD where
 pre:List UInt8
 wd:Nat
 rm:Nat
 held:List (List UInt8)
 first:Nat
 next:Nat
structure OkR (R:SrD):Prop where
 pre:1<=R.pre.length/\R.pre.length<=16
 wd:1<=R.wd/\R.wd<=64
 rm:1<=R.rm/\R.rm<=4096
 wid:Wid R.wd R.held
 few:R.held.length<=R.rm
 run:R.first<=R.next/\R.next<=1000000
structure yR (w:World) (B K P:Nat) (hb:Option Nat) (R:SrD):Prop where
 box:∃A n c,Blk w K [.pointer (some ⟨P,0,none⟩),sv R.pre,.int .i64 (R.wd:Int),.int .i64 (R.rm:Int),.slice A n c,.int .i64 (R.first:Int),.int .i64 (R.next:Int)] /\
  w.ownsRow B 5 1 (.slice A n c) n (cellsOf R.held.flatten)/\(Value.slice A n c).ownBlock=hb/\R.held.flatten.length=n
 lo:B<=K
 ne:hb≠some K
 ok:OkR R
 tab:PTab w
 tlo:1<B
variable {w w':World} {B K P:Nat} {hb:Option Nat} {R:SrD} {T:Nat->Prop}
theorem Blk.seven {a0 a1 a2 a3 a4 a5 a6:Value} {b:Nat} (h:Blk w b [a0,a1,a2,a3,a4,a5,a6]) :
 w.cell? ⟨b,0,none⟩=some a0/\w.cell? ⟨b,1,none⟩=some a1/\w.cell? ⟨b,2,none⟩=some a2/\w.cell? ⟨b,3,none⟩=some a3/\w.cell? ⟨b,4,none⟩=some a4/\w.cell? ⟨b,5,none⟩=some a5/\w.cell? ⟨b,6,none⟩=some a6:=
 ⟨h.cell (i:=0) rfl,h.cell (i:=1) rfl,h.cell (i:=2) rfl,h.cell (i:=3) rfl,h.cell (i:=4) rfl,h.cell (i:=5) rfl,h.cell (i:=6) rfl⟩
theorem yR.lt (h:yR w B K P hb R):K<w.heap.size:=by obtain ⟨A,n,c,h1,-⟩:=h.box;exact h1.lt
theorem yR.row (h:yR w B K P hb R):∀k,hb=some k->B<=k/\k<w.heap.size:=fun k hk=>by
 obtain ⟨A,n,c,-,h2,h3,-⟩:=h.box;exact h2.lt k (h3.trans hk)
theorem PTab.out {S:Nat->Prop} (h:PTab w) (ho:Out S w w') (hn:¬S 1):PTab w':=by
 have hc:=h.at 0 (by omega);have hlt:(1:Nat)<w.heap.size:=World.block_lt_of_cell? _ _ hc;unfold PTab TabIs World.var? at *;simp only[ZE,Option.bind_some] at h ⊢;rw[ho.block 1 hlt hn];exact h
theorem yR.out {S:Nat->Prop} (h:yR w B K P hb R) (ho:Out S w w') (hK:¬S K) (hh:∀k,hb=some k->¬S k) (hl:∀k,S k->B<=k\/w.heap.size<=k):yR w' B K P hb R:=by
 obtain ⟨A,n,c,h1,h2,h3,h4⟩:=h.box;have hT:=h.tlo;refine ⟨⟨A,n,c,h1.out ho hK,zn h2 ho (fun k hk=>hh k (h3.symm.trans hk)),h3,h4⟩,h.lo,h.ne,h.ok,h.tab.out ho (fun e=>?_),hT⟩;have hc:=h.tab.at 0 (by omega);have hlt:(1:Nat)<w.heap.size:=World.block_lt_of_cell? _ _ hc;have:=hl _ e;omega
theorem yR.past (h:yR w B K P hb R) (hb':Below w.heap.size w w'):yR w' B K P hb R:=h.out (S:=fun _=>False) (.of_below hb') id (fun _ _=>id) (fun _ e=>e.elim)
theorem Vb (h:yR w B K P hb R):Calls Tryz.prog 12 #[.pointer (some ⟨K,0,none⟩)] w fun e w'=>e=.returned (.int .i64 (R.held.length:Int))/\Below w.heap.size w w':=by
 obtain ⟨A,n,c,h1,h2,h3,h4⟩:=h.box;obtain ⟨c0,c1,c2,c3,c4,c5,c6⟩:=h1.seven;have hwd:=h.ok.wd;have hfew:=h.ok.few;have hrm:=h.ok.rm;have hn:n=R.wd*R.held.length:=by rw[<-h4,zT h.ok.wid]
 obtain ⟨m,hm⟩:∃m,m=R.held.length:=⟨_,rfl⟩
 obtain ⟨d,hd⟩:∃d,d=R.wd:=⟨_,rfl⟩
 rw[<-hm,<-hd] at hn;rw[<-hm] at hfew;rw[<-hd] at hwd c2;rw[<-hm];have e1:¬(d:Int)=0:=by omega
 have e2:(n:Int).tdiv (d:Int)=(m:Int):=by
  rw[hn];show ((d*m:Nat):Int).tdiv (d:Int)=(m:Int)
  rw[Int.natCast_mul,Int.mul_comm];exact Int.mul_tdiv_cancel _ e1
 have hmm:m<=4096:=by omega
 clear h h1 h2 h3 h4 hn hm hd c0 c1 c3 c5 c6
 go_enter Tryz.func12,Tryz.ntmps12
 go_wp2_with fail
 go_region
 all_goals
  go_wp2
  go_ret
  exact ⟨rfl,(Below.refl _ _).drew⟩
theorem zcc (h:yR w B K P hb R):Calls Tryz.prog 13 #[.pointer (some ⟨K,0,none⟩)] w fun e w'=>e=.returned (.int .i64 ((R.next-R.first:Nat):Int))/\Below w.heap.size w w':=by
 obtain ⟨A,n,c,h1,h2,h3,h4⟩:=h.box;obtain ⟨c0,c1,c2,c3,c4,c5,c6⟩:=h1.seven;have hr:=h.ok.run;have e1:(R.next:Int)-(R.first:Int)=((R.next-R.first:Nat):Int):=by omega
 obtain ⟨z,hz⟩:∃z,z=R.next-R.first:=⟨_,rfl⟩
 rw[<-hz] at e1;rw[<-hz];have hzz:z<=1000000:=by omega
 clear h h1 h2 h3 h4 c0 c1 c2 c3 c4 hz
 go_enter Tryz.func13,Tryz.ntmps13
 go_wp2_with fail
 go_region
 all_goals
  go_wp2
  go_ret
  exact ⟨rfl,(Below.refl _ _).drew⟩
theorem yR.forget (h:yR w B K P hb R):yR (w.setCell ⟨K,4,none⟩ (.slice none 0 0)) B K P none {R with held:=[]}:=by
 obtain ⟨A,n,c,h1,h2,h3,h4⟩:=h.box;have hT:=h.tlo;have hlo:=h.lo;refine ⟨⟨none,0,0,h1.set 4 _,World.ownsRow_nil _ _ _ _,rfl,rfl⟩,h.lo,(fun e=>by cases e),⟨h.ok.pre,h.ok.wd,h.ok.rm,(fun r hr=>by cases hr),Nat.zero_le _,h.ok.run⟩,h.tab.out ((Out.refl (fun k=>k=K) w).setCell (p:=⟨K,4,none⟩) (.inl rfl) _) (fun e=>by have e:1=K:=e;omega),hT⟩
theorem YQ (h:yR w B K P hb R):Calls Tryz.prog 22 #[.pointer (some ⟨K,0,none⟩)] w fun e w'=>e=.returned (.tuple #[])/\yR w' B K P none {R with held:=[]}/\Out (fun k=>k=K) w w':=by
 obtain ⟨A,n,c,h1,h2,h3,h4⟩:=h.box;have c4:=h1.cell (i:=4) rfl;have f4:=h1.frozen 4;have FIN:=gI (And.intro h.forget (show Out (fun k=>k=K) w (w.setCell ⟨K,4,none⟩ (.slice none 0 0)) from (Out.refl (fun k=>k=K) w).setCell (p:=⟨K,4,none⟩) (.inl rfl) _));clear h h1 h2 h3 h4
 go_enter Tryz.func22,Tryz.ntmps22
 go_wp2
 go_end0
 exact ⟨rfl,FIN.out⟩
end
section
open Go.RowKit Me Mf Rw Ds Rn Tx Go.Shelf Go.Lib
variable {w w':World} {B K P:Nat} {hb:Option Nat} {R:SrD} {T:Nat->Prop}
def zq (R:SrD) (n:Nat):List UInt8:=R.pre++putN n
theorem zhT (h:OkR R) {n:Nat} (hn:n<=1000000):1<=(zq R n).length/\(zq R n).length<=36:=by
 unfold zq;rw[List.length_append];have:=h.pre;have:=YS (n:=n) (by omega);omega
theorem zhS {p:Value} {x:List UInt8} {A:Addr} (hp:p=.pointer (some A)) (hc:w.cell? ⟨A.block,A.off+1,none⟩=some (sv x)) (hsp:A.spot=none) (hx:x.length<=16) (n:Nat) (hn:n<=1000000) (hT:PTab w) :
 Calls Tryz.prog 31 #[p,.int .i64 (n:Int)] w fun e w'=>e=.returned (sv (x++putN n))/\Below w.heap.size w w':=by
 subst hp;obtain ⟨b,o,sp⟩:=A;subst hsp;obtain ⟨w2,c2,hrun,hb2,hlt2,hcell,-⟩:=zbc 9 24 5 Tryz.underlying9 Tryz.underlying24 Tryz.underlying5 w x;have HR:=gI hrun;have HB:=gI hb2;have hr2:Rd w2 w2.heap.size (some ⟨w.heap.size,0,none⟩) x:=fun _=>⟨_,rfl,hlt2,fun i u hu=>by
  have:=hcell i u hu;rw[show ((⟨w.heap.size,0,none⟩:Addr).add i)=⟨w.heap.size,i,none⟩ by unfold Addr.add;split<;>simp_all];exact this⟩
 have HPUT:=gI (zg4 (some ⟨w.heap.size,0,none⟩) x.length c2 x rfl (by omega) n (by omega) w2 hr2 (hT.below hb2));have hn1:(n:Int)<=1000000:=by omega
 have ew:IntKind.u64.wrap (n:Int)=(n:Int):=by simp[IntKind.wrap,IntKind.bits,IntKind.signed];omega
 clear hrun hb2 hlt2 hcell hr2 hT
 go_enter Tryz.func31,Tryz.ntmps31
 go_wp2_with (refine xQ rfl 9 24 _ rfl _ _ rfl HR.out ?_)
 refine HPUT.out.mono ?_;rintro e w3 hnews;obtain ⟨A3,n3,c3,rfl,hl3,hc3,ho3,hr3,hb3⟩:=hnews.open;have FIN:=gI (HB.out.trans (hb3.mono HB.out.size));have hs:=xD A3 n3 c3 _ w3 _ hl3 hr3;clear hnews hl3 hc3 ho3 hr3 hb3
 go_wp2
 go_ret
 exact ⟨rfl,FIN.out⟩
theorem Q9 (h:yR w B K P hb R) (n:Nat) (hn:n<=1000000):Calls Tryz.prog 31 #[.pointer (some ⟨K,0,none⟩),.int .i64 (n:Int)] w fun e w'=>e=.returned (sv (zq R n))/\Below w.heap.size w w':=by
 obtain ⟨A,n',c,h1,-⟩:=h.box;exact zhS rfl (h1.cell (i:=1) rfl) rfl h.ok.pre.2 n hn h.tab
theorem q8 (z m:Int) (w:World):Calls Tryz.prog 28 #[.int .i64 z,.int .i64 m] w fun e w'=>e=.returned (.bool (decide (1<=z)&&decide (z<=m)))/\w=w':=by
 by_cases h1:1<=z
 ·rw[decide_eq_true h1,Bool.true_and]
  go_enter Tryz.func28,Tryz.ntmps28
  go_wp2
  go_ret
  exact ⟨rfl,rfl⟩
 ·rw[decide_eq_false h1,Bool.false_and]
  go_enter Tryz.func28,Tryz.ntmps28
  go_wp2
  go_ret
  exact ⟨rfl,rfl⟩
theorem zib (x:List UInt8) (w:World):Calls Tryz.prog 97 #[sv x] w fun e w'=>e=.returned (.bool false)/\w=w':=by
 go_enter Tryz.func97,Tryz.ntmps97
 go_wp2
 go_ret
 exact ⟨by simp,rfl⟩
theorem zaT (x:List UInt8) (w:World):Calls Tryz.prog 135 #[sv x] w fun e w'=>e=.returned (.bool false)/\w=w':=by
 go_enter Tryz.func135,Tryz.ntmps135
 go_wp2
 go_ret
 exact ⟨by simp,rfl⟩
theorem ziD (x y:List UInt8) (w:World):Calls Tryz.prog 96 #[sv x,sv y] w fun e w'=>e=.returned (.bool (less x y))/\w=w':=by
 have h1:=zaT x w;have h2:=zaT y w;obtain ⟨r,hr⟩:∃r,r=Op.bytesLess x y:=⟨_,rfl⟩
 have d1:Op.bytesLess x y=r:=hr.symm;rw[show less x y=r from d1];clear hr
 go_enter Tryz.func96,Tryz.ntmps96
 go_wp2_with fail
 refine h1.mono ?_;rintro e w1 ⟨rfl,rfl⟩
 go_wp2_with fail
 go_ret
 exact ⟨rfl,rfl⟩
theorem zfM {l:List (List UInt8)} (hs:l.Pairwise fun x y=>less x y=true) {x:List UInt8} {i:Nat} (h1:∀k y,k<i->l[k]?=some y->less y x=true) (h2:∀k y,i<=k->l[k]?=some y->less y x=false):x∈l↔l[i]?=some x:=by
 refine ⟨fun h=>?_,fun h=>List.mem_of_getElem? h⟩;obtain ⟨k,hk,e⟩:=List.getElem_of_mem h;have hk2:l[k]?=some x:=by rw[List.getElem?_eq_getElem hk,e]
 rcases Nat.lt_trichotomy k i with q|q|q
 ·have:=h1 k x q hk2;rw[yA] at this;cases this
 ·rw[<-q];exact hk2
 ·have hil:i<l.length:=by omega
  have hi:l[i]?=some l[i]:=List.getElem?_eq_getElem hil;have hlt:less l[i] l[k]=true:=List.pairwise_iff_getElem.1 hs i k hil hk q;rw[e] at hlt;rw[h2 i _ (Nat.le_refl _) hi] at hlt
  cases hlt
theorem zeq (A:Option Addr) (n c:Nat) (l:List (List UInt8)) (x:List UInt8) (hl:l.length=n) (hn:n<=10000000) (hc:Cs w w.heap.size A (l.map sv)) (hs:l.Pairwise fun x y=>less x y=true) :
 Calls Tryz.prog 58 #[.slice A n c,sv x] w fun e w'=>∃i:Int,e=.returned (.tuple #[.int .i64 i,.bool (decide (x∈l))])/\w=w':=by
 have HL:=gI hl;have HC:=gI hc;have HS:=gI hs;obtain ⟨m,hm⟩:∃m,m=decide (x∈l):=⟨_,rfl⟩
 have HM:=gI hm;rw[<-hm];clear hl hc hs hm
 go_enter Tryz.func58,Tryz.ntmps58
 go_wp2
 go_loopw [7,8] (fun a b wr=>∃i j:Nat,a=.int .i64 (i:Int)/\b=.int .i64 (j:Int)/\i<=j/\j<=n/\wr=w/\Hid (∀k y,k<i->l[k]?=some y->less y x=true)/\Hid (∀k y,j<=k->l[k]?=some y->less y x=false)) (fun a b _=>(intOf b-intOf a).toNat)
 case atStart=>exact ⟨0,n,rfl,rfl,by omega,Nat.le_refl _,rfl,gI (fun k y h=>by omega),gI (fun k y h hy=>by have:=(List.getElem?_eq_some_iff.1 hy).1;have:=HL.out;omega)⟩
 case round=>
  obtain ⟨i,j,rfl,rfl,hij,hjn,rfl,H1,H2⟩:=hrel
  by_cases hlt:i<j
  ·obtain ⟨h,hh⟩:∃h,h=(i+j) / 2:=⟨_,rfl⟩
   have hh1:i<=h/\h<j:=by omega
   have e1:((i:Int)+(j:Int)) / 2=(h:Int):=by omega
   have hhl:h<l.length:=by rw[HL.out];omega
   obtain ⟨y,hy⟩:∃y,l[h]?=some y:=⟨_,List.getElem?_eq_getElem hhl⟩
   obtain ⟨a,rfl,-,hcl⟩:=HC.out (by rw[List.length_map];omega);have c0:wr.cell? (a.add h)=some (sv y):=hcl h _ (by rw[List.getElem?_map,hy];rfl);have e2:(h:Int)<(n:Int):=by omega
   obtain ⟨r,hr⟩:∃r,r=less y x:=⟨_,rfl⟩
   have HY:=gI hy;have HR:=gI hr;have HLS:=gI (ziD y x wr);clear hy hr hcl hhl hh
   go_wp2_with fail
   refine HLS.out.mono ?_;rw[<-HR.out];rintro e w1 ⟨rfl,rfl⟩
   cases r with
   |true=>
    have H1':=gI (show ∀k z,k<h+1->l[k]?=some z->less z x=true from fun k z hk hz=>by
     rcases Nat.lt_or_eq_of_le (Nat.le_of_lt_succ hk) with q|q
     ·have hyl:=List.getElem?_eq_some_iff.1 HY.out;have hzl:=List.getElem?_eq_some_iff.1 hz;have:=List.pairwise_iff_getElem.1 HS.out k h hzl.1 hyl.1 q;rw[hzl.2,hyl.2] at this;exact xO this HR.out.symm
     ·subst q;rw[HY.out] at hz;injection hz with hz;rw[<-hz];exact HR.out.symm)
    go_wp2
    go_roundw
    case rel=>exact ⟨h+1,j,by go_num,rfl,by omega,hjn,by first|rfl|trivial,H1',H2⟩
    case measure=>simp[intOf];omega
   |false=>
    have H2':=gI (show ∀k z,h<=k->l[k]?=some z->less z x=false from fun k z hk hz=>by
     rcases Nat.lt_or_eq_of_le hk with q|q
     ·have hyl:=List.getElem?_eq_some_iff.1 HY.out;have hzl:=List.getElem?_eq_some_iff.1 hz;have h3:=List.pairwise_iff_getElem.1 HS.out h k hyl.1 hzl.1 q;rw[hzl.2,hyl.2] at h3
      cases q2:less z x with
      |false=>rfl
      |true=>have:=xO h3 q2;rw[<-HR.out] at this;cases this
     ·subst q;rw[HY.out] at hz;injection hz with hz;rw[<-hz];exact HR.out.symm)
    go_wp2
    go_roundw
    case rel=>exact ⟨i,h,rfl,rfl,by omega,by omega,by first|rfl|trivial,H1,H2'⟩
    case measure=>simp[intOf];omega
  ·have hii:i=j:=by omega
   subst hii;have hmem:=zfM HS.out H1.out H2.out
   by_cases hil:i<n
   ·have hll:i<l.length:=by rw[HL.out];exact hil
    obtain ⟨y,hy⟩:∃y,l[i]?=some y:=⟨_,List.getElem?_eq_getElem hll⟩
    obtain ⟨a,rfl,-,hcl⟩:=HC.out (by rw[List.length_map];omega);have c0:wr.cell? (a.add i)=some (sv y):=hcl i _ (by rw[List.getElem?_map,hy];rfl);have e2:(i:Int)<(n:Int):=by omega
    have hmy:m=decide (y=x):=by
     rw[HM.out];refine decide_eq_decide.2 (hmem.trans ?_);rw[hy];exact ⟨fun e=>by injection e,fun e=>by rw[e]⟩
    have hI1:=gI (zib y wr)
    by_cases hyx:y=x
    ·subst hyx;have hm1:m=true:=by rw[hmy];simp
     subst hm1;clear hmem hcl hll hy hmy
     go_wp2
     go_ret2
     exact ⟨_,rfl,rfl⟩
    ·have hm1:m=false:=by rw[hmy];simp[hyx]
     subst hm1;have d1:(y==x)=false:=beq_eq_false_iff_ne.2 hyx;clear hmem hcl hll hy hmy
     go_wp2_with fail
     refine hI1.out.mono ?_;rintro e w1 ⟨rfl,rfl⟩
     go_wp2
     go_ret2
     exact ⟨_,rfl,rfl⟩
   ·have hm1:m=false:=by
     rw[HM.out];refine decide_eq_false fun h=>?_
     have:=(List.getElem?_eq_some_iff.1 (hmem.1 h)).1;have:=HL.out;omega
    subst hm1;have e2:¬(i:Int)<(n:Int):=by omega
    clear hmem
    go_wp2
    go_ret2
    first|exact ⟨_,rfl,rfl⟩|exact ⟨⟨_,rfl⟩,rfl⟩
theorem zjA (A:Option Addr) (n c:Nat) (l:List (List UInt8)) (x:List UInt8) (hl:l.length=n) (hn:n<=10000000) (hc:Cs w w.heap.size A (l.map sv)) (hs:l.Pairwise fun x y=>less x y=true) :
 Calls Tryz.prog 30 #[.slice A n c,sv x] w fun e w'=>e=.returned (.bool (decide (x∈l)))/\w=w':=by
 have HB:=gI (zeq A n c l x hl hn hc hs);obtain ⟨m,hm⟩:∃m,m=decide (x∈l):=⟨_,rfl⟩
 rw[<-hm] at HB ⊢;clear hc hs hl hm
 go_enter Tryz.func30,Tryz.ntmps30
 go_wp2_with fail
 refine HB.out.mono ?_;rintro e w1 ⟨i,rfl,rfl⟩
 go_wp2
 go_ret
 exact ⟨rfl,rfl⟩
end
section
open Go.RowKit Me Mf Rw Ds Rn Tx Go.Shelf Go.Lib
variable {w w':World} {B K P D M N:Nat} {X:Sto} {own ownD:Nat->Prop} {hb:Option Nat} {R:SrD} {T:Nat->Prop}
theorem zeY {a b:Nat} (h:putN a=putN b):a=b:=by
 have ha:=(Yv a).2.1;have hb:=(Yv b).2.1;rw[h,hb] at ha;exact ha.symm
structure zey (has:List UInt8->Prop) (pre:List UInt8) (n:Nat):Prop where
 all:∀i,i<n->has (pre++putN i)
 no:¬has (pre++putN n)
theorem zey.one {has:List UInt8->Prop} {pre:List UInt8} {n m:Nat} (h:zey has pre n) (k:zey has pre m):n=m:=by
 rcases Nat.lt_trichotomy n m with q|q|q
 ·exact absurd (k.all n q) h.no
 ·exact q
 ·exact absurd (h.all m q) k.no
theorem za9 {l:List (List UInt8)} {pre:List UInt8} {n:Nat} (h:∀i,i<n->pre++putN i∈l):n<=l.length:=by
 have hn:((List.range n).map fun i=>pre++putN i).Nodup:=by
  rw[List.Nodup,List.pairwise_map];refine List.Pairwise.imp ?_ (List.nodup_range (n:=n));intro a b hab e;exact hab (zeY (List.append_cancel_left e))
 have h2:=hn.length_le_of_subset (l₂:=l) (fun x hx=>by
  obtain ⟨i,hi,rfl⟩:=List.mem_map.1 hx;exact h i (List.mem_range.1 hi))
 simpa using h2
def Xl (pre:List UInt8) (wz rz:Int):Bool:=decide (1<=pre.length)&&decide (pre.length<=16)&&(decide (1<=wz)&&decide (wz<=64))&&(decide (1<=rz)&&decide (rz<=4096))
theorem zjy (p:Value) (pre:List UInt8) (wz rz:Int) (hp:pre.length<=9223372036854775807) (w:World) (h:Xl pre wz rz=false) :
 Calls Tryz.prog 9 #[p,sv pre,.int .i64 wz,.int .i64 rz] w fun e w'=>e=.returned (.tuple #[.pointer none,.int .i64 1])/\w=w':=by
 have hw1:=fun w=>q8 (pre.length:Int) 16 w
 have hw2:=fun w=>q8 wz 64 w
 have hw3:=fun w=>q8 rz 4096 w
 obtain ⟨b1,hb1⟩:∃b,b=(decide (1<=(pre.length:Int))&&decide ((pre.length:Int)<=16)):=⟨_,rfl⟩
 obtain ⟨b2,hb2⟩:∃b,b=(decide (1<=wz)&&decide (wz<=64)):=⟨_,rfl⟩
 obtain ⟨b3,hb3⟩:∃b,b=(decide (1<=rz)&&decide (rz<=4096)):=⟨_,rfl⟩
 have hb:(b1&&b2&&b3)=false:=by
  rw[hb1,hb2,hb3,<-h];unfold Xl
  congr 2
  rw[Bool.eq_iff_iff];simp only[Bool.and_eq_true,decide_eq_true_eq];omega
 rw[<-hb1] at hw1;rw[<-hb2] at hw2;rw[<-hb3] at hw3;have H1:=gI hw1;have H2:=gI hw2;have H3:=gI hw3;obtain ⟨m,hm⟩:∃m,m=pre.length:=⟨_,rfl⟩
 have hsz:(⟨pre.toArray⟩:ByteArray).size=m:=by rw[hm];simp[ByteArray.size]
 rw[<-hm] at H1 hp;clear hb1 hb2 hb3 hw1 hw2 hw3 h hm
 go_enter Tryz.func9,Tryz.ntmps9
 go_wp2_with fail
 try rw[hsz]
 refine (H1.out _).mono ?_;rintro e w1 ⟨rfl,rfl⟩
 cases b1 with
 |false=>
  go_wp2
  go_ret2
  exact ⟨rfl,rfl⟩
 |true=>
  go_wp2_with fail
  refine (H2.out _).mono ?_;rintro e w1 ⟨rfl,rfl⟩
  cases b2 with
  |false=>
   go_wp2
   go_ret2
   exact ⟨rfl,rfl⟩
  |true=>
   go_wp2_with fail
   refine (H3.out _).mono ?_;rintro e w1 ⟨rfl,rfl⟩
   cases b3 with
   |false=>
    go_wp2
    go_ret2
    exact ⟨rfl,rfl⟩
   |true=>simp at hb
def zf8 (w:World) (K o:Nat):Nat:=match w.cell? ⟨K,o,none⟩ with
 |some (.int _ z)=>z.toNat
 |_=>0
theorem QL {k:IntKind} {n:Nat} {o:Nat} (h:w.cell? ⟨K,o,none⟩=some (.int k (n:Int))):zf8 w K o=n:=by
 unfold zf8;rw[h]
 simp
def zk6 (w:World) (P:Nat) (pre:List UInt8) (wd rm:Nat) (has:List UInt8->Prop) (e:Ending) (w':World):Prop:=
 ∃K n,e=.returned (.tuple #[.pointer (some ⟨K,0,none⟩),.int .i64 0])/\yR w' w.heap.size K P none ⟨pre,wd,rm,[],0,n⟩/\zey has pre n/\Below w.heap.size w w'
theorem Q8 (h:zo w B P D M N X own ownD) (hN:N<=900000) (pre:List UInt8) (wd rm:Nat) (hok:Xl pre (wd:Int) (rm:Int)=true) (hT:PTab w) :
 Calls Tryz.prog 9 #[.pointer (some ⟨P,0,none⟩),sv pre,.int .i64 (wd:Int),.int .i64 (rm:Int)] w (zk6 w P pre wd rm (fun x=>hasN X x=true)):=by
 have hokk:(1<=pre.length/\pre.length<=16)/\(1<=wd/\wd<=64)/\(1<=rm/\rm<=4096):=by
  unfold Xl at hok;simp only[Bool.and_eq_true,decide_eq_true_eq] at hok;omega
 have H1:=gI (fun w=>q8 (pre.length:Int) 16 w);have H2:=gI (fun w=>q8 (wd:Int) 64 w);have H3:=gI (fun w=>q8 (rm:Int) 4096 w);have e1:(decide (1<=(pre.length:Int))&&decide ((pre.length:Int)<=16))=true:=by simp only[Bool.and_eq_true,decide_eq_true_eq];omega
 have e2:(decide (1<=(wd:Int))&&decide ((wd:Int)<=64))=true:=by simp only[Bool.and_eq_true,decide_eq_true_eq];omega
 have e3:(decide (1<=(rm:Int))&&decide ((rm:Int)<=4096))=true:=by simp only[Bool.and_eq_true,decide_eq_true_eq];omega
 rw[e1] at H1;rw[e2] at H2;rw[e3] at H3;obtain ⟨m,hm⟩:∃m,m=pre.length:=⟨_,rfl⟩
 have hsz:(⟨pre.toArray⟩:ByteArray).size=m:=by rw[hm];simp[ByteArray.size]
 rw[<-hm] at H1;have hm16:m<=16:=by omega
 have HOK:=gI hokk;have HT:=gI hT;have HH:=gI h;obtain ⟨K,hK⟩:∃K,K=w.heap.size:=⟨_,rfl⟩
 have HK:=gI hK;obtain ⟨W1,hW1⟩:∃W1,w.alloc (.cells #[.pointer (some ⟨P,0,none⟩),sv pre,.int .i64 (wd:Int),.int .i64 (rm:Int),.slice none 0 0,.int .i64 0,.int .i64 0] 73)=W1:=⟨_,rfl⟩
 have hb1:Below w.heap.size w W1:=by rw[<-hW1];exact (Below.refl _ _).alloc (Nat.le_refl _) _
 have hbx:Blk W1 K [.pointer (some ⟨P,0,none⟩),sv pre,.int .i64 (wd:Int),.int .i64 (rm:Int),.slice none 0 0,.int .i64 0,.int .i64 0]:=by
  rw[<-hW1,hK];exact Blk.new w [.pointer (some ⟨P,0,none⟩),sv pre,.int .i64 (wd:Int),.int .i64 (rm:Int),.slice none 0 0,.int .i64 0,.int .i64 0] _
 have HW1:=gI hW1;have HB1:=gI hb1;have HBX:=gI hbx;have HNM:=gI (zai (h.past hb1) (by omega));clear h hok hokk hT hm e1 e2 e3 hK hW1 hb1 hbx
 go_enter Tryz.func9,Tryz.ntmps9
 go_wp2_with fail
 try rw[hsz]
 refine (H1.out _).mono ?_;rintro e w1 ⟨rfl,rfl⟩
 go_wp2_with fail
 refine (H2.out _).mono ?_;rintro e w1 ⟨rfl,rfl⟩
 go_wp2_with fail
 refine (H3.out _).mono ?_;rintro e w1 ⟨rfl,rfl⟩
 go_wp2_with fail
 rw[HW1.out,<-HK.out];refine HNM.out.mono ?_;rintro e w2 ⟨A,n,c,l,rfl,hnames,hln,hn,hown,hb2⟩;have HNA:=gI hnames;have HL:=gI hln;have HB2:=gI (HB1.out.trans (hb2.mono HB1.out.size));have HOW:=gI hown;obtain ⟨H2',hH2⟩:∃H2',H2'=w2.heap.size:=⟨_,rfl⟩
 have HH2:=gI hH2;have HX2:=gI (HBX.out.past hb2);have hK2:K<w2.heap.size:=(HBX.out.past hb2).lt;have HK2:=gI hK2;have hn7:n<=1000000:=by omega
 clear hnames hln hown hb2 hH2 hK2 H1 H2 H3 hn;have hKW:K<W1.heap.size:=HBX.out.lt;have HKW:=gI hKW;have HNO:=gI (show ∀wr,Out (fun j=>j=K) w2 wr->∀(x:List UInt8) (w3:World),Below wr.heap.size wr w3->Calls Tryz.prog 30 #[.slice A n c,sv x] w3 fun e w'=>e=.returned (.bool (decide (x∈l)))/\w3=w' from fun wr ho x w3 hb3=>by
  have h1:=own_below' (zn HOW.out ho (fun k hk e=>by have:=(HOW.out.lt k hk).1;omega)) hb3;exact zjA A n c l x HL.out (by omega) (Cs.of_own h1) HNA.out.rise)
 have HLN:=gI (show l.length=n from HL.out);have HTT:=gI (show PTab w2 from HT.out.below HB2.out);have HTL:=gI (show 1<K from by
  have hc:=HT.out.at 0 (by omega);have hlt:(1:Nat)<w.heap.size:=World.block_lt_of_cell? _ _ hc;have:=HK.out
  omega)
 clear hKW
 go_wp2
 go_loopw [] (fun wr=>∃k:Nat,k<=n/\Hid (Blk wr K [.pointer (some ⟨P,0,none⟩),sv pre,.int .i64 (wd:Int),.int .i64 (rm:Int),.slice none 0 0,.int .i64 0,.int .i64 (k:Int)])/\Hid (∀i,i<k->pre++putN i∈l)/\Hid (Out (fun j=>j=K) w2 wr)) (fun wr=>n+1-zf8 wr K 6)
 case atStart=>exact ⟨0,Nat.zero_le _,HX2,gI (fun i h=>by omega),gI (.refl _ _)⟩
 case round=>
  clear HX2;obtain ⟨k,hk,HX,HA,HO⟩:=hrel;have c6:=HX.out.cell (i:=6) rfl;have f6:=HX.out.frozen 6;have hna:=QL c6;have HNM2:=gI (zhS (w:=wr) (p:=.pointer (some ⟨K,0,none⟩)) (A:=⟨K,0,none⟩) rfl (HX.out.cell (i:=1) rfl) rfl HOK.out.1.2 k (by omega) (HTT.out.out HO.out (fun e=>by have e:1=K:=e;have:=HTL.out;omega)));have HNN:=gI hna;clear hna
  go_wp2_with fail
  refine HNM2.out.mono ?_;rintro e w3 ⟨rfl,hb3⟩;have HB3:=gI hb3;clear hb3
  go_wp2_with fail
  refine (HNO.out wr HO.out _ w3 HB3.out).mono ?_;obtain ⟨b,hb⟩:∃b,b=decide (pre++putN k∈l):=⟨_,rfl⟩
  rw[<-hb];have HBD:=gI hb;clear hb;rintro e w4 ⟨rfl,rfl⟩;have HX3:=gI (HX.out.past HB3.out);have HO3:=gI (HO.out.trans (.of_below HB3.out))
  cases b with
  |false=>
   have FIN:=gI (show zk6 w P pre wd rm (fun x=>hasN X x=true) (.returned (.tuple #[.pointer (some ⟨K,0,none⟩),.int .i64 0])) w3 from by
    have hbw:Below w.heap.size w w3:=HB2.out.trans (HO3.out.below (fun j hj e=>by have e:j=K:=e;have:=HK.out;omega) HB2.out.size);have ho:=HOK.out;refine ⟨K,k,rfl,⟨⟨none,0,0,HX3.out,World.ownsRow_nil _ _ _ _,rfl,rfl⟩,by rw[HK.out];exact Nat.le_refl _,(fun e=>by cases e),⟨ho.1,ho.2.1,ho.2.2,(fun r hr=>by cases hr),Nat.zero_le _,Nat.zero_le _,show k<=1000000 by omega⟩,HT.out.below hbw,by rw[<-HK.out];exact HTL.out⟩,⟨fun i hi=>(HNA.out.mem _).1 (HA.out i hi),fun e=>?_⟩,hbw⟩;have:=(HNA.out.mem _).2 e;have h2:=HBD.out;simp[this] at h2)
   clear HNO c6 f6
   go_wp2
   go_ret2
   exact FIN.out
  |true=>
   have hA2:∀i,i<k+1->pre++putN i∈l:=fun i hi=>by
    rcases Nat.lt_or_eq_of_le (Nat.le_of_lt_succ hi) with q|q
    ·exact HA.out i q
    ·rw[q];exact of_decide_eq_true HBD.out.symm
   have hk1:k+1<=n:=by have:=za9 hA2;rw[HLN.out] at this;exact this
   have d6:=HX3.out.cell (i:=6) rfl;have g6:=HX3.out.frozen 6;have ew:wrap64 ((k:Int)+1)=(k:Int)+1:=by unfold wrap64;omega
   have HX4:=gI (show Blk (w3.setCell ⟨K,6,none⟩ (.int .i64 ((k:Int)+1))) K [.pointer (some ⟨P,0,none⟩),sv pre,.int .i64 (wd:Int),.int .i64 (rm:Int),.slice none 0 0,.int .i64 0,.int .i64 ((k+1:Nat):Int)] from HX3.out.set 6 _);have HO4:=gI (show Out (fun j=>j=K) w2 (w3.setCell ⟨K,6,none⟩ (.int .i64 ((k:Int)+1))) from HO3.out.setCell (p:=⟨K,6,none⟩) (.inl rfl) _);have HA4:=gI hA2;clear HNO c6 f6 hA2
   go_wp2
   go_roundw
   case rel=>exact ⟨k+1,hk1,HX4,HA4,HO4⟩
   case measure=>
    have h1:=QL (HX4.out.cell (i:=6) rfl);rw[h1,HNN.out];omega
end
end Go.Proofs.YtcdkopbjlakebaaGreatDoor
