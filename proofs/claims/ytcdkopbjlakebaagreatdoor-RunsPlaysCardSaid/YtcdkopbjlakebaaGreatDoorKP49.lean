/- Texts put together, for a law: MdN, MdF, MdP, MdR, MdO, MdC, MdW, MdV, MdQ, Pa, Pb. -/
import Derived.Test.YtcdkopbjlakebaaGreatDoorKP48
import Derived.Test.YtcdkopbjlakebaaGreatDoorKP44
import Derived.Test.YtcdkopbjlakebaaGreatDoorKP41
import Derived.Test.YtcdkopbjlakebaaGreatDoorKP47
import Derived.Test.YtcdkopbjlakebaaGreatDoorKP2
import Derived.Test.YtcdkopbjlakebaaGreatDoorKP14
import Derived.Test.YtcdkopbjlakebaaGreatDoorKP42
import Derived.Test.YtcdkopbjlakebaaGreatDoorKP43
import Derived.Test.YtcdkopbjlakebaaGreatDoorKP37
set_option maxRecDepth 100000
set_option maxHeartbeats 8000000
namespace Go.Proofs.YtcdkopbjlakebaaGreatDoor
section
open Go.RowKit Me Mf Rw Ds Rn Tx Fr Mw Hp Va Go.Shelf Go.Lib
variable {w w':World}
abbrev srV (R:SrD) (A:Option Addr) (n c:Nat):Value:=.agg #[sv R.pre,.int .i64 (R.wd:Int),.int .i64 (R.rm:Int),.slice A n c,.int .i64 (R.next:Int)]
abbrev srB (R:SrD) (A:Option Addr) (n c:Nat):List Value:=[sv R.pre,.int .i64 (R.wd:Int),.int .i64 (R.rm:Int),.slice A n c,.int .i64 (R.next:Int)]
def mnG (H k:Nat) (p:List UInt8):Gw.Fact:=fun t v _=>
 match t with
 |2|5=>v=.pointer (some ⟨H,0,none⟩)
 |6=>v=sv p
 |1|7=>v=.int .i64 (k:Int)
 |8=>v=.int .u64 (k:Int)
 |9=>v=sv (putN k)
 |4|10=>v=sv (p++putN k)
 |_=>True
theorem vI (R:SrD) (A:Option Addr) (n c k:Nat) (hp:R.pre.length<=1000) (hk:k<=1000000) (w:World) :
 Calls Tryz.prog 33 #[srV R A n c,.int .i64 (k:Int)] w fun e w'=>e=.returned (sv (zq R k))/\Below w.heap.size w w':=by
 obtain ⟨p,hpp⟩:∃p,p=R.pre:=⟨_,rfl⟩
 have hnm:zq R k=p++putN k:=by rw[hpp];rfl
 rw[hnm];obtain ⟨H,hH⟩:∃H,H=w.heap.size:=⟨_,rfl⟩
 obtain ⟨w1,hw1⟩:∃w1,w1=w.alloc (.cells #[sv R.pre,.int .i64 (R.wd:Int),.int .i64 (R.rm:Int),.slice A n c,.int .i64 (R.next:Int)] 38):=⟨_,rfl⟩
 have hb1:Below w.heap.size w w1:=by rw[hw1];exact (Below.refl _ _).alloc (Nat.le_refl _) _
 have BK:=gI (show Blk w1 H (srB R A n c) by rw[hw1,hH];exact Blk.new w (srB R A n c) _);have HP:=gI hpp;have HB1:=gI hb1;have HW1:=gI hw1;have HHE:=gI hH;have e1:(k:Int)%18446744073709551616=(k:Int):=by omega
 have e2:IntKind.u64.wrap (k:Int)=(k:Int):=by rw[IntKind.wrap_u64];omega
 rw[<-hpp] at hp;have HL:=gI (show ((p.length:Int)<=8388608/\((putN k).length:Int)<=8388608) from ⟨by omega,by have:=YS (n:=k) (by omega);omega⟩);clear hpp hnm hb1 hw1 hH
 go_enter Tryz.func33,Tryz.ntmps33
 go_wp2_with fail
 rw[<-HW1.out,<-HHE.out];refine Gw.zl (mnG H k p) [5,6,7,8,9,10,4] [([2],none),([5],none),([1],none),([7],none),([8],none),([6,9],none),([10],none)] 11 (by kernel_rfl) (by kernel_rfl) rfl ?h0 ?hreq ?hend
 case h0=>
  intro t W hnd _;unfold mnG
  split<;>first|rfl|trivial|exact absurd (by simp) hnd
 case hreq=>
  refine ⟨?_,?_,?_,?_,?_,?_,?_,trivial⟩
  all_goals
   intro ac W hg hk';have z0:=(BK.out.past (show Below w1.heap.size w1 W from hg)).cell (i:=0) rfl;rw[<-HP.out] at z0;have z1:=run_string_add_lists (P:=Tryz.prog) W p (putN k) HL.out.1 HL.out.2;simp only[Gw.Knows,mnG] at hk'
   try (simp[go_sem,Gw.zw,Gw.Ok,Gw.Post,Gw.Holds,mnG,Gw.zk.refl,hk',z0,z1,e1,e2];done)
  ·simp[go_sem,Gw.zw,Gw.Ok,Gw.Post,Gw.Holds,mnG,Gw.zk.refl,hk'];refine (zbY k W (by omega)).mono ?_;rintro e W' ⟨rfl,hb4⟩;exact ⟨_,rfl,hb4,fun _ _=>rfl⟩
 case hend=>
  intro x w2 hg hx;have v4:=(hx 4 (by simp)).now;simp only[mnG] at v4;have HB2:=gI (HB1.out.trans (Below.mono (show Below w1.heap.size w1 w2 from hg) HB1.out.size));clear hx hg;simp only[Gw.zm,Act.put,List.setIfInBounds_toArray,List.set_cons_zero,List.set_cons_succ];rw[v4]
  go_wp2
  go_ret
  exact ⟨rfl,HB2.out⟩
theorem zb0 {l:List (List UInt8)} {k:Nat} {x:List UInt8} (h:l[k]?=some x):(l.take (k+1)).flatten=(l.take k).flatten++x:=by rw[List.take_add_one,h];simp
theorem zbZ (l:List (List UInt8)) (k:Nat):(l.take k).flatten.length<=l.flatten.length:=by
 conv=>rhs;rw[<-List.take_append_drop k l,List.flatten_append,List.length_append]
 omega
theorem zfe (A:Option Addr) (n c:Nat) (l:List (List UInt8)) (hl:l.length=n) (hn:n<=1000000) (hb:l.flatten.length<=1048576) (w:World) (hc:Cs w w.heap.size A (l.map sv)) :
 Calls Tryz.prog 61 #[.slice A n c] w fun e w'=>e=.returned (sv (runB l))/\Below w.heap.size w w':=by
 have HL:=gI hl;have HC:=gI hc;have HF:=gI hb;obtain ⟨i0,hi0,hz0,hz1,hz2⟩:=info_parts yO;have H0:=gI (show (w.alloc (.cells #[] 5)).ownsRow w.heap.size 5 1 (.slice (some ⟨w.heap.size,0,none⟩) 0 0) 0 (cellsOf (l.take 0).flatten)/\Below w.heap.size w (w.alloc (.cells #[] 5)) from ⟨qF w _ _ (Nat.le_refl _),(Below.refl _ _).alloc (Nat.le_refl _) _⟩);clear hl hc hb
 go_enter Tryz.func61,Tryz.ntmps61
 go_wp2
 go_loopw [3,8] (fun v kv wr=>∃(k m c1:Nat) (A1:Option Addr),v=.slice A1 m c1/\kv=.int .i64 (k:Int)/\k<=n/\Hid (wr.ownsRow w.heap.size 5 1 (.slice A1 m c1) m (cellsOf (l.take k).flatten)/\(l.take k).flatten.length=m)/\Hid (Below w.heap.size w wr)) (fun _ kv _=>n-(intOf kv).toNat)
 case atStart=>exact ⟨0,0,0,_,rfl,rfl,Nat.zero_le _,gI ⟨H0.out.1,rfl⟩,gI H0.out.2⟩
 case round=>
  clear H0;obtain ⟨k,m,c1,A1,rfl,rfl,hk,HO,HB⟩:=hrel
  by_cases hlt:k<n
  ·obtain ⟨x,hx⟩:∃x,l[k]?=some x:=⟨_,List.getElem?_eq_getElem (by rw[HL.out];exact hlt)⟩
   obtain ⟨a,rfl,hab,hcl⟩:=HC.out (by rw[List.length_map,HL.out];omega);have cx:wr.cell? (a.add k)=some (sv x):=(HB.out.cell (by rw[block_add];exact hab)).trans (hcl k (sv x) (by rw[List.getElem?_map,hx];rfl));have HTF:=gI (zb0 hx);have hlen:m+x.length<=1048576:=by
    have h1:=zbZ l (k+1);rw[zb0 hx,List.length_append,HO.out.2] at h1;have:=HF.out;omega
   obtain ⟨w2,c2,hrun,hb2,hlt2,hcell,-⟩:=zbc 9 24 5 Tryz.underlying9 Tryz.underlying24 Tryz.underlying5 wr x;have HRUN:=gI hrun;have hr2:Rd w2 w2.heap.size (some ⟨wr.heap.size,0,none⟩) x:=fun _=>⟨_,rfl,hlt2,fun i u hu=>by
    have:=hcell i u hu;rw[show ((⟨wr.heap.size,0,none⟩:Addr).add i)=⟨wr.heap.size,i,none⟩ by unfold Addr.add;split<;>simp_all];exact this⟩
   have HR2:=gI hr2;have HO2:=gI (own_below HO.out.1 hb2);have HB2:=gI (HB.out.trans (hb2.mono HB.out.size));obtain ⟨xl,hxl⟩:∃xl,xl=x.length:=⟨_,rfl⟩
   rw[<-hxl] at hlen HRUN;have HXL:=gI hxl;have hlti:(k:Int)<(n:Int):=by omega
   clear hx hcl hrun hb2 hcell hr2 hxl
   go_wp2_with (first
    |(refine xQ rfl 9 24 _ rfl _ _ rfl HRUN.out ?_)
    |(at_builtin
      go_loud (refine zF rfl (.tmp 11) (.tmp 16) 24 rfl w.heap.size 5 i0 _ Tryz.underlying24 hi0 hz0 hz1 hz2 rfl (.slice A1 m c1) m _ rfl HO2.out w2.heap.size (some ⟨wr.heap.size,0,none⟩) xl c2 x rfl HXL.out.symm HR2.out (by omega) (Nat.le_trans HB.out.size (by have:=HB2.out.size;omega)) ?_)
      intro v6 w6 ho6 hg6 hn6;refine Classical.byContradiction fun hcontra=>?_))
   obtain ⟨A7,c7,hv7⟩:=zJ ho6;subst hv7;have FIN:=gI (show (w6.ownsRow w.heap.size 5 1 (.slice A7 (m+xl) c7) (m+xl) (cellsOf (l.take (k+1)).flatten)/\(l.take (k+1)).flatten.length=m+xl)/\Below w.heap.size w w6 from by
    rw[HTF.out];exact ⟨⟨ho6,by rw[List.length_append,HO.out.2,HXL.out]⟩,yj HB2.out HO2.out (Nat.le_refl _) HB2.out.size hg6⟩)
   clear ho6 hg6 hn6
   apply hcontra
   clear hcontra
   go_wp2
   go_roundw
   case rel=>exact ⟨k+1,m+xl,c7,A7,rfl,by go_num,by omega,gI FIN.out.1,gI FIN.out.2⟩
   case measure=>simp[intOf];omega
  ·have e:k=n:=by omega
   subst e;have HO9:=gI (show wr.ownsRow w.heap.size 5 1 (.slice A1 m c1) m (cellsOf l.flatten)/\l.flatten.length=m from by
    have:=HO.out
    rwa[List.take_of_length_le (by rw[HL.out];exact Nat.le_refl _)] at this)
   have HP:=gI (zcm A1 m c1 (SecD.mk 82 l.flatten) wr HO9.out.2 (by rw[<-HO9.out.2];exact HF.out) (Rd.of_own HO9.out.1));clear HO
   go_wp2_with fail
   refine HP.out.mono ?_;intro e w5 h5;obtain ⟨A5,n5,c5,rfl,hl5,-,ho5,hr5,hb5⟩:=h5.open;have e5:=xD A5 n5 c5 _ w5 _ hl5 hr5;have FIN:=gI (HB.out.trans (hb5.mono HB.out.size));clear h5 ho5 hr5 hb5
   go_wp2
   go_ret
   exact ⟨rfl,FIN.out⟩
end
section
open Go.RowKit Me Mf Rw Ds Rn Tx Fr Mw Hp Va Go.Shelf Go.Lib
variable {w w':World} {T:Nat->Prop} {R:SrD} {l:List FB}
theorem yT:(Tryz.prog.info? 38).map (·.size)=some 5:=by kernel_rfl
abbrev srA (R:SrD) (A:Option Addr) (n c:Nat):Array Value:=#[sv R.pre,.int .i64 (R.wd:Int),.int .i64 (R.rm:Int),.slice A n c,.int .i64 (R.next:Int)]
abbrev zrB:List Value:=[.string ⟨#[]⟩,.int .i64 0,.int .i64 0,.slice none 0 0,.int .i64 0]
theorem Z7 (R:SrD) (A:Option Addr) (n c:Nat):(srA R A n c).all (·.oneCell')=true:=by simp[srA,Value.oneCell']
theorem Blk.fives {a0 a1 a2 a3 a4:Value} {b:Nat} (h:Blk w b [a0,a1,a2,a3,a4]):w.cell? ⟨b,0,none⟩=some a0/\w.cell? ⟨b,1,none⟩=some a1/\w.cell? ⟨b,2,none⟩=some a2/\w.cell? ⟨b,3,none⟩=some a3/\w.cell? ⟨b,4,none⟩=some a4:=
 ⟨h.cell rfl,h.cell rfl,h.cell rfl,h.cell rfl,h.cell rfl⟩
theorem zg6 {P:Program} {w:World} {o:Oper} {rest:List Oper} {a:Act} {Q:Exit->Act->World->Prop} (x:Operand) (v:Value) (ho:o.op=.assign x) (hv:a.eval x=v) (h:Tl (Gw.zX P Q rest (a.put o.dst v) w)):Tl (Gw.zX P Q (o::rest) a w):=
 ⟨Gw.wp_assign x v ho hv h.out⟩
def zi5 (w:World) (T:Nat->Prop) (q:SrD×List FB) (e:Ending) (w':World):Prop:=
 Below w.heap.size w w'/\∃A4 n4 c4 A3 n3 c3,e=.returned (.tuple #[srV q.1 A4 n4 c4,.slice A3 n3 c3])/\SvK T A4 n4 c4 q.1.held w'/\FbK T A3 n3 c3 q.2 w'
def FcAt (H0:Nat) (res:List FB) (v:Value) (W:World):Prop:=∃(B:Nat) (A:Option Addr) (n c:Nat),v=.slice A n c/\H0<=B/\W.ownsRow B 89 2 (.slice A n c) n (fcl res)/\res.length=n
def mfG (H0 H n3 c3 n4 c4 k:Nat) (A3 A4:Option Addr) (p:List UInt8) (S:List (List UInt8)) (b:List UInt8) (res:List FB) (R:SrD):Gw.Fact:=fun t v W=>
 match t with
 |2=>v=.pointer (some ⟨H,0,none⟩)
 |1|12=>v=.slice A3 n3 c3
 |13=>v=srV R A4 n4 c4
 |14=>v=.pointer (some ⟨H,4,none⟩)
 |15=>v=.int .i64 (k:Int)
 |16=>v=sv p
 |17=>v=.pointer (some ⟨H,3,none⟩)
 |18=>v=.slice A4 n4 c4
 |19=>∃A c,v=.slice A n4 c/\Cs W W.heap.size A (S.map sv)
 |20=>v=sv b
 |21=>FcAt H0 res v W
 |_=>True
theorem XU (hok:OkR R) (hT:∀k,T k->k<w.heap.size) {A4 A3:Option Addr} {n4 c4 n3 c3:Nat} (hs:SvK T A4 n4 c4 R.held w) (hf:FbK T A3 n3 c3 l w) (hn3:n3<=100000) (hnx:R.next<1000000) :
 Calls Tryz.prog 35 #[srV R A4 n4 c4,.slice A3 n3 c3] w (zi5 w T (yH R l)):=by
 obtain ⟨H,hH⟩:∃H,H=w.heap.size:=⟨_,rfl⟩
 obtain ⟨W0,hW0⟩:∃W0,W0=(w.alloc (.cells (srA R A4 n4 c4) 38)).alloc (.cells #[.string ⟨#[]⟩,.int .i64 0,.int .i64 0,.slice none 0 0,.int .i64 0] 38):=⟨_,rfl⟩
 have hb0:Below w.heap.size w W0:=by rw[hW0];exact ((Below.refl _ _).alloc (Nat.le_refl _) _).alloc (by simp) _
 have BK:=gI (show Blk W0 H (srB R A4 n4 c4) by rw[hW0,hH];exact (Blk.new w (srB R A4 n4 c4) _).alloc _);have BZ:=gI (show Blk W0 (H+1) zrB by rw[hW0,hH];exact Blk.new' (w.alloc _) zrB _ (by simp));have HS:=gI hs;have HF:=gI hf;have HT:=gI hT;have HOK:=gI hok;have HB0:=gI hb0;have HS0:=gI (show W0.heap.size=H+2 by rw[hW0,hH];simp);have HW0:=gI hW0;have HHE:=gI hH;have hn4:n4<=4096:=by rw[<-hs.len];have:=hok.few;have:=hok.rm;omega
 have HN4:=gI hs.len;clear hs hf hT hok hb0 hW0 hH
 by_cases h0:R.held=[]
 ·have hz:n4=0:=by rw[<-HN4.out,h0];rfl
  subst hz;have FIN:=gI (show yH R l=(R,l) by unfold yH;rw[if_pos h0]);obtain ⟨c0,c1,c2,c3',c4'⟩:=BK.out.fives;clear h0
  go_enter Tryz.func35,Tryz.ntmps35
  go_upto_region 1 with fail
  rw[<-HW0.out,<-HHE.out]
  go_wp2_with (refine ze rfl 38 _ _ rfl (H+1) _ (srA R A4 0 c4) rfl rfl BZ.out rfl yT (Z7 _ _ _ _) ?_
               intro w1 hb1 ho1;have HB1:=gI hb1;have HO1:=gI ho1;clear hb1 ho1)
  obtain ⟨r0,r1,r2,r3,r4⟩:=HB1.out.fives;refine bodyPost_ret (v:=.tuple #[srV R A4 0 c4,.slice A3 n3 c3]) (by simp[results,Tryz.results35,go_sem,r0,r1,r2,r3,r4]) rfl ?_;have hb1:Below w.heap.size w w1:=HB0.out.trans (HO1.out.below (fun k _ hk=>by have:=HHE.out;omega) HB0.out.size);rw[FIN.out];exact ⟨hb1,A4,0,c4,A3,n3,c3,rfl,HS.out.past hb1,HF.out.past hb1⟩
 ·obtain ⟨x,hx⟩:∃x,x=zq R R.next:=⟨_,rfl⟩
  obtain ⟨S,hS⟩:∃S,S=zG R.held:=⟨_,rfl⟩
  obtain ⟨b,hb⟩:∃b,b=runB S:=⟨_,rfl⟩
  obtain ⟨res,hres⟩:∃res,res=zS x b l false:=⟨_,rfl⟩
  have FIN:=gI (show yH R l=({R with held:=[],next:=R.next+1},res) by unfold yH;rw[if_neg h0,hres,hb,hS,hx]);have hSl:S.length=n4:=by rw[hS,(zR _).length_eq,HN4.out]
  have hSf:S.flatten.length<=262144:=by rw[hS,perm_flatten_len (zR _)];exact Zn HOK.out
  have HX:=gI (And.intro hx (And.intro hS (And.intro hb (And.intro hres (And.intro hSl hSf)))));have d0:((n4:Int)==0)=false:=by
   rw[beq_eq_false_iff_ne];intro e;refine h0 (List.length_eq_zero_iff.1 ?_);have:=HN4.out;omega
  obtain ⟨k,hk⟩:∃k,k=R.next:=⟨_,rfl⟩
  have HK:=gI hk;have hk6:k<1000000:=by omega
  obtain ⟨c0,c1,c2,c3',c4'⟩:=BK.out.fives;clear h0 hx hS hb hres hSl hSf hk
  go_enter Tryz.func35,Tryz.ntmps35
  go_upto_region 1 with fail
  rw[<-HW0.out,<-HHE.out]
  go_wp2_with fail
  refine Y7 10 (mfG (H+2) H n3 c3 n4 c4 k A3 A4 x S b res R) [12,13,14,15,16,17,18,19,20,21] [([1],none),([2],none),([2],none),([14],none),([13,15],none),([2],none),([17],none),([18],none),([19],none),([12,16,20],none)] 30 (by kernel_rfl) (by kernel_rfl) rfl ?h0 ?hreq rfl ?hend
  case h0=>
   intro t W hnd _;unfold mfG
   split<;>first|rfl|trivial|exact absurd (by simp) hnd
  case hreq=>
   refine ⟨?_,?_,?_,?_,?_,?_,?_,?_,?_,?_,trivial⟩
   all_goals
    intro ac W hg hk';have hg':Below W0.heap.size W0 W:=hg;obtain ⟨z0,z1,z2,z3,z4⟩:=(BK.out.past hg').fives;have z5:=z4;rw[<-HK.out] at z5;simp only[Gw.Knows,mfG] at hk'
    try (simp[go_sem,Gw.zw,Gw.Ok,Gw.Post,Gw.Holds,mfG,Gw.zk.refl,hk',z0,z1,z2,z3,z4];done)
    try (simp[go_sem,Gw.zw,Gw.Ok,Gw.Post,Gw.Holds,mfG,Gw.zk.refl,hk',z5];done)
   ·simp[go_sem,Gw.zw,Gw.Ok,Gw.Post,Gw.Holds,mfG,Gw.zk.refl,hk'];refine (vI R A4 n4 c4 k (by have:=HOK.out.pre;omega) (by omega) W).mono ?_;rintro e W' ⟨rfl,hb4⟩;exact ⟨_,rfl,hb4,fun _ _=>by rw[HX.out.1,HK.out]⟩
   ·simp[go_sem,Gw.zw,Gw.Ok,Gw.Post,Gw.Holds,mfG,Gw.zk.refl,hk'];refine (Vr A4 n4 c4 R.held HN4.out (by omega) W (HS.out.past (HB0.out.trans (hg'.mono HB0.out.size))).at_.now).mono ?_;rintro e W' ⟨A,c,rfl,ho,hb4⟩;rw[<-HX.out.2.1] at ho;exact ⟨_,rfl,hb4,fun W2 hW2=>⟨A,⟨c,rfl⟩,((Cs.of_own ho).below hW2).more (Below.size hW2)⟩⟩
   ·obtain ⟨A,c,e19,hc19⟩:=hk'.1;simp[go_sem,Gw.zw,Gw.Ok,Gw.Post,Gw.Holds,mfG,Gw.zk.refl,e19];refine (zfe A n4 c S HX.out.2.2.2.2.1 (by omega) (by have:=HX.out.2.2.2.2.2;omega) W hc19).mono ?_;rintro e W' ⟨rfl,hb4⟩;exact ⟨_,rfl,hb4,fun _ _=>by rw[HX.out.2.2.1]⟩
   ·simp[go_sem,Gw.zw,Gw.Ok,Gw.Post,Gw.Holds,mfG,Gw.zk.refl,hk'];refine (zbd A3 n3 c3 l x b W HF.out.len hn3 (HF.out.past (HB0.out.trans (hg'.mono HB0.out.size))).at_.now).mono ?_;rintro e W' ⟨A,n,c,rfl,hl2,ho2,hb4⟩;rw[<-HX.out.2.2.2.1] at hl2 ho2;exact ⟨_,rfl,hb4,fun W2 hW2=>⟨W.heap.size,A,n,c,rfl,by have:=HS0.out;have:=hg'.size;omega,zn ho2 (.of_below hW2) (fun _ _=>id),hl2⟩⟩
  case hend=>
   intro y w5 hg hy;obtain ⟨B5,A5,n5,c5,y21,hB5,ho5,hl5⟩:FcAt (H+2) res (y 21) w5:=(hy 21 (by simp)).now;have hg':Below W0.heap.size W0 w5:=hg;simp only[Gw.zm,Act.put,List.setIfInBounds_toArray,List.set_cons_zero,List.set_cons_succ];rw[y21];refine zg6 (.tmp 21) (.slice A5 n5 c5) rfl rfl ?_;have BK5:=gI (BK.out.past hg');have BZ5:=gI (BZ.out.past hg');have HB5:=gI (HB0.out.trans (hg'.mono HB0.out.size));have HRO5:=gI (And.intro hB5 (And.intro ho5 hl5));have hs5:=HB5.out.size;obtain ⟨q0,q1,q2,q3,q4⟩:=BK5.out.fives;have hHlt:=BK5.out.lt;have f3:=BK5.out.frozen 3;have f4:=BK5.out.frozen 4;rw[<-HK.out] at q4;clear hg hg' hy y21 ho5 hl5 hB5 c0 c1 c2 c3' c4';refine zeD ?_;have BZ6:=gI (show Blk (((w5.setCell ⟨H,3,none⟩ (.slice (some ⟨w5.heap.size,0,none⟩) 0 0)).setCell ⟨H,4,none⟩ (.int .i64 ((k:Int)+1))).alloc (.cells #[] 9)) (H+1) zrB from ((BZ5.out.other (p:=⟨H,3,none⟩) (by show H≠H+1;omega) _).other (p:=⟨H,4,none⟩) (by show H≠H+1;omega) _).alloc _)
   have hd1:(#[sv R.pre,.int .i64 (R.wd:Int),.int .i64 (R.rm:Int),.slice (some ⟨w5.heap.size,0,none⟩) 0 0,.int .i64 ((k:Int)+1)]:Array Value).all (·.oneCell')=true:=by simp[Value.oneCell']
   have HD1:=gI hd1;clear hd1
   go_wp2_with (refine ze rfl 38 _ _ rfl (H+1) _ #[sv R.pre,.int .i64 (R.wd:Int),.int .i64 (R.rm:Int),.slice (some ⟨w5.heap.size,0,none⟩) 0 0,.int .i64 ((k:Int)+1)] rfl rfl BZ6.out rfl yT HD1.out ?_
                intro w8 hb8 ho8;have HB8:=gI hb8;have HO8:=gI ho8;clear hb8 ho8)
   obtain ⟨r0,r1,r2,r3,r4⟩:=HB8.out.fives;refine bodyPost_ret (v:=.tuple #[.agg #[sv R.pre,.int .i64 (R.wd:Int),.int .i64 (R.rm:Int),.slice (some ⟨w5.heap.size,0,none⟩) 0 0,.int .i64 ((k:Int)+1)],.slice A5 n5 c5]) (by simp[results,Tryz.results35,go_sem,r0,r1,r2,r3,r4]) rfl ?_;have ho6:Out (fun j=>j=H\/j=H+1) w5 w8:=(((((Out.refl (fun j=>j=H\/j=H+1) w5).setCell (p:=⟨H,3,none⟩) (.inl (.inl rfl)) _).setCell (p:=⟨H,4,none⟩) (.inl (.inl rfl)) _).alloc _).trans (HO8.out.more fun j _ hj=>.inr hj))
   have hb8:Below w.heap.size w w8:=HB5.out.trans (ho6.below (fun j _ hj=>by have:=HHE.out;omega) hs5);obtain ⟨hB5,hro5,hln5⟩:=HRO5.out;rw[FIN.out];refine ⟨hb8,some ⟨w5.heap.size,0,none⟩,0,0,A5,n5,c5,by rw[HK.out];rfl,⟨rfl,⟨Nat.le_refl _,by omega⟩,fun _ _=>Cs.empty⟩,FbK.of (zn hro5 ho6 fun j hj e=>?_) hln5 fun j hj=>by have:=HT.out j hj;have:=HHE.out;omega⟩;have:=(hro5.lt j hj).1;omega
end
section
open Go.RowKit Me Mf Rw Ds Rn Tx Fr Mw Hp Va Go.Shelf Go.Lib
variable {w w':World} {T:Nat->Prop} {R:SrD} {l:List FB}
theorem FbK.less {T':Nat->Prop} {A:Option Addr} {n c:Nat} (h:FbK T A n c l w) (hs:∀k,T' k->T k):FbK T' A n c l w:={h with at_:=h.at_.less fun k _ hk=>hs k hk}
theorem SvK.less {T':Nat->Prop} {A:Option Addr} {n c:Nat} {m:List (List UInt8)} (h:SvK T A n c m w) (hs:∀k,T' k->T k):SvK T' A n c m w:={h with at_:=h.at_.less fun k _ hk=>hs k hk}
def zmt (w:World) (T:Nat->Prop) (q:SrD×List FB×Int) (e:Ending) (w':World):Prop:=
 Below w.heap.size w w'/\∃A4 n4 c4 A3 n3 c3,e=.returned (.tuple #[srV q.1 A4 n4 c4,.slice A3 n3 c3,.int .i64 q.2.2])/\SvK T A4 n4 c4 q.1.held w'/\FbK T A3 n3 c3 q.2.1 w'
theorem zge (R:SrD) (l:List FB):(yH R l).1.held.length<=R.held.length:=by
 unfold yH
 split
 ·exact Nat.le_refl _
 ·exact Nat.zero_le _
theorem zcV (hok:OkR R) (hT:∀k,T k->k<w.heap.size) {A4 A3:Option Addr} {n4 c4 n3 c3:Nat} (hs:SvK T A4 n4 c4 R.held w) (hf:FbK T A3 n3 c3 l w) (hn3:n3<=100000) (hnx:R.next<1000000) (x:List UInt8) (hx:x.length<=100000) :
 Calls Tryz.prog 34 #[srV R A4 n4 c4,.slice A3 n3 c3,sv x] w (zmt w T (mput R l x)):=by
 obtain ⟨H,hH⟩:∃H,H=w.heap.size:=⟨_,rfl⟩
 obtain ⟨W0,hW0⟩:∃W0,W0=(w.alloc (.cells (srA R A4 n4 c4) 38)).alloc (.cells #[.string ⟨#[]⟩,.int .i64 0,.int .i64 0,.slice none 0 0,.int .i64 0] 38):=⟨_,rfl⟩
 have hb0:Below w.heap.size w W0:=by rw[hW0];exact ((Below.refl _ _).alloc (Nat.le_refl _) _).alloc (by simp) _
 have hs0:W0.heap.size=H+2:=by rw[hW0,hH];simp
 obtain ⟨T2,hT2⟩:∃T2:Nat->Prop,T2=fun k=>T k\/k=H\/k=H+1:=⟨_,rfl⟩
 have BK:=gI (show Blk W0 H (srB R A4 n4 c4) by rw[hW0,hH];exact (Blk.new w (srB R A4 n4 c4) _).alloc _);have BZ:=gI (show Blk W0 (H+1) zrB by rw[hW0,hH];exact Blk.new' (w.alloc _) zrB _ (by simp));have HS:=gI (hs.next (T':=fun k=>T k\/k=H\/k=H+1) (.of_below hb0) (fun j hj=>hj.imp (fun q=>q) fun q=>by omega));have HF:=gI (hf.next (T':=fun k=>T k\/k=H\/k=H+1) (.of_below hb0) (fun j hj=>hj.imp (fun q=>q) fun q=>by omega));have HT:=gI hT;have HT2:=gI (show ∀k,(T k\/k=H\/k=H+1)->k<W0.heap.size from fun k hk=>by
  have:=hb0.size;rcases hk with q|q
  ·have:=hT k q;omega
  ·omega)
 have HOK:=gI hok;have HB0:=gI hb0;have HS0:=gI hs0;have HW0:=gI hW0;have HHE:=gI hH;have hn4:n4<=4096:=by rw[<-hs.len];have:=hok.few;have:=hok.rm;omega
 have HN4:=gI hs.len;have HSw:=gI hs;have HFw:=gI hf;obtain ⟨z,hz⟩:∃z,z=x.length:=⟨_,rfl⟩
 have hsz:(ByteArray.mk x.toArray).size=z:=by rw[hz];exact List.size_toArray ..
 have HZ:=gI hz;rw[<-hz] at hx;obtain ⟨c0,c1,c2,c3',c4'⟩:=BK.out.fives;obtain ⟨i0,hi0,hz0,hz1,hz2⟩:=info_parts Yt;clear hs hf hT hb0 hW0 hH hok hz hs0 hT2
 by_cases hzw:z=R.wd
 ·have d1:((z:Int) != (R.wd:Int))=false:=by rw[hzw];simp
  by_cases hfull:n4=R.rm
  ·have d2:((n4:Int)==(R.rm:Int))=true:=by rw[hfull];simp
   have HQ:=gI (show mput R l x=({(yH R l).1 with held:=(yH R l).1.held++[x]},(yH R l).2,0) by
    unfold mput;rw[if_neg (by rw[<-HZ.out,hzw];simp)];simp only[if_pos (show R.held.length=R.rm by rw[HN4.out,hfull])])
   have HCL:=gI (XU (w:=W0) (T:=fun k=>T k\/k=H\/k=H+1) HOK.out HT2.out HS.out HF.out hn3 hnx);clear hzw hfull
   go_enter Tryz.func34,Tryz.ntmps34
   go_upto_region 1 with fail
   rw[<-HW0.out,<-HHE.out]
   go_wp2_with fail
   refine HCL.out.mono ?_;rintro e w5 ⟨hb5,A5,n5,c5,A6,n6,c6,rfl,hs5,hf5⟩;obtain ⟨R1,hR1⟩:∃R1,R1=(yH R l).1:=⟨_,rfl⟩
   obtain ⟨l1,hl1⟩:∃l1,l1=(yH R l).2:=⟨_,rfl⟩
   rw[<-hR1] at hs5 ⊢;rw[<-hl1] at hf5;rw[<-hR1,<-hl1] at HQ;have hn5:n5<=4096:=by rw[<-hs5.len,hR1];have:=zge R l;have:=HOK.out.few;have:=HOK.out.rm;omega
   have BK5:=gI (BK.out.past hb5);have BZ5:=gI (BZ.out.past hb5);have HB5:=gI (HB0.out.trans (hb5.mono HB0.out.size));have HS5:=gI hs5;have HF5:=gI hf5;have hs5':H+2<=w5.heap.size:=by have:=HS0.out;have:=hb5.size;omega
   clear hb5 hs5 hf5 hR1 hl1 HCL c0 c1 c2 c3' c4'
   go_wp2_with (refine ze rfl 38 _ _ rfl H _ (srA R1 A5 n5 c5) rfl rfl BK5.out rfl yT (Z7 _ _ _ _) ?_
                intro wz hbz hoz;refine Classical.byContradiction fun hcontra=>?_)
   have BKz:=gI (show Blk wz H (srB R1 A5 n5 c5) from hbz);have BZz:=gI (BZ5.out.out hoz (by omega));have HBz:=gI (HB5.out.trans (hoz.below (fun k _ hk=>by have:=HHE.out;omega) HB5.out.size));have HSz:=gI (HS5.out.out (hoz.more fun k _ hk=>.inr (.inl hk)));have HFz:=gI (HF5.out.out (hoz.more fun k _ hk=>.inr (.inl hk)));have hsz':H+2<=wz.heap.size:=by have:=hoz.size;omega
   clear hbz hoz
   apply hcontra
   clear hcontra;have q3:=BKz.out.cell (i:=3) rfl;have HOW:=gI (show (wz.alloc (.cells #[] 9)).ownsRow wz.heap.size 9 1 (.slice (some ⟨wz.heap.size,0,none⟩) 0 0) 0 [] from ⟨rfl,.inr ⟨wz.heap.size,0,#[],rfl,Nat.le_refl _,heap_alloc_new wz _,Nat.le_refl _,by decide,rfl,rfl⟩⟩);have HNW:=gI (show (R1.held.map sv).length=n5*1 by rw[List.length_map,HSz.out.len,Nat.mul_one]);have HRW:=gI (show 0<(R1.held.map sv).length->∃a,A5=some a/\∀j u,(R1.held.map sv)[j]?=some u->(wz.alloc (.cells #[] 9)).cell? (a.add j)=some u from fun hp=>by
    obtain ⟨a,e,hb,hc⟩:=HSz.out.at_.now hp;exact ⟨a,e,fun j u hu=>(World.cell?_alloc_lt wz _ _ (by rw[block_add];exact hb)).trans (hc j u hu)⟩)
   have HSV:=gI (show ∀u∈R1.held.map sv,u.oneCell'=true from fun u hu=>by
    obtain ⟨z,-,rfl⟩:=List.mem_map.1 hu
    rfl)
   have HMX:=gI (show 0+n5<=maxLen/\(0+n5)*16<=140737488355328 by unfold maxLen;omega);have hHz:=BKz.out.lt
   go_wp2_with (at_builtin
                go_loud (refine xh rfl (.tmp 29) (.tmp 31) 36 rfl wz.heap.size 9 i0 _ 1 16 Tryz.underlying36 hi0 hz0 hz1 hz2 rfl (by decide) (.slice (some ⟨wz.heap.size,0,none⟩) 0 0) 0 [] rfl HOW.out A5 n5 c5 (R1.held.map sv) rfl HNW.out HRW.out HSV.out HMX.out.1 HMX.out.2 (by rw[World.size_alloc];omega) ?_)
                intro v7 w7 ho7 hg7 hn7;refine Classical.byContradiction fun hcontra=>?_)
   obtain ⟨A7,c7,hv7⟩:=zJ ho7;subst hv7;rw[Nat.zero_add] at hcontra;have hb7:Below wz.heap.size wz w7:=((Below.refl _ wz).alloc (Nat.le_refl _) (.cells #[] 9)).grown hg7 (by rw[World.size_alloc];omega) (fun k e=>by cases e;exact Nat.le_refl _);have HO7:=gI (show w7.ownsRow wz.heap.size 9 1 (.slice A7 n5 c7) n5 (R1.held.map sv) from by rw[Nat.zero_add,List.nil_append] at ho7;exact ho7);have HB7:=gI hb7;have HO7a:=gI (HO7.out.alloc (.cells #[sv x] 9));have HMX8:=gI (show n5+1<=maxLen/\(n5+1)*16<=140737488355328 by unfold maxLen;omega);have hs7:=hb7.size;clear ho7 hg7 hn7 hb7 q3
   apply hcontra
   clear hcontra
   go_wp2_with (at_builtin
                go_loud (refine wpList_append_own_at _ rfl (.tmp 33) (.tmp 35) 36 rfl wz.heap.size 9 i0 _ 1 16 Tryz.underlying36 hi0 hz0 hz1 hz2 rfl (by decide) (.slice A7 n5 c7) n5 _ rfl HO7a.out ⟨w7.heap.size,0,none⟩ 1 1 [sv x] rfl rfl (cell_one_new w7 _ _) (fun u hu=>by rw[List.mem_singleton.1 hu];rfl) HMX8.out.1 HMX8.out.2 (by rw[World.size_alloc];omega) ?_)
                intro v8 w8 ho8 hg8 hnn8 hn8;refine Classical.byContradiction fun hcontra=>?_)
   obtain ⟨A8,c8,hv8⟩:=zJ ho8;subst hv8;have hb8:Below wz.heap.size wz w8:=(HB7.out.trans (((Below.refl _ w7).alloc (Nat.le_refl _) (.cells #[sv x] 9)).mono HB7.out.size)).grown hg8 (by rw[World.size_alloc];omega) (fun k e=>(HO7a.out.lt k e).1);have BK8:=gI (BKz.out.past hb8);have BZ8:=gI (BZz.out.past hb8);have HO8:=gI ho8;have HB8:=gI hb8;have hs8:=hb8.size;obtain ⟨q0,q1,q2,q3,q4⟩:=BK8.out.fives;have f3:=BK8.out.frozen 3;have hH8:=BK8.out.lt;have HZ9:=gI (show Blk (w8.setCell ⟨H,3,none⟩ (.slice A8 (n5+1) c8)) (H+1) zrB from BZ8.out.other (p:=⟨H,3,none⟩) (by show H≠H+1;omega) _);have hd1:(#[sv R1.pre,.int .i64 (R1.wd:Int),.int .i64 (R1.rm:Int),.slice A8 (n5+1) c8,.int .i64 (R1.next:Int)]:Array Value).all (·.oneCell')=true:=by simp[Value.oneCell']
   have HD1:=gI hd1;clear hd1 ho8 hg8 hnn8 hn8 hb8
   apply hcontra
   clear hcontra
   go_wp2_with (refine ze rfl 38 _ _ rfl (H+1) _ #[sv R1.pre,.int .i64 (R1.wd:Int),.int .i64 (R1.rm:Int),.slice A8 (n5+1) c8,.int .i64 (R1.next:Int)] rfl rfl HZ9.out rfl yT HD1.out ?_
                intro w9 hb9 ho9;have HB9:=gI hb9;have HO9:=gI ho9;clear hb9 ho9)
   obtain ⟨r0,r1,r2,r3,r4⟩:=HB9.out.fives;refine bodyPost_ret (v:=.tuple #[.agg #[sv R1.pre,.int .i64 (R1.wd:Int),.int .i64 (R1.rm:Int),.slice A8 (n5+1) c8,.int .i64 (R1.next:Int)],.slice A6 n6 c6,.int .i64 0]) (by simp[results,Tryz.results34,go_sem,r0,r1,r2,r3,r4]) rfl ?_;have ho89:Out (fun j=>j=H\/j=H+1) w8 w9:=((Out.refl (fun j=>j=H\/j=H+1) w8).setCell (p:=⟨H,3,none⟩) (.inl (.inl rfl)) _).trans (HO9.out.more fun j _ hj=>.inr hj);have hoz9:Out (fun j=>j=H\/j=H+1) wz w9:=(Out.of_below HB8.out).trans ho89;have hb9:Below w.heap.size w w9:=HBz.out.trans (hoz9.below (fun j _ hj=>by have:=HHE.out;omega) HBz.out.size);rw[HQ.out];refine ⟨hb9,A8,n5+1,c8,A6,n6,c6,rfl,SvK.of (zn (by have:=HO8.out;rw[List.map_append];exact this) ho89 fun j hj e=>?_) (by rw[List.length_append,HSz.out.len];rfl) fun j hj=>?_,(HFz.out.out (hoz9.more fun j _ hj=>.inr hj)).less fun j hj=>.inl hj⟩
   ·have:=(HO8.out.lt j hj).1;omega
   ·have:=HT.out j hj;have:=HBz.out.size;omega
  ·have d2:((n4:Int)==(R.rm:Int))=false:=by rw[beq_eq_false_iff_ne];omega
   have HQ:=gI (show mput R l x=({R with held:=R.held++[x]},l,0) by
    unfold mput;rw[if_neg (by rw[<-HZ.out,hzw];simp)];simp only[if_neg (show ¬R.held.length=R.rm by rw[HN4.out];exact hfull)])
   clear hzw hfull
   go_enter Tryz.func34,Tryz.ntmps34
   go_upto_region 1 with fail
   rw[<-HW0.out,<-HHE.out];have BKz:=BK;have BZz:=BZ;have HBz:=HB0;have HSz:=HS;have HFz:=HF;have hsz':H+2<=W0.heap.size:=by have:=HS0.out;omega
   have q3:=BKz.out.cell (i:=3) rfl;have HOW:=gI (show (W0.alloc (.cells #[] 9)).ownsRow W0.heap.size 9 1 (.slice (some ⟨W0.heap.size,0,none⟩) 0 0) 0 [] from ⟨rfl,.inr ⟨W0.heap.size,0,#[],rfl,Nat.le_refl _,heap_alloc_new W0 _,Nat.le_refl _,by decide,rfl,rfl⟩⟩);have HNW:=gI (show (R.held.map sv).length=n4*1 by rw[List.length_map,HSz.out.len,Nat.mul_one]);have HRW:=gI (show 0<(R.held.map sv).length->∃a,A4=some a/\∀j u,(R.held.map sv)[j]?=some u->(W0.alloc (.cells #[] 9)).cell? (a.add j)=some u from fun hp=>by
    obtain ⟨a,e,hb,hc⟩:=HSz.out.at_.now hp;exact ⟨a,e,fun j u hu=>(World.cell?_alloc_lt W0 _ _ (by rw[block_add];exact hb)).trans (hc j u hu)⟩)
   have HSV:=gI (show ∀u∈R.held.map sv,u.oneCell'=true from fun u hu=>by
    obtain ⟨z,-,rfl⟩:=List.mem_map.1 hu
    rfl)
   have HMX:=gI (show 0+n4<=maxLen/\(0+n4)*16<=140737488355328 by unfold maxLen;omega);have hHz:=BKz.out.lt
   go_wp2_with (at_builtin
                go_loud (refine xh rfl (.tmp 29) (.tmp 31) 36 rfl W0.heap.size 9 i0 _ 1 16 Tryz.underlying36 hi0 hz0 hz1 hz2 rfl (by decide) (.slice (some ⟨W0.heap.size,0,none⟩) 0 0) 0 [] rfl HOW.out A4 n4 c4 (R.held.map sv) rfl HNW.out HRW.out HSV.out HMX.out.1 HMX.out.2 (by rw[World.size_alloc];omega) ?_)
                intro v7 w7 ho7 hg7 hn7;refine Classical.byContradiction fun hcontra=>?_)
   obtain ⟨A7,c7,hv7⟩:=zJ ho7;subst hv7;rw[Nat.zero_add] at hcontra;have hb7:Below W0.heap.size W0 w7:=((Below.refl _ W0).alloc (Nat.le_refl _) (.cells #[] 9)).grown hg7 (by rw[World.size_alloc];omega) (fun k e=>by cases e;exact Nat.le_refl _);have HO7:=gI (show w7.ownsRow W0.heap.size 9 1 (.slice A7 n4 c7) n4 (R.held.map sv) from by rw[Nat.zero_add,List.nil_append] at ho7;exact ho7);have HB7:=gI hb7;have HO7a:=gI (HO7.out.alloc (.cells #[sv x] 9));have HMX8:=gI (show n4+1<=maxLen/\(n4+1)*16<=140737488355328 by unfold maxLen;omega);have hs7:=hb7.size;clear ho7 hg7 hn7 hb7 q3
   apply hcontra
   clear hcontra
   go_wp2_with (at_builtin
                go_loud (refine wpList_append_own_at _ rfl (.tmp 33) (.tmp 35) 36 rfl W0.heap.size 9 i0 _ 1 16 Tryz.underlying36 hi0 hz0 hz1 hz2 rfl (by decide) (.slice A7 n4 c7) n4 _ rfl HO7a.out ⟨w7.heap.size,0,none⟩ 1 1 [sv x] rfl rfl (cell_one_new w7 _ _) (fun u hu=>by rw[List.mem_singleton.1 hu];rfl) HMX8.out.1 HMX8.out.2 (by rw[World.size_alloc];omega) ?_)
                intro v8 w8 ho8 hg8 hnn8 hn8;refine Classical.byContradiction fun hcontra=>?_)
   obtain ⟨A8,c8,hv8⟩:=zJ ho8;subst hv8;have hb8:Below W0.heap.size W0 w8:=(HB7.out.trans (((Below.refl _ w7).alloc (Nat.le_refl _) (.cells #[sv x] 9)).mono HB7.out.size)).grown hg8 (by rw[World.size_alloc];omega) (fun k e=>(HO7a.out.lt k e).1);have BK8:=gI (BKz.out.past hb8);have BZ8:=gI (BZz.out.past hb8);have HO8:=gI ho8;have HB8:=gI hb8;have hs8:=hb8.size;obtain ⟨q0,q1,q2,q3,q4⟩:=BK8.out.fives;have f3:=BK8.out.frozen 3;have hH8:=BK8.out.lt;have HZ9:=gI (show Blk (w8.setCell ⟨H,3,none⟩ (.slice A8 (n4+1) c8)) (H+1) zrB from BZ8.out.other (p:=⟨H,3,none⟩) (by show H≠H+1;omega) _);have hd1:(#[sv R.pre,.int .i64 (R.wd:Int),.int .i64 (R.rm:Int),.slice A8 (n4+1) c8,.int .i64 (R.next:Int)]:Array Value).all (·.oneCell')=true:=by simp[Value.oneCell']
   have HD1:=gI hd1;clear hd1 ho8 hg8 hnn8 hn8 hb8
   apply hcontra
   clear hcontra
   go_wp2_with (refine ze rfl 38 _ _ rfl (H+1) _ #[sv R.pre,.int .i64 (R.wd:Int),.int .i64 (R.rm:Int),.slice A8 (n4+1) c8,.int .i64 (R.next:Int)] rfl rfl HZ9.out rfl yT HD1.out ?_
                intro w9 hb9 ho9;have HB9:=gI hb9;have HO9:=gI ho9;clear hb9 ho9)
   obtain ⟨r0,r1,r2,r3,r4⟩:=HB9.out.fives;refine bodyPost_ret (v:=.tuple #[.agg #[sv R.pre,.int .i64 (R.wd:Int),.int .i64 (R.rm:Int),.slice A8 (n4+1) c8,.int .i64 (R.next:Int)],.slice A3 n3 c3,.int .i64 0]) (by simp[results,Tryz.results34,go_sem,r0,r1,r2,r3,r4]) rfl ?_;have ho89:Out (fun j=>j=H\/j=H+1) w8 w9:=((Out.refl (fun j=>j=H\/j=H+1) w8).setCell (p:=⟨H,3,none⟩) (.inl (.inl rfl)) _).trans (HO9.out.more fun j _ hj=>.inr hj);have hoz9:Out (fun j=>j=H\/j=H+1) W0 w9:=(Out.of_below HB8.out).trans ho89;have hb9:Below w.heap.size w w9:=HBz.out.trans (hoz9.below (fun j _ hj=>by have:=HHE.out;omega) HBz.out.size);rw[HQ.out];refine ⟨hb9,A8,n4+1,c8,A3,n3,c3,rfl,SvK.of (zn (by have:=HO8.out;rw[List.map_append];exact this) ho89 fun j hj e=>?_) (by rw[List.length_append,HSz.out.len];rfl) fun j hj=>?_,(HFz.out.out (hoz9.more fun j _ hj=>.inr hj)).less fun j hj=>.inl hj⟩
   ·have:=(HO8.out.lt j hj).1;omega
   ·have:=HT.out j hj;have:=HBz.out.size;omega
 ·have d1:((z:Int) != (R.wd:Int))=true:=by simp;omega
  have HQ:=gI (show mput R l x=(R,l,3) by
   unfold mput;rw[if_pos (by rw[<-HZ.out];exact hzw)])
  clear hzw
  go_enter Tryz.func34,Tryz.ntmps34
  go_upto_region 1 with fail
  rw[<-HW0.out,<-HHE.out]
  go_wp2_with (refine ze rfl 38 _ _ rfl (H+1) _ (srA R A4 n4 c4) rfl rfl BZ.out rfl yT (Z7 _ _ _ _) ?_
               intro w1 hb1 ho1;have HB1:=gI hb1;have HO1:=gI ho1;clear hb1 ho1)
  obtain ⟨r0,r1,r2,r3,r4⟩:=HB1.out.fives;refine bodyPost_ret (v:=.tuple #[srV R A4 n4 c4,.slice A3 n3 c3,.int .i64 3]) (by simp[results,Tryz.results34,go_sem,r0,r1,r2,r3,r4]) rfl ?_;have hb1:Below w.heap.size w w1:=HB0.out.trans (HO1.out.below (fun k _ hk=>by have:=HHE.out;omega) HB0.out.size);rw[HQ.out];exact ⟨hb1,A4,n4,c4,A3,n3,c3,rfl,HSw.out.past hb1,HFw.out.past hb1⟩
end
section
open Go.RowKit Me Mf Rw Ds Rn Tx Fr Mw Hp Va Go.Shelf Go.Lib
variable {w w':World}
theorem zhm {P:Program} (src dst e:TypeId) (hs:P.underlying src=some .string) (hd:P.underlying dst=some (.slice e)) (he:P.underlying e=some (.int .u8)) (w:World) (l:List UInt8) (hl:l.length<=maxLen) :
 ∃w' c,(convert src dst (.string ⟨l.toArray⟩)).run P w=.ok (.slice (some ⟨w.heap.size,0,none⟩) l.length c) w'/\Below w.heap.size w w'/\l.length<=c/\c<=maxLen/\Rd w' w'.heap.size (some ⟨w.heap.size,0,none⟩) l:=by
 have hrun:=run_bytes_of_string (P:=P) w src dst e ⟨l.toArray⟩ hs hd he;have hsz:(⟨l.toArray⟩:ByteArray).size=l.length:=by simp[ByteArray.size]
 rw[hsz] at hrun;obtain ⟨w2,c2,hrun2,hb2,hlt2,hcell,-⟩:=zbc (P:=P) src dst e hs hd he w l;have e2:=hrun.symm.trans hrun2;injection e2 with e3 e4;injection e3 with _ _ e5;refine ⟨w2,c2,hrun2,hb2,?_,?_,fun _=>⟨_,rfl,hlt2,fun i u hu=>?_⟩⟩
 ·rw[<-e5];exact grownCap_ge w _ _ e
 ·rw[<-e5];exact grownCap_le_maxLen w _ _ e hl
 ·have:=hcell i u hu;rw[show ((⟨w.heap.size,0,none⟩:Addr).add i)=⟨w.heap.size,i,none⟩ by unfold Addr.add;split<;>simp_all];exact this
def zms (w:World) (q:List (List UInt8)×Bool) (e:Ending) (w':World):Prop:=
 ∃A n c,e=.returned (.tuple #[.slice A n c,.bool q.2])/\w'.ownsRow w.heap.size 9 1 (.slice A n c) n (q.1.map sv)/\q.1.length=n/\Below w.heap.size w w'
theorem zhJ (w:World):(w.alloc (.cells #[] 9)).ownsRow w.heap.size 9 1 (.slice (some ⟨w.heap.size,0,none⟩) 0 0) 0 (([]:List (List UInt8)).map sv):=⟨rfl,.inr ⟨w.heap.size,0,#[],rfl,Nat.le_refl _,heap_alloc_new w _,Nat.le_refl _,by decide,rfl,rfl⟩⟩
theorem zf0 {wd m:Nat} {b:List UInt8} (hw:0<wd) (h:b.length=wd*m):(pieces wd b).length=m:=by rw[xq,h,zbl hw]
theorem zd5 {pc:List (List UInt8)} {k:Nat} {x:List UInt8} (hx:pc[k]?=some x) (h:yu (pc.take k)):yu (pc.take (k+1))↔Rn.leB (Z0 (pc.take k)) x:=by
 rw[List.take_add_one,hx];exact XI.trans ⟨fun q=>q.2,fun q=>⟨h,q⟩⟩
theorem zmk {pc:List (List UInt8)} (k:Nat) (h:yu pc):yu (pc.take k):=by
 rw[<-List.take_append_drop k pc] at h;exact zcj h
theorem zlD {pc:List (List UInt8)} {k:Nat} {y:List UInt8} (hy:pc[k]?=some y):Z0 (pc.take (k+1))=y:=by
 rw[List.take_add_one,hy];exact Zm _ _
theorem zaA {g c z:Nat} {base:Nat} {e:TypeId} {xs:List Value} {p:Addr} {v:Value} (h:w.ownsRow base e z (.slice (some ⟨g,0,none⟩) 0 0) c xs) (hc:w.cell? p=some v):p.block≠g:=fun e=>by
 rcases h.2 with ⟨h1,-⟩|⟨g',cap,cur,h1,-,h2,-,-,h3,-⟩
 ·cases h1
 ·injection h1 with h1 _ h4;injection h1 with h1;injection h1 with h1;subst h1 h4;rw[Nat.zero_mul] at h3;simp[World.cell?,e,h2,Array.eq_empty_of_size_eq_zero h3] at hc
theorem zgg (b:List UInt8) (wd:Nat) (hwd:1<=wd/\wd<=64) (hb:b.length<=1073741824) (w:World) :
 Calls Tryz.prog 42 #[sv b,.int .i64 (wd:Int)] w (zms w (vH b wd)):=by
 obtain ⟨i0,hi0,hz0,hz1,hz2⟩:=info_parts Yt;obtain ⟨w0,hw0⟩:∃w0,w0=w.alloc (.cells #[] 9):=⟨_,rfl⟩
 have hb0:Below w.heap.size w w0:=by rw[hw0];exact (Below.refl _ _).alloc (Nat.le_refl _) _
 have HO0:=gI (show w0.ownsRow w.heap.size 9 1 (.slice (some ⟨w.heap.size,0,none⟩) 0 0) 0 (([]:List (List UInt8)).map sv) by rw[hw0];exact zhJ w);obtain ⟨w2,c2,hrun,hb2,hc2,hc2m,hr2⟩:=zhm 9 24 5 Tryz.underlying9 Tryz.underlying24 Tryz.underlying5 w0 b (by unfold maxLen;omega);have HRUN:=gI hrun;have HALL:=gI (zcq (some ⟨w0.heap.size,0,none⟩) b.length c2 b w2 rfl hc2 (by unfold maxLen at hc2m;omega) (by omega) hr2);have HB2:=gI (hb0.trans (hb2.mono hb0.size));have HO2:=gI (own_below HO0.out hb2);have HW0:=gI hw0;obtain ⟨M,hM⟩:∃M,M=vH b wd:=⟨_,rfl⟩
 rw[<-hM];have HM:=gI hM;clear hrun hb2 hc2 hc2m hr2 hb0 hw0 hM HO0
 go_enter Tryz.func42,Tryz.ntmps42
 go_upto_region 2 with fail
 rw[<-HW0.out]
 go_wp2_with (refine xQ rfl 9 24 _ rfl _ _ rfl HRUN.out ?_)
 refine HALL.out.mono ?_;rintro e w3 ⟨hb3,L,k,d,rfl,hk,hsec⟩;obtain ⟨q,hq⟩:∃q,q=(qO b).2:=⟨_,rfl⟩
 rw[<-hq];have HB3:=gI (HB2.out.trans (hb3.mono HB2.out.size));have HO3:=gI (own_below HO2.out hb3);have HQ:=gI hq;have HKL:=gI hk;have HSE:=gI hsec;have hbad:((qO b).2≠0\/(qO b).1.length≠1\/((qO b).1.headD vN).kind≠82\/((qO b).1.headD vN).body.length%wd≠0)->M=([],false):=fun h=>by
  rw[HM.out];unfold vH;dsimp only;rw[if_pos h]
 have HBAD:=gI hbad;clear hb3 hk hsec hq hbad HALL
 by_cases h1:q=0
 ·subst h1
  by_cases h2:k=1
  ·subst h2;obtain ⟨a,s,As,ns,cs,rfl,hs0,hab,g0,g1,hbl,hbn,hbr,hcap⟩:=zab.at HSE.out (k:=0) (by rw[HKL.out];omega);have hhd:(qO b).1.headD vN=s:=by
    cases h4:(qO b).1 with
    |nil=>rw[h4] at hs0;cases hs0
    |cons x l=>rw[h4] at hs0;injection hs0
   rw[hhd] at HBAD
   by_cases h3:s.kind=82
   ·by_cases h4:ns%wd=0
    ·have d3:((s.kind.toNat:Int) != 82)=false:=by rw[h3];rfl
     have d4:((ns:Int)%(wd:Int) != 0)=false:=by
      simp
      omega
     have hns:ns<=1073741824:=by
      rcases za8 b with ⟨s',h5,h6⟩|⟨-,h5⟩
      ·have h7:s'=s:=by rw[h6] at hs0;simpa using hs0
       rcases vg b with ⟨x,h8,h9⟩|⟨s2,n2,h8,h9,h10,-⟩
       ·rw[h5] at h8;injection h8 with _ h8;injection h8 with _ h8;exact absurd h8.symm h9
       ·rw[h5] at h8;injection h8 with h8;rw[<-h7,h8] at hbl;omega
      ·rcases h5 with h5|h5
       ·exact absurd HQ.out.symm h5
       ·exact absurd HKL.out h5
     obtain ⟨m,hm⟩:=Nat.dvd_of_mod_eq_zero h4;have hm2:s.body.length=wd*m:=by rw[hbl,hm]
     have hpl:=zf0 (wd:=wd) (m:=m) (b:=s.body) (by omega) hm2;obtain ⟨pc,hpc⟩:∃pc,pc=pieces wd s.body:=⟨_,rfl⟩
     rw[<-hpc] at hpl;have hM2:M=if yu pc then (pc,true) else ([],false):=by
      rw[HM.out];unfold vH
      dsimp only
      rw[if_neg (by rw[hhd,<-HQ.out,HKL.out,h3,hbl,h4];simp),hhd,<-hpc]
     have HM2:=gI hM2;have HPL:=gI hpl;have HPC:=gI hpc;have HBR:=gI hbr;have HHM:=gI hm;have HBL:=gI hbl;rw[Nat.zero_mul,add_zero'] at g0 g1;clear HBAD HM hs0 hhd hm2 hM2 hpl hpc hbr HRUN HB2 HO2 hm hbl
     go_wp2
     go_loopw [6,9] (fun v kv wr=>∃(k c1:Nat) (A1:Option Addr),v=.slice A1 k c1/\kv=.int .i64 ((wd*k:Nat):Int)/\k<=m/\Hid (wr.ownsRow w.heap.size 9 1 (.slice A1 k c1) k ((pc.take k).map sv))/\Hid (∀j,(Value.slice A1 k c1).ownBlock=some j->j=w.heap.size\/w3.heap.size<=j)/\Hid (Out (fun j=>j=w.heap.size) w3 wr)/\Hid (yu (pc.take k))) (fun _ kv _=>ns-(intOf kv).toNat)
     case atStart=>exact ⟨0,0,_,rfl,rfl,Nat.zero_le _,HO3,gI (fun j e=>by injection e with e;exact .inl e.symm),gI (Out.refl _ _),gI List.Pairwise.nil⟩
     case round=>
      obtain ⟨k,c1,A1,rfl,rfl,hk,HO,HBK,HOUT,HRS⟩:=hrel;obtain ⟨t,ht⟩:∃t,t=wd*k:=⟨_,rfl⟩
      rw[<-ht];have hna:a.block≠w.heap.size:=zaA HO3.out g0;have g2:wr.cell? {block:=a.block,off:=a.off+1}=some (.slice As ns cs):=(HOUT.out.cell (p:=⟨a.block,a.off+1,none⟩) hab hna).trans g1;have HT:=gI ht
      by_cases hlt:k<m
      ·have hle:t+wd<=ns:=by
        rw[HHM.out,ht]
        calc wd*k+wd=wd*(k+1):=by rw[Nat.mul_succ]
         _<=wd*m:=Nat.mul_le_mul_left _ hlt
       obtain ⟨x,hx⟩:∃x,pc[k]?=some x:=⟨_,List.getElem?_eq_getElem (by rw[HPL.out];exact hlt)⟩
       have hxe:x=(s.body.drop t).take wd:=by
        have h5:=XM (w:=wd) (b:=s.body) (k:=k) (by rw[<-xq,<-HPC.out,HPL.out];exact hlt);rw[<-HPC.out,hx,<-ht] at h5;injection h5
       obtain ⟨a0,rfl,hab0,hcl0⟩:=HBR.out (by rw[HBL.out];omega);have hn0:a0.block≠w.heap.size:=by
        have h5:=hcl0 0 _ (List.getElem?_eq_getElem (by rw[HBL.out];omega));have:=zaA HO3.out h5
        rwa[block_add] at this
       have HRX:=gI (show Rd wr wr.heap.size (some (a0.add t)) x from by
        have h6:Rd wr wr.heap.size (some a0) s.body:=fun _=>⟨a0,rfl,by have:=HOUT.out.size;omega,fun j u hu=>(HOUT.out.cell (by rw[block_add];exact hab0) (by rw[block_add];exact hn0)).trans (hcl0 j u hu)⟩
        rw[hxe];have h7:=(h6.drop (k:=t) (cap:=ns) (by rw[HBL.out];exact Nat.le_refl _)).take wd;rw[if_neg (by omega)] at h7;exact h7)
       have hxl:x.length=wd:=by rw[hxe,List.length_take,List.length_drop,HBL.out];omega
       have e5:=xD (some (a0.add t)) wd (cs-t) x wr _ hxl HRX.out;have d5:decide ((t:Int)<(ns:Int))=true:=by simp;omega
       have v1:IntKind.i64.wrap ((t:Int)+(wd:Int))=(t:Int)+wd:=IntWalk.i64_in _ (by omega);have q1:(t:Int)<=(t:Int)+wd:=by omega
       have q2:(t:Int)+wd<=(cs:Int):=by omega
       have q3:¬cs=t:=by omega
       have q4:((t:Int)+wd).toNat-t=wd:=by omega
       have HX:=gI hx;clear hx hxe hcl0 ht;have HOA:=gI (HO.out.alloc (.cells #[sv x] 9));have HMX:=gI (show k+1<=maxLen/\(k+1)*16<=140737488355328 by
        have h8:m<=ns:=by rw[HHM.out];exact Nat.le_mul_of_pos_left m hwd.1
        unfold maxLen
        omega)
       have hws:=HB3.out.size;have hrs:=HOUT.out.size;have HNX:=gI (show yu (pc.take (k+1))->∀v7 w7,w7.ownsRow w.heap.size 9 1 v7 (k+1) ((pc.take k).map sv++[sv x])->(wr.alloc (.cells #[sv x] 9)).grownBy w7 (Value.slice A1 k c1).ownBlock->(v7.ownBlock=(Value.slice A1 k c1).ownBlock\/v7.ownBlock=some (wr.alloc (.cells #[sv x] 9)).heap.size) ->
        ∃c7 A7,v7=.slice A7 (k+1) c7/\Hid (w7.ownsRow w.heap.size 9 1 (.slice A7 (k+1) c7) (k+1) ((pc.take (k+1)).map sv))/\Hid (∀j,(Value.slice A7 (k+1) c7).ownBlock=some j->j=w.heap.size\/w3.heap.size<=j)/\Hid (Out (fun j=>j=w.heap.size) w3 w7)/\Hid (yu (pc.take (k+1))) from fun hri v7 w7 ho7 hg7 hn7=>by
        obtain ⟨A7,c7,hv7⟩:=zJ ho7;subst hv7;refine ⟨c7,A7,rfl,gI ?_,gI fun j hj=>?_,gI ?_,gI hri⟩
        ·rw[List.take_add_one,HX.out,List.map_append];exact ho7
        ·rcases hn7 with h|h
         ·exact HBK.out j (h.symm.trans hj)
         ·rw[h] at hj;injection hj with hj;rw[World.size_alloc] at hj;exact .inr (by omega)
        ·exact (HOUT.out.alloc _).grown hg7 fun j hj=>HBK.out j hj)
       have HEQ:wd*(k+1)=t+wd:=by rw[HT.out,Nat.mul_succ]
       have HE1:=gI HEQ;clear HEQ;rcases Nat.eq_zero_or_pos k with rfl|hk0
       ·have HRI:=gI ((zd5 HX.out HRS.out).2 (zd7 x))
        go_wp2_with (at_builtin
                     go_loud (refine wpList_append_own_at _ rfl (.tmp 77) (.tmp 79) 36 rfl w.heap.size 9 i0 _ 1 16 Tryz.underlying36 hi0 hz0 hz1 hz2 rfl (by decide) (.slice A1 0 c1) 0 _ rfl HOA.out ⟨wr.heap.size,0,none⟩ 1 1 [sv x] rfl rfl (cell_one_new wr _ _) (fun u hu=>by rw[List.mem_singleton.1 hu];rfl) HMX.out.1 HMX.out.2 (by rw[World.size_alloc];omega) ?_)
                     intro v7 w7 ho7 hg7 hnn7 hn7;refine Classical.byContradiction fun hcontra=>?_)
        obtain ⟨c7,A7,rfl,F1,F2,F3,F4⟩:=HNX.out HRI.out v7 w7 ho7 hg7 hn7;clear ho7 hg7 hnn7 hn7
        apply hcontra
        clear hcontra
        go_wp2
        go_roundw
        case rel=>exact ⟨1,c7,A7,rfl,by rw[HE1.out];rfl,hlt,F1,F2,F3,F4⟩
        case measure=>simp[intOf];omega
       ·obtain ⟨k1,rfl⟩:∃k1,k=k1+1:=⟨k-1,by omega⟩
        obtain ⟨y,hy⟩:∃y,pc[k1]?=some y:=⟨_,List.getElem?_eq_getElem (by rw[HPL.out];omega)⟩
        have HLY:=gI (zlD hy);obtain ⟨a1,hA1,-,hcl1⟩:=Cs.of_own HO.out (by rw[List.length_map,List.length_take,HPL.out];omega);subst hA1;have cy:wr.cell? (a1.add k1)=some (sv y):=hcl1 k1 (sv y) (by rw[List.getElem?_map,List.getElem?_take,if_pos (by omega),hy];rfl);clear hcl1 hy;have hk9:k1+1<=1073741824:=by
         have h8:m<=ns:=by rw[HHM.out];exact Nat.le_mul_of_pos_left m hwd.1
         omega
        cases hcmp:Op.bytesLess x y with
        |true=>
         have HBADR:=gI (show M=([],false) by
          rw[HM2.out,if_neg];intro h;have h1:=(zd5 HX.out HRS.out).1 (zmk _ h);rw[HLY.out] at h1;have h2:Op.bytesLess x y=false:=h1;rw[hcmp] at h2
          cases h2)
         have hq:=zbt y x;rw[hcmp,Bool.not_true,Bool.or_eq_false_iff] at hq;obtain ⟨hq1,hq2⟩:=hq
         go_wp2_with fail
         go_ret2
         rw[HBADR.out];exact ⟨_,0,0,rfl,⟨rfl,.inr ⟨wr.heap.size,0,#[],rfl,by omega,heap_alloc_new wr _,Nat.le_refl _,by decide,rfl,rfl⟩⟩,rfl,(HB3.out.trans (HOUT.out.below (fun j _ hj=>by omega) HB3.out.size)).alloc (by omega) _⟩
        |false=>
         have HRI:=gI ((zd5 HX.out HRS.out).2 (by rw[HLY.out];exact hcmp));have hq:=zbt y x;rw[hcmp,Bool.not_false] at hq;obtain ⟨p1,hp1⟩:∃p,Op.bytesLess y x=p:=⟨_,rfl⟩
         obtain ⟨p2,hp2⟩:∃p,(y==x)=p:=⟨_,rfl⟩
         rw[hp1,hp2] at hq
         cases p1<;>cases p2
         ·cases hq
         all_goals
          go_wp2_with (at_builtin
                       go_loud (refine wpList_append_own_at _ rfl (.tmp 77) (.tmp 79) 36 rfl w.heap.size 9 i0 _ 1 16 Tryz.underlying36 hi0 hz0 hz1 hz2 rfl (by decide) (.slice (some a1) (k1+1) c1) (k1+1) _ rfl HOA.out ⟨wr.heap.size,0,none⟩ 1 1 [sv x] rfl rfl (cell_one_new wr _ _) (fun u hu=>by rw[List.mem_singleton.1 hu];rfl) HMX.out.1 HMX.out.2 (by rw[World.size_alloc];omega) ?_)
                       intro v7 w7 ho7 hg7 hnn7 hn7;refine Classical.byContradiction fun hcontra=>?_)
          obtain ⟨c7,A7,rfl,F1,F2,F3,F4⟩:=HNX.out HRI.out v7 w7 ho7 hg7 hn7;clear ho7 hg7 hnn7 hn7
          apply hcontra
          clear hcontra
          go_wp2
          go_roundw
          case rel=>exact ⟨k1+1+1,c7,A7,rfl,by rw[HE1.out];rfl,hlt,F1,F2,F3,F4⟩
          case measure=>simp[intOf];omega
      ·have e:k=m:=by omega
       subst e;have htn:t=ns:=by rw[HHM.out,ht]
       clear ht;have HGOOD:=gI (show M=(pc,true)/\wr.ownsRow w.heap.size 9 1 (.slice A1 k c1) k (pc.map sv) from by
        have e1:=List.take_of_length_le (Nat.le_of_eq HPL.out);have h1:=HRS.out;have h2:=HO.out;rw[e1] at h1 h2;exact ⟨by rw[HM2.out,if_pos h1],h2⟩)
       go_wp2
       go_ret2
       rw[HGOOD.out.1];exact ⟨A1,k,c1,rfl,HGOOD.out.2,HPL.out,HB3.out.trans (HOUT.out.below (fun j _ hj=>by omega) HB3.out.size)⟩
    ·have HE:=gI (HBAD.out (.inr (.inr (.inr (by rw[hbl];exact h4)))));have d3:((s.kind.toNat:Int) != 82)=false:=by rw[h3];rfl
     have d4:((ns:Int)%(wd:Int) != 0)=true:=by
      simp
      omega
     rw[Nat.zero_mul,add_zero'] at g0 g1
     go_wp2_with fail
     go_ret2
     rw[HE.out];exact ⟨_,0,0,rfl,HO3.out,rfl,HB3.out⟩
   ·have HE:=gI (HBAD.out (.inr (.inr (.inl h3))));have d3:((s.kind.toNat:Int) != 82)=true:=by
     simp
     intro h
     apply h3
     have h5:s.kind.toNat=82:=by omega
     exact UInt8.toNat_inj.1 h5
    rw[Nat.zero_mul,add_zero'] at g0 g1
    go_wp2_with fail
    go_ret2
    rw[HE.out];exact ⟨_,0,0,rfl,HO3.out,rfl,HB3.out⟩
  ·have d2:((k:Int) != 1)=true:=by simp;omega
   have HE:=gI (HBAD.out (.inr (.inl (by rw[HKL.out];exact h2))))
   go_wp2_with fail
   go_ret2
   rw[HE.out];exact ⟨_,0,0,rfl,HO3.out,rfl,HB3.out⟩
 ·have d1:(q != 0)=true:=by simp[h1]
  have HE:=gI (HBAD.out (.inl (by rw[<-HQ.out];exact h1)))
  go_wp2_with fail
  go_ret2
  rw[HE.out];exact ⟨_,0,0,rfl,HO3.out,rfl,HB3.out⟩
end
section
open Go.RowKit Me Mf Rw Ds Rn Tx Fr Mw Hp Va Go.Shelf Go.Lib
variable {w w':World} {T:Nat->Prop} {R:SrD} {l:List FB}
theorem zmh {w n:Nat} (hw:0<w):pcs w n<=n:=by
 by_cases h:pcs w n=0
 ·omega
 ·have h1:pcs w n-1<pcs w n:=by omega
  have h2:=(zay hw).1 h1;have h3:pcs w n-1<=w*(pcs w n-1):=Nat.le_mul_of_pos_left _ hw;omega
theorem zcR {b:List UInt8} {wd:Nat} (hw:0<wd):(vH b wd).1.length<=b.length:=by
 unfold vH
 dsimp only
 split
 ·exact Nat.zero_le _
 ·rename_i h
  split
  ·show (pieces wd _).length<=_
   rw[xq];refine Nat.le_trans (zmh hw) ?_;rcases za8 b with ⟨s,h1,h2⟩|⟨-,h2⟩
   ·rw[h2];show s.body.length<=_
    rcases vg b with ⟨x,h8,h9⟩|⟨s2,n2,h8,h9,-,h10⟩
    ·rw[h1] at h8;injection h8 with _ h8;injection h8 with _ h8;exact absurd h8.symm h9
    ·rw[h1] at h8;injection h8 with h8;rw[h8];omega
   ·exfalso
    refine h ?_;rcases h2 with h2|h2
    ·exact .inl h2
    ·exact .inr (.inl h2)
  ·exact Nat.zero_le _
def MrAt (H0:Nat) (q:List (List UInt8)×Bool) (v:Value) (W:World):Prop:=∃(B:Nat) (A:Option Addr) (n c:Nat),v=.tuple #[.slice A n c,.bool q.2]/\H0<=B/\W.ownsRow B 9 1 (.slice A n c) n (q.1.map sv)/\q.1.length=n
def MtAt (H0:Nat) (m:List (List UInt8)) (v:Value) (W:World):Prop:=∃(B:Nat) (A:Option Addr) (n c:Nat),v=.slice A n c/\H0<=B/\W.ownsRow B 9 1 (.slice A n c) n (m.map sv)/\m.length=n
theorem MrAt.grows {H0:Nat} {q:List (List UInt8)×Bool} {v:Value} (h:MrAt H0 q v w) (hb:Below w.heap.size w w'):MrAt H0 q v w':=by
 obtain ⟨B,A,n,c,e,hB,ho,hl⟩:=h;exact ⟨B,A,n,c,e,hB,zn ho (.of_below hb) (fun _ _=>id),hl⟩
theorem MtAt.grows {H0:Nat} {m:List (List UInt8)} {v:Value} (h:MtAt H0 m v w) (hb:Below w.heap.size w w'):MtAt H0 m v w':=by
 obtain ⟨B,A,n,c,e,hB,ho,hl⟩:=h;exact ⟨B,A,n,c,e,hB,zn ho (.of_below hb) (fun _ _=>id),hl⟩
theorem zj7 {wd k n:Nat} {cont:Nat->List UInt8} {all:List (List UInt8)} {q:List (List UInt8)×Bool} (hk:k<n) (hq:q=vH (cont k) wd) :
 mgo wd cont k (n-k) all=if q.2 then mgo wd cont (k+1) (n-(k+1)) (all++q.1) else ([],5):=by
 obtain ⟨d,hd⟩:∃d,n-k=d+1:=⟨n-k-1,by omega⟩
 rw[hd,show n-(k+1)=d by omega,mgo,hq]
def moG (H0 H n3 c3 j wd:Nat) (a:Addr) (b:List UInt8) (q:List (List UInt8)×Bool):Gw.Fact:=fun t v W=>
 match t with
 |2=>v=.pointer (some ⟨H,0,none⟩)
 |1|34=>v=.slice (some a) n3 c3
 |8|35=>v=.int .i64 (j:Int)
 |36=>v=.pointer (some (a.add (j*2)))
 |37=>v=.pointer (some ⟨(a.add (j*2)).block,(a.add (j*2)).off+1,none⟩)
 |38=>v=sv b
 |39=>v=.pointer (some ⟨H,1,none⟩)
 |40=>v=.int .i64 (wd:Int)
 |41|33=>MrAt H0 q v W
 |42|10=>MtAt H0 q.1 v W
 |43|11=>v=.bool q.2
 |_=>True
def zi4 (w:World) (q:List (List UInt8)×Int) (e:Ending) (w':World):Prop:=
 ∃A n c,e=.returned (.tuple #[.slice A n c,.int .i64 q.2])/\w'.ownsRow w.heap.size 9 1 (.slice A n c) n (q.1.map sv)/\q.1.length=n/\Below w.heap.size w w'
theorem zcQ (hok:OkR R) (cont:Nat->List UInt8) {A4 A3:Option Addr} {n4 c4 n3 c3:Nat} (hs:SvK T A4 n4 c4 R.held w) (hf:FbK T A3 n3 c3 l w) (hn3:n3<=100000) (hnx:R.next<=90)
 (hrun:∀i,i<R.next->∃(j:Nat) (f:FB),X6 l (zq R i)=((j:Int),true)/\l[j]?=some f/\f.2=cont i) (hlen:∀i,i<R.next->(cont i).length<=1048576) :
 Calls Tryz.prog 15 #[srV R A4 n4 c4,.slice A3 n3 c3] w (zi4 w (mgo R.wd cont 0 R.next R.held)):=by
 obtain ⟨i0,hi0,hz0,hz1,hz2⟩:=info_parts Yt;obtain ⟨H,hH⟩:∃H,H=w.heap.size:=⟨_,rfl⟩
 obtain ⟨W0,hW0⟩:∃W0,W0=w.alloc (.cells (srA R A4 n4 c4) 38):=⟨_,rfl⟩
 have hb0:Below w.heap.size w W0:=by rw[hW0];exact (Below.refl _ _).alloc (Nat.le_refl _) _
 have BK:=gI (show Blk W0 H (srB R A4 n4 c4) by rw[hW0,hH];exact Blk.new w (srB R A4 n4 c4) _);have HS:=gI hs;have HF:=gI hf;have HOK:=gI hok;have HB0:=gI hb0;have HS0:=gI (show W0.heap.size=H+1 by rw[hW0,hH];simp);have HW0:=gI hW0;have HHE:=gI hH;have hn4:n4<=4096:=by rw[<-hs.len];have:=hok.few;have:=hok.rm;omega
 have HN4:=gI hs.len;have HRUN:=gI hrun;have HLEN:=gI hlen;obtain ⟨M,hM⟩:∃M,M=mgo R.wd cont 0 R.next R.held:=⟨_,rfl⟩
 rw[<-hM];have HM:=gI hM;have HNW:=gI (show (R.held.map sv).length=n4*1 by rw[List.length_map,hs.len,Nat.mul_one]);have HW1:=gI (show (W0.alloc (.cells #[] 9)).ownsRow W0.heap.size 9 1 (.slice (some ⟨W0.heap.size,0,none⟩) 0 0) 0 [] from ⟨rfl,.inr ⟨W0.heap.size,0,#[],rfl,Nat.le_refl _,heap_alloc_new W0 _,Nat.le_refl _,by decide,rfl,rfl⟩⟩);have HRW:=gI (show 0<(R.held.map sv).length->∃a,A4=some a/\∀j u,(R.held.map sv)[j]?=some u->(W0.alloc (.cells #[] 9)).cell? (a.add j)=some u from fun hp=>by
  obtain ⟨a,e,hb,hc⟩:=(hs.past hb0).at_.now hp;exact ⟨a,e,fun j u hu=>(World.cell?_alloc_lt W0 _ _ (by rw[block_add];exact hb)).trans (hc j u hu)⟩)
 have HSV:=gI (show ∀u∈R.held.map sv,u.oneCell'=true from fun u hu=>by
  obtain ⟨z,-,rfl⟩:=List.mem_map.1 hu
  rfl)
 have HMX:=gI (show 0+n4<=maxLen/\(0+n4)*16<=140737488355328 by unfold maxLen;omega);clear hs hf hok hb0 hW0 hH hrun hlen hM;obtain ⟨c0,c1,c2,c3',c4'⟩:=BK.out.fives;have hHlt:=BK.out.lt
 go_enter Tryz.func15,Tryz.ntmps15
 go_upto_region 1 with fail
 rw[<-HW0.out,<-HHE.out]
 go_wp2_with (at_builtin
              go_loud (refine xh rfl (.tmp 12) (.tmp 14) 36 rfl W0.heap.size 9 i0 _ 1 16 Tryz.underlying36 hi0 hz0 hz1 hz2 rfl (by decide) (.slice (some ⟨W0.heap.size,0,none⟩) 0 0) 0 [] rfl HW1.out A4 n4 c4 (R.held.map sv) rfl HNW.out HRW.out HSV.out HMX.out.1 HMX.out.2 (by rw[World.size_alloc];omega) ?_)
              intro v7 w7 ho7 hg7 hn7;refine Classical.byContradiction fun hcontra=>?_)
 obtain ⟨A7,c7,hv7⟩:=zJ ho7;subst hv7;rw[Nat.zero_add] at hcontra;have HO7:=gI (show w7.ownsRow W0.heap.size 9 1 (.slice A7 n4 c7) n4 (R.held.map sv) from by rw[Nat.zero_add,List.nil_append] at ho7;exact ho7);have HB7:=gI (((Below.refl _ W0).alloc (Nat.le_refl _) (.cells #[] 9)).grown hg7 (by rw[World.size_alloc];omega) (fun k e=>by cases e;exact Nat.le_refl _));clear ho7 hg7 hn7
 apply hcontra
 clear hcontra
 go_wp2
 go_loopw [6,7] (fun v kv wr=>∃(k m c:Nat) (A:Option Addr) (all:List (List UInt8)),v=.slice A m c/\kv=.int .i64 (k:Int)/\k<=R.next/\Hid (wr.ownsRow W0.heap.size 9 1 (.slice A m c) m (all.map sv))/\Hid (mgo R.wd cont k (R.next-k) all=M/\all.length=m/\m<=4096+1048576*k)/\Hid (Below W0.heap.size W0 wr)) (fun _ kv _=>R.next-(intOf kv).toNat)
 case atStart=>exact ⟨0,n4,c7,A7,R.held,rfl,rfl,Nat.zero_le _,HO7,gI ⟨HM.out.symm,HN4.out,by omega⟩,HB7⟩
 case round=>
  obtain ⟨k,m,c,A,all,rfl,rfl,hk,HO,HG,HB⟩:=hrel;clear HO7 HB7 HRW HW1;have BKr:=gI (BK.out.past HB.out);obtain ⟨z0,z1,z2,z3,z4⟩:=BKr.out.fives;have hHr:=BKr.out.lt;have hk90:R.next<=90:=hnx;have hrs:=HB.out.size;have HBW:=gI (HB0.out.trans (HB.out.mono HB0.out.size))
  by_cases hlt:k<R.next
  ·obtain ⟨j,f,hj1,hj2,hj3⟩:=HRUN.out k hlt;have HJ1:=gI hj1;have HJ2:=gI hj2;have HJ3:=gI hj3;clear hj1 hj2 hj3
   go_wp2_with fail
   refine (vI R A4 n4 c4 k (by have:=HOK.out.pre;omega) (by omega) wr).mono ?_;rintro e w2 ⟨rfl,hb2⟩;have HB2:=gI (HB.out.trans (hb2.mono HB.out.size));have HO2:=gI (own_below HO.out hb2);have HF2:=gI (HF.out.past (HB0.out.trans (HB2.out.mono HB0.out.size)));clear hb2
   go_wp2_with fail
   refine (zcl A3 n3 c3 l (zq R k) w2 HF2.out.len (by omega) HF2.out.at_.now).mono ?_;rintro e w3 ⟨rfl,rfl⟩;rw[HJ1.out];obtain ⟨a,rfl,-,hcf⟩:=Xu HF2.out.at_.now HJ2.out;have HCF:=gI hcf;have hj3:(j:Int)<(n3:Int):=by
    have:=(List.getElem?_eq_some_iff.1 HJ2.out).1;have:=HF2.out.len;omega
   obtain ⟨b,hb⟩:∃b,b=f.2:=⟨_,rfl⟩
   have HBF:=gI (And.intro hb (show b=cont k/\b.length<=1048576 from ⟨hb.trans HJ3.out,by rw[hb,HJ3.out];exact HLEN.out k hlt⟩));obtain ⟨q,hq⟩:∃q,q=vH b R.wd:=⟨_,rfl⟩
   have HQ:=gI hq;have BK2:=gI (BK.out.past HB2.out);clear hcf hb hq z0 z1 z2 z3 z4
   go_wp2_with fail
   refine Gw.zl (moG W0.heap.size H n3 c3 j R.wd a b q) [34,35,36,37,38,39,40,41,33,42,43,10,11] [([1],none),([8],none),([34,35],none),([36],none),([37],none),([2],none),([39],none),([38,40],none),([41],none),([33],none),([33],none),([42],none),([43],none)] 52 (by kernel_rfl) (by kernel_rfl) rfl ?h0 ?hreq ?hend
   case h0=>
    intro t W hnd _;unfold moG
    split<;>first|rfl|trivial|exact absurd (by simp) hnd
   case hreq=>
    refine ⟨?_,?_,?_,?_,?_,?_,?_,?_,?_,?_,?_,?_,?_,trivial⟩
    all_goals
     intro ac W hg hk';have hg':Below w2.heap.size w2 W:=hg;obtain ⟨z0,z1,z2,z3,z4⟩:=(BK2.out.past hg').fives;have zf:W.cell? ⟨(a.add (j*2)).block,(a.add (j*2)).off+1,none⟩=some (sv b):=by
      rw[HBF.out.1];exact (hg'.cell (World.block_lt_of_cell? _ _ HCF.out)).trans HCF.out
     simp only[Gw.Knows,moG] at hk'
     try (simp[go_sem,Gw.zw,Gw.Ok,Gw.Post,Gw.Holds,moG,Gw.zk.refl,hk',hj3,zf,z0,z1,z2,z3,z4];done)
    ·simp[go_sem,Gw.zw,Gw.Ok,Gw.Post,Gw.Holds,moG,Gw.zk.refl,hk'];refine (zgg b R.wd HOK.out.wd (by have:=HBF.out.2.2;omega) W).mono ?_;rintro e W' ⟨A6,n6,c6,rfl,ho,hl6,hb4⟩;rw[<-HQ.out] at ho hl6;have hge:W0.heap.size<=W.heap.size:=Nat.le_trans HB2.out.size hg'.size;exact ⟨_,rfl,hb4,fun W2 hW2=>⟨W.heap.size,A6,n6,c6,by rw[HQ.out],hge,zn ho (.of_below hW2) (fun _ _=>id),hl6⟩⟩
    ·simp[go_sem,Gw.zw,Gw.Ok,Gw.Post,Gw.Holds,moG,Gw.zk.refl];exact fun W2 hW2=>hk'.1.grows hW2
    ·obtain ⟨B6,A6,n6,c6,e6,hB6,ho6,hl6⟩:=hk'.1;simp[go_sem,Gw.zw,Gw.Ok,Gw.Post,Gw.Holds,moG,Gw.zk.refl,e6];exact fun W2 hW2=>MtAt.grows ⟨B6,A6,n6,c6,rfl,hB6,ho6,hl6⟩ hW2
    ·obtain ⟨B6,A6,n6,c6,e6,hB6,ho6,hl6⟩:=hk'.1;simp[go_sem,Gw.zw,Gw.Ok,Gw.Post,Gw.Holds,moG,Gw.zk.refl,e6]
    ·simp[go_sem,Gw.zw,Gw.Ok,Gw.Post,Gw.Holds,moG,Gw.zk.refl];exact fun W2 hW2=>hk'.1.grows hW2
   case hend=>
    intro y w5 hg hy;have y11:y 11=.bool q.2:=(hy 11 (by simp)).now;obtain ⟨B6,A6,n6,c6,y10,hB6,ho6,hl6⟩:MtAt W0.heap.size q.1 (y 10) w5:=(hy 10 (by simp)).now;have hg':Below w2.heap.size w2 w5:=hg;simp only[Gw.zm,Act.put,List.setIfInBounds_toArray,List.set_cons_zero,List.set_cons_succ];rw[y10,y11];have HO5:=gI (own_below HO2.out hg');have HB5:=gI (HB2.out.trans (hg'.mono HB2.out.size));have HQO:=gI (And.intro ho6 hl6);have hs5:=HB5.out.size;have HSTEP:=gI (zj7 (wd:=R.wd) (all:=all) hlt (show q=vH (cont k) R.wd by rw[HQ.out,HBF.out.2.1]));clear hg hg' hy y10 y11 ho6 hl6 hB6
    cases hq2:q.2 with
    |false=>
     have HE:=gI (show M=([],5) by rw[<-HG.out.1,HSTEP.out,hq2];rfl)
     go_wp2
     go_ret2
     rw[HE.out];exact ⟨_,0,0,rfl,⟨rfl,.inr ⟨w5.heap.size,0,#[],rfl,by have:=HB0.out.size;omega,heap_alloc_new w5 _,Nat.le_refl _,by decide,rfl,rfl⟩⟩,rfl,(HB0.out.trans (HB5.out.mono HB0.out.size)).alloc (by have:=HB0.out.size;omega) _⟩
    |true=>
     have hql:n6<=1048576:=by
      rw[<-HQO.out.2,HQ.out];exact Nat.le_trans (zcR HOK.out.wd.1) HBF.out.2.2
     have HNW:=gI (show (q.1.map sv).length=n6*1 by rw[List.length_map,HQO.out.2,Nat.mul_one]);have HRW:=gI (show 0<(q.1.map sv).length->∃a,A6=some a/\∀j u,(q.1.map sv)[j]?=some u->w5.cell? (a.add j)=some u from fun hp=>by
      obtain ⟨a,e,-,hc⟩:=Cs.of_own HQO.out.1 hp;exact ⟨a,e,hc⟩)
     have HSV6:=gI (show ∀u∈q.1.map sv,u.oneCell'=true from fun u hu=>by
      obtain ⟨z,-,rfl⟩:=List.mem_map.1 hu
      rfl)
     have HMX6:=gI (show m+n6<=maxLen/\(m+n6)*16<=140737488355328 by have:=HG.out.2.2;unfold maxLen;omega)
     go_wp2_with (at_builtin
                  go_loud (refine xh rfl (.tmp 47) (.tmp 48) 36 rfl W0.heap.size 9 i0 _ 1 16 Tryz.underlying36 hi0 hz0 hz1 hz2 rfl (by decide) (.slice A m c) m (all.map sv) rfl HO5.out A6 n6 c6 (q.1.map sv) rfl HNW.out HRW.out HSV6.out HMX6.out.1 HMX6.out.2 hs5 ?_)
                  intro v7 w7 ho7 hg7 hn7;refine Classical.byContradiction fun hcontra=>?_)
     obtain ⟨A8,c8,hv8⟩:=zJ ho7;subst hv8;have HO8:=gI (show w7.ownsRow W0.heap.size 9 1 (.slice A8 (m+n6) c8) (m+n6) ((all++q.1).map sv) from by rw[List.map_append];exact ho7);have HB8:=gI (HB5.out.grown hg7 hs5 (fun k e=>(HO5.out.lt k e).1));have HG8:=gI (show mgo R.wd cont (k+1) (R.next-(k+1)) (all++q.1)=M/\(all++q.1).length=m+n6/\m+n6<=4096+1048576*(k+1) from ⟨by rw[<-HG.out.1,HSTEP.out,hq2];rfl,by rw[List.length_append,HG.out.2.1,HQO.out.2],by have:=HG.out.2.2;omega⟩);clear ho7 hg7 hn7
     apply hcontra
     clear hcontra
     go_wp2
     go_roundw
     case rel=>exact ⟨k+1,m+n6,c8,A8,all++q.1,rfl,by go_num,hlt,HO8,HG8,HB8⟩
     case measure=>simp[intOf];omega
  ·have e:k=R.next:=by omega
   subst e;have HE:=gI (show M=(zG all,0) by rw[<-HG.out.1,Nat.sub_self];rfl)
   go_wp2_with fail
   refine (Vr A m c all HG.out.2.1 (by have:=HG.out.2.2;omega) wr (Cs.of_own HO.out)).mono ?_;rintro e w5 ⟨A5,c5,rfl,ho5,hb5⟩;have HO5:=gI ho5;have HB5:=gI hb5;clear ho5 hb5
   go_wp2
   go_ret2
   rw[HE.out];exact ⟨A5,m,c5,rfl,zU HO5.out (by have:=HB0.out.size;omega),by rw[(zR _).length_eq];exact HG.out.2.1,HBW.out.trans (HB5.out.mono HBW.out.size)⟩
end
section
open Go.RowKit Me Mf Rw Ds Rn Tx Fr Mw Hp Va Go.Shelf Go.Lib
variable {w w':World} {T:Nat->Prop} {R:SrD} {l:List FB}
theorem vG (R:SrD) (l:List FB):∀n,(qW R n l).length<=l.length
 |0=>Nat.le_refl _
 |n+1=>Nat.le_trans (List.length_filter_le _ _) (vG R l n)
theorem XV (hpre:R.pre.length<=1000) (hT:∀k,T k->k<w.heap.size) {A4 A3:Option Addr} {n4 c4 n3 c3:Nat} (hf:FbK T A3 n3 c3 l w) (hn3:n3<=100000) (hnx:R.next<=1000000) :
 Calls Tryz.prog 37 #[srV R A4 n4 c4,.slice A3 n3 c3] w (zi5 w T (mclear R l)):=by
 obtain ⟨H,hH⟩:∃H,H=w.heap.size:=⟨_,rfl⟩
 obtain ⟨W0,hW0⟩:∃W0,W0=(w.alloc (.cells (srA R A4 n4 c4) 38)).alloc (.cells #[.string ⟨#[]⟩,.int .i64 0,.int .i64 0,.slice none 0 0,.int .i64 0] 38):=⟨_,rfl⟩
 have hb0:Below w.heap.size w W0:=by rw[hW0];exact ((Below.refl _ _).alloc (Nat.le_refl _) _).alloc (by simp) _
 have BK:=gI (show Blk W0 H (srB R A4 n4 c4) by rw[hW0,hH];exact (Blk.new w (srB R A4 n4 c4) _).alloc _);have BZ:=gI (show Blk W0 (H+1) zrB by rw[hW0,hH];exact Blk.new' (w.alloc _) zrB _ (by simp));have hs0:W0.heap.size=H+2:=by rw[hW0,hH];simp
 obtain ⟨T2,hT2⟩:∃T2:Nat->Prop,T2=fun k=>T k\/k=H\/k=H+1:=⟨_,rfl⟩
 have HF0:=gI (show FbK T2 A3 n3 c3 l W0 from hf.next (.of_below hb0) fun j hj=>by
  rw[hT2] at hj;rcases hj with h|h
  ·exact .inl h
  ·exact .inr (by omega))
 have HT:=gI hT;have HT2:=gI hT2;have HTL:=gI (show ∀k,T2 k->k<H+2 from fun k hk=>by
  rw[hT2] at hk;rcases hk with h|h
  ·have:=hT k h;omega
  ·omega)
 have HB0:=gI hb0;have HS0:=gI hs0;have HW0:=gI hW0;have HHE:=gI hH;have HN3:=gI hf.len;clear hf hT hb0 hW0 hH hs0 hT2
 go_enter Tryz.func37,Tryz.ntmps37
 go_upto_region 1 with fail
 rw[<-HW0.out,<-HHE.out]
 go_wp2
 go_loopw [1,6] (fun v kv wr=>∃(k n c:Nat) (A:Option Addr),v=.slice A n c/\kv=.int .i64 (k:Int)/\k<=R.next/\Hid (FbK T2 A n c (qW R k l) wr)/\Hid (Below W0.heap.size W0 wr)) (fun _ kv _=>R.next-(intOf kv).toNat)
 case atStart=>exact ⟨0,n3,c3,A3,rfl,rfl,Nat.zero_le _,HF0,gI (Below.refl _ _)⟩
 case round=>
  obtain ⟨k,n,c,A,rfl,rfl,hk,HF,HB⟩:=hrel;clear HF0;have BKr:=gI (BK.out.past HB.out);have BZr:=gI (BZ.out.past HB.out);obtain ⟨z0,z1,z2,z3,z4⟩:=BKr.out.fives;have hHr:=BKr.out.lt;have hrs:=HB.out.size;have HBW:=gI (HB0.out.trans (HB.out.mono HB0.out.size));have hn:n<=100000:=by
   have:=HF.out.len;have:=vG R l k;have:=HN3.out;omega
  by_cases hlt:k<R.next
  ·go_wp2_with fail
   refine (vI R A4 n4 c4 k hpre (by omega) wr).mono ?_;rintro e w2 ⟨rfl,hb2⟩;have HB2:=gI (HB.out.trans (hb2.mono HB.out.size));have HF2:=gI (HF.out.past hb2);clear hb2
   go_wp2_with fail
   refine (zcb A n c (qW R k l) (zq R k) w2 HF2.out.len (by omega) HF2.out.at_.now).mono ?_;rintro e w3 ⟨A6,n6,c6,rfl,hl6,ho6,hb6⟩;have HB3:=gI (HB2.out.trans (hb6.mono HB2.out.size));have HF3:=gI (show FbK T2 A6 n6 c6 (qW R (k+1) l) w3 from FbK.of ho6 hl6 fun j hj=>by
    have:=HTL.out j hj;have:=HB2.out.size;have:=HS0.out
    omega)
   clear hl6 ho6 hb6
   go_wp2
   go_roundw
   case rel=>exact ⟨k+1,n6,c6,A6,rfl,by go_num,hlt,HF3,HB3⟩
   case measure=>simp[intOf];omega
  ·have e:k=R.next:=by omega
   subst e;have f3:=BKr.out.frozen 3;have f4:=BKr.out.frozen 4;have BZ6:=gI (show Blk (((wr.setCell ⟨H,3,none⟩ (.slice (some ⟨wr.heap.size,0,none⟩) 0 0)).setCell ⟨H,4,none⟩ (.int .i64 0)).alloc (.cells #[] 9)) (H+1) zrB from ((BZr.out.other (p:=⟨H,3,none⟩) (by show H≠H+1;omega) _).other (p:=⟨H,4,none⟩) (by show H≠H+1;omega) _).alloc _);have hd1:(#[sv R.pre,.int .i64 (R.wd:Int),.int .i64 (R.rm:Int),.slice (some ⟨wr.heap.size,0,none⟩) 0 0,.int .i64 0]:Array Value).all (·.oneCell')=true:=by simp[Value.oneCell']
   have HD1:=gI hd1;clear hd1
   go_wp2_with (refine ze rfl 38 _ _ rfl (H+1) _ #[sv R.pre,.int .i64 (R.wd:Int),.int .i64 (R.rm:Int),.slice (some ⟨wr.heap.size,0,none⟩) 0 0,.int .i64 0] rfl rfl BZ6.out rfl yT HD1.out ?_
                intro w8 hb8 ho8;have HB8:=gI hb8;have HO8:=gI ho8;clear hb8 ho8)
   obtain ⟨r0,r1,r2,r3,r4⟩:=HB8.out.fives;refine bodyPost_ret (v:=.tuple #[.agg #[sv R.pre,.int .i64 (R.wd:Int),.int .i64 (R.rm:Int),.slice (some ⟨wr.heap.size,0,none⟩) 0 0,.int .i64 0],.slice A n c]) (by simp[results,Tryz.results37,go_sem,r0,r1,r2,r3,r4]) rfl ?_;have ho6:Out (fun j=>j=H\/j=H+1) wr w8:=(((((Out.refl (fun j=>j=H\/j=H+1) wr).setCell (p:=⟨H,3,none⟩) (.inl (.inl rfl)) _).setCell (p:=⟨H,4,none⟩) (.inl (.inl rfl)) _).alloc _).trans (HO8.out.more fun j _ hj=>.inr hj))
   have hb8:Below w.heap.size w w8:=HBW.out.trans (ho6.below (fun j _ hj=>by have:=HHE.out;omega) (by have:=HHE.out;omega));refine ⟨hb8,some ⟨wr.heap.size,0,none⟩,0,0,A,n,c,rfl,⟨rfl,⟨Nat.le_refl _,by omega⟩,fun _ _=>Cs.empty⟩,(HF.out.out (ho6.more fun j _ hj=>?_)).less fun j hj=>?_⟩
   ·rw[HT2.out];exact .inr hj
   ·rw[HT2.out];exact .inl hj
end
section
open Go.RowKit Me Mf Rw Ds Rn Tx Fr Mw Hp Va Go.Shelf Go.Lib
variable {w w':World} {T:Nat->Prop} {R:SrD} {l:List FB}
theorem Qt (hpre:R.pre.length<=1000) (hT:∀k,T k->k<w.heap.size) {A4 A3 A2:Option Addr} {n4 c4 n3 c3 n2 c2:Nat} {m:List (List UInt8)} (hf:FbK T A3 n3 c3 l w) (hn3:n3<=100000) (hnx:R.next<=1000000) (hm:SvK T A2 n2 c2 m w) (hn2:n2<=1000000) (hmf:m.flatten.length<=1048576) :
 Calls Tryz.prog 41 #[srV R A4 n4 c4,.slice A3 n3 c3,.slice A2 n2 c2] w (zi5 w T (yP R l m)):=by
 obtain ⟨H,hH⟩:∃H,H=w.heap.size:=⟨_,rfl⟩
 obtain ⟨W0,hW0⟩:∃W0,W0=(w.alloc (.cells (srA R A4 n4 c4) 38)).alloc (.cells #[.string ⟨#[]⟩,.int .i64 0,.int .i64 0,.slice none 0 0,.int .i64 0] 38):=⟨_,rfl⟩
 have hb0:Below w.heap.size w W0:=by rw[hW0];exact ((Below.refl _ _).alloc (Nat.le_refl _) _).alloc (by simp) _
 have BK:=gI (show Blk W0 H (srB R A4 n4 c4) by rw[hW0,hH];exact (Blk.new w (srB R A4 n4 c4) _).alloc _);have BZ:=gI (show Blk W0 (H+1) zrB by rw[hW0,hH];exact Blk.new' (w.alloc _) zrB _ (by simp));have hs0:W0.heap.size=H+2:=by rw[hW0,hH];simp
 obtain ⟨T2,hT2⟩:∃T2:Nat->Prop,T2=fun k=>T k\/k=H\/k=H+1:=⟨_,rfl⟩
 have hnew:∀j,T2 j->T j\/w.heap.size<=j:=fun j hj=>by
  rw[hT2] at hj;rcases hj with h|h
  ·exact .inl h
  ·exact .inr (by omega)
 have HF0:=gI (show FbK T2 A3 n3 c3 l W0 from hf.next (.of_below hb0) hnew);have HM0:=gI (show SvK T2 A2 n2 c2 m W0 from hm.next (.of_below hb0) hnew);have HT:=gI hT;have HT2:=gI hT2;have HTL:=gI (show ∀k,T2 k->k<H+2 from fun k hk=>by
  rw[hT2] at hk;rcases hk with h|h
  ·have:=hT k h;omega
  ·omega)
 have HB0:=gI hb0;have HS0:=gI hs0;have HW0:=gI hW0;have HHE:=gI hH;have HN3:=gI hf.len;have HMF:=gI hmf;obtain ⟨R1,hR1⟩:∃R1,R1=(mclear R l).1:=⟨_,rfl⟩
 obtain ⟨l1,hl1⟩:∃l1,l1=(mclear R l).2:=⟨_,rfl⟩
 have hR1p:R1.pre=R.pre:=by rw[hR1];rfl
 have hl1n:l1.length<=100000:=by rw[hl1];have:=vG R l R.next;have:=hf.len;show (qW R R.next l).length<=_;omega
 have HR1:=gI (And.intro hR1 (And.intro hl1 (And.intro hR1p hl1n)));have HR1f:=gI (show R1.next=0/\R1.held=[] by rw[hR1];exact ⟨rfl,rfl⟩);have hc2m:=hm.cap.2;clear hf hT hb0 hW0 hH hs0 hT2 hm hnew hmf hR1 hl1 hR1p hl1n;obtain ⟨z0,z1,z2,z3,z4⟩:=BK.out.fives
 go_enter Tryz.func41,Tryz.ntmps41
 go_upto_region 1 with fail
 rw[<-HW0.out,<-HHE.out]
 go_wp2_with fail
 refine (XV (T:=T2) (R:=R) (l:=l) (w:=W0) hpre (fun k hk=>by have:=HTL.out k hk;have:=HS0.out;omega) HF0.out hn3 hnx).mono ?_;rw[show mclear R l=(R1,l1) by rw[HR1.out.1,HR1.out.2.1]];rintro e w2 ⟨hb2,A5,n5,c5,A6,n6,c6,rfl,hs2,hf2⟩;have HB2:=gI (HB0.out.trans (hb2.mono HB0.out.size));have BK2:=gI (BK.out.past hb2);have BZ2:=gI (BZ.out.past hb2);have HM2:=gI (HM0.out.past hb2);have HS2:=gI (show SvK T2 A5 n5 c5 R1.held w2 from hs2);have HF2:=gI (show FbK T2 A6 n6 c6 l1 w2 from hf2);have HZ2:=gI (show w2.heap.size>=H+2 by have:=hb2.size;have:=HS0.out;omega);clear hb2 hs2 hf2 z0 z1 z2 z3 z4;have hn6:n6<=100000:=by have:=HF2.out.len;have:=HR1.out.2.2.2;omega
 go_wp2_with (refine ze rfl 38 _ _ rfl H _ (srA R1 A5 n5 c5) rfl rfl BK2.out rfl yT (Z7 _ _ _ _) ?_
              intro w3 hb3 ho3;refine Classical.byContradiction fun hcontra=>?_)
 have BK3:=gI (show Blk w3 H (srB R1 A5 n5 c5) from hb3);have hoT:Out (fun j=>j=H\/j=H+1) w2 w3:=ho3.more fun j _ hj=>.inl hj
 have HOT:=gI hoT;have BZ3:=gI (show Blk w3 (H+1) zrB from BZ2.out.out ho3 (by show ¬H+1=H;omega));have hin:∀j,j<w2.heap.size->(j=H\/j=H+1)->T2 j:=fun j _ hj=>by rw[HT2.out];exact .inr hj
 have HM3:=gI (HM2.out.out (hoT.more hin));have HS3:=gI (HS2.out.out (hoT.more hin));have HF3:=gI (HF2.out.out (hoT.more hin));have HB3:=gI (show Below w.heap.size w w3 from HB2.out.trans (hoT.below (fun j _ hj=>by have:=HHE.out;omega) HB2.out.size));have hz3:H+2<=w3.heap.size:=by have:=HZ2.out;have:=ho3.size;omega
 clear hb3 ho3 hoT hin
 apply hcontra
 clear hcontra;obtain ⟨z0,z1,z2,z3,z4⟩:=BK3.out.fives;have hHr:=BK3.out.lt
 by_cases hm0:m=[]
 ·have e2:n2=0:=by rw[<-HM3.out.len,hm0];rfl
  subst e2;have HE:=gI (show yP R l m=(R1,l1) by unfold yP;rw[if_pos hm0,HR1.out.1,HR1.out.2.1]);clear hm0;have hd1:(#[sv R1.pre,.int .i64 (R1.wd:Int),.int .i64 (R1.rm:Int),.slice A5 n5 c5,.int .i64 (R1.next:Int)]:Array Value).all (·.oneCell')=true:=by simp[Value.oneCell']
  have HD1:=gI hd1;clear hd1
  go_wp2_with (refine ze rfl 38 _ _ rfl (H+1) _ #[sv R1.pre,.int .i64 (R1.wd:Int),.int .i64 (R1.rm:Int),.slice A5 n5 c5,.int .i64 (R1.next:Int)] rfl rfl BZ3.out rfl yT HD1.out ?_
               intro w8 hb8 ho8;have HB8:=gI hb8;have HO8:=gI ho8;clear hb8 ho8)
  obtain ⟨r0,r1,r2,r3,r4⟩:=HB8.out.fives;refine bodyPost_ret (v:=.tuple #[.agg #[sv R1.pre,.int .i64 (R1.wd:Int),.int .i64 (R1.rm:Int),.slice A5 n5 c5,.int .i64 (R1.next:Int)],.slice A6 n6 c6]) (by simp[results,Tryz.results41,go_sem,r0,r1,r2,r3,r4]) rfl ?_;rw[HE.out];have ho8:Out (fun j=>j=H\/j=H+1) w3 w8:=HO8.out.more fun j _ hj=>.inr hj
  exact ⟨HB3.out.trans (ho8.below (fun j _ hj=>by have:=HHE.out;omega) HB3.out.size),A5,n5,c5,A6,n6,c6,rfl,(HS3.out.out (ho8.more fun j _ hj=>by rw[HT2.out];exact .inr hj)).less fun j hj=>by rw[HT2.out];exact .inl hj,(HF3.out.out (ho8.more fun j _ hj=>by rw[HT2.out];exact .inr hj)).less fun j hj=>by rw[HT2.out];exact .inl hj⟩
 ·have hn0:0<n2:=by
   have:=HM3.out.len;have:=List.length_pos_iff.2 hm0;omega
  have HE:=gI (show yP R l m=({R1 with next:=1},zS (zq R 0) (runB m) l1 false) by unfold yP;rw[if_neg hm0,HR1.out.1,HR1.out.2.1]);clear hm0
  go_wp2_with fail
  refine (vI R1 A5 n5 c5 0 (by rw[HR1.out.2.2.1];exact hpre) (by omega) w3).mono ?_;rintro e w4 ⟨rfl,hb4⟩;have HN1:=gI (zgd (R:=R) (R':=R1) HR1.out.2.2.1 0);have HB4:=gI hb4;clear hb4;rw[HN1.out]
  go_wp2_with fail
  refine (zfe A2 n2 c2 m HM3.out.len hn2 HMF.out w4 (HM3.out.past HB4.out).at_.now).mono ?_;rintro e w5 ⟨rfl,hb5⟩;have HB5:=gI (HB4.out.trans (hb5.mono HB4.out.size));clear hb5
  go_wp2_with fail
  refine (zbd A6 n6 c6 l1 (zq R 0) (runB m) w5 HF3.out.len (by omega) (HF3.out.past HB5.out).at_.now).mono ?_;rintro e w6 ⟨A7,n7,c7,rfl,hl7,ho7,hb7⟩;have HB6:=gI (HB5.out.trans (hb7.mono HB5.out.size));have BK6:=gI (BK3.out.past HB6.out);have BZ6:=gI (BZ3.out.past HB6.out);have hs6:=HB6.out.size;have HS6:=gI (HS3.out.past HB6.out);have HF6:=gI (show FbK T2 A7 n7 c7 (zS (zq R 0) (runB m) l1 false) w6 from FbK.of ho7 hl7 fun j hj=>by
   have:=HTL.out j hj;have:=HB5.out.size
   omega)
  clear hb7 ho7 hl7 z0 z1 z2 z3 z4 hHr;obtain ⟨z0,z1,z2,z3,z4⟩:=BK6.out.fives;have hHr:=BK6.out.lt;have f4:=BK6.out.frozen 4;have BZ7:=gI (show Blk (w6.setCell ⟨H,4,none⟩ (.int .i64 1)) (H+1) zrB from BZ6.out.other (p:=⟨H,4,none⟩) (by show H≠H+1;omega) _);have hd1:(#[sv R1.pre,.int .i64 (R1.wd:Int),.int .i64 (R1.rm:Int),.slice A5 n5 c5,.int .i64 1]:Array Value).all (·.oneCell')=true:=by simp[Value.oneCell']
  have HD1:=gI hd1;clear hd1
  go_wp2_with (refine ze rfl 38 _ _ rfl (H+1) _ #[sv R1.pre,.int .i64 (R1.wd:Int),.int .i64 (R1.rm:Int),.slice A5 n5 c5,.int .i64 1] rfl rfl BZ7.out rfl yT HD1.out ?_
               intro w8 hb8 ho8;have HB8:=gI hb8;have HO8:=gI ho8;clear hb8 ho8)
  obtain ⟨r0,r1,r2,r3,r4⟩:=HB8.out.fives;refine bodyPost_ret (v:=.tuple #[.agg #[sv R1.pre,.int .i64 (R1.wd:Int),.int .i64 (R1.rm:Int),.slice A5 n5 c5,.int .i64 1],.slice A7 n7 c7]) (by simp[results,Tryz.results41,go_sem,r0,r1,r2,r3,r4]) rfl ?_;rw[HE.out];have ho8:Out (fun j=>j=H\/j=H+1) w6 w8:=((Out.refl (fun j=>j=H\/j=H+1) w6).setCell (p:=⟨H,4,none⟩) (.inl (.inl rfl)) _).trans (HO8.out.more fun j _ hj=>.inr hj);have HB7:=HB3.out.trans (HB6.out.mono HB3.out.size);exact ⟨HB7.trans (ho8.below (fun j _ hj=>by have:=HHE.out;omega) HB7.size),A5,n5,c5,A7,n7,c7,rfl,(HS6.out.out (ho8.more fun j _ hj=>by rw[HT2.out];exact .inr hj)).less fun j hj=>by rw[HT2.out];exact .inl hj,(HF6.out.out (ho8.more fun j _ hj=>by rw[HT2.out];exact .inr hj)).less fun j hj=>by rw[HT2.out];exact .inl hj⟩
end
section
open Go.RowKit Me Mf Rw Ds Rn Tx Fr Mw Hp Va Go.Shelf Go.Lib
variable {w w':World} {T:Nat->Prop} {R:SrD} {l:List FB}
abbrev zrA:Array Value:=#[.string ⟨#[]⟩,.int .i64 0,.int .i64 0,.slice none 0 0,.int .i64 0]
theorem zj5 (fv:Value) (pre:List UInt8) (wz rz:Int) (hp:pre.length<=9223372036854775807) (w:World) (h:Xl pre wz rz=false) :
 Calls Tryz.prog 10 #[fv,sv pre,.int .i64 wz,.int .i64 rz] w fun e w'=>e=.returned (.tuple #[.agg zrA,.int .i64 1])/\Below w.heap.size w w':=by
 obtain ⟨H,hH⟩:∃H,H=w.heap.size:=⟨_,rfl⟩
 obtain ⟨W0,hW0⟩:∃W0,W0=w.alloc (.cells zrA 38):=⟨_,rfl⟩
 have HB0:=gI (show Below w.heap.size w W0 by rw[hW0];exact (Below.refl _ _).alloc (Nat.le_refl _) _);have BZ:=gI (show Blk W0 H zrB by rw[hW0,hH];exact Blk.new w zrB _);have HHE:=gI hH;have HW0:=gI hW0;have hd:(((pre.length:Int)<1)\/((16:Int)<(pre.length:Int))\/wz<1\/(64:Int)<wz\/rz<1\/(4096:Int)<rz):=by
  unfold Xl at h;simp only[Bool.and_eq_false_iff,decide_eq_false_iff_not] at h;omega
 have HZ:=gI (show zrA.all (·.oneCell')=true by simp[Value.oneCell']);have HBZ:=gI (show ∀w1,Out (fun k=>k=H) W0 w1->Below w.heap.size w w1 from fun w1 ho=>HB0.out.trans (ho.below (fun j _ hj=>by omega) HB0.out.size));clear h hH hW0
 by_cases g0:(pre.length:Int)<1
 ·have d0:decide ((pre.length:Int)<1)=true:=by simpa using g0
  go_enter Tryz.func10,Tryz.ntmps10
  go_upto_region 1 with fail
  rw[<-HW0.out,<-HHE.out]
  go_wp2_with (refine ze rfl 38 _ _ rfl H _ zrA rfl rfl BZ.out rfl yT HZ.out ?_
               intro w1 hb1 ho1;have HB1:=gI hb1;have HO1:=gI ho1;clear hb1 ho1)
  obtain ⟨r0,r1,r2,r3,r4⟩:=HB1.out.fives;exact bodyPost_ret (v:=.tuple #[.agg zrA,.int .i64 1]) (by simp[results,Tryz.results10,go_sem,r0,r1,r2,r3,r4]) rfl ⟨rfl,HBZ.out w1 HO1.out⟩
 have d0:decide ((pre.length:Int)<1)=false:=by simpa using g0
 by_cases g1:(16:Int)<(pre.length:Int)
 ·have d1:decide ((16:Int)<(pre.length:Int))=true:=by simpa using g1
  go_enter Tryz.func10,Tryz.ntmps10
  go_upto_region 1 with fail
  rw[<-HW0.out,<-HHE.out]
  go_wp2_with (refine ze rfl 38 _ _ rfl H _ zrA rfl rfl BZ.out rfl yT HZ.out ?_
               intro w1 hb1 ho1;have HB1:=gI hb1;have HO1:=gI ho1;clear hb1 ho1)
  obtain ⟨r0,r1,r2,r3,r4⟩:=HB1.out.fives;exact bodyPost_ret (v:=.tuple #[.agg zrA,.int .i64 1]) (by simp[results,Tryz.results10,go_sem,r0,r1,r2,r3,r4]) rfl ⟨rfl,HBZ.out w1 HO1.out⟩
 have d1:decide ((16:Int)<(pre.length:Int))=false:=by simpa using g1
 by_cases g2:wz<1
 ·have d2:decide (wz<1)=true:=by simpa using g2
  go_enter Tryz.func10,Tryz.ntmps10
  go_upto_region 1 with fail
  rw[<-HW0.out,<-HHE.out]
  go_wp2_with (refine ze rfl 38 _ _ rfl H _ zrA rfl rfl BZ.out rfl yT HZ.out ?_
               intro w1 hb1 ho1;have HB1:=gI hb1;have HO1:=gI ho1;clear hb1 ho1)
  obtain ⟨r0,r1,r2,r3,r4⟩:=HB1.out.fives;exact bodyPost_ret (v:=.tuple #[.agg zrA,.int .i64 1]) (by simp[results,Tryz.results10,go_sem,r0,r1,r2,r3,r4]) rfl ⟨rfl,HBZ.out w1 HO1.out⟩
 have d2:decide (wz<1)=false:=by simpa using g2
 by_cases g3:(64:Int)<wz
 ·have d3:decide ((64:Int)<wz)=true:=by simpa using g3
  go_enter Tryz.func10,Tryz.ntmps10
  go_upto_region 1 with fail
  rw[<-HW0.out,<-HHE.out]
  go_wp2_with (refine ze rfl 38 _ _ rfl H _ zrA rfl rfl BZ.out rfl yT HZ.out ?_
               intro w1 hb1 ho1;have HB1:=gI hb1;have HO1:=gI ho1;clear hb1 ho1)
  obtain ⟨r0,r1,r2,r3,r4⟩:=HB1.out.fives;exact bodyPost_ret (v:=.tuple #[.agg zrA,.int .i64 1]) (by simp[results,Tryz.results10,go_sem,r0,r1,r2,r3,r4]) rfl ⟨rfl,HBZ.out w1 HO1.out⟩
 have d3:decide ((64:Int)<wz)=false:=by simpa using g3
 by_cases g4:rz<1
 ·have d4:decide (rz<1)=true:=by simpa using g4
  go_enter Tryz.func10,Tryz.ntmps10
  go_upto_region 1 with fail
  rw[<-HW0.out,<-HHE.out]
  go_wp2_with (refine ze rfl 38 _ _ rfl H _ zrA rfl rfl BZ.out rfl yT HZ.out ?_
               intro w1 hb1 ho1;have HB1:=gI hb1;have HO1:=gI ho1;clear hb1 ho1)
  obtain ⟨r0,r1,r2,r3,r4⟩:=HB1.out.fives;exact bodyPost_ret (v:=.tuple #[.agg zrA,.int .i64 1]) (by simp[results,Tryz.results10,go_sem,r0,r1,r2,r3,r4]) rfl ⟨rfl,HBZ.out w1 HO1.out⟩
 have d4:decide (rz<1)=false:=by simpa using g4
 have d5:decide ((4096:Int)<rz)=true:=by
  simp
  omega
 go_enter Tryz.func10,Tryz.ntmps10
 go_upto_region 1 with fail
 rw[<-HW0.out,<-HHE.out]
 go_wp2_with (refine ze rfl 38 _ _ rfl H _ zrA rfl rfl BZ.out rfl yT HZ.out ?_
              intro w1 hb1 ho1;have HB1:=gI hb1;have HO1:=gI ho1;clear hb1 ho1)
 obtain ⟨r0,r1,r2,r3,r4⟩:=HB1.out.fives;exact bodyPost_ret (v:=.tuple #[.agg zrA,.int .i64 1]) (by simp[results,Tryz.results10,go_sem,r0,r1,r2,r3,r4]) rfl ⟨rfl,HBZ.out w1 HO1.out⟩
def zmu (w:World) (pre:List UInt8) (wd rm:Nat) (l:List FB) (e:Ending) (w':World):Prop:=
 ∃n,e=.returned (.tuple #[srV ⟨pre,wd,rm,[],0,n⟩ none 0 0,.int .i64 0])/\zey (fun x=>x∈yM l) pre n/\Below w.heap.size w w'
theorem Vn {A3:Option Addr} {n3 c3:Nat} (pre:List UInt8) (wd rm:Nat) (w:World) (h:Xl pre (wd:Int) (rm:Int)=true) (hl:l.length=n3) (hn3:n3<=100000) (hc:Cs w w.heap.size A3 (fcl l)) :
 Calls Tryz.prog 10 #[.slice A3 n3 c3,sv pre,.int .i64 (wd:Int),.int .i64 (rm:Int)] w (zmu w pre wd rm l):=by
 obtain ⟨H,hH⟩:∃H,H=w.heap.size:=⟨_,rfl⟩
 obtain ⟨W0,hW0⟩:∃W0,W0=(w.alloc (.cells zrA 38)).alloc (.cells zrA 38):=⟨_,rfl⟩
 have HB0:=gI (show Below w.heap.size w W0 by rw[hW0];exact ((Below.refl _ _).alloc (Nat.le_refl _) _).alloc (by simp) _);have BZ:=gI (show Blk W0 H zrB by rw[hW0,hH];exact (Blk.new w zrB _).alloc _);have BG:=gI (show Blk W0 (H+1) zrB by rw[hW0,hH];exact Blk.new' (w.alloc _) zrB _ (by simp));have HS0:=gI (show W0.heap.size=H+2 by rw[hW0,hH];simp);have HHE:=gI hH;have HW0:=gI hW0;have hb:=h;unfold Xl at hb;simp only[Bool.and_eq_true,decide_eq_true_eq] at hb;obtain ⟨⟨⟨h1,h2⟩,h3,h4⟩,h5,h6⟩:=hb;have d0:decide ((pre.length:Int)<1)=false:=by simp;omega
 have d1:decide ((16:Int)<(pre.length:Int))=false:=by simp;omega
 have d2:decide ((wd:Int)<1)=false:=by simp;omega
 have d3:decide ((64:Int)<(wd:Int))=false:=by simp;omega
 have d4:decide ((rm:Int)<1)=false:=by simp;omega
 have d5:decide ((4096:Int)<(rm:Int))=false:=by simp;omega
 have HZ:=gI (show (srA ⟨pre,wd,rm,[],0,0⟩ none 0 0).all (·.oneCell')=true from Z7 _ _ _ _);have HL:=gI hl;have HC:=gI hc;clear h hH hW0 hl hc
 go_enter Tryz.func10,Tryz.ntmps10
 go_wp2_with (rw[<-HW0.out]
              rw[<-HHE.out];refine ze rfl 38 _ _ rfl (H+1) _ (srA ⟨pre,wd,rm,[],0,0⟩ none 0 0) rfl rfl BG.out rfl yT HZ.out ?_;intro w1 hb1 ho1;refine Classical.byContradiction fun hcontra=>?_)
 have BG1:=gI (show Blk w1 (H+1) (srB ⟨pre,wd,rm,[],0,0⟩ none 0 0) from hb1);have HO1:=gI (show Out (fun j=>j=H+1) W0 w1 from ho1);clear hb1 ho1
 apply hcontra
 clear hcontra
 go_wp2
 go_loopw [11] (fun kv wr=>∃k:Nat,kv=.int .i64 (k:Int)/\k<=n3+1/\Hid (∀i,i<k->pre++putN i∈yM l)/\Hid (Blk wr (H+1) (srB ⟨pre,wd,rm,[],0,k⟩ none 0 0))/\Hid (Out (fun j=>j=H+1) W0 wr)) (fun kv _=>n3+1-(intOf kv).toNat)
 case atStart=>exact ⟨0,rfl,by omega,gI (fun i hi=>by omega),BG1,HO1⟩
 case round=>
  obtain ⟨k,rfl,hk,HA,BGr,HOr⟩:=hrel;clear BG1 HO1;have hkn:k<=n3:=by
   have:=za9 HA.out;unfold yM at this;rw[List.length_map,HL.out] at this;exact this
  have hkni:(k:Int)<=(n3:Int):=by omega
  obtain ⟨z0,z1,z2,z3,z4⟩:=BGr.out.fives;have f4:=BGr.out.frozen 4;have hrs:=HOr.out.size;have HBr:=gI (show Below w.heap.size w wr from HB0.out.trans (HOr.out.below (fun j _ hj=>by have:=HHE.out;omega) HB0.out.size))
  go_wp2_with fail
  refine (vI ⟨pre,wd,rm,[],0,k⟩ none 0 0 k (by show pre.length<=1000;omega) (by omega) wr).mono ?_;rintro e w2 ⟨rfl,hb2⟩;have BG2:=gI (BGr.out.past hb2);have HO2:=gI (HOr.out.trans (.of_below hb2));have HB2:=gI (HBr.out.trans (hb2.mono HBr.out.size));clear hb2 z0 z1 z2 z3 z4 f4;rw[show zq ⟨pre,wd,rm,[],0,k⟩ k=pre++putN k from rfl]
  go_wp2_with fail
  refine (zcl A3 n3 c3 l (pre++putN k) w2 HL.out (by omega) ((HC.out.below HB2.out).more HB2.out.size)).mono ?_;rintro e w3 ⟨rfl,rfl⟩;obtain ⟨z0,z1,z2,z3,z4⟩:=BG2.out.fives;have f4:=BG2.out.frozen 4
  by_cases hin:pre++putN k∈yM l
  ·obtain ⟨i,f,hfd,-,-⟩:=zaP hin;rw[hfd];have HA2:=gI (show ∀j,j<k+1->pre++putN j∈yM l from fun j hj=>by
    by_cases e:j=k
    ·rw[e];exact hin
    ·exact HA.out j (by omega))
   clear hin hfd
   go_wp2
   go_roundw
   case rel=>exact ⟨k+1,by go_num,by omega,HA2,gI (BG2.out.set 4 _),gI (HO2.out.setCell (p:=⟨H+1,4,none⟩) (.inl rfl) _)⟩
   case measure=>simp[intOf];omega
  ·rw[zaQ hin];have HNX:=gI (show zey (fun x=>x∈yM l) pre k from ⟨HA.out,hin⟩);have BZ2:=gI (show Blk w2 H zrB from BZ.out.out HO2.out (by show ¬H=H+1;omega));have HZ2:=gI (show (srA ⟨pre,wd,rm,[],0,k⟩ none 0 0).all (·.oneCell')=true from Z7 _ _ _ _);clear hin
   go_wp2_with (refine ze rfl 38 _ _ rfl H _ (srA ⟨pre,wd,rm,[],0,k⟩ none 0 0) rfl rfl BZ2.out rfl yT HZ2.out ?_
                intro w5 hb5 ho5;have HB5:=gI hb5;have HO5:=gI ho5;clear hb5 ho5)
   obtain ⟨r0,r1,r2,r3,r4⟩:=HB5.out.fives;exact bodyPost_ret (v:=.tuple #[srV ⟨pre,wd,rm,[],0,k⟩ none 0 0,.int .i64 0]) (by simp[results,Tryz.results10,go_sem,r0,r1,r2,r3,r4]) rfl ⟨k,rfl,HNX.out,HB2.out.trans (HO5.out.below (fun j _ hj=>by have:=HHE.out;omega) HB2.out.size)⟩
end
section
open Go.RowKit Me Mf Rw Ds Rn Tx Fr Mw Hp Va Go.Shelf Go.Lib
variable {w w':World}
theorem zku {wd k:Nat} {L:List (List UInt8)} {x y:List UInt8} (hx:L[k]?=some x) (hy:L[k-1]?=some y) (h:fitR wd (L.take k)=true) :
 fitR wd (L.take (k+1))= !(((x.length:Int) != (wd:Int))||(decide (0<k)&&Op.bytesLess x y)):=by
 have e:L.take (k+1)=L.take k++[x]:=by rw[List.take_add_one,hx];rfl
 have hla:0<k->Z0 (L.take k)=y:=fun h0=>by
  obtain ⟨j,rfl⟩:∃j,k=j+1:=⟨k-1,by omega⟩
  have hy:L[j]?=some y:=hy;rw[List.take_add_one,hy];exact Zm _ _
 obtain ⟨h1,h2⟩:=yY.1 h;rw[Bool.eq_iff_iff,yY,e,QH,XI];have hc:Rn.leB (Z0 (L.take k)) x↔¬(0<k/\Op.bytesLess x y=true):=by
  by_cases h0:0<k
  ·rw[hla h0];unfold Rn.leB;simp[h0]
  ·have:k=0:=by omega
   subst this;simp[zh6,Rn.zd7]
 rw[hc];have hi:((x.length:Int)=(wd:Int))↔x.length=wd:=by omega
 simp[h1,h2,hi];intro _
 by_cases h0:0<k
 ·simp[h0];omega
 ·have:k=0:=by omega
  simp[this]
def mqG (k k1 n c n1 c1 n2 c2 wd:Nat) (a:Addr) (A1 A2:Option Addr) (x y:List UInt8) (b0 b1 b2:Bool):Gw.Fact:=fun s v _=>
 match s with
 |0|11=>v=.slice (some a) n c
 |5|12=>v=.int .i64 (k:Int)
 |13=>v=.pointer (some (a.add k))
 |14=>v=.slice A1 n1 c1
 |15=>v=.int .i64 (n1:Int)
 |1|16=>v=.int .i64 (wd:Int)
 |17|18=>v=.bool b0
 |19=>b0=false->v=.int .i64 (k:Int)
 |20|21=>(b0=false->v=.bool b1)/\(b0=true->v=undef)
 |22|27=>b0=false->b1=true->v=.slice (some a) n c
 |23|28=>b0=false->b1=true->v=.int .i64 (k:Int)
 |24=>b0=false->b1=true->v=.pointer (some (a.add k))
 |25=>b0=false->b1=true->v=.slice A1 n1 c1
 |26=>b0=false->b1=true->v=sv x
 |29=>b0=false->b1=true->v=.int .i64 (k1:Int)
 |30=>b0=false->b1=true->v=.pointer (some (a.add k1))
 |31=>b0=false->b1=true->v=.slice A2 n2 c2
 |32=>b0=false->b1=true->v=sv y
 |33=>b0=false->b1=true->v=.bool b2
 |34=>b0=false->v=.bool (b1&&b2)
 |35=>v=.bool (b0||(b1&&b2))
 |_=>True
theorem zaD (A:Option Addr) (n c:Nat) (es:List Pc) (wd:Nat) (w:World) (hl:es.length=n) (hn:n<=100000) (h:ZU w w.heap.size A es) :
 Calls Tryz.prog 40 #[.slice A n c,.int .i64 (wd:Int)] w fun e w'=>e=.returned (.bool (fitR wd (es.map (·.2))))/\Below w.heap.size w w':=by
 have HL:=gI hl;have HA:=gI h;obtain ⟨Q,hQ⟩:∃Q,Q=fitR wd (es.map (·.2)):=⟨_,rfl⟩
 rw[<-hQ];have HQ:=gI hQ;clear hl h hQ
 go_enter Tryz.func40,Tryz.ntmps40
 go_wp2
 go_loopw [8] (fun x wr=>∃j:Nat,x=.int .i64 (j:Int)/\j<=n/\Hid (fitR wd ((es.map (·.2)).take j)=true)/\Hid (Below w.heap.size w wr)) (fun x _=>n-(intOf x).toNat)
 case atStart=>exact ⟨0,rfl,Nat.zero_le _,gI (yY.2 ⟨(fun r hr=>by cases hr),List.Pairwise.nil⟩),gI (Below.refl _ _)⟩
 case round=>
  obtain ⟨k,rfl,hk,HI,HB⟩:=hrel
  by_cases hlt:k<n
  ·obtain ⟨p,hp⟩:∃p,es[k]?=some p:=⟨_,List.getElem?_eq_getElem (by rw[HL.out];exact hlt)⟩
   obtain ⟨a,A1,n1,c1,rfl,hab,g0,q1,q2,q3,hr1⟩:=HA.out.at hp;obtain ⟨k1,hk1⟩:∃k1,k1=k-1:=⟨_,rfl⟩
   obtain ⟨p2,hp2⟩:∃p,es[k1]?=some p:=⟨_,List.getElem?_eq_getElem (by rw[HL.out];omega)⟩
   obtain ⟨a',A2,n2,c2,ea,-,g2,r1,r2,r3,hr2⟩:=HA.out.at hp2;injection ea with ea;subst ea;obtain ⟨b0,hb0⟩:∃b,((n1:Int) != (wd:Int))=b:=⟨_,rfl⟩
   obtain ⟨b1,hb1⟩:∃b,decide (0<(k:Int))=b:=⟨_,rfl⟩
   obtain ⟨b2,hb2⟩:∃b,Op.bytesLess p.2 p2.2=b:=⟨_,rfl⟩
   have hb1n:decide (0<k)=b1:=by rw[<-hb1];simp
   have hT:b1=true->(k:Int)-1=(k1:Int):=fun h=>by rw[h] at hb1n;have:=of_decide_eq_true hb1n;omega
   have HC0:=gI (show ∀W,Below wr.heap.size wr W->W.cell? (a.add k)=some (.slice A1 n1 c1) from fun W hW=>(hW.cell (by rw[block_add];have:=HB.out.size;omega)).trans ((HB.out.cell (by rw[block_add];exact hab)).trans g0));have HC2:=gI (show ∀W,Below wr.heap.size wr W->W.cell? (a.add k1)=some (.slice A2 n2 c2) from fun W hW=>(hW.cell (by rw[block_add];have:=HB.out.size;omega)).trans ((HB.out.cell (by rw[block_add];exact hab)).trans g2));have HS1:=gI (show ∀W,Below wr.heap.size wr W->(convert 24 9 (.slice A1 n1 c1)).run Tryz.prog W=.ok (sv p.2) W from fun W hW=>xD A1 n1 c1 p.2 W _ q1 (hr1.below (HB.out.trans (hW.mono HB.out.size))));have HS2:=gI (show ∀W,Below wr.heap.size wr W->(convert 24 9 (.slice A2 n2 c2)).run Tryz.prog W=.ok (sv p2.2) W from fun W hW=>xD A2 n2 c2 p2.2 W _ r1 (hr2.below (HB.out.trans (hW.mono HB.out.size))));have hlti:(k:Int)<(n:Int):=by omega
   have hlt1:(k1:Int)<(n:Int):=by omega
   have HP:=gI (And.intro hp (And.intro hp2 (And.intro q1 r1)));have HK1:=gI hk1;clear hp hp2 g0 g2 hr1 hr2 q1 r1
   go_wp2_with fail
   refine Gw.QT (mqG k k1 n c n1 c1 n2 c2 wd a A1 A2 p.2 p2.2 b0 b1 b2) [11,12,13,14,15,16,17,18,19,20,21,22,23,24,25,26,27,28,29,30,31,32,33,34,35] [([0],none),([5],none),([11,12],none),([13],none),([14],none),([1],none),([15,16],none),([17],none),([5,18],some (18,false)),([19,18],some (18,false)),([20,18],some (18,false)),([0,21],some (21,true)),([5,21],some (21,true)),([22,23,21],some (21,true)),([24,21],some (21,true)),([25,21],some (21,true)),([0,21],some (21,true)),([5,21],some (21,true)),([28,21],some (21,true)),([27,29,21],some (21,true)),([30,21],some (21,true)),([31,21],some (21,true)),([26,32,21],some (21,true)),([21,33,18],some (18,false)),([18,34],none)] 37 (by kernel_rfl) (by kernel_rfl) rfl ?h0 ?hreq ?hend
   case h0=>
    intro t W hnd _;unfold mqG
    split<;>first|(exfalso;apply hnd;decide)|rfl|trivial
   case hreq=>
    have hu:∀c,(undef=Value.bool c)=False:=fun c=>by simp[undef]
    refine ⟨?_,?_,?_,?_,?_,?_,?_,?_,?_,?_,?_,?_,?_,?_,?_,?_,?_,?_,?_,?_,?_,?_,?_,?_,?_,trivial⟩
    all_goals
     intro ac W hg hk;have z0:=HC0.out W hg;have z2:=HC2.out W hg;have e1:=HS1.out W hg;have e2:=HS2.out W hg;simp only[Gw.Knows,mqG] at hk
     try (first
      |(simp[go_sem,Gw.Qz,Gw.Ok,Gw.Post,Gw.Holds,mqG,Gw.zk.refl,hk,hb0,hb1,hb1n,hlti,hlt1,z0,z2,e1,e2];done)
      |(rcases Bool.eq_false_or_eq_true b0 with h0|h0<;>rcases Bool.eq_false_or_eq_true b1 with h1|h1
        all_goals
         have hb1':=hb1.trans h1;have hb1n':=hb1n.trans h1;simp only[h0,h1] at hk ⊢;simp at hk
         try have hk19:=hT h1
         try have hk18:0<k:=of_decide_eq_true hb1n'
         try have hk20:IntKind.i64.wrap ((k:Int)-1)=(k1:Int):=by rw[IntWalk.i64_in _ (by omega)];exact hk19
         try simp[go_sem,Gw.Qz,Gw.Ok,Gw.Post,Gw.Holds,mqG,Gw.zk.refl,hk,hu,hk19,hk20,hb0,hb1',hb1n',hb2,hlti,hlt1,z0,z2,e1,e2]
         try simp[go_sem,Gw.Qz,Gw.Ok,Gw.Post,Gw.Holds,mqG,Gw.zk.refl,hk,hu,hb0,hb1',hb1n',hb2,hlti,hlt1,z0,z2,e1,e2]
         done))
    ·rcases Bool.eq_false_or_eq_true b0 with h0|h0<;>rcases Bool.eq_false_or_eq_true b1 with h1|h1
     all_goals
      simp only[h0,h1] at hk ⊢;simp at hk
      try (simp[go_sem,Gw.Qz,Gw.Ok,Gw.Post,Gw.Holds,mqG,Gw.zk.refl,hk,hu];done)
     have hk19:=hT h1;have hk18:0<k:=of_decide_eq_true (hb1n.trans h1);have hk20:IntKind.i64.wrap ((k:Int)-1)=(k1:Int):=by rw[IntWalk.i64_in _ (by omega)];exact hk19
     simp[go_sem,Gw.Qz,Gw.Ok,Gw.Post,Gw.Holds,mqG,Gw.zk.refl,hk,hu,hk20]
   case hend=>
    intro y w5 hg hy;have h35:=(hy 35 (by simp)).now;simp only[mqG] at h35;have HB5:=gI (HB.out.trans (Below.mono (show Below wr.heap.size wr w5 from hg) HB.out.size));clear hg hy;simp only[Gw.zm,Act.put,List.setIfInBounds_toArray,List.set_cons_zero,List.set_cons_succ];rw[h35];have HN:=gI (show fitR wd ((es.map (·.2)).take (k+1))= !(b0||(b1&&b2)) from by
     have h1:=zku (L:=es.map (·.2)) (k:=k) (x:=p.2) (y:=p2.2) (by rw[List.getElem?_map,HP.out.1];rfl) (by rw[List.getElem?_map,<-HK1.out,HP.out.2.1];rfl) HI.out;rw[h1,HP.out.2.2.1,hb0,hb1n,hb2])
    clear hb0 hb1 hb1n hb2 hT h35 hk1
    cases hb:(b0||(b1&&b2)) with
    |true=>
     have HE:=gI (show Q=false by
      rw[HQ.out];have h1:=HN.out;rw[hb] at h1;have h2:=zix (m:=(es.map (·.2)).drop (k+1)) h1
      rwa[List.take_append_drop] at h2)
     go_wp2
     go_ret
     rw[HE.out];exact ⟨rfl,HB5.out⟩
    |false=>
     have HE:=gI (show fitR wd ((es.map (·.2)).take (k+1))=true by rw[HN.out,hb];rfl)
     go_wp2
     go_roundw
     case rel=>exact ⟨k+1,by go_num,hlt,HE,HB5⟩
     case measure=>simp[intOf];omega
  ·have e:k=n:=by omega
   subst e;have HT:=gI (show Q=true by rw[HQ.out,<-HI.out,List.take_of_length_le (by rw[List.length_map,HL.out];exact Nat.le_refl _)])
   go_wp2
   go_ret
   rw[HT.out];exact ⟨rfl,HB.out⟩
end
section
open Go.RowKit Me Mf Rw Ds Rn Tx Fr Mw Hp Va Go.Maps
variable {w w':World} {B K P D M N G:Nat} {hb:Option Nat} {X X':Sto} {R R':SrD} {own own' ownD F F':Nat->Prop} {l l':List FB}
section
variable {Pg:Program}
theorem VX {w:World} {b o:Nat} {old:List Value} {ty:TypeId} {vs:Array Value} (hb:Blk w b old) (hl:o+vs.size<=old.length) (hi:(Pg.info? ty).map (·.size)=some vs.size) (h1:vs.all (·.oneCell')=true) :
 ∃w',(storeVar ty ⟨b,o,none⟩ (.agg vs)).run Pg w=.ok () w'/\Blk w' b (splice old o vs.toList)/\Out (fun k=>k=b) w w':=
 ⟨_,run_storeVar_mid w b o ty vs (hb.there hl) hi h1,hb.sets (by simpa using hl),Out.setCells b _ _ (Out.refl _ _) (.inl rfl)⟩
theorem yD {ops:Array Oper} {rest:List Oper} {op:Oper} {a:Act} {w:World} {Q:Exit->Act->World->Prop} (hgd:op.guard=none) (ty:TypeId) (x y:Operand) (ho:op.op=.store ty x y)
 (b o:Nat) (old:List Value) (vs:Array Value) (hx:a.eval x=.pointer (some ⟨b,o,none⟩)) (hy:a.eval y=.agg vs) (hb:Blk w b old) (hl:o+vs.size<=old.length) (hi:(Pg.info? ty).map (·.size)=some vs.size) (h1:vs.all (·.oneCell')=true)
 (h:∀w',Blk w' b (splice old o vs.toList)->Out (fun k=>k=b) w w'->wpList Pg ops Q rest (a.put op.dst undef) w'):wpList Pg ops Q (op::rest) a w:=by
 refine wpList_plain hgd fun K hK=>?_
 obtain ⟨w',hrun,h2,h3⟩:=VX (Pg:=Pg) hb hl hi h1;unfold Oper.wp execOp;simp only[ho,hx,hy,Instr.storeAt,Instr.sureAddr,Sem.run_bind,Sem.run_pure,Result.andThen_ok,hrun];exact hK _ _ (h w' h2 h3)
end
theorem Yw (fs:List zi):∀(L:List (List UInt8×Option Nat)) (fr:List Nat) (nx:Nat) (r:List zi×Nat),St.yX fs L fr nx=some r->nx<4294967296->r.2<4294967296
 |[],fr,nx,r,h,hn=>by
  rw[St.yX] at h;injection h with h;subst h;exact hn
 |(x,none)::l,fr,nx,r,h,hn=>by
  rw[St.yX] at h
  cases hr:St.yX fs l fr nx with
  |none=>rw[hr] at h;cases h
  |some q=>
   rw[hr] at h;injection h with h;subst h;exact Yw fs l fr nx q hr hn
 |(x,some s)::l,fr,nx,r,h,hn=>by
  rw[St.yX] at h
  split at h
  ·rename_i hc
   cases hr:St.yX fs l (fr.drop (St.pages s)) (nx+1) with
   |none=>rw[hr] at h;cases h
   |some q=>
    rw[hr] at h;injection h with h;subst h;exact Yw fs l _ _ q hr (by have:=hc.2;omega)
  ·cases h
theorem zlA {ls:List (List UInt8)} {m:ManD} (hok:OkS X) (h:xC X ls m):Wf m:=by
 refine ⟨?_,?_,fun f hf=>?_⟩
 ·have h1:=h.1;unfold St.QE at h1
  cases hq:St.yX X.m.files (YE X ls) (St.Yh X.S.stored.length X.m.files) X.m.next with
  |none=>rw[hq] at h1;cases h1
  |some q=>
   rw[hq] at h1;injection h1 with h1;have:=h.2.1;rw[<-h1];show X.m.version+1<_
   omega
 ·have h1:=h.1;unfold St.QE at h1
  cases hq:St.yX X.m.files (YE X ls) (St.Yh X.S.stored.length X.m.files) X.m.next with
  |none=>rw[hq] at h1;cases h1
  |some q=>
   rw[hq] at h1;injection h1 with h1;rw[<-h1];exact Yw _ _ _ _ q hq hok.wf.next
 ·rcases h.file hf with ⟨-,-,h3⟩|⟨s,-,h2,h3,-,-⟩
  ·exact hok.wf.files f h3
  ·have hb:=(h.2.2.1.2.2.1 f hf).2.2;have hid:=h.2.2.1.2.1.1 f hf;have hs:s<=1048576:=by
    unfold szC at h2
    split at h2
    ·rename_i b hb'
     injection h2 with h2;have:=hok.len f.name b hb';omega
    ·cases h2
   have hnx:m.next<4294967296:=by
    have h1:=h.1;unfold St.QE at h1
    cases hq:St.yX X.m.files (YE X ls) (St.Yh X.S.stored.length X.m.files) X.m.next with
    |none=>rw[hq] at h1;cases h1
    |some q=>
     rw[hq] at h1;injection h1 with h1;rw[<-h1];exact Yw _ _ _ _ q hq hok.wf.next
   exact ⟨by omega,by omega,by omega,fun z hz=>by have:=hb z hz;omega⟩
end
section
open Go.RowKit Me Mf Rw Ds Rn Tx Fr Mw Hp Va Go.Maps
variable {w w':World} {B K P D M N G:Nat} {hb:Option Nat} {X X':Sto} {R R':SrD} {Y:Ply} {own own' ownD F F':Nat->Prop} {f:List UInt8->List UInt8} {l l':List FB}
theorem zhW {wd C:Nat} (hw:0<wd) (cont:Nat->List UInt8):∀(n k:Nat) (all:List (List UInt8)),(∀i,k<=i->i<k+n->(cont i).length<=C)->(mgo wd cont k n all).1.length<=all.length+n*C
 |0,k,all,_=>by
  show (zG all).length<=_
  rw[(zR _).length_eq];omega
 |n+1,k,all,h=>by
  rw[mgo]
  split
  ·refine Nat.le_trans (zhW hw cont n (k+1) _ fun i h1 h2=>h i (by omega) (by omega)) ?_;rw[List.length_append];have h1:=zcR (b:=cont k) (wd:=wd) hw;have h2:=h k (Nat.le_refl _) (by omega);rw[Nat.succ_mul];omega
  ·exact Nat.zero_le _
abbrev pbC (D P K:Nat) (R:SrD) (A4:Option Addr) (n4 c4:Nat) (A3:Option Addr) (n3 c3:Nat) (A2:Option Addr) (n2 c2:Nat):List Value:=
 [.pointer (some ⟨D,0,none⟩),.pointer (some ⟨P,0,none⟩),.pointer (some ⟨K,0,none⟩),sv R.pre,.int .i64 (R.wd:Int),.int .i64 (R.rm:Int),.slice A4 n4 c4,.int .i64 (R.next:Int),.slice A3 n3 c3,.slice A2 n2 c2]
structure PbAt (w:World) (G D P K:Nat) (R:SrD) (now hv:List FB) (own F:Nat->Prop):Prop where
 box:∃A4 n4 c4 A3 n3 c3 A2 n2 c2,Blk w G (pbC D P K R A4 n4 c4 A3 n3 c3 A2 n2 c2)/\SvK own A4 n4 c4 R.held w/\FbK own A3 n3 c3 now w/\FbK own A2 n2 c2 hv w
 g:own G/\¬F G
theorem PbAt.lt {now hv:List FB} (h:PbAt w G D P K R now hv own F):G<w.heap.size:=by obtain ⟨_,_,_,_,_,_,_,_,_,h1,-⟩:=h.box;exact h1.lt
theorem PbAt.next {now hv:List FB} (h:PbAt w G D P K R now hv own F) (ho:Out F w w') (hF:∀k,F k->own k) (h1:∀k,own k->own' k) (h2:∀k,own' k->own k\/w.heap.size<=k) (h3:∀k,F' k->F k\/w.heap.size<=k):PbAt w' G D P K R now hv own' F':=by
 obtain ⟨A4,n4,c4,A3,n3,c3,A2,n2,c2,g1,g2,g3,g4⟩:=h.box;have ho':Out own w w':=ho.more fun k _ hk=>hF k hk
 refine ⟨⟨A4,n4,c4,A3,n3,c3,A2,n2,c2,g1.out ho h.g.2,g2.next ho' h2,g3.next ho' h2,g4.next ho' h2⟩,h1 _ h.g.1,fun q=>?_⟩;rcases h3 _ q with e|e
 ·exact h.g.2 e
 ·have:=g1.lt;omega
theorem PbAt.past {now hv:List FB} (h:PbAt w G D P K R now hv own F) (hb':Below w.heap.size w w') (hF:∀k,F k->own k):PbAt w' G D P K R now hv own F:=h.next (.of_below hb') hF (fun _=>id) (fun _=>.inl) (fun _=>.inl)
structure Bnd (j N:Nat) (R:SrD) (Y:Ply):Prop where
 now:Y.now.length<=j
 hv:Y.hv.length<=j
 n:N+Y.now.length<=2*j
 bn:∀x∈Y.now,x.2.length<=10000
 bh:∀x∈Y.hv,x.2.length<=10000
 held:R.held.length<=j
def PsI (w:World) (B G D j:Nat):Prop:=
 ∃K P M N hb X f R Y own ownD,zI w B K P D M N hb X R own ownD/\PbAt w G D P K R Y.now Y.hv own (yg P M K hb ownD)/\Bes X f R Y/\Bnd j N R Y/\B<=w.heap.size
theorem PsI.past {j:Nat} (h:PsI w B G D j) (hb':Below w.heap.size w w'):PsI w' B G D j:=by
 obtain ⟨K,P,M,N,hb,X,f,R,Y,own,ownD,h1,h2,h3,h4,h5⟩:=h;exact ⟨K,P,M,N,hb,X,f,R,Y,own,ownD,h1.past hb',h2.past hb' (fun k hk=>h1.foot hk),h3,h4,Nat.le_trans h5 hb'.size⟩
def DoP (w:World) (B G D j:Nat) (e:Ending) (w':World):Prop:=∃on,e=.returned (.tuple #[.bool true,.bool on])/\Below B w w'/\(on=true->PsI w' B G D (j+1))
theorem Bes.few (h:Bes X f R Y):R.next<=Y.now.length:=by
 have h1:=za9 (l:=yM Y.now) (pre:=R.pre) (n:=R.next) fun i hi=>(h.ply.names.mem _).2 (h.run i hi)
 unfold yM at h1
 rwa[List.length_map] at h1
theorem Bes.find (h:Bes X f R Y):∀i,i<R.next->∃(j:Nat) (x:FB),X6 Y.now (zq R i)=((j:Int),true)/\Y.now[j]?=some x/\x.2=newF X.C f (zq R i):=fun i hi=>by
 rcases h.ply.there (zq R i) with ⟨-,j,x,h1,h2,-,h4⟩|⟨h1,-⟩
 ·exact ⟨j,x,h1,h2,h4⟩
 ·rw[h.run i hi] at h1
  cases h1
theorem Bes.lens (h:Bes X f R Y) {j N:Nat} (hj:Bnd j N R Y):∀i,i<R.next->(newF X.C f (zq R i)).length<=10000:=fun i hi=>by
 obtain ⟨j,x,h1,h2,h3⟩:=h.find i hi;rw[<-h3];exact hj.bn x (List.mem_of_getElem? h2)
theorem Bes.rem (h:Bes X f R Y) (hn:R.next<=1000000):∀k,k<R.next->zb3 (yc X R k) (zq R k)=0:=fun k hk=>by
 obtain ⟨Y',h1,-,-,-,-,h6⟩:=h.clean hn k (by omega);have hup:=h1.up;unfold zb3;rw[hup,if_pos rfl];have:=h6 k (Nat.le_refl _) hk;rw[zjr,if_pos this]
theorem Bes.commit (h:Bes X f R Y) {r:Int} (hc:zmy X X' r):r=7\/(r=0/\∃f' Y',Bes X' f' R Y'/\Y'.now=Y.now/\Y'.hv=Y.now):=by
 rcases hc with ⟨q,-⟩|⟨-,q,e,hr⟩|⟨-,q,ls,hl,hq⟩
 ·rw[h.rest.up] at q;cases q
 ·refine .inr ⟨hr,f,⟨Y.m,Y.now,Y.now,Y.ch,Y.waits⟩,?_,rfl,rfl⟩;subst e;have hC:X'.C=noC:=funext q;have hx:X'=⟨X'.S,X'.m,noC,X'.broken⟩:=by rw[<-hC]
  have hp:=vO.plain h.rest.ok.fit X'.S X'.broken f;rw[<-hx] at hp;have hn:=h.ply.names.one hp.names;have hnow:Y.now=X'.m.files.map fun x=>(x.name,f x.name):=by
   have h2:∀(a b:List FB),yM a=yM b->(∀x∈a,x.2=newF X'.C f x.1)->(∀x∈b,x.2=newF X'.C f x.1)->a=b:=fun a=>by
    induction a with
    |nil=>
     intro b e _ _
     cases b with
     |nil=>rfl
     |cons y b=>cases e
    |cons y a ih=>
     intro b e h1 h2
     cases b with
     |nil=>cases e
     |cons z b=>
      unfold yM at e;rw[List.map_cons,List.map_cons] at e;injection e with e1 e2;rw[ih b e2 (fun x hx=>h1 x (List.mem_cons_of_mem _ hx)) (fun x hx=>h2 x (List.mem_cons_of_mem _ hx))];have a1:=h1 y List.mem_cons_self;have a2:=h2 z List.mem_cons_self;have:y=z:=by
       refine Prod.ext e1 ?_;rw[a1,a2,e1]
      rw[this]
   exact h2 _ _ hn h.ply.vals hp.vals
  exact ⟨h.rest,⟨h.ply.m,hnow,h.ply.names,h.ply.vals,h.ply.ch1,h.ply.ch2,h.ply.waits⟩,h.ok,h.zero,h.run⟩
 ·have hl':=hl.one h.ply.names;subst hl';rcases hq with ⟨-,-,q3⟩|⟨m,hm,q⟩
  ·exact .inl q3
  ·obtain ⟨h0,hr'⟩:=h.rest.commit hm (zlA h.rest.ok hm);rcases q with ⟨q1,-⟩|⟨-,q2,q3⟩
   ·exact absurd h0 q1
   ·subst q2;have hp:=h.ply.commit hm (putD X m).1 X.broken;exact .inr ⟨q3,newF X.C f,_,⟨hr',hp,h.ok,h.zero,fun i hi=>(hp.names.mem _).1 ((h.ply.names.mem _).2 (h.run i hi))⟩,rfl,rfl⟩
theorem zhG {now hv now' hv':List FB} (hS:zI w B K P D M N hb X R own ownD) (hP:PbAt w G D P K R' now hv own (yg P M K hb ownD)) (hB:B<=w.heap.size) {A4 A3 A2:Option Addr} {n4 c4 n3 c3 n2 c2:Nat} {Rm:SrD}
 (hb8:Blk w' G (pbC D P K Rm A4 n4 c4 A3 n3 c3 A2 n2 c2)) (ho:Out (fun k=>k=G) w w') (h4:SvK own A4 n4 c4 Rm.held w) (h3:FbK own A3 n3 c3 now' w) (h2:FbK own A2 n2 c2 hv' w) :
 zI w' B K P D M N hb X R own ownD/\PbAt w' G D P K Rm now' hv' own (yg P M K hb ownD)/\Below B w w':=by
 have hG:=hP.g;have ho':Out own w w':=ho.more fun k _ e=>by rw[e];exact hG.1
 refine ⟨hS.beside ho (fun k _ e=>by rw[e];exact hG) (fun _=>id) (fun _=>.inl) hB,⟨⟨A4,n4,c4,A3,n3,c3,A2,n2,c2,hb8,h4.out ho',h3.out ho',h2.out ho'⟩,hG⟩,ho.below (fun k _ e=>?_) hB⟩;rw[e];exact (hS.st.lt hG.1).1
end
end Go.Proofs.YtcdkopbjlakebaaGreatDoor
