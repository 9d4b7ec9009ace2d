/- Texts put together, for a law: Sd, Ft, Fl, Pt2, Rd, Pt3. -/
import Derived.Test.YtcdkopbjlakebaaGreatDoorKP26
import Derived.Test.YtcdkopbjlakebaaGreatDoorKP31
import Derived.Test.YtcdkopbjlakebaaGreatDoorKP42
import Derived.Test.YtcdkopbjlakebaaGreatDoorKP14
set_option maxRecDepth 100000
set_option maxHeartbeats 8000000
namespace Go.Proofs.YtcdkopbjlakebaaGreatDoor
section
open Go.RowKit Me Rn
theorem zdK {α:Type} {g:Nat} {lb:Array Value} {V:Nat->α->Array Value->World->Prop} {Xs:List α} {M:Nat->Prop} (ev:α->Value) (rc:α->List UInt8) (h1:∀x,∃A n c,ev x=.slice A n c) (hV:∀T x av W,V T x av W->av=#[ev x]) (eg:∀args w,(callFunc g args).run Tryz.prog w=.ok (.enter g args) w)
 (w:World) (hg:Rt.Gives Tryz.prog g lb V Xs M w) (hM:∀k,M k->k<w.heap.size) (hX:Xs.length<=1000000) (hp:∀x∈Xs,PcAt w w.heap.size (ev x,rc x)) :
 Calls Tryz.prog 71 #[.func (.func g) #[] lb,.func (.func 72) #[] #[]] w fun e w'=>
  ∃A n c,∃es:List Pc,e=.returned (.slice A n c)/\es.Perm (Xs.map fun x=>(ev x,rc x))/\yu (es.map Prod.snd)/\w'.ownsRow w.heap.size 24 1 (.slice A n c) n (es.map Prod.fst)/\Below w.heap.size w w':=by
 have HC:=gI (zel ev h1 hV eg w hg hM hX);have HP:=gI hp;have HX:=gI hX;obtain ⟨es,hes⟩:∃es:List Pc,es=Xs.map fun x=>(ev x,rc x):=⟨_,rfl⟩
 rw[<-hes];have HES:=gI hes;clear h1 hV eg hg hM hX hp hes
 go_enter Tryz.func71,Tryz.ntmps71
 go_wp2_with fail
 refine HC.out.mono ?_;rintro e w1 ⟨A,n,c,rfl,hn,ho1,hb1⟩;have hfst:Xs.map ev=es.map Prod.fst:=by rw[HES.out,List.map_map];rfl
 rw[hfst] at ho1;have HS:=gI (zb5 es w.heap.size n c A (by have:=HX.out;omega) ho1 (fun p hp=>by
  rw[HES.out] at hp;obtain ⟨x,hx,rfl⟩:=List.mem_map.1 hp;exact (HP.out x hx).keep fun a ha=>hb1.cell ha) hb1.size)
 have HB1:=gI (And.intro hb1 ho1);clear ho1 hb1 hfst
 go_wp2_with fail
 refine HS.out.mono ?_;rintro e w2 ⟨rfl,es',h1,h2,h3,h4⟩;have FIN:=gI (show es'.Perm es/\yu (es'.map Prod.snd)/\w2.ownsRow w.heap.size 24 1 (.slice A n c) n (es'.map Prod.fst)/\Below w.heap.size w w2 from ⟨h1,h2,h3,HB1.out.1.trans (h4.below (fun k hk e=>(HB1.out.2.lt k e).1) HB1.out.1.size)⟩);clear h1 h2 h3 h4
 go_wp2
 go_ret
 exact ⟨A,n,c,es',rfl,FIN.out⟩
variable {w w':World} {B K P:Nat} {hb:Option Nat} {R:SrD}
def rsG (W0:World) (K n c wd:Nat) (A:Option Addr):Gw.Fact:=fun t v W=>
 match t with
 |0|4|5|8|9=>v=.pointer (some ⟨K,0,none⟩)
 |6=>v=.pointer (some ⟨K,4,none⟩)
 |7=>v=.slice A n c
 |10=>v=.pointer (some ⟨K,2,none⟩)
 |11=>v=.int .i64 (wd:Int)
 |12|3=>∃Bs Bn,v=.func (.func 109) #[] #[.pointer (some ⟨Bs,0,none⟩),.pointer (some ⟨Bn,0,none⟩)]/\Blk W Bs [.slice A n c]/\Blk W Bn [.int .i64 (wd:Int)]/\W0.heap.size<=Bs/\W0.heap.size<=Bn
 |_=>True
theorem Mw.perm_flatten_len {l m:List (List UInt8)} (h:l.Perm m):l.flatten.length=m.flatten.length:=by
 induction h with
 |nil=>rfl
 |cons x _ ih=>simp only[List.flatten_cons,List.length_append,ih]
 |swap x y l=>simp only[List.flatten_cons,List.length_append];omega
 |trans _ _ h1 h2=>exact h1.trans h2
theorem zlb {wd:Nat} {l:List (List UInt8)} (h:Wid wd l) (hw:0<wd):pcs wd l.flatten.length=l.length:=by rw[zT h,zbl hw]
theorem ze3 {w:World} {B n c wd:Nat} {A:Option Addr} {l:List (List UInt8)} (hw:0<wd) (h:Wid wd l) (hl:l.flatten.length=n) (hc:n<=c) (hc63:c<=9223372036854775807) (hr:Rd w B A l.flatten) {k:Nat} {r:List UInt8} (hk:l[k]?=some r):PcAt w B (ckS A wd n k,r):=by
 have hkl:k<l.length:=(List.getElem?_eq_some_iff.1 hk).1;have hrl:r.length=wd:=h r (List.mem_of_getElem? hk);have hn:n=wd*l.length:=by rw[<-hl,zT h]
 have hle:wd*k+wd<=n:=by
  rw[hn];have:wd*(k+1)<=wd*l.length:=Nat.mul_le_mul_left _ hkl;rw[Nat.mul_succ] at this;exact this
 have hck:ckL wd n k=wd:=by unfold ckL;omega
 refine ⟨_,_,_,rfl,by rw[hck];exact hrl,Nat.le_refl _,by rw[hck];omega,?_⟩;intro hpos;obtain ⟨a,ha,hb,hcl⟩:=hr (by rw[hl];exact Nat.lt_of_lt_of_le hw (Nat.le_trans (Nat.le_add_left _ _) hle));subst ha;refine ⟨a.add (wd*k),rfl,by rw[block_add];exact hb,fun i u hu=>?_⟩;rw[add_add];refine hcl (wd*k+i) u ?_;have h2:=ziv h hk;have hi:i<wd:=by have h9:i<r.length:=(List.getElem?_eq_some_iff.1 hu).1;omega
 rw[<-h2,List.getElem?_take,if_pos hi,List.getElem?_drop] at hu;exact hu
theorem Q6 (h:yR w B K P hb R):Calls Tryz.prog 44 #[.pointer (some ⟨K,0,none⟩)] w (News w (zG R.held).flatten):=by
 obtain ⟨A,n,c,h1,h2,h3,h4⟩:=h.box;obtain ⟨c0,c1,c2,c3,c4,c5,c6⟩:=h1.seven;have hk0:=World.block_lt_of_cell? _ _ c4;obtain ⟨wd,hwd⟩:∃wd,wd=R.wd:=⟨_,rfl⟩
 have hw:=h.ok.wd;have hwid:=h.ok.wid;have hfew:=h.ok.few;have hrm:=h.ok.rm;rw[<-hwd] at hw hwid c2;obtain ⟨l,hl⟩:∃l,l=R.held:=⟨_,rfl⟩
 rw[<-hl] at hwid h2 h4 hfew;rw[<-hl];have hc:=yF h2;have hn:n=wd*l.length:=by rw[<-h4,zT hwid]
 have hn6:n<=1000000:=by
  rw[hn];have h1:wd*l.length<=64*4096:=Nat.mul_le_mul hw.2 (by omega);omega
 have hrd:Rd w w.heap.size A l.flatten:=Rd.of_own h2;have HCL:=gI (And.intro c2 c4);have HK:=gI hk0;have HRD:=gI hrd;have HW:=gI hwid;have HL4:=gI h4;have HCC:=gI hc;have HWW:=gI hw;have HLF:=gI (show l.length<=4096 by omega);have hwp:0<wd:=by omega
 clear h h1 h2 h3 h4 c0 c1 c2 c3 c4 c5 c6 hwid hc hn hrd hw hfew hrm hwd hl
 go_enter Tryz.func44,Tryz.ntmps44
 go_wp2_with fail
 refine Gw.zl (rsG w K n c wd A) [4,5,6,7,8,9,10,11,12,3] [([0],none),([4],none),([5],none),([6],none),([0],none),([8],none),([9],none),([10],none),([7,11],none),([12],none)] 16 (by kernel_rfl) (by kernel_rfl) rfl ?h0 ?hreq ?hend
 case h0=>
  intro t W hnd _;unfold rsG
  split<;>first|rfl|trivial|exact absurd (by simp) hnd
 case hreq=>
  refine ⟨?_,?_,?_,?_,?_,?_,?_,?_,?_,?_,trivial⟩
  all_goals
   intro ac W hg hk;have hg':Below w.heap.size w W:=hg;have q2:=(hg'.cell (p:=⟨K,2,none⟩) HK.out).trans HCL.out.1;have q4:=(hg'.cell (p:=⟨K,4,none⟩) HK.out).trans HCL.out.2;simp only[Gw.Knows,rsG] at hk
   try (simp[go_sem,Gw.zw,Gw.Ok,Gw.Post,Gw.Holds,rsG,Gw.zk.refl,hk,q2,q4];done)
  ·simp[go_sem,Gw.zw,Gw.Ok,Gw.Post,Gw.Holds,rsG,Gw.zk.refl,hk];refine (zar A n c wd hwp W).mono ?_;rintro e W' ⟨rfl,rfl⟩;have hbw:Below W.heap.size W ((W.alloc (.cells #[.slice A n c] 24)).alloc (.cells #[.int .i64 (wd:Int)] 3)):=((Below.refl _ W).alloc (Nat.le_refl _) _).alloc (by simp) _;refine ⟨_,rfl,hbw,fun W2 hW2=>⟨W.heap.size,W.heap.size+1,rfl,?_,?_,hg'.size,by have:=hg'.size;omega⟩⟩
   ·exact ((Blk.new W [.slice A n c] _).alloc _).past hW2
   ·exact (Blk.new' (W.alloc _) [.int .i64 (wd:Int)] _ (by simp)).past hW2
  ·obtain ⟨⟨Bs,Bn,hv,h1,h2,h3,h4⟩,-⟩:=hk;simp[go_sem,Gw.zw,Gw.Ok,Gw.Post,Gw.Holds,rsG,Gw.zk.refl,hv];exact fun W2 hW2=>⟨Bs,Bn,⟨rfl,rfl⟩,h1.past hW2,h2.past hW2,h3,h4⟩
 case hend=>
  intro x w' hg hx;have v3:=(hx 3 (by simp)).now;simp only[rsG] at v3;obtain ⟨Bs,Bn,hv3,hbs,hbn,hs1,hs2⟩:=v3;clear hx;simp only[Gw.zm,Act.put,List.setIfInBounds_toArray,List.set_cons_zero,List.set_cons_succ];rw[hv3];have hB:Below w.heap.size w w':=hg;have hA:0<n->∃a,A=some a:=fun hp=>by
   obtain ⟨a,ha,-⟩:=HRD.out (by rw[HL4.out];exact hp);exact ⟨a,ha⟩
  have hgv:=Qo (w:=w') hA HCC.out.1 HCC.out.2 (by omega) ⟨hwp,by have:=HWW.out;omega⟩ hbs hbn;have hpl:pcs wd n=l.length:=by rw[<-HL4.out];exact zlb HW.out hwp
  rw[hpl] at hgv;have HSF:=gI (zdK (fun k=>ckS A wd n k) (fun k=>l.getD k []) (fun k=>⟨_,_,_,rfl⟩) (fun T k av W h=>h.2) (enters_of Tryz.func109 (by kernel_rfl) rfl) w' hgv (fun k hk=>by
   rcases hk with rfl|rfl
   ·exact hbs.lt
   ·exact hbn.lt) (by rw[List.length_range];have:=HLF.out;omega) (fun k hk=>by
   have hk:=List.mem_range.1 hk;have hkl:l[k]?=some (l.getD k []):=by rw[List.getD_eq_getElem?_getD,List.getElem?_eq_getElem hk];rfl
   exact ze3 hwp HW.out HL4.out HCC.out.1 HCC.out.2 ((HRD.out.below hB).more hB.size) hkl))
  have HB:=gI hB;clear hbs hbn hgv hA hpl hB hg hv3 hs1 hs2
  go_wp2_with fail
  refine HSF.out.mono ?_;rintro e w2 ⟨A2,n2,c2,es,rfl,hp2,hr2,ho2,hb2⟩;have hsnd:es.map Prod.snd=zG l:=by
   refine (vz hr2 ?_).symm;have h1:=hp2.map Prod.snd;rw[List.map_map] at h1;have h2:(List.range l.length).map (Prod.snd ∘ fun k=>(ckS A wd n k,l.getD k []))=l:=by
    refine List.ext_getElem? fun i=>?_
    rw[List.getElem?_map]
    by_cases hi:i<l.length
    ·rw[List.getElem?_range hi,List.getElem?_eq_getElem hi];simp[hi]
    ·rw[List.getElem?_eq_none (by simp;omega),List.getElem?_eq_none (by omega)];rfl
   rw[h2] at h1;exact h1
  have hel:es.length=n2:=by have:=ho2.1;rw[List.length_map,Nat.mul_one] at this;exact this
  have hlen2:n2=l.length:=by
   have h1:=hp2.length_eq;rw[hel,List.length_map,List.length_range] at h1;exact h1
  have hparts:Parts w2 w2.heap.size A2 (zG l):=fun hpos=>by
   have hcs:=Cs.of_own ho2;rw[<-hsnd,List.length_map] at hpos;obtain ⟨a,ha,hab,hcl⟩:=hcs (by rw[List.length_map];exact hpos);refine ⟨a,ha,hab,fun i r hr=>?_⟩;rw[<-hsnd,List.getElem?_map] at hr
   cases hei:es[i]? with
   |none=>rw[hei] at hr;cases hr
   |some p=>
    rw[hei] at hr;injection hr with hr;have hmem:=hp2.mem_iff.1 (List.mem_of_getElem? hei);obtain ⟨k,hk,hkp⟩:=List.mem_map.1 hmem;have hk:=List.mem_range.1 hk;have hkl:l[k]?=some (l.getD k []):=by rw[List.getD_eq_getElem?_getD,List.getElem?_eq_getElem hk];rfl
    obtain ⟨A3,n3,c3,e3,l3,g3,g4,r3⟩:=ze3 hwp HW.out HL4.out HCC.out.1 HCC.out.2 ((HRD.out.below HB.out).more HB.out.size) hkl;rw[<-hkp] at hr;refine ⟨A3,n3,c3,?_,by rw[<-hr];exact l3,by omega,?_⟩
    ·have h4:=hcl i p.1 (by rw[List.getElem?_map,hei];rfl);rw[<-hkp] at h4;rw[h4];exact congrArg some e3
    ·rw[<-hr];exact (r3.below hb2).more hb2.size
  have hfl:(zG l).flatten.length<=70368744177664:=by
   have h1:=(Mw.perm_flatten_len (zR l))
   rw[h1,HL4.out];omega
  have HCAT:=gI (X9 A2 n2 c2 (zG l) w2 (by rw[<-hsnd,List.length_map];exact hel) (by rw[hlen2];have:=HLF.out;omega) hfl hparts);have HB2:=gI (HB.out.trans (hb2.mono HB.out.size));clear hsnd hel hlen2 hparts hfl hp2 hr2 ho2 hb2
  go_wp2_with fail
  refine HCAT.out.mono ?_;rintro e w3 ⟨v,n3,rfl,ho3,hb3⟩;have FIN:=gI (show News w (zG l).flatten (.returned v) w3 from ⟨v,n3,rfl,zU ho3 HB2.out.size,HB2.out.trans (hb3.mono HB2.out.size)⟩);clear ho3 hb3
  go_wp2
  go_ret
  exact FIN.out
end
section
open Go.RowKit Me Rn
structure FtI {α:Type} (rc:α->List UInt8) (H K wd:Nat) (pre:List α) (W:World):Prop where
 x:Blk W H [.pointer (some ⟨K,0,none⟩)]
 r:Blk W (H+1) [.bool false]
 l:∃A n c,Blk W (H+2) [.slice A n c]/\(Z0 (pre.map rc)).length=n/\Rd W H A (Z0 (pre.map rc))
 f:fitR wd (pre.map rc)=true
structure FtX {α:Type} (rc:α->List UInt8) (H wd:Nat) (pre:List α) (W:World):Prop where
 r:Blk W (H+1) [.bool false]
 f:fitR wd (pre.map rc)=false
theorem FtI.out {α:Type} {rc:α->List UInt8} {H K wd:Nat} {pre:List α} {W W':World} {S:Nat->Prop} (h:FtI rc H K wd pre W) (ho:Out S W W') (hn:∀k,k<H+3->¬S k):FtI rc H K wd pre W':=by
 have hlt:=h.x.lt;obtain ⟨A,n,c,h1,h2,h3⟩:=h.l;exact ⟨h.x.out ho (hn _ (by omega)),h.r.out ho (hn _ (by omega)),⟨A,n,c,h1.out ho (hn _ (by omega)),h2,h3.keep fun p hp=>ho.cell (by omega) (hn _ (by omega))⟩,h.f⟩
theorem zkv {wd:Nat} {l:List (List UInt8)} {x:List UInt8} (h:fitR wd l=true):fitR wd (l++[x])=(decide (x.length=wd)&& !decide (0<cmpB (Z0 l) x)):=by
 rw[yY] at h;have h2:(!decide (0<cmpB (Z0 l) x))=true↔Rn.leB (Z0 l) x:=by
  rw[Bool.not_eq_true',decide_eq_false_iff_not,zfy,Bool.not_eq_true];exact Iff.rfl
 rw[Bool.eq_iff_iff,yY,Bool.and_eq_true,decide_eq_true_iff,h2,QH,XI];exact ⟨fun ⟨⟨_,a⟩,_,b⟩=>⟨a,b⟩,fun ⟨a,b⟩=>⟨⟨h.1,a⟩,h.2,b⟩⟩
attribute [local go_sem] Oper.semAt_some
theorem zbA {α:Type} {g:Nat} {lb:Array Value} {V:Nat->α->Array Value->World->Prop} {Xs:List α} {M:Nat->Prop} (ev:α->Value) (rc:α->List UInt8) (hV:∀T x av W,V T x av W->av=#[ev x]) (eg:∀args w,(callFunc g args).run Tryz.prog w=.ok (.enter g args) w)
 (w:World) (hg:Rt.Gives Tryz.prog g lb V Xs M w) (hM:∀k,M k->k<w.heap.size) (hp:∀x∈Xs,PcAt w w.heap.size (ev x,rc x)) (K wd:Nat) (hw:wd<=1000000) (hc:w.cell? ⟨K,2,none⟩=some (.int .i64 (wd:Int))) :
 Calls Tryz.prog 50 #[.pointer (some ⟨K,0,none⟩),.func (.func g) #[] lb] w fun e w'=>e=.returned (.bool (fitR wd (Xs.map rc)))/\Below w.heap.size w w':=by
 refine (callsIn_wide (n:=4)).1 ?_;obtain ⟨H,hH⟩:∃H,H=w.heap.size:=⟨_,rfl⟩
 obtain ⟨W3,hW3⟩:∃W3,((w.alloc (.cells #[.pointer (some ⟨K,0,none⟩)] 32)).alloc (.cells #[.bool false] 4)).alloc (.cells #[.slice none 0 0] 24)=W3:=⟨_,rfl⟩
 have hb3:Below w.heap.size w W3:=by rw[<-hW3];exact (((Below.refl _ _).alloc (Nat.le_refl _) _).alloc (by simp) _).alloc (by simp;omega) _
 have hs3:W3.heap.size=H+3:=by rw[<-hW3,hH];simp
 have b0:Blk W3 H [.pointer (some ⟨K,0,none⟩)]:=by rw[<-hW3,hH];exact ((Blk.new w [.pointer (some ⟨K,0,none⟩)] _).alloc _).alloc _
 have b1:Blk W3 (H+1) [.bool false]:=by rw[<-hW3,hH];exact (Blk.new' (w.alloc _) [.bool false] _ (by simp)).alloc _
 have b2:Blk W3 (H+2) [.slice none 0 0]:=by rw[<-hW3,hH];exact Blk.new' ((w.alloc _).alloc _) [.slice none 0 0] _ (by simp)
 have hK:=World.block_lt_of_cell? _ _ hc;have HI0:=gI (show FtI rc H K wd [] W3 from ⟨b0,b1,⟨none,0,0,b2,rfl,Rd.empty⟩,by rw[yY];exact ⟨(fun r hr=>by cases hr),List.Pairwise.nil⟩⟩);have HW3:=gI hW3;have HB3:=gI hb3;have HS3:=gI hs3;have HH:=gI hH;have HG:=gI hg;have HM:=gI hM;have HP:=gI hp;have HV:=gI hV;have EG:=gI eg;have HC:=gI hc;have HK:=gI (show K<H by rw[hH];exact hK);clear hW3 hb3 hs3 b0 b1 b2 hK hH hg hM hp hV eg hc;refine callsIn_of_wp_marks Tryz.func50 rfl trivial ?_ rfl;simp only[Tryz.ntmps50,List.size_toArray,List.length_cons,List.length_nil,Nat.reduceAdd,Nat.reduceSub,Array.replicate_succ,Array.replicate_zero,List.push_toArray,List.append_toArray,List.nil_append,List.cons_append]
 gi_wp2_with fail
 rw[HW3.out,<-HH.out];rw[show H+1+1=H+2 from rfl];have hs3:=HS3.out;refine Rt.YR (gf:=g) (lb:=lb) rfl EG.out HG.out HB3.out (fun T x av W h=>by rw[HV.out T x av W h];rfl)
  (fun T k=>k=H+1\/k=H+2\/T<=k) ?hS ?hM
  (fun T pre W'=>FtI rc H K wd pre W') (fun T cc pre W'=>cc=.ret/\FtX rc H wd pre W')
  (fun T hT s X Y h ho=>h.out ho (fun k hk e=>by omega)) (fun T cc hT s X Y h ho=>⟨h.1,h.2.r.out ho (fun e=>by omega),h.2.f⟩) (fun T hT=>HI0.out)
  (fun _ x a' _=>a'={tmps:=#[.pointer (some ⟨K,0,none⟩),.func (.func g) #[] lb,.pointer (some ⟨H,0,none⟩),undef,.pointer (some ⟨H+1,0,none⟩),.pointer (some ⟨H+2,0,none⟩),ev x,.func (.func g) #[] lb,ev x,undef,undef,undef,undef,undef,undef,undef,undef,undef,undef,undef,undef,undef,undef],defers:=[]})
  (fun _ x a' _ _ _ _ h _=>h)
  ?assign ?body ?done ?stop
 case hS=>
  rintro T k hT (rfl|rfl|hk)
  ·exact ⟨.inl (by omega),fun h=>by have:=HM.out _ h;have:=HH.out;omega⟩
  ·exact ⟨.inl (by omega),fun h=>by have:=HM.out _ h;have:=HH.out;omega⟩
  ·exact ⟨.inr hk,fun h=>by have:=HM.out _ h;have:=HH.out;omega⟩
 case hM=>
  intro k hk;have:=HM.out k hk;have:=HH.out;omega
 case assign=>
  rintro T l' m pre x av W' K2 hT hTW hv hI ho hK2;have hav:=HV.out T x av W' hv;subst hav
  gi_wp2
  exact hK2 _ _ (Out.refl _ _) hI rfl
 case body=>
  rintro T l' m pre x post a' W2 hT hXs hsz ho hI rfl;have hkeep:∀p:Addr,p.block<H->W2.cell? p=w.cell? p:=fun p hp=>by
   rw[ho.cell (by omega) (fun e=>by
    have e:p.block=H+1\/p.block=H+2\/T<=p.block:=e
    omega)]
   exact HB3.out.cell (by have:=HH.out;omega)
  obtain ⟨A1,n1,c1,e1,l1,-,g4,r1⟩:=(HP.out x (by rw[hXs];simp)).keep (w':=W2) (fun p hp=>hkeep p (by have:=HH.out;omega))
  dsimp only at e1 l1 r1
  rw[e1];obtain ⟨A2,n2,c2,b2,l2,r2⟩:=hI.l;have q0:=hI.x.cell (i:=0) rfl;have qr:=hI.r.cell (i:=0) rfl;have qrf:=hI.r.frozen 0;have q2:=b2.cell (i:=0) rfl;have q2f:=b2.frozen 0;have qw:W2.cell? ⟨K,2,none⟩=some (.int .i64 (wd:Int)):=(hkeep ⟨K,2,none⟩ HK.out).trans HC.out;obtain ⟨z,hz⟩:∃z,z=cmpB (Z0 (pre.map rc)) (rc x):=⟨_,rfl⟩
  have HCP:=gI (Yo A2 A1 n2 c2 n1 c1 (Z0 (pre.map rc)) (rc x) W2 H w.heap.size l2 r2 l1 r1);rw[<-hz] at HCP;have HF:=gI (zkv (x:=rc x) hI.f);have HI:=gI hI;have HZ:=gI hz;have HL1:=gI l1;have HR1:=gI (show Rd W2 H A1 (rc x) by rw[HH.out];exact r1);have hHW:H+2<W2.heap.size:=by omega
  clear hXs hkeep e1 l2 r2 hz hI ho b2 r1 l1
  by_cases hn1:n1=wd
  ·have d1:((n1:Int) != (wd:Int))=false:=by rw[hn1];simp
   have HN1:=gI hn1;clear hn1
   gi_wp2_with fail
   refine ⟨trivial,(fun h=>by simp[Fence.wide] at h),(CallsIn.inRound l' (callsIn_wide.2 HCP.out)).mono ?_⟩;rintro e w4 ⟨rfl,rfl⟩
   by_cases hz0:0<z
   ·have FIN:=gI (show Out (fun k=>k=H+1\/k=H+2\/T<=k) w4 (w4.setCell ⟨H+1,0,none⟩ (.bool false))/\FtX rc H wd (pre++[x]) (w4.setCell ⟨H+1,0,none⟩ (.bool false)) from
     ⟨(Out.refl (fun k=>k=H+1\/k=H+2\/T<=k) w4).setCell (p:=⟨H+1,0,none⟩) (.inl (.inl rfl)) _,HI.out.r.set 0 _,by rw[List.map_append];show fitR wd (pre.map rc++[rc x])=false;rw[HF.out,<-HZ.out];simp[hz0]⟩)
    clear q0 q2 q2f qw
    gi_wp2
    exact ⟨FIN.out.1,rfl,FIN.out.2⟩
   ·have FIN:=gI (show Out (fun k=>k=H+1\/k=H+2\/T<=k) w4 (w4.setCell ⟨H+2,0,none⟩ (.slice A1 n1 c1))/\FtI rc H K wd (pre++[x]) (w4.setCell ⟨H+2,0,none⟩ (.slice A1 n1 c1)) from by
     have ho:Out (fun k=>k=H+2) w4 (w4.setCell ⟨H+2,0,none⟩ (.slice A1 n1 c1)):=(Out.refl (fun k=>k=H+2) w4).setCell (p:=⟨H+2,0,none⟩) (.inl rfl) _;have hm:(pre++[x]).map rc=pre.map rc++[rc x]:=by rw[List.map_append];rfl
     obtain ⟨A2',n2',c2',b2',-,-⟩:=HI.out.l;refine ⟨ho.more fun k _ hk=>.inr (.inl hk),HI.out.x.out ho (by omega),HI.out.r.out ho (by omega),⟨A1,n1,c1,b2'.set 0 _,by rw[hm,Zm];exact HL1.out,by rw[hm,Zm];exact HR1.out.keep fun p hp=>ho.cell (by omega) (by omega)⟩,?_⟩;rw[hm,HF.out,<-HZ.out,HL1.out,HN1.out]
     simp;omega)
    clear q0 qw qr qrf
    gi_wp2
    exact FIN.out
  ·have d1:((n1:Int) != (wd:Int))=true:=by simp;omega
   have FIN:=gI (show Out (fun k=>k=H+1\/k=H+2\/T<=k) W2 (W2.setCell ⟨H+1,0,none⟩ (.bool false))/\FtX rc H wd (pre++[x]) (W2.setCell ⟨H+1,0,none⟩ (.bool false)) from
    ⟨(Out.refl (fun k=>k=H+1\/k=H+2\/T<=k) W2).setCell (p:=⟨H+1,0,none⟩) (.inl (.inl rfl)) _,HI.out.r.set 0 _,by rw[List.map_append];show fitR wd (pre.map rc++[rc x])=false;rw[HF.out,HL1.out];simp[hn1]⟩)
   clear q2 q2f
   gi_wp2_with fail
   refine ⟨trivial,?_⟩
   gi_wp2
   exact ⟨FIN.out.1,rfl,FIN.out.2⟩
 case done=>
  rintro T D W2 hT hD ho hI hK2;have z0:=hI.r.cell (i:=0) rfl;have zf:=hI.r.frozen 0;have hlt:=(Array.getElem?_eq_some_iff.1 hK2).1;have hbw:Below w.heap.size w W2:=HB3.out.trans (ho.below (fun k _ hk=>by
   have hk:k=H+1\/k=H+2\/T<=k:=hk;have:=HH.out
   omega) HB3.out.size)
  have hK3:(W2.setCell ⟨H+1,0,none⟩ (.bool true)).heap[D]?=some (.deferred (some [])):=by
   rw[Below.heap_setCell _ _ _ _ (show D≠H+1 by omega)];exact hK2
  have HKD:=gI hK3;have FIN:=gI (show ((W2.setCell ⟨H+1,0,none⟩ (.bool true)).putObj D (.deferred none)).cell? ⟨H+1,0,none⟩=some (.bool (fitR wd (Xs.map rc)))/\Below w.heap.size w ((W2.setCell ⟨H+1,0,none⟩ (.bool true)).putObj D (.deferred none)) from by
   rw[hI.f];refine ⟨((hI.r.set 0 (.bool true)).grown (grownBy_putObj' _ D (.deferred none)) (fun e=>by injection e with e;omega)).cell (i:=0) rfl,?_⟩;exact (hbw.setCell (p:=⟨H+1,0,none⟩) (by have:=HH.out;show _<=H+1;omega) _).grown (grownBy_putObj' _ D _) (by have:=hbw.size;simp;omega) (fun k e=>by cases e;have:=HH.out;omega))
  clear hI ho hK2 hK3 hbw
  gi_wp2
  refine ⟨by simp,.inl ⟨_,_,rfl,run_takeDeferred HKD.out,?_⟩⟩;have r0:=FIN.out.1;refine ⟨.bool (fitR wd (Xs.map rc)),?_,rfl,FIN.out.2⟩;simp[results,Tryz.results50,go_sem,r0]
 case stop=>
  rintro T D cc pre post W2 hT hD ho hX ⟨rfl,hI⟩ hK2;have hlt:=(Array.getElem?_eq_some_iff.1 hK2).1;have hbw:Below w.heap.size w W2:=HB3.out.trans (ho.below (fun k _ hk=>by
   have hk:k=H+1\/k=H+2\/T<=k:=hk;have:=HH.out
   omega) HB3.out.size)
  have HKD:=gI hK2;have FIN:=gI (show (W2.putObj D (.deferred none)).cell? ⟨H+1,0,none⟩=some (.bool (fitR wd (Xs.map rc)))/\Below w.heap.size w (W2.putObj D (.deferred none)) from by
   rw[hX,List.map_append,zix hI.f];exact ⟨(hI.r.grown (grownBy_putObj' _ D (.deferred none)) (fun e=>by injection e with e;omega)).cell (i:=0) rfl,hbw.grown (grownBy_putObj' _ D _) (by have:=hbw.size;omega) (fun k e=>by cases e;have:=HH.out;omega)⟩)
  clear hI ho hK2 hbw
  gi_wp2
  refine ⟨by simp,.inl ⟨_,_,rfl,run_takeDeferred HKD.out,?_⟩⟩;have r0:=FIN.out.1;refine ⟨.bool (fitR wd (Xs.map rc)),?_,rfl,FIN.out.2⟩;simp[results,Tryz.results50,go_sem,r0]
end
section
open Go.RowKit Me Mf Rw Ds Rn Tx Fr
variable {w w':World} {B K P D M N:Nat} {hb:Option Nat} {X:Sto} {R:SrD} {own ownD:Nat->Prop}
structure zI (w:World) (B K P D M N:Nat) (hb:Option Nat) (X:Sto) (R:SrD) (own ownD:Nat->Prop):Prop where
 st:zo w B P D M N X own ownD
 bx:yR w B K P hb R
 k:own K/\¬Foot P M ownD K
 h:∀k,hb=some k->own k/\¬Foot P M ownD k
def yg (P M K:Nat) (hb:Option Nat) (ownD:Nat->Prop):Nat->Prop:=fun k=>Foot P M ownD k\/k=K\/hb=some k
theorem zI.past (h:zI w B K P D M N hb X R own ownD) (hb':Below w.heap.size w w'):zI w' B K P D M N hb X R own ownD:=⟨h.st.past hb',h.bx.past hb',h.k,h.h⟩
theorem zI.stored {N':Nat} {X':Sto} (h:zI w B K P D M N hb X R own ownD) (hs:zkN w B P D M N' X' own ownD w'):zI w' B K P D M N' hb X' R own ownD:=
 ⟨hs.1,h.bx.out hs.2 h.k.2 (fun k hk=>(h.h k hk).2) (fun k hk=>.inl (h.st.lt (h.st.own k hk)).1),h.k,h.h⟩
theorem zI.foot (h:zI w B K P D M N hb X R own ownD) {k:Nat} (hk:yg P M K hb ownD k):own k:=by
 rcases hk with hk|rfl|hk
 ·exact h.st.own k hk
 ·exact h.k.1
 ·exact (h.h k hk).1
theorem zI.turn {hb':Option Nat} {R':SrD} (h:zI w B K P D M N hb X R own ownD) (ho:Out (fun k=>k=K\/hb=some k) w w') (hx:yR w' B K P hb' R') (hh:∀k,hb'=some k->hb=some k):zI w' B K P D M N hb' X R' own ownD:=
 ⟨h.st.kept ho (fun k _ hk=>by
   rcases hk with rfl|hk
   ·exact h.k
   ·exact h.h k hk),hx,h.k,fun k hk=>h.h k (hh k hk)⟩
theorem VI (A:Option Addr) (n c:Nat) (l:List UInt8) (w:World) (hl:l.length=n) (hn:n<=1048576) (hr:Rd w w.heap.size A l) :
 Calls Tryz.prog 43 #[.slice A n c] w (Yp w (Fr.encS (Fr.SecD.mk 82 l)) 0):=by
 have HP:=gI (zc6 none 0 0 [] A n c (Fr.SecD.mk 82 l) w rfl (by omega) Rd.empty hl hn hr);clear hl hr
 go_enter Tryz.func43,Tryz.ntmps43
 go_wp2_with fail
 refine HP.out.mono ?_;rintro e w1 ⟨v,k,rfl,h1,h2⟩;have H:=gI (And.intro h1 h2);clear h1 h2
 go_wp2
 go_ret2
 exact ⟨v,k,rfl,H.out⟩
def raG (K P n c nx:Nat) (A:Option Addr) (x:List UInt8) (r:Int):Gw.Fact:=fun t v _=>
 match t with
 |0|6|7|10|11|12=>v=.pointer (some ⟨K,0,none⟩)
 |8=>v=.pointer (some ⟨K,0,none⟩)
 |9=>v=.pointer (some ⟨P,0,none⟩)
 |13=>v=.pointer (some ⟨K,6,none⟩)
 |14=>v=.int .i64 (nx:Int)
 |15=>v=sv x
 |1|16=>v=.slice A n c
 |17|5=>v=.int .i64 r
 |_=>True
def raI (w:World) (B K P D M N:Nat) (hb:Option Nat) (X:Sto) (R:SrD) (own ownD:Nat->Prop) (r:Int) (C:Chg):Nat->World->Prop:=fun p W=>
 if p=0 then Below w.heap.size w W else Out (yg P M K hb ownD) w W/\((r≠0/\zI W B K P D M N hb X R own ownD)\/(r=0/\zI W B K P D M (N+1) hb {X with C:=C} R own ownD))
def zi0 (w:World) (B K P D M N:Nat) (hb:Option Nat) (X:Sto) (R:SrD) (own ownD:Nat->Prop) (r:Int) (C:Chg) (e:Ending) (w':World):Prop:=
 e=.returned (.int .i64 r)/\Out (yg P M K hb ownD) w w'/\((r≠0/\zI w' B K P D M N hb X R own ownD)\/(r=0/\zI w' B K P D M (N+1) hb {X with C:=C} {R with next:=R.next+1} own ownD))
theorem yR.next (h:yR w B K P hb R) (hn:R.next<1000000):yR (w.setCell ⟨K,6,none⟩ (.int .i64 ((R.next:Int)+1))) B K P hb {R with next:=R.next+1}:=by
 obtain ⟨A,n,c,h1,h2,h3,h4⟩:=h.box;have hT:=h.tlo;have hlo:=h.lo;have ho:Out (fun k=>k=K) w (w.setCell ⟨K,6,none⟩ (.int .i64 ((R.next:Int)+1))):=(Out.refl (fun k=>k=K) w).setCell (p:=⟨K,6,none⟩) (.inl rfl) _;refine ⟨⟨A,n,c,h1.set 6 _,zn h2 ho (fun k hk e=>h.ne (by rw[<-h3,hk,e])),h3,h4⟩,h.lo,h.ne,⟨h.ok.pre,h.ok.wd,h.ok.rm,h.ok.wid,h.ok.few,⟨by have:=h.ok.run.1;show R.first<=R.next+1;omega,by show R.next+1<=1000000;omega⟩⟩,h.tab.out ho (fun e=>by have e:1=K:=e;omega),hT⟩
theorem zeW (h:zI w B K P D M N hb X R own ownD) (A:Option Addr) (n c:Nat) (b:List UInt8) (hb2:b.length=n) (hn:n<=70368744177664) (hr:Rd w w.heap.size A b) (hN:N<maxLen) (hnx:R.next<1000000) :
 Calls Tryz.prog 45 #[.pointer (some ⟨K,0,none⟩),.slice A n c] w (zi0 w B K P D M N hb X R own ownD (xg (upD X) (zq R R.next) n) (setC X.C (zq R R.next) (some b))):=by
 obtain ⟨A',n',c',h1,-⟩:=h.bx.box;obtain ⟨c0,c1,c2,c3,c4,c5,c6⟩:=h1.seven;have hk0:=World.block_lt_of_cell? _ _ c0;obtain ⟨nx,hnx2⟩:∃nx,nx=R.next:=⟨_,rfl⟩
 obtain ⟨x,hx⟩:∃x,x=zq R R.next:=⟨_,rfl⟩
 obtain ⟨r,hrr⟩:∃r,r=xg (upD X) x n:=⟨_,rfl⟩
 obtain ⟨C,hC⟩:∃C,C=setC X.C x (some b):=⟨_,rfl⟩
 rw[<-hx,<-hrr,<-hC];rw[<-hnx2] at c6;have HH:=gI h;have HC:=gI (And.intro c0 c6);have HK:=gI hk0;have HNM:=gI (show ∀W,Below w.heap.size w W->Calls Tryz.prog 31 #[.pointer (some ⟨K,0,none⟩),.int .i64 (nx:Int)] W fun e w'=>e=.returned (sv x)/\Below W.heap.size W w' from fun W hW=>by
  rw[hx,hnx2];exact Q9 (h.bx.past hW) R.next (by omega))
 have HWR:=gI (show ∀W,Below w.heap.size w W->Calls Tryz.prog 38 #[.pointer (some ⟨P,0,none⟩),sv x,.slice A n c] W (zdx W B P D M N X own ownD r C) from fun W hW=>by
  rw[hrr,hC];exact zah (h.st.past hW) x A n c b hb2 hn ((hr.below hW).more hW.size) hN)
 have hnx6:nx<1000000:=by omega
 have HNX:=gI hnx2;clear h h1 c0 c1 c2 c3 c4 c5 c6 hb2 hr hx hrr hC hnx2 hnx
 go_enter Tryz.func45,Tryz.ntmps45
 go_wp2_with fail
 refine Gw.zN (Out (yg P M K hb ownD)) (Out.refl _) (fun _ _ _=>Out.trans) (raI w B K P D M N hb X R own ownD r C) (raG K P n c nx A x r) [11] [6,7,8,9,10,11,12,13,14,15,16,17,5] [([0],none,[0],false),([6],none,[0],false),([7],none,[0],false),([8],none,[0],false),([0],none,[0],false),([0],none,[0],false),([11],none,[0],false),([12],none,[0],false),([13],none,[0],false),([10,14],none,[0],false),([1],none,[0],false),([9,15,16],none,[0],true),([17],none,[1],false)] 28 1 (by kernel_rfl) (by kernel_rfl) rfl (xu _ _) ?hI ?h0 ?hreq ?hend
 case hI=>
  show (if 0=0 then Below w.heap.size w w.drew else _)
  rw[if_pos rfl];exact (Below.refl _ _).drew
 case h0=>
  intro t W hnd _;unfold raG
  split<;>first|rfl|trivial|exact absurd (by simp) hnd
 case hreq=>
  refine ⟨⟨?_,trivial⟩,⟨?_,trivial⟩,⟨?_,trivial⟩,⟨?_,trivial⟩,⟨?_,trivial⟩,⟨?_,trivial⟩,⟨?_,trivial⟩,⟨?_,trivial⟩,⟨?_,trivial⟩,⟨?_,trivial⟩,⟨?_,trivial⟩,⟨?_,trivial⟩,⟨?_,trivial⟩,trivial⟩
  all_goals
   intro ac W hR hI hk;simp only[Gw.Knows,raG] at hk
   try (simp[go_sem,Gw.yo,Gw.OkP,Gw.xH,Gw.zW,raG,Out.refl,hk,hI];done)
  all_goals
   try (have q0:=((show Below w.heap.size w W from hI).cell (p:=⟨K,0,none⟩) HK.out).trans HC.out.1
        have q6:=((show Below w.heap.size w W from hI).cell (p:=⟨K,6,none⟩) HK.out).trans HC.out.2;simp[go_sem,Gw.yo,Gw.OkP,Gw.xH,Gw.zW,raG,Out.refl,hk,hI,q0,q6]
        done)
  ·have hI':Below w.heap.size w W:=hI;simp[go_sem,Gw.yo,Gw.OkP,Gw.xH,Gw.zW,raG,Out.refl,hk];refine (HNM.out W hI').mono ?_;rintro e W' ⟨rfl,hb3⟩;exact ⟨_,rfl,.of_below hb3,hI'.trans (hb3.mono hI'.size),fun _ _=>rfl⟩
  ·have hI':Below w.heap.size w W:=hI;simp[go_sem,Gw.yo,Gw.OkP,Gw.xH,Gw.zW,raG,Out.refl,hk];refine (HWR.out W hI').mono ?_;rintro e W' ⟨rfl,hb3⟩;have ho:Out (yg P M K hb ownD) W W':=by
    rcases hb3 with ⟨-,h3⟩|⟨-,h3⟩
    ·exact h3.2.more fun k _ hk=>.inl hk
    ·exact h3.2.more fun k _ hk=>.inl hk
   refine ⟨_,rfl,ho,⟨(Out.of_below hI').trans ho,?_⟩,fun _ _=>rfl⟩;rcases hb3 with ⟨h2,h3⟩|⟨h2,h3⟩
   ·exact .inl ⟨h2,(HH.out.past hI').stored h3⟩
   ·exact .inr ⟨h2,(HH.out.past hI').stored h3⟩
 case hend=>
  intro y w' hR hI hx;have v5:=hx 5 (by simp) _ (Out.refl _ _);simp only[raG] at v5;clear hx;simp only[Gw.zm,Act.put,List.setIfInBounds_toArray,List.set_cons_zero,List.set_cons_succ];rw[v5];obtain ⟨ho,hw⟩:=(show Out (yg P M K hb ownD) w w'/\((r≠0/\zI w' B K P D M N hb X R own ownD)\/(r=0/\zI w' B K P D M (N+1) hb {X with C:=C} R own ownD)) from hI)
  rcases hw with ⟨hr0,hs⟩|⟨hr0,hs⟩
  ·have d1:(r != 0)=true:=by simpa using hr0
   have FIN:=gI (show zi0 w B K P D M N hb X R own ownD r C (.returned (.int .i64 r)) w' from ⟨rfl,ho,.inl ⟨hr0,hs⟩⟩);clear ho hs hr0 hR hI
   go_wp2
   go_ret
   exact FIN.out
  ·subst hr0;obtain ⟨A2,n2,c2,g1,-⟩:=hs.bx.box;rw[<-HNX.out] at g1;have d6:=g1.cell (i:=6) rfl;have e6:=g1.frozen 6;have FIN:=gI (show zi0 w B K P D M N hb X R own ownD 0 C (.returned (.int .i64 0)) (w'.setCell ⟨K,6,none⟩ (.int .i64 ((nx:Int)+1))) from by
    have hnb:=hs.bx.next (by rw[<-HNX.out];exact hnx6);rw[<-HNX.out] at hnb;have ho2:Out (fun k=>k=K\/hb=some k) w' (w'.setCell ⟨K,6,none⟩ (.int .i64 ((nx:Int)+1))):=(Out.refl (fun k=>k=K\/hb=some k) w').setCell (p:=⟨K,6,none⟩) (.inl (.inl rfl)) _;refine ⟨rfl,ho.trans (ho2.more fun k _ hk=>.inr hk),.inr ⟨rfl,?_⟩⟩;have:=hs.turn ho2 hnb (fun k hk=>hk);rw[HNX.out] at this ⊢;exact this)
   clear ho hs g1 hR hI
   go_wp2
   go_ret
   exact FIN.out
end
section
open Go.RowKit Me Mf Rw Ds Rn Tx
variable {w w':World} {B K P D M N:Nat} {hb:Option Nat} {X:Sto} {R:SrD} {own ownD:Nat->Prop}
def runB (l:List (List UInt8)):List UInt8:=Fr.encS (Fr.SecD.mk 82 l.flatten)
theorem yU (l:List (List UInt8)):(runB l).length=l.flatten.length+13:=Fr.vM _
def xB (X:Sto) (R:SrD):Int×Sto×SrD:=
 if R.held=[] then (0,X,R) else if xg (upD X) (zq R R.next) ((runB (zG R.held)).length:Nat)≠0 then (xg (upD X) (zq R R.next) ((runB (zG R.held)).length:Nat),X,R)
 else (0,{X with C:=setC X.C (zq R R.next) (some (runB (zG R.held)))},{R with next:=R.next+1,held:=[]})
def YK (w:World) (B K P D M N:Nat) (hb:Option Nat) (own ownD:Nat->Prop) (r:Int×Sto×SrD) (e:Ending) (w':World):Prop:=
 e=.returned (.int .i64 r.1)/\Out (yg P M K hb ownD) w w'/\∃N' hb' own',N'<=N+1/\zI w' B K P D M N' hb' r.2.1 r.2.2 own' ownD/\(∀k,own k->own' k)/\(∀k,own' k->own k\/w.heap.size<=k)/\(∀k,hb'=some k->hb=some k\/w.heap.size<=k)
theorem Zn (h:OkR R):R.held.flatten.length<=262144:=by
 rw[zT h.wid];have h1:R.wd*R.held.length<=64*4096:=Nat.mul_le_mul h.wd.2 (by have:=h.few;have:=h.rm;omega);omega
theorem zks (h:OkR R):R.held.flatten.length=0↔R.held=[]:=by
 rw[zT h.wid,Nat.mul_eq_zero];have:=h.wd.1
 constructor
 ·rintro (e|e)
  ·omega
  ·exact List.length_eq_zero_iff.1 e
 ·intro e;right;rw[e];rfl
theorem zI.fewer {hb':Option Nat} (h:zI w B K P D M N hb X R own ownD) (hx:yR w' B K P none {R with held:=[]}) (ho:Out (fun k=>k=K) w w'):zI w' B K P D M N none X {R with held:=[]} own ownD:=
 h.turn (ho.more fun k _ hk=>.inl hk) hx (fun k e=>by cases e)
theorem zao (h:zI w B K P D M N hb X R own ownD) (hN:N<maxLen) (hnx:R.next<1000000) :
 Calls Tryz.prog 19 #[.pointer (some ⟨K,0,none⟩)] w (YK w B K P D M N hb own ownD (xB X R)):=by
 obtain ⟨A,n,c,h1,h2,h3,h4⟩:=h.bx.box;have c4:=h1.cell (i:=4) rfl;have hfb:=Zn h.bx.ok;have hfn:=zks h.bx.ok;have HH:=gI h
 by_cases h0:R.held=[]
 ·have hn0:n=0:=by rw[<-h4,h0];rfl
  have hD:xB X R=(0,X,R):=by unfold xB;rw[if_pos h0]
  rw[hD];have d1:((n:Int)==0)=true:=by rw[hn0];rfl
  clear h h1 h2 h3 h4 hD h0 hn0 hfb hfn
  go_enter Tryz.func19,Tryz.ntmps19
  go_wp2
  go_ret
  exact ⟨rfl,.refl _ _,N,hb,own,by omega,HH.out,fun k hk=>hk,fun k hk=>.inl hk,fun k hk=>.inl hk⟩
 ·have hn0:n≠0:=fun e=>h0 (hfn.1 (by rw[h4,e]))
  have d1:((n:Int)==0)=false:=beq_eq_false_iff_ne.2 (by omega);have HS:=gI (Q6 h.bx);obtain ⟨S,hS⟩:∃S,S=(zG R.held).flatten:=⟨_,rfl⟩
  have hSl:S.length=R.held.flatten.length:=by rw[hS];exact Mw.perm_flatten_len (zR _)
  rw[<-hS] at HS;obtain ⟨r,hr⟩:∃r,r=xg (upD X) (zq R R.next) ((runB (zG R.held)).length:Nat):=⟨_,rfl⟩
  obtain ⟨C,hC⟩:∃C,C=setC X.C (zq R R.next) (some (runB (zG R.held))):=⟨_,rfl⟩
  have hD:xB X R=if r≠0 then (r,X,R) else (0,{X with C:=C},{R with next:=R.next+1,held:=[]}):=by
   unfold xB;rw[if_neg h0,<-hr,<-hC]
  obtain ⟨F,hF⟩:∃F,F=xB X R:=⟨_,rfl⟩
  rw[<-hF] at hD ⊢;have HD:=gI hD;have HRB:=gI (show runB (zG R.held)=Fr.encS (Fr.SecD.mk 82 S) by rw[hS];rfl);have HSL:=gI (show S.length<=262144 by omega);have HRC:=gI (And.intro hr hC);clear h h1 h2 h3 h4 h0 hn0 hfb hfn hS hSl hr hC hD hF
  go_enter Tryz.func19,Tryz.ntmps19
  go_wp2_with fail
  refine HS.out.mono ?_;rintro e w1 hnews;obtain ⟨A1,n1,c1,rfl,hl1,hc1,ho1,hr1,hb1⟩:=hnews.open;have HEN:=gI (VI A1 n1 c1 S w1 hl1 (by have:=HSL.out;omega) hr1);have HB1:=gI hb1;clear hnews hl1 hc1 ho1 hr1 hb1
  go_wp2_with fail
  refine HEN.out.mono ?_;rintro e w2 hput;obtain ⟨A2,n2,c2,rfl,hl2,hc2,ho2,hr2,hb2⟩:=hput.open;rw[<-HRB.out] at hl2 hr2;have hbw:Below w.heap.size w w2:=HB1.out.trans (hb2.mono HB1.out.size);have hn2:n2<=300000:=by
   have h1:=Fr.vM (Fr.SecD.mk 82 S);have h2:(Fr.SecD.mk 82 S).body.length=S.length:=rfl;rw[<-HRB.out,hl2,h2] at h1;have:=HSL.out;omega
  have HAD:=gI (zeW (HH.out.past hbw) A2 n2 c2 _ hl2 (by omega) hr2 hN hnx);rw[<-(show r=xg (upD X) (zq R R.next) n2 by rw[HRC.out.1,hl2]),<-HRC.out.2] at HAD;have HBW:=gI hbw;clear hput hl2 hc2 ho2 hr2 hb2 hbw
  go_wp2_with fail
  refine HAD.out.mono ?_;rintro e w3 ⟨rfl,ho3,hw3⟩;have HO3:=gI ((Out.of_below HBW.out).trans ho3);rcases hw3 with ⟨hr0,hs3⟩|⟨hr0,hs3⟩
  ·have d2:(r != 0)=true:=by simpa using hr0
   have FIN:=gI (show YK w B K P D M N hb own ownD F (.returned (.int .i64 r)) w3 from by
    rw[HD.out,if_pos hr0];exact ⟨rfl,HO3.out,N,hb,own,by omega,hs3,fun k hk=>hk,fun k hk=>.inl hk,fun k hk=>.inl hk⟩)
   clear ho3 hs3 hr0
   go_wp2
   go_ret
   exact FIN.out
  ·subst hr0;have HS3:=gI hs3;clear ho3 hs3
   go_wp2_with fail
   refine (YQ HS3.out.bx).mono ?_;rintro e w4 ⟨rfl,hx4,ho4⟩;have FIN:=gI (show YK w B K P D M N hb own ownD F (.returned (.int .i64 0)) w4 from by
    rw[HD.out,if_neg (by simp)];exact ⟨rfl,HO3.out.trans (ho4.more fun k _ hk=>.inr (.inl hk)),N+1,none,own,Nat.le_refl _,HS3.out.fewer (hb':=none) hx4 ho4,fun k hk=>hk,fun k hk=>.inl hk,fun k hk=>by cases hk⟩)
   clear hx4 ho4
   go_wp2
   go_ret
   exact FIN.out
def putR (X:Sto) (R:SrD) (rec_:List UInt8):Int×Sto×SrD:=
 if rec_.length≠R.wd then (3,X,R) else
  let q:=if R.held.length=R.rm then xB X R else (0,X,R)
  if q.1≠0 then q else (0,q.2.1,{q.2.2 with held:=q.2.2.held++[rec_]})
theorem zkr (X:Sto) (R:SrD) (h:(xB X R).1≠0):xB X R=((xB X R).1,X,R):=by
 unfold xB at h ⊢
 split at h
 ·exact absurd rfl h
 ·split at h
  ·rename_i h1 h2
   rw[if_neg h1,if_pos h2]
  ·exact absurd rfl h
theorem zgw (X:Sto) (R:SrD) (h:(xB X R).1=0) (hne:R.held≠[]):(xB X R).2.2.held=[]/\(xB X R).2.2.wd=R.wd/\(xB X R).2.2.rm=R.rm:=by
 unfold xB at h ⊢;rw[if_neg hne] at h ⊢
 split at h
 ·rename_i h1;exact absurd h h1
 ·rename_i h1
  rw[if_neg h1];exact ⟨rfl,rfl,rfl⟩
theorem zI.push (h:zI w B K P D M N hb X R own ownD) {rec_:List UInt8} (hl:rec_.length=R.wd) (hfew:R.held.length<R.rm) {A A7:Option Addr} {n c k n7 c7:Nat} (hx:Blk w K [.pointer (some ⟨P,0,none⟩),sv R.pre,.int .i64 (R.wd:Int),.int .i64 (R.rm:Int),.slice A n c,.int .i64 (R.first:Int),.int .i64 (R.next:Int)])
 (hr:(Value.slice A n c).ownBlock=hb) (hn:R.held.flatten.length=n) (hk:rec_.length=k) {w6:World} (ho6:w6.ownsRow B 5 1 (.slice A7 n7 c7) (n+k) (cellsOf (R.held.flatten++rec_))) (h7:n7=n+k) (hg6:w.grownBy w6 (Value.slice A n c).ownBlock)
 (hn6:(Value.slice A7 n7 c7).ownBlock=(Value.slice A n c).ownBlock\/(Value.slice A7 n7 c7).ownBlock=some w.heap.size) :
 ∃hb' own',zI (w6.setCell ⟨K,4,none⟩ (.slice A7 n7 c7)) B K P D M N hb' X {R with held:=R.held++[rec_]} own' ownD/\Out (yg P M K hb ownD) w (w6.setCell ⟨K,4,none⟩ (.slice A7 n7 c7))/\(∀k,own k->own' k)/\(∀k,own' k->own k\/w.heap.size<=k)/\(∀k,hb'=some k->hb=some k\/w.heap.size<=k):=by
 subst h7;have hKlt:=h.bx.lt;have hne:=h.bx.ne;have hlo:=h.bx.lo;have hT:=h.bx.tlo;have hB:B<=w.heap.size:=by omega
 have ho1:Out (fun j=>j=K\/hb=some j) w w6:=Out.of_grown hg6 (fun j e _=>.inr (hr.symm.trans e));have ho:Out (fun j=>j=K\/hb=some j) w (w6.setCell ⟨K,4,none⟩ (.slice A7 (n+k) c7)):=ho1.setCell (p:=⟨K,4,none⟩) (.inl (.inl rfl)) _;have hlie:∀j,(Value.slice A7 (n+k) c7).ownBlock=some j->hb=some j\/j=w.heap.size:=fun j e=>by
  rcases hn6 with q|q
  ·exact .inl (hr.symm.trans (q.symm.trans e))
  ·rw[q] at e;injection e with e;exact .inr e.symm
 have hbl:∀j,(Value.slice A7 (n+k) c7).ownBlock=some j->j<w6.heap.size:=fun j e=>(ho6.lt j e).2
 have hKne:(Value.slice A7 (n+k) c7).ownBlock≠some K:=fun e=>by
  rcases hlie K e with q|q
  ·exact hne q
  ·omega
 have hsz:(w6.setCell ⟨K,4,none⟩ (.slice A7 (n+k) c7)).heap.size=w6.heap.size:=World.size_setCell ..;refine ⟨(Value.slice A7 (n+k) c7).ownBlock,fun j=>own j\/(Value.slice A7 (n+k) c7).ownBlock=some j,⟨?_,⟨⟨A7,n+k,c7,(hx.grown hg6 (fun e=>hne (hr.symm.trans e))).set 4 _,?_,rfl,by show (R.held++[rec_]).flatten.length=_;rw[List.flatten_append,List.length_append,hn];simp[hk]⟩,hlo,hKne,?_,?_,hT⟩,⟨.inl h.k.1,h.k.2⟩,fun j e=>⟨.inr e,fun hf=>?_⟩⟩,?_,fun j hj=>.inl hj,fun j hj=>?_,fun j e=>?_⟩
 ·refine h.st.wide (ho.more fun j _ hj=>?_) (ho.more fun j _ hj=>?_) (fun j hj=>.inl hj) (fun j hj=>?_) (fun j hj=>?_)
  ·rcases hj with rfl|hj
   ·exact h.k.1
   ·exact (h.h j hj).1
  ·rcases hj with rfl|hj
   ·exact h.k
   ·exact h.h j hj
  ·rcases hj with hj|hj
   ·exact .inl hj
   ·rcases hlie j hj with q|q
    ·exact .inl (h.h j q).1
    ·exact .inr (by omega)
  ·rw[hsz];rcases hj with hj|hj
   ·have:=h.st.lt hj;have:=ho1.size;omega
   ·have:=ho6.lt j hj;omega
 ·have h8:=zn ho6 ((Out.refl (fun j=>j=K) w6).setCell (p:=⟨K,4,none⟩) (.inl rfl) (.slice A7 (n+k) c7)) (fun j hj e=>hKne (by rw[hj,e]));show World.ownsRow _ B _ 1 _ (n+k) (cellsOf (R.held++[rec_]).flatten)
  rw[List.flatten_append]
  simpa using h8
 ·refine ⟨h.bx.ok.pre,h.bx.ok.wd,h.bx.ok.rm,QH.2 ⟨h.bx.ok.wid,hl⟩,?_,h.bx.ok.run⟩;show (R.held++[rec_]).length<=R.rm
  rw[List.length_append];simp;omega
 ·exact h.bx.tab.out ho (fun e=>by
   rcases e with e|e
   ·omega
   ·have:=h.bx.row _ e;omega)
 ·rcases hlie j e with q|q
  ·exact (h.h j q).2 hf
  ·have:=(h.st.lt (h.st.own j hf)).2;omega
 ·exact ho.more fun j _ hj=>by
   rcases hj with hj|hj
   ·exact .inr (.inl hj)
   ·exact .inr (.inr hj)
 ·rcases hj with hj|hj
  ·exact .inl hj
  ·rcases hlie j hj with q|q
   ·exact .inl (h.h j q).1
   ·exact .inr (by omega)
 ·rcases hlie j e with q|q
  ·exact .inl q
  ·exact .inr (by omega)
end
section
open Go.RowKit Me Mf Rw Ds Rn Tx Fr
variable {w w':World} {B K P D M N:Nat} {hb:Option Nat} {X:Sto} {R:SrD} {own ownD:Nat->Prop}
theorem zlu {w:World} {B n wd:Nat} {A:Option Addr} {b:List UInt8} (hw:0<wd) (hl:b.length=n) (hn:n<=9223372036854775807) (hr:Rd w B A b) {k:Nat} (hk:k<pcs wd n):PcAt w B (ckS A wd n k,(b.drop (wd*k)).take wd):=by
 have h1:wd*k<n:=by
  have h2:k+1<=(n+wd-1) / wd:=hk;have h3:=(Nat.le_div_iff_mul_le hw).1 h2;rw[Nat.add_mul,Nat.one_mul,Nat.mul_comm] at h3;omega
 refine ⟨_,_,_,rfl,?_,Nat.le_refl _,by unfold ckL;omega,?_⟩
 ·show ((b.drop (wd*k)).take wd).length=ckL wd n k
  rw[List.length_take,List.length_drop,hl];rfl
 ·intro hpos;obtain ⟨a,ha,hb,hcl⟩:=hr (by rw[hl];omega);subst ha;refine ⟨a.add (wd*k),rfl,by rw[block_add];exact hb,fun i u hu=>?_⟩;rw[add_add];refine hcl (wd*k+i) u ?_;have hu:((b.drop (wd*k)).take wd)[i]?=some u:=hu;rw[List.getElem?_take] at hu
  split at hu
  ·rw[List.getElem?_drop] at hu;exact hu
  ·cases hu
def rdD (X:Sto) (R:SrD) (i:Nat):List UInt8×Int:=
 let b:=xS X (zq R i)
 if b.2≠0 then ([],b.2) else
  let g:=getS b.1
  if g.2.2≠0\/g.2.1≠b.1.length\/g.1.kind≠82\/fitR R.wd (pieces R.wd g.1.body)=false then ([],5) else (g.1.body,0)
def ziZ (w:World) (p:List UInt8×Int) (e:Ending) (w':World):Prop:=
 ∃A n c,e=.returned (.tuple #[.slice A n c,.int .i64 p.2])/\Below w.heap.size w w'/\p.1.length=n/\n<=1048576/\n<=c/\c<=9223372036854775807/\Rd w' w'.heap.size A p.1/\∀a,A=some a->w.heap.size<=a.block
theorem zhq {w w':World} {p:List UInt8×Int} {x:Int} (h:p=([],x)) (hb:Below w.heap.size w w'):ziZ w p (.returned (.tuple #[.slice none 0 0,.int .i64 x])) w':=by
 subst h;exact ⟨none,0,0,rfl,hb,rfl,by omega,by omega,by omega,Rd.empty,fun a h=>by cases h⟩
def rdA (K P i:Nat) (x b:List UInt8) (r:Int):Gw.Fact:=fun t v W=>
 match t with
 |0|11|12|13|15=>v=.pointer (some ⟨K,0,none⟩)
 |14=>v=.pointer (some ⟨P,0,none⟩)
 |1|16=>v=.int .i64 (i:Int)
 |17=>v=sv x
 |18|10=>∃A n c,v=.tuple #[.slice A n c,.int .i64 r]/\b.length=n/\n<=c/\c<=9223372036854775807/\Rd W W.heap.size A b
 |19|6=>∃A n c,v=.slice A n c/\b.length=n/\n<=c/\c<=9223372036854775807/\Rd W W.heap.size A b
 |20|7=>v=.int .i64 r
 |_=>True
def rdB (W0:World) (K H nb cb m cm wd sz:Nat) (Ab A2:Option Addr) (e kd:Int) (q0 q1 q2 fv:Bool):Gw.Fact:=fun t v W=>
 match t with
 |0=>v=.pointer (some ⟨K,0,none⟩)
 |8=>v=.pointer (some ⟨H,0,none⟩)
 |9=>v=.int .i64 (sz:Int)
 |6=>v=.slice Ab nb cb
 |7|30=>v=.int .i64 e
 |31|32=>v=.bool q0
 |33=>q0=false->v=.int .i64 (sz:Int)
 |34=>q0=false->v=.slice Ab nb cb
 |35=>q0=false->v=.int .i64 (nb:Int)
 |36=>q0=false->v=.bool q1
 |37|38=>v=.bool (q0||q1)
 |39=>(q0||q1)=false->v=.pointer (some ⟨H,0,none⟩)
 |40=>(q0||q1)=false->v=.int .u8 kd
 |41=>(q0||q1)=false->v=.bool q2
 |42|43=>v=.bool (q0||q1||q2)
 |44|47|48=>(q0||q1||q2)=false->v=.pointer (some ⟨K,0,none⟩)
 |45=>(q0||q1||q2)=false->v=.pointer (some ⟨H,1,none⟩)
 |46=>(q0||q1||q2)=false->v=.slice A2 m cm
 |49=>(q0||q1||q2)=false->v=.pointer (some ⟨K,2,none⟩)
 |50=>(q0||q1||q2)=false->v=.int .i64 (wd:Int)
 |51=>(q0||q1||q2)=false->∃Bs Bn,v=.func (.func 109) #[] #[.pointer (some ⟨Bs,0,none⟩),.pointer (some ⟨Bn,0,none⟩)]/\Blk W Bs [.slice A2 m cm]/\Blk W Bn [.int .i64 (wd:Int)]/\W0.heap.size<=Bs/\W0.heap.size<=Bn
 |52=>(q0||q1||q2)=false->v=.bool fv
 |53=>(q0||q1||q2)=false->v=.bool (!fv)
 |54=>v=.bool (q0||q1||q2|| !fv)
 |_=>True
theorem zhp (h:zI w B K P D M N hb X R own ownD) (i:Nat) (hi:i<=1000000) (hp:X.S.pend.length<4611686018427387904) :
 Calls Tryz.prog 47 #[.pointer (some ⟨K,0,none⟩),.int .i64 (i:Int)] w (ziZ w (rdD X R i)):=by
 obtain ⟨A',n',c',h1,-⟩:=h.bx.box;obtain ⟨c0,c1,c2,c3,c4,c5,c6⟩:=h1.seven;have hk0:=World.block_lt_of_cell? _ _ c0;have hok:=h.bx.ok;obtain ⟨wd,hwd⟩:∃wd,wd=R.wd:=⟨_,rfl⟩
 have hw:=hok.wd;rw[<-hwd] at hw c2;obtain ⟨x,hx⟩:∃x,x=zq R i:=⟨_,rfl⟩
 obtain ⟨b,hbb⟩:∃b,b=(xS X x).1:=⟨_,rfl⟩
 obtain ⟨r,hr⟩:∃r,r=(xS X x).2:=⟨_,rfl⟩
 have HD:=gI (show rdD X R i=if r≠0 then ([],r) else if (getS b).2.2≠0\/(getS b).2.1≠b.length\/(getS b).1.kind≠82\/fitR wd (pieces wd (getS b).1.body)=false then ([],5) else ((getS b).1.body,0) by rw[hbb,hr,hx,hwd];rfl);have HNM:=gI (show ∀W,Below w.heap.size w W->Calls Tryz.prog 31 #[.pointer (some ⟨K,0,none⟩),.int .i64 (i:Int)] W fun e w'=>e=.returned (sv x)/\Below W.heap.size W w' from fun W hW=>by
  rw[hx];exact Q9 (h.bx.past hW) i hi)
 have HRE:=gI (show ∀W,Below w.heap.size w W->Calls Tryz.prog 73 #[.pointer (some ⟨P,0,none⟩),sv x] W (zi8 W (b,r)) from fun W hW=>by
  have:=zhf (h.st.past hW) x (by rw[hx];have:=(zhT hok hi).2;omega) hp;rw[hbb,hr];exact this)
 have HC:=gI (And.intro c0 c2);have HK:=gI hk0;have HW:=gI hw;clear h h1 c0 c1 c2 c3 c4 c5 c6 hok hx hbb hr hwd hw hp
 go_enter Tryz.func47,Tryz.ntmps47
 go_upto_region 1 with fail
 refine Gw.zl (rdA K P i x b r) [11,12,13,14,15,16,17,18,10,19,20,6,7] [([0],none),([11],none),([12],none),([13],none),([0],none),([1],none),([15,16],none),([14,17],none),([18],none),([10],none),([10],none),([19],none),([20],none)] 57 (by kernel_rfl) (by kernel_rfl) rfl ?h0 ?hreq ?hend
 case h0=>
  intro t W hnd _;unfold rdA
  split<;>first|rfl|trivial|exact absurd (by simp) hnd
 case hreq=>
  refine ⟨?_,?_,?_,?_,?_,?_,?_,?_,?_,?_,?_,?_,?_,trivial⟩
  all_goals
   intro ac W hg hk;have hg':Below w.heap.size w W:=hg;have q0:=(hg'.cell (p:=⟨K,0,none⟩) HK.out).trans HC.out.1;simp only[Gw.Knows,rdA] at hk
   try (simp[go_sem,Gw.zw,Gw.Ok,Gw.Post,Gw.Holds,rdA,Gw.zk.refl,hk,q0];done)
  ·simp[go_sem,Gw.zw,Gw.Ok,Gw.Post,Gw.Holds,rdA,Gw.zk.refl,hk];refine (HNM.out W hg').mono ?_;rintro e W' ⟨rfl,hb3⟩;exact ⟨_,rfl,hb3,fun _ _=>rfl⟩
  ·simp[go_sem,Gw.zw,Gw.Ok,Gw.Post,Gw.Holds,rdA,Gw.zk.refl,hk];refine (HRE.out W hg').mono ?_;rintro e W' ⟨A,n,c,rfl,ho,hb3⟩;have hl:b.length=n:=by have:=ho.1;rw[za,Nat.mul_one] at this;exact this
   exact ⟨_,rfl,hb3,fun W2 hW2=>⟨A,n,c,rfl,hl,(yF ho).1,(yF ho).2,((Rd.of_own ho).below hW2).more hW2.size⟩⟩
  ·obtain ⟨⟨A,n,c,hv,h2,h3,h4,h5⟩,-⟩:=hk;simp[go_sem,Gw.zw,Gw.Ok,Gw.Post,Gw.Holds,rdA,Gw.zk.refl,hv];exact fun W2 hW2=>⟨A,n,c,⟨rfl,rfl,rfl⟩,h2,h3,h4,(h5.below hW2).more hW2.size⟩
  ·obtain ⟨⟨A,n,c,hv,h2,h3,h4,h5⟩,-⟩:=hk;simp[go_sem,Gw.zw,Gw.Ok,Gw.Post,Gw.Holds,rdA,Gw.zk.refl,hv];exact fun W2 hW2=>⟨A,n,c,⟨rfl,rfl,rfl⟩,h2,h3,h4,(h5.below hW2).more hW2.size⟩
  ·obtain ⟨⟨A,n,c,hv,h2,h3,h4,h5⟩,-⟩:=hk;simp[go_sem,Gw.zw,Gw.Ok,Gw.Post,Gw.Holds,rdA,Gw.zk.refl,hv]
  ·obtain ⟨⟨A,n,c,hv,h2,h3,h4,h5⟩,-⟩:=hk;simp[go_sem,Gw.zw,Gw.Ok,Gw.Post,Gw.Holds,rdA,Gw.zk.refl,hv];exact fun W2 hW2=>⟨A,n,c,⟨rfl,rfl,rfl⟩,h2,h3,h4,(h5.below hW2).more hW2.size⟩
 case hend=>
  intro y w1 hg hy;have v6:=(hy 6 (by simp)).now;have v7:=(hy 7 (by simp)).now;simp only[rdA] at v6 v7;obtain ⟨Ab,nb,cb,hv6,hlb,hcb,hcb2,hrb⟩:=v6;clear hy;simp only[Gw.zm,Act.put,List.setIfInBounds_toArray,List.set_cons_zero,List.set_cons_succ];rw[hv6,v7];have HB1:=gI (show Below w.heap.size w w1 from hg)
  by_cases hr0:r=0
  case neg=>
   have HE:=gI (show rdD X R i=([],r) by rw[HD.out,if_pos hr0]);clear hrb hv6 v7 hg hlb;have d0:(r != 0)=true:=by simp[hr0]
   go_wp2
   go_ret2
   exact zhq HE.out HB1.out
  case pos=>
   subst hr0;have HG:=gI (zfw Ab nb cb b w1 hlb hcb hcb2 hrb);have HLB:=gI hlb;obtain ⟨g,hgg⟩:∃g,g=getS b:=⟨_,rfl⟩
   rw[<-hgg] at HG HD;clear hrb hv6 v7 hg hlb hgg
   go_wp2_with fail
   refine HG.out.mono ?_;rintro e w2 ⟨hb2,A2,m,cm,rfl,hlm,hm,hrm,hnew,hmc,hmc2,hab⟩;have HB2:=gI (HB1.out.trans (hb2.mono HB1.out.size));have HLM:=gI hlm;have HRM:=gI hrm;have HNW:=gI hnew;have HAB:=gI hab;clear hb2 hlm hrm hnew hab
   go_upto_region 5 with fail
   obtain ⟨w3,hw3⟩:∃w3,w3=w2.alloc (.cells #[.int .u8 (g.1.kind.toNat:Int),.slice A2 m cm] 144):=⟨_,rfl⟩
   have T3:=gI (show Two w3 w2.heap.size (.int .u8 (g.1.kind.toNat:Int)) (.slice A2 m cm) by rw[hw3];exact Two.new w2 _ _ _);have hb3:Below w2.heap.size w2 w3:=by rw[hw3];exact (Below.refl _ _).alloc (Nat.le_refl _) _
   have HB3:=gI (HB2.out.trans (hb3.mono HB2.out.size));have HRM3:=gI ((HRM.out.below hb3).more hb3.size);rw[<-hw3];have hs9:=HB3.out.size;have hsz:=HB2.out.size;obtain ⟨H,hH⟩:∃H,H=w2.heap.size:=⟨_,rfl⟩
   rw[<-hH] at T3;rw[<-hH];have hH3:H<w3.heap.size:=T3.out.here;obtain ⟨e,he⟩:∃e,e=g.2.2:=⟨_,rfl⟩
   obtain ⟨sz,hsz1⟩:∃sz,sz=g.2.1:=⟨_,rfl⟩
   obtain ⟨kd,hkd⟩:∃kd:Int,kd=(g.1.kind.toNat:Int):=⟨_,rfl⟩
   obtain ⟨bo,hbo⟩:∃bo,bo=g.1.body:=⟨_,rfl⟩
   obtain ⟨q0,hq0⟩:∃q0,(e != 0)=q0:=⟨_,rfl⟩
   obtain ⟨q1,hq1⟩:∃q1,((sz:Int) != (nb:Int))=q1:=⟨_,rfl⟩
   obtain ⟨q2,hq2⟩:∃q2,(kd != 82)=q2:=⟨_,rfl⟩
   obtain ⟨fv,hfv⟩:∃fv,fv=fitR wd (pieces wd bo):=⟨_,rfl⟩
   rw[<-he,<-hsz1,<-hkd];rw[<-hkd] at T3;rw[<-hbo] at HLM HRM HNW HRM3;have HEND:=gI (show rdD X R i=if (q0||q1||q2|| !fv)=true then ([],5) else (bo,0) from by
    rw[HD.out,if_neg (fun h=>h rfl),<-he,<-hsz1,<-hbo,<-hfv];have e1:(e≠0)↔q0=true:=by rw[<-hq0];simp
    have e2:(sz≠b.length)↔q1=true:=by rw[<-hq1,HLB.out];simp;omega
    have e3:(g.1.kind≠82)↔q2=true:=by
     rw[<-hq2,hkd];simp only[bne_iff_ne,ne_eq];refine not_congr ⟨fun h=>by rw[h];rfl,fun h=>UInt8.toNat_inj.1 ?_⟩;have:g.1.kind.toNat=82:=by omega
     rw[this];rfl
    by_cases hq:(q0||q1||q2|| !fv)=true
    ·rw[if_pos hq,if_pos];rw[e1,e2,e3];simp only[Bool.or_eq_true,Bool.not_eq_true',or_assoc] at hq;exact hq
    ·rw[if_neg hq,if_neg];rw[e1,e2,e3];simp only[Bool.or_eq_true,Bool.not_eq_true',or_assoc] at hq;exact hq)
   have HFIT:=gI (show ∀W,Below w3.heap.size w3 W->∀Bs Bn,Blk W Bs [.slice A2 m cm]->Blk W Bn [.int .i64 (wd:Int)]->w3.heap.size<=Bs->w3.heap.size<=Bn ->
    Calls Tryz.prog 50 #[.pointer (some ⟨K,0,none⟩),.func (.func 109) #[] #[.pointer (some ⟨Bs,0,none⟩),.pointer (some ⟨Bn,0,none⟩)]] W fun e w'=>e=.returned (.bool fv)/\Below W.heap.size W w' from by
    intro W hW Bs Bn b1 b2 g1 g2;have hA:0<m->∃a,A2=some a:=fun hp=>by
     obtain ⟨a,ha,-⟩:=HNW.out (by rw[HLM.out];exact hp);exact ⟨a,ha⟩
    have hpl:pieces wd bo=(List.range (pcs wd m)).map fun k=>(bo.drop (wd*k)).take wd:=by unfold pieces;rw[HLM.out]
    rw[hfv,hpl];exact zbA (fun k=>ckS A2 wd m k) (fun k=>(bo.drop (wd*k)).take wd) (fun T k av W h=>h.2) (enters_of Tryz.func109 (by kernel_rfl) rfl) W (Qo hA hmc hmc2 (by omega) ⟨by have:=HW.out;omega,by have:=HW.out;omega⟩ b1 b2) (fun k hk=>by
     rcases hk with rfl|rfl
     ·exact b1.lt
     ·exact b2.lt) (fun k hk=>zlu (by have:=HW.out;omega) HLM.out (by omega) ((HRM3.out.below hW).more hW.size) (List.mem_range.1 hk)) K wd (by have:=HW.out;omega)
      ((hW.cell (p:=⟨K,2,none⟩) (by show K<_;have:=HK.out;omega)).trans ((HB3.out.cell HK.out).trans HC.out.2)))
   clear hw3 hb3 hH he hsz1 hkd hbo hfv HD HG HRE HNM;refine Gw.zl (rdB w3 K H nb cb m cm wd sz Ab A2 e kd q0 q1 q2 fv) [30,31,32,33,34,35,36,37,38,39,40,41,42,43,44,45,46,47,48,49,50,51,52,53,54] [([7],none),([30],none),([31],none),([9,32],some (32,false)),([6,32],some (32,false)),([34,32],some (32,false)),([33,35,32],some (32,false)),([32,36],none),([37],none),([8,38],some (38,false)),([39,38],some (38,false)),([40,38],some (38,false)),([38,41],none),([42],none),([0,43],some (43,false)),([8,43],some (43,false)),([45,43],some (43,false)),([0,43],some (43,false)),([47,43],some (43,false)),([48,43],some (43,false)),([49,43],some (43,false)),([46,50,43],some (43,false)),([44,51,43],some (43,false)),([52,43],some (43,false)),([43,53],none)] 57 (by kernel_rfl) (by kernel_rfl) rfl ?h0 ?hreq ?hend
   case h0=>
    intro t W hnd _;unfold rdB
    split<;>first|(exfalso;apply hnd;decide)|rfl|trivial
   case hreq=>
    refine ⟨?_,?_,?_,?_,?_,?_,?_,?_,?_,?_,?_,?_,?_,?_,?_,?_,?_,?_,?_,?_,?_,?_,?_,?_,?_,trivial⟩
    all_goals
     intro ac W hg hk;have hg':Below w3.heap.size w3 W:=hg;have t0:=(T3.out.past hg').1;have t1:=(T3.out.past hg').2.1;have k2:W.cell? ⟨K,2,none⟩=some (.int .i64 (wd:Int)):=(hg'.cell (p:=⟨K,2,none⟩) (by show K<_;have:=HK.out;omega)).trans ((HB3.out.cell HK.out).trans HC.out.2);simp only[Gw.Knows,rdB] at hk
     try (first
      |(simp[go_sem,Gw.zw,Gw.Ok,Gw.Post,Gw.Holds,rdB,Gw.zk.refl,hk,t0,t1,k2,hq0,hq1,hq2];done)
      |(cases q0<;>(simp[go_sem,Gw.zw,Gw.Ok,Gw.Post,Gw.Holds,rdB,Gw.zk.refl,hk,t0,t1,k2,hq0,hq1,hq2];done))
      |(cases q0<;>cases q1<;>(simp[go_sem,Gw.zw,Gw.Ok,Gw.Post,Gw.Holds,rdB,Gw.zk.refl,hk,t0,t1,k2,hq0,hq1,hq2];done))
      |(cases q0<;>cases q1<;>cases q2<;>(simp[go_sem,Gw.zw,Gw.Ok,Gw.Post,Gw.Holds,rdB,Gw.zk.refl,hk,t0,t1,k2,hq0,hq1,hq2];done)))
    ·cases hq3:(q0||q1||q2) with
     |true=>rw[hq3] at hk;simp[Gw.zw,Gw.Post,Gw.Holds,rdB,hk,hq3]
     |false=>
      rw[hq3] at hk;simp[go_sem,Gw.zw,Gw.Ok,Gw.Post,Gw.Holds,rdB,Gw.zk.refl,hk,hq3];refine (zar A2 m cm wd (by have:=HW.out;omega) W).mono ?_;rintro e W' ⟨rfl,rfl⟩;have hbw:Below W.heap.size W ((W.alloc (.cells #[.slice A2 m cm] 24)).alloc (.cells #[.int .i64 (wd:Int)] 3)):=((Below.refl _ W).alloc (Nat.le_refl _) _).alloc (by simp) _;refine ⟨_,rfl,hbw,fun W2 hW2=>⟨W.heap.size,W.heap.size+1,rfl,?_,?_,hg'.size,by have:=hg'.size;omega⟩⟩
      ·exact ((Blk.new W [.slice A2 m cm] _).alloc _).past hW2
      ·exact (Blk.new' (W.alloc _) [.int .i64 (wd:Int)] _ (by simp)).past hW2
    ·cases hq3:(q0||q1||q2) with
     |true=>rw[hq3] at hk;simp[Gw.zw,Gw.Post,Gw.Holds,rdB,hk,hq3]
     |false=>
      rw[hq3] at hk;obtain ⟨k44,k51,k43,-⟩:=hk;obtain ⟨Bs,Bn,hv,h1,h2,h3,h4⟩:=k51 rfl;simp[go_sem,Gw.zw,Gw.Ok,Gw.Post,Gw.Holds,rdB,Gw.zk.refl,hq3,k44,k43,hv];refine (HFIT.out W hg' Bs Bn h1 h2 h3 h4).mono ?_;rintro e W' ⟨rfl,hb3⟩;exact ⟨_,rfl,hb3,fun _ _=>rfl⟩
   case hend=>
    intro y2 w9 hg hy;have h54:=(hy 54 (by simp)).now;simp only[rdB] at h54;have HB9:=gI (HB3.out.trans (Below.mono (show Below w3.heap.size w3 w9 from hg) HB3.out.size));have T9:=gI (T3.out.past (show Below w3.heap.size w3 w9 from hg));have HRM9:=gI ((HRM3.out.below (show Below w3.heap.size w3 w9 from hg)).more (show Below w3.heap.size w3 w9 from hg).size);clear hg hy;simp only[Gw.zm,Act.put,List.setIfInBounds_toArray,List.set_cons_zero,List.set_cons_succ];rw[h54];clear h54;have t1:=T9.out.2.1
    cases hq:(q0||q1||q2|| !fv) with
    |true=>
     have HE:=gI (show rdD X R i=([],5) by rw[HEND.out,hq,if_pos rfl]);clear hq HEND
     go_wp2
     go_ret2
     exact zhq HE.out HB9.out
    |false=>
     have HE:=gI (show rdD X R i=(bo,0) by rw[HEND.out,hq,if_neg (by simp)]);clear hq HEND
     go_wp2
     go_ret2
     rw[HE.out];exact ⟨A2,m,cm,rfl,HB9.out,HLM.out,hm,hmc,hmc2,HRM9.out,fun a ha=>by
      have:=HAB.out a ha;have:=HB1.out.size
      omega⟩
end
section
open Go.RowKit Me Mf Rw Ds Rn Tx
variable {w w':World} {B K P D M N:Nat} {hb:Option Nat} {X:Sto} {R:SrD} {own ownD:Nat->Prop}
def rpG (K m rm:Nat) (b:Bool):Gw.Fact:=fun t v _=>
 match t with
 |0|17|19|20=>v=.pointer (some ⟨K,0,none⟩)
 |18=>v=.int .i64 (m:Int)
 |21=>v=.pointer (some ⟨K,3,none⟩)
 |22=>v=.int .i64 (rm:Int)
 |23=>v=.bool b
 |_=>True
theorem zcf (h:zI w B K P D M N hb X R own ownD) (hN:N<maxLen) (hnx:R.next<1000000) (A0:Option Addr) (k c0:Nat) (rec_:List UInt8) (hl:rec_.length=k) (hk:k<=1000) (hr:Kk (yg P M K hb ownD) (fun W=>Rd W W.heap.size A0 rec_) w) :
 Calls Tryz.prog 18 #[.pointer (some ⟨K,0,none⟩),.slice A0 k c0] w (YK w B K P D M N hb own ownD (putR X R rec_)):=by
 obtain ⟨A,n,c,h1,h2,h3,h4⟩:=h.bx.box;obtain ⟨z0,z1,z2,z3,z4,z5,z6⟩:=h1.seven;have hk0:=World.block_lt_of_cell? _ _ z0;have hok:=h.bx.ok;have HH:=gI h;obtain ⟨wd,hwd⟩:∃wd,wd=R.wd:=⟨_,rfl⟩
 obtain ⟨rm,hrm⟩:∃rm,rm=R.rm:=⟨_,rfl⟩
 obtain ⟨m,hm⟩:∃m,m=R.held.length:=⟨_,rfl⟩
 obtain ⟨Q,hQ⟩:∃Q,Q=putR X R rec_:=⟨_,rfl⟩
 rw[<-hwd] at z2;rw[<-hrm] at z3;rw[<-hQ];have HQ:=gI hQ;have HL:=gI hl;have HRK:=gI hr;have HWD:=gI hwd;have HRM:=gI hrm;have HM:=gI hm;have hwb:wd<=64:=by rw[hwd];exact hok.wd.2
 have hmr:m<=rm:=by rw[hm,hrm];exact hok.few
 have hrb:rm<=4096:=by rw[hrm];exact hok.rm.2
 have hr1:1<=rm:=by rw[hrm];exact hok.rm.1
 by_cases hkw:k=wd
 ·have d1:((k:Int) != (wd:Int))=false:=by rw[hkw];simp
  have HKW:=gI hkw;obtain ⟨b,hb3⟩:∃b,b=decide (m=rm):=⟨_,rfl⟩
  have d2:((m:Int)==(rm:Int))=b:=by
   rw[hb3,Bool.eq_iff_iff,beq_iff_eq,decide_eq_true_iff];omega
  have HBB:=gI hb3;have HHD:=gI (show ∀W,Below w.heap.size w W->Calls Tryz.prog 12 #[.pointer (some ⟨K,0,none⟩)] W fun e w'=>e=.returned (.int .i64 (m:Int))/\Below W.heap.size W w' from fun W hW=>by
   rw[hm];exact Vb (h.bx.past hW))
  have HC:=gI z3;have HK:=gI hk0;clear h h1 h2 h3 h4 hl hr hQ hok hm hb3 hwd hrm hkw z0 z1 z3 z4 z5 z6
  go_enter Tryz.func18,Tryz.ntmps18
  go_wp2_with fail
  refine Gw.zl (rpG K m rm b) [17,18,19,20,21,22,23] [([0],none),([17],none),([0],none),([19],none),([20],none),([21],none),([18,22],none)] 38 (by kernel_rfl) (by kernel_rfl) rfl ?h0 ?hreq ?hend
  case h0=>
   intro t W hnd _;unfold rpG
   split<;>first|rfl|trivial|exact absurd (by simp) hnd
  case hreq=>
   refine ⟨?_,?_,?_,?_,?_,?_,?_,trivial⟩
   all_goals
    intro ac W hg hk';have hg':Below w.heap.size w W:=hg;have q3:=(hg'.cell (p:=⟨K,3,none⟩) HK.out).trans HC.out;simp only[Gw.Knows,rpG] at hk'
    try (simp[go_sem,Gw.zw,Gw.Ok,Gw.Post,Gw.Holds,rpG,Gw.zk.refl,hk',q3,d2];done)
   ·simp[go_sem,Gw.zw,Gw.Ok,Gw.Post,Gw.Holds,rpG,Gw.zk.refl,hk'];refine (HHD.out W hg').mono ?_;rintro e W' ⟨rfl,hb4⟩;exact ⟨_,rfl,hb4,fun _ _=>rfl⟩
  case hend=>
   intro x w1 hg hx;have v23:=(hx 23 (by simp)).now;simp only[rpG] at v23;clear hx;simp only[Gw.zm,Act.put,List.setIfInBounds_toArray,List.set_cons_zero,List.set_cons_succ];rw[v23];have HB1:=gI (show Below w.heap.size w w1 from hg);clear hg v23
   cases b with
   |false=>
    have HS2:=gI (HH.out.past HB1.out);have hmlt:m<rm:=by have:=of_decide_eq_false HBB.out.symm;omega
    have HF2:=gI (show R.held.length<R.rm by rw[<-HM.out,<-HRM.out];exact hmlt);have HKW2:=gI (show k=R.wd by rw[<-HWD.out];exact HKW.out);have HRD2:=gI (show Rd w1 w1.heap.size A0 rec_ from HRK.out w1 (.of_below HB1.out));obtain ⟨A2,n2,c2,g1,g2,g3,g4⟩:=HS2.out.bx.box;have d4:=g1.cell (i:=4) rfl;have HG:=gI (And.intro g1 (And.intro g2 (And.intro g3 g4)));have hn2:n2<=300000:=by have:=Zn HS2.out.bx.ok;omega
    have hBw:B<=w1.heap.size:=by have:=HS2.out.bx.lo;have:=HS2.out.bx.lt;omega
    obtain ⟨i0,hi0,hz0,hz1,hz2⟩:=info_parts yO;clear g1 g2 g3 g4
    go_wp2_with (at_builtin
                 go_loud (refine zF rfl (.tmp 33) (.tmp 34) 24 rfl B 5 i0 _ Tryz.underlying24 hi0 hz0 hz1 hz2 rfl (.slice A2 n2 c2) n2 _ rfl HG.out.2.1 w1.heap.size A0 k c0 rec_ rfl HL.out HRD2.out (by omega) hBw ?_)
                 intro v6 w6 ho6 hg6 hn6;refine Classical.byContradiction fun hcontra=>?_)
    obtain ⟨A7,c7,hv7⟩:=zJ ho6;subst hv7;have hne6:(Value.slice A2 n2 c2).ownBlock≠some K:=fun e=>HS2.out.bx.ne (HG.out.2.2.1.symm.trans e)
    have hb6:=HG.out.1.grown hg6 hne6;have e4:=hb6.cell (i:=4) rfl;have y4:=hb6.frozen 4;have FIN:=gI (show YK w B K P D M N hb own ownD Q (.returned (.int .i64 0)) (w6.setCell ⟨K,4,none⟩ (.slice A7 (n2+k) c7)) from by
     obtain ⟨hb',own',q1,q2,q3,q4,q5⟩:=HS2.out.push (by rw[HL.out];exact HKW2.out) HF2.out HG.out.1 HG.out.2.2.1 HG.out.2.2.2 HL.out ho6 rfl hg6 hn6;have hQ2:Q=(0,X,{R with held:=R.held++[rec_]}):=by
      rw[HQ.out];unfold putR;have hne:¬R.held.length=R.rm:=by have:=HF2.out;omega
      rw[if_neg (by rw[HL.out,HKW2.out];simp)];simp only[if_neg hne]
      simp
     rw[hQ2];exact ⟨rfl,(Out.of_below HB1.out).trans q2,N,hb',own',by omega,q1,q3,fun j hj=>(q4 j hj).imp id (fun e=>by have:=HB1.out.size;omega),fun j hj=>(q5 j hj).imp id (fun e=>by have:=HB1.out.size;omega)⟩)
    clear ho6 hg6 hn6 hb6 hne6
    apply hcontra
    clear hcontra
    go_wp2
    go_ret
    exact FIN.out
   |true=>
    have hmm:m=rm:=of_decide_eq_true HBB.out.symm;have HFL:=gI (zao (HH.out.past HB1.out) hN hnx);obtain ⟨F,hF⟩:∃F,F=xB X R:=⟨_,rfl⟩
    have hfo:=zkr X R;have hfh:=zgw X R;rw[<-hF] at HFL hfo hfh;obtain ⟨fr,X1,R1⟩:=F;have HFF:=gI (And.intro hF (And.intro hfo hfh));clear hF hfo hfh
    go_wp2_with fail
    refine HFL.out.mono ?_;rintro e w2 ⟨rfl,ho2,N1,hb1,own1,hN1,hs1,k1,k2,k3⟩;have HQ1:Hid (Q=if fr≠0 then (fr,X1,R1) else (0,X1,{R1 with held:=R1.held++[rec_]})):=gI (by
     rw[HQ.out];unfold putR;rw[if_neg (by rw[HL.out,HKW.out,HWD.out];simp)];have hee:R.held.length=R.rm:=by rw[<-HM.out,<-HRM.out];exact hmm
     simp only[if_pos hee,<-HFF.out.1])
    have HO2:=gI ((Out.of_below HB1.out).trans ho2);have HS2:=gI hs1;have HKK:=gI (And.intro hN1 (And.intro k1 (And.intro k2 k3)));clear ho2 hs1 k1 k2 k3 hN1
    by_cases hfr:fr=0
    ·subst hfr;have hne:R.held≠[]:=fun e=>by have:=HM.out;rw[e] at this;simp at this;omega
     obtain ⟨f1,f2,f3⟩:=HFF.out.2.2 rfl hne;have HF2:=gI (show R1.held.length<R1.rm by rw[f1,f3,<-HRM.out];exact hr1);have HKW2:=gI (show k=R1.wd by rw[f2,<-HWD.out];exact HKW.out);have HRD2:=gI (show Rd w2 w2.heap.size A0 rec_ from HRK.out w2 HO2.out);clear f1 f2 f3 hne;obtain ⟨A2,n2,c2,g1,g2,g3,g4⟩:=HS2.out.bx.box;have d4:=g1.cell (i:=4) rfl;have HG:=gI (And.intro g1 (And.intro g2 (And.intro g3 g4)));have hn2:n2<=300000:=by have:=Zn HS2.out.bx.ok;omega
     have hBw:B<=w2.heap.size:=by have:=HS2.out.bx.lo;have:=HS2.out.bx.lt;omega
     obtain ⟨i0,hi0,hz0,hz1,hz2⟩:=info_parts yO;clear g1 g2 g3 g4
     go_wp2_with (at_builtin
                  go_loud (refine zF rfl (.tmp 33) (.tmp 34) 24 rfl B 5 i0 _ Tryz.underlying24 hi0 hz0 hz1 hz2 rfl (.slice A2 n2 c2) n2 _ rfl HG.out.2.1 w2.heap.size A0 k c0 rec_ rfl HL.out HRD2.out (by omega) hBw ?_)
                  intro v6 w6 ho6 hg6 hn6;refine Classical.byContradiction fun hcontra=>?_)
     obtain ⟨A7,c7,hv7⟩:=zJ ho6;subst hv7;have hne6:(Value.slice A2 n2 c2).ownBlock≠some K:=fun e=>HS2.out.bx.ne (HG.out.2.2.1.symm.trans e)
     have hb6:=HG.out.1.grown hg6 hne6;have e4:=hb6.cell (i:=4) rfl;have y4:=hb6.frozen 4;have FIN:=gI (show YK w B K P D M N hb own ownD Q (.returned (.int .i64 0)) (w6.setCell ⟨K,4,none⟩ (.slice A7 (n2+k) c7)) from by
      obtain ⟨hb',own',q1,q2,q3,q4,q5⟩:=HS2.out.push (by rw[HL.out];exact HKW2.out) HF2.out HG.out.1 HG.out.2.2.1 HG.out.2.2.2 HL.out ho6 rfl hg6 hn6;have hQ2:Q=(0,X1,{R1 with held:=R1.held++[rec_]}):=by rw[HQ1.out];simp
      rw[hQ2];have hsz:=HO2.out.size;refine ⟨rfl,HO2.out.trans' q2 (fun j hj=>?_),N1,hb',own',HKK.out.1,q1,fun j hj=>q3 j (HKK.out.2.1 j hj),fun j hj=>?_,fun j hj=>?_⟩
      ·rcases hj with hj|hj|hj
       ·exact .inl (.inl hj)
       ·exact .inl (.inr (.inl hj))
       ·exact (HKK.out.2.2.2 j hj).imp (fun e=>.inr (.inr e)) (fun e=>by have:=HB1.out.size;omega)
      ·rcases q4 j hj with e|e
       ·exact (HKK.out.2.2.1 j e).imp id (fun e=>by have:=HB1.out.size;omega)
       ·exact .inr (by omega)
      ·rcases q5 j hj with e|e
       ·exact (HKK.out.2.2.2 j e).imp id (fun e=>by have:=HB1.out.size;omega)
       ·exact .inr (by omega))
     clear ho6 hg6 hn6 hb6 hne6
     apply hcontra
     clear hcontra
     go_wp2
     go_ret
     exact FIN.out
    ·have d3:(fr != 0)=true:=by simpa using hfr
     have FIN:=gI (show YK w B K P D M N hb own ownD Q (.returned (.int .i64 fr)) w2 from by
      rw[HQ1.out,if_pos hfr];refine ⟨rfl,HO2.out,N1,hb1,own1,HKK.out.1,HS2.out,HKK.out.2.1,fun j hj=>(HKK.out.2.2.1 j hj).imp id (fun e=>by have:=HB1.out.size;omega),fun j hj=>(HKK.out.2.2.2 j hj).imp id (fun e=>by have:=HB1.out.size;omega)⟩)
     clear hfr
     go_wp2
     go_ret
     exact FIN.out
 ·have d1:((k:Int) != (wd:Int))=true:=by simp;omega
  have FIN:=gI (show YK w B K P D M N hb own ownD Q (.returned (.int .i64 3)) w from by
   have hQ2:Q=(3,X,R):=by
    rw[hQ];unfold putR;rw[if_pos (by rw[hl,<-hwd];exact hkw)]
   rw[hQ2];exact ⟨rfl,.refl _ _,N,hb,own,by omega,h,fun j hj=>hj,fun j hj=>.inl hj,fun j hj=>.inl hj⟩)
  clear h h1 h2 h3 h4 hl hr hQ hok hm hwd hrm hkw
  go_enter Tryz.func18,Tryz.ntmps18
  go_wp2
  go_ret
  exact FIN.out
end
end Go.Proofs.YtcdkopbjlakebaaGreatDoor
