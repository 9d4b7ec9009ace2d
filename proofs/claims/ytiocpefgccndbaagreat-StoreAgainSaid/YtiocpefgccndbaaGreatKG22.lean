/- Texts put together, for a law: DkR. -/
import Derived.Test.YtiocpefgccndbaaGreatKG16
import Derived.Test.YtiocpefgccndbaaGreatKG4
import Derived.Test.YtiocpefgccndbaaGreatKG11
import Derived.Test.YtiocpefgccndbaaGreatKG2
section
namespace Go.Proofs.YtiocpefgccndbaaGreat
open Go.RowKit Me Rw Ds
def wCells (x:WD):List Value:=[.int .i64 (x.i:Int),sv x.b]
theorem wCells_length (x:WD):(wCells x).length=2:=rfl
theorem wCells_one (x:WD):∀v∈wCells x,v.oneCell'=true:=by
 intro v hv
 simp only[wCells,List.mem_cons,List.not_mem_nil,or_false] at hv
 rcases hv with rfl|rfl<;>rfl
theorem wRows_length (l:List WD):(Rw.rows wCells l).length=l.length*2:=rows_length fun x _=>wCells_length x
def Cy (w:World) (own:Nat→Prop) (A:Option Addr) (l:List WD):Prop:=
 0<l.length→∃g,A=some ⟨g,0,none⟩∧g<w.heap.size∧¬own g∧∀i v,(Rw.rows wCells l)[i]?=some v→w.cell? ⟨g,i,none⟩=some v
section
variable {own own' T:Nat→Prop} {w w':World} {A:Option Addr} {l:List WD}
theorem Cy.empty:Cy w own A []:=fun h=>by simp at h
theorem Cy.out (h:Cy w own A l) (ho:Out own w w'):Cy w' own A l:=fun hn=>by
 obtain ⟨g,e,hb,hs,hc⟩:=h hn
 exact ⟨g,e,Nat.lt_of_lt_of_le hb ho.size,hs,fun j u hu=>(ho.cell (p:=⟨g,j,none⟩) hb hs).trans (hc j u hu)⟩
theorem Cy.past (h:Cy w own A l) (hb:Below w.heap.size w w'):Cy w' own A l:=h.out (.of_below hb)
theorem Cy.less (h:Cy w own A l) (hs:∀k,k<w.heap.size→own' k→own k):Cy w own' A l:=fun hn=>by
 obtain ⟨g,e,hb,hn',hc⟩:=h hn
 exact ⟨g,e,hb,fun hS=>hn' (hs _ hb hS),hc⟩
theorem Cy.of_own {base n c:Nat} {e:TypeId} (h:w.ownsRow base e 2 (.slice A n c) n (Rw.rows wCells l)) (hs:∀k,base≤k→¬own k):Cy w own A l:=fun hn=>by
 have hl:=h.1
 rw[wRows_length] at hl
 obtain ⟨g,cap,hv,hg,hlt⟩:=h.form (by omega)
 injection hv with e1
 refine ⟨g,e1,hlt,hs g hg,fun i v hv=>?_⟩
 have:=h.cells (g:=g) (by rw[e1];rfl) i v hv
 rwa[Addr.add_mid,Nat.zero_add] at this
theorem Cy.at (h:Cy w own A l) {k:Nat} {x:WD} (hk:l[k]?=some x) :
 ∃g,A=some ⟨g,0,none⟩∧g<w.heap.size∧¬own g∧w.cell? ⟨g,k*2,none⟩=some (.int .i64 (x.i:Int))∧w.cell? ⟨g,k*2+1,none⟩=some (sv x.b):=by
 have hlt:=(List.getElem?_eq_some_iff.1 hk).1
 obtain ⟨g,e,hb,hn,hc⟩:=h (by omega)
 have r0:=rows_get (f:=wCells) (s:=2) (fun x _=>wCells_length x) hk (j:=0) (by omega)
 have r1:=rows_get (f:=wCells) (s:=2) (fun x _=>wCells_length x) hk (j:=1) (by omega)
 exact ⟨g,e,hb,hn,hc _ _ r0,hc _ _ r1⟩
end
structure RefAt (w:World) (own:Nat→Prop) (m:RefM) (Am:Option Addr) (cm:Nat) (Aw:Option Addr) (cw:Nat):Prop where
 made:Cy w own Am m.made
 wait:Cy w own Aw m.wait
 cm:m.made.length≤cm
 cw:m.wait.length≤cw
def refVs (m:RefM) (Am:Option Addr) (cm:Nat) (Aw:Option Addr) (cw:Nat):List Value:=
 [.int .i64 (m.count:Int),.bool m.off,.int .i64 m.fuse,.slice Am m.made.length cm,.slice Aw m.wait.length cw]
section
variable {own own':Nat→Prop} {w w':World} {m:RefM} {Am Aw:Option Addr} {cm cw:Nat}
theorem RefAt.out (h:RefAt w own m Am cm Aw cw) (ho:Out own w w'):RefAt w' own m Am cm Aw cw:=⟨h.made.out ho,h.wait.out ho,h.cm,h.cw⟩
theorem RefAt.past (h:RefAt w own m Am cm Aw cw) (hb:Below w.heap.size w w'):RefAt w' own m Am cm Aw cw:=h.out (.of_below hb)
theorem RefAt.less (h:RefAt w own m Am cm Aw cw) (hs:∀k,k<w.heap.size→own' k→own k):RefAt w own' m Am cm Aw cw:=⟨h.made.less hs,h.wait.less hs,h.cm,h.cw⟩
end
theorem zero_made:(madeCells (Value.int .u8 0).cells (128*1)).toList=cellsOf zero128:=made_zero 128
set_option maxRecDepth 100000 in
theorem zeros_any (w:World):Calls Tryz.prog 156 #[] w fun e w'=>e=.returned (sv zero128)∧Below w.heap.size w w':=by
 obtain ⟨i0,hi0,hz0,hz1,hz2⟩:=info_parts u8_info
 have hlen:=zero128_length
 go_enter Tryz.func156,Tryz.ntmps156
 go_wp2_with (refine wpList_make_full w rfl _ _ 29 rfl w.heap.size 5 i0 _ 1 Tryz.underlying29 hi0 hz0 hz1 .i64 .i64 _ _ 128 rfl rfl rfl rfl (by rw[hz2];omega) (by unfold maxLen;omega) (Nat.le_refl _) ?_
              intro w1 ho1 hg1
              rw[zero_made] at ho1
              have HB1:=Lib.hid (show Below w.heap.size w w1 from (Below.refl _ _).grown hg1 (Nat.le_refl _) (fun k e=>by cases e))
              have e1:=str_any (some ⟨w.heap.size,0,none⟩) 128 128 zero128 w1 _ hlen (Rd.of_own ho1)
              clear ho1 hg1)
 go_ret
 exact ⟨rfl,HB1.out⟩
set_option maxRecDepth 100000 in
set_option maxHeartbeats 400000 in
theorem last_any (A:Option Addr) (n c:Nat) (l:List WD) (i:Nat) (b:List UInt8) (own:Nat→Prop) (w:World) (hl:l.length=n) (hn:n≤4611686018427387904) (h:Cy w own A l) :
 Calls Tryz.prog 122 #[.slice A n c,.int .i64 (i:Int),sv b] w fun e w'=>e=.returned (sv (lastW l i b))∧w=w':=by
 have HL:=Lib.hid hl
 have HA:=Lib.hid h
 obtain ⟨R,hR⟩:∃R,R=lastW l i b:=⟨_,rfl⟩
 rw[←hR]
 have HR:=Lib.hid hR
 clear hl h hR
 go_enter Tryz.func122,Tryz.ntmps122
 go_wp2
 go_loop [2,10] (fun bv iv=>∃k:Nat,k≤n∧iv=.int .i64 k∧∃b',bv=sv b'∧Hid (lastW (l.drop k) i b'=R)) (fun _ iv=>n-(intOf iv).toNat)
 case atStart=>exact ⟨0,Nat.zero_le _,rfl,b,rfl,Lib.hid HR.out.symm⟩
 case round=>
  obtain ⟨k,hk,rfl,b',rfl,HS⟩:=hrel
  by_cases hlt:k<n
  ·have hlt':k<l.length:=by rw[HL.out];exact hlt
   obtain ⟨x,hx⟩:∃x,l[k]?=some x:=⟨_,List.getElem?_eq_getElem hlt'⟩
   obtain ⟨g,rfl,-,-,c0,c1⟩:=HA.out.at hx
   have hd:l.drop k=x::l.drop (k+1):=by
    rw[List.drop_eq_getElem_cons hlt']
    congr 1
    exact (List.getElem?_eq_some_iff.1 hx).2
   by_cases hxi:x.i=i
   ·have d1:((x.i:Int)==(i:Int))=true:=by rw[beq_iff_eq];omega
    have HN:=Lib.hid (show lastW (l.drop (k+1)) i x.b=R by rw[←HS.out,hd,lastW,if_pos hxi])
    clear hx hd hlt' HS
    go_wp2
    go_round
    case rel=>exact ⟨k+1,by omega,by go_num,x.b,rfl,HN⟩
    case measure=>simp[intOf];omega
   ·have d1:((x.i:Int)==(i:Int))=false:=by rw[beq_eq_false_iff_ne];omega
    have HN:=Lib.hid (show lastW (l.drop (k+1)) i b'=R by rw[←HS.out,hd,lastW,if_neg hxi])
    clear hx hd hlt' HS
    go_wp2
    go_round
    case rel=>exact ⟨k+1,by omega,by go_num,b',rfl,HN⟩
    case measure=>simp[intOf];omega
  ·have HE:=Lib.hid (show b'=R by rw[←HS.out,List.drop_of_length_le (by rw[HL.out];omega)];rfl)
   go_wp2
   go_ret
   exact ⟨by rw[HE.out];rfl,rfl⟩
end Go.Proofs.YtiocpefgccndbaaGreat
namespace Go.Proofs.YtiocpefgccndbaaGreat
open Go.RowKit Me Rw Ds
def goodG (H:Nat) (Am:Option Addr) (nm cm i:Nat) (made:List WD):Gw.Fact:=fun t v _=>
 match t with
 |2=>v=.pointer (some ⟨H,0,none⟩)
 |5=>v=.pointer (some ⟨H,3,none⟩)
 |6=>v=.slice Am nm cm
 |1|7=>v=.int .i64 (i:Int)
 |8=>v=sv zero128
 |9|4=>v=sv (lastW made i zero128)
 |_=>True
set_option maxRecDepth 100000 in
set_option maxHeartbeats 1000000 in
theorem good_any (cn:Int) (of:Bool) (f:Int) (Am:Option Addr) (nm cm:Nat) (Aw:Option Addr) (nw cw:Nat) (made:List WD) (i:Nat) (own:Nat→Prop) (w:World) (hl:made.length=nm) (hn:nm≤4611686018427387904) (h:Cy w own Am made) :
 Calls Tryz.prog 123 #[.agg #[.int .i64 cn,.bool of,.int .i64 f,.slice Am nm cm,.slice Aw nw cw],.int .i64 (i:Int)] w fun e w'=>e=.returned (sv (lastW made i zero128))∧Below w.heap.size w w':=by
 have HBk:=Lib.hid (Blk.new w [.int .i64 cn,.bool of,.int .i64 f,.slice Am nm cm,.slice Aw nw cw] 59)
 have HB:=Lib.hid (show Below w.heap.size w (w.alloc (.cells [.int .i64 cn,.bool of,.int .i64 f,.slice Am nm cm,.slice Aw nw cw].toArray 59)) from (Below.refl _ _).alloc (Nat.le_refl _) _)
 have HA:=Lib.hid (h.past HB.out)
 have HLn:=Lib.hid hl
 clear h hl
 go_enter Tryz.func123,Tryz.ntmps123
 go_wp2_with fail
 generalize w.alloc (.cells #[.int .i64 cn,.bool of,.int .i64 f,.slice Am nm cm,.slice Aw nw cw] 59)=w1 at *
 refine Gw.wp_region_grow (goodG w.heap.size Am nm cm i made) [5,6,7,8,9,4] [([2],none),([5],none),([1],none),([],none),([6,7,8],none),([9],none)] 10 (by kernel_rfl) (by kernel_rfl) rfl ?h0 ?hreq ?hend
 case h0=>
  intro t W hnd _
  unfold goodG
  split<;>first|rfl|trivial|exact absurd (by simp) hnd
 case hreq=>
  refine ⟨?_,?_,?_,?_,?_,?_,trivial⟩
  all_goals
   intro ac W hg hk
   obtain ⟨-,-,-,k3,-⟩:=((show Blk w1 w.heap.size _ from HBk.out).past hg).five
   simp only[Gw.Knows,goodG] at hk
   try (simp[go_sem,Gw.OpReq,Gw.Ok,Gw.Post,Gw.Holds,goodG,Gw.Grows.refl,hk,k3];done)
  ·simp[go_sem,Gw.OpReq,Gw.Ok,Gw.Post,Gw.Holds,goodG,Gw.Grows.refl]
   refine (zeros_any W).mono ?_
   rintro e w5 ⟨rfl,hb⟩
   exact ⟨_,rfl,hb,fun _ _=>rfl⟩
  ·simp[go_sem,Gw.OpReq,Gw.Ok,Gw.Post,Gw.Holds,goodG,Gw.Grows.refl,hk]
   refine (last_any Am nm cm made i zero128 own W HLn.out hn ((show Cy w1 own Am made from HA.out).past hg)).mono ?_
   rintro e w5 ⟨rfl,rfl⟩
   exact ⟨_,rfl,Gw.Grows.refl _,fun _ _=>rfl⟩
 case hend=>
  intro x w' hg hx
  have h4:x 4=sv (lastW made i zero128):=(hx 4 (by simp)).now
  have HB2:=Lib.hid ((show Below w.heap.size w w1 from HB.out).trans (Below.mono (show Below w1.heap.size w1 w' from hg) HB.out.size))
  clear hx hg
  simp only[Gw.putAll,Act.put,List.setIfInBounds_toArray,List.set_cons_zero,List.set_cons_succ]
  rw[h4]
  go_wp2
  go_ret
  exact ⟨rfl,HB2.out⟩
def readER (m:RefM) (i:Int):Int:=if m.off then 6 else if hasB m.count i then 0 else 9
def readR (m:RefM) (i:Int):List UInt8:=if readER m i=0 then lastW m.wait i.toNat (lastW m.made i.toNat zero128) else []
def rdG (H:Nat) (cn:Int) (of:Bool) (f:Int) (Am:Option Addr) (nm cm:Nat) (Aw:Option Addr) (nw cw i:Nat) (b r:List UInt8):Gw.Fact:=fun t v _=>
 match t with
 |2=>v=.pointer (some ⟨H,0,none⟩)
 |16=>v=.pointer (some ⟨H,4,none⟩)
 |17=>v=.slice Aw nw cw
 |1|18|20=>v=.int .i64 (i:Int)
 |19=>v=.agg #[.int .i64 cn,.bool of,.int .i64 f,.slice Am nm cm,.slice Aw nw cw]
 |21=>v=sv b
 |22|4=>v=sv r
 |5=>v=.int .i64 0
 |_=>True
set_option maxRecDepth 100000 in
set_option maxHeartbeats 1000000 in
theorem rread_any {own:Nat→Prop} {w:World} {m:RefM} {Am Aw:Option Addr} {nm cm nw cw:Nat} (h:RefAt w own m Am cm Aw cw) (hm:m.made.length=nm) (hw:m.wait.length=nw) (hnm:nm≤4611686018427387904) (hnw:nw≤4611686018427387904) (i:Int) :
 Calls Tryz.prog 83 #[.agg #[.int .i64 (m.count:Int),.bool m.off,.int .i64 m.fuse,.slice Am nm cm,.slice Aw nw cw],.int .i64 i] w fun e w'=>e=.returned (.tuple #[sv (readR m i),.int .i64 (readER m i)])∧Below w.heap.size w w':=by
 have HBk:=Lib.hid (Blk.new w [.int .i64 (m.count:Int),.bool m.off,.int .i64 m.fuse,.slice Am nm cm,.slice Aw nw cw] 59)
 have HB:=Lib.hid (show Below w.heap.size w (w.alloc (.cells [.int .i64 (m.count:Int),.bool m.off,.int .i64 m.fuse,.slice Am nm cm,.slice Aw nw cw].toArray 59)) from (Below.refl _ _).alloc (Nat.le_refl _) _)
 have HA:=Lib.hid (h.past HB.out)
 have HM:=Lib.hid hm
 have HW:=Lib.hid hw
 obtain ⟨x,hx⟩:∃x,x=readER m i:=⟨_,rfl⟩
 obtain ⟨r,hr⟩:∃r,r=readR m i:=⟨_,rfl⟩
 rw[←hx,←hr]
 have hx':=hx
 have hr':=hr
 unfold readR at hr'
 rw[←hx] at hr'
 unfold readER at hx'
 obtain ⟨mo,hmo⟩:∃mo,mo=m.off:=⟨_,rfl⟩
 obtain ⟨mc,hmc⟩:∃mc,mc=m.count:=⟨_,rfl⟩
 rw[←hmo] at hx' HBk HB HA ⊢
 rw[←hmc] at hx' HBk HB HA ⊢
 generalize m.fuse=mf at *
 have HH:=Lib.hid h
 clear h hm hw hx hr hmo hmc
 cases mo with
 |true=>
  rw[if_pos rfl] at hx'
  subst hx'
  rw[if_neg (by omega)] at hr'
  subst hr'
  clear HA
  go_enter Tryz.func83,Tryz.ntmps83
  go_wp2
  exact bodyPost_ret (v:=.tuple #[sv [],.int .i64 6]) (by simp[results,Tryz.results83,go_sem,sv]) rfl ⟨rfl,HB.out⟩
 |false=>
  rw[if_neg (by simp)] at hx'
  cases hb:hasB mc i with
  |false=>
   rw[hb,if_neg (by simp)] at hx'
   subst hx'
   rw[if_neg (by omega)] at hr'
   subst hr'
   have hway:decide (i<0)=true∨(decide (i<0)=false∧decide ((mc:Int)≤i)=true):=by
    unfold hasB at hb
    simp at hb ⊢
    omega
   clear HA hb
   rcases hway with d1|⟨d1,d2⟩
   all_goals
    go_enter Tryz.func83,Tryz.ntmps83
    go_wp2
    exact bodyPost_ret (v:=.tuple #[sv [],.int .i64 9]) (by simp[results,Tryz.results83,go_sem,sv]) rfl ⟨rfl,HB.out⟩
  |true=>
   rw[hb,if_pos rfl] at hx'
   subst hx'
   rw[if_pos rfl] at hr'
   obtain ⟨k,rfl,hk⟩:=hasB_true hb
   rw[Int.toNat_natCast] at hr'
   have d1:decide ((k:Int)<0)=false:=by simp
   have d2:decide ((mc:Int)≤(k:Int))=false:=by simp;omega
   have HRr:=Lib.hid hr'
   clear hb hr'
   go_enter Tryz.func83,Tryz.ntmps83
   go_wp2_with fail
   generalize w.alloc (.cells #[.int .i64 (mc:Int),.bool false,.int .i64 mf,.slice Am nm cm,.slice Aw nw cw] 59)=w1 at *
   refine Gw.wp_region_grow (rdG w.heap.size mc false mf Am nm cm Aw nw cw k (lastW m.made k zero128) r) [16,17,18,19,20,21,22,4,5] [([2],none),([16],none),([1],none),([2],none),([1],none),([19,20],none),([17,18,21],none),([22],none),([],none)] 23 (by kernel_rfl) (by kernel_rfl) rfl ?h0 ?hreq ?hend
   case h0=>
    intro t W hnd _
    unfold rdG
    split<;>first|rfl|trivial|exact absurd (by simp) hnd
   case hreq=>
    refine ⟨?_,?_,?_,?_,?_,?_,?_,?_,?_,trivial⟩
    all_goals
     intro ac W hg hk
     obtain ⟨k0,k1,k2,k3,k4⟩:=((show Blk w1 w.heap.size _ from HBk.out).past hg).five
     simp only[Gw.Knows,rdG] at hk
     try (simp[go_sem,Gw.OpReq,Gw.Ok,Gw.Post,Gw.Holds,rdG,Gw.Grows.refl,hk,k0,k1,k2,k3,k4];done)
    ·simp[go_sem,Gw.OpReq,Gw.Ok,Gw.Post,Gw.Holds,rdG,Gw.Grows.refl,hk]
     refine (good_any _ _ _ Am nm cm Aw nw cw m.made k own W HM.out hnm ((show RefAt w1 own m Am cm Aw cw from HA.out).made.past hg)).mono ?_
     rintro e w5 ⟨rfl,hb⟩
     exact ⟨_,rfl,hb,fun _ _=>rfl⟩
    ·simp[go_sem,Gw.OpReq,Gw.Ok,Gw.Post,Gw.Holds,rdG,Gw.Grows.refl,hk]
     refine (last_any Aw nw cw m.wait k _ own W HW.out hnw ((show RefAt w1 own m Am cm Aw cw from HA.out).wait.past hg)).mono ?_
     rintro e w5 ⟨rfl,rfl⟩
     exact ⟨_,rfl,Gw.Grows.refl _,fun _ _=>by rw[HRr.out]⟩
   case hend=>
    intro x w' hg hx
    have h4:x 4=sv r:=(hx 4 (by simp)).now
    have h5:x 5=.int .i64 0:=(hx 5 (by simp)).now
    have HB2:=Lib.hid ((show Below w.heap.size w w1 from HB.out).trans (Below.mono (show Below w1.heap.size w1 w' from hg) HB.out.size))
    clear hx hg
    simp only[Gw.putAll,Act.put,List.setIfInBounds_toArray,List.set_cons_zero,List.set_cons_succ]
    rw[h4,h5]
    go_wp2
    exact bodyPost_ret (v:=.tuple #[sv r,.int .i64 0]) (by simp[results,Tryz.results83,go_sem,sv]) rfl ⟨rfl,HB2.out⟩
end Go.Proofs.YtiocpefgccndbaaGreat
namespace Go.Proofs.YtiocpefgccndbaaGreat
open Go.RowKit Me Rw Ds
set_option maxRecDepth 100000 in
theorem rnew_any (n:Int) (w:World):Calls Tryz.prog 53 #[.int .i64 n] w fun e w'=>e=.returned (.agg #[.int .i64 n,.bool false,.int .i64 (-1),.slice none 0 0,.slice none 0 0])∧Below w.heap.size w w':=by
 go_enter Tryz.func53,Tryz.ntmps53
 go_wp2
 obtain ⟨r0,r1,r2,r3,r4⟩:=(Blk.new w [.int .i64 n,.bool false,.int .i64 (-1),.slice none 0 0,.slice none 0 0] 59).five
 exact bodyPost_ret (v:=.agg #[.int .i64 n,.bool false,.int .i64 (-1),.slice none 0 0,.slice none 0 0]) (by simp[results,Tryz.results53,go_sem,r0,r1,r2,r3,r4]) rfl ⟨rfl,(Below.refl _ _).alloc (Nat.le_refl _) _⟩
end Go.Proofs.YtiocpefgccndbaaGreat
namespace Go.Proofs.YtiocpefgccndbaaGreat
open Go.RowKit Me Rw Ds
theorem own_cap63 {w:World} {base size:Nat} {e:TypeId} {A:Option Addr} {n c:Nat} {xs:List Value} (h:w.ownsRow base e size (.slice A n c) n xs):c≤9223372036854775807:=by
 obtain ⟨-,⟨e,-⟩|⟨g,cap,cur,e,-,-,-,hm,-,-⟩⟩:=h
 ·injection e with _ _ e;omega
 ·injection e with _ _ e;subst e;exact hm
def slotR (m:RefM) (n:Nat):Nat→List UInt8
 |0=>[]
 |k+1=>slotR m n k++readR m ((16*n+k:Nat):Int)
theorem slotR_length {m:RefM} {n:Nat} (hb:∀i,(readR m i).length≤128):∀k,(slotR m n k).length≤128*k
 |0=>Nat.le_refl _
 |k+1=>by
  have:=slotR_length hb (n:=n) k
  have:=hb ((16*n+k:Nat):Int)
  simp only[slotR,List.length_append]
  omega
set_option maxRecDepth 100000 in
set_option maxHeartbeats 1000000 in
theorem rslot_any {own:Nat→Prop} {w:World} {m:RefM} {Am Aw:Option Addr} {nm cm nw cw:Nat} (h:RefAt w own m Am cm Aw cw) (hm:m.made.length=nm) (hw:m.wait.length=nw) (hnm:nm≤4611686018427387904) (hnw:nw≤4611686018427387904) (hb:∀i,(readR m i).length≤128) (n:Nat) (hn:n≤1) :
 Calls Tryz.prog 52 #[.agg #[.int .i64 (m.count:Int),.bool m.off,.int .i64 m.fuse,.slice Am nm cm,.slice Aw nw cw],.int .i64 (n:Int)] w fun e w'=>Below w.heap.size w w'∧∃A t c,e=.returned (.slice A t c)∧(slotR m n 16).length=t∧t≤c∧c≤9223372036854775807∧t≤2048∧Rd w' w'.heap.size A (slotR m n 16):=by
 obtain ⟨i0,hi0,hz0,hz1,hz2⟩:=info_parts u8_info
 have HA:=Lib.hid h
 have HSL:=Lib.hid (fun k=>slotR_length hb (n:=n) k)
 have HRB:=Lib.hid hb
 clear h hb
 go_enter Tryz.func52,Tryz.ntmps52
 go_wp2_with fail
 obtain ⟨H,hH⟩:∃H,H=w.heap.size:=⟨_,rfl⟩
 obtain ⟨wz,hwz⟩:∃wz,wz=(w.alloc (.cells #[.int .i64 (m.count:Int),.bool m.off,.int .i64 m.fuse,.slice Am nm cm,.slice Aw nw cw] 59)).alloc (.cells #[] 5):=⟨_,rfl⟩
 have B0:=Lib.hid (show Below w.heap.size w wz by rw[hwz];exact ((Below.refl _ _).alloc (Nat.le_refl _) _).alloc (by simp) _)
 have D0:=Lib.hid (show Blk wz w.heap.size [.int .i64 (m.count:Int),.bool m.off,.int .i64 m.fuse,.slice Am nm cm,.slice Aw nw cw] by rw[hwz];exact (Blk.new w [.int .i64 (m.count:Int),.bool m.off,.int .i64 m.fuse,.slice Am nm cm,.slice Aw nw cw] _).alloc _)
 have O0:=Lib.hid (show wz.ownsRow (w.heap.size+1) 5 1 (.slice (some ⟨w.heap.size+1,0,none⟩) 0 0) 0 (cellsOf (slotR m n 0)) by
  rw[hwz]
  have:=World.ownsRow_lit (base:=w.heap.size+1) (e:=5) (size:=1) (w.alloc (.cells #[.int .i64 (m.count:Int),.bool m.off,.int .i64 m.fuse,.slice Am nm cm,.slice Aw nw cw] 59)) #[] 0 (by simp) (by unfold maxLen;omega) (by simp)
  simpa [cellsOf,slotR] using this)
 rw[←hwz]
 clear hwz hH
 go_loopw [5,6] (fun v i wr=>∃k t:Nat,k≤16∧i=.int .i64 (k:Int)∧Hid ((slotR m n k).length=t)∧Hid (wr.ownsRow (w.heap.size+1) 5 1 v t (cellsOf (slotR m n k)))∧Hid (Blk wr w.heap.size [.int .i64 (m.count:Int),.bool m.off,.int .i64 m.fuse,.slice Am nm cm,.slice Aw nw cw])∧Hid (Below w.heap.size w wr)) (fun _ i _=>16-(intOf i).toNat)
 case atStart=>exact ⟨0,0,Nat.zero_le _,rfl,Lib.hid rfl,O0,D0,B0⟩
 case round=>
  clear O0 D0 B0
  obtain ⟨k,t,hk,rfl,HT,O,D,HB⟩:=hrel
  obtain ⟨A,c,e5,hc⟩:=own_slice' O.out
  subst e5
  have ht:t≤2048:=by have h1:=HSL.out k;have h2:=HT.out;omega
  by_cases hlt:k<16
  ·obtain ⟨q0,q1,q2,q3,q4⟩:=D.out.five
   have e1:((16*n+k:Nat):Int)=16*(n:Int)+(k:Int):=by omega
   obtain ⟨b,hb⟩:∃b,b=readR m ((16*n+k:Nat):Int):=⟨_,rfl⟩
   have hb128:b.length≤128:=by rw[hb];exact HRB.out _
   obtain ⟨er,her⟩:∃er,er=readER m ((16*n+k:Nat):Int):=⟨_,rfl⟩
   have HBB:=Lib.hid hb
   have HER:=Lib.hid her
   have HLT:=D.out.lt
   clear hb her
   go_wp2_with fail
   rw[←e1]
   refine (rread_any (HA.out.past HB.out) hm hw hnm hnw ((16*n+k:Nat):Int)).mono ?_
   rw[←HBB.out,←HER.out]
   rintro e w1 ⟨rfl,hb1⟩
   have HB1:=Lib.hid (HB.out.trans (hb1.mono HB.out.size))
   have D1:=Lib.hid (D.out.past hb1)
   have O1:=Lib.hid (own_below' O.out hb1)
   obtain ⟨w2,c2,hr2,hb2,hs2,hc2,-⟩:=run_conv (P:=Tryz.prog) 9 29 5 Tryz.underlying9 Tryz.underlying29 Tryz.underlying5 w1 b
   have HB2:=Lib.hid (HB1.out.trans (hb2.mono HB1.out.size))
   have D2:=Lib.hid (D1.out.past hb2)
   have O2:=Lib.hid (own_below' O1.out hb2)
   have HR2:=Lib.hid (show Rd w2 w2.heap.size (some ⟨w1.heap.size,0,none⟩) b from fun _=>⟨_,rfl,hs2,fun j u hu=>by
    have:=hc2 j u hu
    have e:(⟨w1.heap.size,0,none⟩:Addr).add j=⟨w1.heap.size,j,none⟩:=by unfold Addr.add;split<;>simp_all
    rw[e];exact this⟩)
   have HC2:=Lib.hid hr2
   have HS2:=Lib.hid (show w.heap.size+1≤w2.heap.size from by have:=D2.out.lt;omega)
   clear hb1 hb2 hs2 hc2 hr2 q0 q1 q2 q3 q4 D1 O1 HB1
   go_wp2_with (first
    |(refine wpList_convert_run rfl 9 29 _ rfl _ _ rfl HC2.out ?_)
    |(at_builtin;refine wpList_app rfl (.tmp 23) (.tmp 25) 29 rfl (w.heap.size+1) 5 i0 _ Tryz.underlying29 hi0 hz0 hz1 hz2 rfl _ t _ rfl O2.out w2.heap.size (some ⟨w1.heap.size,0,none⟩) b.length c2 b rfl rfl HR2.out (by omega) HS2.out ?_;intro v3 w3 ho hg _))
   have HB3:=Lib.hid (show Below w.heap.size w w3 from HB2.out.trans ⟨hg.os,hg.tape,hg.output,hg.size,fun j hj=>hg.block j (by have:=HB2.out.size;omega) (fun e=>by have:=(O2.out.lt _ e.symm).1;omega)⟩)
   have D3:=Lib.hid (D2.out.grown hg (fun e=>by have:=(O2.out.lt _ e).1;omega))
   have HT3:=Lib.hid (show (slotR m n (k+1)).length=t+b.length by rw[slotR,List.length_append,HT.out,HBB.out])
   have O3:=Lib.hid (show w3.ownsRow (w.heap.size+1) 5 1 v3 (t+b.length) (cellsOf (slotR m n (k+1))) by rw[slotR,←HBB.out];exact ho)
   clear ho hg
   go_roundw
   case rel=>exact ⟨k+1,t+b.length,by omega,by go_num,HT3,O3,D3,HB3⟩
   case measure=>simp[intOf];omega
  ·have hk16:k=16:=by omega
   subst hk16
   go_wp2
   go_ret
   exact ⟨HB.out,A,t,c,rfl,HT.out,hc,own_cap63 O.out,ht,(Rd.of_own O.out)⟩
end Go.Proofs.YtiocpefgccndbaaGreat
end
