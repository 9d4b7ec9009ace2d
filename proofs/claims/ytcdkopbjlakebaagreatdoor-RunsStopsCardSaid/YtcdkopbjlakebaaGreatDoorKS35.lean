/- Texts put together, for a law: StCm, StRd, StAp. -/
import Derived.Test.YtcdkopbjlakebaaGreatDoorKS28
import Derived.Test.YtcdkopbjlakebaaGreatDoorKS18
import Derived.Test.YtcdkopbjlakebaaGreatDoorKS14
import Derived.Test.YtcdkopbjlakebaaGreatDoorKS22
import Derived.Test.YtcdkopbjlakebaaGreatDoorKS2
import Derived.Test.YtcdkopbjlakebaaGreatDoorKS8
section
namespace Go.Proofs.YtcdkopbjlakebaaGreatDoor
open Go.RowKit Me Mf Rw Ds Go.Maps
abbrev rg (n:Nat):Cr.Reg:=BitVec.ofNat 32 n
theorem rg_nat {n:Nat} (h:n<4294967296):((rg n).toNat:Int)=(n:Int):=by
 rw[BitVec.toNat_ofNat,Nat.mod_eq_of_lt (by simpa using h)]
def readGo (S:Dsk) (id:Nat) (size:Int):List Int→Nat→List UInt8→List UInt8×Int
 |[],_,acc=>(acc,0)
 |z::l,i,acc=>if (Pg.getP (readD S z) (rg id) (rg i)).2≠0∨((Pg.getP (readD S z) (rg id) (rg i)).1.length:Int)≠min 112 (size-(acc.length:Int)) then ([],5) else readGo S id size l (i+1) (acc++(Pg.getP (readD S z) (rg id) (rg i)).1)
def readF (S:Dsk) (f:FileD):List UInt8×Int:=readGo S f.id f.size f.blocks 0 []
def CmPost (w:World) (p:List UInt8×Int) (e:Ending) (w':World):Prop:=
 ∃A n c,e=.returned (.tuple #[.slice A n c,.int .i64 p.2])∧w'.ownsRow w.heap.size 5 1 (.slice A n c) n (cellsOf p.1)∧Below w.heap.size w w'
theorem readD_length {S:Dsk} (h:Fine S) {z:Int} (hz:readE S z=0):(readD S z).length=128:=by
 unfold readD
 rw[if_pos hz]
 unfold readE at hz
 split at hz
 ·split at hz
  ·rename_i hb
   obtain ⟨k,rfl,hk⟩:=hasB_true hb
   rw[Int.toNat_natCast]
   exact latestD_length h hk
  ·cases hz
 ·cases hz
section
variable {w w':World} {B P D M N:Nat} {X:Sto} {own ownD T:Nat→Prop}
set_option maxRecDepth 100000 in
set_option maxHeartbeats 1000000 in
theorem committed_any (h:StoreAt w B P D M N X own ownD) (f:FileD) (A:Option Addr) (n c:Nat) (hl:f.blocks.length=n) (hn:n≤65536) (hcs:Cs w w.heap.size A (icells f.blocks)) (hid:f.id<4294967296)
 (hok:∀z∈f.blocks,readE X.S z=0) (hp:X.S.pend.length<4611686018427387904) (hs:-4611686018427387904≤f.size∧f.size≤4611686018427387904) :
 Calls Tryz.prog 113 #[.pointer (some ⟨P,0,none⟩),.agg #[sv f.name,.int .u32 (f.id:Int),.int .i64 f.size,.slice A n c]] w (CmPost w (readF X.S f)):=by
 obtain ⟨i0,hi0,hz0,hz1,hz2⟩:=info_parts u8_info
 obtain ⟨A0,n0,c0',hbk,-⟩:=h.blk
 obtain ⟨H,hH⟩:∃H,H=w.heap.size:=⟨_,rfl⟩
 obtain ⟨nm,hnm⟩:∃nm,nm=f.name:=⟨_,rfl⟩
 obtain ⟨id,hid'⟩:∃id,id=f.id:=⟨_,rfl⟩
 obtain ⟨sz,hsz⟩:∃sz,sz=f.size:=⟨_,rfl⟩
 obtain ⟨bl,hbl⟩:∃bl,bl=f.blocks:=⟨_,rfl⟩
 obtain ⟨R,hR⟩:∃R,R=readF X.S f:=⟨_,rfl⟩
 have HR:=Lib.hid (show R=readGo X.S id sz bl 0 [] by rw[hR,hid',hsz,hbl];rfl)
 rw[←hnm,←hid',←hsz,←hR]
 rw[←hsz] at hs
 rw[←hid'] at hid
 rw[←hbl] at hl hcs hok
 obtain ⟨wb,hwb⟩:∃wb,wb=w.alloc (fbox nm id sz A n c):=⟨_,rfl⟩
 have hbb:Below w.heap.size w wb:=by rw[hwb];exact (Below.refl _ _).alloc (Nat.le_refl _) _
 have BX:=Lib.hid (show Blk wb H [sv nm,.int .u32 (id:Int),.int .i64 sz,.slice A n c] by rw[hwb,hH];exact Blk.new w [sv nm,.int .u32 (id:Int),.int .i64 sz,.slice A n c] _)
 have HWB:=Lib.hid hwb
 have HB:=Lib.hid hbb
 have HBK:=Lib.hid hbk
 have HD:=Lib.hid h.disk
 have HG:=Lib.hid h.disk.good
 have HCS:=Lib.hid hcs
 have HL:=Lib.hid hl
 have HOK:=Lib.hid hok
 have HHW:=Lib.hid hH
 obtain ⟨g0,g1,g2,g3⟩:=BX.out.four
 rw[hwb] at g0 g1 g2 g3
 have hsb:wb.heap.size=H+1:=by rw[hwb,hH];simp
 have HSB:=Lib.hid hsb
 clear hnm hid' hsz hbl hR hwb hbb hbk h hcs hl hok hH hsb
 go_enter Tryz.func113,Tryz.ntmps113
 go_wp2_with fail
 rw[←HWB.out,←HHW.out]
 clear HWB g0 g1 g2 g3
 go_loopw [15,6] (fun i v wr=>∃(j t:Nat) (acc:List UInt8),i=.int .i64 (j:Int)∧j≤n∧t≤112*j∧Hid (acc.length=t)∧Hid (R=readGo X.S id sz (bl.drop j) j acc)∧Hid (wr.ownsRow (H+1) 5 1 v t (cellsOf acc))∧Hid (Below (H+1) wb wr)) (fun i _ _=>n-(intOf i).toNat)
 case atStart=>exact ⟨0,0,[],rfl,Nat.zero_le _,by omega,Lib.hid rfl,HR,Lib.hid (World.ownsRow_nil _ _ _ _),Lib.hid (Below.refl _ _)⟩
 case round=>
  obtain ⟨j,t,acc,rfl,hjn,ht,HT,HRR,HO,HBr⟩:=hrel
  have hww:=HB.out.trans (HBr.out.mono (by have:=HHW.out;omega))
  obtain ⟨g0,g1,g2,g3⟩:=(BX.out.keep (w':=wr) (HBr.out.block H (by omega))).four
  obtain ⟨p0,p1,p2,p3,p4,p5⟩:=(HBK.out.past hww).six
  obtain ⟨V,cv,rfl⟩:=own_slice HO.out
  by_cases hlt:j<n
  ·have hj:j<bl.length:=by rw[HL.out];exact hlt
   obtain ⟨z,hz⟩:∃z,bl[j]?=some z:=⟨_,List.getElem?_eq_getElem hj⟩
   obtain ⟨a,rfl,hab,hc⟩:=(HCS.out.below hww) (by rw[icells_length];omega)
   have hcz:=hc j (.int .i64 z) (icells_get hz)
   have HE:=Lib.hid (show readE X.S z=0 from HOK.out z (List.mem_of_getElem? hz))
   have HLK:=Lib.hid (readD_length HG.out HE.out)
   have HRD:=Lib.hid (read_any (HD.out.past hww) z hp)
   have HST:=Lib.hid (show bl.drop j=z::bl.drop (j+1) by rw[List.drop_eq_getElem_cons hj];rw[List.getElem?_eq_getElem hj] at hz;injection hz with hz;rw[hz])
   have HWW:=Lib.hid hww
   have e1:IntKind.u32.wrap (j:Int)=(j:Int):=by rw[IntKind.wrap_u32];omega
   have hlt':(j:Int)<(n:Int):=by omega
   clear hc hz hj hww
   go_wp2_with fail
   rw[HE.out] at HRD
   refine HRD.out.mono ?_
   rintro e w1 ⟨hb1,A1,n1,rfl,hl1,hr1⟩
   have hn1:n1=128:=by rw[←hl1];exact HLK.out
   subst hn1
   obtain ⟨b1,rfl,-,hbk1⟩:=hr1 (by omega)
   obtain ⟨kk,hkk⟩:∃kk,kk=readD X.S z:=⟨_,rfl⟩
   rw[←hkk] at hl1 hbk1
   have HKK:=Lib.hid hkk
   have HRK:=Lib.hid (show Rd w1 w1.heap.size (some ⟨b1,0,none⟩) kk from fun _=>⟨_,rfl,hbk1.lt,fun i u hu=>by
    have e:(⟨b1,0,none⟩:Addr).add i=⟨b1,i,none⟩:=by rw[Addr.add_mid,Nat.zero_add]
    rw[e]
    exact hbk1.cell (by simp[cellsOf,hu])⟩)
   have HL1:=Lib.hid hl1
   have HB1:=Lib.hid (HBr.out.trans (hb1.mono (by have:=HBr.out.size;have:=HSB.out;omega)))
   have HO1:=Lib.hid (own_below HO.out hb1)
   obtain ⟨g0,g1,g2,g3⟩:=(BX.out.keep (w':=w1) (HB1.out.block H (by omega))).four
   have HPG:=Lib.hid (pget_any (rg id) (rg j) (some ⟨b1,0,none⟩) 128 128 kk w1 HL1.out (Nat.le_refl _) HRK.out)
   rw[rg_nat hid,rg_nat (by omega)] at HPG
   obtain ⟨pt,hpt⟩:∃pt,pt=(Pg.getP kk (rg id) (rg j)).1:=⟨_,rfl⟩
   obtain ⟨er,her⟩:∃er,er=(Pg.getP kk (rg id) (rg j)).2:=⟨_,rfl⟩
   have HPL:=Lib.hid (show pt.length≤112 by rw[hpt];exact Pg.getP_le _ _ _)
   have HNX:=Lib.hid (show R=if er≠0∨(pt.length:Int)≠min 112 (sz-(acc.length:Int)) then ([],5) else readGo X.S id sz (bl.drop (j+1)) (j+1) (acc++pt) by rw[HRR.out,HST.out,readGo,←HKK.out,hpt,her])
   rw[←hpt,←her] at HPG
   have hs1:wb.heap.size≤w1.heap.size:=HB1.out.size
   clear hb1 hl1 hbk1 hkk hpt her HRR HST HKK HRD p0 p1 p2 p3 p4 p5 hcz
   go_wp2_with fail
   refine HPG.out.mono ?_
   rintro e w2 ⟨hb2,Y,k,ck,rfl,hk,-,hrk,-⟩
   have HB2:=Lib.hid (HB1.out.trans (hb2.mono (by have:=HSB.out;omega)))
   have HO2:=Lib.hid (own_below HO1.out hb2)
   have HRK2:=Lib.hid hrk
   obtain ⟨g0,g1,g2,g3⟩:=(BX.out.keep (w':=w2) (HB2.out.block H (by omega))).four
   have hk112:k≤112:=by rw[←hk];exact HPL.out
   rw[hk,HT.out] at HNX
   have HKL:=Lib.hid hk
   have HBW:=Lib.hid (HB.out.trans (HB2.out.mono (by have:=HHW.out;omega)))
   clear hb2 hrk hk HPG HRK HO1 HO HB1 HBr HWW HPL
   by_cases he:er=0
   ·subst he
    obtain ⟨y,hy⟩:∃y,y=sz-(t:Int):=⟨_,rfl⟩
    have e2:IntKind.i64.wrap (sz-(t:Int))=y:=by rw[hy];exact IntWalk.i64_in _ (by omega)
    obtain ⟨q,hq⟩:∃q,q=min 112 y:=⟨_,rfl⟩
    rw[←hy,←hq] at HNX
    have HY:=Lib.hid hy
    have hway:(y<112∧Hid (q=y))∨(¬y<112∧Hid (q=112)):=by
     by_cases h:y<112
     ·exact .inl ⟨h,Lib.hid (by omega)⟩
     ·exact .inr ⟨h,Lib.hid (by omega)⟩
    clear hy hq
    by_cases hkq:(k:Int)=q
    ·have HN2:=Lib.hid (show R=readGo X.S id sz (bl.drop (j+1)) (j+1) (acc++pt) by rw[HNX.out,if_neg (fun h=>h.elim (fun h=>h rfl) (fun h=>h hkq))])
     clear HNX
     rcases hway with ⟨hy1,HQ⟩|⟨hy1,HQ⟩
     all_goals
      have hkq':=HQ.out
      rw[←hkq] at hkq'
      go_wp2_with (at_builtin
                   refine wpList_app rfl (.tmp 54) (.tmp 55) 24 rfl (H+1) 5 i0 _ Tryz.underlying24 hi0 hz0 hz1 hz2 rfl (.slice V t cv) t acc rfl HO2.out w2.heap.size Y k ck pt rfl HKL.out HRK2.out (by omega) (by have:=HB2.out.size;have:=HSB.out;omega) ?_
                   intro v3 w3 hown3 hg3 _
                   have HO3:=Lib.hid hown3
                   have HG3:=Lib.hid hg3
                   clear hown3 hg3)
      have HB3:=Lib.hid (HB2.out.trans (below_app' (Below.refl (H+1) _) HO2.out (Nat.le_refl _) (by have:=HB2.out.size;have:=HSB.out;omega) HG3.out))
      have HT3:=Lib.hid (show (acc++pt).length=t+k by rw[List.length_append,HT.out,HKL.out])
      go_wp2
      go_roundw
      case rel=>exact ⟨j+1,t+k,acc++pt,by go_num,by omega,by omega,HT3,HN2,HO3,HB3⟩
      case measure=>simp[intOf];omega
    ·have HN2:=Lib.hid (show R=([],5) by rw[HNX.out,if_pos (.inr hkq)])
     clear HNX
     rcases hway with ⟨hy1,HQ⟩|⟨hy1,HQ⟩
     all_goals
      have hkq':=hkq
      rw[HQ.out] at hkq'
      go_wp2
      go_ret2
      rw[HN2.out]
      exact ⟨none,0,0,rfl,World.ownsRow_nil _ _ _ _,HBW.out⟩
   ·have d1:(er != 0)=true:=by rw[bne_iff_ne];exact he
    have HN2:=Lib.hid (show R=([],5) by rw[HNX.out,if_pos (.inl he)])
    clear HNX
    go_wp2
    go_ret2
    rw[HN2.out]
    exact ⟨none,0,0,rfl,World.ownsRow_nil _ _ _ _,HBW.out⟩
  ·have hjn':j=n:=by omega
   subst hjn'
   have hr:=HRR.out
   rw[List.drop_of_length_le (by rw[HL.out];exact Nat.le_refl _),readGo] at hr
   have HR2:=Lib.hid hr
   have HWW:=Lib.hid hww
   clear hr hww
   go_wp2
   go_ret2
   rw[HR2.out]
   exact ⟨V,t,cv,rfl,own_more HO.out (by have:=HHW.out;omega),HWW.out⟩
end
end Go.Proofs.YtcdkopbjlakebaaGreatDoor
end
section
namespace Go.Proofs.YtcdkopbjlakebaaGreatDoor
open Go.RowKit Me Mf Rw Ds Go.Maps
def sreadD (X:Sto) (x:List UInt8):List UInt8×Int:=if upD X then match X.C x with
 |some (some b)=>(b,0)
 |some none=>([],8)
 |none=>match fileOf X.m x with
  |some f=>readF X.S f
  |none=>([],8) else ([],6)
section
variable {w w':World} {B P D M N:Nat} {X:Sto} {own ownD T:Nat→Prop}
theorem reads_ok (h:OkS X) (hup:X.S.on=true) {f:FileD} (hf:f∈X.m.files):∀z∈f.blocks,readE X.S z=0:=fun z hz=>by
 obtain ⟨h1,-⟩:=(h.fit.1.2.2.1 f hf).2.2 z hz
 have h2:=h.disk z (by unfold allBlocks;exact List.mem_flatMap.2 ⟨f,hf,hz⟩)
 obtain ⟨k,rfl⟩:∃k:Nat,z=(k:Int):=⟨z.toNat,by omega⟩
 unfold readE
 rw[hup,if_pos rfl,hasB_nat,decide_eq_true (by omega),if_pos rfl]
theorem up_on (h:upD X=true):X.S.on=true∧X.broken=false:=by
 unfold upD at h
 simp at h
 exact ⟨h.2,h.1⟩
theorem countOf_mem:∀{l:List FileD} {f:FileD},f∈l→f.blocks.length≤countOf l
 |g::l,f,h=>by
  unfold countOf allBlocks
  rw[List.flatMap_cons,List.length_append]
  rcases List.mem_cons.1 h with rfl|h
  ·omega
  ·have:=countOf_mem h
   unfold countOf allBlocks at this
   omega
theorem blocks_few {m:ManD} (h:Fit m) {f:FileD} (hf:f∈m.files):f.blocks.length≤2035:=by
 have h1:=body_length m
 have h2:=encFs_length m.files
 have h3:=countOf_enc m.files
 have h4:=countOf_mem hf
 have h5:=h.2
 omega
theorem size_small {m:ManD} (h:Fit m) {f:FileD} (hf:f∈m.files):0≤f.size∧f.size≤300000:=by
 obtain ⟨h1,h2,-⟩:=h.1.2.2.1 f hf
 have h3:=blocks_few h hf
 refine ⟨h1,?_⟩
 unfold manyZ at h2
 split at h2<;>omega
set_option maxRecDepth 100000 in
set_option maxHeartbeats 1000000 in
theorem sread_any (h:StoreAt w B P D M N X own ownD) (x:List UInt8) (hx:x.length≤1000) (hp:X.S.pend.length<4611686018427387904) :
 Calls Tryz.prog 73 #[.pointer (some ⟨P,0,none⟩),sv x] w (CmPost w (sreadD X x)):=by
 have HU:=Lib.hid (up_any h)
 obtain ⟨R,hR⟩:∃R,R=sreadD X x:=⟨_,rfl⟩
 rw[←hR]
 obtain ⟨u,hu⟩:∃u,u=upD X:=⟨_,rfl⟩
 rw[←hu] at HU
 unfold sreadD at hR
 rw[←hu] at hR
 have HH:=Lib.hid h
 have HON:=Lib.hid (fun e:u=true=>(up_on (X:=X) (by rw[←hu];exact e)).1)
 clear h hu
 cases u with
 |false=>
  rw[if_neg (by decide)] at hR
  have HR:=Lib.hid hR
  clear hR
  go_enter Tryz.func73,Tryz.ntmps73
  go_wp2_with (go_at_call 62;refine HU.out.mono ?_;rintro e w' ⟨rfl,rfl⟩)
  go_ret2
  rw[HR.out]
  exact ⟨none,0,0,rfl,World.ownsRow_nil _ _ _ _,Below.refl _ _⟩
 |true=>
  rw[if_pos rfl] at hR
  have HR:=Lib.hid hR
  have HSZ:=Lib.hid (size_any HH.out x hx)
  have HX:=Lib.hid (show x.length≤maxLen by unfold maxLen;omega)
  obtain ⟨sz,hsz⟩:∃sz,sz=(sizeD X x).1:=⟨_,rfl⟩
  obtain ⟨ex,hex⟩:∃ex,ex=(sizeD X x).2:=⟨_,rfl⟩
  rw[←hsz,←hex] at HSZ
  have HEX:=Lib.hid hex
  clear hR hsz hex
  cases ex with
  |false=>
   have HR2:=Lib.hid (show R=([],8) by
    rw[HR.out]
    have he:=HEX.out
    unfold sizeD at he
    cases hC:X.C x with
    |some z=>
     rw[hC] at he
     cases z with
     |none=>rfl
     |some b=>cases he
    |none=>
     rw[hC] at he
     simp only at he ⊢
     cases hf:fileOf X.m x with
     |none=>rfl
     |some f=>rw[hf] at he;cases he)
   clear HR HEX
   go_enter Tryz.func73,Tryz.ntmps73
   go_wp2_with (first|(go_at_call 62;refine HU.out.mono ?_;rintro e w' ⟨rfl,rfl⟩)|(go_at_call 81;refine HSZ.out.mono ?_;rintro e w1 ⟨rfl,hb1⟩;have HB1:=Lib.hid hb1;clear hb1))
   go_ret2
   rw[HR2.out]
   exact ⟨none,0,0,rfl,World.ownsRow_nil _ _ _ _,HB1.out⟩
  |true=>
   go_enter Tryz.func73,Tryz.ntmps73
   go_wp2_with (go_at_call 62;refine HU.out.mono ?_;rintro e w' ⟨rfl,rfl⟩)
   refine HSZ.out.mono ?_
   rintro e w1 ⟨rfl,hb1⟩
   have HB1:=Lib.hid hb1
   have HH1:=Lib.hid (HH.out.past hb1)
   clear hb1
   obtain ⟨A,n,c,hbk,hm⟩:=HH1.out.blk
   have HBK:=Lib.hid hbk
   have HM:=Lib.hid hm
   obtain ⟨p0,p1,p2,p3,p4,p5⟩:=hbk.six
   obtain ⟨DD,hc⟩:=HH1.out.chs
   have HC:=Lib.hid hc
   clear hc hbk hm
   go_wp2_with (at_lookup;refine wpList_lookup_chg HC.out rfl _ _ rfl rfl x rfl HX.out ?_ ?_)
   ·intro hC
    obtain ⟨f,hfo,HRF⟩:∃f,fileOf X.m x=some f∧Hid (R=readF X.S f):=by
     have he:=HEX.out
     unfold sizeD at he
     rw[hC] at he
     simp only at he
     cases hf:fileOf X.m x with
     |none=>rw[hf] at he;cases he
     |some f=>exact ⟨f,rfl,Lib.hid (by rw[HR.out,hC];simp only[hf])⟩
    have HFO:=Lib.hid hfo
    obtain ⟨d0,d1,d2,d3,d4,d5⟩:=(HBK.out.alloc (.cells #[.slice none 0 0,.bool false] 126)).six
    obtain ⟨w2,hw2⟩:∃w2,w2=w1.alloc (.cells #[.slice none 0 0,.bool false] 126):=⟨_,rfl⟩
    have hb2:Below w1.heap.size w1 w2:=by rw[hw2];exact (Below.refl _ _).alloc (Nat.le_refl _) _
    have HB2:=Lib.hid (HB1.out.trans (hb2.mono HB1.out.size))
    have HH2:=Lib.hid (HH1.out.past hb2)
    have HM2:=Lib.hid (HM.out.past hb2)
    have HBK2:=Lib.hid (HBK.out.past hb2)
    have HW2:=Lib.hid hw2
    have HN:=Lib.hid HH.out.ok.fit.1.1
    have hn:=files_len HH.out.ok.fit
    have hL:=HM.out.now.len
    have hn':n≤4294967296:=by omega
    clear hC hfo hw2 hb2 HR HEX hn hL p0 p1 p2 p3 p4 p5
    go_wp2_with fail
    rw[←HW2.out]
    refine (mfind_any X.m.version X.m.next A n c X.m x w2 hn' HN.out HM2.out.now).mono ?_
    rintro e w3 ⟨r,bb,rfl,hs,hb3⟩
    obtain ⟨hrf,rfl⟩:X.m.files[r]?=some f∧bb=true:=by
     have h1:=stands_find hs HN.out
     have h2:X.m.files.find? _=some f:=HFO.out
     rw[h2] at h1
     cases bb with
     |true=>exact ⟨h1.symm,rfl⟩
     |false=>cases h1
    have HB3:=Lib.hid (HB2.out.trans (hb3.mono HB2.out.size))
    have HH3:=Lib.hid (HH2.out.past hb3)
    obtain ⟨q0,q1,q2,q3,q4,q5⟩:=(HBK2.out.past hb3).six
    obtain ⟨a,rfl,hab,A2,n2,c2,g0,g1,g2,g3,l2,b2,m2,k2⟩:=(HM2.out.past hb3).now.files.get hrf
    have hrn:(r:Int)<(n:Int):=by have:=(List.getElem?_eq_some_iff.1 hrf).1;have:=HM2.out.now.len;omega
    have hfm:=List.mem_of_getElem? hrf
    have hsm:=size_small HH.out.ok.fit hfm
    have hfw:=blocks_few HH.out.ok.fit hfm
    have HCM:=Lib.hid (committed_any HH3.out f A2 n2 c2 l2 (by omega) k2 (HH.out.ok.wf.files f hfm).id (reads_ok HH.out.ok (HON.out (by trivial)) hfm) hp (by omega))
    rw[←HRF.out] at HCM
    obtain ⟨nm,hnm⟩:∃nm,nm=f.name:=⟨_,rfl⟩
    obtain ⟨id,hid⟩:∃id:Nat,id=f.id:=⟨_,rfl⟩
    obtain ⟨s2,hs2⟩:∃s2,s2=f.size:=⟨_,rfl⟩
    rw[←hnm] at g0 HCM
    rw[←hid] at g1 HCM
    rw[←hs2] at g2 HCM
    clear hs hb3 hnm hid hs2 hsm hfw hfm hrf k2 l2 d0 d1 d2 d3 d4 d5 HW2
    go_wp2_with fail
    refine HCM.out.mono ?_
    rintro e w4 ⟨Y,k,ck,rfl,ho,hb4⟩
    have HO4:=Lib.hid (own_more ho HB3.out.size)
    have HB4:=Lib.hid (HB3.out.trans (hb4.mono HB3.out.size))
    clear ho hb4
    go_wp2
    go_ret2
    exact ⟨Y,k,ck,rfl,HO4.out,HB4.out⟩
   ·intro z A' k' c' hC h1 h2 h3 h4
    obtain ⟨b,rfl⟩:∃b,z=some b:=by
     have he:=HEX.out
     unfold sizeD at he
     rw[hC] at he
     cases z with
     |none=>cases he
     |some b=>exact ⟨b,rfl⟩
    have HRB:=Lib.hid (show R=(b,0) by rw[HR.out,hC])
    have hb20:k'≤1048576:=by rw[←h1];exact HH.out.ok.len x b hC
    obtain ⟨w2,hw2⟩:∃w2,w2=w1.alloc (.cells #[.slice A' k' c',.bool false] 126):=⟨_,rfl⟩
    have hb2:Below w1.heap.size w1 w2:=by rw[hw2];exact (Below.refl _ _).alloc (Nat.le_refl _) _
    have HB2:=Lib.hid (HB1.out.trans (hb2.mono HB1.out.size))
    have HW2:=Lib.hid hw2
    have HCL:=Lib.hid (clone_any A' k' c' b w2 h1 (by omega) (h4.past hb2).now)
    clear hC h1 h4 hw2 hb2 HR HEX p0 p1 p2 p3 p4 p5
    go_wp2_with fail
    rw[←HW2.out]
    refine HCL.out.mono ?_
    intro e w5 h5
    obtain ⟨Y,n5,c5,rfl,hl,-,ho,hr5,hb5⟩:=h5.open
    have HO4:=Lib.hid (own_more ho HB2.out.size)
    have HB4:=Lib.hid (HB2.out.trans (hb5.mono HB2.out.size))
    clear ho hb5 hr5 hl h5
    go_wp2
    go_ret2
    rw[HRB.out]
    exact ⟨Y,n5,c5,rfl,HO4.out,HB4.out⟩
end
end Go.Proofs.YtcdkopbjlakebaaGreatDoor
end
section
namespace Go.Proofs.YtcdkopbjlakebaaGreatDoor
open Go.RowKit Me Mf Rw Ds Go.Maps
section
variable {w w':World} {B P D M N:Nat} {X:Sto} {own ownD T:Nat→Prop}
def sremD (X:Sto) (x:List UInt8):Int:=if upD X then (if (sizeD X x).2 then 0 else 8) else 6
def sappD (X:Sto) (x b:List UInt8):Int×List UInt8:=if upD X then (if allowD true x ((sizeD X x).1+(b.length:Int))≠0 then (allowD true x ((sizeD X x).1+(b.length:Int)),[]) else if (sizeD X x).2 then (if (sreadD X x).2≠0 then ((sreadD X x).2,[]) else (0,(sreadD X x).1++b)) else (0,b)) else (6,[])
theorem size_le (h:OkS X) (x:List UInt8):0≤(sizeD X x).1∧(sizeD X x).1≤1048576:=by
 unfold sizeD
 split
 ·rename_i b hb
  have:=h.len x b hb
  exact ⟨by simp only;omega,by simp only;omega⟩
 ·exact ⟨Int.le_refl _,by simp only;omega⟩
 ·split
  ·rename_i f hf
   have:=size_small h.fit (fileOf_some hf).1
   exact ⟨this.1,by omega⟩
  ·exact ⟨Int.le_refl _,by simp only;omega⟩
def apG (P M n c kA cA:Nat) (A A':Option Addr) (x:List UInt8) (v0:Value):Gw.Fact:=fun t v _=>
 match t with
 |0|43|44=>v=.pointer (some ⟨P,0,none⟩)
 |45=>v=.pointer (some ⟨P,4,none⟩)
 |46=>v=.map (some M)
 |1|47=>v=sv x
 |10|48=>v=v0
 |2|49=>v=.slice A n c
 |50=>v=.slice A' kA cA
 |51=>v=chV A' kA cA false
 |_=>True
end
end Go.Proofs.YtcdkopbjlakebaaGreatDoor
end
