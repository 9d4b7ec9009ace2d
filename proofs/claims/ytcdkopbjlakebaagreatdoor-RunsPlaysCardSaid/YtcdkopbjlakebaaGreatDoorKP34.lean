/- Texts put together, for a law: StCm, StRd, StAp. -/
import Derived.Test.YtcdkopbjlakebaaGreatDoorKP27
import Derived.Test.YtcdkopbjlakebaaGreatDoorKP17
import Derived.Test.YtcdkopbjlakebaaGreatDoorKP14
import Derived.Test.YtcdkopbjlakebaaGreatDoorKP21
import Derived.Test.YtcdkopbjlakebaaGreatDoorKP2
import Derived.Test.YtcdkopbjlakebaaGreatDoorKP8
set_option maxRecDepth 100000
set_option maxHeartbeats 8000000
namespace Go.Proofs.YtcdkopbjlakebaaGreatDoor
section
open Go.RowKit Me Mf Rw Ds Go.Maps
abbrev rg (n:Nat):Cr.Reg:=BitVec.ofNat 32 n
theorem zeP {n:Nat} (h:n<4294967296):((rg n).toNat:Int)=(n:Int):=by
 rw[BitVec.toNat_ofNat,Nat.mod_eq_of_lt (by simpa using h)]
def vR (S:Dsk) (id:Nat) (size:Int):List Int->Nat->List UInt8->List UInt8×Int
 |[],_,acc=>(acc,0)
 |z::l,i,acc=>if (Pg.getP (qV S z) (rg id) (rg i)).2≠0\/((Pg.getP (qV S z) (rg id) (rg i)).1.length:Int)≠min 112 (size-(acc.length:Int)) then ([],5) else vR S id size l (i+1) (acc++(Pg.getP (qV S z) (rg id) (rg i)).1)
def zbi (S:Dsk) (f:zi):List UInt8×Int:=vR S f.id f.size f.blocks 0 []
def zi8 (w:World) (p:List UInt8×Int) (e:Ending) (w':World):Prop:=
 ∃A n c,e=.returned (.tuple #[.slice A n c,.int .i64 p.2])/\w'.ownsRow w.heap.size 5 1 (.slice A n c) n (cellsOf p.1)/\Below w.heap.size w w'
theorem zcu {S:Dsk} (h:Fine S) {z:Int} (hz:qf S z=0):(qV S z).length=128:=by
 unfold qV;rw[if_pos hz];unfold qf at hz
 split at hz
 ·split at hz
  ·rename_i hb
   obtain ⟨k,rfl,hk⟩:=Zo hb;rw[Int.toNat_natCast];exact Zb h hk
  ·cases hz
 ·cases hz
section
variable {w w':World} {B P D M N:Nat} {X:Sto} {own ownD T:Nat->Prop}
theorem zbG (h:zo w B P D M N X own ownD) (f:zi) (A:Option Addr) (n c:Nat) (hl:f.blocks.length=n) (hn:n<=65536) (hcs:Cs w w.heap.size A (zL f.blocks)) (hid:f.id<4294967296)
 (hok:∀z∈f.blocks,qf X.S z=0) (hp:X.S.pend.length<4611686018427387904) (hs:-4611686018427387904<=f.size/\f.size<=4611686018427387904) :
 Calls Tryz.prog 113 #[.pointer (some ⟨P,0,none⟩),.agg #[sv f.name,.int .u32 (f.id:Int),.int .i64 f.size,.slice A n c]] w (zi8 w (zbi X.S f)):=by
 obtain ⟨i0,hi0,hz0,hz1,hz2⟩:=info_parts yO;obtain ⟨A0,n0,c0',hbk,-⟩:=h.blk;obtain ⟨H,hH⟩:∃H,H=w.heap.size:=⟨_,rfl⟩
 obtain ⟨nm,hnm⟩:∃nm,nm=f.name:=⟨_,rfl⟩
 obtain ⟨id,hid'⟩:∃id,id=f.id:=⟨_,rfl⟩
 obtain ⟨sz,hsz⟩:∃sz,sz=f.size:=⟨_,rfl⟩
 obtain ⟨bl,hbl⟩:∃bl,bl=f.blocks:=⟨_,rfl⟩
 obtain ⟨R,hR⟩:∃R,R=zbi X.S f:=⟨_,rfl⟩
 have HR:=gI (show R=vR X.S id sz bl 0 [] by rw[hR,hid',hsz,hbl];rfl);rw[<-hnm,<-hid',<-hsz,<-hR];rw[<-hsz] at hs;rw[<-hid'] at hid;rw[<-hbl] at hl hcs hok;obtain ⟨wb,hwb⟩:∃wb,wb=w.alloc (fbox nm id sz A n c):=⟨_,rfl⟩
 have hbb:Below w.heap.size w wb:=by rw[hwb];exact (Below.refl _ _).alloc (Nat.le_refl _) _
 have BX:=gI (show Blk wb H [sv nm,.int .u32 (id:Int),.int .i64 sz,.slice A n c] by rw[hwb,hH];exact Blk.new w [sv nm,.int .u32 (id:Int),.int .i64 sz,.slice A n c] _);have HWB:=gI hwb;have HB:=gI hbb;have HBK:=gI hbk;have HD:=gI h.disk;have HG:=gI h.disk.good;have HCS:=gI hcs;have HL:=gI hl;have HOK:=gI hok;have HHW:=gI hH;obtain ⟨g0,g1,g2,g3⟩:=BX.out.four;rw[hwb] at g0 g1 g2 g3;have hsb:wb.heap.size=H+1:=by rw[hwb,hH];simp
 have HSB:=gI hsb;clear hnm hid' hsz hbl hR hwb hbb hbk h hcs hl hok hH hsb
 go_enter Tryz.func113,Tryz.ntmps113
 go_wp2_with fail
 rw[<-HWB.out,<-HHW.out];clear HWB g0 g1 g2 g3
 go_loopw [15,6] (fun i v wr=>∃(j t:Nat) (acc:List UInt8),i=.int .i64 (j:Int)/\j<=n/\t<=112*j/\Hid (acc.length=t)/\Hid (R=vR X.S id sz (bl.drop j) j acc)/\Hid (wr.ownsRow (H+1) 5 1 v t (cellsOf acc))/\Hid (Below (H+1) wb wr)) (fun i _ _=>n-(intOf i).toNat)
 case atStart=>exact ⟨0,0,[],rfl,Nat.zero_le _,by omega,gI rfl,HR,gI (World.ownsRow_nil _ _ _ _),gI (Below.refl _ _)⟩
 case round=>
  obtain ⟨j,t,acc,rfl,hjn,ht,HT,HRR,HO,HBr⟩:=hrel;have hww:=HB.out.trans (HBr.out.mono (by have:=HHW.out;omega));obtain ⟨g0,g1,g2,g3⟩:=(BX.out.keep (w':=wr) (HBr.out.block H (by omega))).four;obtain ⟨p0,p1,p2,p3,p4,p5⟩:=(HBK.out.past hww).six;obtain ⟨V,cv,rfl⟩:=zJ HO.out
  by_cases hlt:j<n
  ·have hj:j<bl.length:=by rw[HL.out];exact hlt
   obtain ⟨z,hz⟩:∃z,bl[j]?=some z:=⟨_,List.getElem?_eq_getElem hj⟩
   obtain ⟨a,rfl,hab,hc⟩:=(HCS.out.below hww) (by rw[zV];omega);have hcz:=hc j (.int .i64 z) (Yz hz);have HE:=gI (show qf X.S z=0 from HOK.out z (List.mem_of_getElem? hz));have HLK:=gI (zcu HG.out HE.out);have HRD:=gI (zeR (HD.out.past hww) z hp);have HST:=gI (show bl.drop j=z::bl.drop (j+1) by rw[List.drop_eq_getElem_cons hj];rw[List.getElem?_eq_getElem hj] at hz;injection hz with hz;rw[hz]);have HWW:=gI hww;have e1:IntKind.u32.wrap (j:Int)=(j:Int):=by rw[IntKind.wrap_u32];omega
   have hlt':(j:Int)<(n:Int):=by omega
   clear hc hz hj hww
   go_wp2_with fail
   rw[HE.out] at HRD;refine HRD.out.mono ?_;rintro e w1 ⟨hb1,A1,n1,rfl,hl1,hr1⟩;have hn1:n1=128:=by rw[<-hl1];exact HLK.out
   subst hn1;obtain ⟨b1,rfl,-,hbk1⟩:=hr1 (by omega);obtain ⟨kk,hkk⟩:∃kk,kk=qV X.S z:=⟨_,rfl⟩
   rw[<-hkk] at hl1 hbk1;have HKK:=gI hkk;have HRK:=gI (show Rd w1 w1.heap.size (some ⟨b1,0,none⟩) kk from fun _=>⟨_,rfl,hbk1.lt,fun i u hu=>by
    have e:(⟨b1,0,none⟩:Addr).add i=⟨b1,i,none⟩:=by rw[Addr.add_mid,Nat.zero_add]
    rw[e];exact hbk1.cell (by simp[cellsOf,hu])⟩)
   have HL1:=gI hl1;have HB1:=gI (HBr.out.trans (hb1.mono (by have:=HBr.out.size;have:=HSB.out;omega)));have HO1:=gI (own_below HO.out hb1);obtain ⟨g0,g1,g2,g3⟩:=(BX.out.keep (w':=w1) (HB1.out.block H (by omega))).four;have HPG:=gI (zjK (rg id) (rg j) (some ⟨b1,0,none⟩) 128 128 kk w1 HL1.out (Nat.le_refl _) HRK.out);rw[zeP hid,zeP (by omega)] at HPG;obtain ⟨pt,hpt⟩:∃pt,pt=(Pg.getP kk (rg id) (rg j)).1:=⟨_,rfl⟩
   obtain ⟨er,her⟩:∃er,er=(Pg.getP kk (rg id) (rg j)).2:=⟨_,rfl⟩
   have HPL:=gI (show pt.length<=112 by rw[hpt];exact Pg.zlS _ _ _);have HNX:=gI (show R=if er≠0\/(pt.length:Int)≠min 112 (sz-(acc.length:Int)) then ([],5) else vR X.S id sz (bl.drop (j+1)) (j+1) (acc++pt) by rw[HRR.out,HST.out,vR,<-HKK.out,hpt,her]);rw[<-hpt,<-her] at HPG;have hs1:wb.heap.size<=w1.heap.size:=HB1.out.size;clear hb1 hl1 hbk1 hkk hpt her HRR HST HKK HRD p0 p1 p2 p3 p4 p5 hcz
   go_wp2_with fail
   refine HPG.out.mono ?_;rintro e w2 ⟨hb2,Y,k,ck,rfl,hk,-,hrk,-⟩;have HB2:=gI (HB1.out.trans (hb2.mono (by have:=HSB.out;omega)));have HO2:=gI (own_below HO1.out hb2);have HRK2:=gI hrk;obtain ⟨g0,g1,g2,g3⟩:=(BX.out.keep (w':=w2) (HB2.out.block H (by omega))).four;have hk112:k<=112:=by rw[<-hk];exact HPL.out
   rw[hk,HT.out] at HNX;have HKL:=gI hk;have HBW:=gI (HB.out.trans (HB2.out.mono (by have:=HHW.out;omega)));clear hb2 hrk hk HPG HRK HO1 HO HB1 HBr HWW HPL
   by_cases he:er=0
   ·subst he;obtain ⟨y,hy⟩:∃y,y=sz-(t:Int):=⟨_,rfl⟩
    have e2:IntKind.i64.wrap (sz-(t:Int))=y:=by rw[hy];exact IntWalk.i64_in _ (by omega)
    obtain ⟨q,hq⟩:∃q,q=min 112 y:=⟨_,rfl⟩
    rw[<-hy,<-hq] at HNX;have HY:=gI hy;have hway:(y<112/\Hid (q=y))\/(¬y<112/\Hid (q=112)):=by
     by_cases h:y<112
     ·exact .inl ⟨h,gI (by omega)⟩
     ·exact .inr ⟨h,gI (by omega)⟩
    clear hy hq
    by_cases hkq:(k:Int)=q
    ·have HN2:=gI (show R=vR X.S id sz (bl.drop (j+1)) (j+1) (acc++pt) by rw[HNX.out,if_neg (fun h=>h.elim (fun h=>h rfl) (fun h=>h hkq))]);clear HNX;rcases hway with ⟨hy1,HQ⟩|⟨hy1,HQ⟩
     all_goals
      have hkq':=HQ.out;rw[<-hkq] at hkq'
      go_wp2_with (at_builtin
                   refine zF rfl (.tmp 54) (.tmp 55) 24 rfl (H+1) 5 i0 _ Tryz.underlying24 hi0 hz0 hz1 hz2 rfl (.slice V t cv) t acc rfl HO2.out w2.heap.size Y k ck pt rfl HKL.out HRK2.out (by omega) (by have:=HB2.out.size;have:=HSB.out;omega) ?_;intro v3 w3 hown3 hg3 _;have HO3:=gI hown3;have HG3:=gI hg3;clear hown3 hg3)
      have HB3:=gI (HB2.out.trans (zgG (Below.refl (H+1) _) HO2.out (Nat.le_refl _) (by have:=HB2.out.size;have:=HSB.out;omega) HG3.out));have HT3:=gI (show (acc++pt).length=t+k by rw[List.length_append,HT.out,HKL.out])
      go_wp2
      go_roundw
      case rel=>exact ⟨j+1,t+k,acc++pt,by go_num,by omega,by omega,HT3,HN2,HO3,HB3⟩
      case measure=>simp[intOf];omega
    ·have HN2:=gI (show R=([],5) by rw[HNX.out,if_pos (.inr hkq)]);clear HNX;rcases hway with ⟨hy1,HQ⟩|⟨hy1,HQ⟩
     all_goals
      have hkq':=hkq;rw[HQ.out] at hkq'
      go_wp2
      go_ret2
      rw[HN2.out];exact ⟨none,0,0,rfl,World.ownsRow_nil _ _ _ _,HBW.out⟩
   ·have d1:(er != 0)=true:=by rw[bne_iff_ne];exact he
    have HN2:=gI (show R=([],5) by rw[HNX.out,if_pos (.inl he)]);clear HNX
    go_wp2
    go_ret2
    rw[HN2.out];exact ⟨none,0,0,rfl,World.ownsRow_nil _ _ _ _,HBW.out⟩
  ·have hjn':j=n:=by omega
   subst hjn';have hr:=HRR.out;rw[List.drop_of_length_le (by rw[HL.out];exact Nat.le_refl _),vR] at hr;have HR2:=gI hr;have HWW:=gI hww;clear hr hww
   go_wp2
   go_ret2
   rw[HR2.out];exact ⟨V,t,cv,rfl,zU HO.out (by have:=HHW.out;omega),HWW.out⟩
end
end
section
open Go.RowKit Me Mf Rw Ds Go.Maps
def xS (X:Sto) (x:List UInt8):List UInt8×Int:=if upD X then match X.C x with
 |some (some b)=>(b,0)
 |some none=>([],8)
 |none=>match fileOf X.m x with
  |some f=>zbi X.S f
  |none=>([],8) else ([],6)
section
variable {w w':World} {B P D M N:Nat} {X:Sto} {own ownD T:Nat->Prop}
theorem zjB (h:OkS X) (hup:X.S.on=true) {f:zi} (hf:f∈X.m.files):∀z∈f.blocks,qf X.S z=0:=fun z hz=>by
 obtain ⟨h1,-⟩:=(h.fit.1.2.2.1 f hf).2.2 z hz;have h2:=h.disk z (by unfold zh;exact List.mem_flatMap.2 ⟨f,hf,hz⟩);obtain ⟨k,rfl⟩:∃k:Nat,z=(k:Int):=⟨z.toNat,by omega⟩
 unfold qf;rw[hup,if_pos rfl,ZM,decide_eq_true (by omega),if_pos rfl]
theorem zmB (h:upD X=true):X.S.on=true/\X.broken=false:=by
 unfold upD at h;simp at h;exact ⟨h.2,h.1⟩
theorem VN:∀{l:List zi} {f:zi},f∈l->f.blocks.length<=zK l
 |g::l,f,h=>by
  unfold zK zh;rw[List.flatMap_cons,List.length_append];rcases List.mem_cons.1 h with rfl|h
  ·omega
  ·have:=VN h;unfold zK zh at this;omega
theorem Qc {m:ManD} (h:Fit m) {f:zi} (hf:f∈m.files):f.blocks.length<=2035:=by
 have h1:=y9 m;have h2:=yI m.files;have h3:=ZR m.files;have h4:=VN hf;have h5:=h.2;omega
theorem zak {m:ManD} (h:Fit m) {f:zi} (hf:f∈m.files):0<=f.size/\f.size<=300000:=by
 obtain ⟨h1,h2,-⟩:=h.1.2.2.1 f hf;have h3:=Qc h hf;refine ⟨h1,?_⟩;unfold qX at h2
 split at h2<;>omega
theorem zhf (h:zo w B P D M N X own ownD) (x:List UInt8) (hx:x.length<=1000) (hp:X.S.pend.length<4611686018427387904) :
 Calls Tryz.prog 73 #[.pointer (some ⟨P,0,none⟩),sv x] w (zi8 w (xS X x)):=by
 have HU:=gI (zeC h);obtain ⟨R,hR⟩:∃R,R=xS X x:=⟨_,rfl⟩
 rw[<-hR];obtain ⟨u,hu⟩:∃u,u=upD X:=⟨_,rfl⟩
 rw[<-hu] at HU;unfold xS at hR;rw[<-hu] at hR;have HH:=gI h;have HON:=gI (fun e:u=true=>(zmB (X:=X) (by rw[<-hu];exact e)).1);clear h hu
 cases u with
 |false=>
  rw[if_neg (by decide)] at hR;have HR:=gI hR;clear hR
  go_enter Tryz.func73,Tryz.ntmps73
  go_wp2_with (go_at_call 62;refine HU.out.mono ?_;rintro e w' ⟨rfl,rfl⟩)
  go_ret2
  rw[HR.out];exact ⟨none,0,0,rfl,World.ownsRow_nil _ _ _ _,Below.refl _ _⟩
 |true=>
  rw[if_pos rfl] at hR;have HR:=gI hR;have HSZ:=gI (zeM HH.out x hx);have HX:=gI (show x.length<=maxLen by unfold maxLen;omega);obtain ⟨sz,hsz⟩:∃sz,sz=(qU X x).1:=⟨_,rfl⟩
  obtain ⟨ex,hex⟩:∃ex,ex=(qU X x).2:=⟨_,rfl⟩
  rw[<-hsz,<-hex] at HSZ;have HEX:=gI hex;clear hR hsz hex
  cases ex with
  |false=>
   have HR2:=gI (show R=([],8) by
    rw[HR.out];have he:=HEX.out;unfold qU at he
    cases hC:X.C x with
    |some z=>
     rw[hC] at he
     cases z with
     |none=>rfl
     |some b=>cases he
    |none=>
     rw[hC] at he;simp only at he ⊢
     cases hf:fileOf X.m x with
     |none=>rfl
     |some f=>rw[hf] at he;cases he)
   clear HR HEX
   go_enter Tryz.func73,Tryz.ntmps73
   go_wp2_with (first|(go_at_call 62;refine HU.out.mono ?_;rintro e w' ⟨rfl,rfl⟩)|(go_at_call 81;refine HSZ.out.mono ?_;rintro e w1 ⟨rfl,hb1⟩;have HB1:=gI hb1;clear hb1))
   go_ret2
   rw[HR2.out];exact ⟨none,0,0,rfl,World.ownsRow_nil _ _ _ _,HB1.out⟩
  |true=>
   go_enter Tryz.func73,Tryz.ntmps73
   go_wp2_with (go_at_call 62;refine HU.out.mono ?_;rintro e w' ⟨rfl,rfl⟩)
   refine HSZ.out.mono ?_;rintro e w1 ⟨rfl,hb1⟩;have HB1:=gI hb1;have HH1:=gI (HH.out.past hb1);clear hb1;obtain ⟨A,n,c,hbk,hm⟩:=HH1.out.blk;have HBK:=gI hbk;have HM:=gI hm;obtain ⟨p0,p1,p2,p3,p4,p5⟩:=hbk.six;obtain ⟨DD,hc⟩:=HH1.out.chs;have HC:=gI hc;clear hc hbk hm
   go_wp2_with (at_lookup;refine qb HC.out rfl _ _ rfl rfl x rfl HX.out ?_ ?_)
   ·intro hC;obtain ⟨f,hfo,HRF⟩:∃f,fileOf X.m x=some f/\Hid (R=zbi X.S f):=by
     have he:=HEX.out;unfold qU at he;rw[hC] at he;simp only at he
     cases hf:fileOf X.m x with
     |none=>rw[hf] at he;cases he
     |some f=>exact ⟨f,rfl,gI (by rw[HR.out,hC];simp only[hf])⟩
    have HFO:=gI hfo;obtain ⟨d0,d1,d2,d3,d4,d5⟩:=(HBK.out.alloc (.cells #[.slice none 0 0,.bool false] 126)).six;obtain ⟨w2,hw2⟩:∃w2,w2=w1.alloc (.cells #[.slice none 0 0,.bool false] 126):=⟨_,rfl⟩
    have hb2:Below w1.heap.size w1 w2:=by rw[hw2];exact (Below.refl _ _).alloc (Nat.le_refl _) _
    have HB2:=gI (HB1.out.trans (hb2.mono HB1.out.size));have HH2:=gI (HH1.out.past hb2);have HM2:=gI (HM.out.past hb2);have HBK2:=gI (HBK.out.past hb2);have HW2:=gI hw2;have HN:=gI HH.out.ok.fit.1.1;have hn:=Xr HH.out.ok.fit;have hL:=HM.out.now.len;have hn':n<=4294967296:=by omega
    clear hC hfo hw2 hb2 HR HEX hn hL p0 p1 p2 p3 p4 p5
    go_wp2_with fail
    rw[<-HW2.out];refine (Vo X.m.version X.m.next A n c X.m x w2 hn' HN.out HM2.out.now).mono ?_;rintro e w3 ⟨r,bb,rfl,hs,hb3⟩;obtain ⟨hrf,rfl⟩:X.m.files[r]?=some f/\bb=true:=by
     have h1:=YO hs HN.out;have h2:X.m.files.find? _=some f:=HFO.out;rw[h2] at h1
     cases bb with
     |true=>exact ⟨h1.symm,rfl⟩
     |false=>cases h1
    have HB3:=gI (HB2.out.trans (hb3.mono HB2.out.size));have HH3:=gI (HH2.out.past hb3);obtain ⟨q0,q1,q2,q3,q4,q5⟩:=(HBK2.out.past hb3).six;obtain ⟨a,rfl,hab,A2,n2,c2,g0,g1,g2,g3,l2,b2,m2,k2⟩:=(HM2.out.past hb3).now.files.get hrf;have hrn:(r:Int)<(n:Int):=by have:=(List.getElem?_eq_some_iff.1 hrf).1;have:=HM2.out.now.len;omega
    have hfm:=List.mem_of_getElem? hrf;have hsm:=zak HH.out.ok.fit hfm;have hfw:=Qc HH.out.ok.fit hfm;have HCM:=gI (zbG HH3.out f A2 n2 c2 l2 (by omega) k2 (HH.out.ok.wf.files f hfm).id (zjB HH.out.ok (HON.out (by trivial)) hfm) hp (by omega));rw[<-HRF.out] at HCM;obtain ⟨nm,hnm⟩:∃nm,nm=f.name:=⟨_,rfl⟩
    obtain ⟨id,hid⟩:∃id:Nat,id=f.id:=⟨_,rfl⟩
    obtain ⟨s2,hs2⟩:∃s2,s2=f.size:=⟨_,rfl⟩
    rw[<-hnm] at g0 HCM;rw[<-hid] at g1 HCM;rw[<-hs2] at g2 HCM;clear hs hb3 hnm hid hs2 hsm hfw hfm hrf k2 l2 d0 d1 d2 d3 d4 d5 HW2
    go_wp2_with fail
    refine HCM.out.mono ?_;rintro e w4 ⟨Y,k,ck,rfl,ho,hb4⟩;have HO4:=gI (zU ho HB3.out.size);have HB4:=gI (HB3.out.trans (hb4.mono HB3.out.size));clear ho hb4
    go_wp2
    go_ret2
    exact ⟨Y,k,ck,rfl,HO4.out,HB4.out⟩
   ·intro z A' k' c' hC h1 h2 h3 h4;obtain ⟨b,rfl⟩:∃b,z=some b:=by
     have he:=HEX.out;unfold qU at he;rw[hC] at he
     cases z with
     |none=>cases he
     |some b=>exact ⟨b,rfl⟩
    have HRB:=gI (show R=(b,0) by rw[HR.out,hC]);have hb20:k'<=1048576:=by rw[<-h1];exact HH.out.ok.len x b hC
    obtain ⟨w2,hw2⟩:∃w2,w2=w1.alloc (.cells #[.slice A' k' c',.bool false] 126):=⟨_,rfl⟩
    have hb2:Below w1.heap.size w1 w2:=by rw[hw2];exact (Below.refl _ _).alloc (Nat.le_refl _) _
    have HB2:=gI (HB1.out.trans (hb2.mono HB1.out.size));have HW2:=gI hw2;have HCL:=gI (xV A' k' c' b w2 h1 (by omega) (h4.past hb2).now);clear hC h1 h4 hw2 hb2 HR HEX p0 p1 p2 p3 p4 p5
    go_wp2_with fail
    rw[<-HW2.out];refine HCL.out.mono ?_;intro e w5 h5;obtain ⟨Y,n5,c5,rfl,hl,-,ho,hr5,hb5⟩:=h5.open;have HO4:=gI (zU ho HB2.out.size);have HB4:=gI (HB2.out.trans (hb5.mono HB2.out.size));clear ho hb5 hr5 hl h5
    go_wp2
    go_ret2
    rw[HRB.out];exact ⟨Y,n5,c5,rfl,HO4.out,HB4.out⟩
end
end
section
open Go.RowKit Me Mf Rw Ds Go.Maps
section
variable {w w':World} {B P D M N:Nat} {X:Sto} {own ownD T:Nat->Prop}
theorem zjq (h:OkS X) {x:List UInt8} (hs:(qU X x).2=true):1<=x.length/\x.length<=32:=by
 unfold qU at hs
 cases hC:X.C x with
 |some z=>exact h.keys x (by rw[hC];simp)
 |none=>
  rw[hC] at hs;simp only at hs
  cases hf:fileOf X.m x with
  |none=>rw[hf] at hs;cases hs
  |some f=>
   obtain ⟨h1,h2⟩:=xK hf;have:=h.fit.1.1.1 f h1
   rwa[h2] at this
def zb3 (X:Sto) (x:List UInt8):Int:=if upD X then (if (qU X x).2 then 0 else 8) else 6
theorem zdJ (h:zo w B P D M N X own ownD) (x:List UInt8) (hx:x.length<=1000) (hN:N<maxLen) :
 Calls Tryz.prog 49 #[.pointer (some ⟨P,0,none⟩),sv x] w (zdx w B P D M N X own ownD (zb3 X x) (setC X.C x none)):=by
 have HU:=gI (zeC h);have HSZ:=gI (zeM h x hx);obtain ⟨r,hr⟩:∃r,r=zb3 X x:=⟨_,rfl⟩
 rw[<-hr];unfold zb3 at hr;obtain ⟨u,hu⟩:∃u,u=upD X:=⟨_,rfl⟩
 obtain ⟨ex,hex⟩:∃ex,ex=(qU X x).2:=⟨_,rfl⟩
 rw[<-hu] at HU;rw[<-hu,<-hex] at hr;rw[<-hex] at HSZ;obtain ⟨sz,hsz⟩:∃sz,sz=(qU X x).1:=⟨_,rfl⟩
 rw[<-hsz] at HSZ;have HK:=gI (fun e:ex=true=>zjq h.ok (x:=x) (by rw[<-hex];exact e));have HH:=gI h;have HR:=gI hr;clear h hr hu hex hsz
 cases u with
 |false=>
  have HR2:=gI (show r=6 by rw[HR.out];rfl);clear HR
  go_enter Tryz.func49,Tryz.ntmps49
  go_wp2_with (go_at_call 62;refine HU.out.mono ?_;rintro e w' ⟨rfl,rfl⟩)
  go_ret
  exact ⟨qK HR2.out.symm,.inl ⟨by rw[HR2.out];decide,HH.out,Out.refl _ _⟩⟩
 |true=>
  cases ex with
  |false=>
   have HR2:=gI (show r=8 by rw[HR.out];rfl);clear HR
   go_enter Tryz.func49,Tryz.ntmps49
   go_wp2_with (first|(go_at_call 62;refine HU.out.mono ?_;rintro e w' ⟨rfl,rfl⟩)|(go_at_call 81;refine HSZ.out.mono ?_;rintro e w1 ⟨rfl,hb1⟩;have HB1:=gI hb1;clear hb1))
   go_ret
   exact ⟨qK HR2.out.symm,.inl ⟨by rw[HR2.out];decide,HH.out.past HB1.out,Out.of_below HB1.out⟩⟩
  |true=>
   have HR2:=gI (show r=0 by rw[HR.out];rfl);clear HR
   go_enter Tryz.func49,Tryz.ntmps49
   go_wp2_with (go_at_call 62;refine HU.out.mono ?_;rintro e w' ⟨rfl,rfl⟩)
   refine HSZ.out.mono ?_;rintro e w1 ⟨rfl,hb1⟩;have HB1:=gI hb1;have HH1:=gI (HH.out.past hb1);obtain ⟨A,n,c,hbk,hm⟩:=HH1.out.blk;obtain ⟨p0,p1,p2,p3,p4,p5⟩:=hbk.six;obtain ⟨DD,hc⟩:=HH1.out.chs;have HC:=gI hc;have HX:=gI (zaH (x:=x) (by unfold maxLen;omega));clear hc hbk hm hb1
   go_wp2_with (at_mapUpdate;refine wpList_mapUpdate_own _ rfl _ _ _ 113 rfl 9 126 vJ Tryz.underlying113 chE M N DD rfl HC.out.map hN _ _ (Key x) rfl rfl HX.out (.held (chV none 0 0 true)) [] (zfB _ _ _ _) ?_;intro w2 hw2 hg2;have HW2:=gI hw2;have HG2:=gI hg2;clear hw2 hg2)
   go_ret
   have hput:=HC.out.put (z:=none) (HH.out.own M (.inr (.inl rfl))) HW2.out HG2.out (A:=none) (k:=0) (c:=0) rfl (Nat.le_refl _) (by omega) (fun W _=>fun hn=>by simp at hn);have hnew:=HH1.out.changed HG2.out hput (QI HH.out.ok.keys (HK.out (by trivial))) (za7 HH.out.ok.len fun b e=>by cases e);exact ⟨qK HR2.out.symm,.inr ⟨HR2.out,hnew,(Out.of_below HB1.out).trans (HH1.out.map_out HG2.out)⟩⟩
theorem Xg {S:Dsk} {id:Nat} {size:Int}:∀(l:List Int) (i:Nat) (acc o:List UInt8),vR S id size l i acc=(o,0)->0<=size->qX size=((i+l.length:Nat):Int)->(acc.length:Int)=min (112*(i:Int)) size->(o.length:Int)=size
 |[],i,acc,o,h,h0,hm,ha=>by
  rw[vR] at h;injection h with h _;rw[<-h,ha];unfold qX at hm;simp only[List.length_nil,Nat.add_zero] at hm
  split at hm<;>omega
 |z::l,i,acc,o,h,h0,hm,ha=>by
  rw[vR] at h
  split at h
  ·cases h
  ·rename_i hn
   have hn2:((Pg.getP (qV S z) (rg id) (rg i)).1.length:Int)=min 112 (size-(acc.length:Int)):=by
    by_cases e:((Pg.getP (qV S z) (rg id) (rg i)).1.length:Int)=min 112 (size-(acc.length:Int))
    ·exact e
    ·exact absurd (.inr e) hn
   refine Xg l (i+1) _ o h h0 (by rw[hm,List.length_cons];congr 1;omega) ?_;rw[List.length_append,Int.natCast_add,hn2,ha];unfold qX at hm;rw[List.length_cons] at hm
   split at hm<;>omega
theorem zct {S:Dsk} {f:zi} (hb:zkT f) (h:(zbi S f).2=0):((zbi S f).1.length:Int)=f.size:=by
 refine Xg (S:=S) (id:=f.id) f.blocks 0 [] _ (Prod.ext rfl h) hb.1 (by rw[hb.2.1,Nat.zero_add]) ?_;have:=hb.1
 simp
 omega
theorem zb4 (h:OkS X) {x:List UInt8} (h0:(xS X x).2=0):((xS X x).1.length:Int)=(qU X x).1:=by
 unfold xS at h0 ⊢;unfold qU
 cases hu:upD X with
 |false=>rw[hu,if_neg (by decide)] at h0;cases h0
 |true=>
  rw[hu,if_pos rfl] at h0;rw[if_pos rfl]
  cases hC:X.C x with
  |some z=>
   rw[hC] at h0
   cases z with
   |none=>cases h0
   |some b=>rfl
  |none=>
   rw[hC] at h0;simp only at h0 ⊢
   cases hf:fileOf X.m x with
   |none=>rw[hf] at h0;cases h0
   |some f=>
    rw[hf] at h0;exact zct (h.fit.1.2.2.1 f (xK hf).1) h0
theorem size_le (h:OkS X) (x:List UInt8):0<=(qU X x).1/\(qU X x).1<=1048576:=by
 unfold qU
 split
 ·rename_i b hb
  have:=h.len x b hb;exact ⟨by simp only;omega,by simp only;omega⟩
 ·exact ⟨Int.le_refl _,by simp only;omega⟩
 ·split
  ·rename_i f hf
   have:=zak h.fit (xK hf).1;exact ⟨this.1,by omega⟩
  ·exact ⟨Int.le_refl _,by simp only;omega⟩
end
end
end Go.Proofs.YtcdkopbjlakebaaGreatDoor
