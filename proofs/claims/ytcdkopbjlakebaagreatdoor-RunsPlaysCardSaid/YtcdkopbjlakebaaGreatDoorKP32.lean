/- Texts put together, for a law: MRead, MRd. -/
import Derived.Test.YtcdkopbjlakebaaGreatDoorKP18
import Derived.Test.YtcdkopbjlakebaaGreatDoorKP20
import Derived.Test.YtcdkopbjlakebaaGreatDoorKP25
set_option maxRecDepth 100000
set_option maxHeartbeats 8000000
namespace Go.Proofs.YtcdkopbjlakebaaGreatDoor
section
open Go.RowKit Me Mf Rw Ds
theorem zeV {w w':World} {b:Nat} {v x:Int} {A L:Option Addr} {n c:Nat} {l:List UInt8} (h:Rd w w.heap.size L l) (hb:Blk w b [.int .u64 v,.int .u32 x,.slice A n c]) (ho:Out (fun k=>k=b) w w'):Rd w' w'.heap.size L l:=fun hn=>by
 obtain ⟨a,e,h1,hc⟩:=h hn;refine ⟨a,e,Nat.lt_of_lt_of_le h1 ho.size,fun i u hu=>?_⟩;have hc':=hc i u hu;exact (ho.cell (by rw[block_add];exact h1) (hb.ne hc' (by simp))).trans hc'
def ansD (S:Dsk) (T:Nat->Option ManD) (Z:Nat->Bool):ManD×Int:=
 if S.stored.length<=32 then (ql,1) else if S.on then zkJ (Z4 T 2) (QF Z 2) else (ql,6)
theorem zjD {S:Dsk} (h:Fine S) (i:Int):(qV S i).length<=128:=by
 unfold qV
 split
 ·rename_i he
  unfold qf at he
  split at he
  ·split at he
   ·rename_i hb
    obtain ⟨k,rfl,hk⟩:=Zo hb;rw[Int.toNat_natCast,Zb h hk];exact Nat.le_refl _
   ·cases he
  ·cases he
 ·exact Nat.zero_le _
theorem zd4 {w:World} {B D:Nat} {S:Dsk} {own:Nat->Prop} (h:zQ w B D S own) (hs:S.stored.length<=32):Calls Tryz.prog 53 #[.pointer (some ⟨D,0,none⟩)] w (zbQ w (ql,1)):=by
 obtain ⟨w1,hw1⟩:∃w1,w1=w.alloc (.cells #[.int .u64 0,.int .u32 0,.slice none 0 0] 110):=⟨_,rfl⟩
 have HW1:=gI hw1;have HB:=gI (show Below w.heap.size w w1 by rw[hw1];exact (Below.refl _ _).alloc (Nat.le_refl _) _);have HX:=gI (show Blk w1 w.heap.size [.int .u64 0,.int .u32 0,.slice none 0 0] by rw[hw1];exact Blk.new w [.int .u64 0,.int .u32 0,.slice none 0 0] _);have HC:=gI (Xy (h.past HB.out));obtain ⟨n,hn⟩:∃n,n=S.stored.length:=⟨_,rfl⟩
 rw[<-hn] at HC hs;clear hw1 h hn
 go_enter Tryz.func53,Tryz.ntmps53
 go_wp2_with fail
 rw[<-HW1.out];refine HC.out.mono ?_;rintro e w' ⟨rfl,rfl⟩;clear HW1
 go_wp2_with (refine ze rfl 110 _ _ rfl w.heap.size _ #[.int .u64 0,.int .u32 0,.slice none 0 0] rfl rfl HX.out rfl zP (yt _ _ _ _ _) ?_
              intro w7 hb7 ho7;have HB7:=gI (show Blk w7 w.heap.size [.int .u64 0,.int .u32 0,.slice none 0 0] from hb7);have HO7:=gI ho7;clear hb7 ho7)
 have r0:=HB7.out.cell (i:=0) rfl;have r1:=HB7.out.cell (i:=1) rfl;have r2:=HB7.out.cell (i:=2) rfl;refine bodyPost_ret (v:=.tuple #[mval 0 0 none 0 0,.int .i64 1]) (by simp[results,Tryz.results53,go_sem,r0,r1,r2,mval]) rfl ?_;exact ⟨HB.out.trans (HO7.out.below (B:=w.heap.size) (fun k _ hk=>by omega) HB.out.size),none,0,0,rfl,ManK.none _ _⟩
theorem zhV {w:World} {B D:Nat} {S:Dsk} {own:Nat->Prop} {T:Nat->Option ManD} {Z:Nat->Bool} (h:zQ w B D S own) (hp:S.pend.length<4611686018427387904) (hs:32<S.stored.length)
 (hT:∀k,k<2->Says (qJ S k 16) (T k)) (hZ:∀k,k<2->Z k=zeros (qJ S k 16)) :
 Calls Tryz.prog 53 #[.pointer (some ⟨D,0,none⟩)] w (zbQ w (ansD S T Z)):=by
 obtain ⟨H,hH⟩:∃H,H=w.heap.size:=⟨_,rfl⟩
 obtain ⟨x,hx⟩:∃x:Int,x=if S.on then 0 else 6:=⟨_,rfl⟩
 have HE:=gI (show ∀n,n<=1->∀i,i<16->qf S ((16*n+i:Nat):Int)=x from fun n hn i hi=>by
  unfold qf;rw[ZM,decide_eq_true (by omega),hx]
  rfl)
 have HAN:=gI (show ansD S T Z=if x=0 then zkJ (Z4 T 2) (QF Z 2) else (ql,x) by
  unfold ansD;rw[if_neg (by omega),hx]
  cases S.on<;>rfl)
 have HLE:=gI (zjD h.good);have HT:=gI hT;have HZ:=gI hZ;obtain ⟨P,hP⟩:∃P,P=ansD S T Z:=⟨_,rfl⟩
 rw[<-hP] at HAN ⊢;obtain ⟨w0,hw0⟩:∃w0,w0=w.alloc (.cells #[.int .u64 0,.int .u32 0,.slice none 0 0] 110):=⟨_,rfl⟩
 obtain ⟨wz,hwz⟩:∃wz,wz=w0.alloc (.cells #[.int .u64 0,.int .u32 0,.slice none 0 0] 110):=⟨_,rfl⟩
 have HW0:=gI hw0;have HWZ:=gI hwz;have hb0:Below w.heap.size w w0:=by rw[hw0];exact (Below.refl _ _).alloc (Nat.le_refl _) _
 have hbz:Below w0.heap.size w0 wz:=by rw[hwz];exact (Below.refl _ _).alloc (Nat.le_refl _) _
 have hs0:w0.heap.size=H+1:=by rw[hw0,hH];simp
 have HB0:=gI (hb0.trans (hbz.mono hb0.size));have HC:=gI (Xy (h.past hb0));have HD0:=gI h;have RS0:=gI (show Blk wz H [.int .u64 0,.int .u32 0,.slice none 0 0] by rw[hwz,hw0,hH];exact (Blk.new w [.int .u64 0,.int .u32 0,.slice none 0 0] _).alloc _);have CU0:=gI (show Blk wz (H+1) [.int .u64 ((ql.version:Nat):Int),.int .u32 ((ql.next:Nat):Int),.slice none 0 0] by rw[hwz];exact Blk.new' w0 [.int .u64 0,.int .u32 0,.slice none 0 0] _ hs0);have HHW:=gI hH;have hwH:w.heap.size<=H:=by omega
 obtain ⟨N,hN⟩:∃N,N=S.stored.length:=⟨_,rfl⟩
 rw[<-hN] at HC hs;have HS0:=gI hs0;clear h hT hZ hP hx hw0 hwz hb0 hbz hH hN hs0
 go_enter Tryz.func53,Tryz.ntmps53
 go_wp2_with fail
 rw[<-HW0.out];refine HC.out.mono ?_;rintro e w' ⟨rfl,rfl⟩;clear HC
 go_wp2_with fail
 rw[<-HWZ.out,HS0.out,<-HHW.out];clear HWZ HW0 HS0
 go_loopw [5,6,15] (fun f z i wr=>∃(k:Nat) (fo zz:Bool) (m:ManD) (A:Option Addr) (n c:Nat),k<=2/\i=.int .i64 (k:Int)/\f=.bool fo/\z=.bool zz/\Hid (RSt T Z k fo zz m)/\Hid (0<k->x=0)/\Hid (Blk wr (H+1) [.int .u64 (m.version:Int),.int .u32 (m.next:Int),.slice A n c])/\Hid (ManK (fun k=>k<H+2) A n c m wr)/\Hid (Blk wr H [.int .u64 0,.int .u32 0,.slice none 0 0])/\Hid (Below w.heap.size w wr)) (fun _ _ i _=>2-(intOf i).toNat)
 case atStart=>exact ⟨0,false,false,ql,none,0,0,by omega,rfl,rfl,rfl,gI (RSt.zero T Z),gI (fun h=>absurd h (by omega)),CU0,gI (ManK.none _ _),RS0,HB0⟩
 case round=>
  clear CU0 RS0 HB0;obtain ⟨k,fo,zz,m,A,n,c,hk,rfl,rfl,rfl,HST,HX0,CU,HM,RS,HB⟩:=hrel
  by_cases hlt:k<2
  ·obtain ⟨b,hb⟩:∃b,b=qJ S k 16:=⟨_,rfl⟩
   have HBB:=gI hb;have HTK:=gI (show Says b (T k) by rw[hb];exact HT.out k hlt);have HZK:=gI (show Z k=zeros b by rw[hb];exact HZ.out k hlt);have HE0:=gI (show qf S ((16*k:Nat):Int)=x from HE.out k (by omega) 0 (by omega));clear hb
   go_wp2_with fail
   refine (zcr (HD0.out.past HB.out) hp k (by omega) (fun i hi=>(HE.out k (by omega) i hi).trans HE0.out.symm) HLE.out).mono ?_;rintro e w1 ⟨hb1,h1⟩;rw[HE0.out,<-HBB.out] at h1;have HB1:=gI (HB.out.trans (hb1.mono HB.out.size));have RS1:=gI (RS.out.past hb1);have CU1:=gI (CU.out.past hb1);have HM1:=gI (HM.out.past hb1);have hH21:H+2<=w1.heap.size:=CU1.out.lt;clear hb1;rcases h1 with ⟨hx0,A1,t1,c1,rfl,hl1,hc1,hcc1,ht1,hr1⟩|⟨hx0,rfl⟩
   ·subst hx0;have HL1:=gI hl1;have HR1:=gI hr1;clear hl1 hr1
    go_wp2_with fail
    refine (zj8 A1 t1 c1 b w1 HL1.out hc1 hcc1 HR1.out).mono ?_;rintro e w2 ⟨hb2,h2⟩;have HB2:=gI (HB1.out.trans (hb2.mono HB1.out.size));have RS2:=gI (RS1.out.past hb2);have CU2:=gI (CU1.out.past hb2);have HM2:=gI (HM1.out.past hb2);have HR2:=gI ((HR1.out.below hb2).more hb2.size);clear hb2 RS1 CU1 HM1 HB1 HR1;rcases h2 with ⟨m1,A2,n2,c2,hg,rfl,-,-,hm2⟩|⟨hno,rfl⟩
    ·replace hm2:ManK (fun k=>k<H+2) A2 n2 c2 m1 w2:=hm2.less (fun k _ hk=>by omega);have HTT:=gI (HTK.out.get hg);obtain ⟨w3,hw3⟩:∃w3,w3=w2.alloc (.cells #[.int .u64 (m1.version:Int),.int .u32 (m1.next:Int),.slice A2 n2 c2] 110):=⟨_,rfl⟩
     have HW3:=gI hw3;have hb3:Below w2.heap.size w2 w3:=by rw[hw3];exact (Below.refl _ _).alloc (Nat.le_refl _) _
     have BX3:=gI (show Blk w3 w2.heap.size [.int .u64 (m1.version:Int),.int .u32 (m1.next:Int),.slice A2 n2 c2] by rw[hw3];exact Blk.new w2 [.int .u64 (m1.version:Int),.int .u32 (m1.next:Int),.slice A2 n2 c2] _);have HB3:=gI (HB2.out.trans (hb3.mono HB2.out.size));have RS3:=gI (RS2.out.past hb3);have CU3:=gI (CU2.out.past hb3);have HM3:=gI (HM2.out.past hb3);have HN3:=gI (hm2.past hb3);have HR3:=gI ((HR2.out.below hb3).more hb3.size);have i0:=BX3.out.cell (i:=0) rfl;have i1:=BX3.out.cell (i:=1) rfl;have i2:=BX3.out.cell (i:=2) rfl;have j0:=CU3.out.cell (i:=0) rfl;have hH2:=CU2.out.lt;clear hg hm2 hw3 hb3 RS2 CU2 HM2 HB2 HR2
     cases fo with
     |false=>
      go_upto_region 12 with fail
      rw[<-HW3.out];clear HW3
      cases zz with
      |true=>
       go_wp2_with (first
        |(refine ze rfl 110 _ _ rfl (H+1) _ #[.int .u64 (m1.version:Int),.int .u32 (m1.next:Int),.slice A2 n2 c2] rfl rfl CU3.out rfl zP (yt _ _ _ _ _) ?_
          intro w4 hb4 ho4;have CU4:=gI (show Blk w4 (H+1) [.int .u64 (m1.version:Int),.int .u32 (m1.next:Int),.slice A2 n2 c2] from hb4);have HO4:=gI ho4;have HB4:=gI (HB3.out.trans (HO4.out.below (B:=w.heap.size) (fun k _ hk=>by omega) HB3.out.size));have RS4:=gI (RS3.out.out HO4.out (by omega));have HN4:=gI (HN3.out.out (HO4.out.more (S':=fun k=>k<H+2) (fun k _ hk=>by omega)));have HR4:=gI (show Rd w4 w4.heap.size A1 b from zeV HR3.out CU3.out HO4.out);clear hb4 ho4)
        |fail)
       go_wp2
       go_roundw
       case rel=>exact ⟨k+1,true,true,m1,A2,n2,c2,by omega,by go_num,rfl,rfl,gI (HST.out.first HTT.out rfl),gI (by simp),CU4,HN4,RS4,HB4⟩
       case measure=>simp[intOf];omega
      |false=>
       go_wp2_with (first
        |(refine ze rfl 110 _ _ rfl (H+1) _ #[.int .u64 (m1.version:Int),.int .u32 (m1.next:Int),.slice A2 n2 c2] rfl rfl CU3.out rfl zP (yt _ _ _ _ _) ?_
          intro w4 hb4 ho4;have CU4:=gI (show Blk w4 (H+1) [.int .u64 (m1.version:Int),.int .u32 (m1.next:Int),.slice A2 n2 c2] from hb4);have HO4:=gI ho4;have HB4:=gI (HB3.out.trans (HO4.out.below (B:=w.heap.size) (fun k _ hk=>by omega) HB3.out.size));have RS4:=gI (RS3.out.out HO4.out (by omega));have HN4:=gI (HN3.out.out (HO4.out.more (S':=fun k=>k<H+2) (fun k _ hk=>by omega)));have HR4:=gI (show Rd w4 w4.heap.size A1 b from zeV HR3.out CU3.out HO4.out);clear hb4 ho4)
        |fail)
       refine (Xz A1 t1 c1 b w4 HL1.out HR4.out).mono ?_;rintro e w5 ⟨rfl,hb5⟩;rw[<-HZK.out];have HB5:=gI (HB4.out.trans (hb5.mono HB4.out.size));have RS5:=gI (RS4.out.past hb5);have CU5:=gI (CU4.out.past hb5);have HM5:=gI (HN4.out.past hb5);clear hb5
       go_wp2
       go_roundw
       case rel=>exact ⟨k+1,true,Z k,m1,A2,n2,c2,by omega,by go_num,rfl,rfl,gI (HST.out.first HTT.out rfl),gI (by simp),CU5,HM5,RS5,HB5⟩
       case measure=>simp[intOf];omega
     |true=>
      by_cases hv:m.version<m1.version
      ·have hv':(m.version:Int)<(m1.version:Int):=by omega
       go_upto_region 12 with fail
       rw[<-HW3.out];clear HW3
       cases zz with
       |true=>
        go_wp2_with (first
         |(refine ze rfl 110 _ _ rfl (H+1) _ #[.int .u64 (m1.version:Int),.int .u32 (m1.next:Int),.slice A2 n2 c2] rfl rfl CU3.out rfl zP (yt _ _ _ _ _) ?_
           intro w4 hb4 ho4;have CU4:=gI (show Blk w4 (H+1) [.int .u64 (m1.version:Int),.int .u32 (m1.next:Int),.slice A2 n2 c2] from hb4);have HO4:=gI ho4;have HB4:=gI (HB3.out.trans (HO4.out.below (B:=w.heap.size) (fun k _ hk=>by omega) HB3.out.size));have RS4:=gI (RS3.out.out HO4.out (by omega));have HN4:=gI (HN3.out.out (HO4.out.more (S':=fun k=>k<H+2) (fun k _ hk=>by omega)));have HR4:=gI (show Rd w4 w4.heap.size A1 b from zeV HR3.out CU3.out HO4.out);clear hb4 ho4)
         |fail)
        go_wp2
        go_roundw
        case rel=>exact ⟨k+1,true,true,m1,A2,n2,c2,by omega,by go_num,rfl,rfl,gI (HST.out.more HTT.out hv rfl),gI (by simp),CU4,HN4,RS4,HB4⟩
        case measure=>simp[intOf];omega
       |false=>
        go_wp2_with (first
         |(refine ze rfl 110 _ _ rfl (H+1) _ #[.int .u64 (m1.version:Int),.int .u32 (m1.next:Int),.slice A2 n2 c2] rfl rfl CU3.out rfl zP (yt _ _ _ _ _) ?_
           intro w4 hb4 ho4;have CU4:=gI (show Blk w4 (H+1) [.int .u64 (m1.version:Int),.int .u32 (m1.next:Int),.slice A2 n2 c2] from hb4);have HO4:=gI ho4;have HB4:=gI (HB3.out.trans (HO4.out.below (B:=w.heap.size) (fun k _ hk=>by omega) HB3.out.size));have RS4:=gI (RS3.out.out HO4.out (by omega));have HN4:=gI (HN3.out.out (HO4.out.more (S':=fun k=>k<H+2) (fun k _ hk=>by omega)));have HR4:=gI (show Rd w4 w4.heap.size A1 b from zeV HR3.out CU3.out HO4.out);clear hb4 ho4)
         |fail)
        refine (Xz A1 t1 c1 b w4 HL1.out HR4.out).mono ?_;rintro e w5 ⟨rfl,hb5⟩;rw[<-HZK.out];have HB5:=gI (HB4.out.trans (hb5.mono HB4.out.size));have RS5:=gI (RS4.out.past hb5);have CU5:=gI (CU4.out.past hb5);have HM5:=gI (HN4.out.past hb5);clear hb5
        go_wp2
        go_roundw
        case rel=>exact ⟨k+1,true,Z k,m1,A2,n2,c2,by omega,by go_num,rfl,rfl,gI (HST.out.more HTT.out hv rfl),gI (by simp),CU5,HM5,RS5,HB5⟩
        case measure=>simp[intOf];omega
      ·have hv':¬(m.version:Int)<(m1.version:Int):=by omega
       go_upto_region 12 with fail
       rw[<-HW3.out];clear HW3
       cases zz with
       |true=>
        go_wp2
        go_roundw
        case rel=>exact ⟨k+1,true,true,m,A,n,c,by omega,by go_num,rfl,rfl,gI (HST.out.less HTT.out hv rfl),gI (by simp),CU3,HM3,RS3,HB3⟩
        case measure=>simp[intOf];omega
       |false=>
        go_wp2_with fail
        refine (Xz A1 t1 c1 b w3 HL1.out HR3.out).mono ?_;rintro e w5 ⟨rfl,hb5⟩;rw[<-HZK.out];have HB5:=gI (HB3.out.trans (hb5.mono HB3.out.size));have RS5:=gI (RS3.out.past hb5);have CU5:=gI (CU3.out.past hb5);have HM5:=gI (HM3.out.past hb5);clear hb5
        go_wp2
        go_roundw
        case rel=>exact ⟨k+1,true,Z k,m,A,n,c,by omega,by go_num,rfl,rfl,gI (HST.out.less HTT.out hv rfl),gI (by simp),CU5,HM5,RS5,HB5⟩
        case measure=>simp[intOf];omega
    ·have HTT:=gI (HTK.out.no hno);obtain ⟨w3,hw3⟩:∃w3,w3=w2.alloc (.cells #[.int .u64 0,.int .u32 0,.slice none 0 0] 110):=⟨_,rfl⟩
     have HW3:=gI hw3;have hb3:Below w2.heap.size w2 w3:=by rw[hw3];exact (Below.refl _ _).alloc (Nat.le_refl _) _
     have HB3:=gI (HB2.out.trans (hb3.mono HB2.out.size));have RS3:=gI (RS2.out.past hb3);have CU3:=gI (CU2.out.past hb3);have HM3:=gI (HM2.out.past hb3);have HR3:=gI ((HR2.out.below hb3).more hb3.size);clear hno hw3 hb3 RS2 CU2 HM2 HB2 HR2
     go_upto_region 12 with fail
     rw[<-HW3.out];clear HW3
     cases zz with
     |true=>
      go_wp2
      go_roundw
      case rel=>exact ⟨k+1,fo,true,m,A,n,c,by omega,by go_num,rfl,rfl,gI (HST.out.none HTT.out rfl),gI (by simp),CU3,HM3,RS3,HB3⟩
      case measure=>simp[intOf];omega
     |false=>
      go_wp2_with fail
      refine (Xz A1 t1 c1 b w3 HL1.out HR3.out).mono ?_;rintro e w5 ⟨rfl,hb5⟩;rw[<-HZK.out];have HB5:=gI (HB3.out.trans (hb5.mono HB3.out.size));have RS5:=gI (RS3.out.past hb5);have CU5:=gI (CU3.out.past hb5);have HM5:=gI (HM3.out.past hb5);clear hb5
      go_wp2
      go_roundw
      case rel=>exact ⟨k+1,fo,Z k,m,A,n,c,by omega,by go_num,rfl,rfl,gI (HST.out.none HTT.out rfl),gI (by simp),CU5,HM5,RS5,HB5⟩
      case measure=>simp[intOf];omega
   ·go_wp2_with (refine ze rfl 110 _ _ rfl H _ #[.int .u64 0,.int .u32 0,.slice none 0 0] rfl rfl RS1.out rfl zP (yt _ _ _ _ _) ?_
                 intro w7 hb7 ho7;have HB7:=gI (show Blk w7 H [.int .u64 0,.int .u32 0,.slice none 0 0] from hb7);have HO7:=gI ho7;clear hb7 ho7)
    have r0:=HB7.out.cell (i:=0) rfl;have r1:=HB7.out.cell (i:=1) rfl;have r2:=HB7.out.cell (i:=2) rfl;refine bodyPost_ret (v:=.tuple #[mval 0 0 none 0 0,.int .i64 x]) (by simp[results,Tryz.results53,go_sem,r0,r1,r2,mval]) rfl ?_;rw[if_neg hx0] at HAN;rw[HAN.out];exact ⟨HB1.out.trans (HO7.out.below (B:=w.heap.size) (fun k _ hk=>by omega) HB1.out.size),none,0,0,rfl,ManK.none _ _⟩
  ·have hk2:k=2:=by omega
   subst hk2;have hx0:=HX0.out (by omega);have HAA:=gI (show P=if fo||zz then (m,0) else (ql,5) by rw[HAN.out,if_pos hx0];exact HST.out.ans);have j0:=CU.out.cell (i:=0) rfl;have j1:=CU.out.cell (i:=1) rfl;have j2:=CU.out.cell (i:=2) rfl;clear HST HAN
   cases fo<;>cases zz
   case false.false=>
    go_wp2_with (refine ze rfl 110 _ _ rfl H _ #[.int .u64 0,.int .u32 0,.slice none 0 0] rfl rfl RS.out rfl zP (yt _ _ _ _ _) ?_
                 intro w7 hb7 ho7;have HB7:=gI (show Blk w7 H [.int .u64 0,.int .u32 0,.slice none 0 0] from hb7);have HO7:=gI ho7;clear hb7 ho7)
    have r0:=HB7.out.cell (i:=0) rfl;have r1:=HB7.out.cell (i:=1) rfl;have r2:=HB7.out.cell (i:=2) rfl;refine bodyPost_ret (v:=.tuple #[mval 0 0 none 0 0,.int .i64 5]) (by simp[results,Tryz.results53,go_sem,r0,r1,r2,mval]) rfl ?_;rw[HAA.out];exact ⟨HB.out.trans (HO7.out.below (B:=w.heap.size) (fun k _ hk=>by omega) HB.out.size),none,0,0,rfl,ManK.none _ _⟩
   all_goals
    go_wp2_with (refine ze rfl 110 _ _ rfl H _ #[.int .u64 (m.version:Int),.int .u32 (m.next:Int),.slice A n c] rfl rfl RS.out rfl zP (yt _ _ _ _ _) ?_
                 intro w7 hb7 ho7;have HB7:=gI (show Blk w7 H [.int .u64 (m.version:Int),.int .u32 (m.next:Int),.slice A n c] from hb7);have HO7:=gI ho7;clear hb7 ho7)
    have r0:=HB7.out.cell (i:=0) rfl;have r1:=HB7.out.cell (i:=1) rfl;have r2:=HB7.out.cell (i:=2) rfl;refine bodyPost_ret (v:=.tuple #[mval m.version m.next A n c,.int .i64 0]) (by simp[results,Tryz.results53,go_sem,r0,r1,r2,mval]) rfl ?_;rw[HAA.out];exact ⟨HB.out.trans (HO7.out.below (B:=w.heap.size) (fun k _ hk=>by omega) HB.out.size),A,n,c,rfl,(HM.out.out (HO7.out.more (S':=fun k=>k<H+2) (fun k _ hk=>by omega))).less (fun k _ hk=>by omega)⟩
end
section
open Go.RowKit Me Mf Rw Ds
theorem zcS {w:World} {B D:Nat} {S:Dsk} {own:Nat->Prop} {T:Nat->Option ManD} {Z:Nat->Bool} (h:zQ w B D S own) (hp:S.pend.length<4611686018427387904)
 (hT:∀k,k<2->Says (qJ S k 16) (T k)) (hZ:∀k,k<2->Z k=zeros (qJ S k 16)) :
 Calls Tryz.prog 53 #[.pointer (some ⟨D,0,none⟩)] w (zbQ w (ansD S T Z)):=by
 by_cases hs:S.stored.length<=32
 ·have:ansD S T Z=(ql,1):=by unfold ansD;rw[if_pos hs]
  rw[this];exact zd4 h hs
 ·exact zhV h hp (by omega) hT hZ
theorem zhh (S:Dsk):∃(T:Nat->Option ManD) (Z:Nat->Bool),(∀k,k<2->Says (qJ S k 16) (T k))/\∀k,k<2->Z k=zeros (qJ S k 16):=by
 obtain ⟨x0,h0⟩:=zeN (qJ S 0 16);obtain ⟨x1,h1⟩:=zeN (qJ S 1 16);refine ⟨fun k=>if k=0 then x0 else x1,fun k=>zeros (qJ S k 16),fun k hk=>?_,fun k _=>rfl⟩
 match k,hk with
 |0,_=>exact h0
 |1,_=>exact h1
theorem zbT {S:Dsk} (hon:S.on=true) (hf:S.fuse<0) {k:Nat} (hk:k<S.stored.length) {l:List UInt8} (hl:l.length=128):zY S (k:Int) l=({S with pend:=S.pend++[⟨k,l⟩]},0):=by
 unfold zY;rw[ZM,decide_eq_true hk,Xh hf,hon];simp[hl,hon]
end
end Go.Proofs.YtcdkopbjlakebaaGreatDoor
