/- Texts put together, for a law: MRead, MRd, RReadA, RReadB, Model, Agree, Mixed, Slots, Mixd, RReadK. -/
import Derived.Test.YtiocpefgccndbaaGreatKG14
import Derived.Test.YtiocpefgccndbaaGreatKG15
import Derived.Test.YtiocpefgccndbaaGreatKG20
import Derived.Test.YtiocpefgccndbaaGreatKG17
import Derived.Test.YtiocpefgccndbaaGreatKG22
import Derived.Test.YtiocpefgccndbaaGreatKG2
section
namespace Go.Proofs.YtiocpefgccndbaaGreat
open Go.RowKit Me Mf Rw Ds
theorem rd_box {w w':World} {b:Nat} {v x:Int} {A L:Option Addr} {n c:Nat} {l:List UInt8} (h:Rd w w.heap.size L l) (hb:Blk w b [.int .u64 v,.int .u32 x,.slice A n c]) (ho:Out (fun k=>k=b) w w'):Rd w' w'.heap.size L l:=fun hn=>by
 obtain ⟨a,e,h1,hc⟩:=h hn
 refine ⟨a,e,Nat.lt_of_lt_of_le h1 ho.size,fun i u hu=>?_⟩
 have hc':=hc i u hu
 exact (ho.cell (by rw[block_add];exact h1) (hb.ne hc' (by simp))).trans hc'
def ansD (S:Dsk) (T:Nat→Option ManD) (Z:Nat→Bool):ManD×Int:=
 if S.stored.length≤32 then (noMan,1) else if S.on then ansOf (curOf T 2) (blkOf Z 2) else (noMan,6)
theorem readD_le {S:Dsk} (h:Fine S) (i:Int):(readD S i).length≤128:=by
 unfold readD
 split
 ·rename_i he
  unfold readE at he
  split at he
  ·split at he
   ·rename_i hb
    obtain ⟨k,rfl,hk⟩:=hasB_true hb
    rw[Int.toNat_natCast,latestD_length h hk]
    exact Nat.le_refl _
   ·cases he
  ·cases he
 ·exact Nat.zero_le _
set_option maxRecDepth 100000 in
theorem mread_small {w:World} {B D:Nat} {S:Dsk} {own:Nat→Prop} (h:DiskAt w B D S own) (hs:S.stored.length≤32):Calls Tryz.prog 17 #[.pointer (some ⟨D,0,none⟩)] w (RdPostK w (noMan,1)):=by
 obtain ⟨w1,hw1⟩:∃w1,w1=w.alloc (.cells #[.int .u64 0,.int .u32 0,.slice none 0 0] 38):=⟨_,rfl⟩
 have HW1:=Lib.hid hw1
 have HB:=Lib.hid (show Below w.heap.size w w1 by rw[hw1];exact (Below.refl _ _).alloc (Nat.le_refl _) _)
 have HX:=Lib.hid (show Blk w1 w.heap.size [.int .u64 0,.int .u32 0,.slice none 0 0] by rw[hw1];exact Blk.new w [.int .u64 0,.int .u32 0,.slice none 0 0] _)
 have HC:=Lib.hid (count_any (h.past HB.out))
 obtain ⟨n,hn⟩:∃n,n=S.stored.length:=⟨_,rfl⟩
 rw[←hn] at HC hs
 clear hw1 h hn
 go_enter Tryz.func17,Tryz.ntmps17
 go_wp2_with fail
 rw[←HW1.out]
 refine HC.out.mono ?_
 rintro e w' ⟨rfl,rfl⟩
 clear HW1
 go_wp2_with (refine wpList_store_blk rfl 38 _ _ rfl w.heap.size _ #[.int .u64 0,.int .u32 0,.slice none 0 0] rfl rfl HX.out rfl man_size (man_one _ _ _ _ _) ?_
              intro w7 hb7 ho7
              have HB7:=Lib.hid (show Blk w7 w.heap.size [.int .u64 0,.int .u32 0,.slice none 0 0] from hb7)
              have HO7:=Lib.hid ho7
              clear hb7 ho7)
 have r0:=HB7.out.cell (i:=0) rfl
 have r1:=HB7.out.cell (i:=1) rfl
 have r2:=HB7.out.cell (i:=2) rfl
 refine bodyPost_ret (v:=.tuple #[mval 0 0 none 0 0,.int .i64 1]) (by simp[results,Tryz.results17,go_sem,r0,r1,r2,mval]) rfl ?_
 exact ⟨HB.out.trans (HO7.out.below (B:=w.heap.size) (fun k _ hk=>by omega) HB.out.size),none,0,0,rfl,ManK.none _ _⟩
set_option maxRecDepth 100000 in
set_option maxHeartbeats 4000000 in
theorem mread_big {w:World} {B D:Nat} {S:Dsk} {own:Nat→Prop} {T:Nat→Option ManD} {Z:Nat→Bool} (h:DiskAt w B D S own) (hp:S.pend.length<4611686018427387904) (hs:32<S.stored.length)
 (hT:∀k,k<2→Says (slotD S k 16) (T k)) (hZ:∀k,k<2→Z k=zeros (slotD S k 16)) :
 Calls Tryz.prog 17 #[.pointer (some ⟨D,0,none⟩)] w (RdPostK w (ansD S T Z)):=by
 obtain ⟨H,hH⟩:∃H,H=w.heap.size:=⟨_,rfl⟩
 obtain ⟨x,hx⟩:∃x:Int,x=if S.on then 0 else 6:=⟨_,rfl⟩
 have HE:=Lib.hid (show ∀n,n≤1→∀i,i<16→readE S ((16*n+i:Nat):Int)=x from fun n hn i hi=>by
  unfold readE
  rw[hasB_nat,decide_eq_true (by omega),hx]
  rfl)
 have HAN:=Lib.hid (show ansD S T Z=if x=0 then ansOf (curOf T 2) (blkOf Z 2) else (noMan,x) by
  unfold ansD
  rw[if_neg (by omega),hx]
  cases S.on<;>rfl)
 have HLE:=Lib.hid (readD_le h.good)
 have HT:=Lib.hid hT
 have HZ:=Lib.hid hZ
 obtain ⟨P,hP⟩:∃P,P=ansD S T Z:=⟨_,rfl⟩
 rw[←hP] at HAN ⊢
 obtain ⟨w0,hw0⟩:∃w0,w0=w.alloc (.cells #[.int .u64 0,.int .u32 0,.slice none 0 0] 38):=⟨_,rfl⟩
 obtain ⟨wz,hwz⟩:∃wz,wz=w0.alloc (.cells #[.int .u64 0,.int .u32 0,.slice none 0 0] 38):=⟨_,rfl⟩
 have HW0:=Lib.hid hw0
 have HWZ:=Lib.hid hwz
 have hb0:Below w.heap.size w w0:=by rw[hw0];exact (Below.refl _ _).alloc (Nat.le_refl _) _
 have hbz:Below w0.heap.size w0 wz:=by rw[hwz];exact (Below.refl _ _).alloc (Nat.le_refl _) _
 have hs0:w0.heap.size=H+1:=by rw[hw0,hH];simp
 have HB0:=Lib.hid (hb0.trans (hbz.mono hb0.size))
 have HC:=Lib.hid (count_any (h.past hb0))
 have HD0:=Lib.hid h
 have RS0:=Lib.hid (show Blk wz H [.int .u64 0,.int .u32 0,.slice none 0 0] by rw[hwz,hw0,hH];exact (Blk.new w [.int .u64 0,.int .u32 0,.slice none 0 0] _).alloc _)
 have CU0:=Lib.hid (show Blk wz (H+1) [.int .u64 ((noMan.version:Nat):Int),.int .u32 ((noMan.next:Nat):Int),.slice none 0 0] by rw[hwz];exact Blk.new' w0 [.int .u64 0,.int .u32 0,.slice none 0 0] _ hs0)
 have HHW:=Lib.hid hH
 have hwH:w.heap.size≤H:=by omega
 obtain ⟨N,hN⟩:∃N,N=S.stored.length:=⟨_,rfl⟩
 rw[←hN] at HC hs
 have HS0:=Lib.hid hs0
 clear h hT hZ hP hx hw0 hwz hb0 hbz hH hN hs0
 go_enter Tryz.func17,Tryz.ntmps17
 go_wp2_with fail
 rw[←HW0.out]
 refine HC.out.mono ?_
 rintro e w' ⟨rfl,rfl⟩
 clear HC
 go_wp2_with fail
 rw[←HWZ.out,HS0.out,←HHW.out]
 clear HWZ HW0 HS0
 go_loopw [5,6,15] (fun f z i wr=>∃(k:Nat) (fo zz:Bool) (m:ManD) (A:Option Addr) (n c:Nat),k≤2∧i=.int .i64 (k:Int)∧f=.bool fo∧z=.bool zz∧Hid (RSt T Z k fo zz m)∧Hid (0<k→x=0)∧Hid (Blk wr (H+1) [.int .u64 (m.version:Int),.int .u32 (m.next:Int),.slice A n c])∧Hid (ManK (fun k=>k<H+2) A n c m wr)∧Hid (Blk wr H [.int .u64 0,.int .u32 0,.slice none 0 0])∧Hid (Below w.heap.size w wr)) (fun _ _ i _=>2-(intOf i).toNat)
 case atStart=>exact ⟨0,false,false,noMan,none,0,0,by omega,rfl,rfl,rfl,Lib.hid (RSt.zero T Z),Lib.hid (fun h=>absurd h (by omega)),CU0,Lib.hid (ManK.none _ _),RS0,HB0⟩
 case round=>
  clear CU0 RS0 HB0
  obtain ⟨k,fo,zz,m,A,n,c,hk,rfl,rfl,rfl,HST,HX0,CU,HM,RS,HB⟩:=hrel
  by_cases hlt:k<2
  ·obtain ⟨b,hb⟩:∃b,b=slotD S k 16:=⟨_,rfl⟩
   have HBB:=Lib.hid hb
   have HTK:=Lib.hid (show Says b (T k) by rw[hb];exact HT.out k hlt)
   have HZK:=Lib.hid (show Z k=zeros b by rw[hb];exact HZ.out k hlt)
   have HE0:=Lib.hid (show readE S ((16*k:Nat):Int)=x from HE.out k (by omega) 0 (by omega))
   clear hb
   go_wp2_with fail
   refine (readSlot_any (HD0.out.past HB.out) hp k (by omega) (fun i hi=>(HE.out k (by omega) i hi).trans HE0.out.symm) HLE.out).mono ?_
   rintro e w1 ⟨hb1,h1⟩
   rw[HE0.out,←HBB.out] at h1
   have HB1:=Lib.hid (HB.out.trans (hb1.mono HB.out.size))
   have RS1:=Lib.hid (RS.out.past hb1)
   have CU1:=Lib.hid (CU.out.past hb1)
   have HM1:=Lib.hid (HM.out.past hb1)
   have hH21:H+2≤w1.heap.size:=CU1.out.lt
   clear hb1
   rcases h1 with ⟨hx0,A1,t1,c1,rfl,hl1,hc1,hcc1,ht1,hr1⟩|⟨hx0,rfl⟩
   ·subst hx0
    have HL1:=Lib.hid hl1
    have HR1:=Lib.hid hr1
    clear hl1 hr1
    go_wp2_with fail
    refine (mget_any A1 t1 c1 b w1 HL1.out hc1 hcc1 HR1.out).mono ?_
    rintro e w2 ⟨hb2,h2⟩
    have HB2:=Lib.hid (HB1.out.trans (hb2.mono HB1.out.size))
    have RS2:=Lib.hid (RS1.out.past hb2)
    have CU2:=Lib.hid (CU1.out.past hb2)
    have HM2:=Lib.hid (HM1.out.past hb2)
    have HR2:=Lib.hid ((HR1.out.below hb2).more hb2.size)
    clear hb2 RS1 CU1 HM1 HB1 HR1
    rcases h2 with ⟨m1,A2,n2,c2,hg,rfl,-,-,hm2⟩|⟨hno,rfl⟩
    ·replace hm2:ManK (fun k=>k<H+2) A2 n2 c2 m1 w2:=hm2.less (fun k _ hk=>by omega)
     have HTT:=Lib.hid (HTK.out.get hg)
     obtain ⟨w3,hw3⟩:∃w3,w3=w2.alloc (.cells #[.int .u64 (m1.version:Int),.int .u32 (m1.next:Int),.slice A2 n2 c2] 38):=⟨_,rfl⟩
     have HW3:=Lib.hid hw3
     have hb3:Below w2.heap.size w2 w3:=by rw[hw3];exact (Below.refl _ _).alloc (Nat.le_refl _) _
     have BX3:=Lib.hid (show Blk w3 w2.heap.size [.int .u64 (m1.version:Int),.int .u32 (m1.next:Int),.slice A2 n2 c2] by rw[hw3];exact Blk.new w2 [.int .u64 (m1.version:Int),.int .u32 (m1.next:Int),.slice A2 n2 c2] _)
     have HB3:=Lib.hid (HB2.out.trans (hb3.mono HB2.out.size))
     have RS3:=Lib.hid (RS2.out.past hb3)
     have CU3:=Lib.hid (CU2.out.past hb3)
     have HM3:=Lib.hid (HM2.out.past hb3)
     have HN3:=Lib.hid (hm2.past hb3)
     have HR3:=Lib.hid ((HR2.out.below hb3).more hb3.size)
     have i0:=BX3.out.cell (i:=0) rfl
     have i1:=BX3.out.cell (i:=1) rfl
     have i2:=BX3.out.cell (i:=2) rfl
     have j0:=CU3.out.cell (i:=0) rfl
     have hH2:=CU2.out.lt
     clear hg hm2 hw3 hb3 RS2 CU2 HM2 HB2 HR2
     cases fo with
     |false=>
      go_upto_region 12 with fail
      rw[←HW3.out]
      clear HW3
      cases zz with
      |true=>
       go_wp2_with (first
        |(refine wpList_store_blk rfl 38 _ _ rfl (H+1) _ #[.int .u64 (m1.version:Int),.int .u32 (m1.next:Int),.slice A2 n2 c2] rfl rfl CU3.out rfl man_size (man_one _ _ _ _ _) ?_
          intro w4 hb4 ho4
          have CU4:=Lib.hid (show Blk w4 (H+1) [.int .u64 (m1.version:Int),.int .u32 (m1.next:Int),.slice A2 n2 c2] from hb4)
          have HO4:=Lib.hid ho4
          have HB4:=Lib.hid (HB3.out.trans (HO4.out.below (B:=w.heap.size) (fun k _ hk=>by omega) HB3.out.size))
          have RS4:=Lib.hid (RS3.out.out HO4.out (by omega))
          have HN4:=Lib.hid (HN3.out.out (HO4.out.more (S':=fun k=>k<H+2) (fun k _ hk=>by omega)))
          have HR4:=Lib.hid (show Rd w4 w4.heap.size A1 b from rd_box HR3.out CU3.out HO4.out)
          clear hb4 ho4)
        |fail)
       go_wp2
       go_roundw
       case rel=>exact ⟨k+1,true,true,m1,A2,n2,c2,by omega,by go_num,rfl,rfl,Lib.hid (HST.out.first HTT.out rfl),Lib.hid (by simp),CU4,HN4,RS4,HB4⟩
       case measure=>simp[intOf];omega
      |false=>
       go_wp2_with (first
        |(refine wpList_store_blk rfl 38 _ _ rfl (H+1) _ #[.int .u64 (m1.version:Int),.int .u32 (m1.next:Int),.slice A2 n2 c2] rfl rfl CU3.out rfl man_size (man_one _ _ _ _ _) ?_
          intro w4 hb4 ho4
          have CU4:=Lib.hid (show Blk w4 (H+1) [.int .u64 (m1.version:Int),.int .u32 (m1.next:Int),.slice A2 n2 c2] from hb4)
          have HO4:=Lib.hid ho4
          have HB4:=Lib.hid (HB3.out.trans (HO4.out.below (B:=w.heap.size) (fun k _ hk=>by omega) HB3.out.size))
          have RS4:=Lib.hid (RS3.out.out HO4.out (by omega))
          have HN4:=Lib.hid (HN3.out.out (HO4.out.more (S':=fun k=>k<H+2) (fun k _ hk=>by omega)))
          have HR4:=Lib.hid (show Rd w4 w4.heap.size A1 b from rd_box HR3.out CU3.out HO4.out)
          clear hb4 ho4)
        |fail)
       refine (blank_any A1 t1 c1 b w4 HL1.out HR4.out).mono ?_
       rintro e w5 ⟨rfl,hb5⟩
       rw[←HZK.out]
       have HB5:=Lib.hid (HB4.out.trans (hb5.mono HB4.out.size))
       have RS5:=Lib.hid (RS4.out.past hb5)
       have CU5:=Lib.hid (CU4.out.past hb5)
       have HM5:=Lib.hid (HN4.out.past hb5)
       clear hb5
       go_wp2
       go_roundw
       case rel=>exact ⟨k+1,true,Z k,m1,A2,n2,c2,by omega,by go_num,rfl,rfl,Lib.hid (HST.out.first HTT.out rfl),Lib.hid (by simp),CU5,HM5,RS5,HB5⟩
       case measure=>simp[intOf];omega
     |true=>
      by_cases hv:m.version<m1.version
      ·have hv':(m.version:Int)<(m1.version:Int):=by omega
       go_upto_region 12 with fail
       rw[←HW3.out]
       clear HW3
       cases zz with
       |true=>
        go_wp2_with (first
         |(refine wpList_store_blk rfl 38 _ _ rfl (H+1) _ #[.int .u64 (m1.version:Int),.int .u32 (m1.next:Int),.slice A2 n2 c2] rfl rfl CU3.out rfl man_size (man_one _ _ _ _ _) ?_
           intro w4 hb4 ho4
           have CU4:=Lib.hid (show Blk w4 (H+1) [.int .u64 (m1.version:Int),.int .u32 (m1.next:Int),.slice A2 n2 c2] from hb4)
           have HO4:=Lib.hid ho4
           have HB4:=Lib.hid (HB3.out.trans (HO4.out.below (B:=w.heap.size) (fun k _ hk=>by omega) HB3.out.size))
           have RS4:=Lib.hid (RS3.out.out HO4.out (by omega))
           have HN4:=Lib.hid (HN3.out.out (HO4.out.more (S':=fun k=>k<H+2) (fun k _ hk=>by omega)))
           have HR4:=Lib.hid (show Rd w4 w4.heap.size A1 b from rd_box HR3.out CU3.out HO4.out)
           clear hb4 ho4)
         |fail)
        go_wp2
        go_roundw
        case rel=>exact ⟨k+1,true,true,m1,A2,n2,c2,by omega,by go_num,rfl,rfl,Lib.hid (HST.out.more HTT.out hv rfl),Lib.hid (by simp),CU4,HN4,RS4,HB4⟩
        case measure=>simp[intOf];omega
       |false=>
        go_wp2_with (first
         |(refine wpList_store_blk rfl 38 _ _ rfl (H+1) _ #[.int .u64 (m1.version:Int),.int .u32 (m1.next:Int),.slice A2 n2 c2] rfl rfl CU3.out rfl man_size (man_one _ _ _ _ _) ?_
           intro w4 hb4 ho4
           have CU4:=Lib.hid (show Blk w4 (H+1) [.int .u64 (m1.version:Int),.int .u32 (m1.next:Int),.slice A2 n2 c2] from hb4)
           have HO4:=Lib.hid ho4
           have HB4:=Lib.hid (HB3.out.trans (HO4.out.below (B:=w.heap.size) (fun k _ hk=>by omega) HB3.out.size))
           have RS4:=Lib.hid (RS3.out.out HO4.out (by omega))
           have HN4:=Lib.hid (HN3.out.out (HO4.out.more (S':=fun k=>k<H+2) (fun k _ hk=>by omega)))
           have HR4:=Lib.hid (show Rd w4 w4.heap.size A1 b from rd_box HR3.out CU3.out HO4.out)
           clear hb4 ho4)
         |fail)
        refine (blank_any A1 t1 c1 b w4 HL1.out HR4.out).mono ?_
        rintro e w5 ⟨rfl,hb5⟩
        rw[←HZK.out]
        have HB5:=Lib.hid (HB4.out.trans (hb5.mono HB4.out.size))
        have RS5:=Lib.hid (RS4.out.past hb5)
        have CU5:=Lib.hid (CU4.out.past hb5)
        have HM5:=Lib.hid (HN4.out.past hb5)
        clear hb5
        go_wp2
        go_roundw
        case rel=>exact ⟨k+1,true,Z k,m1,A2,n2,c2,by omega,by go_num,rfl,rfl,Lib.hid (HST.out.more HTT.out hv rfl),Lib.hid (by simp),CU5,HM5,RS5,HB5⟩
        case measure=>simp[intOf];omega
      ·have hv':¬(m.version:Int)<(m1.version:Int):=by omega
       go_upto_region 12 with fail
       rw[←HW3.out]
       clear HW3
       cases zz with
       |true=>
        go_wp2
        go_roundw
        case rel=>exact ⟨k+1,true,true,m,A,n,c,by omega,by go_num,rfl,rfl,Lib.hid (HST.out.less HTT.out hv rfl),Lib.hid (by simp),CU3,HM3,RS3,HB3⟩
        case measure=>simp[intOf];omega
       |false=>
        go_wp2_with fail
        refine (blank_any A1 t1 c1 b w3 HL1.out HR3.out).mono ?_
        rintro e w5 ⟨rfl,hb5⟩
        rw[←HZK.out]
        have HB5:=Lib.hid (HB3.out.trans (hb5.mono HB3.out.size))
        have RS5:=Lib.hid (RS3.out.past hb5)
        have CU5:=Lib.hid (CU3.out.past hb5)
        have HM5:=Lib.hid (HM3.out.past hb5)
        clear hb5
        go_wp2
        go_roundw
        case rel=>exact ⟨k+1,true,Z k,m,A,n,c,by omega,by go_num,rfl,rfl,Lib.hid (HST.out.less HTT.out hv rfl),Lib.hid (by simp),CU5,HM5,RS5,HB5⟩
        case measure=>simp[intOf];omega
    ·have HTT:=Lib.hid (HTK.out.no hno)
     obtain ⟨w3,hw3⟩:∃w3,w3=w2.alloc (.cells #[.int .u64 0,.int .u32 0,.slice none 0 0] 38):=⟨_,rfl⟩
     have HW3:=Lib.hid hw3
     have hb3:Below w2.heap.size w2 w3:=by rw[hw3];exact (Below.refl _ _).alloc (Nat.le_refl _) _
     have HB3:=Lib.hid (HB2.out.trans (hb3.mono HB2.out.size))
     have RS3:=Lib.hid (RS2.out.past hb3)
     have CU3:=Lib.hid (CU2.out.past hb3)
     have HM3:=Lib.hid (HM2.out.past hb3)
     have HR3:=Lib.hid ((HR2.out.below hb3).more hb3.size)
     clear hno hw3 hb3 RS2 CU2 HM2 HB2 HR2
     go_upto_region 12 with fail
     rw[←HW3.out]
     clear HW3
     cases zz with
     |true=>
      go_wp2
      go_roundw
      case rel=>exact ⟨k+1,fo,true,m,A,n,c,by omega,by go_num,rfl,rfl,Lib.hid (HST.out.none HTT.out rfl),Lib.hid (by simp),CU3,HM3,RS3,HB3⟩
      case measure=>simp[intOf];omega
     |false=>
      go_wp2_with fail
      refine (blank_any A1 t1 c1 b w3 HL1.out HR3.out).mono ?_
      rintro e w5 ⟨rfl,hb5⟩
      rw[←HZK.out]
      have HB5:=Lib.hid (HB3.out.trans (hb5.mono HB3.out.size))
      have RS5:=Lib.hid (RS3.out.past hb5)
      have CU5:=Lib.hid (CU3.out.past hb5)
      have HM5:=Lib.hid (HM3.out.past hb5)
      clear hb5
      go_wp2
      go_roundw
      case rel=>exact ⟨k+1,fo,Z k,m,A,n,c,by omega,by go_num,rfl,rfl,Lib.hid (HST.out.none HTT.out rfl),Lib.hid (by simp),CU5,HM5,RS5,HB5⟩
      case measure=>simp[intOf];omega
   ·go_wp2_with (refine wpList_store_blk rfl 38 _ _ rfl H _ #[.int .u64 0,.int .u32 0,.slice none 0 0] rfl rfl RS1.out rfl man_size (man_one _ _ _ _ _) ?_
                 intro w7 hb7 ho7
                 have HB7:=Lib.hid (show Blk w7 H [.int .u64 0,.int .u32 0,.slice none 0 0] from hb7)
                 have HO7:=Lib.hid ho7
                 clear hb7 ho7)
    have r0:=HB7.out.cell (i:=0) rfl
    have r1:=HB7.out.cell (i:=1) rfl
    have r2:=HB7.out.cell (i:=2) rfl
    refine bodyPost_ret (v:=.tuple #[mval 0 0 none 0 0,.int .i64 x]) (by simp[results,Tryz.results17,go_sem,r0,r1,r2,mval]) rfl ?_
    rw[if_neg hx0] at HAN
    rw[HAN.out]
    exact ⟨HB1.out.trans (HO7.out.below (B:=w.heap.size) (fun k _ hk=>by omega) HB1.out.size),none,0,0,rfl,ManK.none _ _⟩
  ·have hk2:k=2:=by omega
   subst hk2
   have hx0:=HX0.out (by omega)
   have HAA:=Lib.hid (show P=if fo||zz then (m,0) else (noMan,5) by rw[HAN.out,if_pos hx0];exact HST.out.ans)
   have j0:=CU.out.cell (i:=0) rfl
   have j1:=CU.out.cell (i:=1) rfl
   have j2:=CU.out.cell (i:=2) rfl
   clear HST HAN
   cases fo<;>cases zz
   case false.false=>
    go_wp2_with (refine wpList_store_blk rfl 38 _ _ rfl H _ #[.int .u64 0,.int .u32 0,.slice none 0 0] rfl rfl RS.out rfl man_size (man_one _ _ _ _ _) ?_
                 intro w7 hb7 ho7
                 have HB7:=Lib.hid (show Blk w7 H [.int .u64 0,.int .u32 0,.slice none 0 0] from hb7)
                 have HO7:=Lib.hid ho7
                 clear hb7 ho7)
    have r0:=HB7.out.cell (i:=0) rfl
    have r1:=HB7.out.cell (i:=1) rfl
    have r2:=HB7.out.cell (i:=2) rfl
    refine bodyPost_ret (v:=.tuple #[mval 0 0 none 0 0,.int .i64 5]) (by simp[results,Tryz.results17,go_sem,r0,r1,r2,mval]) rfl ?_
    rw[HAA.out]
    exact ⟨HB.out.trans (HO7.out.below (B:=w.heap.size) (fun k _ hk=>by omega) HB.out.size),none,0,0,rfl,ManK.none _ _⟩
   all_goals
    go_wp2_with (refine wpList_store_blk rfl 38 _ _ rfl H _ #[.int .u64 (m.version:Int),.int .u32 (m.next:Int),.slice A n c] rfl rfl RS.out rfl man_size (man_one _ _ _ _ _) ?_
                 intro w7 hb7 ho7
                 have HB7:=Lib.hid (show Blk w7 H [.int .u64 (m.version:Int),.int .u32 (m.next:Int),.slice A n c] from hb7)
                 have HO7:=Lib.hid ho7
                 clear hb7 ho7)
    have r0:=HB7.out.cell (i:=0) rfl
    have r1:=HB7.out.cell (i:=1) rfl
    have r2:=HB7.out.cell (i:=2) rfl
    refine bodyPost_ret (v:=.tuple #[mval m.version m.next A n c,.int .i64 0]) (by simp[results,Tryz.results17,go_sem,r0,r1,r2,mval]) rfl ?_
    rw[HAA.out]
    exact ⟨HB.out.trans (HO7.out.below (B:=w.heap.size) (fun k _ hk=>by omega) HB.out.size),A,n,c,rfl,(HM.out.out (HO7.out.more (S':=fun k=>k<H+2) (fun k _ hk=>by omega))).less (fun k _ hk=>by omega)⟩
end Go.Proofs.YtiocpefgccndbaaGreat
end
section
namespace Go.Proofs.YtiocpefgccndbaaGreat
open Go.RowKit Me Mf Rw Ds
theorem mread_any {w:World} {B D:Nat} {S:Dsk} {own:Nat→Prop} {T:Nat→Option ManD} {Z:Nat→Bool} (h:DiskAt w B D S own) (hp:S.pend.length<4611686018427387904)
 (hT:∀k,k<2→Says (slotD S k 16) (T k)) (hZ:∀k,k<2→Z k=zeros (slotD S k 16)) :
 Calls Tryz.prog 17 #[.pointer (some ⟨D,0,none⟩)] w (RdPostK w (ansD S T Z)):=by
 by_cases hs:S.stored.length≤32
 ·have:ansD S T Z=(noMan,1):=by unfold ansD;rw[if_pos hs]
  rw[this]
  exact mread_small h hs
 ·exact mread_big h hp (by omega) hT hZ
theorem slots_say (S:Dsk):∃(T:Nat→Option ManD) (Z:Nat→Bool),(∀k,k<2→Says (slotD S k 16) (T k))∧∀k,k<2→Z k=zeros (slotD S k 16):=by
 obtain ⟨x0,h0⟩:=says_any (slotD S 0 16)
 obtain ⟨x1,h1⟩:=says_any (slotD S 1 16)
 refine ⟨fun k=>if k=0 then x0 else x1,fun k=>zeros (slotD S k 16),fun k hk=>?_,fun k _=>rfl⟩
 match k,hk with
 |0,_=>exact h0
 |1,_=>exact h1
theorem writeD_ok {S:Dsk} (hon:S.on=true) (hf:S.fuse<0) {k:Nat} (hk:k<S.stored.length) {l:List UInt8} (hl:l.length=128):writeD S (k:Int) l=({S with pend:=S.pend++[⟨k,l⟩]},0):=by
 unfold writeD
 rw[hasB_nat,decide_eq_true hk,power_neg hf,hon]
 simp[hl,hon]
end Go.Proofs.YtiocpefgccndbaaGreat
end
section
namespace Go.Proofs.YtiocpefgccndbaaGreat
open Go.RowKit Me Mf Rw Ds
def ansR (m:RefM) (T:Nat→Option ManD) (Z:Nat→Bool):ManD×Int:=
 if m.count≤32 then (noMan,1) else if m.off then (noMan,6) else ansOf (curOf T 2) (blkOf Z 2)
theorem zeros_drop {l:List UInt8} {k:Nat} {u:UInt8} (h:l[k]?=some u):zeros (l.drop k)=((u==0)&&zeros (l.drop (k+1))):=by
 obtain ⟨hk,e⟩:=List.getElem?_eq_some_iff.1 h
 rw[List.drop_eq_getElem_cons hk,e]
 rfl
end Go.Proofs.YtiocpefgccndbaaGreat
end
section
namespace Go.Proofs.YtiocpefgccndbaaGreat
open Go.RowKit Me Mf Rw Ds
end Go.Proofs.YtiocpefgccndbaaGreat
end
section
namespace Go.Proofs.YtiocpefgccndbaaGreat
open Go.RowKit Me Mf Rw Ds
def madeOf (S:Dsk) (k:Nat):List WD:=(List.range k).map fun i=>⟨i,latestD S i⟩
theorem madeOf_succ (S:Dsk) (k:Nat):madeOf S (k+1)=madeOf S k++[⟨k,latestD S k⟩]:=by simp[madeOf,List.range_succ]
theorem madeOf_length (S:Dsk) (k:Nat):(madeOf S k).length=k:=by simp[madeOf]
def least32 (n:Nat):Nat:=if 32≤n then 32 else n
theorem least32_le (n:Nat):least32 n≤32∧least32 n≤n:=by unfold least32;split<;>omega
def mdlR (S:Dsk):RefM:=⟨S.stored.length,false,-1,madeOf S (least32 S.stored.length),[]⟩
theorem lastW_made (S:Dsk) (b:List UInt8):∀(k i:Nat),i<k→lastW (madeOf S k) i b=latestD S i
 |0,_,h=>by omega
 |k+1,i,h=>by
  rw[madeOf_succ,lastW_snoc]
  by_cases e:k=i
  ·subst e;exact if_pos rfl
  ·rw[if_neg e];exact lastW_made S b k i (by omega)
theorem made_len {S:Dsk} (h:Fine S) {k:Nat} (hk:k≤S.stored.length):∀x∈madeOf S k,x.b.length=128:=by
 intro x hx
 obtain ⟨i,hi,rfl⟩:=List.mem_map.1 hx
 exact latestD_length h (by have:=List.mem_range.1 hi;omega)
theorem readR_mdl {S:Dsk} (hon:S.on=true) {i:Nat} (hi:i<32):readR (mdlR S) (i:Int)=readD S (i:Int):=by
 unfold readR readD readER readE
 rw[hon]
 by_cases h:i<S.stored.length
 ·have:hasB (mdlR S).count (i:Int)=true:=by rw[hasB_nat];exact decide_eq_true h
  have h':hasB S.stored.length (i:Int)=true:=this
  rw[this,h',Int.toNat_natCast]
  simp only[mdlR,Bool.false_eq_true,if_false,if_true]
  show lastW [] i _=_
  rw[lastW]
  exact lastW_made S _ _ i (by unfold least32;split<;>omega)
 ·have:hasB (mdlR S).count (i:Int)=false:=by rw[hasB_nat];exact decide_eq_false h
  have h':hasB S.stored.length (i:Int)=false:=this
  rw[this,h']
  rfl
theorem slotR_mdl {S:Dsk} (hon:S.on=true) {n:Nat} (hn:n≤1):∀k,k≤16→slotR (mdlR S) n k=slotD S n k
 |0,_=>rfl
 |k+1,h=>by rw[slotR,slotD,slotR_mdl hon hn k (by omega),readR_mdl hon (by omega)]
theorem readR_mdl_le {S:Dsk} (h:Fine S) (i:Int):(readR (mdlR S) i).length≤128:=by
 unfold readR
 split
 ·have:=lastW_len (i:=i.toNat) (made_len h (least32_le S.stored.length).2) zero128_length
  show (lastW [] _ _).length≤128
  rw[lastW]
  exact Nat.le_of_eq this
 ·exact Nat.zero_le _
theorem w_info':(Tryz.prog.info? 113).map (fun i=>(i.zero,i.size,i.bytes))=some (some (.agg #[.int .i64 0,.string {data:=#[]}]),2,24):=by kernel_rfl
theorem d_size':(Tryz.prog.info? 59).map (·.size)=some 5:=by kernel_rfl
theorem d_one' (n:Int) (o:Bool) (f:Int) (A:Option Addr) (a b:Nat) (A':Option Addr) (a' b':Nat):(#[.int .i64 n,.bool o,.int .i64 f,.slice A a b,.slice A' a' b']:Array Value).all (·.oneCell')=true:=by simp[Value.oneCell']
def MdlPost (w:World) (own:Nat→Prop) (M:RefM) (e:Ending) (w':World):Prop:=
 Below w.heap.size w w'∧∃Am nm cm,e=.returned (.agg #[.int .i64 (M.count:Int),.bool M.off,.int .i64 M.fuse,.slice Am nm cm,.slice none 0 0])∧M.made.length=nm∧nm≤32∧RefAt w' own M Am cm none 0
theorem below_app_row {B:Nat} {a w:World} {o:Obj} {w':World} {v:Value} {base n size:Nat} {e:TypeId} {xs:List Value} (h:Below B a w) (hown:(w.alloc o).ownsRow base e size v n xs) (hB:B≤w.heap.size∧B≤base) (hg:(w.alloc o).grownBy w' v.ownBlock):Below B a w':=
 h.trans (((Below.refl B w).alloc hB.1 o).grown hg (by simp;omega) (fun k hk=>Nat.le_trans hB.2 (hown.lt k hk).1))
end Go.Proofs.YtiocpefgccndbaaGreat
end
section
namespace Go.Proofs.YtiocpefgccndbaaGreat
open Go.RowKit Me Mf Rw Ds
def offR (M:RefM):RefM:={M with off:=true}
end Go.Proofs.YtiocpefgccndbaaGreat
end
section
namespace Go.Proofs.YtiocpefgccndbaaGreat
open Go.RowKit Me Mf Rw Ds
def strQ (l:List UInt8):Value:=.string ⟨l.toArray⟩
theorem sv_neq (l m:List UInt8) (b:Bool) (hb:(!(l==m))=b) (W:World):(binOp .neq 9 (strQ l) (strQ m)).run Tryz.prog W=.ok (.bool b) W:=by
 subst hb
 unfold strQ
 simp[go_sem]
theorem sv_guard (x y:Operand) (l m:List UInt8) (W:World):(eqGuard .neq 9 x y (strQ l) (strQ m)).run Tryz.prog W=.ok () W:=by
 unfold strQ
 simp[go_sem,eqGuard]
def mixG (xs e1 e2:Bool) (A1:Option Addr) (t1 c1:Nat) (b ah sm:List UInt8) (H:Nat) (mv:Value):Gw.Fact:=fun t v w=>
 match t with
 |11|20|21=>v=.bool xs
 |9=>v=.slice A1 t1 c1
 |2=>v=strQ ah
 |7=>v=.pointer (some ⟨H,0,none⟩)
 |22=>xs=true→v=.slice A1 t1 c1
 |23=>xs=true→v=strQ b
 |24=>xs=true→v=strQ ah
 |25=>xs=true→v=.bool e1
 |26|27=>v=.bool (xs&&e1)
 |28=>(xs&&e1)=true→v=.slice A1 t1 c1
 |29=>(xs&&e1)=true→v=strQ b
 |30=>(xs&&e1)=true→v=mv
 |31=>(xs&&e1)=true→∃X,(∃cx,v=.slice X 2048 cx)∧Rd w w.heap.size X sm
 |32=>(xs&&e1)=true→v=strQ sm
 |33=>(xs&&e1)=true→v=.bool e2
 |34|8=>v=.bool (xs&&e1&&e2)
 |_=>True
def mixB (b ah sm:List UInt8) (x:Option ManD):Bool:=x.isSome&& !(b==ah)&& !(b==sm)
theorem mixB_false {b ah sm:List UInt8} {x:Option ManD} (h:mixB b ah sm x=false) (hx:x.isSome=true):b=ah∨b=sm:=by
 unfold mixB at h
 rw[hx] at h
 simp at h
 by_cases hba:b=ah
 ·exact .inl hba
 ·exact .inr (h hba)
def MixPost (w:World) (b ah sm:List UInt8) (x:Option ManD) (e:Ending) (w':World):Prop:=
 Below w.heap.size w w'∧e=.returned (.bool (mixB b ah sm x))
set_option maxRecDepth 100000 in
set_option maxHeartbeats 4000000 in
theorem rmixed_any {own:Nat→Prop} {w:World} {M:RefM} {Am Aw:Option Addr} {nm cm nw cw:Nat} (h:RefAt w own M Am cm Aw cw) (hm:M.made.length=nm) (hw:M.wait.length=nw) (hnm:nm≤4611686018427387904) (hnw:nw≤4611686018427387904) (hb:∀i,(readR M i).length≤128)
 (k:Nat) (hk:k≤1) (ah:List UInt8) (A:Option Addr) (n c:Nat) (m:ManD) (hM:ManAt w w.heap.size A n c m) (hf:Fit m) (x:Option ManD) (hx:Says (slotR M k 16) x) :
 Calls Tryz.prog 51 #[.agg #[.int .i64 (M.count:Int),.bool M.off,.int .i64 M.fuse,.slice Am nm cm,.slice Aw nw cw],.int .i64 (k:Int),sv ah,mval m.version m.next A n c] w (MixPost w (slotR M k 16) ah (slotOf m) x):=by
 obtain ⟨H,hH⟩:∃H,H=w.heap.size:=⟨_,rfl⟩
 obtain ⟨b,hbb⟩:∃b,b=slotR M k 16:=⟨_,rfl⟩
 obtain ⟨sm,hsm⟩:∃sm,sm=slotOf m:=⟨_,rfl⟩
 have HSL:=Lib.hid (fun (W:World) (hB:Below w.heap.size w W)=>rslot_any (h.past hB) hm hw hnm hnw hb k hk)
 rw[←hbb] at HSL hx ⊢
 rw[←hsm]
 have HSM:=Lib.hid (show sm.length=2048 by rw[hsm];exact slotOf_length hf)
 have HRP:=Lib.hid (fun (W:World) (hB:Below w.heap.size w W)=>rputm_any A n c m W hf (hM.past hB))
 rw[←hsm] at HRP
 have HX:=Lib.hid hx
 obtain ⟨w0,hw0⟩:∃w0,w0=(w.alloc (.cells #[.int .i64 (M.count:Int),.bool M.off,.int .i64 M.fuse,.slice Am nm cm,.slice Aw nw cw] 59)):=⟨_,rfl⟩
 obtain ⟨w1,hw1⟩:∃w1,w1=w0.alloc (.cells #[.int .u64 (m.version:Int),.int .u32 (m.next:Int),.slice A n c] 38):=⟨_,rfl⟩
 have HW1:=Lib.hid (show w1=_ from hw0▸hw1)
 have hb0:Below w.heap.size w w0:=by rw[hw0];exact (Below.refl _ _).alloc (Nat.le_refl _) _
 have hb1:Below w0.heap.size w0 w1:=by rw[hw1];exact (Below.refl _ _).alloc (Nat.le_refl _) _
 have hs0:w0.heap.size=H+1:=by rw[hw0,hH];simp
 have HB1:=Lib.hid (hb0.trans (hb1.mono hb0.size))
 have D1:=Lib.hid (show Blk w1 H [.int .i64 (M.count:Int),.bool M.off,.int .i64 M.fuse,.slice Am nm cm,.slice Aw nw cw] by
  have:Blk w0 w.heap.size [.int .i64 (M.count:Int),.bool M.off,.int .i64 M.fuse,.slice Am nm cm,.slice Aw nw cw]:=by rw[hw0];exact Blk.new w [.int .i64 (M.count:Int),.bool M.off,.int .i64 M.fuse,.slice Am nm cm,.slice Aw nw cw] _
  rw[hH];exact this.past hb1)
 have K1:=Lib.hid (show Blk w1 (H+1) [.int .u64 (m.version:Int),.int .u32 (m.next:Int),.slice A n c] by rw[hw1];exact Blk.new' w0 [.int .u64 (m.version:Int),.int .u32 (m.next:Int),.slice A n c] _ hs0)
 have HH:=Lib.hid hH
 have q:=D1.out.five
 obtain ⟨q0,q1,q2,q3,q4⟩:=q
 rw[hw1,hw0,hH] at q0 q1 q2 q3 q4
 clear hH hbb hsm h hm hw hb hx hf hM hw0 hw1 hb0 hb1 hs0 hnm hnw
 go_enter Tryz.func51,Tryz.ntmps51
 go_wp2_with fail
 rw[←HW1.out,←HH.out]
 clear HW1 q0 q1 q2 q3 q4
 refine (HSL.out w1 HB1.out).mono ?_
 rintro e w2 ⟨hb2,A1,t1,c1,rfl,hl1,hc1,hcc1,ht1,hr1⟩
 have HB2:=Lib.hid (HB1.out.trans (hb2.mono HB1.out.size))
 have K2:=Lib.hid (K1.out.past hb2)
 have HL1:=Lib.hid hl1
 have HR1:=Lib.hid hr1
 clear hb2 hl1 hr1
 go_wp2_with fail
 refine (rget_any A1 t1 c1 b w2 HL1.out hc1 hcc1 HR1.out).mono ?_
 rintro e w3 ⟨hb3,h3⟩
 have HB3:=Lib.hid (HB2.out.trans (hb3.mono HB2.out.size))
 have K3:=Lib.hid (K2.out.past hb3)
 have HR3:=Lib.hid ((HR1.out.below hb3).more hb3.size)
 obtain ⟨xs,v3,x3,A3,n3,c3,he,hxs⟩:∃(xs:Bool) (v3 x3:Nat) (A3:Option Addr) (n3 c3:Nat),e=.returned (.tuple #[mval v3 x3 A3 n3 c3,.bool xs])∧xs=x.isSome:=by
  rcases h3 with ⟨m1,A3,n3,c3,hg,he,-,-⟩|⟨hno,he⟩
  ·exact ⟨true,m1.version,m1.next,A3,n3,c3,he,by rw[HX.out.get hg];rfl⟩
  ·exact ⟨false,0,0,none,0,0,he,by rw[HX.out.no hno];rfl⟩
 subst he
 have HXS:=Lib.hid hxs
 obtain ⟨w4,hw4⟩:∃w4,w4=w3.alloc (.cells #[.int .u64 (v3:Int),.int .u32 (x3:Int),.slice A3 n3 c3] 38):=⟨_,rfl⟩
 have HW4:=Lib.hid hw4
 have hb4:Below w3.heap.size w3 w4:=by rw[hw4];exact (Below.refl _ _).alloc (Nat.le_refl _) _
 have HB4:=Lib.hid (HB3.out.trans (hb4.mono HB3.out.size))
 have K4:=Lib.hid (K3.out.past hb4)
 have HR4:=Lib.hid ((HR3.out.below hb4).more hb4.size)
 clear hb3 h3 hw4 hb4 hxs K1 K2 K3 HB1 HB2 HR1 HR3 D1
 go_upto_region 3 with fail
 rw[←HW4.out]
 clear HW4
 obtain ⟨e1,he1⟩:∃e1,(!(b==ah))=e1:=⟨_,rfl⟩
 obtain ⟨e2,he2⟩:∃e2,(!(b==sm))=e2:=⟨_,rfl⟩
 have HE1:=Lib.hid he1
 have HE2:=Lib.hid he2
 clear he1 he2
 refine Gw.wp_region_grow (mixG xs e1 e2 A1 t1 c1 b ah sm (H+1) (mval m.version m.next A n c)) [20,21,22,23,24,25,26,27,28,29,30,31,32,33,34,8] [([11],none),([20],none),([9,21],some (21,true)),([22,21],some (21,true)),([2,21],some (21,true)),([23,24,21],some (21,true)),([21,25],none),([26],none),([9,27],some (27,true)),([28,27],some (27,true)),([7,27],some (27,true)),([30,27],some (27,true)),([31,27],some (27,true)),([29,32,27],some (27,true)),([27,33],none),([34],none)] 35 (by kernel_rfl) (by kernel_rfl) rfl ?h0 ?hreq ?hend
 case h0=>
  intro t W hnd _
  unfold mixG
  split<;>first|rfl|trivial|exact absurd (by simp) hnd
 case hreq=>
  refine ⟨?_,?_,?_,?_,?_,?_,?_,?_,?_,?_,?_,?_,?_,?_,?_,?_,trivial⟩
  all_goals
   intro ac W hg hk
   have k1:(convert 29 9 (.slice A1 t1 c1)).run Tryz.prog W=.ok (strQ b) W:=str_any A1 t1 c1 b W _ HL1.out (HR4.out.below hg)
   have n1:=sv_neq b ah e1 HE1.out W
   have n2:=sv_neq b sm e2 HE2.out W
   have K5:=K4.out.past (show Below w4.heap.size w4 W from hg)
   have i0:=K5.cell (i:=0) rfl
   have i1:=K5.cell (i:=1) rfl
   have i2:=K5.cell (i:=2) rfl
   simp only[Gw.Knows,mixG] at hk
   try (cases xs<;>cases e1<;>(simp[go_sem,Gw.OpReq,Gw.Ok,Gw.Post,Gw.Holds,mixG,Gw.Grows.refl,hk,k1,n1,n2,i0,i1,i2,sv_guard,mval];done))
  ·cases xs with
   |false=>simp[Gw.OpReq,Gw.Post,Gw.Holds,mixG,hk]
   |true=>cases e1 with
    |false=>simp[Gw.OpReq,Gw.Post,Gw.Holds,mixG,hk]
    |true=>
     simp[go_sem,Gw.OpReq,Gw.Ok,Gw.Post,Gw.Holds,mixG,Gw.Grows.refl,hk]
     refine (HRP.out W (HB4.out.trans (Below.mono (show Below w4.heap.size w4 W from hg) HB4.out.size))).mono ?_
     rintro e w5 ⟨v,rfl,ho5,hb5⟩
     obtain ⟨X,cx,rfl,-⟩:=own_slice' ho5
     exact ⟨_,rfl,hb5,fun W2 hW2=>⟨X,⟨cx,rfl⟩,((Rd.of_own ho5).below hW2).more (Below.size hW2)⟩⟩
  ·cases xs with
   |false=>simp[Gw.OpReq,Gw.Post,Gw.Holds,mixG,hk]
   |true=>cases e1 with
    |false=>simp[Gw.OpReq,Gw.Post,Gw.Holds,mixG,hk]
    |true=>
     obtain ⟨⟨X,⟨cx,he⟩,hr5⟩,hk2⟩:(∃X,(∃cx,_=Value.slice X 2048 cx)∧Rd W W.heap.size X sm)∧_:=⟨hk.1 rfl,hk.2⟩
     have k3:(convert 29 9 (.slice X 2048 cx)).run Tryz.prog W=.ok (strQ sm) W:=str_any X 2048 cx sm W _ HSM.out hr5
     simp[go_sem,Gw.OpReq,Gw.Ok,Gw.Post,Gw.Holds,mixG,Gw.Grows.refl,he,k3,hk2]
 case hend=>
  intro x' w' hg hx'
  have h8:=(hx' 8 (by simp)).now
  have HB9:=Lib.hid (HB4.out.trans (Below.mono (show Below w4.heap.size w4 w' from hg) HB4.out.size))
  clear hx' hg
  simp only[Gw.putAll,Act.put,List.setIfInBounds_toArray,List.set_cons_zero,List.set_cons_succ]
  rw[show x' 8=.bool (xs&&e1&&e2) from h8]
  go_wp2
  go_ret
  refine ⟨HB9.out,?_⟩
  show Ending.returned (.bool (xs&&e1&&e2))=_
  unfold mixB
  rw[HE1.out,HE2.out,HXS.out]
end Go.Proofs.YtiocpefgccndbaaGreat
end
section
namespace Go.Proofs.YtiocpefgccndbaaGreat
open Go.RowKit Me Mf Rw Ds
theorem mdl_refq {w wr w7:World} {H b1 k c q:Nat} {S:Dsk} {own:Nat→Prop} {A:Option Addr} (h:∀k,own k→k<w.heap.size) (hw:w.heap.size≤b1+1) (O:wr.ownsRow (b1+1) 113 2 (.slice A k c) k (Rw.rows wCells (madeOf S k))) (ho:Out (fun j=>j=H) wr w7) (hH:H<b1) (hc:k≤c) :
 RefAt w7 own ⟨q,false,-1,madeOf S k,[]⟩ A c none 0:=
 ⟨Cy.of_own (base:=b1+1) (own_out O ho fun j hj e=>by have:=(O.lt j hj).1;omega) (fun j hj hk=>by have:=h j hk;omega),Cy.empty,by rw[madeOf_length];exact hc,Nat.le_refl _⟩
set_option maxRecDepth 100000 in
set_option maxHeartbeats 2000000 in
theorem slots_on {w:World} {B D:Nat} {S:Dsk} {own ownQ:Nat→Prop} (h:DiskAt w B D S own) (hq0:∀k,ownQ k→k<w.heap.size) (hp:S.pend.length<4611686018427387904) (hon:S.on=true) (h32:32≤S.stored.length) :
 Calls Tryz.prog 26 #[.pointer (some ⟨D,0,none⟩)] w (MdlPost w ownQ (mdlR S)):=by
 obtain ⟨i0,hi0,hz0,hz1,hz2⟩:=info_parts w_info'
 obtain ⟨H,hH⟩:∃H,H=w.heap.size:=⟨_,rfl⟩
 obtain ⟨q,hq⟩:∃q,q=S.stored.length:=⟨_,rfl⟩
 have HQ:=Lib.hid hq
 have HD:=Lib.hid h
 have HQ0:=Lib.hid hq0
 have HC:=Lib.hid (fun (W:World) (hb:Below w.heap.size w W)=>count_any (h.past hb))
 rw[←hq] at HC
 have HE:=Lib.hid (show ∀k:Nat,k<q→readE S (k:Int)=0 from fun k hk=>by unfold readE;rw[hon,hasB_nat,decide_eq_true (by omega)];rfl)
 have HFI:=Lib.hid h.good
 have hq16:q≤65536:=by rw[hq];exact h.good.2.2.2.1
 have HR5:=Lib.hid (fun (k:Nat) (hk:k<q)=>show readD S (k:Int)=latestD S k by unfold readD;rw[if_pos (HE.out k hk)];rfl)
 obtain ⟨w0,hw0⟩:∃w0,w0=w.alloc (.cells #[.int .i64 0,.bool false,.int .i64 0,.slice none 0 0,.slice none 0 0] 59):=⟨_,rfl⟩
 have HW0:=Lib.hid hw0
 have HB0:=Lib.hid (show Below w.heap.size w w0 by rw[hw0];exact (Below.refl _ _).alloc (Nat.le_refl _) _)
 have RS0:=Lib.hid (show Blk w0 H [.int .i64 0,.bool false,.int .i64 0,.slice none 0 0,.slice none 0 0] by rw[hw0,hH];exact Blk.new w [.int .i64 0,.bool false,.int .i64 0,.slice none 0 0,.slice none 0 0] _)
 have hs0:w0.heap.size=H+1:=by rw[hw0,hH];simp
 have HHW:=Lib.hid hH
 have hwH:w.heap.size≤H:=by omega
 have HMA:=Lib.hid (show mdlR S=⟨q,false,-1,madeOf S 32,[]⟩ by unfold mdlR least32;rw[if_pos h32,hq])
 have hq32:32≤q:=by omega
 clear h hw0 hH hon hq h32 hq0
 go_enter Tryz.func26,Tryz.ntmps26
 go_wp2_with fail
 rw[←HW0.out,←HHW.out]
 refine (HC.out w0 HB0.out).mono ?_
 rintro e w' ⟨rfl,rfl⟩
 clear HW0
 go_wp2_with fail
 refine (rnew_any (q:Int) w0).mono ?_
 rintro e w1 ⟨rfl,hb1⟩
 obtain ⟨b1,hb1s⟩:∃b1,b1=w1.heap.size:=⟨_,rfl⟩
 obtain ⟨w2,hw2⟩:∃w2,w2=w1.alloc (.cells #[.int .i64 (q:Int),.bool false,.int .i64 (-1),.slice none 0 0,.slice none 0 0] 59):=⟨_,rfl⟩
 have HW2:=Lib.hid hw2
 have HS1:=Lib.hid hb1s
 have hb2:Below w1.heap.size w1 w2:=by rw[hw2];exact (Below.refl _ _).alloc (Nat.le_refl _) _
 have h01:=hb1.size
 have HB2:=Lib.hid ((HB0.out.trans (hb1.mono HB0.out.size)).trans (hb2.mono (Nat.le_trans HB0.out.size hb1.size)))
 have RS2:=Lib.hid ((RS0.out.past hb1).past hb2)
 have BX2:=Lib.hid (show Blk w2 b1 [.int .i64 (q:Int),.bool false,.int .i64 (-1),.slice none 0 0,.slice none 0 0] by rw[hw2,hb1s];exact Blk.new w1 [.int .i64 (q:Int),.bool false,.int .i64 (-1),.slice none 0 0,.slice none 0 0] _)
 have hHb:H<b1:=by omega
 have O2:=Lib.hid (show w2.ownsRow (b1+1) 113 2 (.slice none 0 0) 0 (Rw.rows wCells (madeOf S 0)) from World.ownsRow_nil _ _ _ _)
 clear hb1 hb2 hw2 hb1s RS0 HB0 h01
 go_wp2_with fail
 rw[←HW2.out,←HS1.out]
 clear HW2 HS1
 go_loopw [4] (fun i wr=>∃(k c:Nat) (A:Option Addr),k≤32∧i=.int .i64 (k:Int)∧k≤c∧Hid (Blk wr b1 [.int .i64 (q:Int),.bool false,.int .i64 (-1),.slice A k c,.slice none 0 0])∧Hid (wr.ownsRow (b1+1) 113 2 (.slice A k c) k (Rw.rows wCells (madeOf S k)))∧Hid (Blk wr H [.int .i64 0,.bool false,.int .i64 0,.slice none 0 0,.slice none 0 0])∧Hid (Below w.heap.size w wr)) (fun i _=>32-(intOf i).toNat)
 case atStart=>exact ⟨0,0,none,Nat.zero_le _,rfl,Nat.le_refl _,BX2,O2,RS2,HB2⟩
 case round=>
  clear BX2 O2 RS2 HB2
  obtain ⟨k,c,A,hkl,rfl,hkc,BX,O,RS,HB⟩:=hrel
  have HBl:=BX.out.lt
  obtain ⟨x0,x1,x2,x3,x4⟩:=BX.out.five
  by_cases hlt:k<32
  ·have hkq:k<q:=by omega
   have hkq':(k:Int)<32:=by omega
   have HEK:=Lib.hid (HE.out k hkq)
   obtain ⟨b,hb⟩:∃b,b=readD S (k:Int):=⟨_,rfl⟩
   have HBB:=Lib.hid hb
   have HLT:=Lib.hid (HR5.out k hkq)
   clear hb hkl
   go_wp2_with fail
   refine (read_any (HD.out.past HB.out) (k:Int) hp).mono ?_
   rw[HEK.out,←HBB.out]
   rintro e w3 ⟨hb3,A3,n3,rfl,hl3,hr3⟩
   have HB3:=Lib.hid (HB.out.trans (hb3.mono HB.out.size))
   have RS3:=Lib.hid (RS.out.past hb3)
   have BX3:=Lib.hid (BX.out.past hb3)
   have O3:=Lib.hid (own_below' O.out hb3)
   have hR3:Rd w3 w3.heap.size A3 b:=fun hn=>by
    obtain ⟨g,rfl,hg,hB⟩:=hr3 (by omega)
    refine ⟨_,rfl,hB.lt,fun i u hu=>?_⟩
    rw[Addr.add_mid,Nat.zero_add]
    exact hB.cell (cellsOf_get hu)
   have es:=str_any A3 n3 n3 b w3 _ hl3 hR3
   have hs3:=BX3.out.lt
   clear hb3 hl3 hr3 hR3 x0 x1 x2 x3 x4
   obtain ⟨x0,x1,x2,x3,x4⟩:=BX3.out.five
   have HS3:=Lib.hid hs3
   clear hs3
   go_wp2_with (at_builtin
                refine wpList_append_row rfl _ _ 57 rfl (b1+1) 113 i0 _ 2 24 Tryz.underlying57 hi0 hz0 hz1 hz2 rfl (by decide) (.slice A k c) k _ rfl (O3.out.alloc _) (some ⟨w3.heap.size,0,none⟩) 1 1 (wCells ⟨k,b⟩) rfl rfl (fun _=>⟨_,rfl,two_lit rfl⟩) (wCells_one ⟨k,b⟩) (by unfold maxLen;omega) (by omega) (by simp;have:=HS3.out;omega) ?_
                intro v4 w4 ho4 hg4 _
                obtain ⟨A4,c4,e4,hc4⟩:=own_slice' ho4
                subst e4
                have hne:(Value.slice A k c).ownBlock≠some b1:=fun e=>by have:=(O3.out.lt _ e).1;omega
                have hneH:(Value.slice A k c).ownBlock≠some H:=fun e=>by have:=(O3.out.lt _ e).1;omega
                have BX4:=Lib.hid ((BX3.out.alloc _).grown hg4 hne)
                have RS4:=Lib.hid ((RS3.out.alloc _).grown hg4 hneH)
                have O4:=Lib.hid ho4
                have HB4:=Lib.hid (below_app_row HB3.out (O3.out.alloc _) ⟨HB3.out.size,by have:=HHW.out;omega⟩ hg4)
                obtain ⟨y0,y1,y2,y3,y4⟩:=BX4.out.five
                obtain ⟨f0,f1,f2,f3,f4⟩:=BX4.out.five_free
                clear ho4 hg4 hne hneH)
   have hwb:w.heap.size≤b1:=by omega
   have BX5:=Lib.hid (show Blk (w4.setCell ⟨b1,3,none⟩ (.slice A4 (k+1) c4)) b1 [.int .i64 (q:Int),.bool false,.int .i64 (-1),.slice A4 (k+1) c4,.slice none 0 0] from BX4.out.set 3 _)
   have RS5:=Lib.hid (RS4.out.other (p:=⟨b1,3,none⟩) (by show b1≠H;omega) (.slice A4 (k+1) c4))
   have O5:=Lib.hid (show (w4.setCell ⟨b1,3,none⟩ (.slice A4 (k+1) c4)).ownsRow (b1+1) 113 2 (.slice A4 (k+1) c4) (k+1) (Rw.rows wCells (madeOf S (k+1))) by
    have:=own_past O4.out (grownBy_set w4 ⟨b1,3,none⟩ (.slice A4 (k+1) c4)) (by show b1<b1+1;omega)
    rw[madeOf_succ,rows_snoc,←HLT.out,←HBB.out]
    exact this)
   have HB5:=Lib.hid (HB4.out.setCell (p:=⟨b1,3,none⟩) hwb (.slice A4 (k+1) c4))
   clear x0 x1 x2 x3 x4 y0 y1 y2 y3 y4 f0 f1 f2 f3 f4 BX4 RS4 O4 HB4
   go_roundw
   case rel=>exact ⟨k+1,c4,A4,by omega,by go_num,hc4,BX5,O5,RS5,HB5⟩
   case measure=>simp[intOf];omega
  ·obtain rfl:k=32:=by omega
   clear hlt hkl
   go_wp2_with (refine wpList_store_blk rfl 59 _ _ rfl H _ #[.int .i64 (q:Int),.bool false,.int .i64 (-1),.slice A 32 c,.slice none 0 0] rfl rfl RS.out rfl d_size' (d_one' _ _ _ _ _ _ _ _ _) ?_
                intro w7 hb7 ho7
                have HB7:=Lib.hid (show Blk w7 H [.int .i64 (q:Int),.bool false,.int .i64 (-1),.slice A 32 c,.slice none 0 0] from hb7)
                have HO7:=Lib.hid ho7
                clear hb7 ho7)
   obtain ⟨r0,r1,r2,r3,r4⟩:=HB7.out.five
   refine bodyPost_ret (v:=.agg #[.int .i64 (q:Int),.bool false,.int .i64 (-1),.slice A 32 c,.slice none 0 0]) (by simp[results,Tryz.results26,go_sem,r0,r1,r2,r3,r4]) rfl ?_
   rw[HMA.out]
   exact ⟨HB.out.trans (HO7.out.below (B:=w.heap.size) (fun k _ hk=>by omega) HB.out.size),A,32,c,rfl,madeOf_length S 32,by omega,mdl_refq (HQ0.out) (by have:=HHW.out;omega) O.out HO7.out hHb hkc⟩
end Go.Proofs.YtiocpefgccndbaaGreat
end
section
namespace Go.Proofs.YtiocpefgccndbaaGreat
open Go.RowKit Me Mf Rw Ds
def mxG (kv wv mv:Value) (HK HW HM:Nat) (a0 a1:List UInt8) (q0 q1:Bool):Gw.Fact:=fun t v w=>
 match t with
 |7=>v=.pointer (some ⟨HK,0,none⟩)
 |4=>v=.pointer (some ⟨HW,0,none⟩)
 |5=>v=.pointer (some ⟨HM,0,none⟩)
 |10=>v=kv
 |11=>v=wv
 |12=>∃A t,(∃c,v=.slice A t c)∧a0.length=t∧Rd w w.heap.size A a0
 |13=>v=strQ a0
 |14=>v=mv
 |15|16=>v=.bool q0
 |17=>q0=false→v=kv
 |18=>q0=false→v=wv
 |19=>q0=false→∃A t,(∃c,v=.slice A t c)∧a1.length=t∧Rd w w.heap.size A a1
 |20=>q0=false→v=strQ a1
 |21=>q0=false→v=mv
 |22=>q0=false→v=.bool q1
 |23|6=>v=.bool (q0||q1)
 |_=>True
def refV (m:RefM) (Am:Option Addr) (nm cm:Nat) (Aw:Option Addr) (nw cw:Nat):Value:=
 .agg #[.int .i64 (m.count:Int),.bool m.off,.int .i64 m.fuse,.slice Am nm cm,.slice Aw nw cw]
theorem refV_def (m:RefM) (Am:Option Addr) (nm cm:Nat) (Aw:Option Addr) (nw cw:Nat):refV m Am nm cm Aw nw cw=.agg #[.int .i64 (m.count:Int),.bool m.off,.int .i64 m.fuse,.slice Am nm cm,.slice Aw nw cw]:=rfl
set_option maxRecDepth 100000 in
set_option maxHeartbeats 4000000 in
theorem mixed_any {w:World} {B D:Nat} {S:Dsk} {own own':Nat→Prop} (h:DiskAt w B D S own) (hp:S.pend.length<4611686018427387904) (hon:S.on=true) (h32:32≤S.stored.length) {R:RefM} {Am Aw:Option Addr} {nm cm nw cw:Nat} (hR:RefAt w own' R Am cm Aw cw) (hm:R.made.length=nm) (hw:R.wait.length=nw) (hnm:nm≤4611686018427387904) (hnw:nw≤4611686018427387904)
 (hb:∀i,(readR R i).length≤128) {A:Option Addr} {n c:Nat} {m:ManD} (hM:ManAt w w.heap.size A n c m) (hf:Fit m) {x0 x1:Option ManD} (hx0:Says (slotD S 0 16) x0) (hx1:Says (slotD S 1 16) x1) :
 Calls Tryz.prog 24 #[.pointer (some ⟨D,0,none⟩),refV R Am nm cm Aw nw cw,mval m.version m.next A n c] w fun e w'=>Below w.heap.size w w'∧e=.returned (.bool (mixB (slotD S 0 16) (slotR R 0 16) (slotOf m) x0||mixB (slotD S 1 16) (slotR R 1 16) (slotOf m) x1)):=by
 obtain ⟨H,hH⟩:∃H,H=w.heap.size:=⟨_,rfl⟩
 obtain ⟨w0,hw0⟩:∃w0,w0=(w.alloc (.cells #[.int .i64 (R.count:Int),.bool R.off,.int .i64 R.fuse,.slice Am nm cm,.slice Aw nw cw] 59)):=⟨_,rfl⟩
 obtain ⟨w1,hw1⟩:∃w1,w1=w0.alloc (.cells #[.int .u64 (m.version:Int),.int .u32 (m.next:Int),.slice A n c] 38):=⟨_,rfl⟩
 have HW1:=Lib.hid (show w1=_ from hw0▸hw1)
 have hb0:Below w.heap.size w w0:=by rw[hw0];exact (Below.refl _ _).alloc (Nat.le_refl _) _
 have hb1:Below w0.heap.size w0 w1:=by rw[hw1];exact (Below.refl _ _).alloc (Nat.le_refl _) _
 have hs0:w0.heap.size=H+1:=by rw[hw0,hH];simp
 have HB1:=Lib.hid (hb0.trans (hb1.mono hb0.size))
 have D1:=Lib.hid (show Blk w1 H [.int .i64 (R.count:Int),.bool R.off,.int .i64 R.fuse,.slice Am nm cm,.slice Aw nw cw] by
  have:Blk w0 w.heap.size [.int .i64 (R.count:Int),.bool R.off,.int .i64 R.fuse,.slice Am nm cm,.slice Aw nw cw]:=by rw[hw0];exact Blk.new w [.int .i64 (R.count:Int),.bool R.off,.int .i64 R.fuse,.slice Am nm cm,.slice Aw nw cw] _
  rw[hH];exact this.past hb1)
 have K1:=Lib.hid (show Blk w1 (H+1) [.int .u64 (m.version:Int),.int .u32 (m.next:Int),.slice A n c] by rw[hw1];exact Blk.new' w0 [.int .u64 (m.version:Int),.int .u32 (m.next:Int),.slice A n c] _ hs0)
 have HH:=Lib.hid hH
 have HSL:=Lib.hid (slots_on (ownQ:=own) (h.past HB1.out) (fun k hk=>((h.past HB1.out).lt hk).2) hp hon h32)
 have HFI:=Lib.hid h.good
 have HE0:=Lib.hid (slotR_mdl hon (n:=0) (by omega) 16 (Nat.le_refl _))
 have HE1:=Lib.hid (slotR_mdl hon (n:=1) (by omega) 16 (Nat.le_refl _))
 have HKW:=Lib.hid (show (mdlR S).wait.length=0 from rfl)
 have HKB:=Lib.hid (readR_mdl_le h.good)
 obtain ⟨K,hK⟩:∃K,K=mdlR S:=⟨_,rfl⟩
 obtain ⟨b0,hb0'⟩:∃b0,b0=slotD S 0 16:=⟨_,rfl⟩
 obtain ⟨b1,hb1'⟩:∃b1,b1=slotD S 1 16:=⟨_,rfl⟩
 rw[←hK] at HSL HE0 HE1 HKW HKB
 rw[←hb0'] at HE0 hx0 ⊢
 rw[←hb1'] at HE1 hx1 ⊢
 obtain ⟨a0,ha0⟩:∃a0,a0=slotR R 0 16:=⟨_,rfl⟩
 obtain ⟨a1,ha1⟩:∃a1,a1=slotR R 1 16:=⟨_,rfl⟩
 obtain ⟨q0,hq0⟩:∃q0,q0=mixB b0 a0 (slotOf m) x0:=⟨_,rfl⟩
 obtain ⟨q1,hq1⟩:∃q1,q1=mixB b1 a1 (slotOf m) x1:=⟨_,rfl⟩
 have HQ:=Lib.hid (And.intro hq0 hq1)
 have HR:=Lib.hid (fun (W:World) (hB:Below w.heap.size w W)=>And.intro (rslot_any (hR.past hB) hm hw hnm hnw hb 0 (by omega)) (rslot_any (hR.past hB) hm hw hnm hnw hb 1 (by omega)))
 have HMM:=Lib.hid (fun (W:World) (hB:Below w.heap.size w W)=>hM.past hB)
 have HFT:=Lib.hid hf
 have HX:=Lib.hid (And.intro hx0 hx1)
 rw[←ha0,←ha1] at HR ⊢
 rw[refV_def,←hq0,←hq1]
 clear hK hb0' hb1' ha0 ha1 hq0 hq1 h hp hon h32 hR hm hw hnm hnw hb hM hf hx0 hx1 hH hw0 hw1 hb0 hb1 hs0
 go_enter Tryz.func24,Tryz.ntmps24
 go_upto_region 1 with fail
 rw[←HW1.out,←HH.out]
 clear HW1
 go_wp2_with fail
 refine HSL.out.mono ?_
 rintro e w2 ⟨hb2,Ak,nk,ck,rfl,hnk,hnk32,hk⟩
 obtain ⟨G,hG⟩:∃G,G=w2.heap.size:=⟨_,rfl⟩
 obtain ⟨w3,hw3⟩:∃w3,w3=w2.alloc (.cells #[.int .i64 (K.count:Int),.bool K.off,.int .i64 K.fuse,.slice Ak nk ck,.slice none 0 0] 59):=⟨_,rfl⟩
 have hb3:Below w2.heap.size w2 w3:=by rw[hw3];exact (Below.refl _ _).alloc (Nat.le_refl _) _
 have HW3:=Lib.hid hw3
 have HG:=Lib.hid hG
 have HB3:=Lib.hid ((HB1.out.trans (hb2.mono HB1.out.size)).trans (hb3.mono (Nat.le_trans HB1.out.size hb2.size)))
 have D3:=Lib.hid ((D1.out.past hb2).past hb3)
 have K3:=Lib.hid ((K1.out.past hb2).past hb3)
 have G3:=Lib.hid (show Blk w3 G [.int .i64 (K.count:Int),.bool K.off,.int .i64 K.fuse,.slice Ak nk ck,.slice none 0 0] by rw[hw3,hG];exact Blk.new w2 [.int .i64 (K.count:Int),.bool K.off,.int .i64 K.fuse,.slice Ak nk ck,.slice none 0 0] _)
 have HK3:=Lib.hid (hk.past hb3)
 have HNK:=Lib.hid hnk
 clear hb2 hb3 hw3 hG hnk hk D1 K1 HB1 HSL
 go_upto_region 2 with fail
 rw[←HW3.out,←HG.out]
 clear HW3 HG
 have HX0:=Lib.hid (fun (W:World) (hW:Below w3.heap.size w3 W)=>rmixed_any (HK3.out.past hW) HNK.out HKW.out (by omega) (by omega) HKB.out 0 (by omega) a0 A n c m (HMM.out W (HB3.out.trans (hW.mono HB3.out.size))) HFT.out x0 (by rw[HE0.out];exact HX.out.1))
 have HX1:=Lib.hid (fun (W:World) (hW:Below w3.heap.size w3 W)=>rmixed_any (HK3.out.past hW) HNK.out HKW.out (by omega) (by omega) HKB.out 1 (by omega) a1 A n c m (HMM.out W (HB3.out.trans (hW.mono HB3.out.size))) HFT.out x1 (by rw[HE1.out];exact HX.out.2))
 rw[HE0.out] at HX0
 rw[HE1.out] at HX1
 have HS0:=Lib.hid (fun (W:World) (hW:Below w3.heap.size w3 W)=>HR.out W (HB3.out.trans (hW.mono HB3.out.size)))
 refine Gw.wp_region_grow (mxG (refV K Ak nk ck none 0 0) (refV R Am nm cm Aw nw cw) (mval m.version m.next A n c) G H (H+1) a0 a1 q0 q1) [10,11,12,13,14,15,16,17,18,19,20,21,22,23,6] [([7],none),([4],none),([11],none),([12],none),([5],none),([10,13,14],none),([15],none),([7,16],some (16,false)),([4,16],some (16,false)),([18,16],some (16,false)),([19,16],some (16,false)),([5,16],some (16,false)),([17,20,21,16],some (16,false)),([16,22],none),([23],none)] 24 (by kernel_rfl) (by kernel_rfl) rfl ?h0 ?hreq ?hend
 case h0=>
  intro t W hnd _
  unfold mxG
  split<;>first|(exfalso;apply hnd;decide)|rfl|trivial
 case hreq=>
  refine ⟨?_,?_,?_,?_,?_,?_,?_,?_,?_,?_,?_,?_,?_,?_,?_,trivial⟩
  all_goals
   intro ac W hg hk
   have hg':Below w3.heap.size w3 W:=hg
   obtain ⟨g0,g1,g2,g3,g4⟩:=(G3.out.past hg').five
   obtain ⟨d0,d1,d2,d3,d4⟩:=(D3.out.past hg').five
   have k0:=(K3.out.past hg').cell (i:=0) rfl
   have k1:=(K3.out.past hg').cell (i:=1) rfl
   have k2:=(K3.out.past hg').cell (i:=2) rfl
   simp only[Gw.Knows,mxG] at hk
   try (cases q0<;>(simp[go_sem,Gw.OpReq,Gw.Ok,Gw.Post,Gw.Holds,mxG,Gw.Grows.refl,hk,g0,g1,g2,g3,g4,d0,d1,d2,d3,d4,k0,k1,k2,mval,refV];done))
  ·simp[go_sem,Gw.OpReq,Gw.Ok,Gw.Post,Gw.Holds,mxG,Gw.Grows.refl,hk,refV,mval]
   refine ((HS0.out W hg').1).mono ?_
   rintro e w5 ⟨hb5,A5,t5,c5,rfl,hl5,-,-,-,hr5⟩
   exact ⟨_,rfl,hb5,fun W2 hW2=>⟨A5,t5,⟨c5,rfl⟩,hl5,(hr5.below hW2).more (Below.size hW2)⟩⟩
  ·obtain ⟨A5,t5,⟨c5,e5⟩,hl5,hr5⟩:=hk.1
   have k3:(convert 29 9 (.slice A5 t5 c5)).run Tryz.prog W=.ok (strQ a0) W:=str_any A5 t5 c5 a0 W _ hl5 hr5
   simp[go_sem,Gw.OpReq,Gw.Ok,Gw.Post,Gw.Holds,mxG,Gw.Grows.refl,e5,k3]
  ·simp[go_sem,Gw.OpReq,Gw.Ok,Gw.Post,Gw.Holds,mxG,Gw.Grows.refl,hk,refV,mval]
   refine (HX0.out W hg').mono ?_
   rintro e w5 ⟨hb5,rfl⟩
   exact ⟨_,rfl,hb5,fun _ _=>by rw[←HQ.out.1]⟩
  ·cases q0 with
   |true=>simp[Gw.OpReq,Gw.Post,Gw.Holds,mxG,hk]
   |false=>
    simp[go_sem,Gw.OpReq,Gw.Ok,Gw.Post,Gw.Holds,mxG,Gw.Grows.refl,hk,refV,mval]
    refine ((HS0.out W hg').2).mono ?_
    rintro e w5 ⟨hb5,A5,t5,c5,rfl,hl5,-,-,-,hr5⟩
    exact ⟨_,rfl,hb5,fun W2 hW2=>⟨A5,t5,⟨c5,rfl⟩,hl5,(hr5.below hW2).more (Below.size hW2)⟩⟩
  ·cases q0 with
   |true=>simp[Gw.OpReq,Gw.Post,Gw.Holds,mxG,hk]
   |false=>
    obtain ⟨A5,t5,⟨c5,e5⟩,hl5,hr5⟩:=hk.1 rfl
    have hk2:=hk.2
    have k3:(convert 29 9 (.slice A5 t5 c5)).run Tryz.prog W=.ok (strQ a1) W:=str_any A5 t5 c5 a1 W _ hl5 hr5
    simp[go_sem,Gw.OpReq,Gw.Ok,Gw.Post,Gw.Holds,mxG,Gw.Grows.refl,e5,k3,hk2]
  ·cases q0 with
   |true=>simp[Gw.OpReq,Gw.Post,Gw.Holds,mxG,hk]
   |false=>
    simp[go_sem,Gw.OpReq,Gw.Ok,Gw.Post,Gw.Holds,mxG,Gw.Grows.refl,hk,refV,mval]
    refine (HX1.out W hg').mono ?_
    rintro e w5 ⟨hb5,rfl⟩
    exact ⟨_,rfl,hb5,fun _ _=>by rw[←HQ.out.2]⟩
 case hend=>
  intro y w9 hg hy
  have h6:y 6=.bool (q0||q1):=(hy 6 (by simp)).now
  have HB9:=Lib.hid (HB3.out.trans (Below.mono (show Below w3.heap.size w3 w9 from hg) HB3.out.size))
  clear hg hy
  simp only[Gw.putAll,Act.put,List.setIfInBounds_toArray,List.set_cons_zero,List.set_cons_succ]
  rw[h6]
  go_wp2
  go_ret
  exact ⟨HB9.out,rfl⟩
end Go.Proofs.YtiocpefgccndbaaGreat
end
section
namespace Go.Proofs.YtiocpefgccndbaaGreat
open Go.RowKit Me Mf Rw Ds
set_option maxRecDepth 100000 in
set_option maxHeartbeats 4000000 in
theorem rread_bigk {own:Nat→Prop} {w:World} {M:RefM} {Am Aw:Option Addr} {nm cm nw cw:Nat} {T:Nat→Option ManD} {Z:Nat→Bool} (h:RefAt w own M Am cm Aw cw) (hm:M.made.length=nm) (hw:M.wait.length=nw) (hnm:nm≤4611686018427387904) (hnw:nw≤4611686018427387904) (hb:∀i,(readR M i).length≤128) (hs:32<M.count) (hoff:M.off=false)
 (hT:∀k,k<2→Says (slotR M k 16) (T k)) (hZ:∀k,k<2→Z k=zeros (slotR M k 16)) :
 Calls Tryz.prog 27 #[.agg #[.int .i64 (M.count:Int),.bool M.off,.int .i64 M.fuse,.slice Am nm cm,.slice Aw nw cw]] w (RdPostK w (ansOf (curOf T 2) (blkOf Z 2))):=by
 obtain ⟨H,hH⟩:∃H,H=w.heap.size:=⟨_,rfl⟩
 have HSL:=Lib.hid (fun (n:Nat) (hn:n≤1) (W:World) (hb:Below w.heap.size w W)=>rslot_any (h.past hb) hm hw hnm hnw ‹_› n hn)
 have HT:=Lib.hid hT
 have HZ:=Lib.hid hZ
 obtain ⟨P,hP⟩:∃P,P=ansOf (curOf T 2) (blkOf Z 2):=⟨_,rfl⟩
 rw[←hP]
 have HP:=Lib.hid hP
 obtain ⟨q,hq⟩:∃q,q=M.count:=⟨_,rfl⟩
 rw[←hq] at HSL hs ⊢
 rw[hoff] at HSL ⊢
 generalize M.fuse=fu at HSL ⊢
 obtain ⟨w1,hw1⟩:∃w1,w1=(w.alloc (.cells #[.int .i64 (q:Int),.bool false,.int .i64 fu,.slice Am nm cm,.slice Aw nw cw] 59)):=⟨_,rfl⟩
 obtain ⟨wz,hwz⟩:∃wz,wz=(w1.alloc (.cells #[.int .u64 0,.int .u32 0,.slice none 0 0] 38)).alloc (.cells #[.int .u64 0,.int .u32 0,.slice none 0 0] 38):=⟨_,rfl⟩
 have HWZ:=Lib.hid (show wz=_ from hw1▸hwz)
 have hb1:Below w.heap.size w w1:=by rw[hw1];exact (Below.refl _ _).alloc (Nat.le_refl _) _
 have hbz:Below w1.heap.size w1 wz:=by rw[hwz];exact ((Below.refl _ _).alloc (Nat.le_refl _) _).alloc (by simp) _
 have hs1:w1.heap.size=H+1:=by rw[hw1,hH];simp
 have HB0:=Lib.hid (hb1.trans (hbz.mono hb1.size))
 have DB0:=Lib.hid (show Blk wz H [.int .i64 (q:Int),.bool false,.int .i64 fu,.slice Am nm cm,.slice Aw nw cw] by
  have:Blk w1 w.heap.size [.int .i64 (q:Int),.bool false,.int .i64 fu,.slice Am nm cm,.slice Aw nw cw]:=by rw[hw1];exact Blk.new w [.int .i64 (q:Int),.bool false,.int .i64 fu,.slice Am nm cm,.slice Aw nw cw] _
  rw[hH]
  exact this.past hbz)
 have RS0:=Lib.hid (show Blk wz (H+1) [.int .u64 0,.int .u32 0,.slice none 0 0] by rw[hwz];exact (Blk.new' w1 [.int .u64 0,.int .u32 0,.slice none 0 0] _ hs1).alloc _)
 have CU0:=Lib.hid (show Blk wz (H+2) [.int .u64 ((noMan.version:Nat):Int),.int .u32 ((noMan.next:Nat):Int),.slice none 0 0] by rw[hwz];exact Blk.new' _ [.int .u64 0,.int .u32 0,.slice none 0 0] _ (by simp[hs1]))
 have HHW:=Lib.hid hH
 have hwH:w.heap.size≤H:=by omega
 have q0:=DB0.out.cell (i:=0) rfl
 have q1:=DB0.out.cell (i:=1) rfl
 clear h hT hZ hP hw1 hwz hb1 hbz hH hs1 hm hw hb hq hoff hnm hnw
 go_enter Tryz.func27,Tryz.ntmps27
 go_upto_region 2 with fail
 rw[←HWZ.out]
 rw[←HHW.out]
 clear HWZ
 go_wp2_with fail
 clear q0 q1
 go_loopw [5,6,7] (fun f z i wr=>∃(k:Nat) (fo zz:Bool) (m:ManD) (A:Option Addr) (n c:Nat),k≤2∧i=.int .i64 (k:Int)∧f=.bool fo∧z=.bool zz∧Hid (RSt T Z k fo zz m)∧Hid (Blk wr (H+2) [.int .u64 (m.version:Int),.int .u32 (m.next:Int),.slice A n c])∧Hid (ManK (fun k=>k<H+3) A n c m wr)∧Hid (Blk wr (H+1) [.int .u64 0,.int .u32 0,.slice none 0 0])∧Hid (Blk wr H [.int .i64 (q:Int),.bool false,.int .i64 fu,.slice Am nm cm,.slice Aw nw cw])∧Hid (Below w.heap.size w wr)) (fun _ _ i _=>2-(intOf i).toNat)
 case atStart=>exact ⟨0,false,false,noMan,none,0,0,by omega,rfl,rfl,rfl,Lib.hid (RSt.zero T Z),CU0,Lib.hid (ManK.none _ _),RS0,DB0,HB0⟩
 case round=>
  clear CU0 RS0 DB0 HB0
  obtain ⟨k,fo,zz,m,A,n,c,hk,rfl,rfl,rfl,HST,CU,HM,RS,DB,HB⟩:=hrel
  by_cases hlt:k<2
  ·obtain ⟨b,hb⟩:∃b,b=slotR M k 16:=⟨_,rfl⟩
   have HBB:=Lib.hid hb
   have HTK:=Lib.hid (show Says b (T k) by rw[hb];exact HT.out k hlt)
   have HZK:=Lib.hid (show Z k=zeros b by rw[hb];exact HZ.out k hlt)
   obtain ⟨q0,q1,q2,q3,q4⟩:=DB.out.five
   clear hb
   go_wp2_with fail
   refine (HSL.out k (by omega) _ HB.out).mono ?_
   rintro e w1 ⟨hb1,A1,t1,c1,rfl,hl1,hc1,hcc1,ht1,hr1⟩
   rw[←HBB.out] at hl1 hr1
   have HB1:=Lib.hid (HB.out.trans (hb1.mono HB.out.size))
   have RS1:=Lib.hid (RS.out.past hb1)
   have DB1:=Lib.hid (DB.out.past hb1)
   have CU1:=Lib.hid (CU.out.past hb1)
   have HM1:=Lib.hid (HM.out.past hb1)
   have HL1:=Lib.hid hl1
   have HR1:=Lib.hid hr1
   clear hb1 hl1 hr1 q0 q1 q2 q3 q4
   go_wp2_with fail
   go_loop [9,30] (fun zv iv=>∃j:Nat,j≤t1∧iv=.int .i64 j∧∃z:Bool,zv=.bool z∧Hid ((z&&zeros (b.drop j))=zeros b)) (fun _ iv=>t1-(intOf iv).toNat)
   case atStart=>exact ⟨0,Nat.zero_le _,rfl,true,rfl,Lib.hid (by simp)⟩
   case round=>
    obtain ⟨j,hj,rfl,z,rfl,HZJ⟩:=hrel
    by_cases hjt:j<t1
    ·obtain ⟨a,u,rfl,-,hu,c0⟩:=HR1.out.at (k:=j) (by rw[HL1.out];exact hjt)
     have HU:=Lib.hid hu
     cases z with
     |false=>
      go_wp2
      go_round
      case rel=>exact ⟨j+1,by omega,by go_num,false,rfl,Lib.hid (by rw[←HZJ.out];rfl)⟩
      case measure=>simp[intOf];omega
     |true=>
      by_cases hu0:u=0
      ·have d1:((u.toNat:Int)==0)=true:=by rw[hu0];rfl
       have HZN:=Lib.hid (show (true&&zeros (b.drop (j+1)))=zeros b by rw[←HZJ.out,zeros_drop HU.out,hu0];rfl)
       clear hu hu0
       go_wp2
       go_round
       case rel=>exact ⟨j+1,by omega,by go_num,true,rfl,HZN⟩
       case measure=>simp[intOf];omega
      ·have d1:((u.toNat:Int)==0)=false:=by
        rw[beq_eq_false_iff_ne]
        intro e
        exact hu0 (UInt8.toNat.inj (show u.toNat=0 by omega))
       have HZN:=Lib.hid (show (false&&zeros (b.drop (j+1)))=zeros b by rw[←HZJ.out,zeros_drop HU.out,beq_eq_false_iff_ne.2 hu0];rfl)
       clear hu hu0
       go_wp2
       go_round
       case rel=>exact ⟨j+1,by omega,by go_num,false,rfl,HZN⟩
       case measure=>simp[intOf];omega
    ·have HZE:=Lib.hid (show z=Z k by
      have:=HZJ.out
      rw[List.drop_of_length_le (by rw[HL1.out];omega)] at this
      rw[HZK.out,←this]
      simp[zeros])
     clear HZJ
     cases zz with
     |true=>
      go_wp2_with fail
      refine (rget_any A1 t1 c1 b w1 HL1.out hc1 hcc1 HR1.out).mono ?_
      rintro e w2 ⟨hb2,h2⟩
      have HB2:=Lib.hid (HB1.out.trans (hb2.mono HB1.out.size))
      have RS2:=Lib.hid (RS1.out.past hb2)
      have DB2:=Lib.hid (DB1.out.past hb2)
      have CU2:=Lib.hid (CU1.out.past hb2)
      have HM2:=Lib.hid (HM1.out.past hb2)
      have hH31:H+3≤w1.heap.size:=CU1.out.lt
      clear hb2 RS1 CU1 HM1 HB1 DB1
      rcases h2 with ⟨m1,A2,n2,c2,hg,rfl,-,-,hm2⟩|⟨hno,rfl⟩
      ·replace hm2:ManK (fun k=>k<H+3) A2 n2 c2 m1 w2:=hm2.less (fun k _ hk=>by omega)
       have HTT:=Lib.hid (HTK.out.get hg)
       obtain ⟨w3,hw3⟩:∃w3,w3=w2.alloc (.cells #[.int .u64 (m1.version:Int),.int .u32 (m1.next:Int),.slice A2 n2 c2] 38):=⟨_,rfl⟩
       have HW3:=Lib.hid hw3
       have hb3:Below w2.heap.size w2 w3:=by rw[hw3];exact (Below.refl _ _).alloc (Nat.le_refl _) _
       have BX3:=Lib.hid (show Blk w3 w2.heap.size [.int .u64 (m1.version:Int),.int .u32 (m1.next:Int),.slice A2 n2 c2] by rw[hw3];exact Blk.new w2 [.int .u64 (m1.version:Int),.int .u32 (m1.next:Int),.slice A2 n2 c2] _)
       have HB3:=Lib.hid (HB2.out.trans (hb3.mono HB2.out.size))
       have RS3:=Lib.hid (RS2.out.past hb3)
       have DB3:=Lib.hid (DB2.out.past hb3)
       have CU3:=Lib.hid (CU2.out.past hb3)
       have HM3:=Lib.hid (HM2.out.past hb3)
       have HN3:=Lib.hid (hm2.past hb3)
       have i0:=BX3.out.cell (i:=0) rfl
       have i1:=BX3.out.cell (i:=1) rfl
       have i2:=BX3.out.cell (i:=2) rfl
       have j0:=CU3.out.cell (i:=0) rfl
       have hH2:=CU2.out.lt
       clear hg hm2 hw3 hb3 RS2 CU2 HM2 HB2 DB2
       go_upto_region 20 with fail
       rw[←HW3.out]
       clear HW3
       cases fo with
       |false=>
        go_wp2_with (first
         |(refine wpList_store_blk rfl 38 _ _ rfl (H+2) _ #[.int .u64 (m1.version:Int),.int .u32 (m1.next:Int),.slice A2 n2 c2] rfl rfl CU3.out rfl man_size (man_one _ _ _ _ _) ?_
           intro w4 hb4 ho4
           have CU4:=Lib.hid (show Blk w4 (H+2) [.int .u64 (m1.version:Int),.int .u32 (m1.next:Int),.slice A2 n2 c2] from hb4)
           have HO4:=Lib.hid ho4
           have HB4:=Lib.hid (HB3.out.trans (HO4.out.below (B:=w.heap.size) (fun k _ hk=>by omega) HB3.out.size))
           have RS4:=Lib.hid (RS3.out.out HO4.out (by omega))
           have DB4:=Lib.hid (DB3.out.out HO4.out (by omega))
           have HN4:=Lib.hid (HN3.out.out (HO4.out.more (S':=fun k=>k<H+3) (fun k _ hk=>by omega)))
           clear hb4 ho4)
         |fail)
        go_roundw
        case rel=>exact ⟨k+1,true,true,m1,A2,n2,c2,by omega,by go_num,rfl,rfl,Lib.hid (HST.out.first HTT.out rfl),CU4,HN4,RS4,DB4,HB4⟩
        case measure=>simp[intOf];omega
       |true=>
        by_cases hv:m.version<m1.version
        ·have hv':(m.version:Int)<(m1.version:Int):=by omega
         go_wp2_with (first
          |(refine wpList_store_blk rfl 38 _ _ rfl (H+2) _ #[.int .u64 (m1.version:Int),.int .u32 (m1.next:Int),.slice A2 n2 c2] rfl rfl CU3.out rfl man_size (man_one _ _ _ _ _) ?_
            intro w4 hb4 ho4
            have CU4:=Lib.hid (show Blk w4 (H+2) [.int .u64 (m1.version:Int),.int .u32 (m1.next:Int),.slice A2 n2 c2] from hb4)
            have HO4:=Lib.hid ho4
            have HB4:=Lib.hid (HB3.out.trans (HO4.out.below (B:=w.heap.size) (fun k _ hk=>by omega) HB3.out.size))
            have RS4:=Lib.hid (RS3.out.out HO4.out (by omega))
            have DB4:=Lib.hid (DB3.out.out HO4.out (by omega))
            have HN4:=Lib.hid (HN3.out.out (HO4.out.more (S':=fun k=>k<H+3) (fun k _ hk=>by omega)))
            clear hb4 ho4)
          |fail)
         go_roundw
         case rel=>exact ⟨k+1,true,true,m1,A2,n2,c2,by omega,by go_num,rfl,rfl,Lib.hid (HST.out.more HTT.out hv rfl),CU4,HN4,RS4,DB4,HB4⟩
         case measure=>simp[intOf];omega
        ·have hv':¬(m.version:Int)<(m1.version:Int):=by omega
         go_wp2
         go_roundw
         case rel=>exact ⟨k+1,true,true,m,A,n,c,by omega,by go_num,rfl,rfl,Lib.hid (HST.out.less HTT.out hv rfl),CU3,HM3,RS3,DB3,HB3⟩
         case measure=>simp[intOf];omega
      ·have HTT:=Lib.hid (HTK.out.no hno)
       obtain ⟨w3,hw3⟩:∃w3,w3=w2.alloc (.cells #[.int .u64 0,.int .u32 0,.slice none 0 0] 38):=⟨_,rfl⟩
       have HW3:=Lib.hid hw3
       have hb3:Below w2.heap.size w2 w3:=by rw[hw3];exact (Below.refl _ _).alloc (Nat.le_refl _) _
       have HB3:=Lib.hid (HB2.out.trans (hb3.mono HB2.out.size))
       have RS3:=Lib.hid (RS2.out.past hb3)
       have DB3:=Lib.hid (DB2.out.past hb3)
       have CU3:=Lib.hid (CU2.out.past hb3)
       have HM3:=Lib.hid (HM2.out.past hb3)
       clear hno hw3 hb3 RS2 CU2 HM2 HB2 DB2
       go_upto_region 20 with fail
       rw[←HW3.out]
       clear HW3
       go_wp2
       go_roundw
       case rel=>exact ⟨k+1,fo,true,m,A,n,c,by omega,by go_num,rfl,rfl,Lib.hid (HST.out.none HTT.out rfl),CU3,HM3,RS3,DB3,HB3⟩
       case measure=>simp[intOf];omega
     |false=>
      go_wp2_with fail
      refine (rget_any A1 t1 c1 b w1 HL1.out hc1 hcc1 HR1.out).mono ?_
      rintro e w2 ⟨hb2,h2⟩
      have HB2:=Lib.hid (HB1.out.trans (hb2.mono HB1.out.size))
      have RS2:=Lib.hid (RS1.out.past hb2)
      have DB2:=Lib.hid (DB1.out.past hb2)
      have CU2:=Lib.hid (CU1.out.past hb2)
      have HM2:=Lib.hid (HM1.out.past hb2)
      have hH31:H+3≤w1.heap.size:=CU1.out.lt
      clear hb2 RS1 CU1 HM1 HB1 DB1
      rcases h2 with ⟨m1,A2,n2,c2,hg,rfl,-,-,hm2⟩|⟨hno,rfl⟩
      ·replace hm2:ManK (fun k=>k<H+3) A2 n2 c2 m1 w2:=hm2.less (fun k _ hk=>by omega)
       have HTT:=Lib.hid (HTK.out.get hg)
       obtain ⟨w3,hw3⟩:∃w3,w3=w2.alloc (.cells #[.int .u64 (m1.version:Int),.int .u32 (m1.next:Int),.slice A2 n2 c2] 38):=⟨_,rfl⟩
       have HW3:=Lib.hid hw3
       have hb3:Below w2.heap.size w2 w3:=by rw[hw3];exact (Below.refl _ _).alloc (Nat.le_refl _) _
       have BX3:=Lib.hid (show Blk w3 w2.heap.size [.int .u64 (m1.version:Int),.int .u32 (m1.next:Int),.slice A2 n2 c2] by rw[hw3];exact Blk.new w2 [.int .u64 (m1.version:Int),.int .u32 (m1.next:Int),.slice A2 n2 c2] _)
       have HB3:=Lib.hid (HB2.out.trans (hb3.mono HB2.out.size))
       have RS3:=Lib.hid (RS2.out.past hb3)
       have DB3:=Lib.hid (DB2.out.past hb3)
       have CU3:=Lib.hid (CU2.out.past hb3)
       have HM3:=Lib.hid (HM2.out.past hb3)
       have HN3:=Lib.hid (hm2.past hb3)
       have i0:=BX3.out.cell (i:=0) rfl
       have i1:=BX3.out.cell (i:=1) rfl
       have i2:=BX3.out.cell (i:=2) rfl
       have j0:=CU3.out.cell (i:=0) rfl
       have hH2:=CU2.out.lt
       clear hg hm2 hw3 hb3 RS2 CU2 HM2 HB2 DB2
       go_upto_region 20 with fail
       rw[←HW3.out]
       clear HW3
       cases fo with
       |false=>
        go_wp2_with (first
         |(refine wpList_store_blk rfl 38 _ _ rfl (H+2) _ #[.int .u64 (m1.version:Int),.int .u32 (m1.next:Int),.slice A2 n2 c2] rfl rfl CU3.out rfl man_size (man_one _ _ _ _ _) ?_
           intro w4 hb4 ho4
           have CU4:=Lib.hid (show Blk w4 (H+2) [.int .u64 (m1.version:Int),.int .u32 (m1.next:Int),.slice A2 n2 c2] from hb4)
           have HO4:=Lib.hid ho4
           have HB4:=Lib.hid (HB3.out.trans (HO4.out.below (B:=w.heap.size) (fun k _ hk=>by omega) HB3.out.size))
           have RS4:=Lib.hid (RS3.out.out HO4.out (by omega))
           have DB4:=Lib.hid (DB3.out.out HO4.out (by omega))
           have HN4:=Lib.hid (HN3.out.out (HO4.out.more (S':=fun k=>k<H+3) (fun k _ hk=>by omega)))
           clear hb4 ho4)
         |fail)
        go_roundw
        case rel=>exact ⟨k+1,true,Z k,m1,A2,n2,c2,by omega,by go_num,rfl,by rw[HZE.out],Lib.hid (HST.out.first HTT.out rfl),CU4,HN4,RS4,DB4,HB4⟩
        case measure=>simp[intOf];omega
       |true=>
        by_cases hv:m.version<m1.version
        ·have hv':(m.version:Int)<(m1.version:Int):=by omega
         go_wp2_with (first
          |(refine wpList_store_blk rfl 38 _ _ rfl (H+2) _ #[.int .u64 (m1.version:Int),.int .u32 (m1.next:Int),.slice A2 n2 c2] rfl rfl CU3.out rfl man_size (man_one _ _ _ _ _) ?_
            intro w4 hb4 ho4
            have CU4:=Lib.hid (show Blk w4 (H+2) [.int .u64 (m1.version:Int),.int .u32 (m1.next:Int),.slice A2 n2 c2] from hb4)
            have HO4:=Lib.hid ho4
            have HB4:=Lib.hid (HB3.out.trans (HO4.out.below (B:=w.heap.size) (fun k _ hk=>by omega) HB3.out.size))
            have RS4:=Lib.hid (RS3.out.out HO4.out (by omega))
            have DB4:=Lib.hid (DB3.out.out HO4.out (by omega))
            have HN4:=Lib.hid (HN3.out.out (HO4.out.more (S':=fun k=>k<H+3) (fun k _ hk=>by omega)))
            clear hb4 ho4)
          |fail)
         go_roundw
         case rel=>exact ⟨k+1,true,Z k,m1,A2,n2,c2,by omega,by go_num,rfl,by rw[HZE.out],Lib.hid (HST.out.more HTT.out hv rfl),CU4,HN4,RS4,DB4,HB4⟩
         case measure=>simp[intOf];omega
        ·have hv':¬(m.version:Int)<(m1.version:Int):=by omega
         go_wp2
         go_roundw
         case rel=>exact ⟨k+1,true,Z k,m,A,n,c,by omega,by go_num,rfl,by rw[HZE.out],Lib.hid (HST.out.less HTT.out hv rfl),CU3,HM3,RS3,DB3,HB3⟩
         case measure=>simp[intOf];omega
      ·have HTT:=Lib.hid (HTK.out.no hno)
       obtain ⟨w3,hw3⟩:∃w3,w3=w2.alloc (.cells #[.int .u64 0,.int .u32 0,.slice none 0 0] 38):=⟨_,rfl⟩
       have HW3:=Lib.hid hw3
       have hb3:Below w2.heap.size w2 w3:=by rw[hw3];exact (Below.refl _ _).alloc (Nat.le_refl _) _
       have HB3:=Lib.hid (HB2.out.trans (hb3.mono HB2.out.size))
       have RS3:=Lib.hid (RS2.out.past hb3)
       have DB3:=Lib.hid (DB2.out.past hb3)
       have CU3:=Lib.hid (CU2.out.past hb3)
       have HM3:=Lib.hid (HM2.out.past hb3)
       clear hno hw3 hb3 RS2 CU2 HM2 HB2 DB2
       go_upto_region 20 with fail
       rw[←HW3.out]
       clear HW3
       go_wp2
       go_roundw
       case rel=>exact ⟨k+1,fo,Z k,m,A,n,c,by omega,by go_num,rfl,by rw[HZE.out],Lib.hid (HST.out.none HTT.out rfl),CU3,HM3,RS3,DB3,HB3⟩
       case measure=>simp[intOf];omega
  ·have hk2:k=2:=by omega
   subst hk2
   have HAA:=Lib.hid (show P=if fo||zz then (m,0) else (noMan,5) by rw[HP.out];exact HST.out.ans)
   have j0:=CU.out.cell (i:=0) rfl
   have j1:=CU.out.cell (i:=1) rfl
   have j2:=CU.out.cell (i:=2) rfl
   clear HST HP
   cases fo<;>cases zz
   case false.false=>
    go_wp2_with (refine wpList_store_blk rfl 38 _ _ rfl (H+1) _ #[.int .u64 0,.int .u32 0,.slice none 0 0] rfl rfl RS.out rfl man_size (man_one _ _ _ _ _) ?_
                 intro w7 hb7 ho7
                 have HB7:=Lib.hid (show Blk w7 (H+1) [.int .u64 0,.int .u32 0,.slice none 0 0] from hb7)
                 have HO7:=Lib.hid ho7
                 clear hb7 ho7)
    have r0:=HB7.out.cell (i:=0) rfl
    have r1:=HB7.out.cell (i:=1) rfl
    have r2:=HB7.out.cell (i:=2) rfl
    refine bodyPost_ret (v:=.tuple #[mval 0 0 none 0 0,.int .i64 5]) (by simp[results,Tryz.results27,go_sem,r0,r1,r2,mval]) rfl ?_
    rw[HAA.out]
    exact ⟨HB.out.trans (HO7.out.below (B:=w.heap.size) (fun k _ hk=>by omega) HB.out.size),none,0,0,rfl,ManK.none _ _⟩
   all_goals
    go_wp2_with (refine wpList_store_blk rfl 38 _ _ rfl (H+1) _ #[.int .u64 (m.version:Int),.int .u32 (m.next:Int),.slice A n c] rfl rfl RS.out rfl man_size (man_one _ _ _ _ _) ?_
                 intro w7 hb7 ho7
                 have HB7:=Lib.hid (show Blk w7 (H+1) [.int .u64 (m.version:Int),.int .u32 (m.next:Int),.slice A n c] from hb7)
                 have HO7:=Lib.hid ho7
                 clear hb7 ho7)
    have r0:=HB7.out.cell (i:=0) rfl
    have r1:=HB7.out.cell (i:=1) rfl
    have r2:=HB7.out.cell (i:=2) rfl
    refine bodyPost_ret (v:=.tuple #[mval m.version m.next A n c,.int .i64 0]) (by simp[results,Tryz.results27,go_sem,r0,r1,r2,mval]) rfl ?_
    rw[HAA.out]
    exact ⟨HB.out.trans (HO7.out.below (B:=w.heap.size) (fun k _ hk=>by omega) HB.out.size),A,n,c,rfl,(HM.out.out (HO7.out.more (S':=fun k=>k<H+3) (fun k _ hk=>by omega))).less (fun k _ hk=>by omega)⟩
end Go.Proofs.YtiocpefgccndbaaGreat
end
