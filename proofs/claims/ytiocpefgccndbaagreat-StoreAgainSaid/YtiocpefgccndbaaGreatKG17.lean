/- Texts put together, for a law: RPut, RGet. -/
import Derived.Test.YtiocpefgccndbaaGreatKG15
import Derived.Test.YtiocpefgccndbaaGreatKG15
import Derived.Test.YtiocpefgccndbaaGreatKG10
section
namespace Go.Proofs.YtiocpefgccndbaaGreat
open Go.RowKit Me Mf Fr
set_option maxRecDepth 100000 in
set_option maxHeartbeats 1000000 in
theorem rputm_any (A:Option Addr) (n c:Nat) (m:ManD) (w:World) (hf:Fit m) (h:ManAt w w.heap.size A n c m) :
 Calls Tryz.prog 82 #[mval m.version m.next A n c] w fun e w'=>∃v,e=.returned v∧w'.ownsRow w.heap.size 5 1 v 2048 (cellsOf (slotOf m))∧Below w.heap.size w w':=by
 obtain ⟨i0,hi0,hz0,hz1,hz2⟩:=info_parts u8_info
 have hb:=hf.2
 have hpos:=good_pos hf.1
 obtain ⟨s,hs⟩:∃s,s=encS (secOf m):=⟨_,rfl⟩
 obtain ⟨t,ht⟩:∃t,t=s.length:=⟨_,rfl⟩
 have ht1:t≤2048:=by rw[ht,hs,secOf_length];omega
 have HSL:=Lib.hid (show slotOf m=s++List.replicate (2048-t) 0 by unfold slotOf;rw[ht,hs])
 have HS:=Lib.hid hs
 have HT:=Lib.hid ht
 obtain ⟨w0,hw0⟩:∃w0,w0=w.alloc (.cells #[.int .u64 (m.version:Int),.int .u32 (m.next:Int),.slice A n c] 38):=⟨_,rfl⟩
 have HW0:=Lib.hid hw0
 have hb0:Below w.heap.size w w0:=by rw[hw0];exact (Below.refl _ _).alloc (Nat.le_refl _) _
 have HB0:=Lib.hid hb0
 have HBD:=Lib.hid (rbody_any A n c m w0 hpos (by omega) (h.past hb0))
 have q:=Blk.new w [.int .u64 (m.version:Int),.int .u32 (m.next:Int),.slice A n c] 38
 have q0:=q.cell (i:=0) rfl
 have q1:=q.cell (i:=1) rfl
 have q2:=q.cell (i:=2) rfl
 clear hw0 hb0 q h hs ht hf hpos
 go_enter Tryz.func82,Tryz.ntmps82
 go_wp2_with fail
 rw[←HW0.out]
 refine HBD.out.mono ?_
 rintro e w1 hnews
 obtain ⟨A1,n1,c1,rfl,hl1,hc1,-,hr1,hb1⟩:=hnews.open
 have HB1:=Lib.hid (HB0.out.trans (hb1.mono HB0.out.size))
 have HP:=Lib.hid (ref_fput_any A1 n1 c1 (secOf m) w1 hl1 (by rw[←hl1];show (body m).length≤1048576;omega) hr1)
 clear hnews hb1 hl1 hr1 q0 q1 q2 HW0
 go_wp2_with fail
 refine HP.out.mono ?_
 rintro e w2 ⟨v2,n2,rfl,ho2,hb2⟩
 have hn2:n2=t:=by have:=ho2.1;rw[cellsOf_length,Nat.mul_one] at this;rw[←this,HT.out,HS.out]
 subst hn2
 have HB2:=Lib.hid (HB1.out.trans (hb2.mono HB1.out.size))
 have O2:=Lib.hid (show w2.ownsRow w1.heap.size 5 1 v2 (n2+0) (cellsOf (s++List.replicate 0 0)) by rw[HS.out];simpa using ho2)
 have hs12:=hb2.size
 clear ho2 hb2 HP
 go_wp2_with fail
 go_loopw [3] (fun v wr=>∃k:Nat,n2+k≤2048∧Hid (wr.ownsRow w1.heap.size 5 1 v (n2+k) (cellsOf (s++List.replicate k 0)))∧Hid (Below w.heap.size w wr)∧Hid (w1.heap.size≤wr.heap.size)) (fun v _=>2048-sliceLen v)
 case atStart=>exact ⟨0,by omega,O2,HB2,Lib.hid hs12⟩
 case round=>
  clear O2 HB2
  obtain ⟨k,hk,O,HB,HSZ⟩:=hrel
  obtain ⟨A3,c3,e3,hc3⟩:=own_slice' O.out
  subst e3
  by_cases hlt:n2+k<2048
  ·go_wp2_with (at_builtin
                refine wpList_app rfl (.tmp 11) (.tmp 12) 29 rfl w1.heap.size 5 i0 _ Tryz.underlying29 hi0 hz0 hz1 hz2 rfl (.slice A3 (n2+k) c3) (n2+k) _ rfl (O.out.alloc _) (wr.heap.size+1) (some ⟨wr.heap.size,0,none⟩) 1 1 [0] rfl rfl (Rd.lit wr #[.int .u8 0] 5 [0] rfl) (by omega) (by have:=HSZ.out;simp;omega) ?_
                intro v4 w4 ho4 hg4 _
                have O4:=Lib.hid (show w4.ownsRow w1.heap.size 5 1 v4 (n2+(k+1)) (cellsOf (s++List.replicate (k+1) 0)) by
                 rw[List.append_assoc,←List.replicate_succ'] at ho4
                 exact ho4)
                have HB4:=Lib.hid (HB.out.trans (((Below.refl w.heap.size wr).alloc HB.out.size _).grown hg4 (by simp;have:=HB.out.size;omega) (fun j hj=>by have:=(O.out.lt j hj).1;have:=HB1.out.size;omega)))
                have HSZ4:=Lib.hid (show w1.heap.size≤w4.heap.size by have:=hg4.size;have:=HSZ.out;simp at *;omega)
                obtain ⟨A5,c5,e5,-⟩:=own_slice' ho4
                subst e5
                clear ho4 hg4)
   go_roundw
   case rel=>exact ⟨k+1,by omega,O4,HB4,HSZ4⟩
   case measure=>simp[sliceLen];omega
  ·have hk2:k=2048-n2:=by omega
   have h2048:n2+k=2048:=by omega
   have HO:=Lib.hid (show wr.ownsRow w1.heap.size 5 1 (.slice A3 2048 c3) 2048 (cellsOf (slotOf m)) by rw[HSL.out,←hk2];rw[h2048] at O;exact O.out)
   rw[h2048]
   clear hk2 hlt O
   go_wp2
   go_ret
   exact ⟨_,rfl,own_more HO.out HB1.out.size,HB.out⟩
end Go.Proofs.YtiocpefgccndbaaGreat
end
section
namespace Go.Proofs.YtiocpefgccndbaaGreat
open Go.RowKit Me Mf Va Fr
set_option maxRecDepth 100000 in
set_option maxHeartbeats 4000000 in
theorem rget_any (A:Option Addr) (n c:Nat) (b:List UInt8) (w:World) (hb:b.length=n) (hc:n≤c) (hc63:c≤9223372036854775807) (hr:Rd w w.heap.size A b) :
 Calls Tryz.prog 55 #[.slice A n c] w (GMPost w b (.bool true) (.bool false)):=by
 obtain ⟨i0,hi0,hz0,hz1,hz2⟩:=info_parts file_info
 obtain ⟨j0,hj0,hy0,hy1,hy2⟩:=info_parts int_info
 obtain ⟨s,k,x,hs⟩:∃s k x,getS b=(s,k,x):=⟨_,_,_,rfl⟩
 have HS:=Lib.hid hs
 have HBB:=Lib.hid hb
 obtain ⟨H,hH⟩:∃H,H=w.heap.size:=⟨_,rfl⟩
 obtain ⟨wz,hwz⟩:∃wz,wz=(w.alloc (.cells #[.int .u64 0,.int .u32 0,.slice none 0 0] 38)).alloc (.cells #[.int .u64 0,.int .u32 0,.slice none 0 0] 38):=⟨_,rfl⟩
 have HWZ:=Lib.hid hwz
 have HB0:=Lib.hid (show Below w.heap.size w wz by rw[hwz];exact ((Below.refl _ _).alloc (Nat.le_refl _) _).alloc (by simp) _)
 have HR0:=Lib.hid ((hr.below HB0.out).more HB0.out.size)
 have RS0:=Lib.hid (show Blk wz H [.int .u64 0,.int .u32 0,.slice none 0 0] by rw[hwz,hH];exact (Blk.new w [.int .u64 0,.int .u32 0,.slice none 0 0] _).alloc _)
 have ZN0:=Lib.hid (show Blk wz (H+1) [.int .u64 0,.int .u32 0,.slice none 0 0] by rw[hwz,hH];exact Blk.new' _ [.int .u64 0,.int .u32 0,.slice none 0 0] _ (by simp))
 have HHW:=Lib.hid hH
 have hwH:w.heap.size≤H:=by omega
 clear hs hb hwz hH hr
 go_enter Tryz.func55,Tryz.ntmps55
 go_wp2_with fail
 rw[←HWZ.out,←HHW.out]
 clear HWZ
 refine (ref_fget_cap A n c b wz HBB.out hc hc63 HR0.out).mono ?_
 rw[HS.out]
 obtain ⟨q,hq⟩:∃q,q=s.kind.toNat:=⟨_,rfl⟩
 have HQ:=Lib.hid hq
 rintro e w1 ⟨hb1,A1,n1,c1,he,hl1,hn1,hr1,-,hc1⟩
 replace he:e=.returned (.tuple #[.agg #[.int .u8 (q:Int),.slice A1 n1 c1],.int .i64 (k:Int),.int .i64 x]):=by rw[hq];exact he
 subst he
 clear hq
 have HB1:=Lib.hid (HB0.out.trans (hb1.mono HB0.out.size))
 have RS1:=Lib.hid (RS0.out.past hb1)
 have ZN1:=Lib.hid (ZN0.out.past hb1)
 have HL1:=Lib.hid (show s.body.length=n1 from hl1)
 have HR1:=Lib.hid (show Rd w1 w1.heap.size A1 s.body from hr1)
 have HC1:=Lib.hid hc1
 clear hb1 hl1 hr1 HR0 HB0 RS0 ZN0 hc1
 have HX:=Lib.hid (show (x=0∧q=77)∨(x≠0∨q≠77) by omega)
 rcases HX.out with ⟨hx,hq⟩|hbad
 ·clear HX
  subst hx hq
  have HG:=Lib.hid (show getS b=(⟨77,s.body⟩,k,0) by rw[HS.out];congr 1;have h1:=HQ.out;have:s.kind=77:=by apply UInt8.toNat.inj;rw[←h1];rfl
                                                     rw[←this])
  obtain ⟨v,l1,x1,h1⟩:∃n1 l1 x1,numOf s.body 0 18446744073709551615=(n1,l1,x1):=⟨_,_,_,rfl⟩
  obtain ⟨nx,l2,x2,h2⟩:∃id l3 x3,numOf l1 x1 4294967295=(id,l3,x3):=⟨_,_,_,rfl⟩
  obtain ⟨N,l3,x3,h3⟩:∃sz l4 x4,numOf l2 x2 2048=(sz,l4,x4):=⟨_,_,_,rfl⟩
  have hch:=parseM_chain (ms:=7340032) (mb:=65536) h1 h2 h3
  have HI:=Lib.hid (gets_iff HG.out (mn:=2048) (ms:=7340032) (mb:=65536) (by omega) (by omega) (by omega))
  obtain ⟨P,hP⟩:∃P,P=parseM 2048 7340032 65536 s.body:=⟨_,rfl⟩
  rw[←hP] at hch HI
  have hv:v<18446744073709551616:=by have:=numOf_fits s.body 0 18446744073709551615;rw[h1] at this;exact this
  have hnx:nx<4294967296:=by have:=numOf_most l1 x1 4294967295;rw[h2] at this;have:nx≤4294967295:=this;omega
  have hN:N≤2048:=by have:=numOf_most l2 x2 2048;rw[h3] at this;exact this
  have HCH:=Lib.hid hch
  have HP:=Lib.hid hP
  have H1:=Lib.hid h1
  have H2:=Lib.hid h2
  have H3:=Lib.hid h3
  have e1:(18446744073709551615:Int)=(top:Int):=top_int
  have e2:IntKind.u32.wrap (nx:Int)=(nx:Int):=by rw[IntKind.wrap_u32];omega
  have e3:IntKind.i64.wrap (N:Int)=(N:Int):=by rw[IntKind.wrap_i64];omega
  clear h1 h2 h3 hch hP e1
  obtain ⟨B,hB⟩:∃B,B=w1.heap.size:=⟨_,rfl⟩
  obtain ⟨g,hg⟩:∃g,g=w1.heap.size+1:=⟨_,rfl⟩
  obtain ⟨w2,hw2⟩:∃w2,w2=(w1.alloc (.cells #[.int .u8 77,.slice A1 n1 c1] 143)).alloc (.cells #[.slice A1 n1 c1,.int .i64 0] 164):=⟨_,rfl⟩
  have HW2:=Lib.hid hw2
  have HGG:=Lib.hid hg
  have hHB:H+1<B:=by rw[hB];exact ZN1.out.lt
  have hBg:B≤g:=by omega
  have HBW:=Lib.hid (show B≤w1.heap.size by omega)
  have HR1:=Lib.hid (show Rd w1 B A1 s.body by rw[hB];exact HR1.out)
  have hb2:Below w1.heap.size w1 w2:=by rw[hw2];exact ((Below.refl _ _).alloc (Nat.le_refl _) _).alloc (by simp) _
  have HB2:=Lib.hid (show Below B w1 w2 by rw[hB];exact hb2)
  have R2:=Lib.hid (show RF w1 w2 w2 B g H s.body 0 [.int .u64 0,.int .u32 0,.slice none 0 0] from
   ⟨⟨A1,n1,c1,by rw[hw2,hg];exact Two.new' _ _ _ _ (by simp),HL1.out,HC1.out,by omega,HR1.out⟩,RS1.out.past hb2,⟨rfl,rfl,rfl,Nat.le_refl _,fun _ _ _=>rfl⟩⟩)
  have hgH:g≠H:=by omega
  clear hb2 hw2 hg hB
  have HLO2:=Lib.hid (R2.out.lo HB2.out HBW.out hBg)
  go_wp2_with fail
  rw[←HW2.out,←HGG.out]
  clear HW2
  refine (rn_any (W:=w1) (B:=B) 18446744073709551615 HLO2.out HBW.out HL1.out HC1.out (by omega) HR1.out).mono ?_
  rw[H1.out]
  rintro e w3 ⟨hb,X,nX,cX,rfl,hlX,hcX,hnX,hrX⟩
  have RC:=Lib.hid (R2.out.past hb)
  obtain ⟨_,_,_,TC,-⟩:=RC.out.rd
  obtain ⟨q0,q1,f0,f1⟩:=TC
  have R3:=Lib.hid (RC.out.put (x':=x1) hgH hlX hcX hnX hrX)
  have HLO:=Lib.hid (R3.out.lo HB2.out HBW.out hBg)
  obtain ⟨A3,n3,c3,T3,hl3,hc3,hn3,hr3⟩:=R3.out.rd
  obtain ⟨p0,p1,-,-⟩:=T3
  have HL3:=Lib.hid hl3
  have HR3:=Lib.hid hr3
  clear hb hlX hrX hl3 hr3 RC R2 HLO2
  go_wp2_with fail
  clear q0 q1 f0 f1 p0 p1
  refine (rn_any (W:=w1) (B:=B) 4294967295 HLO.out HBW.out HL3.out hc3 hn3 HR3.out).mono ?_
  rw[H2.out]
  clear HLO HL3 HR3
  rintro e w4 ⟨hb,X,nX,cX,rfl,hlX,hcX,hnX,hrX⟩
  have RC:=Lib.hid (R3.out.past hb)
  obtain ⟨_,_,_,TC,-⟩:=RC.out.rd
  obtain ⟨q0,q1,f0,f1⟩:=TC
  have R4:=Lib.hid (RC.out.put (x':=x2) hgH hlX hcX hnX hrX)
  have HLO:=Lib.hid (R4.out.lo HB2.out HBW.out hBg)
  obtain ⟨A4,n4,c4,T4,hl4,hc4,hn4,hr4⟩:=R4.out.rd
  obtain ⟨p0,p1,-,-⟩:=T4
  have HL4:=Lib.hid hl4
  have HR4:=Lib.hid hr4
  clear hb hlX hrX hl4 hr4 RC R3
  go_wp2_with fail
  clear q0 q1 f0 f1 p0 p1
  refine (rn_any (W:=w1) (B:=B) 2048 HLO.out HBW.out HL4.out hc4 hn4 HR4.out).mono ?_
  rw[H3.out]
  clear HLO HL4 HR4
  rintro e w5 ⟨hb,X,nX,cX,rfl,hlX,hcX,hnX,hrX⟩
  have RC:=Lib.hid (R4.out.past hb)
  obtain ⟨_,_,_,TC,-⟩:=RC.out.rd
  obtain ⟨q0,q1,f0,f1⟩:=TC
  have R5:=Lib.hid (RC.out.put (x':=x3) hgH hlX hcX hnX hrX)
  obtain ⟨M,hM⟩:∃M,M=w5.heap.size:=⟨_,rfl⟩
  have HMM:=Lib.hid hM
  obtain ⟨w6,hw6⟩:∃w6,w6=(((w5.setCell ⟨g,0,none⟩ (.slice X nX cX)).setCell ⟨g,1,none⟩ (.int .i64 x3)).alloc (.cells #[.int .u64 (v:Int),.int .u32 (nx:Int),.slice none 0 0] 38)):=⟨_,rfl⟩
  have HW6:=Lib.hid hw6
  have R6:=Lib.hid (show RF w1 w2 w6 B g H l3 x3 [.int .u64 0,.int .u32 0,.slice none 0 0] by rw[hw6];exact R5.out.past ((Below.refl _ _).alloc (Nat.le_refl _) _))
  have hgM:g<M:=by
   obtain ⟨_,_,_,T,-⟩:=RC.out.rd
   rw[hM]
   exact T.here
  have RM0:=Lib.hid (show RM w1 w6 B g M N P v nx none 0 0 [] [] l3 x3 from
   ⟨R6.out.rd,by rw[hw6];exact Blk.new' _ [.int .u64 (v:Int),.int .u32 (nx:Int),.slice none 0 0] _ (by simp[World.setCell,hM]),R6.out.lo HB2.out HBW.out hBg,World.ownsRow_nil _ _ _ _,FCells.nil _ _ _ _,fun hx=>by rw[Nat.sub_zero];exact HCH.out.1 hx,HCH.out.2,rfl,Nat.zero_le _,fun f hf=>by cases hf⟩)
  clear hb hlX hrX RC R4 R5 R6 hw6 hM
  go_wp2_with fail
  rw[←HW6.out,←HMM.out]
  clear HW6 HMM
  have HLOz:=Lib.hid (show Below w.heap.size w w1 from HB1.out)
  go_loopw [] (fun wr=>∃(Fa:Option Addr) (m d:Nat) (fs:List FileD) (vs:List Value) (l:List UInt8) (x:Int),Hid (RM w1 wr B g M N P v nx Fa m d fs vs l x)) (fun wr=>match wr.cell? ⟨M,2,none⟩ with|some u=>N-sliceLen u|none=>0)
  case atStart=>exact ⟨none,0,0,[],[],l3,x3,RM0⟩
  case round=>
   clear RM0
   obtain ⟨Fa,m,d,fs,vs,l,x,R⟩:=hrel
   have HFL:=Lib.hid R.out.len
   obtain ⟨wo,rfl⟩:∃wo:World,wo=wr:=⟨_,rfl⟩
   obtain ⟨Ag,ng,cg,Tg,hlg,hcg,hng,hrg⟩:=R.out.rd
   obtain ⟨p0,p1,p2,p3⟩:=Tg
   have HLG:=Lib.hid hlg
   have HRG:=Lib.hid hrg
   have c0:=R.out.mb.cell (i:=0) rfl
   have c1':=R.out.mb.cell (i:=1) rfl
   have c2:=R.out.mb.cell (i:=2) rfl
   have f2:=R.out.mb.frozen 2
   have hMw:=R.out.mb.lt
   have hmN:=R.out.le
   have hgw:g<wo.heap.size:=by omega
   clear hlg hrg
   by_cases hx:x=0
   ·subst hx
    by_cases hlt:m<N
    ·go_wp2_with fail
     have hgw0:=hgw
     obtain ⟨y1,la,xa,h1⟩:∃n1 l1 x1,numOf l 0 32=(n1,l1,x1):=⟨_,_,_,rfl⟩
     obtain ⟨nm,lb,xb,h2⟩:∃nm l2 x2,bytesOf la xa (y1:Int)=(nm,l2,x2):=⟨_,_,_,rfl⟩
     obtain ⟨id,lc,xc,h3⟩:∃id l3 x3,numOf lb xb 4294967295=(id,l3,x3):=⟨_,_,_,rfl⟩
     obtain ⟨sz,ld,xd,h4⟩:∃sz l4 x4,numOf lc xc 7340032=(sz,l4,x4):=⟨_,_,_,rfl⟩
     have hchf:=parseF_chain (mb:=65536) h1 h2 h3 h4
     obtain ⟨Pf,hPf⟩:∃Pf,Pf=parseF 7340032 65536 l:=⟨_,rfl⟩
     rw[←hPf] at hchf
     have hyy1:y1≤32:=by have:=numOf_most l 0 32;rw[h1] at this;exact this
     have hid:id<4294967296:=by have:=numOf_most lb xb 4294967295;rw[h3] at this;have:id≤4294967295:=this;omega
     have hsz:sz≤7340032:=by have:=numOf_most lc xc 7340032;rw[h4] at this;exact this
     obtain ⟨N2,hN2⟩:∃N2,N2=(manyZ (sz:Int)).toNat:=⟨_,rfl⟩
     have hNz:manyZ (sz:Int)=(N2:Int):=by rw[hN2];unfold manyZ;split<;>omega
     have hN16:N2≤65536:=by rw[hN2];unfold manyZ;split<;>omega
     have HMANY:=Lib.hid (show ∀w,Calls Tryz.prog 88 #[.int .i64 (sz:Int)] w fun e w'=>e=.returned (.int .i64 (N2:Int))∧w=w' from fun w=>by rw[←hNz];exact ref_many_any (sz:Int) w (by omega))
     have HNN:=Lib.hid hN2
     have HPF:=Lib.hid hPf
     have HCF:=Lib.hid hchf
     have H1':=Lib.hid h1
     have H2':=Lib.hid h2
     have H3':=Lib.hid h3
     have H4':=Lib.hid h4
     have e1:IntKind.i64.wrap (y1:Int)=(y1:Int):=by rw[IntKind.wrap_i64];omega
     have e4:IntKind.u32.wrap (id:Int)=(id:Int):=by rw[IntKind.wrap_u32];omega
     have e5:IntKind.i64.wrap (sz:Int)=(sz:Int):=by rw[IntKind.wrap_i64];omega
     clear h1 h2 h3 h4 hchf hPf hN2 hNz
     obtain ⟨wA,hwA⟩:∃wA,wA=wo.alloc (.cells #[.string ⟨#[]⟩,.int .u32 0,.int .i64 0,.slice none 0 0] 97):=⟨_,rfl⟩
     have HWA:=Lib.hid hwA
     have hgF:g≠wo.heap.size:=by omega
     have S0:=Lib.hid (show RF w1 wo wA B g wo.heap.size l 0 [.string ⟨#[]⟩,.int .u32 0,.int .i64 0,.slice none 0 0] from by
      rw[hwA]
      exact ⟨⟨Ag,ng,cg,(show Two wo g _ _ from ⟨p0,p1,p2,p3⟩).alloc _,HLG.out,hcg,hng,HRG.out⟩,Blk.new wo [.string ⟨#[]⟩,.int .u32 0,.int .i64 0,.slice none 0 0] _,grown_alloc wo _ _⟩)
     have HLO:=Lib.hid (S0.out.lo R.out.lo HBW.out hBg)
     have f2':=f2
     clear hwA
     go_wp2_with fail
     rw[←HWA.out]
     clear HWA p0 p1 p2 p3 c0 c1' c2 f2
     refine (rn_any (W:=w1) (B:=B) 32 HLO.out HBW.out HLG.out hcg hng HRG.out).mono ?_
     rw[H1'.out]
     clear HLO
     rintro e wA1 ⟨hb,X,nX,cX,rfl,hlX,hcX,hnX,hrX⟩
     have RC:=Lib.hid (S0.out.past hb)
     obtain ⟨_,_,_,TC,-⟩:=RC.out.rd
     obtain ⟨q0,q1,f0,f1⟩:=TC
     have S1:=Lib.hid (RC.out.put (x':=xa) hgF hlX hcX hnX hrX)
     have HLO:=Lib.hid (S1.out.lo R.out.lo HBW.out hBg)
     obtain ⟨A11,n11,c11,T11,hl11,hc11,hn11,hr11⟩:=S1.out.rd
     obtain ⟨p0,p1,-,-⟩:=T11
     have HL11:=Lib.hid hl11
     have HR11:=Lib.hid hr11
     have hgs:=RC.out.fb.lt
     clear hb hlX hrX hl11 hr11 RC S0
     go_wp2_with fail
     clear q0 q1 f0 f1 p0 p1
     refine (rb_any (W:=w1) (B:=B) (y1:Int) HLO.out HL11.out hc11 hn11 HR11.out).mono ?_
     rw[H2'.out]
     clear HLO HL11 HR11
     rintro e wA2 ⟨hb,Xn,mX,dX,A12,n12,c12,rfl,hnm,hxr,hl12,hc12,hn12,hr12⟩
     have S2:=Lib.hid ((S1.out.past hb).past ((Below.refl _ _).alloc (Nat.le_refl _) (.cells #[.slice A12 n12 c12,.int .i64 xb] 164)))
     obtain ⟨u0,u1,-,-⟩:=Two.new wA2 (.slice A12 n12 c12) (.int .i64 xb) 164
     have HLO:=Lib.hid (S2.out.lo R.out.lo HBW.out hBg)
     have HNM:=Lib.hid hnm
     have HXR:=Lib.hid hxr
     have HL12:=Lib.hid hl12
     have HR12:=Lib.hid hr12
     have hgs:=S2.out.fb.lt
     clear hb hl12 hr12 hnm hxr S1
     go_wp2_with fail
     refine (rn_any (W:=w1) (B:=B) 4294967295 HLO.out HBW.out HL12.out hc12 hn12 HR12.out).mono ?_
     rw[H3'.out]
     clear HLO HL12 HR12 u0 u1
     rintro e wA3 ⟨hb,A13,n13,c13,rfl,hl13,hc13,hn13,hr13⟩
     have S3:=Lib.hid ((S2.out.past hb).past ((Below.refl _ _).alloc (Nat.le_refl _) (.cells #[.slice A13 n13 c13,.int .i64 xc] 164)))
     obtain ⟨u0,u1,-,-⟩:=Two.new wA3 (.slice A13 n13 c13) (.int .i64 xc) 164
     have HLO:=Lib.hid (S3.out.lo R.out.lo HBW.out hBg)
     have HL13:=Lib.hid hl13
     have HR13:=Lib.hid hr13
     have hgs:=S3.out.fb.lt
     clear hb hl13 hr13 S2
     go_wp2_with fail
     refine (rn_any (W:=w1) (B:=B) 7340032 HLO.out HBW.out HL13.out hc13 hn13 HR13.out).mono ?_
     rw[H4'.out]
     clear HLO HL13 HR13 u0 u1
     rintro e wA4 ⟨hb,A14,n14,c14,rfl,hl14,hc14,hn14,hr14⟩
     have S4:=Lib.hid ((S3.out.past hb).past ((Below.refl _ _).alloc (Nat.le_refl _) (.cells #[.slice A14 n14 c14,.int .i64 xd] 164)))
     obtain ⟨u0,u1,-,-⟩:=Two.new wA4 (.slice A14 n14 c14) (.int .i64 xd) 164
     have HLO:=Lib.hid (S4.out.lo R.out.lo HBW.out hBg)
     have HL14:=Lib.hid hl14
     have HR14:=Lib.hid hr14
     have hgs:=S4.out.fb.lt
     clear hb hl14 hr14 S3
     obtain ⟨_,_,_,TC,-⟩:=S4.out.rd
     obtain ⟨q0,q1,f0,f1⟩:=TC
     have S5:=Lib.hid (S4.out.put (x':=xd) hgF HL14.out hc14 hn14 HR14.out)
     obtain ⟨wB,hwB⟩:∃wB,wB=((wA4.alloc (.cells #[.slice A14 n14 c14,.int .i64 xd] 164)).setCell ⟨g,0,none⟩ (.slice A14 n14 c14)).setCell ⟨g,1,none⟩ (.int .i64 xd):=⟨_,rfl⟩
     rw[←hwB] at S5
     have HWB:=Lib.hid hwB
     have hst:=str_any Xn mX dX nm wB B HNM.out (HXR.out.below (S5.out.lo R.out.lo HBW.out hBg))
     clear hwB S4 HL14 HR14 HLO
     go_upto_region 18 with fail
     rw[←HWB.out]
     clear HWB q0 q1 f0 f1 u0 u1
     obtain ⟨b0,b1,b2,b3⟩:=S5.out.fb.four
     obtain ⟨f0,f1,f2,f3⟩:=S5.out.fb.four_free
     have S6:=Lib.hid (show RF w1 wo (((wB.setCell ⟨wo.heap.size,0,none⟩ (.string ⟨nm.toArray⟩)).setCell ⟨wo.heap.size,1,none⟩ (.int .u32 (id:Int))).setCell ⟨wo.heap.size,2,none⟩ (.int .i64 (sz:Int))) B g wo.heap.size ld xd [sv nm,.int .u32 (id:Int),.int .i64 (sz:Int),.slice none 0 0] from ((S5.out.set hgF (Nat.le_refl _) 0 (.string ⟨nm.toArray⟩)).set hgF (Nat.le_refl _) 1 (.int .u32 (id:Int))).set hgF (Nat.le_refl _) 2 (.int .i64 (sz:Int)))
     obtain ⟨wC,hwC⟩:∃wC,wC=((wB.setCell ⟨wo.heap.size,0,none⟩ (.string ⟨nm.toArray⟩)).setCell ⟨wo.heap.size,1,none⟩ (.int .u32 (id:Int))).setCell ⟨wo.heap.size,2,none⟩ (.int .i64 (sz:Int)):=⟨_,rfl⟩
     rw[←hwC] at S6
     have HWC:=Lib.hid hwC
     have hgs:=S5.out.fb.lt
     clear hwC S5
     go_wp2_with fail
     rw[←HWC.out]
     clear HWC b0 b1 b2 b3 f0 f1 f2 f3 hst hgs f2'
     have I0:=Lib.hid (show RB w1 wo wC B g wo.heap.size N2 Pf nm id (sz:Int) 0 none 0 0 [] ld xd from
      ⟨S6.out,World.ownsRow_nil _ _ _ _,fun hx=>by
        rw[HCF.out.1 hx,Nat.sub_zero,HNN.out]
        cases parseB 65536 (manyZ (sz:Int)).toNat [] ld<;>rfl,HCF.out.2.1,⟨rfl,rfl⟩,Nat.zero_le _,fun b hb=>by cases hb⟩)
     clear S6
     go_loopw [21] (fun i wr=>∃(k5:Nat) (A5:Option Addr) (n5 c5:Nat) (bs:List Int) (l5:List UInt8) (x5:Int),i=.int .i64 (k5:Int)∧Hid (RB w1 wo wr B g wo.heap.size N2 Pf nm id (sz:Int) k5 A5 n5 c5 bs l5 x5)) (fun i _=>N2-(intOf i).toNat)
     case atStart=>exact ⟨0,none,0,0,[],ld,xd,rfl,I0⟩
     case round=>
      clear I0
      obtain ⟨k5,A5,n5,c5,bs,l5,x5,rfl,I⟩:=hrel
      obtain ⟨hbl,hnk⟩:=I.out.len
      subst hnk
      have HBL:=Lib.hid hbl
      have hn5:=I.out.le
      clear hbl
      obtain ⟨b0,b1,b2,b3⟩:=I.out.rf.fb.four
      obtain ⟨f0,f1,f2,f3⟩:=I.out.rf.fb.four_free
      obtain ⟨Ar,nr,cr,Tr,hlr,hcr,hnr,hrr⟩:=I.out.rf.rd
      obtain ⟨p0,p1,-,-⟩:=Tr
      have HLR:=Lib.hid hlr
      have HRR:=Lib.hid hrr
      have hFw:=I.out.rf.fb.lt
      clear hlr hrr
      by_cases hlt5:n5<N2
      ·by_cases hx5:x5=0
       ·subst hx5
        obtain ⟨y,l6,x6,h5⟩:∃y la' xa',numOf l5 0 65536=(y,la',xa'):=⟨_,_,_,rfl⟩
        have hyy:y≤65536:=by have:=numOf_most l5 0 65536;rw[h5] at this;exact this
        have e6:IntKind.i64.wrap (y:Int)=(y:Int):=by rw[IntKind.wrap_i64];omega
        have H5:=Lib.hid h5
        have hmx:n5+1≤maxLen:=by unfold maxLen;omega
        have HLI:=Lib.hid (I.out.rf.lo R.out.lo HBW.out hBg)
        clear h5
        go_wp2_with fail
        refine (HMANY.out _).mono ?_
        rintro e w' ⟨rfl,rfl⟩
        go_wp2_with fail
        refine (rn_any (W:=w1) (B:=B) 65536 HLI.out HBW.out HLR.out hcr hnr HRR.out).mono ?_
        rw[H5.out]
        rintro e w5 ⟨hb,X,nX,cX,rfl,hlX,hcX,hnX,hrX⟩
        have RC:=Lib.hid (I.out.rf.past hb)
        obtain ⟨_,_,_,TC,-⟩:=RC.out.rd
        obtain ⟨q0,q1,g0,g1⟩:=TC
        have V5:=Lib.hid (RC.out.put (x':=x6) hgF hlX hcX hnX hrX)
        have O5:=Lib.hid (ownsRow_setCell_below (ownsRow_setCell_below (own_below' I.out.own hb) (a:=⟨g,0,none⟩) (show g<_ by omega) (.slice X nX cX)) (a:=⟨g,1,none⟩) (show g<_ by omega) (.int .i64 x6))
        obtain ⟨wD,hwD⟩:∃wD,wD=(w5.setCell ⟨g,0,none⟩ (.slice X nX cX)).setCell ⟨g,1,none⟩ (.int .i64 x6):=⟨_,rfl⟩
        rw[←hwD] at V5 O5
        have HWD:=Lib.hid hwD
        clear hwD hb hlX hrX RC p0 p1 b0 b1 b2 b3 f0 f1 f2 f3 HLI
        go_upto_region 26 with fail
        rw[←HWD.out]
        clear HWD q0 q1 g0 g1
        obtain ⟨-,-,-,b3⟩:=V5.out.fb.four
        have hgs:=V5.out.fb.lt
        go_wp2_with (at_builtin
                     refine wpList_append_own_at _ rfl (.tmp 122) (.tmp 125) 45 rfl (wo.heap.size+1) 3 j0 _ 1 8 Tryz.underlying45 hj0 hy0 hy1 hy2 rfl (by decide) (.slice A5 n5 c5) n5 _ rfl (O5.out.alloc _) ⟨wD.heap.size,0,none⟩ 1 1 (icells [(y:Int)]) rfl rfl (int_lit wD (y:Int) 3) (icells_one _) hmx (by omega) (by simp;omega) ?_
                     intro v6 w6 ho6 hg6 _ _
                     obtain ⟨A6,d6,rfl,hnd6⟩:=own_slice' ho6
                     have V6:=Lib.hid ((V5.out.past ((Below.refl _ _).alloc (Nat.le_refl _) (.cells #[.int .i64 (y:Int)] 3))).apart (fun q hq=>by have:=(O5.out.lt q hq).1;omega) hg6)
                     obtain ⟨-,-,-,b6⟩:=V6.out.fb.four
                     obtain ⟨-,-,-,f6⟩:=V6.out.fb.four_free
                     have O6:=Lib.hid ho6
                     clear ho6 hg6)
        have I7:=Lib.hid (show RB w1 wo (w6.setCell ⟨wo.heap.size,3,none⟩ (.slice A6 (n5+1) d6)) B g wo.heap.size N2 Pf nm id (sz:Int) (n5+1) A6 (n5+1) d6 (bs++[(y:Int)]) l6 x6 from by
         have hg:=I.out.good rfl
         have hNk:N2-n5=(N2-(n5+1))+1:=by omega
         rw[hNk,parseB] at hg
         refine ⟨V6.out.set hgF (Nat.le_refl _) 3 (.slice A6 (n5+1) d6),?_,fun hx6=>?_,fun hx6=>?_,⟨by simp[HBL.out],rfl⟩,by omega,fun b hb=>?_⟩
         ·have:=ownsRow_setCell_below O6.out (a:=⟨wo.heap.size,3,none⟩) (show wo.heap.size<wo.heap.size+1 by omega) (.slice A6 (n5+1) d6)
          rw[icells_append]
          exact this
         ·subst hx6
          rw[numO_some H5.out] at hg
          exact hg
         ·rw[numO_none H5.out hx6] at hg
          exact hg
         ·rcases List.mem_append.1 hb with hb|hb
          ·exact I.out.wf b hb
          ·simp at hb;subst hb;omega)
        clear V6 O6 V5 O5 b6 f6 b3
        first|(go_roundw
               case rel=>exact ⟨n5+1,A6,n5+1,d6,bs++[(y:Int)],l6,x6,by go_num,I7⟩
               case measure=>simp[intOf];omega)|exact ⟨⟨n5+1,A6,n5+1,d6,bs++[(y:Int)],l6,x6,by go_num,I7⟩,by simp[intOf];omega⟩
       ·have d5:(x5==0)=false:=by rw[beq_eq_false_iff_ne];exact hx5
        have HE5:=Lib.hid (show x5≠0∨n5=N2 from .inl hx5)
        have MBi:=Lib.hid (R.out.mb.grown I.out.rf.gr (fun e=>by injection e with e;omega))
        have OW:=Lib.hid (own_past R.out.own I.out.rf.gr (show g<M+1 by omega))
        have m2:=MBi.out.cell (i:=2) rfl
        have k2:=MBi.out.frozen 2
        have hgs:=I.out.rf.gr.size
        have hmx:m+1≤maxLen:=by unfold maxLen;omega
        go_wp2_with fail
        refine (HMANY.out _).mono ?_
        rintro e w' ⟨rfl,rfl⟩
        go_wp2_with (at_builtin
                     refine wpList_append_own_at _ rfl (.tmp 129) (.tmp 131) 36 rfl (M+1) 97 i0 _ 4 56 Tryz.underlying36 hi0 hz0 hz1 hz2 rfl (by decide) (.slice Fa m d) m _ rfl (OW.out.alloc _) ⟨wr.heap.size,0,none⟩ 1 1 [.string ⟨nm.toArray⟩,.int .u32 (id:Int),.int .i64 (sz:Int),.slice A5 n5 c5] rfl rfl (four_lit wr _ _ _ _ 97) (four_one _ _ _ _ _ _) hmx (by omega) (by simp;omega) ?_
                     intro v6 w6 ho6 hg6 _ hloc
                     obtain ⟨A6,d6,rfl,hnd6⟩:=own_slice' ho6
                     have M6:=(MBi.out.past ((Below.refl _ _).alloc (Nat.le_refl _) (.cells #[.string ⟨nm.toArray⟩,.int .u32 (id:Int),.int .i64 (sz:Int),.slice A5 n5 c5] 97))).grown hg6 (fun e=>by have:=(OW.out.lt _ e).1;omega)
                     have m6:=M6.cell (i:=2) rfl
                     have k6:=M6.frozen 2
                     have HO6:=Lib.hid ho6
                     have HG6:=Lib.hid hg6
                     have HK6:=Lib.hid hloc
                     clear ho6 hg6 hloc M6)
        have R7:=Lib.hid (rm_next R.out HBW.out hBg hgM hlt hid hsz hN16 (by rw[←HPF.out];exact I.out) HE5.out HO6.out HG6.out HK6.out)
        have hcell:=R7.out.mb.cell (i:=2) rfl
        have hcell0:=R.out.mb.cell (i:=2) rfl
        exact ⟨⟨_,_,_,_,_,_,_,R7⟩,by rw[hcell,hcell0];simp[sliceLen];omega⟩
      ·have HE5:=Lib.hid (show x5≠0∨n5=N2 from .inr (by omega))
       have MBi:=Lib.hid (R.out.mb.grown I.out.rf.gr (fun e=>by injection e with e;omega))
       have OW:=Lib.hid (own_past R.out.own I.out.rf.gr (show g<M+1 by omega))
       have m2:=MBi.out.cell (i:=2) rfl
       have k2:=MBi.out.frozen 2
       have hgs:=I.out.rf.gr.size
       have hmx:m+1≤maxLen:=by unfold maxLen;omega
       go_wp2_with fail
       refine (HMANY.out _).mono ?_
       rintro e w' ⟨rfl,rfl⟩
       go_wp2_with (at_builtin
                    refine wpList_append_own_at _ rfl (.tmp 129) (.tmp 131) 36 rfl (M+1) 97 i0 _ 4 56 Tryz.underlying36 hi0 hz0 hz1 hz2 rfl (by decide) (.slice Fa m d) m _ rfl (OW.out.alloc _) ⟨wr.heap.size,0,none⟩ 1 1 [.string ⟨nm.toArray⟩,.int .u32 (id:Int),.int .i64 (sz:Int),.slice A5 n5 c5] rfl rfl (four_lit wr _ _ _ _ 97) (four_one _ _ _ _ _ _) hmx (by omega) (by simp;omega) ?_
                    intro v6 w6 ho6 hg6 _ hloc
                    obtain ⟨A6,d6,rfl,hnd6⟩:=own_slice' ho6
                    have M6:=(MBi.out.past ((Below.refl _ _).alloc (Nat.le_refl _) (.cells #[.string ⟨nm.toArray⟩,.int .u32 (id:Int),.int .i64 (sz:Int),.slice A5 n5 c5] 97))).grown hg6 (fun e=>by have:=(OW.out.lt _ e).1;omega)
                    have m6:=M6.cell (i:=2) rfl
                    have k6:=M6.frozen 2
                    have HO6:=Lib.hid ho6
                    have HG6:=Lib.hid hg6
                    have HK6:=Lib.hid hloc
                    clear ho6 hg6 hloc M6)
       have R7:=Lib.hid (rm_next R.out HBW.out hBg hgM hlt hid hsz hN16 (by rw[←HPF.out];exact I.out) HE5.out HO6.out HG6.out HK6.out)
       have hcell:=R7.out.mb.cell (i:=2) rfl
       have hcell0:=R.out.mb.cell (i:=2) rfl
       exact ⟨⟨_,_,_,_,_,_,_,R7⟩,by rw[hcell,hcell0];simp[sliceLen];omega⟩
    ·have HEND:=Lib.hid (show (0:Int)≠0∨m=N from .inr (by omega))
     have hwB:w.heap.size≤B:=by omega
     have RSo:=Lib.hid (RS1.out.keep (R.out.lo.block H (by omega)))
     have ZNo:=Lib.hid (ZN1.out.keep (R.out.lo.block (H+1) (by omega)))
     have HBo:=Lib.hid (HB1.out.trans (R.out.lo.mono hwB))
     go_wp2_with fail
     refine (rend_any Ag ng cg l 0 wo HLG.out).mono ?_
     rintro e w8 ⟨rfl,hb8⟩
     obtain ⟨z,hz⟩:∃z,z=endOf l 0:=⟨_,rfl⟩
     rw[←hz]
     have HZ:=Lib.hid hz
     have RS8:=Lib.hid (RSo.out.past hb8)
     have ZN8:=Lib.hid (ZNo.out.past hb8)
     have MB8:=Lib.hid (R.out.mb.past hb8)
     have HB8:=Lib.hid (HBo.out.trans (hb8.mono HBo.out.size))
     have HKEY:=Lib.hid (show ∀wk (S:Nat→Prop),(∀j,S j→j≤M)→Out S w8 wk→ManAt wk wk.heap.size Fa m d ⟨v,nx,fs⟩ from fun wk S hrow hg=>by
      have hown:=own_below' R.out.own hb8
      have hcs:=Cs.of_own (own_out hown hg (fun j hj e=>by have:=(hown.lt j hj).1;have:=hrow j e;omega))
      obtain ⟨A',d',e,hd⟩:=own_slice' hown
      injection e with e1 _ e3
      subst e1 e3
      have h8:=((R.out.fc.past hb8 (Nat.le_refl _)).more hb8.size).out hg (Nat.le_refl _) (fun j e=>by have:=hrow j e;omega)
      exact ⟨(h8.more hg.size).files hcs,R.out.len,hd,by omega,⟨hv,hnx,R.out.wf⟩⟩)
     clear hz hb8 RSo ZNo HBo p0 p1 p2 p3 c0 c1' c2 f2
     have z0:=ZN8.out.cell (i:=0) rfl
     have z1:=ZN8.out.cell (i:=1) rfl
     have z2:=ZN8.out.cell (i:=2) rfl
     by_cases hz0:z=0
     ·subst hz0
      have HE0:=Lib.hid (end_zero HZ.out.symm)
      have HP0:=Lib.hid (show P=some (⟨v,nx,fs⟩,[]) by
       obtain ⟨ex,el⟩:=HE0.out
       have hmn:m=N:=by
        rcases HEND.out with h|h
        ·exact absurd ex h
        ·exact h
       have h:=R.out.good ex
       rw[hmn,Nat.sub_self,parseFs,el] at h
       exact h)
      have HBD:=Lib.hid (show s.body=body ⟨v,nx,fs⟩ by
       have h:=HP.out
       rw[HP0.out] at h
       have h:=(parseM_stood h.symm).1
       rw[List.append_nil] at h
       exact h)
      have i0':=MB8.out.cell (i:=0) rfl
      have i1':=MB8.out.cell (i:=1) rfl
      have i2':=MB8.out.cell (i:=2) rfl
      go_wp2_with fail
      refine (rmay_any Fa m d ⟨v,nx,fs⟩ w8 (by omega) (fun _=>by rw[←HBD.out,HL1.out];omega) (HKEY.out w8 (fun _=>False) (fun j e=>e.elim) (Out.refl _ _))).mono ?_
      rintro e w9 ⟨ok,rfl,hok,hb9⟩
      have HOK:=Lib.hid hok
      have HG9:=Lib.hid hb9
      have RS9:=Lib.hid (RS8.out.past hb9)
      have ZN9:=Lib.hid (ZN8.out.past hb9)
      have MB9:=Lib.hid (MB8.out.past hb9)
      have HB9:=Lib.hid (HB8.out.trans (hb9.mono HB8.out.size))
      clear hok hb9 i0' i1' i2' z0 z1 z2
      cases ok with
      |true=>
       have HGM:=Lib.hid ((HI.out ⟨v,nx,fs⟩).2 ⟨HP0.out,HOK.out.1 rfl⟩)
       have i0':=MB9.out.cell (i:=0) rfl
       have i1':=MB9.out.cell (i:=1) rfl
       have i2':=MB9.out.cell (i:=2) rfl
       clear HOK
       go_wp2_with (first
        |(refine wpList_store_blk rfl 38 _ _ rfl H _ #[.int .u64 (v:Int),.int .u32 (nx:Int),.slice Fa m d] rfl rfl (RS9.out) rfl man_size (man_one _ _ _ _ _) ?_
          intro w7 hb7 ho7
          have HB7:=Lib.hid (show Blk w7 H [.int .u64 (v:Int),.int .u32 (nx:Int),.slice Fa m d] from hb7)
          have HO7:=Lib.hid ho7
          clear hb7 ho7)
        |fail)
       have r0:=HB7.out.cell (i:=0) rfl
       have r1:=HB7.out.cell (i:=1) rfl
       have r2:=HB7.out.cell (i:=2) rfl
       refine bodyPost_ret (v:=.tuple #[mval v nx Fa m d,.bool true]) (by simp[results,Tryz.results55,go_sem,r0,r1,r2,mval]) rfl ?_
       exact ⟨HB9.out.trans (HO7.out.below (B:=w.heap.size) (fun k _ hk=>by omega) HB9.out.size),.inl ⟨⟨v,nx,fs⟩,Fa,m,d,HGM.out,rfl,HKEY.out _ (fun k=>k=H) (fun j e=>by omega) ((Out.of_below HG9.out).trans HO7.out),by omega,fun W hW=>HKEY.out W (fun k=>k≤H) (fun j e=>by omega) (((Out.of_below HG9.out).trans (HO7.out.more (fun k _ hk=>by omega))).trans (hW.more (fun k _ hk=>by omega)))⟩⟩
      |false=>
       have HN:=Lib.hid (show ∀m,¬GetsM b m from fun m0 h=>by
        have h1:=(HI.out m0).1 h
        rw[HP0.out] at h1
        obtain ⟨h1,h2⟩:=h1
        injection h1 with h1
        injection h1 with h1 _
        subst h1
        exact absurd (HOK.out.2 h2) (by decide))
       have z0:=ZN9.out.cell (i:=0) rfl
       have z1:=ZN9.out.cell (i:=1) rfl
       have z2:=ZN9.out.cell (i:=2) rfl
       clear HOK
       go_wp2_with (first
        |(refine wpList_store_blk rfl 38 _ _ rfl H _ #[.int .u64 0,.int .u32 0,.slice none 0 0] rfl rfl (RS9.out) rfl man_size (man_one _ _ _ _ _) ?_
          intro w7 hb7 ho7
          have HB7:=Lib.hid (show Blk w7 H [.int .u64 0,.int .u32 0,.slice none 0 0] from hb7)
          have HO7:=Lib.hid ho7
          clear hb7 ho7)
        |fail)
       have r0:=HB7.out.cell (i:=0) rfl
       have r1:=HB7.out.cell (i:=1) rfl
       have r2:=HB7.out.cell (i:=2) rfl
       have HBW:=Lib.hid (HB9.out)
       refine bodyPost_ret (v:=.tuple #[.agg #[.int .u64 0,.int .u32 0,.slice none 0 0],.bool false]) (by simp[results,Tryz.results55,go_sem,r0,r1,r2]) rfl ?_
       exact ⟨HBW.out.trans (HO7.out.below (B:=w.heap.size) (fun k _ hk=>by omega) HBW.out.size),.inr ⟨HN.out,rfl⟩⟩
     ·have HN:=Lib.hid (show ∀m,¬GetsM b m from fun m0 h=>by
       have h1:=((HI.out m0).1 h).1
       by_cases hx0:(0:Int)=0
       ·have hmn:m=N:=by
         rcases HEND.out with h|h
         ·exact absurd hx0 h
         ·exact h
        have h2:=R.out.good hx0
        rw[hmn,Nat.sub_self,parseFs,h1] at h2
        injection h2 with h2
        injection h2 with _ h2
        refine hz0 (HZ.out.trans ?_)
        rw[hx0,←h2]
        rfl
       ·rw[R.out.bad hx0] at h1;cases h1)
      clear HZ
      go_wp2_with (first
       |(refine wpList_store_blk rfl 38 _ _ rfl H _ #[.int .u64 0,.int .u32 0,.slice none 0 0] rfl rfl (RS8.out) rfl man_size (man_one _ _ _ _ _) ?_
         intro w7 hb7 ho7
         have HB7:=Lib.hid (show Blk w7 H [.int .u64 0,.int .u32 0,.slice none 0 0] from hb7)
         have HO7:=Lib.hid ho7
         clear hb7 ho7)
       |fail)
      have r0:=HB7.out.cell (i:=0) rfl
      have r1:=HB7.out.cell (i:=1) rfl
      have r2:=HB7.out.cell (i:=2) rfl
      have HBW:=Lib.hid (HB8.out)
      refine bodyPost_ret (v:=.tuple #[.agg #[.int .u64 0,.int .u32 0,.slice none 0 0],.bool false]) (by simp[results,Tryz.results55,go_sem,r0,r1,r2]) rfl ?_
      exact ⟨HBW.out.trans (HO7.out.below (B:=w.heap.size) (fun k _ hk=>by omega) HBW.out.size),.inr ⟨HN.out,rfl⟩⟩
   ·have d1:(x==0)=false:=by rw[beq_eq_false_iff_ne];exact hx
    have HEND:=Lib.hid (show x≠0∨m=N from .inl hx)
    have hwB:w.heap.size≤B:=by omega
    have RSo:=Lib.hid (RS1.out.keep (R.out.lo.block H (by omega)))
    have ZNo:=Lib.hid (ZN1.out.keep (R.out.lo.block (H+1) (by omega)))
    have HBo:=Lib.hid (HB1.out.trans (R.out.lo.mono hwB))
    go_wp2_with fail
    refine (rend_any Ag ng cg l x wo HLG.out).mono ?_
    rintro e w8 ⟨rfl,hb8⟩
    obtain ⟨z,hz⟩:∃z,z=endOf l x:=⟨_,rfl⟩
    rw[←hz]
    have HZ:=Lib.hid hz
    have RS8:=Lib.hid (RSo.out.past hb8)
    have ZN8:=Lib.hid (ZNo.out.past hb8)
    have MB8:=Lib.hid (R.out.mb.past hb8)
    have HB8:=Lib.hid (HBo.out.trans (hb8.mono HBo.out.size))
    have HKEY:=Lib.hid (show ∀wk (S:Nat→Prop),(∀j,S j→j≤M)→Out S w8 wk→ManAt wk wk.heap.size Fa m d ⟨v,nx,fs⟩ from fun wk S hrow hg=>by
     have hown:=own_below' R.out.own hb8
     have hcs:=Cs.of_own (own_out hown hg (fun j hj e=>by have:=(hown.lt j hj).1;have:=hrow j e;omega))
     obtain ⟨A',d',e,hd⟩:=own_slice' hown
     injection e with e1 _ e3
     subst e1 e3
     have h8:=((R.out.fc.past hb8 (Nat.le_refl _)).more hb8.size).out hg (Nat.le_refl _) (fun j e=>by have:=hrow j e;omega)
     exact ⟨(h8.more hg.size).files hcs,R.out.len,hd,by omega,⟨hv,hnx,R.out.wf⟩⟩)
    clear hz hb8 RSo ZNo HBo p0 p1 p2 p3 c0 c1' c2 f2
    have z0:=ZN8.out.cell (i:=0) rfl
    have z1:=ZN8.out.cell (i:=1) rfl
    have z2:=ZN8.out.cell (i:=2) rfl
    by_cases hz0:z=0
    ·subst hz0
     have HE0:=Lib.hid (end_zero HZ.out.symm)
     have HP0:=Lib.hid (show P=some (⟨v,nx,fs⟩,[]) by
      obtain ⟨ex,el⟩:=HE0.out
      have hmn:m=N:=by
       rcases HEND.out with h|h
       ·exact absurd ex h
       ·exact h
      have h:=R.out.good ex
      rw[hmn,Nat.sub_self,parseFs,el] at h
      exact h)
     have HBD:=Lib.hid (show s.body=body ⟨v,nx,fs⟩ by
      have h:=HP.out
      rw[HP0.out] at h
      have h:=(parseM_stood h.symm).1
      rw[List.append_nil] at h
      exact h)
     have i0':=MB8.out.cell (i:=0) rfl
     have i1':=MB8.out.cell (i:=1) rfl
     have i2':=MB8.out.cell (i:=2) rfl
     go_wp2_with fail
     refine (rmay_any Fa m d ⟨v,nx,fs⟩ w8 (by omega) (fun _=>by rw[←HBD.out,HL1.out];omega) (HKEY.out w8 (fun _=>False) (fun j e=>e.elim) (Out.refl _ _))).mono ?_
     rintro e w9 ⟨ok,rfl,hok,hb9⟩
     have HOK:=Lib.hid hok
     have HG9:=Lib.hid hb9
     have RS9:=Lib.hid (RS8.out.past hb9)
     have ZN9:=Lib.hid (ZN8.out.past hb9)
     have MB9:=Lib.hid (MB8.out.past hb9)
     have HB9:=Lib.hid (HB8.out.trans (hb9.mono HB8.out.size))
     clear hok hb9 i0' i1' i2' z0 z1 z2
     cases ok with
     |true=>
      have HGM:=Lib.hid ((HI.out ⟨v,nx,fs⟩).2 ⟨HP0.out,HOK.out.1 rfl⟩)
      have i0':=MB9.out.cell (i:=0) rfl
      have i1':=MB9.out.cell (i:=1) rfl
      have i2':=MB9.out.cell (i:=2) rfl
      clear HOK
      go_wp2_with (first
       |(refine wpList_store_blk rfl 38 _ _ rfl H _ #[.int .u64 (v:Int),.int .u32 (nx:Int),.slice Fa m d] rfl rfl (RS9.out) rfl man_size (man_one _ _ _ _ _) ?_
         intro w7 hb7 ho7
         have HB7:=Lib.hid (show Blk w7 H [.int .u64 (v:Int),.int .u32 (nx:Int),.slice Fa m d] from hb7)
         have HO7:=Lib.hid ho7
         clear hb7 ho7)
       |fail)
      have r0:=HB7.out.cell (i:=0) rfl
      have r1:=HB7.out.cell (i:=1) rfl
      have r2:=HB7.out.cell (i:=2) rfl
      refine bodyPost_ret (v:=.tuple #[mval v nx Fa m d,.bool true]) (by simp[results,Tryz.results55,go_sem,r0,r1,r2,mval]) rfl ?_
      exact ⟨HB9.out.trans (HO7.out.below (B:=w.heap.size) (fun k _ hk=>by omega) HB9.out.size),.inl ⟨⟨v,nx,fs⟩,Fa,m,d,HGM.out,rfl,HKEY.out _ (fun k=>k=H) (fun j e=>by omega) ((Out.of_below HG9.out).trans HO7.out),by omega,fun W hW=>HKEY.out W (fun k=>k≤H) (fun j e=>by omega) (((Out.of_below HG9.out).trans (HO7.out.more (fun k _ hk=>by omega))).trans (hW.more (fun k _ hk=>by omega)))⟩⟩
     |false=>
      have HN:=Lib.hid (show ∀m,¬GetsM b m from fun m0 h=>by
       have h1:=(HI.out m0).1 h
       rw[HP0.out] at h1
       obtain ⟨h1,h2⟩:=h1
       injection h1 with h1
       injection h1 with h1 _
       subst h1
       exact absurd (HOK.out.2 h2) (by decide))
      have z0:=ZN9.out.cell (i:=0) rfl
      have z1:=ZN9.out.cell (i:=1) rfl
      have z2:=ZN9.out.cell (i:=2) rfl
      clear HOK
      go_wp2_with (first
       |(refine wpList_store_blk rfl 38 _ _ rfl H _ #[.int .u64 0,.int .u32 0,.slice none 0 0] rfl rfl (RS9.out) rfl man_size (man_one _ _ _ _ _) ?_
         intro w7 hb7 ho7
         have HB7:=Lib.hid (show Blk w7 H [.int .u64 0,.int .u32 0,.slice none 0 0] from hb7)
         have HO7:=Lib.hid ho7
         clear hb7 ho7)
       |fail)
      have r0:=HB7.out.cell (i:=0) rfl
      have r1:=HB7.out.cell (i:=1) rfl
      have r2:=HB7.out.cell (i:=2) rfl
      have HBW:=Lib.hid (HB9.out)
      refine bodyPost_ret (v:=.tuple #[.agg #[.int .u64 0,.int .u32 0,.slice none 0 0],.bool false]) (by simp[results,Tryz.results55,go_sem,r0,r1,r2]) rfl ?_
      exact ⟨HBW.out.trans (HO7.out.below (B:=w.heap.size) (fun k _ hk=>by omega) HBW.out.size),.inr ⟨HN.out,rfl⟩⟩
    ·have HN:=Lib.hid (show ∀m,¬GetsM b m from fun m0 h=>by
      have h1:=((HI.out m0).1 h).1
      by_cases hx0:(x:Int)=0
      ·have hmn:m=N:=by
        rcases HEND.out with h|h
        ·exact absurd hx0 h
        ·exact h
       have h2:=R.out.good hx0
       rw[hmn,Nat.sub_self,parseFs,h1] at h2
       injection h2 with h2
       injection h2 with _ h2
       refine hz0 (HZ.out.trans ?_)
       rw[hx0,←h2]
       rfl
      ·rw[R.out.bad hx0] at h1;cases h1)
     clear HZ
     go_wp2_with (first
      |(refine wpList_store_blk rfl 38 _ _ rfl H _ #[.int .u64 0,.int .u32 0,.slice none 0 0] rfl rfl (RS8.out) rfl man_size (man_one _ _ _ _ _) ?_
        intro w7 hb7 ho7
        have HB7:=Lib.hid (show Blk w7 H [.int .u64 0,.int .u32 0,.slice none 0 0] from hb7)
        have HO7:=Lib.hid ho7
        clear hb7 ho7)
      |fail)
     have r0:=HB7.out.cell (i:=0) rfl
     have r1:=HB7.out.cell (i:=1) rfl
     have r2:=HB7.out.cell (i:=2) rfl
     have HBW:=Lib.hid (HB8.out)
     refine bodyPost_ret (v:=.tuple #[.agg #[.int .u64 0,.int .u32 0,.slice none 0 0],.bool false]) (by simp[results,Tryz.results55,go_sem,r0,r1,r2]) rfl ?_
     exact ⟨HBW.out.trans (HO7.out.below (B:=w.heap.size) (fun k _ hk=>by omega) HBW.out.size),.inr ⟨HN.out,rfl⟩⟩
 ·have HN:=Lib.hid (not_gets HS.out (hbad.imp id (fun h=>fun e=>h (by rw[HQ.out,e];rfl))))
  have z0:=(ZN1.out.alloc (.cells #[.int .u8 (q:Int),.slice A1 n1 c1] 143)).cell (i:=0) rfl
  have z1:=(ZN1.out.alloc (.cells #[.int .u8 (q:Int),.slice A1 n1 c1] 143)).cell (i:=1) rfl
  have z2:=(ZN1.out.alloc (.cells #[.int .u8 (q:Int),.slice A1 n1 c1] 143)).cell (i:=2) rfl
  rcases hbad with hx|hq
  ·clear HX
   go_wp2_with (first
    |(refine wpList_store_blk rfl 38 _ _ rfl H _ #[.int .u64 0,.int .u32 0,.slice none 0 0] rfl rfl (RS1.out.alloc _) rfl man_size (man_one _ _ _ _ _) ?_
      intro w7 hb7 ho7
      have HB7:=Lib.hid (show Blk w7 H [.int .u64 0,.int .u32 0,.slice none 0 0] from hb7)
      have HO7:=Lib.hid ho7
      clear hb7 ho7)
    |fail)
   have r0:=HB7.out.cell (i:=0) rfl
   have r1:=HB7.out.cell (i:=1) rfl
   have r2:=HB7.out.cell (i:=2) rfl
   have HBW:=Lib.hid (HB1.out.alloc HB1.out.size (.cells #[.int .u8 (q:Int),.slice A1 n1 c1] 143))
   refine bodyPost_ret (v:=.tuple #[.agg #[.int .u64 0,.int .u32 0,.slice none 0 0],.bool false]) (by simp[results,Tryz.results55,go_sem,r0,r1,r2]) rfl ?_
   exact ⟨HBW.out.trans (HO7.out.below (B:=w.heap.size) (fun k _ hk=>by omega) HBW.out.size),.inr ⟨HN.out,rfl⟩⟩
  ·clear HX
   by_cases hx:x=0
   ·subst hx
    go_wp2_with (first
     |(refine wpList_store_blk rfl 38 _ _ rfl H _ #[.int .u64 0,.int .u32 0,.slice none 0 0] rfl rfl (RS1.out.alloc _) rfl man_size (man_one _ _ _ _ _) ?_
       intro w7 hb7 ho7
       have HB7:=Lib.hid (show Blk w7 H [.int .u64 0,.int .u32 0,.slice none 0 0] from hb7)
       have HO7:=Lib.hid ho7
       clear hb7 ho7)
     |fail)
    have r0:=HB7.out.cell (i:=0) rfl
    have r1:=HB7.out.cell (i:=1) rfl
    have r2:=HB7.out.cell (i:=2) rfl
    have HBW:=Lib.hid (HB1.out.alloc HB1.out.size (.cells #[.int .u8 (q:Int),.slice A1 n1 c1] 143))
    refine bodyPost_ret (v:=.tuple #[.agg #[.int .u64 0,.int .u32 0,.slice none 0 0],.bool false]) (by simp[results,Tryz.results55,go_sem,r0,r1,r2]) rfl ?_
    exact ⟨HBW.out.trans (HO7.out.below (B:=w.heap.size) (fun k _ hk=>by omega) HBW.out.size),.inr ⟨HN.out,rfl⟩⟩
   ·clear hq
    go_wp2_with (first
     |(refine wpList_store_blk rfl 38 _ _ rfl H _ #[.int .u64 0,.int .u32 0,.slice none 0 0] rfl rfl (RS1.out.alloc _) rfl man_size (man_one _ _ _ _ _) ?_
       intro w7 hb7 ho7
       have HB7:=Lib.hid (show Blk w7 H [.int .u64 0,.int .u32 0,.slice none 0 0] from hb7)
       have HO7:=Lib.hid ho7
       clear hb7 ho7)
     |fail)
    have r0:=HB7.out.cell (i:=0) rfl
    have r1:=HB7.out.cell (i:=1) rfl
    have r2:=HB7.out.cell (i:=2) rfl
    have HBW:=Lib.hid (HB1.out.alloc HB1.out.size (.cells #[.int .u8 (q:Int),.slice A1 n1 c1] 143))
    refine bodyPost_ret (v:=.tuple #[.agg #[.int .u64 0,.int .u32 0,.slice none 0 0],.bool false]) (by simp[results,Tryz.results55,go_sem,r0,r1,r2]) rfl ?_
    exact ⟨HBW.out.trans (HO7.out.below (B:=w.heap.size) (fun k _ hk=>by omega) HBW.out.size),.inr ⟨HN.out,rfl⟩⟩
end Go.Proofs.YtiocpefgccndbaaGreat
end
