/- Texts put together, for a law: RsS, RsT. -/
import Derived.Lib.MinMax
import Derived.Test.YtcdkopbjlakebaaGreatDoorKS44
import Derived.Test.YtcdkopbjlakebaaGreatDoorKS38
import Derived.Test.YtcdkopbjlakebaaGreatDoorKS15
import Derived.Test.YtcdkopbjlakebaaGreatDoorKS5
section
namespace Go.Proofs.YtcdkopbjlakebaaGreatDoor
open Go.RowKit Me Mf Rw Ds Rn Tx Fr Mw Hp
theorem new_nat {pre:List UInt8} {wz rz:Int} (h:newOk pre wz rz=true):∃wd rm:Nat,wz=(wd:Int)∧rz=(rm:Int)∧1≤wd∧wd≤64∧1≤rm∧rm≤4096:=by
 unfold newOk at h
 simp only[Bool.and_eq_true,decide_eq_true_eq] at h
 exact ⟨wz.toNat,rz.toNat,by omega,by omega,by omega,by omega,by omega,by omega⟩
set_option maxRecDepth 100000 in
set_option maxHeartbeats 4000000 in
theorem rsorts_walk (wz rz:Int) (A:Option Addr) (n c:Nat) (es:List Pc) (hl:es.length=n) (hn63:n≤9223372036854775807) (A3:Option Addr) (n3 c3:Nat) (bs:List Bool) (hl3:bs.length=n3) (hn3:n3≤9223372036854775807) (w:World) (hr:BRows w w.heap.size A es) (hr3:Cs w w.heap.size A3 (bs.map Value.bool)) (hT:PTab w) :
 Calls Tryz.prog 4 #[.int .i64 wz,.int .i64 rz,.slice A n c,.slice A3 n3 c3] w fun e w'=>e=.returned (.bool true)∧Below w.heap.size w w':=by
 have HL:=Lib.hid hl
 have HL3:=Lib.hid hl3
 have HR:=Lib.hid hr
 have HR3:=Lib.hid hr3
 have HT:=Lib.hid hT
 have HTL:=Lib.hid hT.lt
 have HBG:=Lib.hid (lbegin_any w)
 clear hl hl3 hr hr3 hT
 by_cases hok:newOk [114] wz rz=true
 ·obtain ⟨wd,rm,rfl,rfl,hwd1,hwd2,hrm1,hrm2⟩:=new_nat hok
  have HOK:=Lib.hid hok
  clear hok
  go_enter Tryz.func4,Tryz.ntmps4
  go_wp2_with fail
  refine HBG.out.mono ?_
  rintro e w1 ⟨P,D,M,own,ownD,rfl,hst,hb1⟩
  have hT1:PTab w1:=HT.out.out (S:=fun _=>False) (.of_below hb1) id
  have HN:=Lib.hid (rnew_good hst (by omega) [114] wd rm HOK.out hT1)
  have HS:=Lib.hid hst
  have HB1:=Lib.hid hb1
  clear hst hb1 hT1
  go_wp2_with fail
  refine HN.out.mono ?_
  rintro e w2 ⟨K,n2,rfl,hx,hnx,hb2⟩
  have hn0:n2=0:=hnx.one ⟨fun i hi=>by omega,has400 _⟩
  subst hn0
  have HB2:=Lib.hid (HB1.out.trans (hb2.mono HB1.out.size))
  have HR2:=Lib.hid (SrtAt.new HS.out HB1.out.size HTL.out hb2 hx)
  have HFE:=Lib.hid (few_any A n c es (wd:Int) w2 w.heap.size HL.out hn63 (HR.out.below HB2.out))
  clear hx hnx hb2 HS HN
  go_wp2_with fail
  refine HFE.out.mono ?_
  rintro e w' ⟨⟨b,rfl,hfew⟩,rfl⟩
  have HF:=Lib.hid hfew
  clear hfew HFE
  cases b with
  |false=>
   have HAW:=Lib.hid (lawake_any w2 HR2.out.bx.tab)
   go_wp2_with fail
   refine HAW.out.mono ?_
   rintro e w3 ⟨rfl,hb3⟩
   have FIN:=Lib.hid (HB2.out.trans (hb3.mono HB2.out.size))
   clear hb3
   go_wp2
   go_ret
   exact ⟨rfl,FIN.out⟩
  |true=>
   have HFW:=Lib.hid (HF.out rfl)
   have hn100:n≤100:=by have:=HFW.out.1;rw[HL.out] at this;exact this
   have HI0:=Lib.hid (ss_new HR2.out HB2.out.size HTL.out)
   have HB3:=Lib.hid (HB2.out.alloc HB2.out.size (.cells #[] 9))
   clear HF
   go_wp2_with fail
   go_loopw [14,15] (fun v kv wr=>∃(k q:Nat) (A7:Option Addr) (c7:Nat),v=.slice A7 k c7∧kv=.int .i64 (k:Int)∧k≤n∧Hid (SsI wr w.heap.size K P D M ownD wd rm (2*k) q ((es.take k).map Prod.snd) (WtAt w.heap.size (.slice A7 k c7) k ((es.take k).map Prod.snd)))∧Hid (Below w.heap.size w wr)) (fun _ kv _=>n-(intOf kv).toNat)
   case atStart=>exact ⟨0,0,_,0,rfl,rfl,Nat.zero_le _,HI0,HB3⟩
   case round=>
    clear HI0 HB3 HR2 HB2 HB1
    obtain ⟨k,q,A7,c7,rfl,rfl,hk,HI,HB⟩:=hrel
    by_cases hlt:k<n
    ·obtain ⟨p,hp⟩:∃p,es[k]?=some p:=⟨_,List.getElem?_eq_getElem (by rw[HL.out];exact hlt)⟩
     obtain ⟨a,A1,n1,c1,rfl,hab,hcl,hn1,hc1,hc63,hrd⟩:=HR.out.at hp
     have cx:wr.cell? (a.add k)=some (.slice A1 n1 c1):=(HB.out.cell (by rw[block_add];exact hab)).trans hcl
     have HTK:=Lib.hid (show (es.take (k+1)).map Prod.snd=(es.take k).map Prod.snd++[p.2] by rw[List.take_add_one,hp];simp)
     have hn1w:n1=wd:=by have:=HFW.out.2.2.2 p (List.mem_of_getElem? hp);omega
     subst hn1w
     obtain ⟨x,hx⟩:∃x,x=p.2:=⟨_,rfl⟩
     rw[←hx] at HTK hn1 hrd
     have HP:=Lib.hid (ss_put HI.out (wt_ok _ _ _ _) (by omega) HB.out A1 n1 c1 x hn1 rfl hrd)
     have HRD:=Lib.hid (And.intro hn1 hrd)
     have hlt2:(k:Int)<(n:Int):=by omega
     clear hp hcl hn1 hrd hx hc1
     go_wp2_with fail
     refine HP.out.mono ?_
     rintro e w3 ⟨rfl,⟨q3,hs3⟩,hb3⟩
     have HB3:=Lib.hid (HB.out.trans hb3)
     have HS3:=Lib.hid hs3
     have hq3:q3≤rm:=hs3.few
     clear hs3 hb3 HP
     go_wp2_with fail
     refine (ss_held HS3.out).mono ?_
     rintro e w4 ⟨rfl,hb4⟩
     have HB4:=Lib.hid (HB3.out.trans (hb4.mono HB3.out.size))
     have HS4:=Lib.hid (HS3.out.past (wt_ok _ _ _ _) hb4)
     have hqn:¬(rm:Int)<(q3:Int):=by omega
     have hcv:(convert 24 9 (.slice A1 n1 c1)).run Tryz.prog w4=.ok (sv x) w4:=str_any A1 n1 c1 x w4 w.heap.size HRD.out.1 (HRD.out.2.below HB4.out)
     have cx4:w4.cell? (a.add k)=some (.slice A1 n1 c1):=(HB4.out.cell (by rw[block_add];exact hab)).trans ((HB.out.cell (by rw[block_add];exact hab)).symm.trans cx)
     have HOW:=Lib.hid (HS4.out.wt.1.alloc (.cells #[sv x] 9))
     have HLO:=Lib.hid HS4.out.lo
     have HMX:=Lib.hid (show k+1≤maxLen by unfold maxLen;omega)
     obtain ⟨i0,hi0,hz0,hz1,hz2⟩:=info_parts str_info
     clear hb4 HS3 HB3 cx
     go_wp2_with (at_builtin
                  go_loud (refine wpList_append_both rfl (.tmp 68) (.tmp 74) 36 rfl w.heap.size 9 i0 _ 1 16 Tryz.underlying36 hi0 hz0 hz1 hz2 rfl (by decide) A7 k c7 _ rfl HOW.out ⟨w4.heap.size,0,none⟩ 1 1 [sv x] rfl rfl (cell_one_new w4 _ _) (fun u hu=>by rw[List.mem_singleton.1 hu];rfl) (by decide) HMX.out (by omega) (by rw[World.size_alloc];have:=HLO.out;omega) ?_)
                  intro v6 w6 ho6 hg6 hn6 hfit6
                  refine Classical.byContradiction fun hcontra=>?_)
     obtain ⟨A8,c8,hv8,-⟩:=own_slice' ho6
     subst hv8
     obtain ⟨hs6,hb6⟩:=ss_app HS4.out ho6 hg6 hn6
     rw[←HTK.out] at hs6
     have HS6:=Lib.hid hs6
     have HB6:=Lib.hid (HB4.out.trans hb6)
     clear ho6 hg6 hn6 hfit6 hs6 hb6 hcv cx4
     apply hcontra
     clear hcontra
     by_cases hf:k<n3
     ·obtain ⟨b,hbk⟩:∃b,bs[k]?=some b:=⟨_,List.getElem?_eq_getElem (by rw[HL3.out];exact hf)⟩
      obtain ⟨a3,rfl,hab3,hc3⟩:=HR3.out (by rw[List.length_map,HL3.out];omega)
      have cx6:w6.cell? (a3.add k)=some (.bool b):=(HB6.out.cell (by rw[block_add];exact hab3)).trans (hc3 k _ (by rw[List.getElem?_map,hbk];rfl))
      have hf2:(k:Int)<(n3:Int):=by omega
      clear hbk hc3
      cases b with
      |false=>
       go_wp2_with fail
       go_roundw
       case rel=>exact ⟨k+1,q3,A8,c8,rfl,by go_num,by omega,Lib.hid (HS6.out.later (by omega)),HB6⟩
       case measure=>simp[intOf];omega
      |true=>
       have HFL:=Lib.hid (ss_flush HS6.out (wt_ok _ _ _ _) (by omega))
       go_wp2_with fail
       refine HFL.out.mono ?_
       rintro e w7 ⟨rfl,hs7,hb7⟩
       have HB7:=Lib.hid (HB6.out.trans hb7)
       have HS7:=Lib.hid hs7
       clear hs7 hb7 HFL
       go_wp2_with fail
       refine (ss_held HS7.out).mono ?_
       rintro e w8 ⟨rfl,hb8⟩
       have HB8:=Lib.hid (HB7.out.trans (hb8.mono HB7.out.size))
       have HS8:=Lib.hid (HS7.out.past (wt_ok _ _ _ _) hb8)
       clear hb8
       go_wp2_with fail
       go_roundw
       case rel=>exact ⟨k+1,0,A8,c8,rfl,by go_num,by omega,Lib.hid (HS8.out.later (by omega)),HB8⟩
       case measure=>simp[intOf];omega
     ·have hf2:¬(k:Int)<(n3:Int):=by omega
      go_wp2_with fail
      go_roundw
      case rel=>exact ⟨k+1,q3,A8,c8,rfl,by go_num,by omega,Lib.hid (HS6.out.later (by omega)),HB6⟩
      case measure=>simp[intOf];omega
    ·have hkn:k=n:=by omega
     subst hkn
     obtain ⟨L,hL⟩:∃L,L=es.map Prod.snd:=⟨_,rfl⟩
     have HTE:=Lib.hid (show (es.take k).map Prod.snd=L by rw[hL,List.take_of_length_le (by rw[HL.out];exact Nat.le_refl _)])
     rw[HTE.out] at HI
     have HLL:=Lib.hid (show L.length=k by rw[hL,List.length_map,HL.out])
     have HRW:=Lib.hid (ss_rows HI.out (by omega) (by rw[HLL.out];omega))
     clear hL HTE hlt
     go_wp2_with fail
     refine HRW.out.mono ?_
     rintro e w3 ⟨A4,n4,c4,rfl,ho4,hl4,hb4⟩
     have hn4:n4=k:=by rw[←hl4,(sortL_perm L).length_eq,HLL.out]
     subst hn4
     have HC4:=Lib.hid (Cs.of_own ho4)
     have HB4:=Lib.hid (HB.out.trans (hb4.mono HB.out.size))
     have HI4:=Lib.hid (HI.out.past (wt_ok _ _ _ _) hb4)
     have HL4:=Lib.hid hl4
     have HRW2:=Lib.hid (ss_rows HI4.out (by omega) (by rw[HLL.out];omega))
     clear ho4 hl4 hb4 HRW
     go_wp2_with fail
     refine HRW2.out.mono ?_
     rintro e w5 ⟨A5,n5,c5,rfl,ho5,hl5,hb5⟩
     have hn5:n5=n4:=hl5.symm.trans HL4.out
     subst hn5
     have HC5:=Lib.hid (Cs.of_own ho5)
     have HC45:=Lib.hid ((HC4.out.below hb5).more hb5.size)
     have HB5:=Lib.hid (HB4.out.trans (hb5.mono HB4.out.size))
     have HI5:=Lib.hid (HI4.out.past (wt_ok _ _ _ _) hb5)
     have HSO:=Lib.hid (lsorted_any A7 n5 c7 L HLL.out (by omega) w5 (Cs.of_own HI5.out.wt.1))
     clear ho5 hl5 hb5 HRW2 HC4
     go_wp2_with fail
     refine HSO.out.mono ?_
     rintro e w6 ⟨A6,c6,rfl,ho6,hb6⟩
     have HC6:=Lib.hid (Cs.of_own ho6)
     have HC46:=Lib.hid ((HC45.out.below hb6).more hb6.size)
     have HC56:=Lib.hid ((HC5.out.below hb6).more hb6.size)
     have HB6:=Lib.hid (HB5.out.trans (hb6.mono HB5.out.size))
     have HT6:=Lib.hid ((HI5.out.past (wt_ok _ _ _ _) hb6).tab)
     have HSA:=Lib.hid (lsame_any A4 A6 n5 c4 c6 (sortL L) HL4.out (by omega) w6 HC46.out HC6.out)
     clear ho6 hb6 HSO HC5
     go_wp2_with fail
     refine HSA.out.mono ?_
     rintro e w7 ⟨rfl,hb7⟩
     have HB7:=Lib.hid (HB6.out.trans (hb7.mono HB6.out.size))
     have HT7:=Lib.hid (HT6.out.out (S:=fun _=>False) (.of_below hb7) id)
     have HSB:=Lib.hid (lsame_any A5 A4 n5 c5 c4 (sortL L) HL4.out (by omega) w7 ((HC56.out.below hb7).more hb7.size) ((HC46.out.below hb7).more hb7.size))
     clear hb7 HSA
     go_wp2_with fail
     refine HSB.out.mono ?_
     rintro e w8 ⟨rfl,hb8⟩
     have HB8:=Lib.hid (HB7.out.trans (hb8.mono HB7.out.size))
     have HAW:=Lib.hid (lawake_any w8 (HT7.out.out (S:=fun _=>False) (.of_below hb8) id))
     clear hb8 HSB
     go_wp2_with fail
     refine HAW.out.mono ?_
     rintro e w9 ⟨rfl,hb9⟩
     have FIN:=Lib.hid (HB8.out.trans (hb9.mono HB8.out.size))
     clear hb9
     go_wp2
     go_ret
     exact ⟨rfl,FIN.out⟩
 ·have HNB:=Lib.hid (show newOk [114] wz rz=false by simpa using hok)
  clear hok
  go_enter Tryz.func4,Tryz.ntmps4
  go_wp2_with fail
  refine HBG.out.mono ?_
  rintro e w1 ⟨P,D,M,own,ownD,rfl,hst,hb1⟩
  have HT1:=Lib.hid (show PTab w1 from HT.out.out (S:=fun _=>False) (.of_below hb1) id)
  have HN:=Lib.hid (rnew_bad (.pointer (some ⟨P,0,none⟩)) [114] wz rz (by decide) w1 HNB.out)
  have HB1:=Lib.hid hb1
  have HFE:=Lib.hid (few_any A n c es wz w1 w.heap.size HL.out hn63 (HR.out.below hb1))
  clear hst hb1
  go_wp2_with fail
  refine HN.out.mono ?_
  rintro e w' ⟨rfl,rfl⟩
  go_wp2_with fail
  refine HFE.out.mono ?_
  rintro e w' ⟨⟨b,rfl,-⟩,rfl⟩
  have HAW:=Lib.hid (lawake_any w1 HT1.out)
  clear HFE HN
  cases b with
  |false=>
   go_wp2_with fail
   refine HAW.out.mono ?_
   rintro e w3 ⟨rfl,hb3⟩
   have FIN:=Lib.hid (HB1.out.trans (hb3.mono HB1.out.size))
   clear hb3
   go_wp2
   go_ret
   exact ⟨rfl,FIN.out⟩
  |true=>
   go_wp2_with fail
   refine HAW.out.mono ?_
   rintro e w3 ⟨rfl,hb3⟩
   have FIN:=Lib.hid (HB1.out.trans (hb3.mono HB1.out.size))
   clear hb3
   go_wp2
   go_ret
   exact ⟨rfl,FIN.out⟩
end Go.Proofs.YtcdkopbjlakebaaGreatDoor
end
section
namespace Go.Proofs.YtcdkopbjlakebaaGreatDoor
open Go.RowKit Me Mf Rw Ds Rn Tx Fr Mw Hp
theorem act_gen13 {F:Fence} {n:Nat} {P:Program} {c:Code} {Q:Exit→Act→World→Prop} {a:Act} {w:World} (h:∀T,T=a→c.wpIn F n P Q T w):c.wpIn F n P Q a w:=h a rfl
def rtG (G k n c n1 c1 c7:Nat) (a:Addr) (A1 A7:Option Addr) (x:List UInt8):Gw.Fact:=fun t v W=>
 match t with
 |16=>v=.pointer (some ⟨G,0,none⟩)
 |70=>v=.slice A7 k c7
 |2|71=>v=.slice (some a) n c
 |17|72=>v=.int .i64 (k:Int)
 |73=>v=.pointer (some (a.add k))
 |74=>v=.slice A1 n1 c1
 |75=>v=sv x
 |76=>∃g,v=.slice (some ⟨g,0,none⟩) 1 1∧W.cell? ⟨g,0,none⟩=some (sv x)
 |_=>True
def rtB (Q G k n c9 nx cx:Nat) (a9:Addr) (Ax:Option Addr) (x:List UInt8):Gw.Fact:=fun t v _=>
 match t with
 |20=>v=.pointer (some ⟨Q,0,none⟩)
 |16=>v=.pointer (some ⟨G,0,none⟩)
 |99|107=>v=.int .i64 (k:Int)
 |100|106=>v=.slice (some a9) n c9
 |101=>v=.int .i64 (n:Int)
 |102|103|110|111=>v=.bool false
 |21|104=>v=.slice Ax nx cx
 |105|109=>v=sv x
 |108=>v=.pointer (some (a9.add k))
 |_=>True
attribute [local go_sem] Oper.semAt_some
set_option maxRecDepth 100000 in
set_option maxHeartbeats 4000000 in
theorem rstops_walk (wz rz:Int) (A:Option Addr) (n c:Nat) (es:List Pc) (hl:es.length=n) (hn63:n≤9223372036854775807) (kk:Nat) (hkk:kk<256) (Am:Option Addr) (m cm:Nat) (mo:List UInt8) (hm:mo.length=m) (hm63:m≤9223372036854775807) (w:World) (hr:BRows w w.heap.size A es) (hrm:Rd w w.heap.size Am mo) (hT:PTab w) :
 Calls Tryz.prog 5 #[.int .i64 wz,.int .i64 rz,.slice A n c,.int .u8 (kk:Int),.slice Am m cm] w fun e w'=>e=.returned (.bool true)∧Below w.heap.size w w':=by
 refine (callsIn_wide (n:=4)).1 ?_
 have HL:=Lib.hid hl
 have HM:=Lib.hid hm
 have HTL:=Lib.hid hT.lt
 obtain ⟨H,hH⟩:∃H,H=w.heap.size:=⟨_,rfl⟩
 obtain ⟨W0,hW0⟩:∃W0,(w.alloc (.cells #[.int .u8 (kk:Int)] 5)).alloc (.cells #[.bool false] 4)=W0:=⟨_,rfl⟩
 have b9:Blk W0 H [.int .u8 (kk:Int)]:=by rw[←hW0,hH];exact (Blk.new w [.int .u8 (kk:Int)] _).alloc _
 have b0:Blk W0 (H+1) [.bool false]:=by rw[←hW0,hH];exact Blk.new' (w.alloc _) [.bool false] _ (by simp)
 have hb0:Below w.heap.size w W0:=by rw[←hW0];exact ((Below.refl _ w).alloc (Nat.le_refl _) _).alloc (by simp) _
 have hs0:W0.heap.size=H+2:=by rw[←hW0,hH];simp
 have HT:=Lib.hid (show PTab W0 from hT.out (S:=fun _=>False) (.of_below hb0) id)
 have HR:=Lib.hid (show BRows W0 W0.heap.size A es from ⟨(hr.row.below hb0).more hb0.size,fun p hp=>by
  obtain ⟨A1,n1,c1,h1,h2,h3,h4,h5⟩:=hr.all p hp
  exact ⟨A1,n1,c1,h1,h2,h3,h4,(h5.below hb0).more hb0.size⟩⟩)
 have HRM:=Lib.hid (show Rd W0 W0.heap.size Am mo from (hrm.below hb0).more hb0.size)
 have HH:=Lib.hid hH
 have HB0:=Lib.hid hb0
 have B9:=Lib.hid b9
 have B0:=Lib.hid b0
 have HS0:=Lib.hid hs0
 have HW0:=Lib.hid hW0
 have HBG:=Lib.hid (lbegin_any W0)
 clear hl hm hr hrm hT hH hW0 b9 b0 hb0 hs0
 refine callsIn_of_wp_marks Tryz.func5 rfl trivial ?_ rfl
 simp only[Tryz.ntmps5,List.size_toArray,List.length_cons,List.length_nil,Nat.reduceAdd,Nat.reduceSub,Array.replicate_succ,Array.replicate_zero,List.push_toArray,List.append_toArray,List.nil_append,List.cons_append]
 refine wpIn_wide.2 ?_
 go_wp2_with fail
 rw[HW0.out]
 rw[←HH.out]
 have HEND:=Lib.hid (show ∀W:World,Below (H+2) W0 W→∀w3:World,Below W.heap.size W w3→w3.cell? ⟨H+1,0,none⟩=some (.bool false)∧w3.frozen? ⟨H+1,0,none⟩=false∧(w3.setCell ⟨H+1,0,none⟩ (.bool true)).cell? ⟨H+1,0,none⟩=some (.bool true)∧Below w.heap.size w (w3.setCell ⟨H+1,0,none⟩ (.bool true)) from fun W hW w3 hw3=>by
  have hs0:=HS0.out
  have hb3:Below (H+2) W0 w3:=hW.trans (hw3.mono (by have:=hW.size;omega))
  have b3:=B0.out.past (show Below W0.heap.size W0 w3 by rw[hs0];exact hb3)
  refine ⟨b3.cell (i:=0) rfl,b3.frozen 0,(b3.set 0 _).cell (i:=0) rfl,(HB0.out.trans (hb3.mono (by have:=HH.out;omega))).setCell (p:=⟨H+1,0,none⟩) (by have:=HH.out;show _≤H+1;omega) _⟩)
 by_cases hok:newOk [114] wz rz=true
 ·obtain ⟨wd,rm,rfl,rfl,hwd1,hwd2,hrm1,hrm2⟩:=new_nat hok
  have HOK:=Lib.hid hok
  clear hok
  refine HBG.out.mono ?_
  rintro e w1 ⟨P,D,M,own,ownD,rfl,hst,hb1⟩
  have hT1:PTab w1:=HT.out.out (S:=fun _=>False) (.of_below hb1) id
  have HN:=Lib.hid (rnew_good hst (by omega) [114] wd rm HOK.out hT1)
  have HS:=Lib.hid hst
  have HB1:=Lib.hid hb1
  clear hst hb1 hT1
  go_wp2_with fail
  refine HN.out.mono ?_
  rintro e w2 ⟨K,n2,rfl,hx,hnx,hb2⟩
  have hn0:n2=0:=hnx.one ⟨fun i hi=>by omega,has400 _⟩
  subst hn0
  have HB2:=Lib.hid (HB1.out.trans (hb2.mono HB1.out.size))
  have HR2:=Lib.hid (SrtAt.new HS.out HB1.out.size (by have:=HTL.out;have:=HB0.out.size;omega) hb2 hx)
  have HFE:=Lib.hid (few_any A n c es (wd:Int) w2 W0.heap.size HL.out hn63 (HR.out.below HB2.out))
  clear hx hnx hb2 HS HN
  go_wp2_with fail
  refine HFE.out.mono ?_
  rintro e w' ⟨⟨b,rfl,hfew⟩,rfl⟩
  have HF:=Lib.hid hfew
  clear hfew HFE
  by_cases hb:b=true∧m=wd
  ·obtain ⟨rfl,rfl⟩:=hb
   have HFW:=Lib.hid (HF.out rfl)
   have hn100:n≤100:=by have:=HFW.out.1;rw[HL.out] at this;exact this
   have HI0:=Lib.hid (ss_newG HR2.out HB2.out.size (by have:=HTL.out;have:=HB0.out.size;omega))
   obtain ⟨W3,hW3⟩:∃W3,(w2.alloc (.cells #[] 9)).alloc (.cells #[.slice (some ⟨w2.heap.size,0,none⟩) 0 0] 36)=W3:=⟨_,rfl⟩
   rw[hW3] at HI0
   have HB3:=Lib.hid (show Below W0.heap.size W0 W3 by rw[←hW3];exact (HB2.out.alloc HB2.out.size _).alloc (by have:=HB2.out.size;rw[World.size_alloc];omega) _)
   obtain ⟨G,hG⟩:∃G,G=w2.heap.size+1:=⟨_,rfl⟩
   rw[←hG] at HI0
   have HW3:=Lib.hid (And.intro hW3 hG)
   clear HF hW3 hG
   go_wp2_with fail
   rw[HW3.out.1,←HW3.out.2]
   go_loopw [17] (fun kv wr=>∃k q:Nat,kv=.int .i64 (k:Int)∧k≤n∧Hid (SsI wr W0.heap.size K P D M ownD m rm k q ((es.take k).map Prod.snd) (GtAt W0.heap.size G ((es.take k).map Prod.snd)))∧Hid (Below W0.heap.size W0 wr)) (fun kv _=>n-(intOf kv).toNat)
   case atStart=>exact ⟨0,0,rfl,Nat.zero_le _,HI0,HB3⟩
   case round=>
    clear HI0 HB3 HR2 HB2 HB1
    obtain ⟨k,q,rfl,hk,HI,HB⟩:=hrel
    by_cases hlt:k<n
    ·obtain ⟨p,hp⟩:∃p,es[k]?=some p:=⟨_,List.getElem?_eq_getElem (by rw[HL.out];exact hlt)⟩
     obtain ⟨a,A1,n1,c1,rfl,hab,hcl,hn1,hc1,hc63,hrd⟩:=HR.out.at hp
     have cx:wr.cell? (a.add k)=some (.slice A1 n1 c1):=(HB.out.cell (by rw[block_add];exact hab)).trans hcl
     have HTK:=Lib.hid (show (es.take (k+1)).map Prod.snd=(es.take k).map Prod.snd++[p.2] by rw[List.take_add_one,hp];simp)
     have hn1w:n1=m:=by have:=HFW.out.2.2.2 p (List.mem_of_getElem? hp);omega
     subst hn1w
     obtain ⟨x,hx⟩:∃x,x=p.2:=⟨_,rfl⟩
     rw[←hx] at HTK hn1 hrd
     have HP:=Lib.hid (ss_put HI.out (gt_ok _ _ _) (by omega) HB.out A1 n1 c1 x hn1 rfl hrd)
     have HRD:=Lib.hid (And.intro hn1 hrd)
     have HCX:=Lib.hid hcl
     have HAB:=Lib.hid hab
     have hlt2:(k:Int)<(n:Int):=by omega
     clear hp hcl hn1 hrd hx hc1
     go_wp2_with fail
     refine HP.out.mono ?_
     rintro e w3 ⟨rfl,⟨q3,hs3⟩,hb3⟩
     have HB3:=Lib.hid (HB.out.trans hb3)
     have HS3:=Lib.hid hs3
     obtain ⟨A7,n7,c7,k1,k2,k3,k4,k5⟩:=hs3.gt
     have hn7:n7=k:=by rw[←k3,List.length_map,List.length_take,HL.out];omega
     subst hn7
     have HK:=Lib.hid (And.intro k1 k2)
     have HK4:=Lib.hid k4
     obtain ⟨i0,hi0,hz0,hz1,hz2⟩:=info_parts str_info
     have hmx:n7+1≤maxLen:=by unfold maxLen;omega
     clear hs3 hb3 HP k1 k2 k3 k4 cx hab
     go_wp2_with fail
     refine wp_region_tl 7 (rtG G n7 n c n1 c1 c7 a A1 A7 x) [70,71,72,73,74,75,76] [([16],none),([2],none),([17],none),([71,72],none),([73],none),([74],none),([75],none)] 129 (by kernel_rfl) (by kernel_rfl) rfl ?h0 ?hreq rfl ?hend
     case h0=>
      intro t W hnd _
      unfold rtG
      split<;>first|rfl|trivial|exact absurd (by simp) hnd
     case hreq=>
      refine ⟨?_,?_,?_,?_,?_,?_,?_,trivial⟩
      all_goals
       intro ac W hg hk
       have hg':Below w3.heap.size w3 W:=hg
       have z0:=(HK.out.1.past hg').cell (i:=0) rfl
       have hbW:=HB3.out.trans (hg'.mono HB3.out.size)
       have z1:W.cell? (a.add n7)=some (.slice A1 n1 c1):=(hbW.cell (by rw[block_add];exact HAB.out)).trans HCX.out
       have z2:(convert 24 9 (.slice A1 n1 c1)).run Tryz.prog W=.ok (sv x) W:=str_any A1 n1 c1 x W W0.heap.size HRD.out.1 (HRD.out.2.below hbW)
       simp only[Gw.Knows,rtG] at hk
       try (simp[go_sem,Gw.OpReq,Gw.Ok,Gw.Post,Gw.Holds,rtG,Gw.Grows.refl,hk,z0,z1,z2,hlt,hlt2];done)
      ·simp[go_sem,Gw.OpReq,Gw.Ok,Gw.Post,Gw.Holds,rtG,hk]
       exact ⟨(Below.refl _ _).alloc (Nat.le_refl _) _,fun W2 hW2=>((show Below (W.alloc (.cells #[sv x] 9)).heap.size (W.alloc (.cells #[sv x] 9)) W2 from hW2).cell (by simp)).trans ((Blk.new W [sv x] _).cell (i:=0) rfl)⟩
     case hend=>
      intro y w4 hg hy
      have y70:y 70=.slice A7 n7 c7:=(hy 70 (by simp)).now
      obtain ⟨g,y76,yc⟩:∃g,y 76=.slice (some ⟨g,0,none⟩) 1 1∧w4.cell? ⟨g,0,none⟩=some (sv x):=(hy 76 (by simp)).now
      have hg':Below w3.heap.size w3 w4:=hg
      simp only[Gw.putAll,Act.put,List.setIfInBounds_toArray,List.set_cons_zero,List.set_cons_succ]
      rw[y70,y76]
      have hnews:∀j u,[sv x][j]?=some u→w4.cell? ((⟨g,0,none⟩:Addr).add j)=some u:=fun j u hu=>by
       match j,hu with
       |0,hu=>injection hu with hu;rw[←hu];exact yc
       |j+1,hu=>simp at hu
      refine tl_append (.tmp 70) (.tmp 76) 36 rfl W0.heap.size 9 i0 _ 1 16 Tryz.underlying36 hi0 hz0 hz1 hz2 rfl (by decide) A7 n7 c7 _ rfl (own_out HK.out.2 (.of_below hg') (fun _ _=>id)) ⟨g,0,none⟩ 1 1 [sv x] rfl rfl hnews (fun u hu=>by rw[List.mem_singleton.1 hu];rfl) (by decide) hmx (by omega) (Nat.le_trans HB3.out.size hg'.size) ?_
      intro v6 w6 ho6 hg6 hn6
      obtain ⟨A8,c8,hv8,-⟩:=own_slice' ho6
      subst hv8
      have hb6:=((HK.out.1.past hg').grown hg6 HK4.out)
      refine tl_box 36 (.tmp 16) (.tmp 77) rfl G _ (.slice A8 (n7+1) c8) rfl rfl hb6 (by kernel_rfl) rfl ?_
      obtain ⟨hs6,hb7⟩:=ss_appG HS3.out HK.out.1 hg' ho6 hg6 hn6
      rw[←HTK.out] at hs6
      have HS6:=Lib.hid hs6
      have HB6:=Lib.hid (HB3.out.trans hb7)
      clear hs6 hb7 ho6 hg6 hn6 hb6 hg hg' hy y70 y76 yc hnews
      refine tl_nil ?_
      go_wp2
      go_roundw
      case rel=>exact ⟨n7+1,q3,by go_num,by omega,HS6,HB6⟩
      case measure=>simp[intOf];omega
    ·have hkn:k=n:=by omega
     subst hkn
     obtain ⟨L,hL⟩:∃L,L=es.map Prod.snd:=⟨_,rfl⟩
     have HTE:=Lib.hid (show (es.take k).map Prod.snd=L by rw[hL,List.take_of_length_le (by rw[HL.out];exact Nat.le_refl _)])
     rw[HTE.out] at HI
     have HLL:=Lib.hid (show L.length=k by rw[hL,List.length_map,HL.out])
     obtain ⟨A7,n7,c7,k1,k2,k3,k4,k5⟩:=HI.out.gt
     have hn7:n7=k:=by rw[←k3,HLL.out]
     subst hn7
     have z0:=k1.cell (i:=0) rfl
     have HSO:=Lib.hid (lsorted_any A7 n7 c7 L HLL.out (by omega) wr (Cs.of_own k2))
     have HKB:=Lib.hid k1
     clear hL HTE hlt k1 k2 k3 k4 k5
     go_wp2_with fail
     refine HSO.out.mono ?_
     rintro e w6 ⟨A6,c6,rfl,ho6,hb6⟩
     have hkb6:=HKB.out.past hb6
     have z6:=hkb6.frozen 0
     have z61:=hkb6.cell (i:=0) rfl
     obtain ⟨hs7,hb7⟩:=ss_setG (l':=sortL L) HI.out hb6 ho6 (by rw[(sortL_perm L).length_eq,HLL.out])
     obtain ⟨w7,hw7⟩:∃w7,w6.setCell ⟨G,0,none⟩ (.slice A6 n7 c6)=w7:=⟨_,rfl⟩
     rw[hw7] at hs7 hb7
     have HW7:=Lib.hid hw7
     have HS7:=Lib.hid hs7
     have HB7:=Lib.hid (HB.out.trans hb7)
     have HIT:=Lib.hid (ss_iter hs7 (by omega))
     clear hs7 hb7 ho6 hb6 hkb6 HSO HKB HI HB hw7
     go_wp2_with fail
     rw[HW7.out]
     refine HIT.out.mono ?_
     rintro e w8 ⟨Bl,Bw,ln,lc,LA,Lq,rfl,hMg,hLq,hb8⟩
     have hnn:=seq_not_nil w8 (.func 75) #[] #[.pointer (some ⟨Bl,0,none⟩),.pointer (some ⟨Bw,0,none⟩)]
     have HP:=Lib.hid (ss_put2 HS7.out (gt_ok _ _ _) (by omega) hb8 HB7.out Am m cm mo HM.out rfl HRM.out)
     have HMG:=Lib.hid hMg
     have HLQ:=Lib.hid hLq
     have HB8:=Lib.hid (HB7.out.trans (hb8.mono HB7.out.size))
     clear hMg hLq hb8 HIT
     go_wp2_with fail
     refine HP.out.mono ?_
     rintro e w9 ⟨rfl,⟨q9,hs9⟩,hb9,ho9⟩
     have HMG9:=Lib.hid (HMG.out.kept ho9 (fun k h1 h2 e=>by omega))
     have HS9:=Lib.hid hs9
     have HB9:=Lib.hid (HB8.out.trans (hb9.mono (Nat.le_refl _)))
     clear hs9 hb9 ho9 HMG HP hnn
     go_wp2
     obtain ⟨Q,hQ⟩:∃Q,Q=w9.heap.size:=⟨_,rfl⟩
     obtain ⟨W5,hW5⟩:∃W5,w9.alloc (.cells #[.int .i64 0] 3)=W5:=⟨_,rfl⟩
     have hb5:Below w9.heap.size w9 W5:=by rw[←hW5];exact (Below.refl _ _).alloc (Nat.le_refl _) _
     have hs5:W5.heap.size=Q+1:=by rw[←hW5,hQ];simp
     have p4:Blk W5 Q [.int .i64 0]:=by rw[←hW5,hQ];exact Blk.new w9 [.int .i64 0] _
     rw[hW5,←hQ]
     obtain ⟨A9,n9,c9,k1,k2,k3,-,k5⟩:=HS9.out.gt
     have hn9:n9=n7:=by rw[←k3,(sortL_perm L).length_eq,HLL.out]
     subst hn9
     have hGQ:G<Q:=by rw[hQ];exact k1.lt
     have hHQ:H+2≤Q:=by have:=HS9.out.lo;rw[hQ,←HS0.out];exact this
     have hbW:Below W0.heap.size W0 W5:=HB9.out.trans (hb5.mono HB9.out.size)
     have HF:=Lib.hid (And.intro (B9.out.past hbW) (And.intro (B0.out.past hbW) (And.intro (k1.past hb5) (And.intro ((Cs.of_own k2).below hb5) (And.intro (HS9.out.tab.out (S:=fun _=>False) (.of_below hb5) id) (And.intro hbW p4))))))
     have HMG:=Lib.hid (HMG9.out.kept (S:=fun _=>False) (.of_below hb5) (fun _ _ _=>id))
     have HX:=Lib.hid (show (sortL L).length=n9 by rw[(sortL_perm L).length_eq,HLL.out])
     have HQ:=Lib.hid hQ
     have HS5:=Lib.hid hs5
     have HHI:=Lib.hid (show w8.heap.size≤Q by rw[hQ];exact HMG9.out.hi)
     clear hb5 k1 k2 k3 k5 hbW p4 hW5 hQ HMG9 HB9 HS9 HB8 HS7 HB7 HW7
     refine (wpIn_wide (n:=4)).1 ?_
     refine act_gen13 fun T hT=>?_
     obtain ⟨f9,f0,fG,fcs,ftab,fb,f4⟩:=HF.out
     have hs5:=HS5.out
     obtain ⟨Mid,hMid⟩:∃Mid:Exit→Act→World→Prop,Mid=fun e a W1=>(e=.normal∨e=.exit 2)∧∃D v:Nat,a={T with defers:={target:=.collected D,args:=#[]}::T.defers}∧W5.heap.size≤D∧W1.heap[D]?=some (.deferred (some []))∧Out (fun k=>k=Q) W5 W1∧Blk W1 Q [.int .i64 (v:Int)]∧((v=kk+1∧kk+1≤n9)∨(v=n9∧n9≤kk)):=⟨_,rfl⟩
     refine Go.wpIn_mono (Q:=Mid) ?loop ?rest
     case loop=>
      refine Rt.range_gives (gf:=75) (lb:=#[.pointer (some ⟨Bl,0,none⟩),.pointer (some ⟨Bw,0,none⟩)]) (by rw[hT];rfl) (enters_of Tryz.func75 (by kernel_rfl) rfl) (merged_gives HMG.out) (Below.refl _ _) (fun T x av W h=>by obtain ⟨A,n,c,h,-⟩:=h;rw[h];rfl)
       (fun _ k=>k=Q) ?hS ?hM
       (fun _ pre W'=>Blk W' Q [.int .i64 (pre.length:Int)]∧pre.length≤kk) (fun _ cc pre W'=>cc=.exit 2∧Blk W' Q [.int .i64 (pre.length:Int)]∧pre.length=kk+1)
       (fun Tn hTn s X Y hs hg=>⟨hs.1.out hg (by omega),hs.2⟩) (fun Tn cc hTn s X Y hs hg=>⟨hs.1,hs.2.1.out hg (by omega),hs.2.2⟩) (fun Tn hTn=>⟨f4,Nat.zero_le _⟩)
       (fun Tn x a' W=>∃A n c,a'={tmps:=(T.tmps.setIfInBounds 98 (.slice A n c)).setIfInBounds 21 (.slice A n c),defers:=[]}∧x.length=n∧W.ownsRow Tn 5 1 (.slice A n c) n (cellsOf x))
       (fun Tn x a' hTn _ W W' ⟨A,n,c,h1,h2,h3⟩ ho=>⟨A,n,c,h1,h2,own_out h3 ho (fun k hk e=>by have:=(World.ownsRow.lt h3 k hk).1;omega)⟩)
       ?assign ?body ?done ?stop
      case hS=>
       intro Tn k hTn hk
       exact ⟨.inl (by omega),fun h=>by have:=HHI.out;have h2:=h.2;omega⟩
      case hM=>
       intro k hk
       have:=HMG.out.hi
       omega
      case assign=>
       rintro Tn l' m2 pre x av W' K2 hTn hTW ⟨A,n,c,rfl,hn,hx⟩ hI ho hK2
       subst hT
       gi_wp2
       exact hK2 _ _ (Out.refl _ _) hI ⟨A,n,c,rfl,hn,hx⟩
      case body=>
       rintro Tn l' m2 pre x post a' W1 hTn hXs hsz ho ⟨hI,hle⟩ ⟨Ax,nx,cx,rfl,hx1,hx2⟩
       subst hT
       obtain ⟨k,hk⟩:∃k,k=pre.length:=⟨_,rfl⟩
       rw[←hk] at hI hle
       rw[HLQ.out] at hXs
       have hxl:(sortL L)[k]?=some x:=by rw[hXs,hk,List.getElem?_append_right (Nat.le_refl _),Nat.sub_self];rfl
       have hkl:k<n9:=by rw[←HX.out];exact (List.getElem?_eq_some_iff.1 hxl).1
       obtain ⟨a9,rfl,-,qq⟩:=(cs_out fcs (by have:=HQ.out;omega) ho (fun j hj=>by have:=HQ.out;omega)) (by rw[List.length_map,HX.out];omega)
       have z7:W1.cell? (a9.add k)=some (sv x):=qq k _ (by rw[List.getElem?_map,hxl];rfl)
       have b9:=f9.out ho (by omega)
       have bG:=fG.out ho (by omega)
       have z9:=b9.cell (i:=0) rfl
       have zG:=bG.cell (i:=0) rfl
       have zQ:=hI.cell (i:=0) rfl
       have HZ:=Lib.hid (And.intro z7 (And.intro bG hI))
       have HRX:=Lib.hid (And.intro hx1 (Rd.of_own hx2))
       have hkl2:¬(n9:Int)≤(k:Int):=by omega
       have hkl3:(k:Int)<(n9:Int):=by omega
       have HLN:=Lib.hid (show (pre++[x]).length=k+1 by rw[List.length_append,←hk];rfl)
       have HI1:=Lib.hid hI
       have HB9:=Lib.hid b9
       have hQH:¬H=Q:=by omega
       have hk256:k<256:=by omega
       clear hXs hxl qq hk hx1 hx2 ho fcs f9 f0 fG f4 fb ftab hI b9 bG z7 zG
       simp only[List.setIfInBounds_toArray,List.set_cons_zero,List.set_cons_succ]
       gi_wp2_with fail
       refine Gw.wpIn_region_tail (tail:=[]) 13 (rtB Q G k n9 c9 nx cx a9 Ax x) [99,100,101,102,103,104,105,106,107,108,109,110,111] [([20],none),([16],none),([100],none),([99,101],none),([102],none),([21,103],some (103,false)),([104,103],some (103,false)),([16,103],some (103,false)),([20,103],some (103,false)),([106,107,103],some (103,false)),([108,103],some (103,false)),([105,109,103],some (103,false)),([103,110],none)] 129 (by kernel_rfl) (by kernel_rfl) rfl ?h0 ?hreq rfl ?hend
       case h0=>
        intro t W hnd _
        unfold rtB
        split<;>first|rfl|trivial|exact absurd (by simp) hnd
       case hreq=>
        refine ⟨?_,?_,?_,?_,?_,?_,?_,?_,?_,?_,?_,?_,?_,trivial⟩
        all_goals
         intro ac W3 hg hk
         have hg':Below W1.heap.size W1 W3:=hg
         have y7:=(hg'.cell (World.block_lt_of_cell? _ _ HZ.out.1)).trans HZ.out.1
         have yG:=(HZ.out.2.1.past hg').cell (i:=0) rfl
         have yQ:=(HZ.out.2.2.past hg').cell (i:=0) rfl
         have yc:(convert 24 9 (.slice Ax nx cx)).run Tryz.prog W3=.ok (sv x) W3:=str_any Ax nx cx x W3 W1.heap.size HRX.out.1 (HRX.out.2.below hg')
         simp only[Gw.Knows,rtB] at hk
         try (simp[go_sem,Gw.OpReq,Gw.Ok,Gw.Post,Gw.Holds,rtB,Gw.Grows.refl,hk,y7,yG,yQ,yc,hkl,hkl2,hkl3];done)
       case hend=>
        intro xs W3 hg hx
        have hg':Below W1.heap.size W1 W3:=hg
        have v111:=(hx 111 (by simp)).now
        simp only[rtB] at v111
        clear hx
        simp only[Gw.putAll,Act.put,List.setIfInBounds_toArray,List.set_cons_zero,List.set_cons_succ]
        rw[v111]
        have bQ:=HI1.out.past hg'
        have yQ:=bQ.cell (i:=0) rfl
        have fQ:=bQ.frozen 0
        have f2:Out (fun k=>k=Q) W3 (W3.setCell ⟨Q,0,none⟩ (.int .i64 ((k:Int)+1))):=(Out.refl (fun k=>k=Q) W3).setCell (p:=⟨Q,0,none⟩) (.inl rfl) _
        have y9:(W3.setCell ⟨Q,0,none⟩ (.int .i64 ((k:Int)+1))).cell? ⟨H,0,none⟩=some (.int .u8 (kk:Int)):=((HB9.out.past hg').out f2 hQH).cell (i:=0) rfl
        have FIN:=Lib.hid (show Out (fun k=>k=Q) W1 (W3.setCell ⟨Q,0,none⟩ (.int .i64 ((k:Int)+1)))∧Blk (W3.setCell ⟨Q,0,none⟩ (.int .i64 ((k:Int)+1))) Q [.int .i64 (((pre++[x]).length:Nat):Int)] from ⟨(Out.of_below hg').trans f2,by rw[HLN.out];exact bQ.set 0 _⟩)
        clear hg hg' bQ f2 v111
        show Exit.then _ _ _ _ _
        by_cases hb:k+1≤kk
        ·have k2:¬(kk:Int)<(k:Int)+1:=by omega
         gi_wp2
         exact ⟨FIN.out.1,FIN.out.2,by rw[HLN.out];exact hb⟩
        ·have k2:(kk:Int)<(k:Int)+1:=by omega
         gi_wp2
         exact ⟨FIN.out.1,rfl,FIN.out.2,by rw[HLN.out];omega⟩
      case done=>
       rintro Tn D W1 hTn hD ho ⟨hI,hle⟩ hK
       rw[HLQ.out,HX.out] at hI hle
       rw[hMid]
       exact ⟨.inl rfl,D,n9,rfl,by omega,hK,ho,hI,.inr ⟨rfl,hle⟩⟩
      case stop=>
       rintro Tn D cc pre post W1 hTn hD ho hX ⟨rfl,hI,hle⟩ hK
       refine wpIn_exit ?_
       rw[hMid]
       have:=congrArg List.length hX
       rw[HLQ.out,HX.out,List.length_append] at this
       rw[hle] at hI
       exact ⟨.inr rfl,D,kk+1,rfl,by omega,hK,ho,hI,.inl ⟨rfl,by omega⟩⟩
     case rest=>
      intro e a W1 hm
      rw[hMid] at hm
      obtain ⟨he,D,v,rfl,hD,hK,ho,hI,hv⟩:=hm
      subst hT
      have z3:W1.cell? ⟨G,0,none⟩=some (.slice A9 n9 c9):=(fG.out ho (by omega)).cell (i:=0) rfl
      have z9:W1.cell? ⟨H,0,none⟩=some (.int .u8 (kk:Int)):=(f9.out ho (by omega)).cell (i:=0) rfl
      have z5:W1.cell? ⟨Q,0,none⟩=some (.int .i64 (v:Int)):=hI.cell (i:=0) rfl
      have hbw:Below (H+2) W0 W1:=by have:=HS0.out;exact (show Below (H+2) W0 W5 by rw[←this];exact fb).trans (ho.below (fun k _ hk=>by omega) (by omega))
      have HAW:=Lib.hid (lawake_any W1 (ftab.out ho (fun e=>by have:=HTL.out;have:=HB0.out.size;have:=HS0.out;omega)))
      have hv2:(v:Int)=min ((kk:Int)+1) (n9:Int):=by omega
      have hvl:v≤n9:=by omega
      have HE:=Lib.hid (HEND.out W1 hbw)
      have hlt:=(Array.getElem?_eq_some_iff.1 hK).1
      have HK:=Lib.hid (And.intro hK (And.intro hD hlt))
      clear hv hMid hD hK ho hI hbw f9 f0 fG fcs ftab fb f4 hlt
      rcases he with rfl|rfl
      all_goals
       gi_wp2_with fail
       go_wp2_with fail
       refine HAW.out.mono ?_
       rintro e w10 ⟨rfl,hb10⟩
       obtain ⟨x0,x1,r0,hbx⟩:=HE.out w10 hb10
       obtain ⟨w11,hw11⟩:∃w11,w10.setCell ⟨H+1,0,none⟩ (.bool true)=w11:=⟨_,rfl⟩
       have FIN:=Lib.hid (show w11.heap[D]?=some (.deferred (some []))∧(w11.putObj D (.deferred none)).cell? ⟨H+1,0,none⟩=some (.bool true)∧Below w.heap.size w (w11.putObj D (.deferred none)) from by
        obtain ⟨hK,hD,hlt⟩:=HK.out
        rw[hw11] at r0 hbx
        have hH1:=World.block_lt_of_cell? _ _ r0
        have hHw:=HH.out
        refine ⟨by rw[←hw11,Below.heap_setCell _ _ _ _ (show D≠H+1 by omega),hb10.block D hlt];exact hK,(cell_past (grownBy_putObj' w11 D (.deferred none)) hH1 (fun e=>by injection e with e;have e:D=H+1:=e;omega)).trans r0,hbx.grown (grownBy_putObj' _ D _) hbx.size (fun j e=>by cases e;omega)⟩)
       have HW11:=Lib.hid hw11
       clear hb10 r0 hbx hw11 HE HAW
       go_wp2
       rw[HW11.out]
       refine ⟨by simp,.inl ⟨_,_,rfl,run_takeDeferred FIN.out.1,?_⟩⟩
       refine ⟨.bool true,?_,rfl,FIN.out.2.2⟩
       have r0:=FIN.out.2.1
       simp[results,Tryz.results5,go_sem,r0]
  ·have hm2:b=false∨(b=true∧¬m=wd):=by
    cases b with
    |false=>exact .inl rfl
    |true=>exact .inr ⟨rfl,fun e=>hb ⟨rfl,e⟩⟩
   clear hb HF
   rcases hm2 with rfl|⟨rfl,hmw⟩
   ·skip
    have HAW:=Lib.hid (lawake_any w2 HR2.out.bx.tab)
    have HE:=Lib.hid (HEND.out w2 (by rw[←HS0.out];exact HB2.out))
    go_wp2_with fail
    refine HAW.out.mono ?_
    rintro e w3 ⟨rfl,hb3⟩
    obtain ⟨x0,x1,r0,hbx⟩:=HE.out w3 hb3
    have FIN:=Lib.hid (And.intro r0 hbx)
    clear hb3 r0 hbx
    go_wp2
    refine ⟨.bool true,?_,rfl,FIN.out.2⟩
    have r0:=FIN.out.1
    simp[results,Tryz.results5,go_sem,r0]
   ·have hmw2:((m:Int) != (wd:Int))=true:=by simp;omega
    have HAW:=Lib.hid (lawake_any w2 HR2.out.bx.tab)
    have HE:=Lib.hid (HEND.out w2 (by rw[←HS0.out];exact HB2.out))
    go_wp2_with fail
    refine HAW.out.mono ?_
    rintro e w3 ⟨rfl,hb3⟩
    obtain ⟨x0,x1,r0,hbx⟩:=HE.out w3 hb3
    have FIN:=Lib.hid (And.intro r0 hbx)
    clear hb3 r0 hbx
    go_wp2
    refine ⟨.bool true,?_,rfl,FIN.out.2⟩
    have r0:=FIN.out.1
    simp[results,Tryz.results5,go_sem,r0]
 ·have HNB:=Lib.hid (show newOk [114] wz rz=false by simpa using hok)
  clear hok
  refine HBG.out.mono ?_
  rintro e w1 ⟨P,D,M,own,ownD,rfl,hst,hb1⟩
  have HT1:=Lib.hid (show PTab w1 from HT.out.out (S:=fun _=>False) (.of_below hb1) id)
  have HN:=Lib.hid (rnew_bad (.pointer (some ⟨P,0,none⟩)) [114] wz rz (by decide) w1 HNB.out)
  have HB1:=Lib.hid hb1
  have HFE:=Lib.hid (few_any A n c es wz w1 W0.heap.size HL.out hn63 (HR.out.below hb1))
  clear hst hb1
  go_wp2_with fail
  refine HN.out.mono ?_
  rintro e w' ⟨rfl,rfl⟩
  go_wp2_with fail
  refine HFE.out.mono ?_
  rintro e w' ⟨⟨b,rfl,-⟩,rfl⟩
  clear HFE HN
  cases b with
  |false=>
   have HAW:=Lib.hid (lawake_any w1 HT1.out)
   have HE:=Lib.hid (HEND.out w1 (by rw[←HS0.out];exact HB1.out))
   go_wp2_with fail
   refine HAW.out.mono ?_
   rintro e w3 ⟨rfl,hb3⟩
   obtain ⟨x0,x1,r0,hbx⟩:=HE.out w3 hb3
   have FIN:=Lib.hid (And.intro r0 hbx)
   clear hb3 r0 hbx
   go_wp2
   refine ⟨.bool true,?_,rfl,FIN.out.2⟩
   have r0:=FIN.out.1
   simp[results,Tryz.results5,go_sem,r0]
  |true=>
   have HAW:=Lib.hid (lawake_any w1 HT1.out)
   have HE:=Lib.hid (HEND.out w1 (by rw[←HS0.out];exact HB1.out))
   go_wp2_with fail
   refine HAW.out.mono ?_
   rintro e w3 ⟨rfl,hb3⟩
   obtain ⟨x0,x1,r0,hbx⟩:=HE.out w3 hb3
   have FIN:=Lib.hid (And.intro r0 hbx)
   clear hb3 r0 hbx
   go_wp2
   refine ⟨.bool true,?_,rfl,FIN.out.2⟩
   have r0:=FIN.out.1
   simp[results,Tryz.results5,go_sem,r0]
end Go.Proofs.YtcdkopbjlakebaaGreatDoor
end
