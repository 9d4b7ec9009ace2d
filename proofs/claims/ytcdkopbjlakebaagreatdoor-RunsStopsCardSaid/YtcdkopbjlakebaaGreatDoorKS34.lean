/- Texts put together, for a law: WSlot, MWrite, SlotM, FallM, SpoM, FallN. -/
import Derived.Test.YtcdkopbjlakebaaGreatDoorKS24
import Derived.Test.YtcdkopbjlakebaaGreatDoorKS33
import Derived.Test.YtcdkopbjlakebaaGreatDoorKS21
section
namespace Go.Proofs.YtcdkopbjlakebaaGreatDoor
open Go.RowKit Me Mf Rw Ds
theorem chunk_any (A:Option Addr) (n c:Nat) (w:World) :
 Calls Tryz.prog 70 #[.slice A n c,.int .i64 128] w fun e w'=>e=.returned (.func (.func 109) #[] #[.pointer (some ⟨w.heap.size,0,none⟩),.pointer (some ⟨w.heap.size+1,0,none⟩)])∧w'=(w.alloc (.cells #[.slice A n c] 24)).alloc (.cells #[.int .i64 128] 3):=by
 go_enter Tryz.func70,Tryz.ntmps70
 go_wp2
 go_ret
 exact ⟨rfl,rfl⟩
theorem chunk_stops (n:Nat) (hn:1≤n) (Bs Bn g c:Nat) (hc:2048≤c) (hc63:c≤9223372036854775807) (w:World) (hs:w.cell? ⟨Bs,0,none⟩=some (.slice (some ⟨g,0,none⟩) 2048 c)) (hb:w.cell? ⟨Bn,0,none⟩=some (.int .i64 128)) :
 SeqStopsK Fence.wide n Tryz.prog 109 #[.pointer (some ⟨Bs,0,none⟩),.pointer (some ⟨Bn,0,none⟩)] (encC g) (KB Bs Bn) (fun ys=>ys.map (·.val)=List.range 16) (fun pre=>∃k,k≤16∧pre.map (·.val)=List.range k) 16 w:=fun l J Jx W hW hJ _ hY h0=>
 chunk1_in n hn l Bs Bn g c hc hc63 J Jx (fun pre W W' hj hB=>hJ pre W W' none hj (grown_below hB none) (fun r e=>by cases e)) hY W
  ((hW.cell (p:=⟨Bs,0,none⟩) (World.block_lt_of_cell? _ _ hs)).trans hs) ((hW.cell (p:=⟨Bn,0,none⟩) (World.block_lt_of_cell? _ _ hb)).trans hb) h0
def chunkL (l:List UInt8) (k:Nat):List UInt8:=(l.drop (128*k)).take 128
theorem chunkL_length {l:List UInt8} (hl:l.length=2048) {k:Nat} (hk:k<16):(chunkL l k).length=128:=by
 unfold chunkL;rw[List.length_take,List.length_drop,hl];omega
def stD (S:Dsk) (n:Nat) (l:List UInt8):Nat→Dsk×Int
 |0=>(S,0)
 |k+1=>if (stD S n l k).2=0 then writeD (stD S n l k).1 ((16*n+k:Nat):Int) (chunkL l k) else stD S n l k
def wslotD (S:Dsk) (n:Nat) (l:List UInt8):Dsk×Int:=if (stD S n l 16).2=0 then syncD (stD S n l 16).1 else stD S n l 16
theorem stD_stuck {S:Dsk} {n:Nat} {l:List UInt8} {k:Nat} (h:(stD S n l k).2≠0):∀j,k≤j→stD S n l j=stD S n l k:=by
 intro j hj
 induction j with
 |zero=>rw[show k=0 by omega]
 |succ j ih=>
  by_cases e:k=j+1
  ·rw[e]
  ·have:=ih (by omega)
   rw[stD,this,if_neg h]
theorem writeD_pend (S:Dsk) (i:Int) (l:List UInt8):(writeD S i l).1.pend.length≤S.pend.length+1:=by
 unfold writeD
 repeat' split
 all_goals simp[(power_pend S).1]
theorem stD_pend (S:Dsk) (n:Nat) (l:List UInt8):∀k,(stD S n l k).1.pend.length≤S.pend.length+k
 |0=>Nat.le_refl _
 |k+1=>by
  have h:=stD_pend S n l k
  rw[stD]
  split
  ·have:=writeD_pend (stD S n l k).1 ((16*n+k:Nat):Int) (chunkL l k)
   omega
  ·omega
theorem DiskAt.cells {w:World} {B D:Nat} {S:Dsk} {own:Nat→Prop} (h:DiskAt w B D S own) {k:Nat} (hk:own k):∃o:Obj,w.heap[k]?=some o∧o.isCells=true:=by
 obtain ⟨g,Pv,h⟩:=h
 rcases (h.own k).1 hk with rfl|rfl|hk
 ·obtain ⟨t,e⟩:=h.blk;exact ⟨_,e,rfl⟩
 ·obtain ⟨t,e⟩:=h.rows;exact ⟨_,e,rfl⟩
 ·obtain ⟨-,⟨e,-⟩|⟨g',cap,cur,e,-,hg,-⟩⟩:=h.pend
  ·rw[e] at hk;cases hk
  ·rw[e] at hk;injection hk with hk;subst hk;exact ⟨_,hg,rfl⟩
def stepD (n:Nat) (l:List UInt8) (p:(Dsk×Int)×Nat) (x:Fin 16):(Dsk×Int)×Nat:=
 (if p.1.2=0 then writeD p.1.1 ((16*n+p.2:Nat):Int) (chunkL l x.val) else p.1,p.2+1)
def stL (S:Dsk) (n:Nat) (l:List UInt8) (pre:List (Fin 16)):(Dsk×Int)×Nat:=pre.foldl (stepD n l) ((S,0),0)
theorem stL_snoc (S:Dsk) (n:Nat) (l:List UInt8) (pre:List (Fin 16)) (x:Fin 16):stL S n l (pre++[x])=stepD n l (stL S n l pre) x:=by unfold stL;rw[List.foldl_append];rfl
theorem stL_two (S:Dsk) (n:Nat) (l:List UInt8):∀(k:Nat) (pre:List (Fin 16)),pre.map (·.val)=List.range k→stL S n l pre=(stD S n l k,k)
 |0,pre,h=>by
  have:pre=[]:=by cases pre with|nil=>rfl|cons x l=>simp at h
  subst this;rfl
 |k+1,pre,h=>by
  rw[List.range_succ] at h
  obtain ⟨a,b,rfl,ha,hb⟩:=List.map_eq_append_iff.1 h
  match b,hb with
  |[x],hb=>
   simp at hb
   rw[stL_snoc,stL_two S n l k a ha]
   unfold stepD
   rw[hb]
   rfl
theorem stL_len (S:Dsk) (n:Nat) (l:List UInt8) (pre:List (Fin 16)):(stL S n l pre).2=pre.length∧(stL S n l pre).1.1.pend.length≤S.pend.length+pre.length:=by
 suffices h:∀(pre:List (Fin 16)) (p:(Dsk×Int)×Nat),(pre.foldl (stepD n l) p).2=p.2+pre.length∧(pre.foldl (stepD n l) p).1.1.pend.length≤p.1.1.pend.length+pre.length by
  have:=h pre ((S,0),0)
  unfold stL
  exact ⟨by rw[this.1];simp,this.2⟩
 intro pre
 induction pre with
 |nil=>intro p;exact ⟨rfl,Nat.le_refl _⟩
 |cons x pre ih=>
  intro p
  obtain ⟨h1,h2⟩:=ih (stepD n l p x)
  rw[List.foldl_cons,List.length_cons]
  refine ⟨by rw[h1];unfold stepD;simp;omega,?_⟩
  have:(stepD n l p x).1.1.pend.length≤p.1.1.pend.length+1:=by
   unfold stepD
   simp only
   split
   ·exact writeD_pend _ _ _
   ·omega
  omega
structure WSt (w:World) (B D:Nat) (S:Dsk) (own:Nat→Prop) (r a:Int) (W:World):Prop where
 disk:∃own',DiskAt W B D S own'∧∀j,own' j→own j∨w.heap.size+5≤j
 out:Out own w W
 bd:Blk W w.heap.size [.pointer (some ⟨D,0,none⟩)]
 br:Blk W (w.heap.size+1) [.int .i64 r]
 ba:Blk W (w.heap.size+2) [.int .i64 a]
theorem WSt.turn {w:World} {B D:Nat} {S:Dsk} {own:Nat→Prop} {r a:Int} {X Y:World} {row:Option Nat} (h:WSt w B D S own r a X) (hg:X.grownBy Y row) (hr:∀k,row=some k→w.heap.size+5≤k∧∃o:Obj,X.heap[k]?=some o∧o.isCells=false):WSt w B D S own r a Y:=by
 obtain ⟨own',h1,h2⟩:=h.disk
 have ho:Out (fun k=>row=some k) X Y:=Out.of_grown hg fun k e _=>e
 refine ⟨⟨own',h1.out ho fun k hk e=>?_,h2⟩,h.out.grown hg fun k e=>.inr (by have:=(hr k e).1;omega),h.bd.grown hg ?_,h.br.grown hg ?_,h.ba.grown hg ?_⟩
 ·obtain ⟨o,e1,e2⟩:=h1.cells hk
  obtain ⟨-,o',e3,e4⟩:=hr k e
  rw[e1] at e3
  injection e3 with e3
  subst e3
  rw[e2] at e4
  cases e4
 all_goals
  intro e
  have:=(hr _ e).1
  omega
attribute [local go_sem] Oper.semAt_some
set_option maxRecDepth 100000 in
set_option maxHeartbeats 2000000 in
theorem wslot_any {w:World} {B D:Nat} {S:Dsk} {own:Nat→Prop} (h:DiskAt w B D S own) (n:Nat) (hn:n≤1) (g c:Nat) (l:List UInt8) (hl:l.length=2048) (hc:2048≤c) (hc63:c≤9223372036854775807) (hr:Cz w own (some ⟨g,0,none⟩) (cellsOf l)) (hp:S.pend.length+16≤1073741824) :
 Calls Tryz.prog 92 #[.pointer (some ⟨D,0,none⟩),.int .i64 (n:Int),.slice (some ⟨g,0,none⟩) 2048 c] w fun e w'=>e=.returned (.int .i64 (wslotD S n l).2)∧DPost w B D (wslotD S n l).1 own w':=by
 refine (callsIn_wide (n:=3)).1 ?_
 obtain ⟨H,hH⟩:∃H,H=w.heap.size:=⟨_,rfl⟩
 obtain ⟨W0,hW0⟩:∃W0,(((((w.alloc (.cells #[.pointer (some ⟨D,0,none⟩)] 28)).alloc (.cells #[.int .i64 0] 33)).alloc (.cells #[.int .i64 (16*(n:Int))] 3)).alloc (.cells #[.slice (some ⟨g,0,none⟩) 2048 c] 24)).alloc (.cells #[.int .i64 128] 3))=W0:=⟨_,rfl⟩
 have hsz:W0.heap.size=H+5:=by rw[←hW0,hH];simp
 have hb0:Below w.heap.size w W0:=by
  rw[←hW0];exact (((((Below.refl _ w).alloc (Nat.le_refl _) _).alloc (by simp) _).alloc (by simp;omega) _).alloc (by simp;omega) _).alloc (by simp;omega) _
 have hB0:Blk W0 H [.pointer (some ⟨D,0,none⟩)]:=by
  rw[←hW0,hH];exact ((((Blk.new w [.pointer (some ⟨D,0,none⟩)] _).alloc _).alloc _).alloc _).alloc _
 have hB1:Blk W0 (H+1) [.int .i64 0]:=by
  rw[←hW0,hH];exact (((Blk.new' (w.alloc _) [.int .i64 0] _ (by simp)).alloc _).alloc _).alloc _
 have hB2:Blk W0 (H+2) [.int .i64 (16*(n:Int))]:=by
  rw[←hW0,hH];exact ((Blk.new' ((w.alloc _).alloc _) [.int .i64 (16*(n:Int))] _ (by simp)).alloc _).alloc _
 have hB3:Blk W0 (H+3) [.slice (some ⟨g,0,none⟩) 2048 c]:=by
  rw[←hW0,hH];exact (Blk.new' (((w.alloc _).alloc _).alloc _) [.slice (some ⟨g,0,none⟩) 2048 c] _ (by simp)).alloc _
 have hB4:Blk W0 (H+4) [.int .i64 128]:=by
  rw[←hW0,hH];exact Blk.new' ((((w.alloc _).alloc _).alloc _).alloc _) [.int .i64 128] _ (by simp)
 have HD:=Lib.hid h
 have HF:=Lib.hid (show WSt w B D S own 0 (16*(n:Int)) W0 from ⟨⟨own,h.past hb0,fun j hj=>.inl hj⟩,.of_below hb0,by rw[←hH];exact hB0,by rw[←hH];exact hB1,by rw[←hH];exact hB2⟩)
 have HB3:=Lib.hid hB3
 have HB4:=Lib.hid hB4
 have HR:=Lib.hid hr
 have HL:=Lib.hid hl
 have HW0:=Lib.hid hW0
 have HH:=Lib.hid hH
 have emul:(n:Int)*16=16*(n:Int):=by omega
 clear h hb0 hB0 hB1 hB2 hB3 hB4 hr hl hW0 hH
 refine callsIn_of_wp_marks Tryz.func92 rfl trivial ?_ rfl
 simp only[Tryz.ntmps92,List.size_toArray,List.length_cons,List.length_nil,Nat.reduceAdd,Nat.reduceSub,Array.replicate_succ,Array.replicate_zero,List.push_toArray,List.append_toArray,List.nil_append,List.cons_append]
 gi_wp2_with ((refine ⟨trivial,?_⟩);(refine (callsIn_wide.2 (chunk_any _ _ _ _)).mono ?_);rintro e w' ⟨rfl,rfl⟩)
 rw[HW0.out,←HH.out]
 rw[show H+1+1+1+1=H+4 from rfl,show H+1+1+1=H+3 from rfl,show H+1+1=H+2 from rfl]
 clear HW0
 refine wpIn_rangeFunc_ownH rfl (by omega) (gf:=109) (lb:=#[.pointer (some ⟨H+3,0,none⟩),.pointer (some ⟨H+4,0,none⟩)]) rfl trivial (enters_of Tryz.func109 (by kernel_rfl) rfl)
  (w0:=W0) (chunk_stops 2 (by omega) (H+3) (H+4) g c hc hc63 W0 (HB3.out.cell (i:=0) rfl) (HB4.out.cell (i:=0) rfl)) (fun h k=>KB.trans h k) (fun W l o o' hl _ _ _=>KB.put (n:=H+5) (by omega) (by omega) W l o' (by rw[←hsz];exact hl)) (Below.refl _ _) (fun _=>rfl)
  (fun pre W=>(stL S n l pre).1.2=0∧WSt w B D (stL S n l pre).1.1 own 0 (16*(n:Int)+(pre.length:Int)) W)
  (fun c pre W=>c=.ret∧(stL S n l pre).1.2≠0∧WSt w B D (stL S n l pre).1.1 own (stL S n l pre).1.2 (16*(n:Int)+(pre.length:Int)-1) W)
  (fun s X Y row hs hg hr=>⟨hs.1,hs.2.turn hg fun k e=>⟨by have:=(hr k e).1;have:=HH.out;omega,(hr k e).2⟩⟩)
  (fun c s X Y row hs hg hr=>⟨hs.1,hs.2.1,hs.2.2.turn hg fun k e=>⟨by have:=(hr k e).1;have:=HH.out;omega,(hr k e).2⟩⟩)
  ⟨rfl,HF.out⟩
  (fun x a' W=>a'={tmps:=#[.pointer (some ⟨D,0,none⟩),.int .i64 (n:Int),.slice (some ⟨g,0,none⟩) 2048 c,.pointer (some ⟨H,0,none⟩),undef,undef,.pointer (some ⟨H+1,0,none⟩),.pointer (some ⟨H+2,0,none⟩),.slice (some ⟨g,128*x.val,none⟩) 128 128,undef,.int .i64 (n:Int),.int .i64 (16*(n:Int)),.slice (some ⟨g,0,none⟩) 2048 c,.func (.func 109) #[] #[.pointer (some ⟨H+3,0,none⟩),.pointer (some ⟨H+4,0,none⟩)],.slice (some ⟨g,128*x.val,none⟩) 128 128,undef,undef,undef,undef,undef,undef,undef,undef,undef,undef,undef],defers:=[]})
  (fun x a' _ X Y row hs hg hr=>hs)
  ?assign ?body ?done ?stop
 case assign=>
  rintro l' pre x W K hI hK
  dsimp only[encC]
  gi_wp2
  exact hK _ _ (KeepsFrom.refl _ _) (fun _ _=>rfl) hI rfl
 case body=>
  rintro l' pre x a' W hl' ⟨rr,hrr⟩ ⟨hz,hst⟩ rfl hlt
  obtain ⟨own',hd,hn2⟩:=hst.disk
  obtain ⟨hlen,hpen⟩:=stL_len S n l pre
  have x0:W.cell? ⟨H,0,none⟩=some (.pointer (some ⟨D,0,none⟩)):=by rw[HH.out];exact hst.bd.cell rfl
  have x2:W.cell? ⟨H+2,0,none⟩=some (.int .i64 (16*(n:Int)+(pre.length:Int))):=by rw[HH.out];exact hst.ba.cell rfl
  obtain ⟨S',hS'⟩:∃S',S'=(stL S n l pre).1.1:=⟨_,rfl⟩
  rw[←hS'] at hd hpen
  have hsn:stL S n l (pre++[x])=(writeD S' ((16*n+pre.length:Nat):Int) (chunkL l x.val),pre.length+1):=by
   rw[stL_snoc];unfold stepD;rw[hlen,if_pos hz,←hS']
  obtain ⟨i,hi⟩:∃i:Int,i=16*(n:Int)+(pre.length:Int):=⟨_,rfl⟩
  have hie:((16*n+pre.length:Nat):Int)=i:=by omega
  rw[hie] at hsn
  rw[←hi] at x2
  have hcz:Cz W own' (some ⟨g,128*x.val,none⟩) (cellsOf (chunkL l x.val)):=fun _=>by
   have hcl:=cellsOf_length l
   obtain ⟨q,e,q1,q2,q3⟩:=HR.out (by rw[hcl,HL.out];omega)
   injection e with e
   subst e
   have hx:=x.isLt
   refine ⟨_,rfl,Nat.lt_of_lt_of_le q1 hst.out.size,fun hg=>?_,fun j v hv=>?_⟩
   ·rcases hn2 g hg with h|h
    ·exact q2 h
    ·have:g<w.heap.size:=q1
     omega
   ·have hj:=(List.getElem?_eq_some_iff.1 hv).1
    rw[cellsOf_length,chunkL_length HL.out hx] at hj
    have:=q3 (128*x.val+j) v (by
     rw[←hv]
     unfold chunkL cellsOf
     rw[List.getElem?_map,List.getElem?_map,List.getElem?_take,if_pos hj,List.getElem?_drop])
    rw[Addr.add_mid,Nat.zero_add] at this
    rw[Addr.add_mid]
    exact (hst.out.cell (p:=⟨g,128*x.val+j,none⟩) q1 q2).trans this
  have HWR:=Lib.hid (write_any hd i _ 128 128 (chunkL l x.val) (chunkL_length HL.out x.isLt) hcz (fun a e=>by injection e with e;rw[←e]) (by omega))
  have HST:=Lib.hid hst
  have HN2:=Lib.hid hn2
  have HD2:=Lib.hid hd
  have HSN:=Lib.hid hsn
  have HI:=Lib.hid hi
  have hw5:H+5≤W.heap.size:=by have:=(Array.getElem?_eq_some_iff.1 hrr).1;omega
  have hi1:-9223372036854775808≤i∧i+1≤9223372036854775807:=by omega
  have hn15:∀j,own' j→j≠H+2∧j≠H+1∧j≠H∧j≠H+3∧j≠H+4:=fun j hj=>by
   have e0:=HH.out
   rcases hn2 j hj with h|h
   ·have:=(HD.out.lt h).2;omega
   ·omega
  have HN15:=Lib.hid hn15
  clear hcz hst hn2 hd hz hlen hpen hsn hS' hi hie hn15
  gi_wp2_with ((refine ⟨trivial,?_⟩);(refine (callsIn_wide.2 HWR.out).mono ?_))
  rintro e w1 ⟨rfl,own2,hd2,ho2,hn3⟩
  obtain ⟨p,hp⟩:∃p,writeD S' i (chunkL l x.val)=p:=⟨_,rfl⟩
  obtain ⟨T,r⟩:=p
  rw[hp] at hd2 HSN ⊢
  have b0:=HST.out.bd.out ho2 (by rw[←HH.out];exact fun h=>(HN15.out _ h).2.2.1 rfl)
  have b1:=HST.out.br.out ho2 (by rw[←HH.out];exact fun h=>(HN15.out _ h).2.1 rfl)
  have b2:=HST.out.ba.out ho2 (by rw[←HH.out];exact fun h=>(HN15.out _ h).1 rfl)
  rw[←HH.out] at b0 b1 b2
  rw[←HI.out] at b2
  have HB0:=Lib.hid b0
  have HB1:=Lib.hid b1
  have HB2:=Lib.hid b2
  have HD3:=Lib.hid hd2
  have HO3:=Lib.hid ho2
  have HN3:=Lib.hid hn3
  have c1:=b1.cell (i:=0) rfl
  have f1:=b1.frozen 0
  have c2:=b2.cell (i:=0) rfl
  have f2:=b2.frozen 0
  have hs1:=ho2.size
  have HWS:=Lib.hid (fun (q:Nat) (hq:q=H+1∨q=H+2) (v:Value)=>show (∀k,own2 k→¬k=q)∧Out (fun k=>own' k∨k=q) W (w1.setCell ⟨q,0,none⟩ v) from
   ⟨fun k hk e=>by
     rcases HN3.out k hk with h|h
     ·have:=HN15.out k h;omega
     ·omega,(HO3.out.more (S':=fun k=>own' k∨k=q) fun k _ h=>.inl h).setCell (p:=⟨q,0,none⟩) (.inl (.inr rfl)) v⟩)
  have HKF:=Lib.hid (fun (q:Nat) (hq:q=H+1∨q=H+2) (v:Value)=>show KeepsFrom W0.heap.size W (w1.setCell ⟨q,0,none⟩ v) from keepsFrom_out (HWS.out q hq v).2 (fun k hk=>by
   rcases hk with h|rfl
   ·exact HD2.out.cells h
   ·rcases hq with rfl|rfl
    ·obtain ⟨t,e⟩:=HST.out.br;rw[←HH.out] at e;exact ⟨_,e,rfl⟩
    ·obtain ⟨t,e⟩:=HST.out.ba;rw[←HH.out] at e;exact ⟨_,e,rfl⟩))
  have HNX:=Lib.hid (fun (q:Nat) (hq:q=H+1∨q=H+2) (v:Value) (r' a':Int) (hr:Blk (w1.setCell ⟨q,0,none⟩ v) (H+1) [.int .i64 r']) (ha:Blk (w1.setCell ⟨q,0,none⟩ v) (H+2) [.int .i64 a'])=>show WSt w B D T own r' a' (w1.setCell ⟨q,0,none⟩ v) from by
   have e0:=HH.out
   obtain ⟨h1,h2⟩:=HWS.out q hq v
   refine ⟨⟨own2,HD3.out.out ((Out.refl (fun k=>k=q) w1).setCell (p:=⟨q,0,none⟩) (.inl rfl) v) h1,fun j hj=>?_⟩,HST.out.out.trans' h2 (fun j hj=>?_),?_,by rw[←e0];exact hr,by rw[←e0];exact ha⟩
   ·rcases HN3.out j hj with h|h
    ·exact HN2.out j h
    ·right;omega
   ·rcases hj with h|rfl
    ·rcases HN2.out j h with h|h
     ·exact .inl h
     ·right;omega
    ·right;omega
   ·rw[←e0]
    exact HB0.out.other (p:=⟨q,0,none⟩) (by show q≠H;omega) v)
  have HPL:=Lib.hid (show (pre++[x]).length=pre.length+1 by simp)
  clear hd2 ho2 hn3 b0 b1 b2 hp
  by_cases hr:r=0
  ·subst hr
   gi_wp2
   refine ⟨HKF.out _ (.inr rfl) _,fun p hp=>?_,?_,?_⟩
   ·have e0:=HH.out
    refine (HWS.out (H+2) (.inr rfl) _).2.cell ?_ ?_
    ·rcases hp with h|h<;>omega
    ·rintro (h|h)
     ·have:=HN15.out _ h;omega
     ·omega
   ·rw[HSN.out]
   ·rw[HSN.out,HPL.out]
    exact HNX.out _ (.inr rfl) _ _ _ (HB1.out.other (p:=⟨H+2,0,none⟩) (by show H+2≠H+1;omega) _) (by
     have:=HB2.out.set 0 (.int .i64 (16*(n:Int)+((pre.length+1:Nat):Int)))
     have e:i+1=16*(n:Int)+((pre.length+1:Nat):Int):=by have:=HI.out;omega
     rw[e]
     exact this)
  ·have d1:(r != 0)=true:=by rw[bne_iff_ne];exact hr
   gi_wp2
   refine ⟨HKF.out _ (.inl rfl) _,rfl,?_,?_⟩
   ·rw[HSN.out];exact hr
   ·rw[HSN.out,HPL.out]
    exact HNX.out _ (.inl rfl) _ _ _ (HB1.out.set 0 (.int .i64 r)) (by
     have:=HB2.out.other (p:=⟨H+1,0,none⟩) (by show H+1≠H+2;omega) (.int .i64 r)
     have e:16*(n:Int)+((pre.length+1:Nat):Int)-1=i:=by have:=HI.out;omega
     rw[e]
     exact this)
 case done=>
  rintro Dk ys W hDk hS ⟨hz,hst⟩ hK
  have h2:=stL_two S n l 16 ys hS
  rw[h2] at hz hst
  have hz':(stD S n l 16).2=0:=hz
  obtain ⟨own',hd,hn2⟩:=hst.disk
  have hpen:=stD_pend S n l 16
  have HE:=Lib.hid (show wslotD S n l=syncD (stD S n l 16).1 by unfold wslotD;rw[if_pos hz'])
  obtain ⟨S',hS'⟩:∃S',S'=(stD S n l 16).1:=⟨_,rfl⟩
  have hd':DiskAt W B D S' own':=by rw[hS'];exact hd
  rw[←hS'] at HE hpen
  have HSY:=Lib.hid (sync_any hd' (by omega))
  have x0:W.cell? ⟨H,0,none⟩=some (.pointer (some ⟨D,0,none⟩)):=by rw[HH.out];exact hst.bd.cell rfl
  have HST:=Lib.hid hst
  have HN2:=Lib.hid hn2
  have HD2:=Lib.hid hd'
  have HDK:=Lib.hid hDk
  have HK:=Lib.hid hK
  clear hst hn2 hd hd' hz hz' h2 hS' hpen hK hDk
  gi_wp2_with ((refine ⟨trivial,?_⟩);(refine (callsIn_wide.2 HSY.out).mono ?_))
  rintro e w1 rfl ⟨own2,hd2,ho2,hn3⟩
  rw[←HE.out] at hd2 ⊢
  have hn15:∀j,own' j→j≠H+2∧j≠H+1∧j≠H:=fun j hj=>by
   have e0:=HH.out
   rcases HN2.out j hj with h|h
   ·have:=(HD.out.lt h).2;omega
   ·omega
  have b1:=HST.out.br.out ho2 (by rw[←HH.out];exact fun h=>(hn15 _ h).2.1 rfl)
  rw[←HH.out] at b1
  have c1:=b1.cell (i:=0) rfl
  have f1:=b1.frozen 0
  have HB1:=Lib.hid b1
  have HD3:=Lib.hid hd2
  have HO3:=Lib.hid ho2
  have HN3:=Lib.hid hn3
  have hs1:=ho2.size
  have HN15:=Lib.hid hn15
  clear hd2 ho2 hn3 b1 x0 hn15
  gi_wp2
  have hlt:=(Array.getElem?_eq_some_iff.1 HK.out).1
  have e0:=HH.out
  have hDk:=HDK.out
  have hba:=HST.out.ba.lt
  have hnD:¬own' Dk:=fun h=>by
   obtain ⟨o,e1,e2⟩:=HD2.out.cells h
   rw[HK.out] at e1
   injection e1 with e1
   subst e1
   cases e2
  have hK1:=(HO3.out.block Dk hlt hnD).trans HK.out
  have oc:Out (fun k=>k=H+1) w1 (w1.setCell ⟨H+1,0,none⟩ (.int .i64 (wslotD S n l).2)):=(Out.refl (fun k=>k=H+1) w1).setCell (p:=⟨H+1,0,none⟩) (.inl rfl) _
  have hK2:=(oc.block Dk (by omega) (fun e=>by omega)).trans hK1
  refine ⟨by simp,.inl ⟨_,_,rfl,run_takeDeferred hK2,?_⟩⟩
  have hg:Out (fun k=>k=Dk) (w1.setCell ⟨H+1,0,none⟩ (.int .i64 (wslotD S n l).2)) ((w1.setCell ⟨H+1,0,none⟩ (.int .i64 (wslotD S n l).2)).putObj Dk (.deferred none)):=
   Out.of_grown (grownBy_putObj' _ _ _) (fun k e _=>by injection e with e;exact e.symm)
  have hn2D:∀k,own2 k→¬k=H+1∧¬k=Dk:=fun k hk=>by
   constructor
   ·intro e
    rcases HN3.out k hk with h|h
    ·have:=HN15.out k h;omega
    ·omega
   ·intro e
    subst e
    obtain ⟨o,e1,e2⟩:=HD3.out.cells hk
    rw[hK1] at e1
    injection e1 with e1
    subst e1
    cases e2
  have r0:=((HB1.out.set 0 (.int .i64 (wslotD S n l).2)).out hg (by omega)).cell (i:=0) rfl
  refine ⟨.int .i64 (wslotD S n l).2,?_,rfl,own2,(HD3.out.out oc fun k hk=>(hn2D k hk).1).out hg fun k hk=>(hn2D k hk).2,?_,fun j hj=>?_⟩
  ·simp[results,Tryz.results92,go_sem,r0]
  ·refine ((HST.out.out.trans' HO3.out (fun j hj=>?_)).trans' oc (fun j hj=>.inr (by have hj:j=H+1:=hj;omega))).trans' hg (fun j hj=>.inr (by have hj:j=Dk:=hj;omega))
   rcases HN2.out j hj with h|h
   ·exact .inl h
   ·right;omega
  ·rcases HN3.out j hj with h|h
   ·rcases HN2.out j h with h|h
    ·exact .inl h
    ·right;omega
   ·right;have:=HST.out.bd.lt;omega
 case stop=>
  rintro Dk cd pre W hDk ⟨k,hk,hpre⟩ ⟨rfl,hz,hst⟩ hK
  have h2:=stL_two S n l k pre hpre
  rw[h2] at hz hst
  have hE:wslotD S n l=stD S n l k:=by
   have:=stD_stuck (k:=k) hz 16 hk
   unfold wslotD
   rw[this,if_neg hz]
  have HE:=Lib.hid hE
  have HST:=Lib.hid hst
  clear hst hE h2 hz hpre
  gi_wp2
  refine ⟨by simp,.inl ⟨_,_,rfl,run_takeDeferred hK,?_⟩⟩
  have hg:W.grownBy (W.putObj Dk (.deferred none)) (some Dk):=grownBy_putObj' _ _ _
  have hst:=HST.out.turn hg (fun k e=>by injection e with e;subst e;exact ⟨by have:=HH.out;omega,_,hK,rfl⟩)
  obtain ⟨own',hd,hn2⟩:=hst.disk
  have r0:=hst.br.cell (i:=0) rfl
  rw[←HH.out] at r0
  refine ⟨.int .i64 (stD S n l k).2,?_,?_,?_⟩
  ·simp[results,Tryz.results92,go_sem,r0]
  ·rw[HE.out]
  ·rw[HE.out]
   exact ⟨own',hd,hst.out,fun j hj=>by
    rcases hn2 j hj with h|h
    ·exact .inl h
    ·right;omega⟩
end Go.Proofs.YtcdkopbjlakebaaGreatDoor
end
section
namespace Go.Proofs.YtcdkopbjlakebaaGreatDoor
open Go.RowKit Me Mf Rw Ds
def wmD (S:Dsk) (m:ManD):Nat→Dsk×Int
 |0=>(S,0)
 |k+1=>if (wmD S m k).2=0 then wslotD (wmD S m k).1 ((m.version+k)%2) (slotOf m) else wmD S m k
theorem syncD_pend (S:Dsk):(syncD S).1.pend.length≤S.pend.length:=by
 unfold syncD
 repeat' split
 all_goals simp[(power_pend S).1]
theorem wslotD_pend (S:Dsk) (n:Nat) (l:List UInt8):(wslotD S n l).1.pend.length≤S.pend.length+16:=by
 have h:=stD_pend S n l 16
 unfold wslotD
 split
 ·exact Nat.le_trans (syncD_pend _) h
 ·exact h
theorem wmD_pend (S:Dsk) (m:ManD):∀k,(wmD S m k).1.pend.length≤S.pend.length+16*k
 |0=>Nat.le_refl _
 |k+1=>by
  have h:=wmD_pend S m k
  rw[wmD]
  split
  ·have:=wslotD_pend (wmD S m k).1 ((m.version+k)%2) (slotOf m)
   omega
  ·omega
theorem wmD_stuck {S:Dsk} {m:ManD} {k:Nat} (h:(wmD S m k).2≠0):∀j,k≤j→wmD S m j=wmD S m k:=by
 intro j hj
 induction j with
 |zero=>rw[show k=0 by omega]
 |succ j ih=>
  by_cases e:k=j+1
  ·rw[e]
  ·have:=ih (by omega)
   rw[wmD,this,if_neg h]
set_option maxRecDepth 100000 in
set_option maxHeartbeats 2000000 in
theorem mwrite_any {w:World} {B D:Nat} {S:Dsk} {own:Nat→Prop} (h:DiskAt w B D S own) (A:Option Addr) (n c:Nat) (m:ManD) (hm:ManAt w w.heap.size A n c m) (hs:Small m) (hf:Fit m) (hp:S.pend.length+32≤1073741824) :
 Calls Tryz.prog 55 #[.pointer (some ⟨D,0,none⟩),mval m.version m.next A n c] w fun e w'=>e=.returned (.int .i64 (wmD S m 2).2)∧DPost w B D (wmD S m 2).1 own w':=by
 obtain ⟨H,hH⟩:∃H,H=w.heap.size:=⟨_,rfl⟩
 obtain ⟨v,hv⟩:∃v,v=m.version:=⟨_,rfl⟩
 obtain ⟨w0,hw0⟩:∃w0,w0=w.alloc (.cells #[.int .u64 (v:Int),.int .u32 (m.next:Int),.slice A n c] 110):=⟨_,rfl⟩
 have HW0:=Lib.hid hw0
 have hb0:Below w.heap.size w w0:=by rw[hw0];exact (Below.refl _ _).alloc (Nat.le_refl _) _
 have BX0:=Lib.hid (show Blk w0 H [.int .u64 (v:Int),.int .u32 (m.next:Int),.slice A n c] by rw[hw0,hH];exact Blk.new w [.int .u64 (v:Int),.int .u32 (m.next:Int),.slice A n c] _)
 have HB0:=Lib.hid hb0
 have HM0:=Lib.hid (mput_any A n c m w0 hs (hm.past hb0))
 rw[←hv] at HM0
 have HD:=Lib.hid h
 have HF:=Lib.hid hf
 have HV:=Lib.hid hv
 have HH:=Lib.hid hH
 have hv64:v<18446744073709551616:=by rw[hv];exact hm.wf.version
 have i0:=BX0.out.cell (i:=0) rfl
 have i1:=BX0.out.cell (i:=1) rfl
 have i2:=BX0.out.cell (i:=2) rfl
 rw[hw0] at i0 i1 i2
 rw[←hv]
 clear h hw0 hb0 hm hf hs hH hv
 go_enter Tryz.func55,Tryz.ntmps55
 go_wp2_with fail
 rw[←HW0.out,←HH.out]
 refine HM0.out.mono ?_
 rintro e w1 ⟨hb1,h1⟩
 rcases h1 with ⟨-,vv,rfl,ho⟩|⟨hno,-⟩
 rotate_left
 ·exact absurd HF.out hno
 obtain ⟨g,cap,rfl,hg1,hg2⟩:=ho.form (by omega)
 have hcap:2048≤cap∧cap≤9223372036854775807:=by
  obtain ⟨-,⟨e,-⟩|⟨g',cap',cur,e,-,-,h1,h2,-⟩⟩:=ho
  ·cases e
  ·injection e with _ _ e;subst e;exact ⟨h1,h2⟩
 have HO:=Lib.hid ho
 have HB1:=Lib.hid (HB0.out.trans (hb1.mono HB0.out.size))
 have BX1:=Lib.hid (BX0.out.past hb1)
 have HD1:=Lib.hid (HD.out.past HB1.out)
 have hs0:H<w0.heap.size:=BX0.out.lt
 have hs1:=hb1.size
 obtain ⟨l,hl⟩:∃l,l=slotOf m:=⟨_,rfl⟩
 rw[←hl] at HO
 have HLL:=Lib.hid (show l.length=2048 by rw[hl];exact slotOf_length HF.out)
 have HL:=Lib.hid hl
 clear hb1 ho hl HW0 i0 i1 i2 HM0
 go_wp2_with fail
 go_loopw [17] (fun i wr=>∃(k:Nat) (own':Nat→Prop),k≤2∧i=.int .u64 (k:Int)∧Hid ((wmD S m k).2=0)∧Hid (DiskAt wr B D (wmD S m k).1 own')∧Hid (∀j,own' j→own j∨w1.heap.size≤j)∧Hid (Out own w wr)∧Hid (Blk wr H [.int .u64 (v:Int),.int .u32 (m.next:Int),.slice A n c])∧Hid (wr.ownsRow w0.heap.size 5 1 (.slice (some ⟨g,0,none⟩) 2048 cap) 2048 (cellsOf l))∧Hid (w1.heap.size≤wr.heap.size)) (fun i _=>2-(intOf i).toNat)
 case atStart=>exact ⟨0,own,by omega,rfl,Lib.hid rfl,HD1,Lib.hid (fun j h=>.inl h),Lib.hid (.of_below HB1.out),BX1,HO,Lib.hid (Nat.le_refl _)⟩
 case round=>
  clear BX1 HO HD1
  obtain ⟨k,own',hk,rfl,HZ,HD2,HN,HOU,BX,O,HSZ⟩:=hrel
  have i0:=BX.out.cell (i:=0) rfl
  by_cases hlt:k<2
  ·have hpen:=wmD_pend S m k
   obtain ⟨p,hp⟩:∃p:Nat,p=(v+k)%2:=⟨_,rfl⟩
   obtain ⟨y,hy⟩:∃y:Nat,y=(v+k)%18446744073709551616:=⟨_,rfl⟩
   have e1:IntKind.u64.wrap ((v:Int)+(k:Int))=(y:Int):=by
    simp[IntKind.wrap,IntKind.bits,IntKind.signed]
    omega
   have e2:(y:Int).tmod 2=(p:Int):=by
    rw[Int.tmod_eq_emod_of_nonneg (by omega)];omega
   have hp1:p≤1:=by omega
   have hy64:y<18446744073709551616:=by omega
   have HP:=Lib.hid (show p=(m.version+k)%2 by rw[hp,HV.out])
   have hcz:Cz wr own' (some ⟨g,0,none⟩) (cellsOf l):=fun hn=>by
    obtain ⟨a,e,q1,q2⟩:=Cs.of_own O.out hn
    injection e with e
    subst e
    refine ⟨_,rfl,q1,fun h=>?_,q2⟩
    have e0:=HH.out
    rcases HN.out g h with h|h
    ·have:=(HD.out.lt h).2;omega
    ·omega
   have HWS:=Lib.hid (wslot_any HD2.out p hp1 g cap l HLL.out hcap.1 hcap.2 hcz (by omega))
   clear hp hy hcz hpen
   go_wp2_with fail
   refine HWS.out.mono ?_
   rintro e w2 ⟨rfl,own2,hd2,ho2,hn2⟩
   have hE:wslotD (wmD S m k).1 p l=wmD S m (k+1):=by
    rw[wmD,if_pos HZ.out,←HP.out,HL.out]
   rw[hE] at hd2 ⊢
   have HD3:=Lib.hid hd2
   have HN3:=Lib.hid (show ∀j,own2 j→own j∨w1.heap.size≤j from fun j hj=>by
    rcases hn2 j hj with h|h
    ·exact HN.out j h
    ·exact .inr (Nat.le_trans HSZ.out h))
   have hnH:¬own' H:=fun h=>by
    have e0:=HH.out
    rcases HN.out H h with h|h
    ·have:=(HD.out.lt h).2;omega
    ·omega
   have hng:¬own' g:=fun h=>by
    have e0:=HH.out
    rcases HN.out g h with h|h
    ·have:=(HD.out.lt h).2;omega
    ·omega
   have BX3:=Lib.hid (BX.out.out ho2 hnH)
   have O3:=Lib.hid (own_out O.out ho2 fun j e hj=>by
    have e':some g=some j:=e
    injection e' with e'
    subst e'
    exact hng hj)
   have HOU3:=Lib.hid (HOU.out.trans' ho2 fun j hj=>by
    rcases HN.out j hj with h|h
    ·exact .inl h
    ·right;have:=HB1.out.size;omega)
   have HSZ3:=Lib.hid (Nat.le_trans HSZ.out ho2.size)
   have HWE:=Lib.hid (wmD_stuck (S:=S) (m:=m) (k:=k+1))
   obtain ⟨r,hr⟩:∃r,r=(wmD S m (k+1)).2:=⟨_,rfl⟩
   rw[←hr]
   have HR:=Lib.hid hr
   clear hd2 ho2 hn2 hnH hng hE hr i0
   by_cases hr0:r=0
   ·subst hr0
    go_wp2
    go_roundw
    case rel=>exact ⟨k+1,own2,by omega,by go_num,Lib.hid HR.out.symm,HD3,HN3,HOU3,BX3,O3,HSZ3⟩
    case measure=>simp[intOf];omega
   ·have d1:(r != 0)=true:=by rw[bne_iff_ne];exact hr0
    go_wp2
    go_ret
    have e2:=HWE.out (by rw[←HR.out];exact hr0) 2 (by omega)
    rw[e2]
    exact ⟨ret_int HR.out,own2,HD3.out,HOU3.out,fun j hj=>by
     rcases HN3.out j hj with h|h
     ·exact .inl h
     ·right;have:=HB1.out.size;omega⟩
  ·have hk2:k=2:=by omega
   subst hk2
   go_wp2
   go_ret
   exact ⟨ret_int HZ.out.symm,own',HD2.out,HOU.out,fun j hj=>by
    rcases HN.out j hj with h|h
    ·exact .inl h
    ·right;have:=HB1.out.size;omega⟩
end Go.Proofs.YtcdkopbjlakebaaGreatDoor
end
section
namespace Go.Proofs.YtcdkopbjlakebaaGreatDoor
open Go.RowKit Me Mf Rw Ds
theorem settle_other (K T:Nat):∀(l:List WD) (k:Nat) (st:List (List UInt8)) (j:Nat),(∀x∈l,x.i≠j)→(Ds.settle K T k l st).getD j []=st.getD j []
 |[],_,_,_,_=>rfl
 |x::l,k,st,j,h=>by
  rw[Ds.settle,settle_other K T l _ _ j fun y hy=>h y (by simp[hy])]
  have:=h x (by simp)
  rw[List.getD_eq_getElem?_getD,List.getElem?_set,if_neg this,List.getD_eq_getElem?_getD]
theorem settle_ones:∀(l:List WD) (k:Nat) (st:List (List UInt8)) (j:Nat),j<st.length→(∀x∈l,x.b.length=128)→(∀b∈st,b.length=128)→(Ds.settle ones 0 k l st).getD j []=lastW l j (st.getD j [])
 |[],_,_,_,_,_,_=>rfl
 |x::l,k,st,j,hj,hl,hs=>by
  have hx:=hl x (by simp)
  have e:x.b.take (surv ones 0 k)++(st.getD x.i []).drop (surv ones 0 k)=x.b:=by
   have:surv ones 0 k=128:=by unfold surv;rw[ones_bit,if_pos rfl]
   rw[this,List.take_of_length_le (by omega),List.drop_of_length_le,List.append_nil]
   rw[List.getD_eq_getElem?_getD]
   cases hg:st[x.i]? with
   |none=>simp
   |some b=>have:=hs b (List.mem_of_getElem? hg);simp[this]
  rw[Ds.settle,e,settle_ones l _ _ j (by rw[List.length_set];exact hj) (fun y hy=>hl y (by simp[hy])) (fun b hb=>by
   rcases List.mem_or_eq_of_mem_set hb with h|h
   ·exact hs b h
   ·rw[h];exact hx),lastW]
  congr 1
  rw[List.getD_eq_getElem?_getD,List.getD_eq_getElem?_getD,List.getElem?_set]
  by_cases e2:x.i=j
  ·subst e2;rw[if_pos rfl,if_pos rfl,if_pos hj];rfl
  ·rw[if_neg e2,if_neg e2]
theorem writeD_cases (S:Dsk) (i:Int) (l:List UInt8):((writeD S i l).2=0∧(writeD S i l).1.stored=S.stored∧(writeD S i l).1.pend=S.pend++[⟨i.toNat,l⟩]∧(writeD S i l).1.on=true)∨((writeD S i l).2≠0∧(writeD S i l).1.stored=S.stored∧(writeD S i l).1.pend=S.pend):=by
 obtain ⟨h1,h2⟩:=power_pend S
 unfold writeD
 split
 ·split
  ·split
   ·split
    ·rename_i h;exact .inl ⟨rfl,h2,by simp[h1],h⟩
    ·exact .inr ⟨by simp,h2,h1⟩
   ·exact .inr ⟨by simp,rfl,rfl⟩
  ·exact .inr ⟨by simp,rfl,rfl⟩
 ·exact .inr ⟨by simp,rfl,rfl⟩
theorem syncD_cases (S:Dsk):((syncD S).2=0∧(syncD S).1.stored=Ds.settle ones 0 0 S.pend S.stored∧(syncD S).1.pend=[]∧(syncD S).1.on=true)∨((syncD S).2≠0∧(syncD S).1.stored=S.stored∧(syncD S).1.pend=S.pend):=by
 obtain ⟨h1,h2⟩:=power_pend S
 unfold syncD
 split
 ·split
  ·rename_i h;exact .inl ⟨rfl,by simp[h1,h2],rfl,h⟩
  ·exact .inr ⟨by simp,h2,h1⟩
 ·exact .inr ⟨by simp,rfl,rfl⟩
def chW (n:Nat) (l:List UInt8) (k:Nat):List WD:=(List.range k).map fun i=>⟨16*n+i,chunkL l i⟩
theorem chW_succ (n:Nat) (l:List UInt8) (k:Nat):chW n l (k+1)=chW n l k++[⟨16*n+k,chunkL l k⟩]:=by simp[chW,List.range_succ]
theorem chW_in {n:Nat} {l:List UInt8} {k:Nat} {x:WD} (h:x∈chW n l k) (hk:k≤16):16*n≤x.i∧x.i<16*n+16:=by
 obtain ⟨i,hi,rfl⟩:=List.mem_map.1 h
 have:=List.mem_range.1 hi
 exact ⟨by show 16*n≤16*n+i;omega,by show 16*n+i<16*n+16;omega⟩
theorem stD_cases (S:Dsk) (n:Nat) (l:List UInt8):∀k,(stD S n l k).1.stored=S.stored∧∃j,j≤k∧(stD S n l k).1.pend=S.pend++chW n l j∧((stD S n l k).2=0→j=k)
 |0=>⟨rfl,0,Nat.le_refl _,by simp[stD,chW],fun _=>rfl⟩
 |k+1=>by
  obtain ⟨h1,j,hj,h2,h3⟩:=stD_cases S n l k
  rw[stD]
  split
  ·rename_i hz
   have hjk:=h3 hz
   subst hjk
   rcases writeD_cases (stD S n l j).1 ((16*n+j:Nat):Int) (chunkL l j) with ⟨q0,q1,q2,-⟩|⟨q0,q1,q2⟩
   ·refine ⟨q1.trans h1,j+1,Nat.le_refl _,?_,fun _=>rfl⟩
    rw[q2,h2,chW_succ,Int.toNat_natCast,List.append_assoc]
   ·exact ⟨q1.trans h1,j,by omega,q2.trans h2,fun h=>absurd h q0⟩
  ·rename_i hz
   exact ⟨h1,j,by omega,h2,fun h=>absurd h hz⟩
def slotS (st:List (List UInt8)) (n:Nat):Nat→List UInt8
 |0=>[]
 |k+1=>slotS st n k++st.getD (16*n+k) []
theorem slotS_eq {st st':List (List UInt8)} {n:Nat} (h:∀j,16*n≤j→j<16*n+16→st.getD j []=st'.getD j []):∀k,k≤16→slotS st n k=slotS st' n k
 |0,_=>rfl
 |k+1,hk=>by rw[slotS,slotS,slotS_eq h k (by omega),h _ (by omega) (by omega)]
theorem slotS_chunks {st:List (List UInt8)} {n:Nat} {l:List UInt8} (hl:l.length=2048) (h:∀j,j<16→st.getD (16*n+j) []=chunkL l j):slotS st n 16=l:=by
 have:∀k,k≤16→slotS st n k=l.take (128*k):=by
  intro k
  induction k with
  |zero=>intro _;rfl
  |succ k ih=>
   intro hk
   rw[slotS,ih (by omega),h k (by omega),chunkL,Nat.mul_succ,List.take_add]
 rw[this 16 (Nat.le_refl _),List.take_of_length_le (by omega)]
theorem slotD_stored {S:Dsk} (hon:S.on=true) (hp:S.pend=[]) (hs:32≤S.stored.length) {n:Nat} (hn:n≤1):∀k,k≤16→slotD S n k=slotS S.stored n k
 |0,_=>rfl
 |k+1,hk=>by
  rw[slotD,slotS,slotD_stored hon hp hs hn k (by omega)]
  congr 1
  unfold readD readE latestD
  rw[hon,hasB_nat,decide_eq_true (by omega),hp,Int.toNat_natCast]
  rfl
theorem lastW_chW (n:Nat) (l:List UInt8) (b:List UInt8):∀(k i:Nat),i<k→lastW (chW n l k) (16*n+i) b=chunkL l i
 |0,_,h=>by omega
 |k+1,i,h=>by
  rw[chW_succ,lastW_snoc]
  by_cases e:k=i
  ·subst e;exact if_pos rfl
  ·rw[if_neg (by show ¬16*n+k=16*n+i;omega)];exact lastW_chW n l b k i (by omega)
theorem wslotD_cases {S:Dsk} (hp:S.pend=[]) (hb:∀b∈S.stored,b.length=128) {n:Nat} (hs:16*n+16≤S.stored.length) {l:List UInt8} (hl:l.length=2048) :
 ((wslotD S n l).2=0∧slotS (wslotD S n l).1.stored n 16=l∧(∀j,¬(16*n≤j∧j<16*n+16)→(wslotD S n l).1.stored.getD j []=S.stored.getD j [])∧(wslotD S n l).1.pend=[]∧(wslotD S n l).1.on=true∧(wslotD S n l).1.stored.length=S.stored.length) ∨
 ((wslotD S n l).2≠0∧(wslotD S n l).1.stored=S.stored∧∀x∈(wslotD S n l).1.pend,16*n≤x.i∧x.i<16*n+16):=by
 obtain ⟨h1,j,hj,h2,h3⟩:=stD_cases S n l 16
 rw[hp,List.nil_append] at h2
 unfold wslotD
 split
 ·rename_i hz
  have hj16:=h3 hz
  subst hj16
  rcases syncD_cases (stD S n l 16).1 with ⟨q0,q1,q2,q3⟩|⟨q0,q1,q2⟩
  ·rw[h1,h2] at q1
   refine .inl ⟨q0,?_,fun j hj=>?_,q2,q3,by rw[q1,settle_length]⟩
   ·refine slotS_chunks hl fun j hj=>?_
    rw[q1,settle_ones _ _ _ _ (by omega) (fun x hx=>?_) hb]
    ·exact lastW_chW n l _ 16 j hj
    ·obtain ⟨i,hi,rfl⟩:=List.mem_map.1 hx
     exact chunkL_length hl (List.mem_range.1 hi)
   ·rw[q1,settle_other _ _ _ _ _ _ fun x hx e=>hj (by have:=chW_in hx (Nat.le_refl _);omega)]
  ·exact .inr ⟨q0,q1.trans h1,fun x hx=>chW_in (n:=n) (l:=l) (k:=16) (by rw[q2,h2] at hx;exact hx) (Nat.le_refl _)⟩
 ·rename_i hz
  exact .inr ⟨hz,h1,fun x hx=>chW_in (n:=n) (l:=l) (k:=j) (by rw[h2] at hx;exact hx) hj⟩
theorem stD_done {S:Dsk} (hon:S.on=true) (hf:S.fuse<0) {n:Nat} (hs:16*n+16≤S.stored.length) {l:List UInt8} (hl:l.length=2048):∀k,k≤16→(stD S n l k).2=0∧(stD S n l k).1.on=true∧(stD S n l k).1.fuse=S.fuse∧(stD S n l k).1.stored=S.stored
 |0,_=>⟨rfl,hon,rfl,rfl⟩
 |k+1,hk=>by
  obtain ⟨h0,h1,h2,h3⟩:=stD_done hon hf hs hl k (by omega)
  rw[stD,if_pos h0,writeD_ok h1 (by omega) (by rw[h3];omega) (chunkL_length hl (by omega))]
  exact ⟨rfl,h1,h2,h3⟩
theorem wslotD_done {S:Dsk} (hon:S.on=true) (hf:S.fuse<0) {n:Nat} (hs:16*n+16≤S.stored.length) {l:List UInt8} (hl:l.length=2048):(wslotD S n l).2=0∧(wslotD S n l).1.fuse=S.fuse:=by
 obtain ⟨h0,h1,h2,h3⟩:=stD_done hon hf hs hl 16 (Nat.le_refl _)
 unfold wslotD
 rw[if_pos h0]
 unfold syncD
 rw[h1,if_pos rfl,power_neg (by omega),if_pos h1]
 exact ⟨rfl,h2⟩
end Go.Proofs.YtcdkopbjlakebaaGreatDoor
end
section
namespace Go.Proofs.YtcdkopbjlakebaaGreatDoor
open Go.RowKit Me Mf Rw Ds
theorem settle_all (K T:Nat):∀(l:List WD) (k:Nat) (st:List (List UInt8)),(∀x∈l,x.b.length=128∧x.i<st.length)→(∀b∈st,b.length=128)→∀b∈Ds.settle K T k l st,b.length=128
 |[],_,_,_,h=>h
 |x::l,k,st,hl,hs=>by
  obtain ⟨h1,h2⟩:=hl x (by simp)
  rw[Ds.settle]
  refine settle_all K T l _ _ (fun y hy=>by rw[List.length_set];exact hl y (by simp[hy])) fun b hb=>?_
  rcases List.mem_or_eq_of_mem_set hb with h|h
  ·exact hs b h
  ·have h3:(st.getD x.i []).length=128:=by
    rw[List.getD_eq_getElem?_getD,List.getElem?_eq_getElem h2]
    exact hs _ (List.getElem_mem _)
   have h4:=surv_le K T k
   rw[h,List.length_append,List.length_take,List.length_drop,h1,h3]
   omega
theorem wslotD_all {S:Dsk} (hp:S.pend=[]) (hb:∀b∈S.stored,b.length=128) {n:Nat} (hs:16*n+16≤S.stored.length) {l:List UInt8} (hl:l.length=2048):(∀b∈(wslotD S n l).1.stored,b.length=128)∧(wslotD S n l).1.stored.length=S.stored.length:=by
 obtain ⟨h1,j,hj,h2,h3⟩:=stD_cases S n l 16
 rw[hp,List.nil_append] at h2
 have hch:∀x∈chW n l j,x.b.length=128∧x.i<S.stored.length:=fun x hx=>by
  have h4:=chW_in hx hj
  obtain ⟨i,hi,rfl⟩:=List.mem_map.1 hx
  exact ⟨chunkL_length hl (by have:=List.mem_range.1 hi;omega),by omega⟩
 unfold wslotD
 split
 ·rcases syncD_cases (stD S n l 16).1 with ⟨q0,q1,q2,q3⟩|⟨q0,q1,q2⟩
  ·rw[q1,h1,h2]
   exact ⟨settle_all _ _ _ _ _ hch hb,settle_length _ _ _ _ _⟩
  ·rw[q1,h1];exact ⟨hb,rfl⟩
 ·rw[h1];exact ⟨hb,rfl⟩
structure Calm (S:Dsk):Prop where
 pend:S.pend=[]
 all:∀b∈S.stored,b.length=128
 size:32≤S.stored.length
theorem parity (v:Nat):(v%2=0∧(v+1)%2=1)∨(v%2=1∧(v+1)%2=0):=by omega
theorem slotS_other {st st':List (List UInt8)} {n q:Nat} (hq:q≠n) (h:∀j,¬(16*n≤j∧j<16*n+16)→st'.getD j []=st.getD j []):slotS st' q 16=slotS st q 16:=
 slotS_eq (fun j h1 h2=>h j (by omega)) 16 (Nat.le_refl _)
theorem wmD_cases {S:Dsk} (h:Calm S) {m:ManD} (hf:Fit m) :
 ((wmD S m 2).2≠0∧(wmD S m 2).1.stored=S.stored∧∀x∈(wmD S m 2).1.pend,16*(m.version%2)≤x.i∧x.i<16*(m.version%2)+16) ∨
 ((wmD S m 2).2≠0∧slotS (wmD S m 2).1.stored (m.version%2) 16=slotOf m∧(wmD S m 2).1.stored.length=S.stored.length∧∀x∈(wmD S m 2).1.pend,16*((m.version+1)%2)≤x.i∧x.i<16*((m.version+1)%2)+16) ∨
 ((wmD S m 2).2=0∧(∀k,k<2→slotS (wmD S m 2).1.stored k 16=slotOf m)∧Calm (wmD S m 2).1∧(wmD S m 2).1.on=true∧(wmD S m 2).1.stored.length=S.stored.length):=by
 have hl:=slotOf_length hf
 have hpar:=parity m.version
 have hsz:=h.size
 have e1:wmD S m 1=wslotD S (m.version%2) (slotOf m):=by rw[wmD,if_pos (show (wmD S m 0).2=0 from rfl)];rfl
 have ha:=wslotD_all h.pend h.all (n:=m.version%2) (by omega) hl
 rcases wslotD_cases h.pend h.all (n:=m.version%2) (by omega) hl with ⟨q0,q1,q2,q3,q4,q5⟩|⟨q0,q1,q2⟩
 ·rw[←e1] at q0 q1 q2 q3 q4 q5 ha
  have e2:wmD S m 2=wslotD (wmD S m 1).1 ((m.version+1)%2) (slotOf m):=by rw[wmD,if_pos q0]
  have hb:=wslotD_all q3 ha.1 (n:=(m.version+1)%2) (by rw[q5];omega) hl
  rcases wslotD_cases q3 ha.1 (n:=(m.version+1)%2) (by rw[q5];omega) hl with ⟨r0,r1,r2,r3,r4,r5⟩|⟨r0,r1,r2⟩
  ·rw[←e2] at r0 r1 r2 r3 r4 r5 hb
   refine .inr (.inr ⟨r0,fun k hk=>?_,⟨r3,hb.1,by rw[r5,q5];exact hsz⟩,r4,by rw[r5,q5]⟩)
   by_cases e:k=(m.version+1)%2
   ·rw[e];exact r1
   ·have:k=m.version%2:=by omega
    rw[slotS_other (n:=(m.version+1)%2) e r2,this]
    exact q1
  ·rw[←e2] at r0 r1 r2
   exact .inr (.inl ⟨r0,by rw[r1];exact q1,by rw[r1];exact q5,r2⟩)
 ·rw[←e1] at q0 q1 q2
  rw[wmD_stuck q0 2 (by omega)]
  exact .inl ⟨q0,q1,q2⟩
theorem wmD_done {S:Dsk} (h:Calm S) {m:ManD} (hf:Fit m) (hon:S.on=true) (hfu:S.fuse<0):(wmD S m 2).2=0∧(wmD S m 2).1.fuse=S.fuse:=by
 have hl:=slotOf_length hf
 have hpar:=parity m.version
 have hsz:=h.size
 have e1:wmD S m 1=wslotD S (m.version%2) (slotOf m):=by rw[wmD,if_pos (show (wmD S m 0).2=0 from rfl)];rfl
 obtain ⟨h1,h2⟩:=wslotD_done hon hfu (n:=m.version%2) (by omega) hl
 have ha:=wslotD_all h.pend h.all (n:=m.version%2) (by omega) hl
 have hon1:(wmD S m 1).1.on=true:=by
  rcases wslotD_cases h.pend h.all (n:=m.version%2) (by omega) hl with ⟨q0,q1,q2,q3,q4,q5⟩|⟨q0,-,-⟩
  ·rw[e1];exact q4
  ·exact absurd h1 q0
 rw[←e1] at h1 h2 ha
 have e2:wmD S m 2=wslotD (wmD S m 1).1 ((m.version+1)%2) (slotOf m):=by rw[wmD,if_pos h1]
 obtain ⟨h3,h4⟩:=wslotD_done hon1 (by rw[h2];exact hfu) (n:=(m.version+1)%2) (by rw[ha.2];omega) hl
 rw[e2]
 exact ⟨h3,h4.trans h2⟩
theorem new_calm {n:Nat} (hn:32≤n):Calm (newD n):=⟨rfl,fun b hb=>by
 have:b=zero128:=List.eq_of_mem_replicate hb
 rw[this];exact zero128_length,by simpa [newD] using hn⟩
end Go.Proofs.YtcdkopbjlakebaaGreatDoor
end
section
namespace Go.Proofs.YtcdkopbjlakebaaGreatDoor
open Go.RowKit Me Mf Rw Ds Fr
theorem gets_slot {m:ManD} (hw:Wf m) (hf:Fit m) (r:List UInt8):GetsM (encS (secOf m)++r) m:=by
 have hb:=hf.2
 exact ⟨⟨(body m).length+13,getS_enc (secOf m) r (by show (body m).length≤1048576;omega)⟩,hf,hw⟩
theorem says_slot {m:ManD} (hw:Wf m) (hf:Fit m):Says (slotOf m) (some m):=fun m'=>
 ⟨fun h=>by rw[(gets_slot hw hf _).one h],fun e=>by injection e with e;rw[←e];exact gets_slot hw hf _⟩
theorem ans_two {T:Nat→Option ManD} {Z:Nat→Bool} {m:ManD} (h:(T 0=some m∧(T 1=some m∨T 1=none))∨(T 1=some m∧(T 0=some m∨T 0=none))):ansOf (curOf T 2) (blkOf Z 2)=(m,0):=by
 have hc:curOf T 2=some m:=by
  unfold curOf curOf curOf
  rcases h with ⟨h0,h1|h1⟩|⟨h1,h0|h0⟩<;>rw[h0,h1]<;>simp[best]
 rw[hc]
 rfl
end Go.Proofs.YtcdkopbjlakebaaGreatDoor
end
section
namespace Go.Proofs.YtcdkopbjlakebaaGreatDoor
open Go.RowKit Me Mf Rw Ds Fr
theorem gets_first {b:List UInt8} {m:ManD} (h:GetsM b m):b.getD 0 0=77:=by
 obtain ⟨⟨k,e⟩,-,-⟩:=h
 unfold getS at e
 repeat' split at e
 all_goals first|(injection e with e1 e2;injection e2 with _ e2;cases e2;done)|skip
 injection e with e1 _
 injection e1
def blankS:List UInt8:=List.replicate 2048 0
theorem blank_no (m:ManD) (h:GetsM blankS m):False:=by
 have:=gets_first h
 unfold blankS at this
 rw[List.getD_eq_getElem?_getD,List.getElem?_replicate,if_pos (by omega)] at this
 exact absurd this (by decide)
theorem says_blank:Says blankS none:=fun m=>⟨fun h=>(blank_no m h).elim,fun e=>by cases e⟩
theorem zeros_blank:zeros blankS=true:=by
 unfold zeros blankS
 rw[List.all_eq_true]
 intro x hx
 rw[List.eq_of_mem_replicate hx]
 rfl
structure Old (S:Dsk) (m:ManD):Prop where
 on:S.on=true
 fuse:S.fuse=-1
 calm:Calm S
 size:S.stored.length=40
 slots:(m=noMan∧∀k,k<2→slotS S.stored k 16=blankS)∨(Fit m∧Wf m∧∀k,k<2→slotS S.stored k 16=slotOf m)
theorem slotS_zero (n:Nat):∀(k c:Nat),16*n+k≤c→slotS (List.replicate c zero128) n k=List.replicate (128*k) 0
 |0,_,_=>rfl
 |k+1,c,h=>by
  rw[slotS,slotS_zero n k c (by omega),List.getD_eq_getElem?_getD,List.getElem?_replicate,if_pos (by omega)]
  show _++zero128=_
  unfold zero128
  rw[List.replicate_append_replicate]
  congr 1
theorem Old.new:Old (newD 40) noMan:=⟨rfl,rfl,new_calm (by omega),by simp[newD],.inl ⟨rfl,fun k hk=>slotS_zero k 16 40 (by omega)⟩⟩
theorem Old.write {S:Dsk} {mw m:ManD} (h:Old S mw) (hf:Fit m) (hw:Wf m):(wmD S m 2).2=0∧Old (wmD S m 2).1 m:=by
 obtain ⟨h1,h2⟩:=wmD_done h.calm hf h.on (by rw[h.fuse];omega)
 refine ⟨h1,?_⟩
 rcases wmD_cases h.calm hf with ⟨q,-⟩|⟨q,-⟩|⟨-,r1,r2,r3,r4⟩
 ·exact absurd h1 q
 ·exact absurd h1 q
 ·exact ⟨r3,by rw[h2,h.fuse],r2,by rw[r4,h.size],.inr ⟨hf,hw,r1⟩⟩
theorem Old.slot {S:Dsk} {m:ManD} (h:Old S m) {k:Nat} (hk:k<2):slotD S k 16=slotS S.stored k 16:=slotD_stored h.on h.calm.pend h.calm.size (by omega) 16 (Nat.le_refl _)
theorem Old.read {S:Dsk} {m:ManD} (h:Old S m) (hf:Fit m) (hw:Wf m) (hm:∀k,k<2→slotS S.stored k 16=slotOf m) {T:Nat→Option ManD} {Z:Nat→Bool} (hT:∀k,k<2→Says (slotD S k 16) (T k)):ansD S T Z=(m,0):=by
 have hall:∀k,k<2→T k=some m:=fun k hk=>by
  have:=hT k hk
  rw[h.slot hk,hm k hk] at this
  exact this.one (says_slot hw hf)
 unfold ansD
 rw[if_neg (by rw[h.size];omega),h.on]
 exact ans_two (.inl ⟨hall 0 (by omega),.inl (hall 1 (by omega))⟩)
theorem Old.written {S:Dsk} {mw m:ManD} (h:Old S mw) (hf:Fit m) (hw:Wf m) {T:Nat→Option ManD} {Z:Nat→Bool} (hT:∀k,k<2→Says (slotD (wmD S m 2).1 k 16) (T k)):ansD (wmD S m 2).1 T Z=(m,0):=by
 obtain ⟨h1,h2⟩:=h.write hf hw
 refine h2.read hf hw ?_ hT
 rcases wmD_cases h.calm hf with ⟨q,-⟩|⟨q,-⟩|⟨-,r1,-⟩
 ·exact absurd h1 q
 ·exact absurd h1 q
 ·exact r1
def fallD (S:Dsk) (f:Int) (m:ManD) (K T:Nat):Dsk:=backD K T (wmD {S with fuse:=max f (-1)} m 2).1
end Go.Proofs.YtcdkopbjlakebaaGreatDoor
end
