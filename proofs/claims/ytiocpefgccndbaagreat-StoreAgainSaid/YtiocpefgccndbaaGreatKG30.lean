/- Texts put together, for a law: StPu, StPq, StM, StCo, StOp, StN, StNi, StBe, StWi, PlF, PlG, PlH, PlS, Plan, AwkM, Awk10. -/
import Derived.Test.YtiocpefgccndbaaGreatKG28
import Derived.Test.YtiocpefgccndbaaGreatKG29
import Derived.Test.YtiocpefgccndbaaGreatKG26
import Derived.Test.YtiocpefgccndbaaGreatKG25
import Derived.Test.YtiocpefgccndbaaGreatKG15
section
namespace Go.Proofs.YtiocpefgccndbaaGreat
open Go.RowKit Me Mf Rw Ds Va Go.Maps
section
theorem writeD_size (S:Dsk) (i:Int) (l:List UInt8):(writeD S i l).1.stored=S.stored:=by
 unfold writeD
 repeat' split
 all_goals simp[(power_pend S).2]
theorem syncD_size (S:Dsk):(syncD S).1.stored.length=S.stored.length:=by
 unfold syncD
 repeat' split
 all_goals simp[(power_pend S).2,settle_length]
theorem stD_size (S:Dsk) (n:Nat) (l:List UInt8):∀k,(stD S n l k).1.stored=S.stored
 |0=>rfl
 |k+1=>by
  have h:=stD_size S n l k
  rw[stD]
  split
  ·rw[writeD_size,h]
  ·exact h
theorem wslotD_size (S:Dsk) (n:Nat) (l:List UInt8):(wslotD S n l).1.stored.length=S.stored.length:=by
 unfold wslotD
 split
 ·rw[syncD_size,stD_size]
 ·rw[stD_size]
theorem wmD_size (S:Dsk) (m:ManD):∀k,(wmD S m k).1.stored.length=S.stored.length
 |0=>rfl
 |k+1=>by
  have h:=wmD_size S m k
  rw[wmD]
  split
  ·rw[wslotD_size,h]
  ·exact h
theorem ptD_size (S:Dsk) (id:Nat) (bl:List Int) (b:List UInt8):∀k,(ptD S id bl b k).1.stored=S.stored
 |0=>rfl
 |k+1=>by
  have h:=ptD_size S id bl b k
  rw[ptD]
  split
  ·rw[writeD_size,h]
  ·exact h
def bodyC (C:Chg) (x:List UInt8):List UInt8:=((C x).getD none).getD []
def putsD (C:Chg):Dsk→List FileD→Dsk×Int
 |S,[]=>(S,0)
 |S,f::l=>if (putP S f (bodyC C f.name)).2=0 then putsD C (putP S f (bodyC C f.name)).1 l else putP S f (bodyC C f.name)
theorem putP_pend (S:Dsk) (f:FileD) (b:List UInt8):(putP S f b).1.pend.length≤S.pend.length+St.pages b.length:=ptD_pend _
theorem putP_size (S:Dsk) (f:FileD) (b:List UInt8):(putP S f b).1.stored=S.stored:=ptD_size _ _ _ _ _
theorem putsD_size (C:Chg):∀(l:List FileD) (S:Dsk),(putsD C S l).1.stored=S.stored
 |[],_=>rfl
 |f::l,S=>by
  rw[putsD]
  split
  ·rw[putsD_size C l,putP_size]
  ·rw[putP_size]
def putD (X:Sto) (m:ManD):Dsk×Int:=
 if (putsD X.C X.S m.files).2=0 then (if (syncD (putsD X.C X.S m.files).1).2=0 then wmD (syncD (putsD X.C X.S m.files).1).1 m 2 else syncD (putsD X.C X.S m.files).1) else putsD X.C X.S m.files
theorem putD_size (X:Sto) (m:ManD):(putD X m).1.stored.length=X.S.stored.length:=by
 unfold putD
 repeat' split
 ·rw[wmD_size,syncD_size,putsD_size]
 ·rw[syncD_size,putsD_size]
 ·rw[putsD_size]
end
section
variable {w w':World} {B P D M N:Nat} {X:Sto} {own ownD T:Nat→Prop}
def Fol (w w':World) (P M:Nat) (own ownD own' ownD':Nat→Prop):Prop:=Out (Foot P M ownD) w w'∧(∀k,own' k→own k∨w.heap.size≤k)∧(∀k,own k→own' k)∧∀k,ownD' k→ownD k∨w.heap.size≤k
theorem Fol.below (hb:Below w.heap.size w w'):Fol w w' P M own ownD own ownD:=⟨.of_below hb,fun k hk=>.inl hk,fun k hk=>hk,fun k hk=>.inl hk⟩
theorem Fol.foot (h:Out (Foot P M ownD) w w'):Fol w w' P M own ownD own ownD:=⟨h,fun k hk=>.inl hk,fun k hk=>hk,fun k hk=>.inl hk⟩
theorem Fol.trans {w2:World} {own1 ownD1 own2 ownD2:Nat→Prop} (h:Fol w w' P M own ownD own1 ownD1) (k:Fol w' w2 P M own1 ownD1 own2 ownD2):Fol w w2 P M own ownD own2 ownD2:=by
 obtain ⟨h1,h2,h3,h4⟩:=h
 obtain ⟨k1,k2,k3,k4⟩:=k
 have hs:=h1.size
 refine ⟨h1.trans' k1 fun j hj=>?_,fun j hj=>?_,fun j hj=>k3 j (h3 j hj),fun j hj=>?_⟩
 ·rcases hj with e|e|e
  ·exact .inl (.inl e)
  ·exact .inl (.inr (.inl e))
  ·exact (h4 j e).imp (fun q=>.inr (.inr q)) fun q=>q
 ·rcases k2 j hj with q|q
  ·exact h2 j q
  ·exact .inr (by omega)
 ·rcases k4 j hj with q|q
  ·exact h4 j q
  ·exact .inr (by omega)
def WPost (w:World) (B P D M N:Nat) (X:Sto) (own ownD:Nat→Prop) (w':World):Prop:=∃own' ownD',StoreAt w' B P D M N X own' ownD'∧Fol w w' P M own ownD own' ownD'
theorem StoreAt.disked (h:StoreAt w B P D M N X own ownD) {S:Dsk} (hd:DPost w B D S ownD w') (hl:S.stored.length=X.S.stored.length):WPost w B P D M N {X with S:=S} own ownD w':=by
 obtain ⟨ownD',h1,h2,h3⟩:=hd
 have ho:Out (Foot P M ownD) w w':=h2.more fun j _ hj=>.inr (.inr hj)
 have hoo:=h.foot ho
 have hs:∀k,(own k∨ownD' k)→own k∨w.heap.size≤k:=fun k hk=>by
  rcases hk with e|e
  ·exact .inl e
  ·exact (h3 k e).imp (fun q=>h.own k (.inr (.inr q))) fun q=>q
 obtain ⟨A,n,c,b1,b2⟩:=h.blk
 obtain ⟨DD,hc⟩:=h.chs
 refine ⟨fun k=>own k∨ownD' k,ownD',?_,ho,hs,fun k hk=>.inl hk,h3⟩
 exact {
  blk:=⟨A,n,c,b1.out h2 h.dP,b2.next hoo hs⟩
  disk:=h1
  chs:=by
   refine ⟨DD,?_,hc.no,fun x z hz=>?_⟩
   ·obtain ⟨es,clock,q1,q2⟩:=hc.map
    exact ⟨es,clock,(h2.block M hc.lt h.dM).trans q1,q2⟩
   ·obtain ⟨A,k,c,q1,q2,q3,q4,q5⟩:=hc.is x z hz
    exact ⟨A,k,c,q1,q2,q3,q4,q5.next hoo hs⟩
  dP:=fun e=>(h3 P e).elim h.dP fun q=>by have:=b1.lt;omega
  dM:=fun e=>(h3 M e).elim h.dM fun q=>by have:=hc.lt;omega
  low:=fun k hk=>by
   rcases hk with e|e
   ·exact ⟨(h.low k e).1,Nat.lt_of_lt_of_le (h.low k e).2 h2.size⟩
   ·exact h1.lt e
  own:=fun k hk=>by
   rcases hk with e|e|e
   ·exact .inl (h.own k (.inl e))
   ·exact .inl (h.own k (.inr (.inl e)))
   ·exact .inr e
  lP:=h.lP
  lM:=h.lM
  ok:={h.ok with disk:=by show St.OnDisk S.stored.length _;rw[hl];exact h.ok.disk,big:=by show 32<S.stored.length;rw[hl];exact h.ok.big}}
theorem lookup_body {C:Chg} {DD:DataW Value} (h:Chs w T M N C DD) (nm:List UInt8) (hl:nm.length≤maxLen) :
 ∃A k c r,(Instr.lookup 89 (.map (some M)) (sv nm) false).run Tryz.prog w=.ok (chV A k c r) w∧(bodyC C nm).length=k∧k≤c∧c≤9223372036854775807∧Kk T (fun W=>Rd W W.heap.size A (bodyC C nm)) w:=by
 obtain ⟨v,ps,hr,hv⟩:=h.map.lookup law_str Tryz.underlying89 (change_zero w) (zd:=.held (chV none 0 0 false)) (zp:=[]) (chE_mk _ _ _ _) (key_of hl)
 cases hC:C nm with
 |none=>
  have hh:=(h.no nm).1 hC
  rw[Maps.atKey_of_not_has hh] at hv
  obtain ⟨A,k,c,r,rfl,e⟩:=chE_inv hv
  injection e with e _
  injection e with e
  have e0:bodyC C nm=[]:=by unfold bodyC;rw[hC];rfl
  rw[←e] at hr
  refine ⟨none,0,0,false,hr,by rw[e0];rfl,Nat.le_refl _,by omega,fun W _=>?_⟩
  rw[e0]
  exact Rd.empty
 |some z=>
  obtain ⟨A,k,c,h1,h2,h3,h4,h5⟩:=h.is nm z hC
  rw[h1] at hv
  obtain ⟨A',k',c',r,rfl,e⟩:=chE_inv hv
  injection e with e _
  injection e with e
  have e0:bodyC C nm=z.getD []:=by unfold bodyC;rw[hC];rfl
  rw[←e] at hr
  exact ⟨A,k,c,_,hr,by rw[e0];exact h2,h3,h4,fun W hW=>by rw[e0];exact h5 W hW⟩
structure PuI (w:World) (B P D M N:Nat) (X:Sto) (own ownD:Nat→Prop) (l:List FileD) (j:Nat) (W:World):Prop where
 ex:∃S own' ownD',StoreAt W B P D M N {X with S:=S} own' ownD'∧Fol w W P M own ownD own' ownD'∧putsD X.C X.S l=putsD X.C S (l.drop j)∧S.pend.length≤X.S.pend.length+countOf (l.take j)∧S.stored=X.S.stored
theorem lookup_okP {P:Program} {o:Oper} {a:Act} {w:World} {p:Value→World→Prop} {m x:Operand} {t:TypeId} {mv key val:Value} (ho:o.op=Op.lookup t m x false) (hm:a.eval m=mv) (hx:a.eval x=key)
 (hr:(Instr.lookup t mv key false).run P w=.ok val w) (h:p val w):Gw.OkP P o a w p:=by
 unfold Gw.OkP
 simp[execOp,ho,hm,hx,hr,Result.andThen]
 exact h
theorem field_body (A:Option Addr) (k c:Nat) (r:Bool) (w:World):(Instr.field 121 (chV A k c r) 0).run Tryz.prog w=.ok (.slice A k c) w:=by kernel_rfl
def pwG (P M b:Nat) (nm:List UInt8) (id:Nat) (sz:Int) (A3:Option Addr) (n3 c3:Nat) (A4:Option Addr) (k4 c4:Nat) (r4:Bool) (r:Int):Gw.Fact:=fun s v _=>
 match s with
 |0|16|18|19=>v=.pointer (some ⟨P,0,none⟩)
 |6=>v=.pointer (some ⟨b,0,none⟩)
 |17=>v=.agg #[sv nm,.int .u32 (id:Int),.int .i64 sz,.slice A3 n3 c3]
 |20=>v=.pointer (some ⟨P,4,none⟩)
 |21=>v=.map (some M)
 |22=>v=.pointer (some ⟨b,0,none⟩)
 |23=>v=sv nm
 |24=>v=chV A4 k4 c4 r4
 |25=>v=.slice A4 k4 c4
 |26|7=>v=.int .i64 r
 |_=>True
theorem WPost.from {own' ownD':Nat→Prop} {w2:World} (h:WPost w' B P D M N X own' ownD' w2) (hf:Fol w w' P M own ownD own' ownD'):WPost w B P D M N X own ownD w2:=by
 obtain ⟨own2,ownD2,h1,h2⟩:=h
 exact ⟨own2,ownD2,h1,hf.trans h2⟩
theorem drop_cons {α:Type} {l:List α} {j:Nat} {x:α} (h:l[j]?=some x):l.drop j=x::l.drop (j+1):=drop_at h
theorem PuI.next {l:List FileD} {j:Nat} {wr wz w2:World} {S:Dsk} {own' ownD':Nat→Prop} {f:FileD} (ho:Fol w wr P M own ownD own' ownD') (he:putsD X.C X.S l=putsD X.C S (l.drop j)) (hp:S.pend.length≤X.S.pend.length+countOf (l.take j)) (hst:S.stored=X.S.stored)
 (hf:l[j]?=some f) (hb:Below wr.heap.size wr wz) (hW:WPost wz B P D M N {X with S:=(putP S f (bodyC X.C f.name)).1} own' ownD' w2) (hz:(putP S f (bodyC X.C f.name)).2=0) (hpg:St.pages (bodyC X.C f.name).length≤f.blocks.length):PuI w B P D M N X own ownD l (j+1) w2:=by
 obtain ⟨own2,ownD2,h1,h2⟩:=hW.from (ho.trans (.below hb))
 refine ⟨_,own2,ownD2,h1,h2,?_,?_,?_⟩
 ·rw[he,drop_cons hf,putsD,if_pos hz]
 ·rw[countOf_next hf]
  have:=putP_pend S f (bodyC X.C f.name)
  omega
 ·rw[putP_size,hst]
theorem PuI.stop {l:List FileD} {j:Nat} {S:Dsk} {f:FileD} (he:putsD X.C X.S l=putsD X.C S (l.drop j)) (hf:l[j]?=some f) (hz:(putP S f (bodyC X.C f.name)).2≠0):putsD X.C X.S l=putP S f (bodyC X.C f.name):=by
 rw[he,drop_cons hf,putsD,if_neg hz]
def pmG (P D H:Nat) (mv:Value) (r:Int):Gw.Fact:=fun s v _=>
 match s with
 |0|39|40|41=>v=.pointer (some ⟨P,0,none⟩)
 |42=>v=.pointer (some ⟨D,0,none⟩)
 |3=>v=.pointer (some ⟨H,0,none⟩)
 |43=>v=mv
 |44|4=>v=.int .i64 r
 |_=>True
set_option maxRecDepth 100000 in
set_option maxHeartbeats 4000000 in
theorem sput_any (h:StoreAt w B P D M N X own ownD) (m:ManD) (A:Option Addr) (n c:Nat) (hm:ManK own A n c m w) (hf:Fit m) (hb:∀f∈m.files,St.pages (bodyC X.C f.name).length≤f.blocks.length) (hp:X.S.pend.length+4096≤1073741824) :
 Calls Tryz.prog 66 #[.pointer (some ⟨P,0,none⟩),mval m.version m.next A n c] w fun e w'=>e=.returned (.int .i64 (putD X m).2)∧WPost w B P D M N {X with S:=(putD X m).1} own ownD w':=by
 obtain ⟨H,hH⟩:∃H,H=w.heap.size:=⟨_,rfl⟩
 obtain ⟨v,hv⟩:∃v,v=m.version:=⟨_,rfl⟩
 obtain ⟨nx,hnx⟩:∃nx,nx=m.next:=⟨_,rfl⟩
 obtain ⟨w0,hw0⟩:∃w0,w0=w.alloc (.cells #[.int .u64 (v:Int),.int .u32 (nx:Int),.slice A n c] 38):=⟨_,rfl⟩
 have HW0:=Lib.hid hw0
 have hb0:Below w.heap.size w w0:=by rw[hw0];exact (Below.refl _ _).alloc (Nat.le_refl _) _
 have BX0:=Lib.hid (show Blk w0 H [.int .u64 (v:Int),.int .u32 (nx:Int),.slice A n c] by rw[hw0,hH];exact Blk.new w [.int .u64 (v:Int),.int .u32 (nx:Int),.slice A n c] _)
 have HB0:=Lib.hid hb0
 have HM0:=Lib.hid (hm.past hb0)
 have HS0:=Lib.hid (h.past hb0)
 have HLN:=Lib.hid (show m.files.length=n from hm.now.len)
 have HWF:=Lib.hid hm.now.wf
 have HF:=Lib.hid hf
 have HBD:=Lib.hid hb
 have HHW:=Lib.hid hH
 have hcn:countOf m.files≤2035:=by have:=countOf_enc m.files;have:=body_length m;have:=hf.2;omega
 have hn64:n≤2035:=by have:=encFs_length m.files;have:=body_length m;have:=hf.2;have:=HLN.out;omega
 have HOK:=Lib.hid h.ok
 have hHow:∀k,own k→k<H:=fun k hk=>by rw[hH];exact (h.lt hk).2
 have HOW:=Lib.hid hHow
 obtain ⟨R,hR⟩:∃R,R=putD X m:=⟨_,rfl⟩
 rw[←hR]
 have HR:=Lib.hid hR
 have i0:=BX0.out.cell (i:=0) rfl
 have i1:=BX0.out.cell (i:=1) rfl
 have i2:=BX0.out.cell (i:=2) rfl
 rw[hw0] at i0 i1 i2
 have HV:=Lib.hid (And.intro hv hnx)
 have hS0:w0.heap.size=H+1:=by rw[hw0,hH];simp
 have HSZ:=Lib.hid hS0
 rw[←hv,←hnx]
 rw[hH] at i0 i1 i2
 clear h hm hf hb hb0 hw0 hR hv hnx hHow hS0 hH
 go_enter Tryz.func66,Tryz.ntmps66
 go_wp2_with fail
 rw[←HW0.out]
 rw[←HHW.out]
 clear i0 i1 i2
 go_loopw [12] (fun x wr=>∃j:Nat,x=.int .i64 (j:Int)∧j≤n∧Hid (PuI w0 B P D M N X own ownD m.files j wr)) (fun x _=>n-(intOf x).toNat)
 case atStart=>exact ⟨0,rfl,Nat.zero_le _,Lib.hid ⟨X.S,own,ownD,HS0.out,.below (Below.refl _ _),rfl,by simp,rfl⟩⟩
 case round=>
  obtain ⟨j,rfl,hjn,HI⟩:=hrel
  by_cases hlt:j<n
  ·obtain ⟨f,hfj⟩:∃f,m.files[j]?=some f:=⟨m.files[j]'(by rw[HLN.out];exact hlt),List.getElem?_eq_getElem _⟩
   obtain ⟨S,own',ownD',hSt,hFo,hE,hPd,hSS⟩:=HI.out
   have hO:=HS0.out.foot hFo.1
   have hN:=hFo.2.1
   have HMR:=HM0.out.next hO hN
   obtain ⟨a,A3,n3,c3,rfl,hab,hna,g0,g1,g2,g3,hfk⟩:=mank_at HMR hfj
   have hfm:=List.mem_of_getElem? hfj
   have hpl:=HBD.out f hfm
   obtain ⟨nm,hnm⟩:∃nm,nm=f.name:=⟨_,rfl⟩
   obtain ⟨id,hid⟩:∃id:Nat,id=f.id:=⟨_,rfl⟩
   obtain ⟨sz,hsz⟩:∃sz,sz=f.size:=⟨_,rfl⟩
   have hnl:nm.length≤32:=by rw[hnm];exact (HF.out.1.1.1 f hfm).2
   have hid32:f.id<4294967296:=(HWF.out.files f hfm).id
   obtain ⟨b,hb⟩:∃b,b=wr.heap.size:=⟨_,rfl⟩
   obtain ⟨wz,hwz⟩:∃wz,wz=wr.alloc (fbox nm id sz A3 n3 c3):=⟨_,rfl⟩
   have hbz:Below wr.heap.size wr wz:=by rw[hwz];exact (Below.refl _ _).alloc (Nat.le_refl _) _
   have hbox:wz.heap[b]?=some (fbox nm id sz A3 n3 c3):=by rw[hwz,hb];exact heap_alloc_new wr _
   obtain ⟨q0,q1,q2,q3⟩:=fbox_cells hbox
   have hbzd:Below wr.heap.size wr wz.drew:=hbz.drew
   have hSz:=hSt.past hbzd
   obtain ⟨DD,hc⟩:=hSz.chs
   obtain ⟨A4,k4,c4,r4,hrl,hl4,hc4,hm4,hk4⟩:=lookup_body hc nm (by unfold maxLen;omega)
   obtain ⟨As,ns,cs,hbk,-⟩:=hSz.blk
   obtain ⟨d0,d1,d2,d3,d4,d5⟩:=hbk.six
   have hlen4:k4≤1048576:=by
    rw[←hl4]
    unfold bodyC
    cases hC:X.C nm with
    |none=>show 0≤_;omega
    |some z=>
     cases z with
     |none=>show 0≤_;omega
     |some bb=>exact HOK.out.len nm bb hC
   have hn3:f.blocks.length=n3:=hfk.len
   have key:S.pend.length+St.pages (bodyC X.C f.name).length≤1073741824:=by
    have h2:=countOf_next hfj
    have h3:=countOf_le m.files (j+1)
    omega
   have HPP:=Lib.hid (putPages_any hSz f A3 n3 c3 (hfk.next (.of_below hbzd) fun k hk=>.inl hk) hid32 A4 k4 c4 (bodyC X.C nm) hl4 hlen4 hc4 hm4 hk4 (by rw[←hn3,←hl4,hnm];exact hpl) (by rw[←hl4,hnm];exact key))
   rw[←hnm,←hid,←hsz] at HPP
   have HHR:=Lib.hid (And.intro hFo (And.intro hE (And.intro hPd hSS)))
   have HSZ2:=Lib.hid hSz
   have HFJ:=Lib.hid hfj
   have HBZ:=Lib.hid hbzd
   have HRL:=Lib.hid hrl
   have HPL:=Lib.hid hpl
   have HEQ:=Lib.hid (And.intro hnm (And.intro hid hsz))
   have HWZ:=Lib.hid (show wz=wr.alloc (fbox nm id sz A3 n3 c3) from hwz)
   have hjn':(j:Int)<(n:Int):=by omega
   have HB:=Lib.hid hb
   rw[←hnm] at g0
   rw[←hid] at g1
   rw[←hsz] at g2
   clear hSt hO hN hFo hE hPd hSS HI hfm hpl hid32 hbz hbox hbzd hSz hc hrl hbk hfk hn3 hnm hid hsz hfj hwz hk4 HMR hb key
   go_wp2_with fail
   try rw[←HHW.out]
   rw[←HWZ.out,←HB.out]
   refine Gw.wp_region_phase (fun _ _=>True) (fun _=>trivial) (fun _ _ _ _ _=>trivial) (fun p Wx=>if p=0 then Wx=wz.drew else DPost wz.drew B D (putP S f (bodyC X.C nm)).1 ownD' Wx) (pwG P M b nm id sz A3 n3 c3 A4 k4 c4 r4 (putP S f (bodyC X.C nm)).2) [10] [16,17,18,19,20,21,22,23,24,25,26,7] [([0],none,[0],false),([6],none,[0],false),([0],none,[0],false),([18],none,[0],false),([19],none,[0],false),([20],none,[0],false),([6],none,[0],false),([22],none,[0],false),([21,23],none,[0],false),([24],none,[0],false),([16,17,25],none,[0],true),([26],none,[1],false)] 45 1 (by kernel_rfl) (by kernel_rfl) rfl trivial (by simp) ?h0 ?hreq ?hend
   case h0=>
    intro t W hnd _
    unfold pwG
    split<;>first|rfl|trivial|exact absurd (by simp) hnd
   case hreq=>
    refine ⟨⟨?_,trivial⟩,⟨?_,trivial⟩,⟨?_,trivial⟩,⟨?_,trivial⟩,⟨?_,trivial⟩,⟨?_,trivial⟩,⟨?_,trivial⟩,⟨?_,trivial⟩,⟨?_,trivial⟩,⟨?_,trivial⟩,⟨?_,trivial⟩,⟨?_,trivial⟩,trivial⟩
    all_goals
     intro ac W hR hI hk
     try (rw[if_pos rfl] at hI;subst hI)
     simp only[Gw.Knows,pwG] at hk
     try (simp[go_sem,Gw.POpReq,Gw.OkP,Gw.PPost,Gw.HoldsR,pwG,hk,d4,q0,q1,q2,q3];done)
    ·exact lookup_okP rfl ((Gw.eval_slot ac 21).trans hk.1) ((Gw.eval_slot ac 23).trans hk.2.1) HRL.out ⟨trivial,rfl,fun _ _=>rfl⟩
    ·simp[go_sem,Gw.POpReq,Gw.OkP,Gw.PPost,Gw.HoldsR,pwG,hk,field_body,Result.andThen]
    ·simp[go_sem,Gw.POpReq,Gw.OkP,Gw.PPost,Gw.HoldsR,pwG,hk]
     refine HPP.out.mono ?_
     rintro e w5 ⟨rfl,h5⟩
     exact ⟨rfl,h5⟩
    ·rw[if_neg (by simp)] at hI
     simp[go_sem,Gw.POpReq,Gw.OkP,Gw.PPost,Gw.HoldsR,pwG,hk,hI]
   case hend=>
    intro x' w2 _ hI hx
    rw[if_neg (by simp)] at hI
    have hx7:=hx 7 (by simp) w2 trivial
    simp only[pwG] at hx7
    simp only[Gw.putAll,Act.put,List.setIfInBounds_toArray,List.set_cons_zero,List.set_cons_succ]
    obtain ⟨r,hr⟩:∃r,r=(putP S f (bodyC X.C nm)).2:=⟨_,rfl⟩
    rw[←hr] at hx7
    simp only[hx7]
    have HI2:=Lib.hid hI
    have HRR:=Lib.hid hr
    clear hI hx hr hx7 q0 q1 q2 q3 d0 d1 d2 d3 d4 d5 g0 g1 g2 g3
    by_cases hr0:r=0
    ·subst hr0
     go_wp2_with fail
     refine ⟨⟨j+1,by simp,hlt,Lib.hid ?_⟩,by simp[intOf];omega⟩
     obtain ⟨hFo,hE,hPd,hSS⟩:=HHR.out
     have hz:=HRR.out.symm
     have hI:=HI2.out
     rw[HEQ.out.1] at hz hI
     exact PuI.next hFo hE hPd hSS HFJ.out HBZ.out (HSZ2.out.disked hI (by rw[putP_size])) hz HPL.out
    ·have hd1:(r != 0)=true:=by rw[bne_iff_ne];exact hr0
     go_wp2_with fail
     go_ret
     obtain ⟨hFo,hE,hPd,hSS⟩:=HHR.out
     have hz:=HRR.out.symm
     have hI:=HI2.out
     rw[HEQ.out.1] at hz hI
     have hst:=PuI.stop hE HFJ.out (by rw[hz];exact hr0)
     have hRE:R=putP S f (bodyC X.C f.name):=by rw[HR.out];unfold putD;rw[hst,hz,if_neg hr0]
     refine ⟨by rw[hRE,hz];rfl,?_⟩
     rw[hRE]
     exact (HSZ2.out.disked hI (by rw[putP_size])).from (((Fol.below HB0.out).trans hFo).trans (.below HBZ.out))
  ·have e:j=n:=by omega
   subst e
   obtain ⟨S,own',ownD',hSt,hFo,hE,hPd,hSS⟩:=HI.out
   have hO:=HS0.out.foot hFo.1
   have hN:=hFo.2.1
   rw[List.drop_of_length_le (by rw[HLN.out];exact Nat.le_refl _)] at hE
   have hE2:putsD X.C X.S m.files=(S,0):=by rw[hE];rfl
   have HMR:=HM0.out.next hO hN
   obtain ⟨As,ns,cs,hbk,-⟩:=hSt.blk
   obtain ⟨d0,d1,d2,d3,d4,d5⟩:=hbk.six
   have hpl:S.pend.length+1024≤1073741824:=by have:=countOf_le m.files j;omega
   have HSY:=Lib.hid (sync_any hSt.disk (show S.pend.length<_ by omega))
   have hRE:R=if (syncD S).2=0 then wmD (syncD S).1 m 2 else syncD S:=by rw[HR.out];unfold putD;rw[hE2,if_pos rfl]
   have HRE:=Lib.hid hRE
   have HST:=Lib.hid hSt
   have HON:=Lib.hid hFo
   have HMM:=Lib.hid HMR
   have HPL:=Lib.hid hpl
   have HSS:=Lib.hid hSS
   clear hSt hO hN hFo hE hPd hSS HI hE2 HMR hbk hpl hRE
   go_wp2_with (go_at_call 100;refine HSY.out.mono ?_)
   rintro e w2 rfl hd
   try rw[←HHW.out]
   obtain ⟨r,hr⟩:∃r,r=(syncD S).2:=⟨_,rfl⟩
   rw[←hr]
   have HDP:=Lib.hid hd
   have HRR:=Lib.hid hr
   clear hd hr d0 d1 d2 d3 d4 d5 HSY
   by_cases hr0:r=0
   ·subst hr0
    have HW2:=Lib.hid (HST.out.disked HDP.out (syncD_size S))
    have hR2:=HRE.out
    rw[if_pos HRR.out.symm] at hR2
    have HR2:=Lib.hid hR2
    obtain ⟨own2,ownD2,hs2,hf2⟩:=HW2.out
    have ho2:=HST.out.foot hf2.1
    have hn2:=hf2.2.1
    have HM2:=Lib.hid ((HMM.out.next ho2 hn2))
    have ho0:=HS0.out.foot HON.out.1
    have hn0:=HON.out.2.1
    have hbx:Blk w2 H [.int .u64 (v:Int),.int .u32 (nx:Int),.slice A j c]:=
     (BX0.out.out ho0 fun h=>by have:=HOW.out _ h;omega).out ho2 fun h=>by
       have h1:=HSZ.out
       rcases hn0 _ h with h|h
       ·have:=HOW.out _ h;omega
       ·omega
    have b0:=hbx.cell (i:=0) rfl
    have b1:=hbx.cell (i:=1) rfl
    have b2:=hbx.cell (i:=2) rfl
    obtain ⟨As,ns,cs,hbk,-⟩:=hs2.blk
    obtain ⟨d0,d1,d2,d3,d4,d5⟩:=hbk.six
    have hsm:Small m:=small_of_body (by have:=HF.out.2;omega)
    have HWR:=Lib.hid (mwrite_any (S:=(syncD S).1) (hs2.disk.past (Below.refl _ _).drew) A j c m ((HM2.out.past (Below.refl _ _).drew).now) hsm HF.out (by
     have h1:=syncD_pend S
     have h2:=HPL.out
     show (syncD S).1.pend.length+32≤_
     omega))
    rw[←HV.out.1,←HV.out.2] at HWR
    rw[←HR2.out] at HWR
    have HS2:=Lib.hid hs2
    have HO2:=Lib.hid hf2
    clear hs2 hf2 ho2 hn2 ho0 hn0 hbx hbk hR2 hsm HW2
    go_wp2_with fail
    refine Gw.wp_region_phase (fun _ _=>True) (fun _=>trivial) (fun _ _ _ _ _=>trivial) (fun p Wx=>if p=0 then Wx=w2.drew else DPost w2.drew B D R.1 ownD2 Wx) (pmG P D H (mval v nx A j c) R.2) [5] [39,40,41,42,43,44,4] [([0],none,[0],false),([39],none,[0],false),([40],none,[0],false),([41],none,[0],false),([3],none,[0],false),([42,43],none,[0],true),([44],none,[1],false)] 45 1 (by kernel_rfl) (by kernel_rfl) rfl trivial (by simp) ?h0 ?hreq ?hend
    case h0=>
     intro t W hnd _
     unfold pmG
     split<;>first|rfl|trivial|exact absurd (by simp) hnd
    case hreq=>
     refine ⟨⟨?_,trivial⟩,⟨?_,trivial⟩,⟨?_,trivial⟩,⟨?_,trivial⟩,⟨?_,trivial⟩,⟨?_,trivial⟩,⟨?_,trivial⟩,trivial⟩
     all_goals
      intro ac W hR hI hk
      try (rw[if_pos rfl] at hI;subst hI)
      simp only[Gw.Knows,pmG] at hk
      try (simp[go_sem,Gw.POpReq,Gw.OkP,Gw.PPost,Gw.HoldsR,pmG,hk,d0,b0,b1,b2];done)
     ·simp[go_sem,Gw.POpReq,Gw.OkP,Gw.PPost,Gw.HoldsR,pmG,hk]
      refine HWR.out.mono ?_
      rintro e w5 ⟨rfl,h5⟩
      exact ⟨rfl,h5⟩
     ·rw[if_neg (by simp)] at hI
      simp[go_sem,Gw.POpReq,Gw.OkP,Gw.PPost,Gw.HoldsR,pmG,hk,hI]
    case hend=>
     intro x' w3 _ hI hx
     rw[if_neg (by simp)] at hI
     have hx4:=hx 4 (by simp) w3 trivial
     simp only[pmG] at hx4
     simp only[Gw.putAll,Act.put,List.setIfInBounds_toArray,List.set_cons_zero,List.set_cons_succ]
     simp only[hx4]
     have HI3:=Lib.hid hI
     clear hI hx hx4 d0 d1 d2 d3 d4 d5 b0 b1 b2
     go_wp2_with fail
     go_ret
     have hp3:=HS2.out.past (Below.refl _ _).drew
     have hW:=hp3.disked HI3.out (by rw[HR2.out];exact wmD_size _ m 2)
     exact ⟨rfl,hW.from (((Fol.below HB0.out).trans HON.out).trans (HO2.out.trans (.below (Below.refl _ _).drew)))⟩
   ·have hd1:(r != 0)=true:=by rw[bne_iff_ne];exact hr0
    have hR2:=HRE.out
    rw[if_neg (by rw[←HRR.out];exact hr0)] at hR2
    have HR2:=Lib.hid hR2
    clear hR2
    go_wp2_with fail
    go_ret
    refine ⟨by rw[HR2.out,HRR.out];rfl,?_⟩
    rw[HR2.out]
    exact (HST.out.disked HDP.out (syncD_size S)).from ((Fol.below HB0.out).trans HON.out)
end
end Go.Proofs.YtiocpefgccndbaaGreat
end
section
namespace Go.Proofs.YtiocpefgccndbaaGreat
open Go.RowKit Me Mf Rw Ds Va Go.Maps
theorem planL_mem (fs:List FileD):∀(L:List (List UInt8×Option Nat)) (fr:List Nat) (nx:Nat) (r:List FileD×Nat),St.planL fs L fr nx=some r→∀f∈r.1,
 ((f.name,none)∈L∧f∈fs)∨(∃s,(f.name,some s)∈L∧f.size=(s:Int)∧f.blocks.length=St.pages s∧∀b∈f.blocks,∃i∈fr,b=(i:Int))
 |[],fr,nx,r,h,f,hf=>by
  rw[St.planL] at h
  injection h with h
  subst h
  cases hf
 |(x,none)::l,fr,nx,r,h,f,hf=>by
  rw[St.planL] at h
  cases hr:St.planL fs l fr nx with
  |none=>rw[hr] at h;cases h
  |some q=>
   rw[hr] at h
   injection h with h
   subst h
   rcases List.mem_append.1 hf with h|h
   ·obtain ⟨h1,h2⟩:=List.mem_filter.1 h
    have e:f.name=x:=by simpa using h2
    exact .inl ⟨by rw[e];exact List.mem_cons_self,h1⟩
   ·rcases planL_mem fs l fr nx q hr f h with ⟨h1,h2⟩|⟨s,h1,h2,h3,h4⟩
    ·exact .inl ⟨List.mem_cons_of_mem _ h1,h2⟩
    ·exact .inr ⟨s,List.mem_cons_of_mem _ h1,h2,h3,h4⟩
 |(x,some s)::l,fr,nx,r,h,f,hf=>by
  rw[St.planL] at h
  split at h
  ·rename_i hc
   cases hr:St.planL fs l (fr.drop (St.pages s)) (nx+1) with
   |none=>rw[hr] at h;cases h
   |some q=>
    rw[hr] at h
    injection h with h
    subst h
    rcases List.mem_cons.1 hf with h|h
    ·subst h
     refine .inr ⟨s,List.mem_cons_self,rfl,?_,fun b hb=>?_⟩
     ·show (St.ints _).length=_
      unfold St.ints
      rw[List.length_map,List.length_take]
      omega
     ·have hb:b∈St.ints (fr.take (St.pages s)):=hb
      unfold St.ints at hb
      obtain ⟨i,hi,e⟩:=List.mem_map.1 hb
      exact ⟨i,List.mem_of_mem_take hi,e.symm⟩
    ·rcases planL_mem fs l _ _ q hr f h with ⟨h1,h2⟩|⟨s',h1,h2,h3,h4⟩
     ·exact .inl ⟨List.mem_cons_of_mem _ h1,h2⟩
     ·exact .inr ⟨s',List.mem_cons_of_mem _ h1,h2,h3,fun b hb=>by
       obtain ⟨i,hi,e⟩:=h4 b hb
       exact ⟨i,List.mem_of_mem_drop hi,e⟩⟩
  ·cases h
section
variable {X:Sto} {l:List (List UInt8)} {m:ManD}
theorem NextIs.file (h:NextIs X l m) {f:FileD} (hf:f∈m.files):(f.name∈l∧szC X f.name=none∧f∈X.m.files)∨(∃s,f.name∈l∧szC X f.name=some s∧f.size=(s:Int)∧f.blocks.length=St.pages s∧∀b∈f.blocks,∃i∈St.freeM X.S.stored.length X.m.files,b=(i:Int)):=by
 obtain ⟨h,-,-⟩:=h
 unfold St.planD at h
 cases hr:St.planL X.m.files (listC X l) (St.freeM X.S.stored.length X.m.files) X.m.next with
 |none=>rw[hr] at h;cases h
 |some r=>
  rw[hr] at h
  injection h with h
  subst h
  have hL:∀s,(f.name,s)∈listC X l→f.name∈l∧szC X f.name=s:=fun s hs=>by
   unfold listC at hs
   obtain ⟨x,hx,e⟩:=List.mem_map.1 hs
   injection e with e1 e2
   subst e1
   exact ⟨hx,e2⟩
  rcases planL_mem _ _ _ _ r hr f hf with ⟨h1,h2⟩|⟨s,h1,h2,h3,h4⟩
  ·exact .inl ⟨(hL _ h1).1,(hL _ h1).2,h2⟩
  ·exact .inr ⟨s,(hL _ h1).1,(hL _ h1).2,h2,h3,h4⟩
theorem freeM_lt {c:Nat} {fs:List FileD} {i:Nat} (h:i∈St.freeM c fs):i<c:=by
 unfold St.freeM St.freeP at h
 exact List.mem_range.1 (List.mem_filter.1 h).1
theorem NextIs.bodies (h:NextIs X l m) {f:FileD} (hf:f∈m.files):St.pages (bodyC X.C f.name).length≤f.blocks.length:=by
 rcases h.file hf with ⟨-,h1,-⟩|⟨s,-,h1,-,h3,-⟩
 ·have:bodyC X.C f.name=[]:=by
   unfold szC at h1
   unfold bodyC
   split at h1
   ·cases h1
   ·rename_i hn
    cases hC:X.C f.name with
    |none=>rfl
    |some z=>
     cases z with
     |none=>rfl
     |some b=>exact absurd hC (hn b)
  rw[this]
  exact Nat.zero_le _
 ·have:(bodyC X.C f.name).length=s:=by
   unfold szC at h1
   unfold bodyC
   split at h1
   ·rename_i b hb
    rw[hb]
    injection h1
   ·cases h1
  rw[this,h3]
  exact Nat.le_refl _
theorem NextIs.onDisk (h:NextIs X l m) (hd:St.OnDisk X.S.stored.length X.m.files):St.OnDisk X.S.stored.length m.files:=fun z hz=>by
 unfold allBlocks at hz
 obtain ⟨f,hf,hz⟩:=List.mem_flatMap.1 hz
 rcases h.file hf with ⟨-,-,h1⟩|⟨s,-,-,-,-,h3⟩
 ·exact hd z (by unfold allBlocks;exact List.mem_flatMap.2 ⟨f,h1,hz⟩)
 ·obtain ⟨i,hi,e⟩:=h3 z hz
  have:=freeM_lt hi
  omega
end
end Go.Proofs.YtiocpefgccndbaaGreat
end
section
namespace Go.Proofs.YtiocpefgccndbaaGreat
open Go.RowKit Me Mf Rw Ds Go.Maps
def pgW (id:Nat) (bl:List Int) (b:List UInt8) (k:Nat):List WD:=(List.range k).map fun i=>⟨(bl.getD i 0).toNat,pgB id b i⟩
theorem pgW_succ (id:Nat) (bl:List Int) (b:List UInt8) (k:Nat):pgW id bl b (k+1)=pgW id bl b k++[⟨(bl.getD k 0).toNat,pgB id b k⟩]:=by simp[pgW,List.range_succ]
theorem ptD_cases (S:Dsk) (id:Nat) (bl:List Int) (b:List UInt8):∀k,∃j,j≤k∧(ptD S id bl b k).1.pend=S.pend++pgW id bl b j∧((ptD S id bl b k).2=0→j=k)
 |0=>⟨0,Nat.le_refl _,by simp[ptD,pgW],fun _=>rfl⟩
 |k+1=>by
  obtain ⟨j,hj,h2,h3⟩:=ptD_cases S id bl b k
  rw[ptD]
  split
  ·rename_i hz
   have hjk:=h3 hz
   subst hjk
   rcases writeD_cases (ptD S id bl b j).1 (bl.getD j 0) (pgB id b j) with ⟨q0,q1,q2,-⟩|⟨q0,q1,q2⟩
   ·exact ⟨j+1,Nat.le_refl _,by rw[q2,h2,pgW_succ,List.append_assoc],fun _=>rfl⟩
   ·exact ⟨j,by omega,q2.trans h2,fun h=>absurd h q0⟩
  ·rename_i hz
   exact ⟨j,by omega,h2,fun h=>absurd h hz⟩
def filW (C:Chg) (f:FileD):List WD:=pgW f.id f.blocks (bodyC C f.name) (St.pages (bodyC C f.name).length)
def allW (C:Chg) (l:List FileD):List WD:=l.flatMap (filW C)
theorem pgW_take {id:Nat} {bl:List Int} {b:List UInt8} {j k:Nat} (h:j≤k):pgW id bl b j=(pgW id bl b k).take j:=by
 unfold pgW
 rw[←List.map_take,List.take_range,Nat.min_eq_left h]
theorem putsD_cases (C:Chg):∀(l:List FileD) (S:Dsk),∃ws,ws <+: allW C l∧(putsD C S l).1.pend=S.pend++ws∧((putsD C S l).2=0→ws=allW C l)
 |[],S=>⟨[],List.prefix_refl _,by simp[putsD],fun _=>rfl⟩
 |f::l,S=>by
  obtain ⟨j,hj,h2,h3⟩:=ptD_cases S f.id f.blocks (bodyC C f.name) (St.pages (bodyC C f.name).length)
  rw[putsD]
  have hcons:allW C (f::l)=filW C f++allW C l:=rfl
  split
  ·rename_i hz
   obtain ⟨ws,q1,q2,q3⟩:=putsD_cases C l (putP S f (bodyC C f.name)).1
   have e:=h3 hz
   subst e
   refine ⟨filW C f++ws,?_,?_,fun h=>by rw[hcons,q3 h]⟩
   ·rw[hcons]
    exact (List.prefix_append_right_inj _).2 q1
   ·rw[q2]
    show (ptD S f.id f.blocks (bodyC C f.name) _).1.pend++ws=_
    rw[h2,List.append_assoc]
    rfl
  ·rename_i hz
   refine ⟨pgW f.id f.blocks (bodyC C f.name) j,?_,h2,fun h=>absurd h hz⟩
   rw[hcons]
   refine List.IsPrefix.trans ?_ (List.prefix_append _ _)
   rw[pgW_take hj]
   exact List.take_prefix _ _
def FileIs (st:List (List UInt8)) (f:FileD) (b:List UInt8):Prop:=f.size=(b.length:Int)∧f.blocks.length=St.pages b.length∧∀k,k<St.pages b.length→st.getD (f.blocks.getD k 0).toNat []=pgB f.id b k
theorem readGo_is {S:Dsk} {f:FileD} {b:List UInt8} (hsz:f.size=(b.length:Int)) (hrd:∀k,k<St.pages b.length→readD S (f.blocks.getD k 0)=pgB f.id b k) (hl:f.blocks.length=St.pages b.length) :
 ∀(n k:Nat),n+k=St.pages b.length→readGo S f.id f.size (f.blocks.drop k) k (b.take (112*k))=(b,0)
 |0,k,h=>by
  rw[List.drop_of_length_le (by omega),readGo,List.take_of_length_le (by unfold St.pages at h;omega)]
 |n+1,k,h=>by
  have hk:k<f.blocks.length:=by omega
  have hkb:112*k<b.length:=by unfold St.pages at h;omega
  have hc:(chP b k).length≤112:=by rw[chP_length];unfold chLen;omega
  have e1:f.blocks[k]=f.blocks.getD k 0:=by rw[List.getD_eq_getElem?_getD,List.getElem?_eq_getElem hk];rfl
  rw[List.drop_eq_getElem_cons hk,readGo,e1,hrd k (by omega)]
  have e2:Pg.getP (pgB f.id b k) (rg f.id) (rg k)=(chP b k,0):=Pg.getP_enc hc
  rw[e2]
  have e3:b.take (112*k)++chP b k=b.take (112*(k+1)):=by
   unfold chP
   rw[Nat.mul_succ,List.take_add]
  rw[if_neg,e3]
  ·exact readGo_is hsz hrd hl n (k+1) (by omega)
  ·simp only[ne_eq,not_true,false_or,Decidable.not_not]
   rw[hsz,chP_length,List.length_take]
   unfold chLen
   omega
theorem readF_is {S:Dsk} (hon:S.on=true) (hp:S.pend=[]) {f:FileD} {b:List UInt8} (h:FileIs S.stored f b) (hb:∀z∈f.blocks,0≤z∧z<(S.stored.length:Int)):readF S f=(b,0):=by
 obtain ⟨h1,h2,h3⟩:=h
 have hrd:∀k,k<St.pages b.length→readD S (f.blocks.getD k 0)=pgB f.id b k:=fun k hk=>by
  have hm:f.blocks.getD k 0∈f.blocks:=by
   rw[List.getD_eq_getElem?_getD,List.getElem?_eq_getElem (show k<f.blocks.length by omega)]
   exact List.getElem_mem _
  obtain ⟨q1,q2⟩:=hb _ hm
  obtain ⟨n,hn⟩:∃n:Nat,f.blocks.getD k 0=(n:Int):=⟨(f.blocks.getD k 0).toNat,by omega⟩
  have h4:=h3 k hk
  rw[hn,Int.toNat_natCast] at h4
  unfold readD readE
  rw[hn,hon,if_pos rfl,hasB_nat,decide_eq_true (by omega),if_pos rfl,if_pos rfl,Int.toNat_natCast]
  unfold latestD
  rw[hp]
  exact h4
 exact readGo_is h1 hrd h2 (St.pages b.length) 0 (by omega)
def Holds (st:List (List UInt8)) (fs:List FileD) (F:List UInt8→List UInt8):Prop:=∀f∈fs,FileIs st f (F f.name)
theorem FileIs.keep {st st':List (List UInt8)} {f:FileD} {b:List UInt8} (h:FileIs st f b) (hk:∀z∈f.blocks,st'.getD z.toNat []=st.getD z.toNat []):FileIs st' f b:=by
 obtain ⟨h1,h2,h3⟩:=h
 refine ⟨h1,h2,fun k hk'=>?_⟩
 rw[hk,h3 k hk']
 rw[List.getD_eq_getElem?_getD,List.getElem?_eq_getElem (show k<f.blocks.length by omega)]
 exact List.getElem_mem _
def newF (C:Chg) (F:List UInt8→List UInt8) (x:List UInt8):List UInt8:=match C x with
 |some (some b)=>b
 |_=>F x
theorem lastW_mem2:∀{l:List WD} {x:WD} (b:List UInt8),(l.map (·.i)).Nodup→x∈l→lastW l x.i b=x.b
 |y::l,x,b,hn,hx=>by
  rw[List.map_cons,List.nodup_cons] at hn
  rw[lastW]
  rcases List.mem_cons.1 hx with rfl|hx
  ·rw[if_pos rfl]
   have:∀(l:List WD) (i:Nat) (b:List UInt8),i∉l.map (·.i)→lastW l i b=b:=by
    intro l
    induction l with
    |nil=>intro i b _;rfl
    |cons z l ih=>
     intro i b h
     rw[List.map_cons,List.mem_cons,not_or] at h
     rw[lastW,if_neg (fun e=>h.1 e.symm)]
     exact ih i b h.2
   exact this l x.i x.b hn.1
  ·exact lastW_mem2 _ hn.2 hx
theorem pgW_is {id:Nat} {bl:List Int} {b:List UInt8}:∀{p:Nat},p≤bl.length→(pgW id bl b p).map (·.i)=(bl.take p).map Int.toNat
 |0,_=>rfl
 |p+1,h=>by
  rw[pgW_succ,List.map_append,pgW_is (p:=p) (by omega),List.take_add_one,List.map_append]
  congr 1
  rw[List.getD_eq_getElem?_getD,List.getElem?_eq_getElem (show p<bl.length by omega)]
  rfl
theorem allW_is {C:Chg}:∀{l:List FileD},(∀f∈l,St.pages (bodyC C f.name).length≤f.blocks.length)→List.Sublist ((allW C l).map (·.i)) ((allBlocks l).map Int.toNat)
 |[],_=>List.Sublist.refl _
 |f::l,h=>by
  have h1:=allW_is (C:=C) (l:=l) fun g hg=>h g (by simp[hg])
  have e1:allW C (f::l)=filW C f++allW C l:=rfl
  have e2:allBlocks (f::l)=f.blocks++allBlocks l:=by unfold allBlocks;rfl
  rw[e1,e2,List.map_append,List.map_append]
  refine List.Sublist.append ?_ h1
  unfold filW
  rw[pgW_is (h f (by simp))]
  exact (List.take_sublist _ _).map _
theorem allW_nodup {C:Chg} {l:List FileD} (hb:BlocksOk l) (h:∀f∈l,St.pages (bodyC C f.name).length≤f.blocks.length):((allW C l).map (·.i)).Nodup:=by
 refine List.Nodup.sublist (allW_is h) ?_
 rw[List.nodup_iff_pairwise_ne,List.pairwise_map]
 refine (List.nodup_iff_pairwise_ne.1 hb.2).imp_of_mem fun ha hb' hne e=>hne ?_
 have:∀z∈allBlocks l,32≤z:=fun z hz=>by
  unfold allBlocks at hz
  obtain ⟨f,hf,hz⟩:=List.mem_flatMap.1 hz
  exact ((hb.1 f hf).2.2 z hz).1
 have h1:=this _ ha
 have h2:=this _ hb'
 omega
theorem allW_mem {C:Chg} {l:List FileD} {x:WD} (h:x∈allW C l):∃f∈l,∃k,k<St.pages (bodyC C f.name).length∧x=⟨(f.blocks.getD k 0).toNat,pgB f.id (bodyC C f.name) k⟩:=by
 obtain ⟨f,hf,hx⟩:=List.mem_flatMap.1 h
 obtain ⟨k,hk,rfl⟩:=List.mem_map.1 hx
 exact ⟨f,hf,k,List.mem_range.1 hk,rfl⟩
theorem allW_get {C:Chg} {l:List FileD} {f:FileD} (hf:f∈l) {k:Nat} (hk:k<St.pages (bodyC C f.name).length):(⟨(f.blocks.getD k 0).toNat,pgB f.id (bodyC C f.name) k⟩:WD)∈allW C l:=
 List.mem_flatMap.2 ⟨f,hf,List.mem_map.2 ⟨k,List.mem_range.2 hk,rfl⟩⟩
theorem getD_mem {bl:List Int} {k:Nat} (h:k<bl.length):bl.getD k 0∈bl:=by
 rw[List.getD_eq_getElem?_getD,List.getElem?_eq_getElem h]
 exact List.getElem_mem _
theorem freeM_at {c:Nat} {fs:List FileD} {i:Nat} (h:i∈St.freeM c fs):i<c∧32≤i∧(i:Int)∉allBlocks fs:=by
 unfold St.freeM St.freeP at h
 obtain ⟨h1,h2⟩:=List.mem_filter.1 h
 have h1:=List.mem_range.1 h1
 unfold St.takenP at h2
 simp at h2
 exact ⟨h1,h2.1,h2.2⟩
section
variable {X:Sto} {l:List (List UInt8)} {m:ManD} {F:List UInt8→List UInt8}
theorem szC_some {x:List UInt8} {s:Nat} (h:szC X x=some s):∃b,X.C x=some (some b)∧b.length=s:=by
 unfold szC at h
 split at h
 ·rename_i b hb
  injection h with h
  exact ⟨b,hb,h⟩
 ·cases h
theorem szC_none {x:List UInt8} (h:szC X x=none):bodyC X.C x=[]∧newF X.C F x=F x:=by
 unfold szC at h
 unfold bodyC newF
 split at h
 ·cases h
 ·rename_i hn
  cases hC:X.C x with
  |none=>exact ⟨rfl,rfl⟩
  |some z=>
   cases z with
   |none=>exact ⟨rfl,rfl⟩
   |some b=>exact absurd hC (hn b)
theorem NextIs.writes (h:NextIs X l m) {x:WD} (hx:x∈allW X.C m.files):x.b.length=128∧x.i<X.S.stored.length∧32≤x.i∧∀z∈allBlocks X.m.files,z.toNat≠x.i:=by
 obtain ⟨f,hf,k,hk,rfl⟩:=allW_mem hx
 refine ⟨pgB_length _ _ _,?_⟩
 have hpl:=h.bodies hf
 rcases h.file hf with ⟨-,h1,-⟩|⟨s,-,h1,-,h3,h4⟩
 ·rw[(szC_none (F:=fun _=>[]) h1).1] at hk
  exact absurd hk (by show ¬k<St.pages 0;unfold St.pages;omega)
 ·obtain ⟨i,hi,e⟩:=h4 _ (getD_mem (show k<f.blocks.length by omega))
  obtain ⟨q1,q2,q3⟩:=freeM_at hi
  show (f.blocks.getD k 0).toNat<_∧32≤(f.blocks.getD k 0).toNat∧_
  rw[e,Int.toNat_natCast]
  refine ⟨q1,q2,fun z hz e2=>q3 ?_⟩
  have e2:z.toNat=i:=e2
  obtain rfl:z=(i:Int):=by omega
  exact hz
structure Paged (X:Sto) (m:ManD) (F:List UInt8→List UInt8) (S:Dsk):Prop where
 calm:Calm S
 on:S.on=true
 size:S.stored.length=X.S.stored.length
 slots:∀j,j<32→S.stored.getD j []=X.S.stored.getD j []
 old:Holds S.stored X.m.files F
 new:Holds S.stored m.files (newF X.C F)
theorem paged (h:NextIs X l m) (hc:Calm X.S) (hok:OkS X) (hH:Holds X.S.stored X.m.files F) {S:Dsk} (hst:S.stored=Ds.settle ones 0 0 (allW X.C m.files) X.S.stored) (hp:S.pend=[]) (hon:S.on=true):Paged X m F S:=by
 have hw:=fun x hx=>h.writes (x:=x) hx
 have hsz:S.stored.length=X.S.stored.length:=by rw[hst,settle_length]
 have hother:∀j,(∀x∈allW X.C m.files,x.i≠j)→S.stored.getD j []=X.S.stored.getD j []:=fun j hj=>by rw[hst,settle_other _ _ _ _ _ _ hj]
 have hold:∀z∈allBlocks X.m.files,S.stored.getD z.toNat []=X.S.stored.getD z.toNat []:=fun z hz=>hother _ fun x hx e=>(hw x hx).2.2.2 z hz e.symm
 have hnd:=allW_nodup (C:=X.C) h.2.2.1.2.2 fun f hf=>h.bodies hf
 refine ⟨⟨hp,?_,by rw[hsz];exact hc.size⟩,hon,hsz,fun j hj=>hother j fun x hx e=>by have:=(hw x hx).2.2.1;omega,?_,?_⟩
 ·rw[hst]
  exact settle_all _ _ _ _ _ (fun x hx=>⟨(hw x hx).1,(hw x hx).2.1⟩) hc.all
 ·intro f hf
  exact (hH f hf).keep fun z hz=>hold z (by unfold allBlocks;exact List.mem_flatMap.2 ⟨f,hf,hz⟩)
 ·intro f hf
  rcases h.file hf with ⟨-,h1,h2⟩|⟨s,-,h1,h2,h3,h4⟩
  ·rw[(szC_none h1).2]
   exact (hH f h2).keep fun z hz=>hold z (by unfold allBlocks;exact List.mem_flatMap.2 ⟨f,h2,hz⟩)
  ·obtain ⟨b,hb,hl⟩:=szC_some h1
   have e1:newF X.C F f.name=b:=by unfold newF;rw[hb]
   have e2:bodyC X.C f.name=b:=by unfold bodyC;rw[hb];rfl
   rw[e1]
   refine ⟨by rw[h2,hl],by rw[h3,hl],fun k hk=>?_⟩
   have hmem:=allW_get (C:=X.C) hf (k:=k) (by rw[e2];exact hk)
   have:=hw _ hmem
   rw[hst,settle_ones _ _ _ _ this.2.1 (fun x hx=>(hw x hx).1) hc.all,lastW_mem2 _ hnd hmem,e2]
theorem putD_cases (h:NextIs X l m) (hc:Calm X.S) (hok:OkS X) (hH:Holds X.S.stored X.m.files F) :
 ((putD X m).2≠0∧(putD X m).1.stored=X.S.stored∧∀x∈(putD X m).1.pend,x.b.length=128∧x.i<X.S.stored.length∧32≤x.i∧∀z∈allBlocks X.m.files,z.toNat≠x.i) ∨
 ∃S,Paged X m F S∧putD X m=wmD S m 2:=by
 obtain ⟨ws,h1,h2,h3⟩:=putsD_cases X.C m.files X.S
 rw[hc.pend,List.nil_append] at h2
 have hs:=putsD_size X.C m.files X.S
 have hin:∀x∈ws,x∈allW X.C m.files:=fun x hx=>h1.subset hx
 unfold putD
 split
 ·rename_i hz
  rcases syncD_cases (putsD X.C X.S m.files).1 with ⟨q0,q1,q2,q3⟩|⟨q0,q1,q2⟩
  ·rw[if_pos q0]
   refine .inr ⟨_,paged h hc hok hH ?_ q2 q3,rfl⟩
   rw[q1,h2,h3 hz,hs]
  ·rw[if_neg q0]
   exact .inl ⟨q0,by rw[q1,hs],fun x hx=>h.writes (hin x (by rw[q2,h2] at hx;exact hx))⟩
 ·rename_i hz
  exact .inl ⟨hz,hs,fun x hx=>h.writes (hin x (by rw[h2] at hx;exact hx))⟩
end
end Go.Proofs.YtiocpefgccndbaaGreat
end
section
namespace Go.Proofs.YtiocpefgccndbaaGreat
open Go.RowKit Me Mf Rw Ds Va Go.Maps
section
variable {w w':World} {B P D M N:Nat} {X:Sto} {own ownD T:Nat→Prop}
theorem str_keys {H:Type} {w:World} {R:Value→Option (DataW H×List MemPlace)} {b n:Nat} {D:DataW H} (h:w.ownsMap Tryz.prog 9 R b n D):∃es,D=.map es∧∀q∈es,∃x:List UInt8,q.1=Key x:=by
 obtain ⟨es,e,h1,-⟩:=h.entries law_str
 refine ⟨es,e,fun q hq=>?_⟩
 obtain ⟨es0,clock,hb,F,hs,e0⟩:=h
 rw[e] at e0
 injection e0 with e0
 rw[e0] at hq
 obtain ⟨v,hv⟩:=Maps.fit_keys F q (mem_sorted.1 hq)
 obtain ⟨x,-,hx,-⟩:=str_inv hv
 exact ⟨x,hx⟩
theorem Chs.zero {C:Chg} {DD:DataW Value} (h:Chs w T M N C DD):Maps.size DD=0↔∀x,C x=none:=by
 obtain ⟨es,rfl,hk⟩:=str_keys h.map
 constructor
 ·intro e x
  rw[h.no x]
  have:es=[]:=List.length_eq_zero_iff.1 e
  rw[this]
  rfl
 ·intro hn
  show es.length=0
  rw[List.length_eq_zero_iff]
  apply List.eq_nil_iff_forall_not_mem.2
  intro q hq
  obtain ⟨x,hx⟩:=hk q hq
  have h1:=(h.no x).1 (hn x)
  rw[Maps.has_eq,List.any_eq_false] at h1
  exact h1 q hq (by rw[hx];exact WideAt.sameKey_self (key_is x))
theorem StoreAt.box (h:StoreAt w B P D M N X own ownD) (ho:Out (fun k=>k=P) w w') {X':Sto} {A:Option Addr} {n c:Nat} (hb:Blk w' P [.pointer (some ⟨D,0,none⟩),.int .u64 (X'.m.version:Int),.int .u32 (X'.m.next:Int),.slice A n c,.map (some M),.bool X'.broken])
 (hm:ManK own A n c X'.m w') (hS:X'.S=X.S) (hC:X'.C=X.C) (hok:OkS X'):StoreAt w' B P D M N X' own ownD:=by
 obtain ⟨DD,hc⟩:=h.chs
 have hPM:M≠P:=fun e=>by
  obtain ⟨A,n,c,⟨t,hb⟩,-⟩:=h.blk
  obtain ⟨es,clock,hm,-⟩:=hc.map
  rw[←e,hm] at hb
  cases hb
 have hoo:Out own w w':=ho.more fun k _ e=>by rw[e];exact h.own P (.inl rfl)
 have hsz:=ho.size
 exact {
  blk:=⟨A,n,c,hb,hm⟩
  disk:=by rw[hS];exact h.disk.out ho fun k hk e=>h.dP (by rw[←e];exact hk)
  chs:=by
   rw[hC]
   refine ⟨DD,?_,hc.no,fun x z hz=>?_⟩
   ·obtain ⟨es,clock,q1,q2⟩:=hc.map
    exact ⟨es,clock,(ho.block M hc.lt hPM).trans q1,q2⟩
   ·obtain ⟨A,k,c,q1,q2,q3,q4,q5⟩:=hc.is x z hz
    exact ⟨A,k,c,q1,q2,q3,q4,q5.out hoo⟩
  dP:=h.dP
  dM:=h.dM
  own:=h.own
  low:=fun k hk=>⟨(h.low k hk).1,Nat.lt_of_lt_of_le (h.low k hk).2 hsz⟩
  lP:=h.lP
  lM:=h.lM
  ok:=hok}
def CmtIs (X X':Sto) (r:Int):Prop:=
 (upD X=false∧X'=X∧r=6) ∨
 (upD X=true∧(∀x,X.C x=none)∧X'=X∧r=0) ∨
 (upD X=true∧(¬∀x,X.C x=none)∧∃l,IsNames X l∧(((∀m,¬NextIs X l m)∧X'=X∧r=7) ∨
   ∃m,NextIs X l m∧(((putD X m).2≠0∧X'={X with S:=(putD X m).1,broken:=true}∧r=(putD X m).2)∨((putD X m).2=0∧X'=⟨(putD X m).1,m,noC,X.broken⟩∧r=0))))
set_option maxRecDepth 100000 in
set_option maxHeartbeats 4000000 in
theorem scommit_any (h:StoreAt w B P D M N X own ownD) (hN:N≤1000) (hp:X.S.pend.length+4096≤1073741824) :
 Calls Tryz.prog 36 #[.pointer (some ⟨P,0,none⟩)] w fun e w'=>∃X' r,e=.returned (.int .i64 r)∧CmtIs X X' r∧WPost w B P D M N X' own ownD w':=by
 have HU:=Lib.hid (up_any h)
 obtain ⟨u,hu⟩:∃u,u=upD X:=⟨_,rfl⟩
 rw[←hu] at HU
 have HUU:=Lib.hid hu
 obtain ⟨A0,n0,c0',hbk,-⟩:=h.blk
 obtain ⟨c0,c1,c2,c3,c4,c5⟩:=hbk.six
 obtain ⟨DD,hc⟩:=h.chs
 have HC:=Lib.hid hc.map
 have HZ:=Lib.hid hc.zero
 have HNX:=Lib.hid (snext_any h hN)
 have HH:=Lib.hid h
 clear h hu hbk hc
 cases u with
 |false=>
  go_enter Tryz.func36,Tryz.ntmps36
  go_wp2_with (go_at_call 59;refine HU.out.mono ?_;rintro e w' ⟨rfl,rfl⟩)
  go_ret
  exact ⟨X,6,rfl,.inl ⟨HUU.out.symm,rfl,rfl⟩,own,ownD,HH.out,.below (Below.refl _ _)⟩
 |true=>
  obtain ⟨z,hz⟩:∃z,z=Maps.size DD:=⟨_,rfl⟩
  rw[←hz] at HZ
  have hlen:=HC.out.len Tryz.underlying89 3
  rw[←hz] at hlen
  clear hz
  by_cases hz0:z=0
  ·subst hz0
   have HZ1:=Lib.hid (HZ.out.1 rfl)
   go_enter Tryz.func36,Tryz.ntmps36
   go_wp2_with (go_at_call 59;refine HU.out.mono ?_;rintro e w' ⟨rfl,rfl⟩)
   go_ret
   exact ⟨X,0,rfl,.inr (.inl ⟨HUU.out.symm,HZ1.out,rfl,rfl⟩),own,ownD,HH.out,.below (Below.refl _ _)⟩
  ·have HZ1:=Lib.hid (show ¬∀x,X.C x=none from fun hn=>hz0 (HZ.out.2 hn))
   have hzi:((z:Int)==0)=false:=by rw[beq_eq_false_iff_ne];omega
   go_enter Tryz.func36,Tryz.ntmps36
   go_wp2_with (go_at_call 59;refine HU.out.mono ?_;rintro e w' ⟨rfl,rfl⟩)
   refine HNX.out.mono ?_
   rintro e w1 ⟨hb1,l,hnl,hll,⟨m,A,n,c,hni,rfl,hm⟩|⟨hno,rfl⟩⟩
   ·have hlt1:=hb1.size
    obtain ⟨ver,hver⟩:∃ver,ver=m.version:=⟨_,rfl⟩
    obtain ⟨nx,hnx⟩:∃nx,nx=m.next:=⟨_,rfl⟩
    obtain ⟨w2,hw2⟩:∃w2,w2=w1.alloc (.cells #[.int .u64 (ver:Int),.int .u32 (nx:Int),.slice A n c] 38):=⟨_,rfl⟩
    obtain ⟨G,hG⟩:∃G,G=w1.heap.size:=⟨_,rfl⟩
    have hb12:Below w1.heap.size w1 w2:=by rw[hw2];exact (Below.refl _ _).alloc (Nat.le_refl _) _
    have hb2:Below w.heap.size w w2:=by rw[hw2];exact hb1.alloc hb1.size _
    have HBX:=Lib.hid (show Blk w2 G [.int .u64 (ver:Int),.int .u32 (nx:Int),.slice A n c] by rw[hw2,hG];exact Blk.new w1 [.int .u64 (ver:Int),.int .u32 (nx:Int),.slice A n c] _)
    have HM2:=Lib.hid (hm.past hb12)
    have HH2:=Lib.hid (HH.out.past hb2)
    have HPU:=Lib.hid (sput_any HH2.out m A n c HM2.out hni.2.2 (fun f hf=>hni.bodies hf) hp)
    have HNI:=Lib.hid hni
    have HNL:=Lib.hid hnl
    have HB2:=Lib.hid hb2
    have HW2:=Lib.hid hw2
    have HGG:=Lib.hid hG
    have HGW:=Lib.hid (show w.heap.size≤G by rw[hG];exact hb1.size)
    have HOK:=Lib.hid (show OkS ⟨(putD X m).1,m,noC,X.broken⟩ from ⟨hni.2.2,hm.now.wf,by show St.OnDisk (putD X m).1.stored.length _;rw[putD_size];exact hni.onDisk HH.out.ok.disk,by show 32<(putD X m).1.stored.length;rw[putD_size];exact HH.out.ok.big,fun x hx=>absurd rfl hx,fun x b hx=>by cases hx⟩)
    rw[←hver,←hnx] at HPU
    rw[←hver,←hnx]
    have HVN:=Lib.hid (And.intro hver hnx)
    clear hb1 hnl hll hni hm hlt1 hb12 hb2 hw2 hG c0 c1 c2 c3 c4 c5 hver hnx hlen HNX HU
    go_wp2_with fail
    rw[←HW2.out]
    refine HPU.out.mono ?_
    rintro e w3 ⟨rfl,hpost⟩
    rw[←HGG.out]
    obtain ⟨r,hr⟩:∃r,r=(putD X m).2:=⟨_,rfl⟩
    rw[←hr]
    have HRR:=Lib.hid hr
    obtain ⟨own3,ownD3,hs3,hf3⟩:=hpost
    have ho3:=HH2.out.foot hf3.1
    have hn3:=hf3.2.1
    obtain ⟨As,ns,cs,hbk,hmo⟩:=hs3.blk
    obtain ⟨d0,d1,d2,d3,d4,d5⟩:=hbk.six
    have g0:=hbk.frozen 0
    have g1:=hbk.frozen 1
    have g2:=hbk.frozen 2
    have g3:=hbk.frozen 3
    have g5:=hbk.frozen 5
    have HBK3:=Lib.hid hbk
    have HM3:=Lib.hid (HM2.out.next ho3 hn3)
    have HMO:=Lib.hid hmo
    have HS3:=Lib.hid hs3
    have HO3:=Lib.hid hf3
    have hbx:=HBX.out.out ho3 fun h=>by have:=(HH.out.lt h).2;have:=HGW.out;omega
    have b0:=hbx.cell (i:=0) rfl
    have b1:=hbx.cell (i:=1) rfl
    have b2:=hbx.cell (i:=2) rfl
    clear hr hs3 hf3 ho3 hn3 hbk hmo hbx HPU
    by_cases hr0:r=0
    ·subst hr0
     have hok4:OkS ⟨(putD X m).1,m,X.C,X.broken⟩:={HOK.out with keys:=HH.out.ok.keys,len:=HH.out.ok.len}
     have ho4:Out (fun k=>k=P) w3 (((w3.setCell ⟨P,1,none⟩ (.int .u64 (ver:Int))).setCell ⟨P,2,none⟩ (.int .u32 (nx:Int))).setCell ⟨P,3,none⟩ (.slice A n c)):=
      (((Out.refl (fun k=>k=P) w3).setCell (p:=⟨P,1,none⟩) (.inl rfl) _).setCell (p:=⟨P,2,none⟩) (.inl rfl) _).setCell (p:=⟨P,3,none⟩) (.inl rfl) _
     have hP3:own3 P:=HS3.out.own P (.inl rfl)
     have ho4':=ho4.more (S':=own3) fun k _ e=>by rw[e];exact hP3
     have hs4:=HS3.out.box (X':=⟨(putD X m).1,m,X.C,X.broken⟩) ho4 (A:=A) (n:=n) (c:=c) (by
      have:=((HBK3.out.set 1 (.int .u64 (ver:Int))).set 2 (.int .u32 (nx:Int))).set 3 (.slice A n c)
      rw[HVN.out.1,HVN.out.2] at this ⊢
      exact this) (HM3.out.out ho4') rfl rfl hok4
     obtain ⟨DD4,hc4⟩:=hs4.chs
     have HC4:=Lib.hid hc4.map
     have HS4:=Lib.hid hs4
     have HO4:=Lib.hid (ho4.more (S':=Foot P M ownD3) fun k _ e=>.inl e)
     clear hok4 ho4 ho4' hs4 hc4
     go_wp2_with (refine wpList_clear_own _ rfl _ _ rfl 9 121 Tryz.underlying89 chE M N DD4 rfl HC4.out ?_;intro w5 hw5 hg5;have HW5:=Lib.hid hw5;have HG5:=Lib.hid hg5;clear hw5 hg5)
     go_ret
     have hs5:=HS4.out.changed HG5.out (Chs.clear HW5.out) (fun x hx=>absurd rfl hx) (fun x b hx=>by cases hx)
     exact ⟨⟨(putD X m).1,m,noC,X.broken⟩,0,rfl,.inr (.inr ⟨HUU.out.symm,HZ1.out,l,HNL.out,.inr ⟨m,HNI.out,.inr ⟨HRR.out.symm,rfl,rfl⟩⟩⟩),own3,ownD3,hs5,(((Fol.below HB2.out).trans HO3.out).trans (.foot HO4.out)).trans (.foot (HS4.out.map_out HG5.out))⟩
    ·have hd1:(r != 0)=true:=by rw[bne_iff_ne];exact hr0
     go_wp2_with fail
     go_ret
     have ho4:Out (fun k=>k=P) w3 (w3.setCell ⟨P,5,none⟩ (.bool true)):=(Out.refl (fun k=>k=P) w3).setCell (p:=⟨P,5,none⟩) (.inl rfl) _
     have hP3:own3 P:=HS3.out.own P (.inl rfl)
     have ho4':=ho4.more (S':=own3) fun k _ e=>by rw[e];exact hP3
     have hs4:=HS3.out.box (X':=⟨(putD X m).1,X.m,X.C,true⟩) ho4 (A:=As) (n:=ns) (c:=cs) (HBK3.out.set 5 (.bool true)) (HMO.out.out ho4') rfl rfl {HS3.out.ok with}
     exact ⟨⟨(putD X m).1,X.m,X.C,true⟩,r,rfl,.inr (.inr ⟨HUU.out.symm,HZ1.out,l,HNL.out,.inr ⟨m,HNI.out,.inl ⟨by rw[←HRR.out];exact hr0,rfl,HRR.out⟩⟩⟩),own3,ownD3,hs4,((Fol.below HB2.out).trans HO3.out).trans (.foot (ho4.more (S':=Foot P M ownD3) fun k _ e=>.inl e))⟩
   ·have HB1:=Lib.hid hb1
    have HNL:=Lib.hid hnl
    have HNO:=Lib.hid hno
    clear hb1 hnl hll hno
    go_wp2_with fail
    go_ret
    have hb2:=HB1.out
    refine ⟨X,7,rfl,.inr (.inr ⟨HUU.out.symm,HZ1.out,l,HNL.out,.inl ⟨HNO.out,rfl,rfl⟩⟩),own,ownD,HH.out.past ?_,.below ?_⟩
    all_goals exact HB1.out.alloc HB1.out.size _
end
end Go.Proofs.YtiocpefgccndbaaGreat
end
section
namespace Go.Proofs.YtiocpefgccndbaaGreat
open Go.RowKit Me Mf Rw Ds Va Go.Maps
section
variable {w w':World} {B P D M N:Nat} {X:Sto} {own ownD T:Nat→Prop}
def OpPost (w:World) (B D:Nat) (S:Dsk) (m:ManD) (own ownD:Nat→Prop) (e:Ending) (w':World):Prop:=
 let q:=if m.version=0 then (S,0) else wmD S m 2
 (q.2≠0∧e=.returned (.tuple #[.pointer none,.int .i64 q.2])∧DPost w B D q.1 ownD w') ∨
 (q.2=0∧∃P M own' ownD',e=.returned (.tuple #[.pointer (some ⟨P,0,none⟩),.int .i64 0])∧StoreAt w' B P D M 0 ⟨q.1,m,noC,false⟩ own' ownD'∧Out ownD w w'∧(∀k,own' k→own k∨w.heap.size≤k)∧(∀k,own k→own' k)∧(∀k,ownD' k→ownD k∨w.heap.size≤k)∧w.heap.size≤P∧w.heap.size≤M)
set_option maxRecDepth 100000 in
set_option maxHeartbeats 4000000 in
theorem open_good {S:Dsk} {m:ManD} (h:DiskAt w B D S ownD) (hod:∀k,ownD k→own k) (hlo:∀k,own k→B≤k∧k<w.heap.size) (hr:Calls Tryz.prog 17 #[.pointer (some ⟨D,0,none⟩)] w (RdPostK w (m,0))) (hf:Fit m) (hw:Wf m) (hd:St.OnDisk S.stored.length m.files) (hs:32<S.stored.length) (hp:S.pend.length+64≤1073741824) :
 Calls Tryz.prog 20 #[.pointer (some ⟨D,0,none⟩)] w (OpPost w B D S m own ownD):=by
 have HR:=Lib.hid hr
 have HD:=Lib.hid h
 have HF:=Lib.hid hf
 have HWF:=Lib.hid hw
 have HOD:=Lib.hid hd
 clear hr h hf hd hw
 go_enter Tryz.func20,Tryz.ntmps20
 go_wp2_with (go_at_call 17;refine HR.out.mono ?_)
 rintro e w1 ⟨hb1,A,n,c,rfl,hm⟩
 obtain ⟨G,hG⟩:∃G,G=w1.heap.size:=⟨_,rfl⟩
 obtain ⟨w2,hw2⟩:∃w2,w2=w1.alloc (.cells #[.int .u64 (m.version:Int),.int .u32 (m.next:Int),.slice A n c] 38):=⟨_,rfl⟩
 obtain ⟨w3,hw3⟩:∃w3,w3=w2.alloc (.map #[] 0):=⟨_,rfl⟩
 obtain ⟨w4,hw4⟩:∃w4,w4=w3.alloc (.cells #[.pointer (some ⟨D,0,none⟩),.int .u64 (m.version:Int),.int .u32 (m.next:Int),.slice A n c,.map (some (G+1)),.bool false] 91):=⟨_,rfl⟩
 have hs2:w2.heap.size=G+1:=by rw[hw2,hG];simp
 have hs3:w3.heap.size=G+1+1:=by rw[hw3,←hs2];simp
 have hb2:Below w1.heap.size w1 w2:=by rw[hw2];exact (Below.refl _ _).alloc (Nat.le_refl _) _
 have hb3:Below w1.heap.size w1 w3:=by rw[hw3];exact hb2.alloc hb2.size _
 have hb4:Below w1.heap.size w1 w4:=by rw[hw4];exact hb3.alloc hb3.size _
 have hB4:Below w.heap.size w w4:=hb1.trans (hb4.mono hb1.size)
 have hle:=hb1.size
 have hDl:∀{k:Nat},ownD k→B≤k∧k<w.heap.size:=fun hk=>HD.out.lt hk
 have hBw:B≤w.heap.size:=by
  obtain ⟨g,Pv,hl⟩:=HD.out
  have:=hl.blk.lt
  have:=(HD.out.lt ((hl.own D).2 (.inl rfl))).1
  omega
 have hst:StoreAt w4 B (G+1+1) D (G+1) 0 ⟨S,m,noC,false⟩ (fun k=>k=G+1+1∨k=G+1∨own k) ownD:=by
  have hnm:∀k,(k=G+1+1∨k=G+1∨own k)→k<w.heap.size∨w1.heap.size≤k:=fun k hk=>by
   rcases hk with e|e|e
   ·right;omega
   ·right;omega
   ·exact .inl (hlo _ e).2
  have hs4:w4.heap.size=G+1+1+1:=by rw[hw4,←hs3];simp
  refine ⟨⟨A,n,c,?_,hm.next (.of_below hb4) hnm⟩,HD.out.past hB4,⟨.map [],?_,?_,?_⟩,?_,?_,fun k hk=>?_,fun k hk=>?_,?_,?_,⟨HF.out,HWF.out,HOD.out,hs,fun x hx=>absurd rfl hx,fun x b hx=>by cases hx⟩⟩
  ·rw[hw4,←hs3]
   exact Blk.new w3 [.pointer (some ⟨D,0,none⟩),.int .u64 (m.version:Int),.int .u32 (m.next:Int),.slice A n c,.map (some (G+1)),.bool false] _
  ·rw[hw4,hw3]
   rw[←hs2]
   exact (World.ownsMap_made (H:=Value) w2 Tryz.prog 9 chE).alloc _
  ·intro x
   exact ⟨fun _=>rfl,fun _=>rfl⟩
  ·intro x z hz
   cases hz
  ·intro h
   have:=(hDl h).2
   omega
  ·intro h
   have:=(hDl h).2
   omega
  ·rcases hk with e|e|e
   ·omega
   ·omega
   ·have:=hlo _ e
    omega
  ·rcases hk with e|e|e
   ·exact .inl e
   ·exact .inr (.inl e)
   ·exact .inr (.inr (hod _ e))
  ·omega
  ·omega
 have HW2:=Lib.hid hw2
 have HW3:=Lib.hid hw3
 have HW4:=Lib.hid hw4
 have HGG:=Lib.hid hG
 have HST:=Lib.hid hst
 have HB4:=Lib.hid hB4
 have HBX:=Lib.hid (show Blk w4 G [.int .u64 (m.version:Int),.int .u32 (m.next:Int),.slice A n c] by
  rw[hw4,hw3,hw2,hG]
  exact (((Blk.new w1 [.int .u64 (m.version:Int),.int .u32 (m.next:Int),.slice A n c] _).alloc _).alloc _))
 have HMK:=Lib.hid (hm.next (T':=ownD) (.of_below hb4) fun k hk=>.inl (hDl hk).2)
 have HBL:=Lib.hid (blocks_any hst)
 have HLE:=Lib.hid hle
 have HOD2:=Lib.hid (And.intro hod hlo)
 have hmm:=@run_makeMap Tryz.prog
 clear hod hlo hw2 hw3 hw4 hb2 hb3 hb4 hB4 hst hb1 hm hG hs2 hs3 hle hDl HR hBw
 go_wp2_with fail
 rw[←HW2.out,←HGG.out,←HW3.out,←HW4.out]
 refine HBL.out.mono ?_
 rintro e w5 ⟨D2,own2,rfl,-,hb5⟩
 have hg5:=HBX.out.past hb5
 have b0:=hg5.cell (i:=0) rfl
 have b1:=hg5.cell (i:=1) rfl
 have b2:=hg5.cell (i:=2) rfl
 have HS5:=Lib.hid (HST.out.past hb5)
 have HB5:=Lib.hid (HB4.out.trans (hb5.mono HB4.out.size))
 have HM5:=Lib.hid (HMK.out.past hb5)
 obtain ⟨v,hv⟩:∃v,v=m.version:=⟨_,rfl⟩
 have HV:=Lib.hid hv
 rw[←hv] at b0 ⊢
 clear hg5 hb5 hv hmm
 by_cases hv0:v=0
 ·subst hv0
  go_wp2_with fail
  go_ret2
  have hv:=HV.out
  refine .inr ?_
  rw[if_pos hv.symm]
  have:=HLE.out
  have:=HGG.out
  refine ⟨rfl,_,_,_,_,rfl,HS5.out,.of_below HB5.out,fun k hk=>?_,fun k hk=>.inr (.inr hk),fun k hk=>.inl hk,by omega,by omega⟩
  rcases hk with e|e|e
  ·right;omega
  ·right;omega
  ·exact .inl e
 ·have hvi:((v:Int)==0)=false:=by rw[beq_eq_false_iff_ne];omega
  have hsm:Small m:=small_of_body (by have:=HF.out.2;omega)
  have HWR:=Lib.hid (mwrite_any HS5.out.disk A n c m HM5.out.now hsm HF.out (show S.pend.length+32≤_ by omega))
  rw[←HV.out] at HWR
  clear hsm
  go_wp2_with fail
  refine HWR.out.mono ?_
  rintro e w6 ⟨rfl,hd6⟩
  obtain ⟨r,hr⟩:∃r,r=(wmD S m 2).2:=⟨_,rfl⟩
  have HRR:=Lib.hid hr
  have HD6:=Lib.hid hd6
  rw[←hr]
  clear hr hd6 b0 b1 b2
  by_cases hr0:r=0
  ·subst hr0
   go_wp2_with fail
   go_ret2
   have hv:=HV.out
   refine .inr ?_
   rw[if_neg (by omega)]
   obtain ⟨own6,ownD6,h6,ho6,hn6,hg6,hd6⟩:=HS5.out.disked HD6.out (wmD_size S m 2)
   have hle:=HLE.out
   have hgg:=HGG.out
   have hsz:=HB5.out.size
   have hob:Out ownD w w6:=(Out.of_below HB5.out).trans' ho6 fun k hk=>by
    rcases hk with e|e|e
    ·right;omega
    ·right;omega
    ·exact .inl e
   refine ⟨HRR.out.symm,_,_,_,_,rfl,h6,hob,fun k hk=>?_,fun k hk=>hg6 k (.inr (.inr hk)),fun k hk=>(hd6 k hk).imp (fun q=>q) fun q=>by omega,by omega,by omega⟩
   rcases hn6 k hk with (e|e|e)|e
   ·right;omega
   ·right;omega
   ·exact .inl e
   ·right;omega
  ·have hd1:(r != 0)=true:=by rw[bne_iff_ne];exact hr0
   go_wp2_with fail
   go_ret2
   have hv:=HV.out
   refine .inl ?_
   rw[if_neg (by omega)]
   refine ⟨by rw[←HRR.out];exact hr0,by rw[←HRR.out];rfl,?_⟩
   obtain ⟨own6,h6,ho6,hn6⟩:=HD6.out
   exact ⟨own6,h6,(Out.of_below HB5.out).trans ho6,fun k hk=>(hn6 k hk).imp (fun q=>q) fun q=>Nat.le_trans HB5.out.size q⟩
end
end Go.Proofs.YtiocpefgccndbaaGreat
end
section
namespace Go.Proofs.YtiocpefgccndbaaGreat
open Go.RowKit Me Mf Rw Ds Go.Maps
theorem wmD_high {S:Dsk} (h:Calm S) {m:ManD} (hf:Fit m) {j:Nat} (hj:32≤j):(wmD S m 2).1.stored.getD j []=S.stored.getD j []:=by
 have hl:=slotOf_length hf
 have hsz:=h.size
 have e1:wmD S m 1=wslotD S (m.version%2) (slotOf m):=by rw[wmD,if_pos (show (wmD S m 0).2=0 from rfl)];rfl
 have ha:=wslotD_all h.pend h.all (n:=m.version%2) (by omega) hl
 rcases wslotD_cases h.pend h.all (n:=m.version%2) (by omega) hl with ⟨q0,q1,q2,q3,q4,q5⟩|⟨q0,q1,q2⟩
 ·rw[←e1] at q0 q1 q2 q3 q4 q5 ha
  have e2:wmD S m 2=wslotD (wmD S m 1).1 ((m.version+1)%2) (slotOf m):=by rw[wmD,if_pos q0]
  rcases wslotD_cases q3 ha.1 (n:=(m.version+1)%2) (by rw[q5];omega) hl with ⟨r0,r1,r2,r3,r4,r5⟩|⟨r0,r1,r2⟩
  ·rw[e2,r2 j (by omega),q2 j (by omega)]
  ·rw[e2,r1,q2 j (by omega)]
 ·rw[←e1] at q0 q1 q2
  rw[wmD_stuck q0 2 (by omega),q1]
theorem wmD_pends {S:Dsk} (h:Calm S) {m:ManD} (hf:Fit m):∀x∈(wmD S m 2).1.pend,x.i<32:=fun x hx=>by
 rcases wmD_cases h hf with ⟨-,-,q⟩|⟨-,-,-,q⟩|⟨-,-,q,-⟩
 ·have:=q x hx;omega
 ·have:=q x hx;omega
 ·rw[q.pend] at hx;cases hx
section
variable {X:Sto} {l:List (List UInt8)} {m:ManD} {F:List UInt8→List UInt8}
theorem blocks_high {m:ManD} (hf:Fit m) {f:FileD} (h:f∈m.files) {z:Int} (hz:z∈f.blocks):32≤z.toNat:=by
 have:=((hf.1.2.2.1 f h).2.2 z hz).1
 omega
theorem Holds.high {st st':List (List UInt8)} (h:Holds st m.files F) (hf:Fit m) (hk:∀j,32≤j→st'.getD j []=st.getD j []):Holds st' m.files F:=fun f hfm=>(h f hfm).keep fun _ hz=>hk _ (blocks_high hf hfm hz)
structure Rest (X:Sto) (F:List UInt8→List UInt8):Prop where
 calm:Calm X.S
 on:X.S.on=true
 fuse:X.S.fuse<0
 ok:OkS X
 live:X.broken=false
 holds:Holds X.S.stored X.m.files F
 slots:(X.m=noMan∧∀k,k<2→slotS X.S.stored k 16=blankS)∨(0<X.m.version∧∀k,k<2→slotS X.S.stored k 16=slotOf X.m)
theorem Rest.up (h:Rest X F):upD X=true:=by unfold upD;rw[h.live,h.on];rfl
theorem Rest.new {n:Nat} (hn:32<n):Rest ⟨newD n,noMan,noC,false⟩ F:=
 ⟨new_calm (by omega),rfl,by show (-1:Int)<0;omega,⟨fit_none,wf_none,fun z hz=>(by cases hz),by simpa [newD] using hn,fun x hx=>absurd rfl hx,fun x b hx=>by cases hx⟩,rfl,fun f hf=>(by cases hf),.inl ⟨rfl,fun k hk=>slotS_zero k 16 n (by omega)⟩⟩
theorem Rest.change (h:Rest X F) {C:Chg} (hok:OkS {X with C:=C}):Rest {X with C:=C} F:={h with ok:=hok}
theorem Rest.read (h:Rest X F):∃T Z,(∀k,k<2→Says (slotD X.S k 16) (T k))∧(∀k,k<2→Z k=zeros (slotD X.S k 16))∧ansD X.S T Z=(X.m,0):=by
 obtain ⟨T,Z,hT,hZ⟩:=slots_say X.S
 refine ⟨T,Z,hT,hZ,?_⟩
 have hsl:∀k,k<2→slotD X.S k 16=slotS X.S.stored k 16:=fun k hk=>slotD_stored h.on h.calm.pend h.calm.size (by omega) 16 (Nat.le_refl _)
 have hbig:=h.ok.big
 unfold ansD
 rw[if_neg (by omega),h.on]
 rcases h.slots with ⟨hm,hb⟩|⟨hv,hs⟩
 ·have hall:∀k,k<2→T k=none:=fun k hk=>by
   have:=hT k hk
   rw[hsl k hk,hb k hk] at this
   exact this.one says_blank
  have hz:blkOf Z 2=true:=by
   unfold blkOf
   rw[hZ 1 (by omega),hsl 1 (by omega),hb 1 (by omega),zeros_blank,Bool.or_true]
  rw[if_pos rfl,hz]
  unfold curOf curOf curOf
  rw[hall 0 (by omega),hall 1 (by omega),hm]
  rfl
 ·have hall:∀k,k<2→T k=some X.m:=fun k hk=>by
   have:=hT k hk
   rw[hsl k hk,hs k hk] at this
   exact this.one (says_slot h.ok.wf h.ok.fit)
  exact ans_two (.inl ⟨hall 0 (by omega),.inl (hall 1 (by omega))⟩)
theorem ptD_done {S:Dsk} {id:Nat} {bl:List Int} {b:List UInt8} (hon:S.on=true) (hf:S.fuse<0):∀k,(∀i,i<k→0≤bl.getD i 0∧bl.getD i 0<(S.stored.length:Int))→(ptD S id bl b k).2=0∧(ptD S id bl b k).1.on=true∧(ptD S id bl b k).1.fuse=S.fuse
 |0,_=>⟨rfl,hon,rfl⟩
 |k+1,h=>by
  obtain ⟨h0,h1,h2⟩:=ptD_done (id:=id) (bl:=bl) (b:=b) hon hf k fun i hi=>h i (by omega)
  obtain ⟨q1,q2⟩:=h k (by omega)
  obtain ⟨n,hn⟩:∃n:Nat,bl.getD k 0=(n:Int):=⟨(bl.getD k 0).toNat,by omega⟩
  rw[ptD,if_pos h0,hn,writeD_ok h1 (by omega) (by rw[ptD_size];omega) (pgB_length _ _ _)]
  exact ⟨rfl,h1,h2⟩
theorem putsD_done {C:Chg}:∀(l:List FileD) (S:Dsk),S.on=true→S.fuse<0→(∀f∈l,∀i,i<St.pages (bodyC C f.name).length→0≤f.blocks.getD i 0∧f.blocks.getD i 0<(S.stored.length:Int))→(putsD C S l).2=0∧(putsD C S l).1.on=true∧(putsD C S l).1.fuse=S.fuse
 |[],S,hon,_,_=>⟨rfl,hon,rfl⟩
 |f::l,S,hon,hf,h=>by
  obtain ⟨h0,h1,h2⟩:=ptD_done (id:=f.id) (bl:=f.blocks) (b:=bodyC C f.name) hon hf _ (h f (by simp))
  have e:(putP S f (bodyC C f.name)).2=0:=h0
  rw[putsD,if_pos e]
  have h1':(putP S f (bodyC C f.name)).1.on=true:=h1
  have h2':(putP S f (bodyC C f.name)).1.fuse=S.fuse:=h2
  obtain ⟨q0,q1,q2⟩:=putsD_done l (putP S f (bodyC C f.name)).1 h1' (by omega) fun g hg i hi=>by rw[putP_size];exact h g (by simp[hg]) i hi
  exact ⟨q0,q1,by rw[q2,h2']⟩
theorem Rest.commit (h:Rest X F) (hn:NextIs X l m) (hw:Wf m):(putD X m).2=0∧Rest ⟨(putD X m).1,m,noC,X.broken⟩ (newF X.C F):=by
 obtain ⟨q0,q1,q2⟩:=putsD_done (C:=X.C) m.files X.S h.on h.fuse fun f hf i hi=>by
  have hi2:i<f.blocks.length:=by have:=hn.bodies hf;omega
  have h1:=((hn.2.2.1.2.2.1 f hf).2.2 _ (getD_mem hi2)).1
  have h2:=hn.onDisk h.ok.disk _ (by unfold allBlocks;exact List.mem_flatMap.2 ⟨f,hf,getD_mem hi2⟩)
  exact ⟨by omega,h2⟩
 have hsy:(syncD (putsD X.C X.S m.files).1).2=0∧(syncD (putsD X.C X.S m.files).1).1.fuse=X.S.fuse:=by
  have hf:=h.fuse
  unfold syncD
  rw[q1,if_pos rfl,power_neg (by omega),if_pos q1]
  exact ⟨rfl,q2⟩
 obtain ⟨s0,s1,s2,s3⟩:(syncD (putsD X.C X.S m.files).1).2=0∧(syncD (putsD X.C X.S m.files).1).1.stored=Ds.settle ones 0 0 (putsD X.C X.S m.files).1.pend (putsD X.C X.S m.files).1.stored∧(syncD (putsD X.C X.S m.files).1).1.pend=[]∧(syncD (putsD X.C X.S m.files).1).1.on=true:=by
  rcases syncD_cases (putsD X.C X.S m.files).1 with q|⟨q,-⟩
  ·exact q
  ·exact absurd hsy.1 q
 obtain ⟨ws,w1,w2,w3⟩:=putsD_cases X.C m.files X.S
 rw[h.calm.pend,List.nil_append,w3 q0] at w2
 have hP:Paged X m F (syncD (putsD X.C X.S m.files).1).1:=paged hn h.calm h.ok h.holds (by rw[s1,w2,putsD_size]) s2 s3
 have e:putD X m=wmD (syncD (putsD X.C X.S m.files).1).1 m 2:=by unfold putD;rw[if_pos q0,if_pos s0]
 obtain ⟨S,hS⟩:∃S,S=(syncD (putsD X.C X.S m.files).1).1:=⟨_,rfl⟩
 rw[←hS] at hP e hsy
 have hfit:=hn.2.2
 obtain ⟨d1,d2⟩:=wmD_done hP.calm hfit hP.on (by rw[hsy.2];exact h.fuse)
 refine ⟨by rw[e];exact d1,?_⟩
 have hv:0<m.version:=by
  obtain ⟨hp,-,-⟩:=hn
  unfold St.planD at hp
  cases hr:St.planL X.m.files (listC X l) (St.freeM X.S.stored.length X.m.files) X.m.next with
  |none=>rw[hr] at hp;cases hp
  |some r=>
   rw[hr] at hp
   injection hp with hp
   rw[←hp]
   exact Nat.succ_pos _
 rcases wmD_cases hP.calm hfit with ⟨c0,-⟩|⟨c0,-⟩|⟨-,c1,c2,c3,c4⟩
 ·exact absurd d1 c0
 ·exact absurd d1 c0
 ·rw[e]
  refine ⟨c2,c3,by show (wmD S m 2).1.fuse<0;rw[d2,hsy.2];exact h.fuse,⟨hfit,hw,?_,?_,fun x hx=>absurd rfl hx,fun x b hx=>by cases hx⟩,h.live,?_,.inr ⟨hv,c1⟩⟩
  ·show St.OnDisk (wmD S m 2).1.stored.length _
   rw[c4,hP.size]
   exact hn.onDisk h.ok.disk
  ·show 32<(wmD S m 2).1.stored.length
   rw[c4,hP.size]
   exact h.ok.big
  ·exact hP.new.high hfit fun j hj=>wmD_high hP.calm hfit hj
theorem Rest.anew (h:Rest X F):(if X.m.version=0 then (X.S,(0:Int)) else wmD X.S X.m 2).2=0∧Rest ⟨(if X.m.version=0 then (X.S,(0:Int)) else wmD X.S X.m 2).1,X.m,noC,false⟩ F:=by
 have hok:OkS ⟨X.S,X.m,noC,false⟩:={h.ok with keys:=fun x hx=>absurd rfl hx,len:=fun x b hx=>by cases hx}
 split
 ·exact ⟨rfl,h.calm,h.on,h.fuse,hok,rfl,h.holds,h.slots⟩
 ·rename_i hv
  have hfit:=h.ok.fit
  obtain ⟨d1,d2⟩:=wmD_done h.calm hfit h.on h.fuse
  refine ⟨d1,?_⟩
  rcases wmD_cases h.calm hfit with ⟨c0,-⟩|⟨c0,-⟩|⟨-,c1,c2,c3,c4⟩
  ·exact absurd d1 c0
  ·exact absurd d1 c0
  ·refine ⟨c2,c3,by show (wmD X.S X.m 2).1.fuse<0;rw[d2];exact h.fuse,{hok with disk:=?_,big:=?_},rfl,h.holds.high hfit fun j hj=>wmD_high h.calm hfit hj,.inr ⟨by show 0<X.m.version;omega,c1⟩⟩
   ·show St.OnDisk (wmD X.S X.m 2).1.stored.length _
    rw[c4]
    exact h.ok.disk
   ·show 32<(wmD X.S X.m 2).1.stored.length
    rw[c4]
    exact h.ok.big
theorem Rest.file (h:Rest X F) {f:FileD} (hf:f∈X.m.files):readF X.S f=(F f.name,0):=by
 refine readF_is h.on h.calm.pend (h.holds f hf) fun z hz=>⟨?_,h.ok.disk z (by unfold allBlocks;exact List.mem_flatMap.2 ⟨f,hf,hz⟩)⟩
 have:=((h.ok.fit.1.2.2.1 f hf).2.2 z hz).1
 omega
theorem fileOf_mem {m:ManD} {x:List UInt8}:fileOf m x=none↔x∉m.files.map (·.name):=by
 unfold fileOf
 rw[List.find?_eq_none]
 simp
theorem Rest.reads (h:Rest X F) (x:List UInt8):sreadD X x=if hasN X x then (newF X.C F x,0) else ([],8):=by
 unfold sreadD hasN newF
 rw[h.up,if_pos rfl]
 cases hC:X.C x with
 |some z=>
  cases z with
  |some b=>rfl
  |none=>rfl
 |none=>
  cases hf:fileOf X.m x with
  |none=>
   have:=fileOf_mem.1 hf
   simp only[decide_eq_true_eq]
   rw[if_neg this]
  |some f=>
   obtain ⟨h1,h2⟩:=fileOf_some hf
   have:x∈X.m.files.map (·.name):=List.mem_map.2 ⟨f,h1,h2⟩
   simp only[decide_eq_true_eq]
   rw[if_pos this,h.file h1,h2]
end
end Go.Proofs.YtiocpefgccndbaaGreat
end
section
namespace Go.Proofs.YtiocpefgccndbaaGreat
open Go.RowKit Me Mf Rw Ds Va Go.Maps
section
variable {w:World} {p:Value}
abbrev Down (p:Value) (w:World):Prop:=Calls Tryz.prog 59 #[p] w fun e w'=>e=.returned (.bool false)∧w=w'
end
end Go.Proofs.YtiocpefgccndbaaGreat
end
section
namespace Go.Proofs.YtiocpefgccndbaaGreat
open Go.RowKit Me Mf Rw Ds Va Go.Maps
theorem ite_length {S:Dsk} {m:ManD}:(if m.version=0 then (S,(0:Int)) else wmD S m 2).1.stored.length=S.stored.length:=by
 split
 ·rfl
 ·exact wmD_size S m 2
theorem OpPost.rest {X:Sto} {F:List UInt8→List UInt8} {w w':World} {B D:Nat} {own ownD:Nat→Prop} {e:Ending} (h:OpPost w B D X.S X.m own ownD e w') (hr:Rest X F) :
 ∃P M own' ownD' S',e=.returned (.tuple #[.pointer (some ⟨P,0,none⟩),.int .i64 0])∧StoreAt w' B P D M 0 ⟨S',X.m,noC,false⟩ own' ownD'∧Rest ⟨S',X.m,noC,false⟩ F∧S'.stored.length=X.S.stored.length∧Out ownD w w'∧(∀k,own' k→own k∨w.heap.size≤k)∧(∀k,own k→own' k)∧(∀k,ownD' k→ownD k∨w.heap.size≤k)∧w.heap.size≤P∧w.heap.size≤M:=by
 obtain ⟨h1,h2⟩:=hr.anew
 rcases h with ⟨q,-⟩|⟨-,P,M,own,ownD2,he,hst,ho2,hn2⟩
 ·exact absurd h1 q
 ·exact ⟨P,M,own,ownD2,_,he,hst,h2,ite_length,ho2,hn2⟩
def BgPost (w:World) (n:Nat) (e:Ending) (w':World):Prop:=
 ∃G P D M own ownD,e=.returned (.tuple #[.pointer (some ⟨G,0,none⟩),.bool true])∧Blk w' G [.pointer (some ⟨P,0,none⟩),.pointer (some ⟨D,0,none⟩),.int .u64 0,.int .u32 0,.slice none 0 0,.slice none 0 0,.slice none 0 0,.slice none 0 0,.bool false] ∧
  StoreAt w' w.heap.size P D M 0 ⟨newD n,noMan,noC,false⟩ own ownD∧¬own G∧Below w.heap.size w w'∧w.heap.size≤G
set_option maxRecDepth 100000 in
set_option maxHeartbeats 1000000 in
theorem begin_any (n:Nat) (h1:33≤n) (h2:n≤65536) (w:World):Calls Tryz.prog 11 #[.int .i64 (n:Int)] w (BgPost w n):=by
 have HN:=Lib.hid (dnew_any n (by omega) h2 w)
 go_enter Tryz.func11,Tryz.ntmps11
 go_wp2_with (go_at_call 37;refine HN.out.mono ?_)
 rintro e w1 ⟨D,ownD,rfl,hd,hb1⟩
 have hrest:=Rest.new (F:=fun _=>[]) (n:=n) (by omega)
 obtain ⟨T,Z,hT,hZ,hans⟩:=hrest.read
 have hmr:=mread_any hd (show (newD n).pend.length<_ by show 0<_;omega) hT hZ
 rw[hans] at hmr
 have HO:=Lib.hid (open_good (own:=ownD) hd (fun k hk=>hk) (fun k hk=>hd.lt hk) hmr fit_none wf_none (fun z hz=>by cases hz) hrest.ok.big (show 0+64≤_ by omega))
 have HD:=Lib.hid hd
 have HB1:=Lib.hid hb1
 clear hd hb1 hmr hans hT hZ hrest
 go_wp2_with fail
 refine HO.out.mono ?_
 intro e w2 hop
 simp only[OpPost,show noMan.version=0 from rfl,↓reduceIte] at hop
 rcases hop with ⟨q,-⟩|⟨-,P,M,own,ownD2,rfl,hst,ho2,hn2,-⟩
 ·exact absurd rfl q
 ·have hb2:Below w.heap.size w w2:=HB1.out.trans (ho2.below (fun k hk hs=>(HD.out.lt hs).1) HB1.out.size)
  have HS:=Lib.hid hst
  have HB2:=Lib.hid hb2
  have hle:=hb2.size
  clear hst ho2 hn2 hb2
  go_wp2_with fail
  go_ret2
  refine ⟨_,_,_,_,_,_,rfl,Blk.new w2 [.pointer (some ⟨P,0,none⟩),.pointer (some ⟨D,0,none⟩),.int .u64 0,.int .u32 0,.slice none 0 0,.slice none 0 0,.slice none 0 0,.slice none 0 0,.bool false] _,HS.out.past ((Below.refl _ _).alloc (Nat.le_refl _) _),fun h=>?_,HB2.out.alloc hle _,hle⟩
  have:=(HS.out.lt h).2
  omega
end Go.Proofs.YtiocpefgccndbaaGreat
end
section
namespace Go.Proofs.YtiocpefgccndbaaGreat
open Go.RowKit Me Mf Rw Ds Va Go.Maps
section
variable {w w':World} {B P D M N:Nat} {X:Sto} {own own' ownD T:Nat→Prop}
theorem StoreAt.wide (h:StoreAt w B P D M N X own ownD) (ho:Out own w w') (hF:Out (fun k=>own k∧¬Foot P M ownD k) w w') (h1:∀k,own k→own' k) (h2:∀k,own' k→own k∨w.heap.size≤k) (h3:∀k,own' k→B≤k∧k<w'.heap.size):StoreAt w' B P D M N X own' ownD:=by
 obtain ⟨A,n,c,b1,b2⟩:=h.blk
 obtain ⟨DD,hc⟩:=h.chs
 exact {
  blk:=⟨A,n,c,b1.out hF fun e=>e.2 (.inl rfl),b2.next ho h2⟩
  disk:=h.disk.out hF fun k hk e=>e.2 (.inr (.inr hk))
  chs:=by
   refine ⟨DD,?_,hc.no,fun x z hz=>?_⟩
   ·obtain ⟨es,clock,q1,q2⟩:=hc.map
    exact ⟨es,clock,(hF.block M hc.lt fun e=>e.2 (.inr (.inl rfl))).trans q1,q2⟩
   ·obtain ⟨A,k,c,q1,q2,q3,q4,q5⟩:=hc.is x z hz
    exact ⟨A,k,c,q1,q2,q3,q4,q5.next ho h2⟩
  dP:=h.dP
  dM:=h.dM
  low:=h3
  own:=fun k hk=>h1 k (h.own k hk)
  lP:=h.lP
  lM:=h.lM
  ok:=h.ok}
theorem StoreAt.with (h:StoreAt w B P D M N X own ownD) (hb:Below w.heap.size w w') {E:Nat→Prop} (hE:∀k,E k→w.heap.size≤k∧k<w'.heap.size) (hB:B≤w.heap.size):StoreAt w' B P D M N X (fun k=>own k∨E k) ownD:=
 h.wide (.of_below hb) (.of_below hb) (fun k hk=>.inl hk) (fun k hk=>hk.imp (fun q=>q) fun q=>(hE k q).1) fun k hk=>by
  rcases hk with q|q
  ·exact ⟨(h.low k q).1,Nat.lt_of_lt_of_le (h.low k q).2 hb.size⟩
  ·have:=hE k q
   omega
theorem StoreAt.kept (h:StoreAt w B P D M N X own ownD) (ho:Out T w w') (hT:∀k,k<w.heap.size→T k→own k∧¬Foot P M ownD k):StoreAt w' B P D M N X own ownD:=
 h.wide (ho.more fun k hk q=>(hT k hk q).1) (ho.more fun k hk q=>hT k hk q) (fun k hk=>hk) (fun k hk=>.inl hk) fun k hk=>⟨(h.low k hk).1,Nat.lt_of_lt_of_le (h.low k hk).2 ho.size⟩
end
end Go.Proofs.YtiocpefgccndbaaGreat
end
section
namespace Go.Proofs.YtiocpefgccndbaaGreat
open Go.RowKit Me Mf Rw Ds Va Go.Maps
abbrev FB:=List UInt8×List UInt8
def fcl (l:List FB):List Value:=l.flatMap fun f=>[sv f.1,sv f.2]
theorem fcl_length:∀l:List FB,(fcl l).length=l.length*2
 |[]=>rfl
 |f::l=>by
  show ([sv f.1,sv f.2]++fcl l).length=_
  rw[List.length_append,fcl_length l,List.length_cons]
  simp
  omega
theorem fcl_append (l m:List FB):fcl (l++m)=fcl l++fcl m:=by unfold fcl;rw[List.flatMap_append]
theorem fcl_at:∀{l:List FB} {k:Nat} {f:FB},l[k]?=some f→(fcl l)[k*2]?=some (sv f.1)∧(fcl l)[k*2+1]?=some (sv f.2)
 |g::l,0,f,h=>by
  injection h with h
  subst h
  exact ⟨rfl,rfl⟩
 |g::l,k+1,f,h=>by
  have:=fcl_at (l:=l) (k:=k) (f:=f) h
  have e:(k+1)*2=k*2+1+1:=by omega
  rw[e]
  exact this
theorem fcl_cells {w:World} {B:Nat} {A:Option Addr} {l:List FB} (h:Cs w B A (fcl l)) {k:Nat} {f:FB} (hf:l[k]?=some f):∃a,A=some a∧w.cell? (a.add (k*2))=some (sv f.1)∧w.cell? ⟨(a.add (k*2)).block,(a.add (k*2)).off+1,none⟩=some (sv f.2):=by
 obtain ⟨h1,h2⟩:=fcl_at hf
 have hk:=(List.getElem?_eq_some_iff.1 hf).1
 obtain ⟨a,e,-,hc⟩:=h (by rw[fcl_length];omega)
 refine ⟨a,e,hc _ _ h1,?_⟩
 have:=hc _ _ h2
 rwa[add_field a (k*2) 0] at this
def findD (l:List FB) (x:List UInt8):Int×Bool:=match l.findIdx? fun f=>f.1==x with
 |some i=>((i:Int),true)
 |none=>(0,false)
set_option maxRecDepth 100000 in
set_option maxHeartbeats 1000000 in
theorem rfind_any (A:Option Addr) (n c:Nat) (l:List FB) (x:List UInt8) (w:World) (hl:l.length=n) (hn:n≤1000000) (hc:Cs w w.heap.size A (fcl l)) :
 Calls Tryz.prog 40 #[.slice A n c,sv x] w fun e w'=>e=.returned (.tuple #[.int .i64 (findD l x).1,.bool (findD l x).2])∧w=w':=by
 have HL:=Lib.hid hl
 have HC:=Lib.hid hc
 obtain ⟨R,hR⟩:∃R,R=findD l x:=⟨_,rfl⟩
 rw[←hR]
 have HR:=Lib.hid hR
 clear hl hc hR
 go_enter Tryz.func40,Tryz.ntmps40
 go_wp2_with fail
 go_loopw [9] (fun z wr=>∃j:Nat,z=.int .i64 (j:Int)∧j≤n∧wr=w∧Hid (∀i f,i<j→l[i]?=some f→f.1≠x)) (fun z _=>n-(intOf z).toNat)
 case atStart=>exact ⟨0,rfl,Nat.zero_le _,rfl,Lib.hid fun i f hi=>by omega⟩
 case round=>
  obtain ⟨j,rfl,hj,hwr,HI⟩:=hrel
  subst hwr
  by_cases hlt:j<n
  ·obtain ⟨f,hf⟩:∃f,l[j]?=some f:=⟨l[j]'(by rw[HL.out];exact hlt),List.getElem?_eq_getElem _⟩
   obtain ⟨a,rfl,h1,h2⟩:=fcl_cells HC.out hf
   have HFJ:=Lib.hid hf
   have hlt':(j:Int)<(n:Int):=by omega
   clear hf
   by_cases he:f.1=x
   ·have HRR:=Lib.hid (show R=((j:Int),true) by
     rw[HR.out]
     unfold findD
     have:l.findIdx? (fun f=>f.1==x)=some j:=by
      rw[List.findIdx?_eq_some_iff_getElem]
      obtain ⟨hjl,e⟩:=List.getElem?_eq_some_iff.1 HFJ.out
      exact ⟨hjl,by rw[e];simpa using he,fun i hi=>by
       have:=HI.out i l[i] hi (List.getElem?_eq_getElem _)
       simpa using this⟩
     rw[this])
    rw[he] at h1
    go_wp2_with fail
    go_ret2
    exact ⟨by rw[HRR.out];rfl,rfl⟩
   ·have hne:(f.1==x)=false:=by rw[beq_eq_false_iff_ne];exact he
    have HN2:=Lib.hid (show ∀i g,i<j+1→l[i]?=some g→g.1≠x from fun i g hi hg=>by
     rcases (show i<j∨i=j by omega) with h|rfl
     ·exact HI.out i g h hg
     ·rw[HFJ.out] at hg
      injection hg with hg
      rw[←hg]
      exact he)
    go_wp2_with fail
    exact ⟨⟨j+1,by simp,hlt,trivial,HN2⟩,by simp[intOf];omega⟩
  ·have e:j=n:=by omega
   subst e
   have HRR:=Lib.hid (show R=(0,false) by
    rw[HR.out]
    unfold findD
    have:l.findIdx? (fun f=>f.1==x)=none:=by
     rw[List.findIdx?_eq_none_iff]
     intro f hf
     obtain ⟨i,hi⟩:=List.mem_iff_getElem?.1 hf
     have:=HI.out i f (by rw[←HL.out];exact (List.getElem?_eq_some_iff.1 hi).1) hi
     simpa using this
    rw[this])
   go_wp2_with fail
   go_ret2
   exact ⟨by rw[HRR.out];rfl,rfl⟩
theorem f_info:(Tryz.prog.info? 75).map (fun i=>(i.zero,i.size,i.bytes))=some (some (.agg #[.string ⟨#[]⟩,.string ⟨#[]⟩]),2,32):=by kernel_rfl
theorem run_slice_f (w:World) (x b:List UInt8):(Instr.buildSlice 39 1 #[(0,.agg #[sv x,sv b])]).run Tryz.prog w=.ok (.slice (some ⟨w.heap.size,0,none⟩) 1 1) (w.alloc (.cells #[sv x,sv b] 75)):=by
 simp[go_sem]
theorem twoF_lit (w:World) (a b:Value) (t:TypeId):∀j u,[a,b][j]?=some u→(w.alloc (.cells #[a,b] t)).cell? ((⟨w.heap.size,0,none⟩:Addr).add j)=some u:=by
 intro j u hu
 obtain ⟨y,e,-,hc⟩:=Cs.lit w #[a,b] t (by simp)
 injection e with e
 rw[e]
 exact hc j u (by simpa using hu)
theorem twoF_one (s t:ByteArray):∀u∈[Value.string s,.string t],u.oneCell'=true:=by
 intro u hu
 simp at hu
 rcases hu with rfl|rfl<;>rfl
theorem push_f {w:World} {B j fc:Nat} {FA:Option Addr} {vs:List Value} (hr:w.ownsRow B 75 2 (.slice FA j fc) j vs) (hB:B≤w.heap.size) (hj:j≤1000000) (x b:List UInt8) :
 ∃FA' fc' w',(Builtin.append_ #[39,39] 39 #[.slice FA j fc,.slice (some ⟨w.heap.size,0,none⟩) 1 1]).run Tryz.prog (w.alloc (.cells #[sv x,sv b] 75))=.ok (.slice FA' (j+1) fc') w' ∧
  w'.ownsRow B 75 2 (.slice FA' (j+1) fc') (j+1) (vs++[sv x,sv b])∧Out (fun k=>(Value.slice FA j fc).ownBlock=some k) w w':=by
 obtain ⟨i0,hi0,hz0,hz1,hz2⟩:=info_parts f_info
 have hs5:(w.alloc (.cells #[sv x,sv b] 75)).heap.size=w.heap.size+1:=by simp
 obtain ⟨v',wB,h1,h2,h3,-,h5⟩:=run_append_own_at (P:=Tryz.prog) (w.alloc (.cells #[sv x,sv b] 75)) B 39 39 75 i0 _ 2 32 Tryz.underlying39 hi0 hz0 hz1 hz2 rfl (by decide) (.slice FA j fc) j vs (hr.alloc (.cells #[sv x,sv b] 75)) ⟨w.heap.size,0,none⟩ 1 1 [sv x,sv b] rfl (twoF_lit w (sv x) (sv b) _) (twoF_one _ _) (by unfold maxLen;omega) (by omega) (by rw[hs5];omega)
 obtain ⟨FA',fc',rfl,hfc⟩:=own_slice' h2
 exact ⟨FA',fc',wB,h1,h2,((Out.refl _ w).alloc _).grown h3 fun k e=>.inl e⟩
theorem own_none (w:World):(w.alloc (.cells #[] 75)).ownsRow w.heap.size 75 2 (.slice (some ⟨w.heap.size,0,none⟩) 0 0) 0 []:=
 World.ownsRow_lit w #[] 0 (Nat.le_refl _) (by unfold maxLen;omega) rfl
def withoutD (l:List FB) (x:List UInt8):List FB:=l.filter fun f=> !(f.1==x)
def FlPost (w:World) (l:List FB) (e:Ending) (w':World):Prop:=∃A n c,e=.returned (.slice A n c)∧l.length=n∧w'.ownsRow w.heap.size 75 2 (.slice A n c) n (fcl l)∧Below w.heap.size w w'
set_option maxRecDepth 100000 in
set_option maxHeartbeats 2000000 in
theorem rwithout_any (A:Option Addr) (n c:Nat) (l:List FB) (x:List UInt8) (w:World) (hl:l.length=n) (hn:n≤1000000) (hc:Cs w w.heap.size A (fcl l)) :
 Calls Tryz.prog 68 #[.slice A n c,sv x] w (FlPost w (withoutD l x)):=by
 have HL:=Lib.hid hl
 have HC:=Lib.hid hc
 clear hl hc
 go_enter Tryz.func68,Tryz.ntmps68
 go_wp2_with fail
 go_loopw [10,5] (fun z v wr=>∃(j:Nat) (FA:Option Addr) (k fc:Nat),z=.int .i64 (j:Int)∧v=.slice FA k fc∧j≤n∧k≤j∧Hid (Below w.heap.size w wr)∧Hid ((withoutD (l.take j) x).length=k)∧Hid (wr.ownsRow w.heap.size 75 2 (.slice FA k fc) k (fcl (withoutD (l.take j) x)))) (fun z _ _=>n-(intOf z).toNat)
 case atStart=>exact ⟨0,_,0,0,rfl,rfl,Nat.zero_le _,Nat.zero_le _,Lib.hid ((Below.refl _ _).alloc (Nat.le_refl _) _),Lib.hid rfl,Lib.hid (own_none w)⟩
 case round=>
  obtain ⟨j,FA,k,fc,rfl,rfl,hj,hk,HB,HK,HR⟩:=hrel
  by_cases hlt:j<n
  ·obtain ⟨f,hf⟩:∃f,l[j]?=some f:=⟨l[j]'(by rw[HL.out];exact hlt),List.getElem?_eq_getElem _⟩
   obtain ⟨a,rfl,h1,h2⟩:=fcl_cells ((HC.out.below HB.out).more HB.out.size) hf
   have HFJ:=Lib.hid hf
   have hlt':(j:Int)<(n:Int):=by omega
   clear hf
   by_cases he:f.1=x
   ·rw[he] at h1
    have HE:=Lib.hid (show withoutD (l.take (j+1)) x=withoutD (l.take j) x by
     unfold withoutD
     rw[List.take_add_one,HFJ.out,List.filter_append]
     simp[he])
    go_wp2_with fail
    exact ⟨⟨j+1,FA,k,fc,by simp,rfl,hlt,by omega,HB,Lib.hid (by rw[HE.out];exact HK.out),Lib.hid (by rw[HE.out];exact HR.out)⟩,by simp[intOf];omega⟩
   ·have hne:(f.1==x)=false:=by rw[beq_eq_false_iff_ne];exact he
    obtain ⟨FA',fc',w2,hrun,hrow,ho⟩:=push_f HR.out HB.out.size (by omega) f.1 f.2
    have hbs:=run_slice_f wr f.1 f.2
    have HRUN:=Lib.hid hrun
    have HROW:=Lib.hid hrow
    have HOUT:=Lib.hid ho
    have HE:=Lib.hid (show withoutD (l.take (j+1)) x=withoutD (l.take j) x++[f] by
     unfold withoutD
     rw[List.take_add_one,HFJ.out,List.filter_append]
     simp[he])
    clear hrun hrow ho
    go_wp2_with (at_builtin;refine wpList_append_run rfl _ _ 39 rfl _ _ _ rfl rfl HRUN.out ?_)
    exact ⟨⟨j+1,FA',k+1,fc',by simp,rfl,hlt,by omega,Lib.hid (HB.out.trans (HOUT.out.below (fun q _ hq=>(HR.out.lt q hq).1) HB.out.size)),Lib.hid (by rw[HE.out,List.length_append,HK.out];rfl),Lib.hid (by rw[HE.out,fcl_append];exact HROW.out)⟩,by simp[intOf];omega⟩
  ·have e:j=n:=by omega
   subst e
   have HE:=Lib.hid (show l.take j=l from List.take_of_length_le (by rw[HL.out];exact Nat.le_refl _))
   rw[HE.out] at HK HR
   go_wp2_with fail
   go_ret
   exact ⟨FA,k,fc,rfl,HK.out,HR.out,HB.out⟩
theorem less_turn {x y:List UInt8} (h:x≠y):Op.bytesLess y x= !less x y:=by
 have e1:=le_less x y
 have e2:=le_less y x
 have e3:Op.bytesLess y x=less y x:=rfl
 rw[e3]
 cases h1:less x y with
 |false=>
  cases h2:less y x with
  |true=>rfl
  |false=>
   rw[h2] at e1
   rw[h1] at e2
   exact absurd (List.le_antisymm (of_decide_eq_true e1) (of_decide_eq_true e2)) h
 |true=>
  cases h2:less y x with
  |false=>rfl
  |true=>
   have h3:x<y:=by have:=bytesLess_eq x y;have h4:Op.bytesLess x y=true:=h1;rw[h4] at this;exact of_decide_eq_true this.symm
   have h5:y<x:=by have:=bytesLess_eq y x;have h4:Op.bytesLess y x=true:=h2;rw[h4] at this;exact of_decide_eq_true this.symm
   exact absurd h5 (List.lt_asymm h3)
def putGo (x b:List UInt8):List FB→Bool→List FB
 |[],done=>if done then [] else [(x,b)]
 |f::l,done=>if f.1=x then putGo x b l done else if !done&&less x f.1 then (x,b)::f::putGo x b l true else f::putGo x b l done
set_option maxRecDepth 100000 in
set_option maxHeartbeats 8000000 in
theorem rput_any (A:Option Addr) (n c:Nat) (l:List FB) (x b:List UInt8) (w:World) (hl:l.length=n) (hn:n≤100000) (hc:Cs w w.heap.size A (fcl l)) :
 Calls Tryz.prog 67 #[.slice A n c,sv x,sv b] w (FlPost w (putGo x b l false)):=by
 have HL:=Lib.hid hl
 have HC:=Lib.hid hc
 clear hl hc
 go_enter Tryz.func67,Tryz.ntmps67
 go_wp2_with fail
 go_loopw [13,7,8] (fun z v d wr=>∃(j:Nat) (FA:Option Addr) (k fc:Nat) (done:Bool) (acc:List FB),z=.int .i64 (j:Int)∧v=.slice FA k fc∧d=.bool done∧j≤n∧k≤2*j∧Hid (Below w.heap.size w wr)∧Hid (acc.length=k)∧Hid (acc++putGo x b (l.drop j) done=putGo x b l false)∧Hid (wr.ownsRow w.heap.size 75 2 (.slice FA k fc) k (fcl acc))) (fun z _ _ _=>n-(intOf z).toNat)
 case atStart=>exact ⟨0,_,0,0,false,[],rfl,rfl,rfl,Nat.zero_le _,Nat.zero_le _,Lib.hid ((Below.refl _ _).alloc (Nat.le_refl _) _),Lib.hid rfl,Lib.hid rfl,Lib.hid (own_none w)⟩
 case round=>
  obtain ⟨j,FA,k,fc,done,acc,rfl,rfl,rfl,hj,hk,HB,HK,HI,HR⟩:=hrel
  by_cases hlt:j<n
  ·obtain ⟨f,hf⟩:∃f,l[j]?=some f:=⟨l[j]'(by rw[HL.out];exact hlt),List.getElem?_eq_getElem _⟩
   obtain ⟨a,rfl,h1,h2⟩:=fcl_cells ((HC.out.below HB.out).more HB.out.size) hf
   have HD:=Lib.hid (show l.drop j=f::l.drop (j+1) from drop_at hf)
   have hlt':(j:Int)<(n:Int):=by omega
   have HI2:=Lib.hid (show acc++putGo x b (f::l.drop (j+1)) done=putGo x b l false by rw[←HD.out];exact HI.out)
   clear hf
   by_cases he:f.1=x
   ·rw[he] at h1
    have HN:=Lib.hid (show acc++putGo x b (l.drop (j+1)) done=putGo x b l false by rw[←HI2.out,putGo,if_pos he])
    go_wp2_with fail
    exact ⟨⟨j+1,FA,k,fc,done,acc,by simp,rfl,rfl,hlt,by omega,HB,HK,HN,HR⟩,by simp[intOf];omega⟩
   ·have hne:(f.1==x)=false:=by rw[beq_eq_false_iff_ne];exact he
    cases done with
    |true=>
     have HN:=Lib.hid (show acc++([f]++putGo x b (l.drop (j+1)) true)=putGo x b l false by rw[←HI2.out,putGo,if_neg he];rfl)
     obtain ⟨FA',fc',w2,hrun,hrow,ho⟩:=push_f HR.out HB.out.size (by omega) f.1 f.2
     have hbs:=run_slice_f wr f.1 f.2
     have HRUN:=Lib.hid hrun
     have HROW:=Lib.hid hrow
     have HOUT:=Lib.hid ho
     clear hrun hrow ho
     go_wp2_with (at_builtin;refine wpList_append_run rfl _ _ 39 rfl _ _ _ rfl rfl HRUN.out ?_)
     exact ⟨⟨j+1,FA',k+1,fc',true,acc++[f],by simp,rfl,rfl,hlt,by omega,Lib.hid (HB.out.trans (HOUT.out.below (fun q _ hq=>(HR.out.lt q hq).1) HB.out.size)),Lib.hid (by rw[List.length_append,HK.out];rfl),Lib.hid (by rw[List.append_assoc];exact HN.out),Lib.hid (by rw[fcl_append];exact HROW.out)⟩,by simp[intOf];omega⟩
    |false=>
     cases hls:less x f.1 with
     |false=>
      have HN:=Lib.hid (show acc++([f]++putGo x b (l.drop (j+1)) false)=putGo x b l false by rw[←HI2.out,putGo,if_neg he,hls];rfl)
      have hbl:Op.bytesLess f.1 x=true:=by rw[less_turn (fun e=>he e.symm),hls];rfl
      obtain ⟨FA',fc',w2,hrun,hrow,ho⟩:=push_f HR.out HB.out.size (by omega) f.1 f.2
      have hbs:=run_slice_f wr f.1 f.2
      have HRUN:=Lib.hid hrun
      have HROW:=Lib.hid hrow
      have HOUT:=Lib.hid ho
      clear hrun hrow ho
      go_wp2_with (at_builtin;refine wpList_append_run rfl _ _ 39 rfl _ _ _ rfl rfl HRUN.out ?_)
      exact ⟨⟨j+1,FA',k+1,fc',false,acc++[f],by simp,rfl,rfl,hlt,by omega,Lib.hid (HB.out.trans (HOUT.out.below (fun q _ hq=>(HR.out.lt q hq).1) HB.out.size)),Lib.hid (by rw[List.length_append,HK.out];rfl),Lib.hid (by rw[List.append_assoc];exact HN.out),Lib.hid (by rw[fcl_append];exact HROW.out)⟩,by simp[intOf];omega⟩
     |true=>
      have HN:=Lib.hid (show acc++([(x,b)]++([f]++putGo x b (l.drop (j+1)) true))=putGo x b l false by rw[←HI2.out,putGo,if_neg he,hls];rfl)
      have hbl:Op.bytesLess f.1 x=false:=by rw[less_turn (fun e=>he e.symm),hls];rfl
      obtain ⟨FA1,fc1,w1,hrun1,hrow1,ho1⟩:=push_f HR.out HB.out.size (by omega) x b
      have hbs1:=run_slice_f wr x b
      have hB1:=HB.out.trans (ho1.below (fun q _ hq=>(HR.out.lt q hq).1) HB.out.size)
      obtain ⟨FA',fc',w2,hrun,hrow,ho⟩:=push_f hrow1 hB1.size (by omega) f.1 f.2
      have hbs:=run_slice_f w1 f.1 f.2
      have hn1:∀p:Addr,p.block<w.heap.size→w1.cell? p=wr.cell? p:=fun p hp=>((ho1.below (B:=w.heap.size) (fun q _ hq=>(HR.out.lt q hq).1) HB.out.size).cell hp)
      have h1':w1.cell? (a.add (j*2))=some (sv f.1):=by
       obtain ⟨a',e,hab,-⟩:=HC.out (by rw[fcl_length];have:=HL.out;omega)
       injection e with e
       subst e
       rw[hn1 _ (by rw[block_add];exact hab)]
       exact h1
      have h2':w1.cell? ⟨(a.add (j*2)).block,(a.add (j*2)).off+1,none⟩=some (sv f.2):=by
       obtain ⟨a',e,hab,-⟩:=HC.out (by rw[fcl_length];have:=HL.out;omega)
       injection e with e
       subst e
       rw[hn1 _ (by show (a.add (j*2)).block<_;rw[block_add];exact hab)]
       exact h2
      have HRUN1:=Lib.hid hrun1
      have HROW1:=Lib.hid hrow1
      have HRUN:=Lib.hid hrun
      have HROW:=Lib.hid hrow
      have HB2:=Lib.hid (hB1.trans (ho.below (fun q _ hq=>(hrow1.lt q hq).1) hB1.size))
      clear hrun1 hrow1 hrun hrow ho ho1 hB1 hn1
      go_upto_region 10 with (at_builtin;refine wpList_append_run rfl _ _ 39 rfl _ _ _ rfl rfl HRUN1.out ?_)
      clear hbs1 HRUN1 h1 h2
      go_wp2_with (at_builtin;refine wpList_append_run rfl _ _ 39 rfl _ _ _ rfl rfl HRUN.out ?_)
      exact ⟨⟨j+1,FA',k+1+1,fc',true,acc++[(x,b)]++[f],by simp,rfl,rfl,hlt,by omega,HB2,Lib.hid (by rw[List.length_append,List.length_append,HK.out];rfl),Lib.hid (by rw[List.append_assoc,List.append_assoc];exact HN.out),Lib.hid (by rw[fcl_append,fcl_append];exact HROW.out)⟩,by simp[intOf];omega⟩
  ·have e:j=n:=by omega
   subst e
   have hdr:l.drop j=[]:=List.drop_of_length_le (by rw[HL.out];exact Nat.le_refl _)
   have HE:=Lib.hid (show acc++putGo x b [] done=putGo x b l false by rw[←hdr];exact HI.out)
   clear hdr
   cases done with
   |true=>
    have HE2:=Lib.hid (show acc=putGo x b l false by rw[←HE.out,putGo];simp)
    go_wp2_with fail
    go_ret
    exact ⟨FA,k,fc,rfl,by rw[←HE2.out];exact HK.out,by rw[←HE2.out];exact HR.out,HB.out⟩
   |false=>
    have HE2:=Lib.hid (show acc++[(x,b)]=putGo x b l false by rw[←HE.out,putGo];simp)
    obtain ⟨FA1,fc1,w1,hrun1,hrow1,ho1⟩:=push_f HR.out HB.out.size (by omega) x b
    have hbs1:=run_slice_f wr x b
    have hB1:=HB.out.trans (ho1.below (fun q _ hq=>(HR.out.lt q hq).1) HB.out.size)
    have HRUN1:=Lib.hid hrun1
    have HROW1:=Lib.hid hrow1
    have HB1:=Lib.hid hB1
    clear hrun1 hrow1 ho1 hB1
    go_wp2_with (at_builtin;refine wpList_append_run rfl _ _ 39 rfl _ _ _ rfl rfl HRUN1.out ?_)
    go_ret
    exact ⟨FA1,k+1,fc1,rfl,by rw[←HE2.out,List.length_append,HK.out];rfl,by rw[←HE2.out,fcl_append];exact HROW1.out,HB1.out⟩
end Go.Proofs.YtiocpefgccndbaaGreat
end
section
namespace Go.Proofs.YtiocpefgccndbaaGreat
open Go.RowKit Me Mf Rw Ds Va Go.Maps
theorem names_cell {w:World} {B:Nat} {A:Option Addr} {l:List (List UInt8)} (h:Cs w B A (l.map sv)) {k:Nat} {x:List UInt8} (hf:l[k]?=some x):∃a,A=some a∧w.cell? (a.add k)=some (sv x):=by
 have hk:=(List.getElem?_eq_some_iff.1 hf).1
 obtain ⟨a,e,-,hc⟩:=h (by rw[List.length_map];omega)
 exact ⟨a,e,hc k _ (by rw[List.getElem?_map,hf];rfl)⟩
set_option maxRecDepth 100000 in
set_option maxHeartbeats 1000000 in
theorem ramong_any (A:Option Addr) (n c:Nat) (l:List (List UInt8)) (x:List UInt8) (w:World) (hl:l.length=n) (hn:n≤1000000) (hc:Cs w w.heap.size A (l.map sv)) :
 Calls Tryz.prog 118 #[sv x,.slice A n c] w fun e w'=>e=.returned (.bool (decide (x∈l)))∧w=w':=by
 have HL:=Lib.hid hl
 have HC:=Lib.hid hc
 obtain ⟨R,hR⟩:∃R,R=decide (x∈l):=⟨_,rfl⟩
 rw[←hR]
 have HR:=Lib.hid hR
 clear hl hc hR
 go_enter Tryz.func118,Tryz.ntmps118
 go_wp2_with fail
 go_loopw [8] (fun z wr=>∃j:Nat,z=.int .i64 (j:Int)∧j≤n∧wr=w∧Hid (x∉l.take j)) (fun z _=>n-(intOf z).toNat)
 case atStart=>exact ⟨0,rfl,Nat.zero_le _,rfl,Lib.hid (by simp)⟩
 case round=>
  obtain ⟨j,rfl,hj,hwr,HI⟩:=hrel
  subst hwr
  by_cases hlt:j<n
  ·obtain ⟨f,hf⟩:∃f,l[j]?=some f:=⟨l[j]'(by rw[HL.out];exact hlt),List.getElem?_eq_getElem _⟩
   obtain ⟨a,rfl,h1⟩:=names_cell HC.out hf
   have HFJ:=Lib.hid hf
   have hlt':(j:Int)<(n:Int):=by omega
   clear hf
   by_cases he:f=x
   ·have HRR:=Lib.hid (show R=true by rw[HR.out,←he];exact decide_eq_true (List.mem_of_getElem? HFJ.out))
    rw[he] at h1
    go_wp2_with fail
    go_ret
    exact ⟨by rw[HRR.out];rfl,rfl⟩
   ·have hne:(f==x)=false:=by rw[beq_eq_false_iff_ne];exact he
    have HN:=Lib.hid (show x∉l.take (j+1) by
     rw[List.take_add_one,HFJ.out,List.mem_append,not_or]
     exact ⟨HI.out,by simpa using fun e=>he e.symm⟩)
    go_wp2_with fail
    exact ⟨⟨j+1,by simp,hlt,trivial,HN⟩,by simp[intOf];omega⟩
  ·have e:j=n:=by omega
   subst e
   have HRR:=Lib.hid (show R=false by
    rw[HR.out]
    have:=HI.out
    rw[List.take_of_length_le (by rw[HL.out];exact Nat.le_refl _)] at this
    exact decide_eq_false this)
   go_wp2_with fail
   go_ret
   exact ⟨by rw[HRR.out];rfl,rfl⟩
def smG (A:Option Addr) (n c:Nat) (A':Option Addr) (n' c':Nat) (a a':Addr) (j:Nat) (f g:FB):Gw.Fact:=fun t v w=>
 match t with
 |0|16=>v=.slice A n c
 |5|17|21=>v=.int .i64 (j:Int)
 |18=>v=.pointer (some (a.add (j*2)))
 |19=>v=.agg #[sv f.1,sv f.2]
 |1|20=>v=.slice A' n' c'
 |22=>v=.pointer (some (a'.add (j*2)))
 |23=>v=.agg #[sv g.1,sv g.2]
 |24=>v=.bool (!decide (f=g))
 |_=>True
set_option maxRecDepth 100000 in
set_option maxHeartbeats 2000000 in
theorem rsame_any (A:Option Addr) (n c:Nat) (l:List FB) (A':Option Addr) (n' c':Nat) (m:List FB) (w:World) (hl:l.length=n) (hn:n≤1000000) (hc:Cs w w.heap.size A (fcl l)) (hm:m.length=n') (hc':Cs w w.heap.size A' (fcl m)) :
 Calls Tryz.prog 18 #[.slice A n c,.slice A' n' c'] w fun e w'=>e=.returned (.bool (decide (l=m)))∧Below w.heap.size w w':=by
 have HL:=Lib.hid hl
 have HC:=Lib.hid hc
 have HM:=Lib.hid hm
 have HC':=Lib.hid hc'
 obtain ⟨R,hR⟩:∃R,R=decide (l=m):=⟨_,rfl⟩
 rw[←hR]
 have HR:=Lib.hid hR
 clear hl hc hm hc' hR
 by_cases hnn:n=n'
 ·subst hnn
  go_enter Tryz.func18,Tryz.ntmps18
  go_wp2_with fail
  go_loopw [13] (fun z wr=>∃j:Nat,z=.int .i64 (j:Int)∧j≤n∧Hid (Below w.heap.size w wr)∧Hid (l.take j=m.take j)) (fun z _=>n-(intOf z).toNat)
  case atStart=>exact ⟨0,rfl,Nat.zero_le _,Lib.hid (Below.refl _ _),Lib.hid rfl⟩
  case round=>
   obtain ⟨j,rfl,hj,HB,HI⟩:=hrel
   by_cases hlt:j<n
   ·obtain ⟨f,hf⟩:∃f,l[j]?=some f:=⟨l[j]'(by rw[HL.out];exact hlt),List.getElem?_eq_getElem _⟩
    obtain ⟨g,hg⟩:∃g,m[j]?=some g:=⟨m[j]'(by rw[HM.out];exact hlt),List.getElem?_eq_getElem _⟩
    obtain ⟨a,rfl,h1,h2⟩:=fcl_cells ((HC.out.below HB.out).more HB.out.size) hf
    obtain ⟨a',rfl,h1',h2'⟩:=fcl_cells ((HC'.out.below HB.out).more HB.out.size) hg
    have HFJ:=Lib.hid hf
    have HGJ:=Lib.hid hg
    have hlt':(j:Int)<(n:Int):=by omega
    clear hf hg
    have HN:=Lib.hid (fun e:f=g=>show l.take (j+1)=m.take (j+1) by rw[List.take_add_one,List.take_add_one,HFJ.out,HGJ.out,HI.out,e])
    go_wp2_with fail
    refine Gw.wp_region_grow (smG (some a) n c (some a') n c' a a' j f g) [16,17,18,19,20,21,22,23,24] [([0],none),([5],none),([16,17],none),([18],none),([1],none),([5],none),([20,21],none),([22],none),([19,23],none)] 26 (by kernel_rfl) (by kernel_rfl) rfl ?h0 ?hreq ?hend
    case h0=>
     intro t W hnd _
     unfold smG
     split<;>first|rfl|trivial|exact absurd (by simp) hnd
    case hreq=>
     refine ⟨?_,?_,?_,?_,?_,?_,?_,?_,?_,trivial⟩
     all_goals
      intro ac W hg hk
      have k1:=(hg.cell (World.block_lt_of_cell? _ _ h1)).trans h1
      have k2:=(hg.cell (World.block_lt_of_cell? _ _ h2)).trans h2
      have k1':=(hg.cell (World.block_lt_of_cell? _ _ h1')).trans h1'
      have k2':=(hg.cell (World.block_lt_of_cell? _ _ h2')).trans h2'
      simp only[Gw.Knows,smG] at hk
      try (simp[go_sem,Gw.OpReq,Gw.Ok,Gw.Post,Gw.Holds,smG,Gw.Grows.refl,hk,hlt',k1,k2,k1',k2'];done)
     obtain ⟨f1,f2⟩:=f
     obtain ⟨g1,g2⟩:=g
     by_cases e1:f1=g1
     ·by_cases e2:f2=g2
      ·simp[go_sem,Gw.OpReq,Gw.Ok,Gw.Post,Gw.Holds,smG,Gw.Grows.refl,hk,e1,e2]
      ·simp[go_sem,Gw.OpReq,Gw.Ok,Gw.Post,Gw.Holds,smG,Gw.Grows.refl,hk,e1,e2]
     ·simp[go_sem,Gw.OpReq,Gw.Ok,Gw.Post,Gw.Holds,smG,Gw.Grows.refl,hk,e1]
    case hend=>
     intro x' w' hg hx
     simp only[Gw.putAll,Act.put,List.setIfInBounds_toArray,List.set_cons_zero,List.set_cons_succ]
     have hx24:=(hx 24 (by simp)).now
     simp only[smG] at hx24
     simp only[hx24]
     have HB2:=Lib.hid (HB.out.trans (Below.mono hg HB.out.size))
     clear hx hg hx24 h1 h2 h1' h2'
     by_cases he:f=g
     ·have HN2:=Lib.hid (HN.out he)
      have hd:(!decide (f=g))=false:=by simp[he]
      rw[hd]
      go_wp2_with fail
      exact ⟨⟨j+1,by simp,hlt,HB2,HN2⟩,by simp[intOf];omega⟩
     ·have HRR:=Lib.hid (show R=false by
       rw[HR.out]
       refine decide_eq_false fun e=>he ?_
       have h1:=HFJ.out
       rw[e,HGJ.out] at h1
       injection h1 with h1
       exact h1.symm)
      have hd:(!decide (f=g))=true:=by simp[he]
      rw[hd]
      go_wp2_with fail
      go_ret
      exact ⟨by rw[HRR.out];rfl,HB2.out⟩
   ·have e:j=n:=by omega
    subst e
    have HRR:=Lib.hid (show R=true by
     rw[HR.out]
     have:=HI.out
     rw[List.take_of_length_le (by rw[HL.out];exact Nat.le_refl _),List.take_of_length_le (by rw[HM.out];exact Nat.le_refl _)] at this
     exact decide_eq_true this)
    go_wp2_with fail
    go_ret
    exact ⟨by rw[HRR.out];rfl,HB.out⟩
 ·have HRR:=Lib.hid (show R=false by
   rw[HR.out]
   exact decide_eq_false fun e=>hnn (by rw[←HL.out,←HM.out,e]))
  have hnz:((n:Int) != (n':Int))=true:=by rw[bne_iff_ne];omega
  go_enter Tryz.func18,Tryz.ntmps18
  go_wp2_with fail
  go_ret
  exact ⟨by rw[HRR.out];rfl,Below.refl _ _⟩
def pagesL (l:List FB):Nat:=(l.map fun f=>St.pages f.2.length).sum
set_option maxRecDepth 100000 in
set_option maxHeartbeats 2000000 in
theorem rpages_any (A:Option Addr) (n c:Nat) (l:List FB) (w:World) (hl:l.length=n) (hn:n≤100000) (hc:Cs w w.heap.size A (fcl l)) (hb:∀f∈l,f.2.length≤10000000) :
 Calls Tryz.prog 119 #[.slice A n c] w fun e w'=>e=.returned (.int .i64 (pagesL l:Int))∧w=w':=by
 have HL:=Lib.hid hl
 have HC:=Lib.hid hc
 have HB:=Lib.hid hb
 clear hl hc hb
 go_enter Tryz.func119,Tryz.ntmps119
 go_wp2_with fail
 go_loopw [7,3] (fun z v wr=>∃j q:Nat,z=.int .i64 (j:Int)∧v=.int .i64 (q:Int)∧j≤n∧q≤j*100000∧wr=w∧Hid (pagesL (l.take j)=q)) (fun z _ _=>n-(intOf z).toNat)
 case atStart=>exact ⟨0,0,rfl,rfl,Nat.zero_le _,Nat.zero_le _,rfl,Lib.hid rfl⟩
 case round=>
  obtain ⟨j,q,rfl,rfl,hj,hq,hwr,HI⟩:=hrel
  subst hwr
  by_cases hlt:j<n
  ·obtain ⟨f,hf⟩:∃f,l[j]?=some f:=⟨l[j]'(by rw[HL.out];exact hlt),List.getElem?_eq_getElem _⟩
   obtain ⟨a,rfl,h1,h2⟩:=fcl_cells HC.out hf
   have hfb:=HB.out f (List.mem_of_getElem? hf)
   obtain ⟨s,hs⟩:∃s,s=f.2.length:=⟨_,rfl⟩
   have hsz:(ByteArray.mk f.2.toArray).size=s:=by rw[hs];exact List.size_toArray ..
   have hlt':(j:Int)<(n:Int):=by omega
   have HP:=Lib.hid (show pagesL (l.take (j+1))=q+(s+111) / 112 by
    unfold pagesL
    rw[List.take_add_one,hf,List.map_append,List.sum_append]
    have:=HI.out
    unfold pagesL at this
    rw[this,hs]
    simp[St.pages])
   rw[←hs] at hfb
   have hqd:Int.tdiv ((s:Int)+111) 112=(((s+111) / 112:Nat):Int):=by
    rw[Int.tdiv_eq_ediv_of_nonneg (by omega)]
    omega
   clear hf hs
   go_wp2_with fail
   refine ⟨⟨j+1,q+(s+111) / 112,by simp,?_,hlt,by omega,trivial,HP⟩,by simp[intOf];omega⟩
   congr 1
  ·have e:j=n:=by omega
   subst e
   have HRR:=Lib.hid (show pagesL l=q by
    have:=HI.out
    rwa[List.take_of_length_le (by rw[HL.out];exact Nat.le_refl _)] at this)
   go_wp2_with fail
   go_ret
   exact ⟨by rw[HRR.out];rfl,rfl⟩
end Go.Proofs.YtiocpefgccndbaaGreat
end
section
namespace Go.Proofs.YtiocpefgccndbaaGreat
open Go.RowKit Me Mf Rw Ds Va Go.Maps
def inP (l:List Int):Nat→Bool:=fun i=>decide ((i:Int)∈l)
theorem inP_snoc (c:Nat) (l:List Int) (i:Nat):St.charK c (fun j=>if j=i then true else inP l j)=St.charK c (inP (l++[(i:Int)])):=by
 refine St.charK_ext fun j _=>?_
 unfold inP
 by_cases e:j=i
 ·subst e;simp
 ·have:(j:Int)≠(i:Int):=by omega
  simp[e,this]
theorem own_row {w:World} {base n c:Nat} {A:Option Addr} {k:List Bool} {t:TypeId} (h:w.ownsRow base t 1 (.slice A n c) n (Xt.bcells k)) {i:Nat} (hi:i<n) :
 ∃g,A=some ⟨g,0,none⟩∧w.cell? ⟨g,i,none⟩=some (.bool (k.getD i false))∧w.frozen? ⟨g,i,none⟩=false ∧
  ∀b:Bool,(w.setCell ⟨g,i,none⟩ (.bool b)).ownsRow base t 1 (.slice A n c) n (Xt.bcells (k.set i b))∧w.grownBy (w.setCell ⟨g,i,none⟩ (.bool b)) (some g)∧base≤g:=by
 have hl:=h.1
 rw[Xt.bcells_length,Nat.mul_one] at hl
 obtain ⟨g,cap,hv,hb,-⟩:=h.form (by omega)
 injection hv with h1 h2 h3
 subst h1 h3
 refine ⟨g,rfl,?_,h.frozenAt i,fun b=>?_⟩
 ·rw[h.cellAt i (by omega)]
  exact Xt.bcells_get (Xt.getD_of (by omega) false)
 ·rw[Xt.bcells_set]
  exact ⟨(h.stored i (.bool b)).1,(h.stored i (.bool b)).2,hb⟩
def IntsPost (w:World) (l:List Int) (e:Ending) (w':World):Prop:=∃A n c,e=.returned (.slice A n c)∧l.length=n∧n≤c∧c≤9223372036854775807∧w'.ownsRow w.heap.size 3 1 (.slice A n c) n (icells l)∧Below w.heap.size w w'
theorem allBlocks_snoc (l:List FileD) (f:FileD):allBlocks (l++[f])=allBlocks l++f.blocks:=by unfold allBlocks;simp
theorem allBlocks_mem {l:List FileD} {f:FileD} {z:Int} (hf:f∈l) (hz:z∈f.blocks):z∈allBlocks l:=by unfold allBlocks;exact List.mem_flatMap.2 ⟨f,hf,hz⟩
def frL (fs:List FileD) (n:Nat):List Int:=St.ints ((List.range n).filter fun i=> !St.takenP fs i)
theorem frL_succ (fs:List FileD) (n:Nat):frL fs (n+1)=frL fs n++(if St.takenP fs n then [] else [(n:Int)]):=by
 unfold frL
 rw[St.range_filter_succ]
 cases St.takenP fs n<;>simp[St.ints]
theorem frL_low (fs:List FileD) {n:Nat} (h:n≤32):frL fs n=[]:=by
 unfold frL St.ints
 rw[List.map_eq_nil_iff,List.filter_eq_nil_iff]
 intro i hi
 have:=List.mem_range.1 hi
 unfold St.takenP
 simp
 omega
theorem taken_in {fs:List FileD} {n:Nat} (h:32≤n):St.takenP fs n=inP (allBlocks fs) n:=by
 unfold St.takenP inP
 simp
 intro
 omega
set_option maxRecDepth 100000 in
set_option maxHeartbeats 4000000 in
theorem rfree_any (A:Option Addr) (n c:Nat) (m:ManD) (cn:Nat) (w:World) (h:ManAt w w.heap.size A n c m) (hn:n≤1000000) (hcn:cn≤65536) (hc0:32≤cn) (hd:∀z∈allBlocks m.files,0≤z∧z<(cn:Int)) :
 Calls Tryz.prog 15 #[mval m.version m.next A n c,.int .i64 (cn:Int)] w (IntsPost w (St.ints (St.freeM cn m.files))):=by
 obtain ⟨i0,hi0,hz0,hz1,hz2⟩:=info_parts Xt.bool_info
 obtain ⟨i1,hi1,hy0,hy1,hy2⟩:=info_parts int_info
 obtain ⟨v,hv⟩:∃v,v=m.version:=⟨_,rfl⟩
 obtain ⟨x,hx⟩:∃x,x=m.next:=⟨_,rfl⟩
 rw[←hv,←hx]
 obtain ⟨H,hH⟩:∃H,H=w.heap.size:=⟨_,rfl⟩
 obtain ⟨w0,hw0⟩:∃w0,w0=w.alloc (mbox v x A n c):=⟨_,rfl⟩
 have hb0:Below w.heap.size w w0:=by rw[hw0];exact (Below.refl _ _).alloc (Nat.le_refl _) _
 have hs0:w0.heap.size=H+1:=by rw[hw0,hH];simp
 have BK0:=Lib.hid (show Blk w0 H [.int .u64 (v:Int),.int .u32 (x:Int),.slice A n c] by rw[hw0,hH];exact Blk.new w [.int .u64 (v:Int),.int .u32 (x:Int),.slice A n c] _)
 have HL:=Lib.hid h.len
 have HF:=Lib.hid h.files
 have HD:=Lib.hid hd
 have HB0:=Lib.hid hb0
 have HW0:=Lib.hid hw0
 have HHW:=Lib.hid hH
 have HBY:=Lib.hid (show i0.bytes*cn≤281474976710656 by rw[hz2];omega)
 have HMX:=Lib.hid (show cn≤maxLen by unfold maxLen;omega)
 have HSZ:=Lib.hid hs0
 clear h hd hb0 hw0 hH hv hx hs0
 go_enter Tryz.func15,Tryz.ntmps15
 go_upto_region 1 with fail
 rw[←HW0.out,←HHW.out]
 clear HW0
 go_wp2_with (refine wpList_make_full w0 rfl _ _ 95 rfl w0.heap.size 4 i0 _ 1 Tryz.underlying95 hi0 hz0 hz1 .i64 .i64 _ _ cn rfl rfl rfl rfl HBY.out HMX.out (Nat.le_refl _) ?_
              intro w1 ho1 hg1
              rw[HSZ.out,Xt.made_free] at ho1
              have HO1:=Lib.hid ho1
              have HB1:=Lib.hid (show Below w0.heap.size w0 w1 from (Below.refl _ _).grown hg1 (Nat.le_refl _) (fun k e=>by cases e))
              rw[HSZ.out]
              have c2:=(BK0.out.past HB1.out).cell (i:=2) rfl
              clear ho1 hg1)
 clear c2
 go_loopw [15] (fun z wr=>∃j:Nat,z=.int .i64 (j:Int)∧j≤n∧Hid (Blk wr H [.int .u64 (v:Int),.int .u32 (x:Int),.slice A n c])∧Hid (wr.ownsRow (H+1) 4 1 (.slice (some ⟨H+1,0,none⟩) cn cn) cn (Xt.bcells (St.charK cn (inP (allBlocks (m.files.take j))))))∧Hid (Below w.heap.size w wr)) (fun z _=>n-(intOf z).toNat)
 case atStart=>
  refine ⟨0,rfl,Nat.zero_le _,Lib.hid (BK0.out.past HB1.out),Lib.hid ?_,Lib.hid (HB0.out.trans (HB1.out.mono HB0.out.size))⟩
  have e:St.charK cn (inP (allBlocks (m.files.take 0)))=List.replicate cn false:=St.charK_new
  rw[e]
  exact HO1.out
 case round=>
  clear BK0 HO1 HB1 HB0
  obtain ⟨j,rfl,hj,BK,HR,HB⟩:=hrel
  have c2:=BK.out.cell (i:=2) rfl
  by_cases hlt:j<n
  ·obtain ⟨f,hf⟩:∃f,m.files[j]?=some f:=⟨_,List.getElem?_eq_getElem (by rw[HL.out];exact hlt)⟩
   obtain ⟨a,rfl,hab,A3,n3,c3,-,-,-,g3,l3,b3,m3,k3⟩:=HF.out.get hf
   have hlt':(j:Int)<(n:Int):=by omega
   have HTK:=Lib.hid (show m.files.take (j+1)=m.files.take j++[f] by rw[List.take_add_one,hf];rfl)
   have HFM:=Lib.hid (List.mem_of_getElem? hf)
   have HL3:=Lib.hid l3
   have HK3:=Lib.hid k3
   have HG3:=Lib.hid g3
   have HAB:=Lib.hid (show (a.add (j*4)).block<w.heap.size by rw[block_add];exact hab)
   replace g3:=(HB.out.cell (p:=⟨(a.add (j*4)).block,(a.add (j*4)).off+3,none⟩) HAB.out).trans g3
   have hsH:H+1<wr.heap.size:=(HR.out.lt (H+1) rfl).2
   generalize wr=wo at *
   clear hf l3 k3 hab
   go_wp2_with fail
   go_loopw [25] (fun z wr=>∃k:Nat,z=.int .i64 (k:Int)∧k≤n3∧Hid (Blk wr H [.int .u64 (v:Int),.int .u32 (x:Int),.slice (some a) n c])∧Hid (wr.ownsRow (H+1) 4 1 (.slice (some ⟨H+1,0,none⟩) cn cn) cn (Xt.bcells (St.charK cn (inP (allBlocks (m.files.take j)++f.blocks.take k)))))∧Hid (Below w.heap.size w wr)) (fun z _=>n3-(intOf z).toNat)
   case atStart=>exact ⟨0,rfl,Nat.zero_le _,BK,Lib.hid (by rw[List.take_zero,List.append_nil];exact HR.out),HB⟩
   case round=>
    clear c2 g3 HR BK HB hsH
    obtain ⟨k,rfl,hk,BK,HR,HB⟩:=hrel
    have c2:=BK.out.cell (i:=2) rfl
    have g3:=(HB.out.cell (p:=⟨(a.add (j*4)).block,(a.add (j*4)).off+3,none⟩) HAB.out).trans HG3.out
    by_cases hkl:k<n3
    ·obtain ⟨z,hz⟩:∃z,f.blocks[k]?=some z:=⟨_,List.getElem?_eq_getElem (by rw[HL3.out];exact hkl)⟩
     obtain ⟨a3,rfl,-,hcz⟩:=(HK3.out.below HB.out) (by rw[icells_length,HL3.out];omega)
     have e3:=hcz k (.int .i64 z) (by unfold icells;rw[List.getElem?_map,hz];rfl)
     have hzb:=HD.out z (allBlocks_mem HFM.out (List.mem_of_getElem? hz))
     obtain ⟨i,rfl⟩:∃i:Nat,z=(i:Int):=⟨z.toNat,by omega⟩
     obtain ⟨g,hge,-,hfz,hset⟩:=own_row HR.out (i:=i) (by omega)
     injection hge with hge
     injection hge with hge
     subst hge
     obtain ⟨q1,q2,-⟩:=hset true
     have hcell:wr.cell? ⟨H+1,i,none⟩=some _:=(HR.out.cellAt i (by omega)).trans (Xt.bcells_get (St.charK_get (by omega)))
     have hkl':(k:Int)<(n3:Int):=by omega
     have hi':(i:Int)<(cn:Int):=hzb.2
     have HR2:=Lib.hid (show (wr.setCell ⟨H+1,i,none⟩ (.bool true)).ownsRow (H+1) 4 1 (.slice (some ⟨H+1,0,none⟩) cn cn) cn (Xt.bcells (St.charK cn (inP (allBlocks (m.files.take j)++f.blocks.take (k+1))))) by
      rw[List.take_add_one,hz,←List.append_assoc]
      show World.ownsRow _ _ _ _ _ _ (Xt.bcells (St.charK cn (inP (_++[(i:Int)]))))
      rw[←inP_snoc,←St.charK_set]
      exact q1)
     have HB2:=Lib.hid (show Below w.heap.size w (wr.setCell ⟨H+1,i,none⟩ (.bool true)) from HB.out.trans (below_past q2 (by have:=HHW.out;omega) HB.out.size))
     have BK2:=Lib.hid (BK.out.other (p:=⟨H+1,i,none⟩) (by show H+1≠H;omega) (.bool true))
     clear hz hcz hzb hset q1 q2 HR BK HB
     go_wp2_with fail
     exact ⟨⟨k+1,by simp,hkl,BK2,HR2,HB2⟩,by simp[intOf];omega⟩
    ·have e:k=n3:=by omega
     subst e
     have HR2:=Lib.hid (show wr.ownsRow (H+1) 4 1 (.slice (some ⟨H+1,0,none⟩) cn cn) cn (Xt.bcells (St.charK cn (inP (allBlocks (m.files.take (j+1)))))) by
      have:=HR.out
      rw[show f.blocks.take k=f.blocks from List.take_of_length_le (by rw[HL3.out];exact Nat.le_refl _)] at this
      rw[HTK.out,allBlocks_snoc]
      exact this)
     clear HR
     go_wp2_with fail
     exact ⟨⟨j+1,by simp,hlt,BK,HR2,HB⟩,by simp[intOf];omega⟩
  ·have e:j=n:=by omega
   subst e
   have HR2:=Lib.hid (show wr.ownsRow (H+1) 4 1 (.slice (some ⟨H+1,0,none⟩) cn cn) cn (Xt.bcells (St.charK cn (inP (allBlocks m.files)))) by
    have:=HR.out
    rwa[List.take_of_length_le (by rw[HL.out];exact Nat.le_refl _)] at this)
   obtain ⟨wb,hwb⟩:∃wb,wb=wr.alloc (.cells #[] 3):=⟨_,rfl⟩
   have hbb:Below wr.heap.size wr wb:=by rw[hwb];exact (Below.refl _ _).alloc (Nat.le_refl _) _
   have HWB:=Lib.hid hwb
   have HB2:=Lib.hid (HB.out.trans (hbb.mono HB.out.size))
   have HR3:=Lib.hid (own_below' HR2.out hbb)
   have HOW:=Lib.hid (show wb.ownsRow wr.heap.size 3 1 (.slice (some ⟨wr.heap.size,0,none⟩) 0 0) 0 (icells (frL m.files 32)) by
    rw[frL_low m.files (Nat.le_refl 32),hwb]
    exact World.ownsRow_lit wr #[] 0 (Nat.le_refl _) (by unfold maxLen;omega) rfl)
   have hB5:=(HR.out.lt (H+1) rfl).2
   have HSB:=Lib.hid hbb.size
   obtain ⟨B5,hB5e⟩:∃B5,B5=wr.heap.size:=⟨_,rfl⟩
   rw[←hB5e] at hB5 HOW HSB
   have HB5:=Lib.hid hB5e
   generalize wr=wo at *
   clear c2 HR HR2 hwb hbb BK hB5e
   go_wp2_with fail
   rw[←HWB.out,←HB5.out]
   go_loopw [9,8] (fun z v wr=>∃(i:Nat) (FA:Option Addr) (q fc:Nat),z=.int .i64 (i:Int)∧v=.slice FA q fc∧32≤i∧i≤cn∧q≤i∧Hid ((frL m.files i).length=q)∧Hid (wr.ownsRow B5 3 1 (.slice FA q fc) q (icells (frL m.files i)))∧Hid (wr.ownsRow (H+1) 4 1 (.slice (some ⟨H+1,0,none⟩) cn cn) cn (Xt.bcells (St.charK cn (inP (allBlocks m.files)))))∧Hid (Below w.heap.size w wr)∧B5≤wr.heap.size) (fun z _ _=>cn-(intOf z).toNat)
   case atStart=>exact ⟨32,_,0,0,rfl,rfl,Nat.le_refl _,hc0,Nat.zero_le _,Lib.hid (by rw[frL_low m.files (Nat.le_refl 32)];rfl),HOW,HR3,HB2,HSB.out⟩
   case round=>
    clear HOW HR3 HB2 HSB HWB
    obtain ⟨i,FA,q,fc,rfl,rfl,h32,hic,hqi,HQ,HOW,HR,HB,hsz⟩:=hrel
    by_cases hil:i<cn
    ·have hcell:wr.cell? ⟨H+1,i,none⟩=some _:=(HR.out.cellAt i (by rw[Nat.mul_one];exact hil)).trans (Xt.bcells_get (St.charK_get hil))
     have hil':(i:Int)<(cn:Int):=by omega
     obtain ⟨b,hb⟩:∃b,b=inP (allBlocks m.files) i:=⟨_,rfl⟩
     rw[←hb] at hcell
     have HTK:=Lib.hid (taken_in (fs:=m.files) h32)
     rw[←hb] at HTK
     clear hb
     cases b with
     |true=>
      have HE:=Lib.hid (show frL m.files (i+1)=frL m.files i by rw[frL_succ,HTK.out];simp)
      go_wp2_with fail
      exact ⟨⟨i+1,FA,q,fc,by simp,rfl,by omega,hil,by omega,Lib.hid (by rw[HE.out];exact HQ.out),Lib.hid (by rw[HE.out];exact HOW.out),HR,HB,hsz⟩,by simp[intOf];omega⟩
     |false=>
      have HE:=Lib.hid (show frL m.files (i+1)=frL m.files i++[(i:Int)] by rw[frL_succ,HTK.out];simp)
      have hnew:=Xt.int_new wr (i:Int) 3
      have HNEW:=Lib.hid hnew
      have HW3:=Lib.hid (HOW.out.alloc (.cells #[.int .i64 (i:Int)] 3))
      have HBA:=Lib.hid (show B5≤(wr.alloc (.cells #[.int .i64 (i:Int)] 3)).heap.size by rw[World.size_alloc];omega)
      have HMQ:=Lib.hid (show q+1≤maxLen by unfold maxLen;omega)
      have HI1:=Lib.hid (icells_one [(i:Int)])
      have HBW:=Lib.hid (HB.out.alloc HB.out.size (.cells #[.int .i64 (i:Int)] 3))
      have HRW:=Lib.hid (HR.out.alloc (.cells #[.int .i64 (i:Int)] 3))
      clear hnew
      go_wp2_with (at_builtin
                   refine wpList_append_own_at (w:=wr.alloc (.cells #[.int .i64 (i:Int)] 3)) rfl (.tmp 52) (.tmp 54) 45 rfl B5 3 i1 _ 1 8 Tryz.underlying45 hi1 hy0 hy1 hy2 rfl (by decide) (.slice FA q fc) q _ rfl HW3.out ⟨wr.heap.size,0,none⟩ 1 1 (icells [(i:Int)]) rfl rfl HNEW.out HI1.out HMQ.out (by omega) HBA.out ?_
                   intro v2 w3 hown2 hg2 hnil2 hat2
                   have HW4:=Lib.hid hown2
                   have HG2:=Lib.hid hg2
                   clear hown2 hg2 hnil2 hat2)
      obtain ⟨A2,c2,hv2,-⟩:=own_slice' HW4.out
      subst hv2
      have HR4:=Lib.hid (show w3.ownsRow (H+1) 4 1 (.slice (some ⟨H+1,0,none⟩) cn cn) cn (Xt.bcells (St.charK cn (inP (allBlocks m.files)))) from own_out HRW.out (Out.of_grown (S:=fun k=>(Value.slice FA q fc).ownBlock=some k) HG2.out (fun k e _=>e)) (fun k e1 e2=>by have h1:=(HOW.out.lt k e2).1;have e3:H+1=k:=Option.some.inj e1;omega))
      have HB4:=Lib.hid (show Below w.heap.size w w3 from HBW.out.grown HG2.out HBW.out.size (fun k e=>by have:=(HOW.out.lt k e).1;have:=HHW.out;omega))
      have hs4:B5≤w3.heap.size:=Nat.le_trans HBA.out HG2.out.size
      exact ⟨⟨i+1,A2,q+1,c2,by simp,rfl,by omega,hil,by omega,Lib.hid (by rw[HE.out,List.length_append,HQ.out];rfl),Lib.hid (by rw[HE.out,icells_append];exact HW4.out),HR4,HB4,hs4⟩,by simp[intOf];omega⟩
    ·have e:i=cn:=by omega
     subst e
     go_wp2_with fail
     go_ret
     obtain ⟨b1,b2⟩:=own_bounds HOW.out
     exact ⟨FA,q,fc,rfl,HQ.out,b1,b2,own_more HOW.out (by have:=HHW.out;omega),HB.out⟩
end Go.Proofs.YtiocpefgccndbaaGreat
end
section
namespace Go.Proofs.YtiocpefgccndbaaGreat
open Go.RowKit Me Mf Rw Ds Va Go.Maps
theorem Cs.drop {w:World} {B:Nat} {A:Option Addr} {vs:List Value} (h:Cs w B A vs) {k cap s:Nat} (hc:vs.length≤cap*s) (hs:0<s):Cs w B (if cap=k then A else A.map (·.add (k*s))) (vs.drop (k*s)):=fun hn=>by
 obtain ⟨a,rfl,hb,hcell⟩:=h (by simp at hn;omega)
 have hk:k*s<cap*s:=by simp at hn;omega
 have hk':k<cap:=Nat.lt_of_mul_lt_mul_right hk
 rw[if_neg (by omega)]
 refine ⟨a.add (k*s),rfl,by rw[block_add];exact hb,fun j u hu=>?_⟩
 rw[add_add]
 exact hcell _ u (by rw[←hu,List.getElem?_drop])
theorem fcl_drop (l:List FB) (k:Nat):(fcl l).drop (k*2)=fcl (l.drop k):=by
 have:=Rw.rows_drop (f:=fun f:FB=>[sv f.1,sv f.2]) (s:=2) (l:=l) (k:=k) (fun x _=>rfl)
 exact this
theorem fcl_take (l:List FB) (k:Nat):(fcl l).take (k*2)=fcl (l.take k):=by
 have h1:fcl l=fcl (l.take k)++fcl (l.drop k):=by rw[←fcl_append,List.take_append_drop]
 rw[h1]
 by_cases hk:k≤l.length
 ·have:(fcl (l.take k)).length=k*2:=by rw[fcl_length,List.length_take,Nat.min_eq_left hk]
  rw[←this,List.take_left]
 ·rw[List.take_of_length_le (by rw[←h1,fcl_length];omega),←h1,List.take_of_length_le (by omega)]
theorem icells_drop (l:List Int) (k:Nat):(icells l).drop k=icells (l.drop k):=by unfold icells;rw[List.map_drop]
theorem ints_drop (l:List Nat) (k:Nat):(St.ints l).drop k=St.ints (l.drop k):=by unfold St.ints;rw[List.map_drop]
theorem ints_take (l:List Nat) (k:Nat):(St.ints l).take k=St.ints (l.take k):=by unfold St.ints;rw[List.map_take]
def listP (now:List FB) (ch:List (List UInt8)):List (List UInt8×Option Nat):=now.map fun f=>(f.1,if f.1∈ch then some f.2.length else none)
theorem listP_at {now:List FB} {ch:List (List UInt8)} {i:Nat} {f:FB} (h:now[i]?=some f):(listP now ch)[i]?=some (f.1,if f.1∈ch then some f.2.length else none):=by unfold listP;rw[List.getElem?_map,h];rfl
theorem PlanI_filter {fs acc:List FileD} {L:List (List UInt8×Option Nat)} {fr0 fr:List Nat} {nx0 nx j:Nat} {x:List UInt8} (h:PlanI fs L fr0 nx0 j acc fr nx) (hx:L[j]?=some (x,none)):PlanI fs L fr0 nx0 (j+1) (acc++fs.filter fun g=>g.name==x) fr nx:=⟨by
 rw[h.eq,drop_at hx,St.planL,Option.map_map]
 congr 1
 funext r
 simp⟩
def plT (own:Nat→Prop) (R G:Nat) (v:Value):Nat→Prop:=fun k=>own k∨k=R∨k=G∨v.ownBlock=some k
structure PlS (w1 wr:World) (own:Nat→Prop) (R G ve nx:Nat) (FA:Option Addr) (j fc:Nat) (acc:List FileD):Prop where
 box:Blk wr G [.int .u64 (ve:Int),.int .u32 (nx:Int),.slice FA j fc]
 row:∃vs,wr.ownsRow (G+1) 97 4 (.slice FA j fc) j vs∧FKs (plT own R G (.slice FA j fc)) wr vs acc
 len:acc.length=j
 wf:∀f∈acc,WfF f∧f.name.length≤32
 g:G=w1.heap.size
 below:Below w1.heap.size w1 wr
 size:G+1≤wr.heap.size
section
variable {w1 wr w':World} {own:Nat→Prop} {R G ve nx j fc:Nat} {FA:Option Addr} {acc:List FileD}
theorem PlS.past (h:PlS w1 wr own R G ve nx FA j fc acc) (hb:Below wr.heap.size wr w'):PlS w1 w' own R G ve nx FA j fc acc:=by
 obtain ⟨vs,hr,hf⟩:=h.row
 exact ⟨h.box.past hb,⟨vs,own_below' hr hb,hf.next (.of_below hb) (fun k hk=>.inl hk)⟩,h.len,h.wf,h.g,h.below.trans (hb.mono h.below.size),Nat.le_trans h.size hb.size⟩
theorem PlS.new {w:World} (hG:G=w.heap.size) (hb:Below w.heap.size w wr) (hB:Blk wr G [.int .u64 (ve:Int),.int .u32 (nx:Int),.slice none 0 0]):PlS w wr own R G ve nx none 0 0 []:=
 ⟨hB,⟨[],World.ownsRow_nil _ _ _ _,FKs.nil _ _⟩,rfl,(fun f h=>by cases h),hG,hb,hB.lt⟩
theorem PlS.push (h:PlS w1 wr own R G ve nx FA j fc acc) (hj:j≤1000000) {f:FileD} (hwf:WfF f∧f.name.length≤32) {A3:Option Addr} {n3 c3:Nat} (hfv:FKv (plT own R G (.slice FA j fc)) wr f A3 n3 c3) :
 ∃FA' fc' wB,(Builtin.append_ #[36,36] 36 #[.slice FA j fc,.slice (some ⟨wr.heap.size,0,none⟩) 1 1]).run Tryz.prog (wr.alloc (fbox f.name f.id f.size A3 n3 c3))=.ok (.slice FA' (j+1) fc') wB ∧
  (storeVar 36 ⟨G,2,none⟩ (.slice FA' (j+1) fc')).run Tryz.prog wB=.ok () (wB.setCell ⟨G,2,none⟩ (.slice FA' (j+1) fc')) ∧
  PlS w1 (wB.setCell ⟨G,2,none⟩ (.slice FA' (j+1) fc')) own R G ve nx FA' (j+1) fc' (acc++[f])∧Blk wB G [.int .u64 (ve:Int),.int .u32 (nx:Int),.slice FA j fc]∧j+1≤fc':=by
 obtain ⟨vs,hr,hf⟩:=h.row
 obtain ⟨FA',fc',wB,h1,h2,h3,h4,h5,h6,h7,h8⟩:=push_file hr h.box (Nat.lt_succ_self G) h.size hj f.name f.id f.size A3 n3 c3
 have ho:Out (plT own R G (.slice FA j fc)) wr (wB.setCell ⟨G,2,none⟩ (.slice FA' (j+1) fc')):=h5.more fun k _ hk=>by
  rcases hk with rfl|hk
  ·exact .inr (.inr (.inl rfl))
  ·exact .inr (.inr (.inr hk))
 have hs:∀k,plT own R G (.slice FA' (j+1) fc') k→plT own R G (.slice FA j fc) k∨wr.heap.size≤k:=fun k hk=>by
  rcases hk with q|q|q|q
  ·exact .inl (.inl q)
  ·exact .inl (.inr (.inl q))
  ·exact .inl (.inr (.inr (.inl q)))
  ·rcases h6 k q with e|e
   ·exact .inl (.inr (.inr (.inr e)))
   ·exact .inr e
 refine ⟨FA',fc',wB,h1,h2,⟨h4,⟨_,h3,(hf.next ho hs).snoc (hfv.next ho hs)⟩,by rw[List.length_append,h.len];rfl,fun g hg=>?_,h.g,h.below.trans (h5.below (fun k _ hk=>?_) h.below.size),Nat.le_trans h.size h5.size⟩,h8,h7⟩
 ·rcases List.mem_append.1 hg with q|q
  ·exact h.wf g q
  ·rw[List.mem_singleton.1 q];exact hwf
 ·have hg:=h.g
  rcases hk with rfl|hk
  ·omega
  ·have:=(hr.lt k hk).1;omega
theorem PlS.step (h:PlS w1 wr own R G ve nx FA j fc acc) (nx':Nat):PlS w1 (wr.setCell ⟨G,1,none⟩ (.int .u32 (nx':Int))) own R G ve nx' FA j fc acc:=by
 obtain ⟨vs,hr,hf⟩:=h.row
 have ho:Out (fun k=>k=G) wr (wr.setCell ⟨G,1,none⟩ (.int .u32 (nx':Int))):=(Out.refl (fun k=>k=G) wr).setCell (p:=⟨G,1,none⟩) (.inl rfl) _
 refine ⟨h.box.set 1 _,⟨vs,own_out hr ho (fun k hk e=>by have:=(hr.lt k hk).1;omega),hf.next (ho.more (S':=plT own R G (.slice FA j fc)) fun k _ hk=>.inr (.inr (.inl hk))) fun k hk=>.inl hk⟩,h.len,h.wf,h.g,h.below.trans (ho.below (fun k _ hk=>by have:=h.g;omega) h.below.size),by rw[World.size_setCell];exact h.size⟩
theorem PlS.man (h:PlS w1 wr own R G ve nx FA j fc acc) (hfc:j≤fc) (hj:j≤1000000) (hve:ve<18446744073709551616) (hnx:nx<4294967296) (hR:R<G) (hown:∀k,own k→k<G):ManK (fun k=>own k∨k=R) FA j fc ⟨ve,nx,acc⟩ wr:=by
 obtain ⟨vs,hr,hf⟩:=h.row
 refine FKs.man (m:=⟨ve,nx,acc⟩) (hf.next (T':=fun k=>own k∨k=R) (Out.refl _ _) (fun k hk=>hk.elim (fun q=>.inl (.inl q)) (fun q=>.inl (.inr (.inl q))))) hr (fun k hk ho=>?_) h.len hfc (by omega) ⟨hve,hnx,fun f hf=>(h.wf f hf).1⟩
 have:=(hr.lt k hk).1
 rcases ho with ho|ho
 ·have:=hown k ho;omega
 ·omega
end
end Go.Proofs.YtiocpefgccndbaaGreat
end
section
namespace Go.Proofs.YtiocpefgccndbaaGreat
open Go.RowKit Me Mf Rw Ds Va Go.Maps
def PlPost (w:World) (own:Nat→Prop) (m:ManD) (cn:Nat) (now:List FB) (ch:List (List UInt8)) (e:Ending) (w':World):Prop:=
 Below w.heap.size w w'∧((∃fs nx A n c b,St.planL m.files (listP now ch) (St.freeM cn m.files) m.next=some (fs,nx)∧e=.returned (.tuple #[mval (m.version+1) nx A n c,.bool b])∧(b=true↔Fit ⟨m.version+1,nx,fs⟩)∧ManK own A n c ⟨m.version+1,nx,fs⟩ w') ∨
  (St.planL m.files (listP now ch) (St.freeM cn m.files) m.next=none∧e=.returned (.tuple #[mval 0 0 none 0 0,.bool false])))
def plB (G H k j fc n c H5 id n3 c3 fc':Nat) (FA FA' A3:Option Addr) (a:Addr) (nm:List UInt8) (sz:Int):Gw.Fact:=fun t v _=>
 match t with
 |11=>v=.pointer (some ⟨G,0,none⟩)
 |55|64=>v=.pointer (some ⟨G,2,none⟩)
 |56=>v=.slice FA j fc
 |4=>v=.pointer (some ⟨H,0,none⟩)
 |57=>v=.pointer (some ⟨H,2,none⟩)
 |58=>v=.slice (some a) n c
 |13|59=>v=.int .i64 (k:Int)
 |60=>v=.pointer (some (a.add (k*4)))
 |61=>v=.agg #[sv nm,.int .u32 (id:Int),.int .i64 sz,.slice A3 n3 c3]
 |62=>v=.slice (some ⟨H5,0,none⟩) 1 1
 |63=>v=.slice FA' (j+1) fc'
 |_=>True
def plC (G i j fc n2 c2 nx s pg H5 nf cf c3 fc':Nat) (FA FA' AF A3:Option Addr) (a2:Addr) (nm b:List UInt8):Gw.Fact:=fun t v _=>
 match t with
 |11=>v=.pointer (some ⟨G,0,none⟩)
 |82|104=>v=.pointer (some ⟨G,2,none⟩)
 |83=>v=.slice FA j fc
 |2|84|91=>v=.slice (some a2) n2 c2
 |12|85|92=>v=.int .i64 (i:Int)
 |86|87|93=>v=.pointer (some (a2.add (i*2)))
 |88=>v=sv nm
 |89=>v=.pointer (some ⟨G,1,none⟩)
 |90=>v=.int .u32 (nx:Int)
 |94=>v=.pointer (some ⟨(a2.add (i*2)).block,(a2.add (i*2)).off+1,none⟩)
 |95=>v=sv b
 |96=>v=.int .i64 (s:Int)
 |10|97=>v=.slice AF nf cf
 |14|98|99=>v=.int .i64 (pg:Int)
 |100=>v=.slice A3 pg c3
 |101=>v=.agg #[sv nm,.int .u32 (nx:Int),.int .i64 (s:Int),.slice A3 pg c3]
 |102=>v=.slice (some ⟨H5,0,none⟩) 1 1
 |103=>v=.slice FA' (j+1) fc'
 |_=>True
def plD (H k i n c n2 c2:Nat) (a a2:Addr) (x y:List UInt8) (b:Bool):Gw.Fact:=fun t v _=>
 match t with
 |4=>v=.pointer (some ⟨H,0,none⟩)
 |43=>v=.pointer (some ⟨H,2,none⟩)
 |44=>v=.slice (some a) n c
 |13|45=>v=.int .i64 (k:Int)
 |46|47=>v=.pointer (some (a.add (k*4)))
 |48=>v=sv x
 |2|49=>v=.slice (some a2) n2 c2
 |12|50=>v=.int .i64 (i:Int)
 |51|52=>v=.pointer (some (a2.add (i*2)))
 |53=>v=sv y
 |54=>v=.bool b
 |_=>True
def YesB (M:Prop) (v:Value):Prop:=∃b,v=.bool b∧(b=true↔M)
def plE (G H R vp nx j fc ver:Nat) (FA:Option Addr) (M:Prop):Gw.Fact:=fun t v _=>
 match t with
 |11=>v=.pointer (some ⟨G,0,none⟩)
 |113|118=>v=mval vp nx FA j fc
 |4=>v=.pointer (some ⟨H,0,none⟩)
 |114=>v=.pointer (some ⟨H,0,none⟩)
 |115=>v=.int .u64 (ver:Int)
 |116|117=>v=.bool true
 |8=>v=.pointer (some ⟨R,0,none⟩)
 |119|120|9=>YesB M v
 |_=>True
theorem run_cut (w:World) (A:Option Addr) (n c k:Nat) (hk:k≤c):(Instr.sliceAt 45 (.slice A n c) none (some (.int .i64 (k:Int))) (some (.int .i64 (k:Int)))).run Tryz.prog w=.ok (.slice A k k) w:=by
 have h:Tryz.prog.underlying 45=some (.slice (Tryz.prog.elem 45)):=by simp[Program.elem,Tryz.underlying45]
 rw[run_sliceAt_slice w _ _ _ _ _ h,run_slice_hm w _ _ _ _ h .i64 .i64 _ _ (by omega) (by omega) (by omega)]
 have hz:(Go.sizeOf (Tryz.prog.elem 45)).run Tryz.prog w=.ok 1 w:=by kernel_rfl
 rw[hz]
 simp[Result.andThen,sliced,add_zero']
theorem ok_cut {o:Oper} {a:Act} {w:World} {p:Value→World→Prop} {t:TypeId} {x hi mx:Operand} {u v1 v2 r:Value} (ho:o.op=.slice t x none (some hi) (some mx)) (hx:a.eval x=u) (h1:a.eval hi=v1) (h2:a.eval mx=v2)
 (hr:(Instr.sliceAt t u none (some v1) (some v2)).run Tryz.prog w=.ok r w) (h:p r w):Gw.OkP Tryz.prog o a w p:=by
 unfold Gw.OkP execOp
 simp only[ho,hx,h1,h2,Option.map_none,Option.map_some,Sem.run_bind,hr,Result.andThen_ok,Sem.run_pure]
 exact h
def plI (wr:World) (R:Nat) (cs:List Value) (p:Nat) (W:World):Prop:=if p=0 then Below wr.heap.size wr W else Blk W R cs∧Out (fun k=>k=R) wr W
set_option maxRecDepth 100000 in
set_option maxHeartbeats 4000000 in
theorem rplan_any {w:World} {own:Nat→Prop} (hown:∀k,own k→k<w.heap.size) (A:Option Addr) (n c:Nat) (m:ManD) (hm:ManK own A n c m w) (hf:Fit m) (cn:Nat) (hcn:32≤cn∧cn≤65536) (hd:∀z∈allBlocks m.files,z<(cn:Int)) (hv:m.version<18446744073709551615)
 (A2:Option Addr) (n2 c2:Nat) (now:List FB) (hl2:now.length=n2) (hn2:n2≤100) (hc2:n2≤c2∧c2≤9223372036854775807) (hr2:Cs w w.heap.size A2 (fcl now)) (hb2:∀f∈now,f.1.length≤32∧f.2.length≤1048576)
 (A3:Option Addr) (n3 c3:Nat) (ch:List (List UInt8)) (hl3:ch.length=n3) (hn3:n3≤1000000) (hr3:Cs w w.heap.size A3 (ch.map sv)) :
 Calls Tryz.prog 80 #[mval m.version m.next A n c,.int .i64 (cn:Int),.slice A2 n2 c2,.slice A3 n3 c3] w (PlPost w own m cn now ch):=by
 obtain ⟨i0,hi0,hz0,hz1,hz2⟩:=info_parts file_info
 have hml:=hm.now.len
 have hnn:n≤2035:=by have:=files_len hf;omega
 have hnx:=hm.now.wf.next
 obtain ⟨ver,hver⟩:∃v,v=m.version:=⟨_,rfl⟩
 obtain ⟨nx0,hnx0⟩:∃x,x=m.next:=⟨_,rfl⟩
 rw[←hver,←hnx0]
 rw[←hver] at hv
 rw[←hnx0] at hnx
 obtain ⟨H,hH⟩:∃H,H=w.heap.size:=⟨_,rfl⟩
 obtain ⟨wa,hwa⟩:∃wa,wa=w.alloc (mbox ver nx0 A n c):=⟨_,rfl⟩
 have hba:Below w.heap.size w wa:=by rw[hwa];exact (Below.refl _ _).alloc (Nat.le_refl _) _
 have hsa:wa.heap.size=H+1:=by rw[hwa,hH];simp
 obtain ⟨wb,hwb⟩:∃wb,wb=wa.alloc (.cells #[.int .u64 0,.int .u32 0,.slice none 0 0] 38):=⟨_,rfl⟩
 have hbb:Below wa.heap.size wa wb:=by rw[hwb];exact (Below.refl _ _).alloc (Nat.le_refl _) _
 have hsb:wb.heap.size=H+2:=by rw[hwb];simp[hsa]
 have BM0:Blk wa H [.int .u64 (ver:Int),.int .u32 (nx0:Int),.slice A n c]:=by rw[hwa,hH];exact Blk.new w [.int .u64 (ver:Int),.int .u32 (nx0:Int),.slice A n c] _
 have BM:=Lib.hid (BM0.past hbb)
 have BR:=Lib.hid (show Blk wb (H+1) [.int .u64 0,.int .u32 0,.slice none 0 0] by rw[hwb,←hsa];exact Blk.new wa [.int .u64 0,.int .u32 0,.slice none 0 0] _)
 have HBB:=Lib.hid (hba.trans (hbb.mono hba.size))
 have HWA:=Lib.hid hwa
 have HWB:=Lib.hid hwb
 have HSA:=Lib.hid hsa
 have HSBE:=Lib.hid hsb
 have HHW:=Lib.hid hH
 have HOWN:=Lib.hid hown
 have HM:=Lib.hid hm
 have HF:=Lib.hid hf
 have HD:=Lib.hid hd
 have HL2:=Lib.hid hl2
 have HR2:=Lib.hid hr2
 have HB2:=Lib.hid hb2
 have HL3:=Lib.hid hl3
 have HR3:=Lib.hid hr3
 have HML:=Lib.hid hml
 have HVER:=Lib.hid hver
 have HNX0:=Lib.hid hnx0
 have hfree:=rfree_any A n c m cn wb ((hm.past (hba.trans (hbb.mono hba.size))).now) (by omega) hcn.2 hcn.1 (fun z hz=>⟨by unfold allBlocks at hz;obtain ⟨f,hf',hz⟩:=List.mem_flatMap.1 hz;have:=((hf.1.2.2.1 f hf').2.2 z hz).1;omega,hd z hz⟩)
 rw[←hver,←hnx0] at hfree
 have HFR:=Lib.hid hfree
 clear hwa hba hsa hwb hbb hsb BM0 hH hown hm hf hd hl2 hr2 hb2 hl3 hr3 hver hnx0 hfree hml
 go_enter Tryz.func80,Tryz.ntmps80
 go_upto_region 1 with fail
 rw[←HWA.out,←HWB.out,←HHW.out]
 obtain ⟨b0,b1,b2⟩:wb.cell? ⟨H,0,none⟩=_∧wb.cell? ⟨H,1,none⟩=_∧wb.cell? ⟨H,2,none⟩=_:=⟨BM.out.cell rfl,BM.out.cell rfl,BM.out.cell rfl⟩
 clear HWA HWB HSA
 go_wp2_with fail
 refine HFR.out.mono ?_
 rintro e w1 ⟨AF,nf,cf,rfl,hlf,hnf,hcf,hrf,hb1⟩
 have HB1:=Lib.hid (HBB.out.trans (hb1.mono HBB.out.size))
 have BM1:=Lib.hid (BM.out.past hb1)
 have BR1:=Lib.hid (BR.out.past hb1)
 have HLF:=Lib.hid hlf
 have HRF:=Lib.hid hrf
 have hs1:=hb1.size
 clear hlf hrf hb1 BM BR HBB HFR b0 b1 b2
 obtain ⟨b0,b1,b2⟩:w1.cell? ⟨H,0,none⟩=_∧w1.cell? ⟨H,1,none⟩=_∧w1.cell? ⟨H,2,none⟩=_:=⟨BM1.out.cell rfl,BM1.out.cell rfl,BM1.out.cell rfl⟩
 go_upto_region 3 with fail
 obtain ⟨vp,hvp⟩:∃vp,vp=ver+1:=⟨_,rfl⟩
 rw[show ((ver:Int)+1)=(vp:Int) by omega]
 have hvp64:vp<18446744073709551616:=by omega
 have HVP:=Lib.hid hvp
 clear hvp
 obtain ⟨w2,hw2⟩:∃w2,w2=w1.alloc (.cells #[.int .u64 (vp:Int),.int .u32 (nx0:Int),.slice none 0 0] 38):=⟨_,rfl⟩
 obtain ⟨G,hG⟩:∃G,G=w1.heap.size:=⟨_,rfl⟩
 obtain ⟨R,hR⟩:∃R,R=H+1:=⟨_,rfl⟩
 have hRG:R<G:=by have:=BR1.out.lt;omega
 have HS0:=Lib.hid (show PlS w1 w2 own R G vp nx0 none 0 0 [] from PlS.new hG (by rw[hw2];exact (Below.refl _ _).alloc (Nat.le_refl _) _) (by rw[hw2,hG];exact Blk.new w1 [.int .u64 (vp:Int),.int .u32 (nx0:Int),.slice none 0 0] _))
 have HOG:=Lib.hid (show ∀k,own k→k<w.heap.size from HOWN.out)
 have hHR:w.heap.size<R:=by have:=HHW.out;omega
 have HKF:=Lib.hid (show Kk (fun k=>own k∨k=R∨G≤k) (fun W=>Cs W W.heap.size AF (icells (St.ints (St.freeM cn m.files)))) w1 from fun W hW=>Cs.of_own (own_out HRF.out hW (fun k hk e=>by
  have h1:=HRF.out.lt k hk
  have h3:=HSBE.out
  rcases e with e|e|e
  ·have:=HOG.out k e;omega
  ·omega
  ·omega)))
 have HLF0:=Lib.hid (show (St.freeM cn m.files).length=nf by have:=HLF.out;rwa[St.ints_length] at this)
 have hnf64:nf≤65536:=by
  have h1:(St.freeM cn m.files).length≤cn:=by
   unfold St.freeM St.freeP
   exact Nat.le_trans (List.length_filter_le _ _) (by simp)
  have:=HLF0.out
  omega
 have HFB:=Lib.hid (show ∀b∈St.freeM cn m.files,b<65536 from fun b hb=>by have:=(freeM_at hb).1;omega)
 have HGE:=Lib.hid hG
 have HRE:=Lib.hid hR
 have HW2:=Lib.hid hw2
 rw[←hw2,←hR,←hG]
 clear hw2 hG hR HLF HRF b0 b1 b2
 go_wp2_with fail
 go_loopw [10,26] (fun v z wr=>∃(i:Nat) (AF:Option Addr) (nf cf:Nat) (fr:List Nat) (nx j fc:Nat) (FA:Option Addr) (acc:List FileD),z=.int .i64 (i:Int)∧v=.slice AF nf cf∧i≤n2∧nx<4294967296∧j≤2035*i∧j≤fc∧nf≤cf∧cf≤9223372036854775807∧nf≤65536∧countOf acc+nf≤65536+2035*j∧Hid (fr.length=nf) ∧
  Hid (Kk (fun k=>own k∨k=R∨G≤k) (fun W=>Cs W W.heap.size AF (icells (St.ints fr))) w1)∧Hid (PlanI m.files (listP now ch) (St.freeM cn m.files) nx0 i acc fr nx)∧Hid (PlS w1 wr own R G vp nx FA j fc acc)∧Hid (∀b∈fr,b<65536)) (fun _ z _=>n2-(intOf z).toNat)
 case atStart=>exact ⟨0,AF,nf,cf,St.freeM cn m.files,nx0,0,0,none,[],rfl,rfl,Nat.zero_le _,hnx,Nat.zero_le _,Nat.le_refl _,hnf,hcf,hnf64,by have:countOf ([]:List FileD)=0:=rfl;omega,HLF0,HKF,Lib.hid (PlanI.zero _ _ _ _),HS0,HFB⟩
 case round=>
  clear HS0 HKF HLF0 HFB hnf hcf hnf64 HW2
  obtain ⟨i,AF,nf,cf,fr,nx,j,fc,FA,acc,rfl,rfl,hi,hnx',hj,hjf,hnf,hcf,hnf64,hcnt,HLF,HKF,HPI,HS,HFB⟩:=hrel
  have HB:=Lib.hid (show Below w.heap.size w wr from HB1.out.trans (HS.out.below.mono HB1.out.size))
  by_cases hlt:i<n2
  ·obtain ⟨f,hf⟩:∃f,now[i]?=some f:=⟨_,List.getElem?_eq_getElem (by rw[HL2.out];exact hlt)⟩
   obtain ⟨a2,rfl,h1,h2⟩:=fcl_cells ((HR2.out.below HB.out).more HB.out.size) hf
   have HFI:=Lib.hid hf
   have HLP:=Lib.hid (listP_at (ch:=ch) hf)
   have HFX:=Lib.hid (HB2.out f (List.mem_of_getElem? hf))
   have hlt':(i:Int)<(n2:Int):=by omega
   have HAM:=Lib.hid (ramong_any A3 n3 c3 ch f.1 wr HL3.out hn3 ((HR3.out.below HB.out).more HB.out.size))
   obtain ⟨q,hq⟩:∃q,q=decide (f.1∈ch):=⟨_,rfl⟩
   rw[←hq] at HAM
   have HQ:=Lib.hid hq
   clear hf hq
   go_wp2_with fail
   refine HAM.out.mono ?_
   rintro e w' ⟨rfl,rfl⟩
   have HBM:=Lib.hid (BM1.out.past HS.out.below)
   have hbm2:=HBM.out.cell (i:=2) rfl
   cases q with
   |false=>
    have HPN:=Lib.hid (show (listP now ch)[i]?=some (f.1,none) by rw[HLP.out,if_neg (of_decide_eq_false HQ.out.symm)])
    have HHB:=Lib.hid HB.out
    have hAB2:(a2.add (i*2)).block<w.heap.size:=by
     obtain ⟨a',e,hab,-⟩:=HR2.out (by rw[fcl_length];have:=HL2.out;omega)
     injection e with e
     subst e
     rw[block_add]
     exact hab
    have h1w:w.cell? (a2.add (i*2))=some (sv f.1):=(HB.out.cell hAB2).symm.trans h1
    have HW1:=Lib.hid h1w
    have HAB2:=Lib.hid hAB2
    generalize wr=wo at *
    clear h1 h2 h1w HAM hbm2 hAB2
    have hbm2:=HBM.out.cell (i:=2) rfl
    go_wp2_with fail
    go_loopw [40] (fun z wr=>∃(k j' fc':Nat) (FA':Option Addr),z=.int .i64 (k:Int)∧k≤n∧j'≤j+k∧j'≤fc'∧Hid (countOf (acc++(m.files.take k).filter fun g=>g.name==f.1)+nf≤65536+2035*j')∧Hid (PlS w1 wr own R G vp nx FA' j' fc' (acc++(m.files.take k).filter fun g=>g.name==f.1))) (fun z _=>n-(intOf z).toNat)
    case atStart=>exact ⟨0,j,fc,FA,rfl,Nat.zero_le _,Nat.le_refl _,hjf,Lib.hid (by rw[List.take_zero,List.filter_nil,List.append_nil];exact hcnt),Lib.hid (by rw[List.take_zero,List.filter_nil,List.append_nil];exact HS.out)⟩
    case round=>
     clear HBM hbm2 HS HB HHB
     obtain ⟨k,j',fc',FA',rfl,hk,hj',hjf',HCN,HS⟩:=hrel
     have HB:=Lib.hid (show Below w.heap.size w wr from HB1.out.trans (HS.out.below.mono HB1.out.size))
     have hbm2:=(BM1.out.past HS.out.below).cell (i:=2) rfl
     by_cases hkl:k<n
     ·obtain ⟨g,hg⟩:∃g,m.files[k]?=some g:=⟨_,List.getElem?_eq_getElem (by rw[HML.out];exact hkl)⟩
      obtain ⟨a,A4,n4,c4,rfl,hab,hna,g0,g1,g2,g3,hfk⟩:=mank_at HM.out hg
      have habk:(a.add (k*4)).block<w.heap.size:=by rw[block_add];exact hab
      replace g0:=(HB.out.cell habk).trans g0
      replace g1:=(HB.out.cell (p:=⟨(a.add (k*4)).block,(a.add (k*4)).off+1,none⟩) habk).trans g1
      replace g2:=(HB.out.cell (p:=⟨(a.add (k*4)).block,(a.add (k*4)).off+2,none⟩) habk).trans g2
      replace g3:=(HB.out.cell (p:=⟨(a.add (k*4)).block,(a.add (k*4)).off+3,none⟩) habk).trans g3
      have h1:=(HB.out.cell HAB2.out).trans HW1.out
      have hkl':(k:Int)<(n:Int):=by omega
      have HTK:=Lib.hid (show (m.files.take (k+1)).filter (fun g=>g.name==f.1)=(m.files.take k).filter (fun g=>g.name==f.1)++(if g.name==f.1 then [g] else []) by
       rw[List.take_add_one,hg,List.filter_append]
       congr 1
       simp[List.filter_cons])
      have HGM:=Lib.hid (List.mem_of_getElem? hg)
      have HFK:=Lib.hid hfk
      clear hg hfk hab
      obtain ⟨b,hb⟩:∃b,b=(g.name==f.1):=⟨_,rfl⟩
      rw[←hb] at HTK
      have HBE:=Lib.hid hb
      clear hb
      go_upto_region 10 with fail
      refine Gw.wp_region_grow (plD H k i n c n2 c2 a a2 g.name f.1 b) [43,44,45,46,47,48,49,50,51,52,53,54] [([4],none),([43],none),([13],none),([44,45],none),([46],none),([47],none),([2],none),([12],none),([49,50],none),([51],none),([52],none),([48,53],none)] 121 (by kernel_rfl) (by kernel_rfl) rfl ?h0 ?hreq ?hend
      case h0=>
       intro t W hnd _
       unfold plD
       split<;>first|rfl|trivial|exact absurd (by simp) hnd
      case hreq=>
       refine ⟨?_,?_,?_,?_,?_,?_,?_,?_,?_,?_,?_,?_,trivial⟩
       all_goals
        intro ac W hg hk
        have k0:=(hg.cell (World.block_lt_of_cell? _ _ hbm2)).trans hbm2
        have k1:=(hg.cell (World.block_lt_of_cell? _ _ g0)).trans g0
        have k2:=(hg.cell (World.block_lt_of_cell? _ _ h1)).trans h1
        simp only[Gw.Knows,plD] at hk
        try (simp[go_sem,Gw.OpReq,Gw.Ok,Gw.Post,Gw.Holds,plD,Gw.Grows.refl,hk,k0,k1,k2,hlt',hkl',HBE.out];done)
      case hend=>
       intro x w' hg hx
       simp only[Gw.putAll,Act.put,List.setIfInBounds_toArray,List.set_cons_zero,List.set_cons_succ]
       have hx54:=(hx 54 (by simp)).now
       simp only[plD] at hx54
       simp only[hx54]
       have hg':Below wr.heap.size wr w':=hg
       have HS5:=Lib.hid (HS.out.past hg')
       have HB5:=Lib.hid (HB.out.trans (hg'.mono HB.out.size))
       replace g0:=(hg'.cell (World.block_lt_of_cell? _ _ g0)).trans g0
       replace g1:=(hg'.cell (World.block_lt_of_cell? _ _ g1)).trans g1
       replace g2:=(hg'.cell (World.block_lt_of_cell? _ _ g2)).trans g2
       replace g3:=(hg'.cell (World.block_lt_of_cell? _ _ g3)).trans g3
       replace hbm2:=(hg'.cell (World.block_lt_of_cell? _ _ hbm2)).trans hbm2
       clear hx hg hx54 hg' h1 HS HB
       cases b with
       |false=>
        have HE:=Lib.hid (show (m.files.take (k+1)).filter (fun g=>g.name==f.1)=(m.files.take k).filter (fun g=>g.name==f.1) by rw[HTK.out];simp)
        go_wp2_with fail
        exact ⟨⟨k+1,j',fc',FA',by simp,hkl,by omega,hjf',Lib.hid (by rw[HE.out];exact HCN.out),Lib.hid (by rw[HE.out];exact HS5.out)⟩,by simp[intOf];omega⟩
       |true=>
        have HE:=Lib.hid (show acc++(m.files.take (k+1)).filter (fun g=>g.name==f.1)=(acc++(m.files.take k).filter (fun g=>g.name==f.1))++[g] by rw[HTK.out,List.append_assoc];simp)
        have hbd:Below w'.heap.size w' w'.drew:=(Below.refl _ _).drew
        have HS6:=Lib.hid (HS5.out.past hbd)
        have HOT:=HOWN.out
        have hfv:FKv (plT own R G (.slice FA' j' fc')) w'.drew g A4 n4 c4:=HFK.out.next (Out.of_below ((HB5.out.trans (hbd.mono HB5.out.size)))) (fun q hq=>by
         rcases hq with e|e|e|e
         ·exact .inl e
         ·right;omega
         ·right;have:=hHR;have:=hRG;omega
         ·obtain ⟨vs,hr,-⟩:=HS5.out.row
          right
          have:=(hr.lt q e).1
          omega)
        have hcw:Wf m:=HM.out.now.wf
        obtain ⟨FA2,fc2,wB,hrun,hst,hS2,hGB,hfc2⟩:=HS6.out.push (by omega) ⟨hcw.files g HGM.out,(HF.out.1.1.1 g HGM.out).2⟩ hfv
        obtain ⟨wA,hwA⟩:∃wA,wA=w'.drew.alloc (fbox g.name g.id g.size A4 n4 c4):=⟨_,rfl⟩
        have hbs2:=run_slice_file w'.drew g.name g.id g.size A4 n4 c4
        have hGA:Blk wA G [.int .u64 (vp:Int),.int .u32 (nx:Int),.slice FA' j' fc']:=by rw[hwA];exact HS6.out.box.alloc _
        have m2:w'.drew.cell? ⟨G,2,none⟩=_:=HS6.out.box.cell (i:=2) rfl
        have m2A:wA.cell? ⟨G,2,none⟩=_:=hGA.cell (i:=2) rfl
        obtain ⟨wC,hwC⟩:∃wC,wC=wB.setCell ⟨G,2,none⟩ (.slice FA2 (j'+1) fc2):=⟨_,rfl⟩
        rw[←hwC] at hst hS2
        rw[←hwA] at hrun hbs2
        have hsd:w'.drew.heap.size=w'.heap.size:=rfl
        rw[hsd] at hbs2 hrun
        rw[←HE.out] at hS2
        have HRUN:=Lib.hid hrun
        have HST:=Lib.hid hst
        have HBS:=Lib.hid hbs2
        have HS7:=Lib.hid hS2
        have HCN7:=Lib.hid (show countOf (acc++(m.files.take (k+1)).filter (fun g=>g.name==f.1))+nf≤65536+2035*(j'+1) by
         rw[HE.out,countOf_snoc]
         have:=blocks_few HF.out HGM.out
         have:=HCN.out
         omega)
        replace g0:w'.drew.cell? (a.add (k*4))=_:=g0
        replace g1:w'.drew.cell? ⟨(a.add (k*4)).block,(a.add (k*4)).off+1,none⟩=_:=g1
        replace g2:w'.drew.cell? ⟨(a.add (k*4)).block,(a.add (k*4)).off+2,none⟩=_:=g2
        replace g3:w'.drew.cell? ⟨(a.add (k*4)).block,(a.add (k*4)).off+3,none⟩=_:=g3
        replace hbm2:w'.drew.cell? ⟨H,2,none⟩=_:=hbm2
        obtain ⟨nm,hnm⟩:∃nm,nm=g.name:=⟨_,rfl⟩
        obtain ⟨id,hid⟩:∃id:Nat,id=g.id:=⟨_,rfl⟩
        obtain ⟨sz,hsz⟩:∃sz,sz=g.size:=⟨_,rfl⟩
        rw[←hnm,←hid,←hsz] at HBS
        rw[←hnm] at g0
        rw[←hid] at g1
        rw[←hsz] at g2
        clear hrun hst hbs2 hS2 hsd hwA hwC hGB hGA hfv hcw hbd HOT hnm hid hsz HS5 HS6
        go_wp2_with fail
        refine Gw.wp_region_phase (fun _ _=>True) (fun _=>trivial) (fun _ _ _ _ _=>trivial) (Gw.Ph [w'.drew,wA,wB,wC]) (plB G H k j' fc' n c w'.heap.size id n4 c4 fc2 FA' FA2 A4 a nm sz) [7,8,10] [55,56,57,58,59,60,61,62,63,64] [([11],none,[0,1],false),([55],none,[0,1],false),([4],none,[0],false),([57],none,[0],false),([13],none,[0],false),([58,59],none,[0],false),([60],none,[0],false),([61],none,[0],true),([56,62],none,[1],true),([11],none,[2],false),([64,63],none,[2],true)] 121 3 (by kernel_rfl) (by kernel_rfl) rfl trivial rfl ?h0 ?hreq ?hend
        case h0=>
         intro t W hnd _
         unfold plB
         split<;>first|rfl|trivial|exact absurd (by simp) hnd
        case hreq=>
         refine ⟨⟨?_,?_,trivial⟩,⟨?_,?_,trivial⟩,⟨?_,trivial⟩,⟨?_,trivial⟩,⟨?_,trivial⟩,⟨?_,trivial⟩,⟨?_,trivial⟩,⟨?_,trivial⟩,⟨?_,trivial⟩,⟨?_,trivial⟩,⟨?_,trivial⟩,trivial⟩
         all_goals
          intro ac W _ hI hk
          obtain rfl:=Option.some.inj hI
          clear hI
          simp only[Gw.Knows,plB] at hk
          try (simp[go_sem,Gw.POpReq,Gw.OkP,Gw.PPost,Gw.HoldsR,Gw.Ph,plB,hk,hbm2,m2,m2A,g0,g1,g2,g3,hkl'];done)
         ·exact Gw.ok_buildSlice rfl (by simp[Gw.eval_slot,hk]) HBS.out ⟨trivial,rfl,fun _ _=>rfl⟩
         ·exact Gw.ok_append rfl ((Gw.eval_slot ac 56).trans hk.1) ((Gw.eval_slot ac 62).trans hk.2.1) HRUN.out ⟨trivial,rfl,fun _ _=>rfl⟩
         ·exact Gw.ok_store rfl ((Gw.eval_slot ac 64).trans hk.1) ((Gw.eval_slot ac 63).trans hk.2.1) HST.out ⟨trivial,rfl,trivial⟩
        case hend=>
         intro y' w9 _ hI hx'
         obtain rfl:=Option.some.inj hI
         clear hx' hI m2 m2A g0 g1 g2 g3 hbm2
         simp only[Gw.putAll,Act.put,List.setIfInBounds_toArray,List.set_cons_zero,List.set_cons_succ]
         go_wp2_with fail
         exact ⟨⟨k+1,j'+1,fc2,FA2,by simp,hkl,by omega,hfc2,HCN7,HS7⟩,by simp[intOf];omega⟩
     ·have e:k=n:=by omega
      subst e
      have HTK:=Lib.hid (show m.files.take k=m.files from List.take_of_length_le (by rw[HML.out];exact Nat.le_refl _))
      rw[HTK.out] at HS HCN
      have HPI2:=Lib.hid (PlanI_filter HPI.out HPN.out)
      have hcn2:=HCN.out
      go_wp2_with fail
      exact ⟨⟨i+1,AF,nf,cf,fr,nx,j',fc',FA',_,by simp,rfl,hlt,hnx',by omega,hjf',hnf,hcf,hnf64,hcn2,HLF,HKF,HPI2,HS,HFB⟩,by simp[intOf];omega⟩
   |true=>
    have HPY:=Lib.hid (show (listP now ch)[i]?=some (f.1,some f.2.length) by rw[HLP.out,if_pos (of_decide_eq_true HQ.out.symm)])
    obtain ⟨sz,hsz⟩:∃sz,sz=f.2.length:=⟨_,rfl⟩
    obtain ⟨pg,hpg⟩:∃pg,pg=St.pages f.2.length:=⟨_,rfl⟩
    have HPG:=Lib.hid (show pg=St.pages sz by rw[hpg,hsz])
    have hcs:Cs wr wr.heap.size (some (a2.add (i*2))) (fcl [f]):=by
     have h:=(((HR2.out.below HB.out).more HB.out.size).drop (k:=i) (cap:=c2) (s:=2) (by rw[fcl_length];have:=HL2.out;omega) (by omega)).take (1*2)
     rw[if_neg (by omega),fcl_drop,fcl_take,drop_at HFI.out] at h
     exact h
    have HPS:=Lib.hid (rpages_any (some (a2.add (i*2))) 1 (c2-i) [f] wr rfl (by omega) hcs (fun g hg=>by rw[List.mem_singleton.1 hg];have:=HFX.out.2;omega))
    rw[show pagesL [f]=pg by rw[hpg];rfl] at HPS
    rw[←hsz] at HPY
    have hsz20:sz≤1048576:=by rw[hsz];exact HFX.out.2
    have hpg20:pg≤10000:=by rw[hpg,←hsz];unfold St.pages;omega
    have hbsz:(ByteArray.mk f.2.toArray).size=sz:=by rw[hsz];exact List.size_toArray ..
    clear hcs hpg hsz
    go_upto_region 13 with fail
    go_upto_region 14 with (go_at_call 119;refine HPS.out.mono ?_;rintro e w' ⟨rfl,rfl⟩)
    have m1:=HS.out.box.cell (i:=1) rfl
    have m2:=HS.out.box.cell (i:=2) rfl
    have HBRR:=Lib.hid (BR1.out.past HS.out.below)
    rw[←HRE.out] at HBRR
    by_cases hfull:pg≤nf
    ·by_cases hmax:nx=4294967295
     ·subst hmax
      have HNO:=Lib.hid (HPI.out.full HPY.out (fun e=>e.2 rfl))
      go_wp2_with (first
       |(refine wpList_store_blk rfl 38 _ _ rfl R _ #[.int .u64 0,.int .u32 0,.slice none 0 0] rfl rfl HBRR.out rfl man_size (man_one _ _ _ _ _) ?_
         intro w7 hb7 ho7
         have HB7:=Lib.hid (show Blk w7 R [.int .u64 0,.int .u32 0,.slice none 0 0] from hb7)
         have HO7:=Lib.hid ho7
         clear hb7 ho7)
       |fail)
      have r0:=HB7.out.cell (i:=0) rfl
      have r1:=HB7.out.cell (i:=1) rfl
      have r2:=HB7.out.cell (i:=2) rfl
      refine bodyPost_ret (v:=.tuple #[mval 0 0 none 0 0,.bool false]) (by simp[results,Tryz.results80,go_sem,r0,r1,r2,mval]) rfl ?_
      exact ⟨HB.out.trans (HO7.out.below (B:=w.heap.size) (fun k _ hk=>by have:=hHR;omega) HB.out.size),.inr ⟨by rw[←HNX0.out];exact HNO.out,rfl⟩⟩
     ·have HPI2:=Lib.hid (HPI.out.new HPY.out (by rw[←HPG.out,HLF.out];exact hfull) hmax)
      rw[←HPG.out] at HPI2
      have hnx1:nx+1<4294967296:=by omega
      have eu:IntKind.u32.wrap ((nx:Int)+1)=(nx:Int)+1:=by rw[IntKind.wrap_u32];omega
      have hbd:Below wr.heap.size wr wr.drew:=(Below.refl _ _).drew
      have HS6:=Lib.hid (HS.out.past hbd)
      have HK0:=HKF.out.past HS6.out.below
      have hpl:∀k,plT own R G (.slice FA j fc) k→own k∨k=R∨G≤k:=fun k hk=>by
       rcases hk with e|e|e|e
       ·exact .inl e
       ·exact .inr (.inl e)
       ·exact .inr (.inr (by omega))
       ·obtain ⟨vs,hr,-⟩:=HS6.out.row
        exact .inr (.inr (by have:=(hr.lt k e).1;omega))
      have hfv:FKv (plT own R G (.slice FA j fc)) wr.drew ⟨f.1,nx,(sz:Int),St.ints (fr.take pg)⟩ AF pg pg:=⟨by show (St.ints (fr.take pg)).length=pg;rw[St.ints_length,List.length_take,HLF.out];omega,Nat.le_refl _,by omega,
       (HK0.imp (fun W _ hc=>by have:=hc.take pg;rw[icells_take,ints_take] at this;exact this)).less (fun k _ hk=>hpl k hk)⟩
      have hwf:WfF ⟨f.1,nx,(sz:Int),St.ints (fr.take pg)⟩∧(⟨f.1,nx,(sz:Int),St.ints (fr.take pg)⟩:FileD).name.length≤32:=by
       refine ⟨⟨by show nx<_;omega,by show -9223372036854775808≤(sz:Int);omega,by show (sz:Int)≤_;omega,fun q hq=>?_⟩,HFX.out.1⟩
       obtain ⟨z,hz,rfl⟩:=List.mem_map.1 hq
       have:=HFB.out z (List.mem_of_mem_take hz)
       omega
      obtain ⟨FA2,fc2,wB,hrun,hst,hS2,hGB,hfc2⟩:=HS6.out.push (by omega) hwf hfv
      obtain ⟨wA,hwA⟩:∃wA,wA=wr.drew.alloc (fbox f.1 nx (sz:Int) AF pg pg):=⟨_,rfl⟩
      have hbs2:=run_slice_file wr.drew f.1 nx (sz:Int) AF pg pg
      have hGA:Blk wA G [.int .u64 (vp:Int),.int .u32 (nx:Int),.slice FA j fc]:=by rw[hwA];exact HS6.out.box.alloc _
      have m2A:wA.cell? ⟨G,2,none⟩=_:=hGA.cell (i:=2) rfl
      obtain ⟨wC,hwC⟩:∃wC,wC=wB.setCell ⟨G,2,none⟩ (.slice FA2 (j+1) fc2):=⟨_,rfl⟩
      rw[←hwC] at hst hS2
      rw[←hwA] at hrun hbs2
      have hsd:wr.drew.heap.size=wr.heap.size:=rfl
      rw[hsd] at hbs2 hrun
      have HRUN:=Lib.hid hrun
      have HST:=Lib.hid hst
      have HBS:=Lib.hid hbs2
      have HS7:=Lib.hid hS2
      obtain ⟨wD,hwD⟩:∃wD,wD=wC.setCell ⟨G,1,none⟩ (.int .u32 ((nx+1:Nat):Int)):=⟨_,rfl⟩
      have HS8:=Lib.hid (show PlS w1 wD own R G vp (nx+1) FA2 (j+1) fc2 (acc++[(⟨f.1,nx,(sz:Int),St.ints (fr.take pg)⟩:FileD)]) by rw[hwD];exact HS7.out.step (nx+1))
      have HWD:=Lib.hid (show wD=wC.setCell ⟨G,1,none⟩ (.int .u32 ((nx:Int)+1)) by rw[hwD];rfl)
      have HLF2:=Lib.hid (show (fr.drop pg).length=nf-pg by rw[List.length_drop,HLF.out])
      have HKF2:=Lib.hid (HKF.out.imp (q:=fun W=>Cs W W.heap.size (if cf=pg then AF else AF.map (·.add pg)) (icells (St.ints (fr.drop pg)))) (fun W _ hc=>by
       have h:=hc.drop (k:=pg) (cap:=cf) (s:=1) (by rw[icells_length,St.ints_length,HLF.out];omega) (by omega)
       rw[Nat.mul_one,icells_drop,ints_drop] at h
       exact h))
      have HFB2:=Lib.hid (show ∀b∈fr.drop pg,b<65536 from fun b hb=>HFB.out b (List.mem_of_mem_drop hb))
      have hcnt2:countOf (acc++[(⟨f.1,nx,(sz:Int),St.ints (fr.take pg)⟩:FileD)])+(nf-pg)≤65536+2035*(j+1):=by
       rw[countOf_snoc]
       have:(St.ints (fr.take pg)).length=pg:=by rw[St.ints_length,List.length_take,HLF.out];omega
       show countOf acc+(St.ints (fr.take pg)).length+_≤_
       omega
      have g1:wC.cell? ⟨G,1,none⟩=some (.int .u32 (nx:Int)):=HS7.out.box.cell (i:=1) rfl
      have gf1:=HS7.out.box.frozen 1
      have k1:wr.drew.cell? (a2.add (i*2))=_:=h1
      have k2:wr.drew.cell? ⟨(a2.add (i*2)).block,(a2.add (i*2)).off+1,none⟩=_:=h2
      have k3:wr.drew.cell? ⟨G,1,none⟩=_:=m1
      have k4:wr.drew.cell? ⟨G,2,none⟩=_:=m2
      clear hrun hst hbs2 hS2 hsd hwA hwC hGB hGA hfv hwf hbd hwD HK0 hpl
      have d1:((nx:Int)==4294967295)=false:=by simp;omega
      go_upto_region 16 with fail
      refine Gw.wp_region_phase (fun _ _=>True) (fun _=>trivial) (fun _ _ _ _ _=>trivial) (Gw.Ph [wr.drew,wA,wB,wC]) (plC G i j fc n2 c2 nx sz pg wr.heap.size nf cf pg fc2 FA FA2 AF AF a2 f.1 f.2) [20,21,23] [82,83,84,85,86,87,88,89,90,91,92,93,94,95,96,97,98,99,100,101,102,103,104] [([11],none,[0,1],false),([82],none,[0,1],false),([2],none,[0],false),([12],none,[0],false),([84,85],none,[0],false),([86],none,[0],false),([87],none,[0],false),([11],none,[0],false),([89],none,[0],false),([2],none,[0],false),([12],none,[0],false),([91,92],none,[0],false),([93],none,[0],false),([94],none,[0],false),([95],none,[0],false),([10],none,[0],false),([14],none,[0],false),([14],none,[0],false),([97,98,99],none,[0],false),([88,90,96,100],none,[0],false),([101],none,[0],true),([83,102],none,[1],true),([11],none,[2],false),([104,103],none,[2],true)] 121 3 (by kernel_rfl) (by kernel_rfl) rfl trivial rfl ?h0 ?hreq ?hend
      case h0=>
       intro t W hnd _
       unfold plC
       split<;>first|rfl|trivial|exact absurd (by simp) hnd
      case hreq=>
       refine ⟨⟨?_,?_,trivial⟩,⟨?_,?_,trivial⟩,⟨?_,trivial⟩,⟨?_,trivial⟩,⟨?_,trivial⟩,⟨?_,trivial⟩,⟨?_,trivial⟩,⟨?_,trivial⟩,⟨?_,trivial⟩,⟨?_,trivial⟩,⟨?_,trivial⟩,⟨?_,trivial⟩,⟨?_,trivial⟩,⟨?_,trivial⟩,⟨?_,trivial⟩,⟨?_,trivial⟩,⟨?_,trivial⟩,⟨?_,trivial⟩,⟨?_,trivial⟩,⟨?_,trivial⟩,⟨?_,trivial⟩,⟨?_,trivial⟩,⟨?_,trivial⟩,⟨?_,trivial⟩,trivial⟩
       all_goals
        intro ac W _ hI hk
        obtain rfl:=Option.some.inj hI
        clear hI
        simp only[Gw.Knows,plC] at hk
        try (simp[go_sem,Gw.POpReq,Gw.OkP,Gw.PPost,Gw.HoldsR,Gw.Ph,plC,hk,k1,k2,k3,k4,m2A,hlt',hbsz,hfull,hnf,add_zero'];done)
       ·exact ok_cut rfl ((Gw.eval_slot ac 97).trans hk.1) ((Gw.eval_slot ac 98).trans hk.2.1) ((Gw.eval_slot ac 99).trans hk.2.2.1) (run_cut _ AF nf cf pg (by omega)) ⟨trivial,rfl,fun _ _=>rfl⟩
       ·exact Gw.ok_buildSlice rfl (by simp[Gw.eval_slot,hk]) HBS.out ⟨trivial,rfl,fun _ _=>rfl⟩
       ·exact Gw.ok_append rfl ((Gw.eval_slot ac 83).trans hk.1) ((Gw.eval_slot ac 102).trans hk.2.1) HRUN.out ⟨trivial,rfl,fun _ _=>rfl⟩
       ·exact Gw.ok_store rfl ((Gw.eval_slot ac 104).trans hk.1) ((Gw.eval_slot ac 103).trans hk.2.1) HST.out ⟨trivial,rfl,trivial⟩
      case hend=>
       intro y' w9 _ hI hx'
       obtain rfl:=Option.some.inj hI
       clear hx' hI m2 m2A h1 h2 m1 hbm2 k1 k2 k3 k4 d1
       simp only[Gw.putAll,Act.put,List.setIfInBounds_toArray,List.set_cons_zero,List.set_cons_succ]
       go_wp2_with fail
       rw[←HWD.out]
       exact ⟨⟨i+1,_,nf-pg,cf-pg,fr.drop pg,nx+1,j+1,fc2,FA2,_,by simp,rfl,hlt,hnx1,by omega,hfc2,by omega,by omega,by omega,hcnt2,HLF2,HKF2,HPI2,HS8,HFB2⟩,by simp[intOf];omega⟩
    ·have HNO:=Lib.hid (HPI.out.full HPY.out (fun e=>hfull (by rw[HPG.out,←HLF.out];exact e.1)))
     go_wp2_with (first
      |(refine wpList_store_blk rfl 38 _ _ rfl R _ #[.int .u64 0,.int .u32 0,.slice none 0 0] rfl rfl HBRR.out rfl man_size (man_one _ _ _ _ _) ?_
        intro w7 hb7 ho7
        have HB7:=Lib.hid (show Blk w7 R [.int .u64 0,.int .u32 0,.slice none 0 0] from hb7)
        have HO7:=Lib.hid ho7
        clear hb7 ho7)
      |fail)
     have r0:=HB7.out.cell (i:=0) rfl
     have r1:=HB7.out.cell (i:=1) rfl
     have r2:=HB7.out.cell (i:=2) rfl
     refine bodyPost_ret (v:=.tuple #[mval 0 0 none 0 0,.bool false]) (by simp[results,Tryz.results80,go_sem,r0,r1,r2,mval]) rfl ?_
     exact ⟨HB.out.trans (HO7.out.below (B:=w.heap.size) (fun k _ hk=>by have:=hHR;omega) HB.out.size),.inr ⟨by rw[←HNX0.out];exact HNO.out,rfl⟩⟩
  ·have e:i=n2:=by omega
   subst e
   have HPL:=Lib.hid (HPI.out.done (by unfold listP;rw[List.length_map,HL2.out];exact Nat.le_refl _))
   have HMAN:=Lib.hid (HS.out.man hjf (by omega) hvp64 hnx' hRG (fun k hk=>by have:=HOWN.out k hk;omega))
   have HBM:=Lib.hid (BM1.out.past HS.out.below)
   have HBRR:=Lib.hid (BR1.out.past HS.out.below)
   rw[←HRE.out] at HBRR
   obtain ⟨q0,q1,q2⟩:wr.cell? ⟨H,0,none⟩=_∧wr.cell? ⟨H,1,none⟩=_∧wr.cell? ⟨H,2,none⟩=_:=⟨HBM.out.cell rfl,HBM.out.cell rfl,HBM.out.cell rfl⟩
   obtain ⟨m0,m1,m2⟩:wr.cell? ⟨G,0,none⟩=_∧wr.cell? ⟨G,1,none⟩=_∧wr.cell? ⟨G,2,none⟩=_:=⟨HS.out.box.cell rfl,HS.out.box.cell rfl,HS.out.box.cell rfl⟩
   have HBL:=Lib.hid (show (body ⟨vp,nx,acc⟩).length≤1099511627776 by
    have h1:=body_upper acc (fun f hf=>(HS.out.wf f hf).1) (fun f hf=>(HS.out.wf f hf).2)
    have h2:=HS.out.len
    have e1:=enc_ten hvp64
    have e2:=enc_ten (show nx<18446744073709551616 by omega)
    have e3:=enc_ten (show acc.length<18446744073709551616 by omega)
    have hbl:(body ⟨vp,nx,acc⟩).length=(enc vp).length+((enc nx).length+((enc acc.length).length+(encFs acc).length)):=by
     show (enc vp++(enc nx++(enc acc.length++encFs acc))).length=_
     rw[List.length_append,List.length_append,List.length_append]
    omega)
   go_upto_region 20 with fail
   have hvi:(ver:Int)<18446744073709551615:=by omega
   refine Gw.wp_region_phase (fun _ _=>True) (fun _=>trivial) (fun _ _ _ _ _=>trivial) (plI wr R [.int .u64 (vp:Int),.int .u32 (nx:Int),.slice FA j fc]) (plE G H R vp nx j fc ver FA (Fit ⟨vp,nx,acc⟩)) [8] [113,114,115,116,117,118,119,120,9] [([11],none,[0],false),([4],none,[0],false),([114],none,[0],false),([115],none,[0],false),([116],none,[0],false),([11,117],some (117,true),[0],false),([118,117],some (117,true),[0],false),([117,119],none,[0,1],false),([8,113],none,[0],true),([120],none,[1],false)] 121 1 (by kernel_rfl) (by kernel_rfl) rfl trivial ?hI ?h0 ?hreq ?hend
   case hI=>
    rw[plI,if_pos rfl]
    exact (Below.refl _ _).drew
   case h0=>
    intro t W hnd _
    unfold plE
    split<;>first|(exfalso;apply hnd;decide)|rfl|trivial
   case hreq=>
    refine ⟨⟨?_,trivial⟩,⟨?_,trivial⟩,⟨?_,trivial⟩,⟨?_,trivial⟩,⟨?_,trivial⟩,⟨?_,trivial⟩,⟨?_,trivial⟩,⟨?_,?_,trivial⟩,⟨?_,trivial⟩,⟨?_,trivial⟩,trivial⟩
    case refine_8=>
     intro ac W _ hI hk
     simp only[Gw.Knows,plE] at hk
     obtain ⟨k1,k4,-⟩:=hk
     simp[go_sem,Gw.POpReq,Gw.OkP,Gw.PPost,Gw.HoldsR,plE,hI,k1,k4]
    case refine_9=>
     intro ac W _ hI hk
     simp only[Gw.Knows,plE] at hk
     obtain ⟨k1,k4,-⟩:=hk
     simp[go_sem,Gw.POpReq,Gw.OkP,Gw.PPost,Gw.HoldsR,plE,hI,k1,k4]
    case refine_11=>
     intro ac W _ hI hk
     simp only[Gw.Knows,plE] at hk
     simp[go_sem,Gw.POpReq,Gw.OkP,Gw.PPost,Gw.HoldsR,plE,hI,hk]
    all_goals
     intro ac W _ hI hk
     have hg:Below wr.heap.size wr W:=by rw[plI,if_pos rfl] at hI;exact hI
     have k0:=(hg.cell (World.block_lt_of_cell? _ _ q0)).trans q0
     have k1:=(hg.cell (World.block_lt_of_cell? _ _ m0)).trans m0
     have k2:=(hg.cell (World.block_lt_of_cell? _ _ m1)).trans m1
     have k3:=(hg.cell (World.block_lt_of_cell? _ _ m2)).trans m2
     simp only[Gw.Knows,plE] at hk
     try (simp[go_sem,Gw.POpReq,Gw.OkP,Gw.PPost,Gw.HoldsR,plE,hI,hk,k0,k1,k2,k3,hvi];done)
    ·simp[go_sem,Gw.POpReq,Gw.OkP,Gw.PPost,Gw.HoldsR,plE,hk]
     refine (rmay_any FA j fc ⟨vp,nx,acc⟩ W (by omega) (fun _=>HBL.out) ((HMAN.out.past hg).now)).mono ?_
     rintro e w5 ⟨b,rfl,hb,hb5⟩
     exact ⟨_,rfl,by rw[plI,if_pos rfl];exact hg.trans (hb5.mono hg.size),⟨b,rfl,hb⟩⟩
    ·obtain ⟨w7,hrun,hb7,ho7⟩:=run_store_blk (P:=Tryz.prog) (ty:=38) (vs:=#[.int .u64 (vp:Int),.int .u32 (nx:Int),.slice FA j fc]) (HBRR.out.past hg) rfl man_size (man_one _ _ _ _ _)
     exact Gw.ok_store rfl ((Gw.eval_slot ac 8).trans hk.1) ((Gw.eval_slot ac 113).trans hk.2.1) hrun ⟨trivial,by show plI _ _ _ 1 _;rw[plI,if_neg (by decide)];exact ⟨hb7,(Out.of_below hg).trans ho7⟩,trivial⟩
   case hend=>
    intro y w7 _ hI hy
    obtain ⟨hb7,ho7⟩:Blk w7 R [.int .u64 (vp:Int),.int .u32 (nx:Int),.slice FA j fc]∧Out (fun k=>k=R) wr w7:=by rw[plI,if_neg (by decide)] at hI;exact hI
    obtain ⟨b,e9,hb⟩:∃b,y 9=.bool b∧(b=true↔Fit ⟨vp,nx,acc⟩):=hy 9 (by simp) w7 trivial
    simp only[Gw.putAll,Act.put,List.setIfInBounds_toArray,List.set_cons_zero,List.set_cons_succ]
    rw[e9]
    have HB7:=Lib.hid hb7
    have HBW:=Lib.hid (show Below w.heap.size w w7 from HB.out.trans (ho7.below (B:=w.heap.size) (fun k _ hk=>by have:=hHR;omega) HB.out.size))
    have HM7:=Lib.hid ((HMAN.out.out (ho7.more (S':=fun k=>own k∨k=R) (fun k _ hk=>.inr hk))).less (T':=own) (fun k _ hk=>.inl hk))
    have HBI:=Lib.hid hb
    clear hb7 ho7 hb hy hI e9 q0 q1 q2 m0 m1 m2
    go_wp2_with fail
    have r0:=HB7.out.cell (i:=0) rfl
    have r1:=HB7.out.cell (i:=1) rfl
    have r2:=HB7.out.cell (i:=2) rfl
    refine bodyPost_ret (v:=.tuple #[mval vp nx FA j fc,.bool b]) (by simp[results,Tryz.results80,go_sem,r0,r1,r2,mval]) rfl ?_
    have hvp:=HVP.out
    rw[HVER.out] at hvp
    subst hvp
    exact ⟨HBW.out,.inl ⟨acc,nx,FA,j,fc,b,by rw[←HNX0.out];exact HPL.out,rfl,HBI.out,HM7.out⟩⟩
end Go.Proofs.YtiocpefgccndbaaGreat
end
section
namespace Go.Proofs.YtiocpefgccndbaaGreat
open Go.RowKit Me Mf Rw Ds Va Go.Maps
theorem names_one {X:Sto} {x b:List UInt8} (hm:X.m=noMan) (hC:X.C=setC noC x (some b)) {l:List (List UInt8)} (h:IsNames X l):l=[x]:=by
 have hmem:∀y,y∈l↔y=x:=fun y=>by
  rw[h.mem y]
  unfold hasN
  rw[hC,hm]
  unfold setC noC noMan
  by_cases e:y=x
  ·rw[if_pos e];simp[e]
  ·rw[if_neg e];simp[e]
 have hnd:l.Nodup:=List.nodup_iff_pairwise_ne.2 (h.rise.imp fun {a b} hl e=>by rw[e,less_irrefl] at hl;cases hl)
 match l,hnd,hmem with
 |[],_,hm=>exact absurd ((hm x).2 rfl) (by simp)
 |[a],_,hm=>rw[(hm a).1 (by simp)]
 |a::b::l,hn,hm=>
  have h1:=(hm a).1 (by simp)
  have h2:=(hm b).1 (by simp)
  rw[h1,h2] at hn
  simp at hn
theorem names_nothing {X:Sto} (hm:X.m=noMan) (hC:X.C=noC) {l:List (List UInt8)} (h:IsNames X l):l=[]:=by
 apply List.eq_nil_iff_forall_not_mem.2
 intro y hy
 have:=(h.mem y).1 hy
 unfold hasN at this
 rw[hC,hm] at this
 simp[noC,noMan] at this
def oneM (x:List UInt8) (s:Nat):ManD:=⟨1,1,[⟨x,0,(s:Int),[32]⟩]⟩
theorem one_fit {x:List UInt8} {s:Nat} (hx:1≤x.length∧x.length≤32) (hs:1≤s∧s≤112):Fit (oneM x s):=by
 have hw:WfF ⟨x,0,(s:Int),[32]⟩:=⟨by show 0<_;omega,by show _≤(s:Int);omega,by show (s:Int)≤_;omega,fun b hb=>by rw[List.mem_singleton.1 hb];omega⟩
 refine ⟨⟨⟨fun f hf=>?_,?_⟩,⟨fun f hf=>?_,?_⟩,⟨fun f hf=>?_,?_⟩⟩,?_⟩
 ·rw[List.mem_singleton.1 hf];exact hx
 ·exact List.pairwise_singleton _ _
 ·rw[List.mem_singleton.1 hf];show 0<1;omega
 ·show [0].Nodup;simp
 ·rw[List.mem_singleton.1 hf]
  refine ⟨by show 0≤(s:Int);omega,?_,fun b hb=>?_⟩
  ·show manyZ (s:Int)=((1:Nat):Int)
   unfold manyZ
   split<;>omega
  ·rw[List.mem_singleton.1 hb];omega
 ·show [(32:Int)].Nodup;simp
 ·have h1:=body_upper (oneM x s).files (fun f hf=>by rw[List.mem_singleton.1 hf];exact hw) (fun f hf=>by rw[List.mem_singleton.1 hf];exact hx.2)
  have e:countOf (oneM x s).files=1:=rfl
  rw[e] at h1
  have e2:(oneM x s).files.length=1:=rfl
  rw[e2] at h1
  have q:=enc_ten (show 1<18446744073709551616 by omega)
  have hbl:(body (oneM x s)).length=(enc 1).length+((enc 1).length+((enc 1).length+(encFs (oneM x s).files).length)):=by
   show (enc 1++(enc 1++(enc 1++encFs (oneM x s).files))).length=_
   rw[List.length_append,List.length_append,List.length_append]
  omega
theorem one_next {X:Sto} {x b:List UInt8} (hm:X.m=noMan) (hn:33≤X.S.stored.length) (hC:X.C=setC noC x (some b)) (hx:1≤x.length∧x.length≤32) (hb:1≤b.length∧b.length≤112) (m:ManD):NextIs X [x] m↔m=oneM x b.length:=by
 have hsz:szC X x=some b.length:=by unfold szC;rw[hC];unfold setC;rw[if_pos rfl]
 have hpg:St.pages b.length=1:=by unfold St.pages;omega
 have hfr:∃t,St.freeM X.S.stored.length noMan.files=32::t:=by
  unfold St.freeM St.freeP
  obtain ⟨k,hk⟩:∃k,X.S.stored.length=33+k:=⟨_,(Nat.add_sub_of_le hn).symm⟩
  rw[hk,List.range_add,List.filter_append]
  exact ⟨_,by rw[show (List.range 33).filter (fun i=> !St.takenP noMan.files i)=[32] from by decide];rfl⟩
 obtain ⟨t,ht⟩:=hfr
 have hp:St.planD X.m X.S.stored.length (listC X [x])=some (oneM x b.length):=by
  unfold St.planD listC
  rw[hm,ht]
  show (St.planL noMan.files [(x,szC X x)] (32::t) 0).map _=_
  rw[hsz,St.planL,hpg,if_pos ⟨by simp,by omega⟩,St.planL]
  rfl
 constructor
 ·rintro ⟨h,-,-⟩
  rw[hp] at h
  injection h with h
  exact h.symm
 ·rintro rfl
  exact ⟨hp,by rw[hm];show 0<_;omega,one_fit hx hb⟩
theorem one_free (x:List UInt8) (s:Nat):(St.freeM 40 (oneM x s).files).length=7:=by
 have:∀i,St.takenP (oneM x s).files i=(decide (i<32)||decide ((i:Int)∈[(32:Int)])):=fun i=>rfl
 unfold St.freeM St.freeP
 simp only[this]
 decide
end Go.Proofs.YtiocpefgccndbaaGreat
end
section
namespace Go.Proofs.YtiocpefgccndbaaGreat
open Go.RowKit Me Mf Rw Ds Va Go.Maps
theorem lit_rd (w:World) (b:UInt8):Rd (w.alloc (.cells #[.int .u8 (b.toNat:Int)] 5 (1,2))) (w.alloc (.cells #[.int .u8 (b.toNat:Int)] 5 (1,2))).heap.size (some ⟨w.heap.size,0,none⟩) [b]:=by
 have:=Rd.of_block (l:=[b]) (heap_alloc_new w (.cells #[.int .u8 (b.toNat:Int)] 5 (1,2))) (fun i u hu=>by
  have:=cellsOf_get hu
  rw[show (#[.int .u8 (b.toNat:Int)]:Array Value)=(cellsOf [b]).toArray from rfl]
  simpa using this)
 exact this
set_option maxRecDepth 100000 in
set_option maxHeartbeats 4000000 in
theorem awake_any (w:World):Calls Tryz.prog 10 #[] w fun e w'=>e=.returned (.bool true)∧Below w.heap.size w w':=by
 have HBG:=Lib.hid (begin_any 40 (by omega) (by omega) w)
 go_enter Tryz.func10,Tryz.ntmps10
 go_wp2_with (go_at_call 11;refine HBG.out.mono ?_)
 rintro e w1 ⟨G,P,D,M,own,ownD,rfl,hbx,hst,hnG,hb1,hG⟩
 have c0:=hbx.cell (i:=0) rfl
 have hcv:=Lib.run_convert_bytes_const (P:=Tryz.prog) w1 29 5 #[.int .u8 98] 1 1 Tryz.underlying29 Tryz.underlying5
 obtain ⟨w2,hw2⟩:∃w2,w2=w1.alloc (.cells #[.int .u8 98] 5 (1,2)):=⟨_,rfl⟩
 have hb2:Below w1.heap.size w1 w2:=by rw[hw2];exact (Below.refl _ _).alloc (Nat.le_refl _) _
 have HWR:=Lib.hid (swrite_any (hst.past hb2) [97] (some ⟨w1.heap.size,0,none⟩) 1 1 [98] rfl (by omega) (by rw[hw2];exact lit_rd w1 98) (by unfold maxLen;omega))
 have hbx2:=hbx.past hb2
 have HX:=Lib.hid hbx2
 have HN:=Lib.hid hnG
 have HB:=Lib.hid (hb1.trans (hb2.mono hb1.size))
 have HGG:=Lib.hid hG
 have HW2:=Lib.hid hw2
 have hlt1:=hb1.size
 clear hbx hst hnG hb1 hG hw2 hb2 hbx2
 go_wp2_with fail
 show Calls _ _ _ (w1.alloc (.cells #[.int .u8 98] 5 (1,2))) _
 rw[←HW2.out]
 refine HWR.out.mono ?_
 rintro e w3 ⟨rfl,⟨hr,-⟩|⟨-,hs3,ho3⟩⟩
 ·exact absurd (by decide) hr
 replace ho3:=hs3.foot ho3
 rw[show allowD (upD ⟨newD 40,noMan,noC,false⟩) [97] ((1:Nat):Int)=0 from by decide]
 have hbx3:=HX.out.out ho3 HN.out
 have c0:=hbx3.cell (i:=0) rfl
 have HX3:=Lib.hid hbx3
 have HB3:=Lib.hid (HB.out.trans (ho3.below (fun k hk hs=>(hs3.lt hs).1) HB.out.size))
 have HFG:=Lib.hid (forget_any hs3)
 clear hbx3 ho3 hs3 hcv
 go_wp2_with fail
 refine HFG.out.mono ?_
 rintro e w4 ⟨rfl,hs4,ho4⟩
 replace ho4:=hs4.foot ho4
 replace hs4:StoreAt w4 w.heap.size P D M 1 ⟨newD 40,noMan,noC,false⟩ own ownD:=hs4
 have hbx4:=HX3.out.out ho4 HN.out
 have c0:=hbx4.cell (i:=0) rfl
 have HX4:=Lib.hid hbx4
 have HB4:=Lib.hid (HB3.out.trans (ho4.below (fun k hk hs=>(hs4.lt hs).1) HB3.out.size))
 have HS4:=Lib.hid hs4
 have HNM:=Lib.hid (snames_any hs4 (by omega))
 clear hbx4 ho4 hs4 HFG HX3 HX
 go_wp2_with fail
 refine HNM.out.mono ?_
 rintro e w5 ⟨A5,n5,c5,l5,rfl,hl5,hn5,-,-,hb5⟩
 have e5:=names_nothing rfl rfl hl5
 subst e5
 have hn0:n5=0:=by rw[←hn5];rfl
 subst hn0
 have hb45:=HB4.out.trans (hb5.mono HB4.out.size)
 have c0:=HX4.out.past hb5 |>.cell (i:=0) rfl
 have hcv:=Lib.run_convert_bytes_const (P:=Tryz.prog) w5 29 5 #[.int .u8 99] 1 1 Tryz.underlying29 Tryz.underlying5
 obtain ⟨w6,hw6⟩:∃w6,w6=w5.alloc (.cells #[.int .u8 99] 5 (1,2)):=⟨_,rfl⟩
 have hb6:Below w5.heap.size w5 w6:=by rw[hw6];exact (Below.refl _ _).alloc (Nat.le_refl _) _
 have HWR2:=Lib.hid (swrite_any ((HS4.out.past hb5).past hb6) [97] (some ⟨w5.heap.size,0,none⟩) 1 1 [99] rfl (by omega) (by rw[hw6];exact lit_rd w5 99) (by unfold maxLen;omega))
 have HX6:=Lib.hid ((HX4.out.past hb5).past hb6)
 have HB6:=Lib.hid (hb45.trans (hb6.mono hb45.size))
 have HW6:=Lib.hid hw6
 have hlt5:=hb45.size
 clear hl5 hn5 hb5 hw6 hb6 hb45 HNM HX4 HS4 HB3 HB
 go_wp2_with fail
 show Calls _ _ _ (w5.alloc (.cells #[.int .u8 99] 5 (1,2))) _
 rw[←HW6.out]
 refine HWR2.out.mono ?_
 rintro e w7 ⟨rfl,⟨hr,-⟩|⟨-,hs7,ho7⟩⟩
 ·exact absurd (by decide) hr
 replace ho7:=hs7.foot ho7
 rw[show allowD (upD ⟨newD 40,noMan,noC,false⟩) [97] ((1:Nat):Int)=0 from by decide]
 replace hs7:StoreAt w7 w.heap.size P D M 2 ⟨newD 40,noMan,setC noC [97] (some [99]),false⟩ own ownD:=hs7
 have hbx7:=HX6.out.out ho7 HN.out
 have c0:=hbx7.cell (i:=0) rfl
 have HX7:=Lib.hid hbx7
 have HB7:=Lib.hid (HB6.out.trans (ho7.below (fun k hk hs=>(hs7.lt hs).1) HB6.out.size))
 have HS7:=Lib.hid hs7
 have HCO:=Lib.hid (scommit_any hs7 (by omega) (show 0+4096≤_ by omega))
 clear hbx7 ho7 hs7 hcv HWR2 HX6
 go_wp2_with fail
 refine HCO.out.mono ?_
 rintro e w8 ⟨X8,r8,rfl,hci,own8,ownD8,hs8,hf8⟩
 have ho8:=HS7.out.foot hf8.1
 have hrest0:Rest ⟨newD 40,noMan,setC noC [97] (some [99]),false⟩ (fun _=>[]):=(Rest.new (n:=40) (by omega)).change HS7.out.ok
 obtain ⟨rfl,rfl,hrest⟩:r8=0∧X8=⟨(putD ⟨newD 40,noMan,setC noC [97] (some [99]),false⟩ (oneM [97] 1)).1,oneM [97] 1,noC,false⟩∧Rest ⟨(putD ⟨newD 40,noMan,setC noC [97] (some [99]),false⟩ (oneM [97] 1)).1,oneM [97] 1,noC,false⟩ (newF (setC noC [97] (some [99])) fun _=>[]):=by
  rcases hci with ⟨q,-⟩|⟨-,q,-⟩|⟨-,-,l,hl,hq⟩
  ·rw[hrest0.up] at q;cases q
  ·have:=q [97];simp[setC] at this
  ·have hl1:=names_one rfl rfl hl
   subst hl1
   have hnx:=one_next (X:=⟨newD 40,noMan,setC noC [97] (some [99]),false⟩) (b:=[99]) rfl (by simp[newD]) rfl (by decide) (by decide)
   rcases hq with ⟨q,-⟩|⟨m,hm,hq⟩
   ·exact absurd ((hnx _).2 rfl) (q _)
   ·have hm1:=(hnx m).1 hm
    subst hm1
    have hws:Wf (oneM [97] 1):=⟨by show 1<_;omega,by show 1<_;omega,fun f hf=>by rw[List.mem_singleton.1 hf];exact ⟨by show 0<_;omega,by show _≤(1:Int);omega,by show (1:Int)≤_;omega,fun b hb=>by rw[List.mem_singleton.1 hb];omega⟩⟩
    obtain ⟨d1,d2⟩:=hrest0.commit hm hws
    rcases hq with ⟨q,-⟩|⟨-,rfl,rfl⟩
    ·exact absurd d1 q
    ·exact ⟨rfl,rfl,d2⟩
 have hbx8:=HX7.out.out ho8 HN.out
 have c0:=hbx8.cell (i:=0) rfl
 have HX8:=Lib.hid hbx8
 have HB8:=Lib.hid (HB7.out.trans (ho8.below (fun k hk hs=>(HS7.out.lt hs).1) HB7.out.size))
 have HRD:=Lib.hid (sread_any hs8 [97] (by decide) (show _<_ by rw[hrest.calm.pend];show 0<_;omega))
 rw[hrest.reads,if_pos (by decide)] at HRD
 have HS8:=Lib.hid hs8
 have HLN:=Lib.hid (show (putD ⟨newD 40,noMan,setC noC [97] (some [99]),false⟩ (oneM [97] 1)).1.stored.length=40 by rw[putD_size];simp[newD])
 clear hci hs8 hf8 ho8 hrest0 hrest hbx8 HCO HX7 HS7
 go_wp2_with fail
 refine HRD.out.mono ?_
 rintro e w9 ⟨A9,n9,c9,rfl,ho9,hb9⟩
 have e9:newF noC (newF (setC noC [97] (some [99])) fun _=>[]) [97]=[99]:=by decide
 rw[e9] at ho9 ⊢
 have hn9:n9=1:=by have:=ho9.1;rw[cellsOf_length,Nat.mul_one] at this;exact this.symm
 subst hn9
 have hcs:=str_any A9 1 c9 [99] w9 w9.heap.size rfl (Rd.of_own ho9)
 have hb9':=HB8.out.trans (hb9.mono HB8.out.size)
 have c0:=HX8.out.past hb9 |>.cell (i:=0) rfl
 have HVR:=Lib.hid (version_any (HS8.out.past hb9))
 have HFR:=Lib.hid (sfree_any (HS8.out.past hb9))
 have HB9:=Lib.hid hb9'
 clear ho9 hb9 hb9' e9 HRD HX8
 go_wp2_with fail
 refine HVR.out.mono ?_
 rintro e w10 ⟨rfl,rfl⟩
 rw[show ((oneM [97] 1).version:Int)=1 from rfl]
 go_wp2_with fail
 refine HFR.out.mono ?_
 rintro e w11 ⟨rfl,hb11⟩
 rw[HLN.out,one_free]
 have HB11:=Lib.hid (HB9.out.trans (hb11.mono HB9.out.size))
 clear hb11
 go_wp2_with fail
 go_ret
 exact ⟨rfl,HB11.out⟩
end Go.Proofs.YtiocpefgccndbaaGreat
end
