/- Texts put together, for a law: Play, FlB, PlCo, PlCg, PlCr, PlCp, PlCq, PlDo, PlDp, PlBg, FlM, FlE, FlS, FlK, Falls, FlL, FlA, OpenA, FlO. -/
import Derived.Deep.RegionHeld3
import Derived.Test.YtiocpefgccndbaaGreatKG31
import Derived.Test.YtiocpefgccndbaaGreatKG22
import Derived.Test.YtiocpefgccndbaaGreatKG14
import Derived.Test.YtiocpefgccndbaaGreatKG25
import Derived.Test.YtiocpefgccndbaaGreatKG30
section
namespace Go.Proofs.YtiocpefgccndbaaGreat
open Go.RowKit Me Mf Rw Ds Va Go.Maps
structure FbK (T:Nat→Prop) (A:Option Addr) (n c:Nat) (l:List FB) (w:World):Prop where
 len:l.length=n
 cap:n≤c∧c≤9223372036854775807
 at_:Kk T (fun W=>Cs W W.heap.size A (fcl l)) w
section
variable {w w':World} {T T':Nat→Prop} {A:Option Addr} {n c:Nat} {l:List FB}
theorem FbK.next (h:FbK T A n c l w) (ho:Out T w w') (hs:∀j,T' j→T j∨w.heap.size≤j):FbK T' A n c l w':={h with at_:=h.at_.next ho hs}
theorem FbK.out (h:FbK T A n c l w) (ho:Out T w w'):FbK T A n c l w':={h with at_:=h.at_.out ho}
theorem FbK.none:FbK T none 0 0 [] w:=⟨rfl,⟨Nat.le_refl _,by omega⟩,fun _ _=>Cs.empty⟩
theorem FbK.of (h:w'.ownsRow w.heap.size 75 2 (.slice A n c) n (fcl l)) (hl:l.length=n) (hT:∀k,T k→k<w.heap.size):FbK T A n c l w':=
 ⟨hl,own_bounds h,fun W hW=>Cs.of_own (own_out h hW fun k hk e=>by have:=(h.lt k hk).1;have:=hT k e;omega)⟩
end
structure PlayAt (w:World) (B G P D M N:Nat) (X:Sto) (Y:Ply) (own ownD:Nat→Prop):Prop where
 st:StoreAt w B P D M N X own ownD
 box:∃A n c A2 n2 c2 A3 n3 c3 A4 n4 c4,Blk w G [.pointer (some ⟨P,0,none⟩),.pointer (some ⟨D,0,none⟩),.int .u64 (Y.m.version:Int),.int .u32 (Y.m.next:Int),.slice A n c,.slice A2 n2 c2,.slice A3 n3 c3,.slice A4 n4 c4,.bool Y.waits] ∧
  ManK own A n c Y.m w∧FbK own A2 n2 c2 Y.hv w∧FbK own A3 n3 c3 Y.now w∧w.ownsRow B 9 1 (.slice A4 n4 c4) n4 (Y.ch.map sv)∧∀k,(Value.slice A4 n4 c4).ownBlock=some k→own k∧¬Foot P M ownD k∧k≠G
 g:own G∧¬Foot P M ownD G
section
variable {w w':World} {B G P D M N:Nat} {X:Sto} {Y:Ply} {own ownD:Nat→Prop}
theorem PlayAt.past (h:PlayAt w B G P D M N X Y own ownD) (hb:Below w.heap.size w w'):PlayAt w' B G P D M N X Y own ownD:=by
 obtain ⟨A,n,c,A2,n2,c2,A3,n3,c3,A4,n4,c4,h1,h2,h3,h4,h5,h6⟩:=h.box
 exact ⟨h.st.past hb,⟨A,n,c,A2,n2,c2,A3,n3,c3,A4,n4,c4,h1.past hb,h2.past hb,h3.out (.of_below hb),h4.out (.of_below hb),own_below' h5 hb,h6⟩,h.g⟩
def PnPost (w:World) (own:Nat→Prop) (X:Sto) (Y:Ply) (e:Ending) (w':World):Prop:=
 Below w.heap.size w w'∧∃(v x:Nat) (A:Option Addr) (n c:Nat) (b:Bool),e=.returned (.tuple #[mval v x A n c,.bool b])∧((b=true∧∃m,m.version=v∧m.next=x∧NextIs X (namesF Y.now) m∧ManK own A n c m w')∨(b=false∧∀m,¬NextIs X (namesF Y.now) m))
theorem plan_next {F:List UInt8→List UInt8} {e:Ending} (hY:PlyOk X F Y) (hj:Y.m.version<18446744073709551615) (h:PlPost w own Y.m X.S.stored.length Y.now Y.ch e w'):PnPost w own X Y e w':=by
 obtain ⟨hb,h⟩:=h
 refine ⟨hb,?_⟩
 rw[hY.list,hY.m] at h
 rw[hY.m] at hj
 rcases h with ⟨fs,nx,A,n,c,b,h1,h2,h3,h4⟩|⟨h1,h2⟩
 ·have hp:St.planD X.m X.S.stored.length (listC X (namesF Y.now))=some ⟨X.m.version+1,nx,fs⟩:=by unfold St.planD;rw[h1];rfl
  refine ⟨_,nx,A,n,c,b,h2,?_⟩
  cases b with
  |true=>exact .inl ⟨rfl,_,rfl,rfl,⟨hp,hj,h3.1 rfl⟩,h4⟩
  |false=>
   refine .inr ⟨rfl,fun m hm=>?_⟩
   have h5:=hm.1
   rw[hp] at h5
   injection h5 with h5
   have:=hm.2.2
   rw[←h5] at this
   exact absurd (h3.2 this) (by decide)
 ·exact ⟨0,0,none,0,0,false,h2,.inr ⟨rfl,next_none h1⟩⟩
theorem set3_cell {w:World} {G R i:Nat} {a b c:Value} (h:G≠R):(((w.setCell ⟨R,0,none⟩ a).setCell ⟨R,1,none⟩ b).setCell ⟨R,2,none⟩ c).cell? ⟨G,i,none⟩=w.cell? ⟨G,i,none⟩:=by
 unfold World.cell?
 rw[Below.heap_setCell _ _ _ _ (by simpa using h),Below.heap_setCell _ _ _ _ (by simpa using h),Below.heap_setCell _ _ _ _ (by simpa using h)]
theorem few_names {F:List UInt8→List UInt8} (hY:PlyOk X F Y) (hok:OkS X):∀f∈Y.now,1≤f.1.length∧f.1.length≤32:=fun f hf=>hasN_len hok ((hY.names.mem f.1).1 (List.mem_map.2 ⟨f,hf,rfl⟩))
set_option maxRecDepth 100000 in
set_option maxHeartbeats 4000000 in
theorem plan_any {F:List UInt8→List UInt8} (h:PlayAt w B G P D M N X Y own ownD) (hY:PlyOk X F Y) {j:Nat} (hj:FewY Y j) (hj60:j≤60):Calls Tryz.prog 49 #[.pointer (some ⟨G,0,none⟩)] w (PnPost w own X Y):=by
 obtain ⟨R,hR⟩:∃R,R=w.heap.size:=⟨_,rfl⟩
 obtain ⟨w0,hw0⟩:∃w0,w0=w.alloc (.cells #[.int .u64 0,.int .u32 0,.slice none 0 0] 38):=⟨_,rfl⟩
 have hb0:Below w.heap.size w w0:=by rw[hw0];exact (Below.refl _ _).alloc (Nat.le_refl _) _
 have hb1:Below w.heap.size w w0.drew:=hb0.trans ((Below.refl _ _).drew.mono hb0.size)
 have BR:=Lib.hid (show Blk w0 R [.int .u64 0,.int .u32 0,.slice none 0 0] by rw[hw0,hR];exact Blk.new w [.int .u64 0,.int .u32 0,.slice none 0 0] _)
 have hP:=h.past hb1
 obtain ⟨A,n,c,A2,n2,c2,A3,n3,c3,A4,n4,c4,h1,h2,h3,h4,h5,h6⟩:=h.box
 replace h1:=h1.past hb1
 replace h4:=h4.out (.of_below hb1)
 replace h5:=own_below' h5 hb1
 obtain ⟨cn,hcn⟩:∃cn,cn=X.S.stored.length:=⟨_,rfl⟩
 obtain ⟨ver,hver⟩:∃v,v=Y.m.version:=⟨_,rfl⟩
 obtain ⟨nx,hnx⟩:∃v,v=Y.m.next:=⟨_,rfl⟩
 have HCO:=Lib.hid (count_any hP.st.disk)
 have hown:∀k,(own k∨k=R)→k<w0.drew.heap.size:=fun k hk=>by
  have e:w0.drew.heap.size=w.heap.size+1:=by rw[hw0];show (w.alloc _).heap.size=_;rw[World.size_alloc]
  rcases hk with q|q
  ·have:=(h.st.lt q).2;omega
  ·omega
 have hchl:Y.ch.length=n4:=by have:=h5.1;rw[List.length_map,Nat.mul_one] at this;exact this
 have hnm:=few_names hY h.st.ok
 have hplan:=rplan_any (own:=fun k=>own k∨k=R) hown A n c Y.m (h2.next (Out.of_below hb1) (fun k hk=>hk.imp (fun q=>q) (fun q=>by omega))) (by rw[hY.m];exact h.st.ok.fit) cn
  ⟨by have:=h.st.ok.big;omega,by have:=h.st.disk.good.2.2.2.1;omega⟩ (by rw[hY.m,hcn];exact h.st.ok.disk) (by have:=hj.ver;omega) A3 n3 c3 Y.now h4.len (by have:=hj.now;have:=h4.len;omega) h4.cap h4.at_.now
  (fun f hf=>⟨(hnm f hf).2,by have:=hj.bn f hf;omega⟩) A4 n4 c4 Y.ch hchl (by have:=hj.ch;omega) (Cs.of_own h5)
 rw[←hver,←hnx] at hplan h1
 obtain ⟨c0,c1,c2',c3',c4',c5,c6,c7,c8⟩:w0.drew.cell? ⟨G,0,none⟩=_∧w0.drew.cell? ⟨G,1,none⟩=_∧w0.drew.cell? ⟨G,2,none⟩=_∧w0.drew.cell? ⟨G,3,none⟩=_∧w0.drew.cell? ⟨G,4,none⟩=_∧w0.drew.cell? ⟨G,5,none⟩=_∧w0.drew.cell? ⟨G,6,none⟩=_∧w0.drew.cell? ⟨G,7,none⟩=_∧w0.drew.cell? ⟨G,8,none⟩=_:=
  ⟨h1.cell rfl,h1.cell rfl,h1.cell rfl,h1.cell rfl,h1.cell rfl,h1.cell rfl,h1.cell rfl,h1.cell rfl,h1.cell rfl⟩
 rw[←hcn] at HCO
 have hGR:G≠R:=by have:=(h.st.lt h.g.1).2;omega
 have HPL:=Lib.hid hplan
 have HBX:=Lib.hid h1
 have HW0:=Lib.hid hw0
 have HRE:=Lib.hid hR
 have HB1:=Lib.hid hb1
 have HPN:=Lib.hid (fun (e:Ending) (w':World) (q:PlPost w0.drew (fun k=>own k∨k=R) Y.m cn Y.now Y.ch e w')=>plan_next (w:=w0.drew) (w':=w') (own:=fun k=>own k∨k=R) hY (by have:=hj.ver;omega) (hcn▸q))
 clear hplan hw0 hR hb0 hb1 h1 h2 h3 h4 h5 h6 hown hchl hnm hcn hver hnx h hP
 go_enter Tryz.func49,Tryz.ntmps49
 go_upto_region 1 with fail
 rw[←HW0.out,←HRE.out]
 go_region_held3 (fun w'=>w'.cell? ⟨G,1,none⟩=some (.pointer (some ⟨D,0,none⟩))∧w'.cell? ⟨G,2,none⟩=some (.int .u64 (ver:Int))∧w'.cell? ⟨G,3,none⟩=some (.int .u32 (nx:Int))∧w'.cell? ⟨G,4,none⟩=some (.slice A n c)∧w'.cell? ⟨G,6,none⟩=some (.slice A3 n3 c3)∧w'.cell? ⟨G,7,none⟩=some (.slice A4 n4 c4)) (first|exact ⟨c1,c2',c3',c4',c6,c7⟩|exact ⟨d1,d2,d3,d4,d6,d7⟩|exact ⟨(set3_cell hGR).trans d1,(set3_cell hGR).trans d2,(set3_cell hGR).trans d3,(set3_cell hGR).trans d4,(set3_cell hGR).trans d6,(set3_cell hGR).trans d7⟩)
  (first
  |(go_at_call 43
    refine HCO.out.mono ?_
    rintro e w' ⟨rfl,rfl⟩)
  |(go_at_call 80
    refine HPL.out.mono ?_
    intro e w5 hpl
    have hb5:Below w0.drew.heap.size w0.drew w5:=hpl.1
    obtain ⟨-,v,x,A5,n5,c5,b,rfl,hq⟩:=HPN.out e w5 hpl
    have HQ:=Lib.hid hq
    have BR5:=Lib.hid (BR.out.drew.past hb5)
    have BX5:=HBX.out.past hb5
    have d1:=BX5.cell (i:=1) rfl
    have d2:=BX5.cell (i:=2) rfl
    have d3:=BX5.cell (i:=3) rfl
    have d4:=BX5.cell (i:=4) rfl
    have d6:=BX5.cell (i:=6) rfl
    have d7:=BX5.cell (i:=7) rfl
    have HB5:=Lib.hid (HB1.out.trans (hb5.mono HB1.out.size))
    have r0:=BR5.out.cell (i:=0) rfl
    have r1:=BR5.out.cell (i:=1) rfl
    have r2:=BR5.out.cell (i:=2) rfl
    have f0:=BR5.out.frozen 0
    have f1:=BR5.out.frozen 1
    have f2:=BR5.out.frozen 2
    clear hpl hq hb5 BX5))
 obtain ⟨w7,hw7⟩:∃w7,w7=((w5.setCell ⟨R,0,none⟩ (.int .u64 (v:Int))).setCell ⟨R,1,none⟩ (.int .u32 (x:Int))).setCell ⟨R,2,none⟩ (.slice A5 n5 c5):=⟨_,rfl⟩
 have HB7:=Lib.hid (show Blk w7 R [.int .u64 (v:Int),.int .u32 (x:Int),.slice A5 n5 c5] by rw[hw7];exact ((BR5.out.set 0 _).set 1 _).set 2 _)
 have HO7:=Lib.hid (show Out (fun k=>k=R) w5 w7 by rw[hw7];exact (((Out.refl (fun k=>k=R) w5).setCell (p:=⟨R,0,none⟩) (.inl rfl) _).setCell (p:=⟨R,1,none⟩) (.inl rfl) _).setCell (p:=⟨R,2,none⟩) (.inl rfl) _)
 have HW7:=Lib.hid hw7
 clear hw7 r0 r1 r2 f0 f1 f2 d1 d2 d3 d4 d6 d7
 rw[←HW7.out]
 go_wp2_with fail
 have r0:=HB7.out.cell (i:=0) rfl
 have r1:=HB7.out.cell (i:=1) rfl
 have r2:=HB7.out.cell (i:=2) rfl
 refine bodyPost_ret (v:=.tuple #[mval v x A5 n5 c5,.bool b]) (by simp[results,Tryz.results49,go_sem,r0,r1,r2,mval]) rfl ?_
 refine ⟨HB5.out.trans (HO7.out.below (B:=w.heap.size) (fun k _ hk=>by have:=HRE.out;omega) HB5.out.size),v,x,A5,n5,c5,b,rfl,?_⟩
 rcases HQ.out with ⟨q1,m,q2,q3,q4,q5⟩|q
 ·exact .inl ⟨q1,m,q2,q3,q4,(q5.out (HO7.out.more (S':=fun k=>own k∨k=R) fun k _ hk=>.inr hk)).less fun k _ hk=>.inl hk⟩
 ·exact .inr q
end
end Go.Proofs.YtiocpefgccndbaaGreat
end
section
namespace Go.Proofs.YtiocpefgccndbaaGreat
open Go.RowKit Me Mf Rw Ds Va Go.Maps
section
variable {w w':World} {q:Nat} {x f:Int} {o:Bool} {A A':Option Addr} {n c n' c':Nat}
theorem int_boxq {v1 v2:Value} {o':Bool} {p:Addr} {z:Int} (hb:Blk w q [.int .i64 x,.bool o,.int .i64 f,.slice A n c,.slice A' n' c']) (hb':Blk w' q [.int .i64 x,.bool o',.int .i64 f,v1,v2]) (ho:Out (fun k=>k=q) w w') (hlt:p.block<w.heap.size) (hc:w.cell? p=some (.int .i64 z)):w'.cell? p=some (.int .i64 z):=by
 by_cases e:p.block=q
 ·obtain ⟨t,h⟩:=hb
  obtain ⟨t',h'⟩:=hb'
  unfold World.cell? at hc ⊢
  rw[e,h] at hc
  rw[e,h']
  simp only at hc ⊢
  split at hc
  ·cases hc
  ·rename_i hs
   rw[if_neg hs]
   generalize p.off=i at hc ⊢
   match i with
   |0=>exact hc
   |1=>simp at hc
   |2=>exact hc
   |3=>simp at hc
   |4=>simp at hc
   |i+5=>simp at hc
 ·exact (ho.cell hlt e).trans hc
theorem ManAt.dboxq {v1 v2:Value} {o':Bool} {L:Option Addr} {k d:Nat} {m:ManD} (h:ManAt w w.heap.size L k d m) (hb:Blk w q [.int .i64 x,.bool o,.int .i64 f,.slice A n c,.slice A' n' c']) (hb':Blk w' q [.int .i64 x,.bool o',.int .i64 f,v1,v2]) (ho:Out (fun k=>k=q) w w'):ManAt w' w'.heap.size L k d m:=by
 refine ⟨fun hn=>?_,h.len,h.cap,h.most,h.wf⟩
 obtain ⟨a,rfl,h1,hc⟩:=h.files hn
 refine ⟨a,rfl,Nat.lt_of_lt_of_le h1 ho.size,fun i g hg=>?_⟩
 obtain ⟨A1,n1,c1,g0,g1,g2,g3,g4,g5,g6,g7⟩:=hc i g hg
 have hne:(a.add (i*4)).block≠q:=hb.ne g0 (by simp[sv])
 have hlt:(a.add (i*4)).block<w.heap.size:=by rw[block_add];exact h1
 refine ⟨A1,n1,c1,(ho.cell hlt hne).trans g0,(ho.cell (p:=⟨_,_,Option.none⟩) hlt hne).trans g1,(ho.cell (p:=⟨_,_,Option.none⟩) hlt hne).trans g2,(ho.cell (p:=⟨_,_,Option.none⟩) hlt hne).trans g3,g4,g5,g6,fun hn'=>?_⟩
 obtain ⟨y,rfl,q1,q2⟩:=g7 hn'
 refine ⟨y,rfl,Nat.lt_of_lt_of_le q1 ho.size,fun j u hu=>?_⟩
 have hmem:=List.mem_of_getElem? hu
 obtain ⟨z,-,rfl⟩:=List.mem_map.1 hmem
 exact int_boxq hb hb' ho (by rw[block_add];exact q1) (q2 j _ hu)
end
def Plain (cs:List Value):Prop:=(∀l,sv l∉cs)∧∀u:UInt8,Value.int .u8 (u.toNat:Int)∉cs
theorem plain_d (x:Int) (o:Bool) (f:Int) (A:Option Addr) (n c:Nat) (A':Option Addr) (n' c':Nat):Plain [.int .i64 x,.bool o,.int .i64 f,.slice A n c,.slice A' n' c']:=
 ⟨fun l h=>by simp[sv] at h,fun u h=>by simp at h⟩
theorem plain_m (v x:Int) (A:Option Addr) (n c:Nat):Plain [.int .u64 v,.int .u32 x,.slice A n c]:=
 ⟨fun l h=>by simp[sv] at h,fun u h=>by simp at h⟩
section
variable {w w':World} {T:Nat→Prop} {p:World→Prop} {H:Nat} {cs cs':List Value} {A:Option Addr} {l:List UInt8} {fl:List FB}
theorem Kk.box (hp:∀W W',Blk W H cs→Blk W' H cs'→Out (fun k=>k=H) W W'→p W→p W') (h:Kk T p w) (hH:¬T H) (hb:Blk w H cs) (hb':Blk w' H cs') (ho:Out (fun k=>k=H) w w'):Kk T p w':=fun w2 h2=>by
 have hlt:=hb.lt
 have hlt':=hb'.lt
 have h22:=h2.size
 have h11:=ho.size
 obtain ⟨t,e⟩:=hb
 obtain ⟨t',e'⟩:=hb'
 have hH2:H<w2.heap.size:=by omega
 have q:Out T w {w2 with heap:=w2.heap.setIfInBounds H (.cells cs.toArray t (0,0))}:=by
  refine ⟨h2.os.trans ho.os,h2.tape.trans ho.tape,h2.output.trans ho.output,by simp;omega,fun k hk hn=>?_⟩
  show (w2.heap.setIfInBounds H _)[k]?=_
  rw[Array.getElem?_setIfInBounds]
  by_cases ek:H=k
  ·subst ek
   rw[if_pos rfl,if_pos hH2,e]
  ·rw[if_neg ek]
   exact (h2.block k (by omega) hn).trans (ho.block k hk fun e=>ek e.symm)
 refine hp {w2 with heap:=w2.heap.setIfInBounds H (.cells cs.toArray t (0,0))} w2 ⟨t,?_⟩ ⟨t',?_⟩ ⟨rfl,rfl,rfl,by simp,fun k hk hn=>?_⟩ (h _ q)
 ·show (w2.heap.setIfInBounds H _)[H]?=_
  rw[Array.getElem?_setIfInBounds,if_pos rfl,if_pos hH2]
 ·exact (h2.block H hlt' hH).trans e'
 ·show _=(w2.heap.setIfInBounds H _)[k]?
  rw[Array.getElem?_setIfInBounds,if_neg fun e=>hn e.symm]
theorem Rd.pbox (hc:Plain cs) (hb:Blk w H cs) (ho:Out (fun k=>k=H) w w') (h:Rd w w.heap.size A l):Rd w' w'.heap.size A l:=fun hn=>by
 obtain ⟨a,rfl,h1,h2⟩:=h hn
 have h0:=h2 0 _ (List.getElem?_eq_getElem hn)
 have hne:(a.add 0).block≠H:=hb.ne h0 (hc.2 _)
 rw[block_add] at hne
 exact ⟨a,rfl,Nat.lt_of_lt_of_le h1 ho.size,fun i u hu=>(ho.cell (by rw[block_add];exact h1) (by rw[block_add];exact hne)).trans (h2 i u hu)⟩
theorem Cs.pbox (hc:Plain cs) (hb:Blk w H cs) (ho:Out (fun k=>k=H) w w') (h:Cs w w.heap.size A (fcl fl)):Cs w' w'.heap.size A (fcl fl):=fun hn=>by
 have hf:0<fl.length:=by rw[fcl_length] at hn;omega
 obtain ⟨a,rfl,h1,h2⟩:=h hn
 obtain ⟨a',e,g0,-⟩:=fcl_cells (fun hn=>⟨a,rfl,h1,h2⟩) (List.getElem?_eq_getElem hf)
 injection e with e
 subst e
 have hne:=hb.ne g0 (hc.1 _)
 rw[block_add] at hne
 exact ⟨a,rfl,Nat.lt_of_lt_of_le h1 ho.size,fun i u hu=>(ho.cell (by rw[block_add];exact h1) (by rw[block_add];exact hne)).trans (h2 i u hu)⟩
theorem Cy.pbox {own:Nat→Prop} {L:Option Addr} {l:List WD} (hc:Plain cs) (h:Cy w own L l) (hb:Blk w H cs) (ho:Out (fun k=>k=H) w w'):Cy w' own L l:=fun hn=>by
 obtain ⟨y,hy⟩:∃y,l[0]?=some y:=⟨_,List.getElem?_eq_getElem hn⟩
 obtain ⟨g,e,q1,q2,-,q4⟩:=h.at hy
 have hne:g≠H:=hb.ne (p:=⟨g,0*2+1,none⟩) q4 (hc.1 _)
 obtain ⟨g',e',h1,h2,h3⟩:=h hn
 rw[e] at e'
 injection e' with e'
 injection e' with e'
 subst e'
 exact ⟨g,e,Nat.lt_of_lt_of_le h1 ho.size,h2,fun i v hv=>(ho.cell (p:=⟨g,i,none⟩) h1 hne).trans (h3 i v hv)⟩
theorem RefAt.pbox {own:Nat→Prop} {M:RefM} {Am Aw:Option Addr} {cm cw:Nat} (hc:Plain cs) (h:RefAt w own M Am cm Aw cw) (hb:Blk w H cs) (ho:Out (fun k=>k=H) w w'):RefAt w' own M Am cm Aw cw:=
 ⟨h.made.pbox hc hb ho,h.wait.pbox hc hb ho,h.cm,h.cw⟩
def ManBox (H:Nat) (cs cs':List Value):Prop:=∀W W',Blk W H cs→Blk W' H cs'→Out (fun k=>k=H) W W'→∀A n c m,BlocksOk m.files→ManAt W W.heap.size A n c m→ManAt W' W'.heap.size A n c m
theorem ManBox.m (H:Nat) (v x:Int) (A:Option Addr) (n c:Nat) (cs':List Value):ManBox H [.int .u64 v,.int .u32 x,.slice A n c] cs':=fun _ _ hb _ ho _ _ _ _ _ h=>h.box hb ho
theorem FbK.box {n c:Nat} (hc:Plain cs) (h:FbK T A n c fl w) (hH:¬T H) (hb:Blk w H cs) (hb':Blk w' H cs') (ho:Out (fun k=>k=H) w w'):FbK T A n c fl w':=
 ⟨h.len,h.cap,Kk.box (cs':=cs') (fun _ _ hB _ hO h=>Cs.pbox hc hB hO h) h.at_ hH hb hb' ho⟩
theorem ManBox.z (H:Nat) (A:Option Addr) (n c:Nat) (A':Option Addr) (n' c':Nat) (cs':List Value):ManBox H [.int .i64 0,.bool false,.int .i64 0,.slice A n c,.slice A' n' c'] cs':=fun W W' hb _ ho L n c m hm h=>by
 refine {h with files:=fun hn=>?_}
 obtain ⟨a,rfl,h1,hc⟩:=h.files hn
 refine ⟨a,rfl,Nat.lt_of_lt_of_le h1 ho.size,fun i f hf=>?_⟩
 obtain ⟨A',n',c',g0,g1,g2,g3,g4,g5,g6,g7⟩:=hc i f hf
 have hne:(a.add (i*4)).block≠H:=hb.ne g0 (by simp[sv])
 have hlt:(a.add (i*4)).block<W.heap.size:=by rw[block_add];exact h1
 refine ⟨A',n',c',(ho.cell hlt hne).trans g0,(ho.cell (p:=⟨_,_,none⟩) hlt hne).trans g1,(ho.cell (p:=⟨_,_,none⟩) hlt hne).trans g2,(ho.cell (p:=⟨_,_,none⟩) hlt hne).trans g3,g4,g5,g6,fun hn'=>?_⟩
 obtain ⟨q,rfl,q1,q2⟩:=g7 hn'
 refine ⟨q,rfl,Nat.lt_of_lt_of_le q1 ho.size,fun j u hu=>?_⟩
 have hmem:=List.mem_of_getElem? hu
 obtain ⟨z,hz,rfl⟩:=List.mem_map.1 hmem
 have h32:=((hm.1 f (List.mem_of_getElem? hf)).2.2 z hz).1
 have hc':=q2 j _ hu
 have hne':=hb.ne hc' (by simp;omega)
 exact (ho.cell (by rw[block_add];exact q1) hne').trans hc'
theorem ManK.box {n c:Nat} {m:ManD} (hm:ManBox H cs cs') (hk:BlocksOk m.files) (h:ManK T A n c m w) (hH:¬T H) (hb:Blk w H cs) (hb':Blk w' H cs') (ho:Out (fun k=>k=H) w w'):ManK T A n c m w':=
 Kk.box (cs':=cs') (fun W W' hB hB' hO h=>hm W W' hB hB' hO _ _ _ _ hk h) h hH hb hb' ho
end
section
variable {w w':World} {B G P D M N H:Nat} {X:Sto} {Y:Ply} {own own' ownD:Nat→Prop} {cs cs':List Value}
theorem PlayAt.box' (hc:Plain cs) (hm:ManBox H cs cs') (hy:BlocksOk Y.m.files) (h:PlayAt w B G P D M N X Y own ownD) (hH:¬own H) (hb:Blk w H cs) (hb':Blk w' H cs') (ho:Out (fun k=>k=H) w w'):PlayAt w' B G P D M N X Y own ownD:=by
 obtain ⟨A,n,c,A2,n2,c2,A3,n3,c3,A4,n4,c4,h1,h2,h3,h4,h5,h6⟩:=h.box
 have hT:∀k,own k→¬k=H:=fun k hk e=>hH (e▸hk)
 exact ⟨h.st.out ho hT (fun A n c q=>ManK.box hm h.st.ok.fit.1.2.2 q hH hb hb' ho) (fun A l q=>Kk.box (cs':=cs') (fun _ _ hB _ hO h=>Rd.pbox hc hB hO h) q hH hb hb' ho),
  ⟨A,n,c,A2,n2,c2,A3,n3,c3,A4,n4,c4,h1.out ho (hT _ h.g.1),ManK.box hm hy h2 hH hb hb' ho,h3.box hc hH hb hb' ho,h4.box hc hH hb hb' ho,own_out h5 ho fun k hk e=>hT k (h6 k hk).1 e,h6⟩,h.g⟩
theorem RefAt.next {R:RefM} {Am Aw:Option Addr} {cm cw:Nat} (h:RefAt w own R Am cm Aw cw) (ho:Out own w w') (hs:∀k,own' k→own k∨w.heap.size≤k):RefAt w' own' R Am cm Aw cw:=by
 have key:∀{A:Option Addr} {l:List WD},Cy w own A l→Cy w' own' A l:=fun h hn=>by
  obtain ⟨g,e,h1,h2,h3⟩:=h hn
  refine ⟨g,e,Nat.lt_of_lt_of_le h1 ho.size,fun hg=>?_,fun i v hv=>(ho.cell (p:=⟨g,i,none⟩) h1 h2).trans (h3 i v hv)⟩
  rcases hs g hg with q|q
  ·exact h2 q
  ·omega
 exact ⟨key h.made,key h.wait,h.cm,h.cw⟩
end
end Go.Proofs.YtiocpefgccndbaaGreat
end
section
namespace Go.Proofs.YtiocpefgccndbaaGreat
open Go.RowKit Me Mf Rw Ds Va Go.Maps
section
variable {w w':World} {B G P D M N N':Nat} {X X':Sto} {Y Y':Ply} {own ownD own' ownD':Nat→Prop}
theorem PlayAt.store (h:PlayAt w B G P D M N X Y own ownD) (hs:StoreAt w' B P D M N' X' own' ownD') (hf:Fol w w' P M own ownD own' ownD'):PlayAt w' B G P D M N' X' Y own' ownD':=by
 obtain ⟨f1,f2,f3,f4⟩:=hf
 obtain ⟨A,n,c,A2,n2,c2,A3,n3,c3,A4,n4,c4,h1,h2,h3,h4,h5,h6⟩:=h.box
 have ho:Out own w w':=h.st.foot f1
 have hlt:∀k,own k→k<w.heap.size:=fun k hk=>(h.st.lt hk).2
 have hnf:∀k,own k→¬Foot P M ownD k→¬Foot P M ownD' k:=fun k hk hn hf=>by
  rcases hf with e|e|e
  ·exact hn (.inl e)
  ·exact hn (.inr (.inl e))
  ·rcases f4 k e with q|q
   ·exact hn (.inr (.inr q))
   ·have:=hlt k hk;omega
 refine ⟨hs,⟨A,n,c,A2,n2,c2,A3,n3,c3,A4,n4,c4,h1.out f1 h.g.2,h2.next ho f2,h3.next ho f2,h4.next ho f2,own_out h5 f1 (fun k hk e=>(h6 k hk).2.1 e),fun k hk=>?_⟩,f3 _ h.g.1,hnf _ h.g.1 h.g.2⟩
 obtain ⟨q1,q2,q3⟩:=h6 k hk
 exact ⟨f3 k q1,hnf k q1 q2,q3⟩
theorem PlayAt.turn (h:PlayAt w B G P D M N X Y own ownD) {E:Nat→Prop} (hb:B≤w.heap.size) (ho:Out (fun k=>own k∧¬Foot P M ownD k) w w') (hE:∀k,E k→w.heap.size≤k∧k<w'.heap.size) {A A2 A3 A4:Option Addr} {n c n2 c2 n3 c3 n4 c4:Nat}
 (h1:Blk w' G [.pointer (some ⟨P,0,none⟩),.pointer (some ⟨D,0,none⟩),.int .u64 (Y'.m.version:Int),.int .u32 (Y'.m.next:Int),.slice A n c,.slice A2 n2 c2,.slice A3 n3 c3,.slice A4 n4 c4,.bool Y'.waits])
 (h2:ManK own A n c Y'.m w) (h3:FbK own A2 n2 c2 Y'.hv w) (h4:FbK own A3 n3 c3 Y'.now w) (h5:w'.ownsRow B 9 1 (.slice A4 n4 c4) n4 (Y'.ch.map sv)) (h6:∀k,(Value.slice A4 n4 c4).ownBlock=some k→(own k∧¬Foot P M ownD k∧k≠G)∨E k) :
 PlayAt w' B G P D M N X Y' (fun k=>own k∨E k) ownD:=by
 have hlt:∀k,own k→k<w.heap.size:=fun k hk=>(h.st.lt hk).2
 have hO:Out own w w':=ho.more fun k _ hk=>hk.1
 have hs:∀k,(own k∨E k)→own k∨w.heap.size≤k:=fun k hk=>hk.imp (fun q=>q) (fun q=>(hE k q).1)
 have hl:=(h.st.lt h.g.1).2
 refine ⟨h.st.wide hO ho (fun k hk=>.inl hk) hs (fun k hk=>?_),⟨A,n,c,A2,n2,c2,A3,n3,c3,A4,n4,c4,h1,h2.next hO hs,h3.next hO hs,h4.next hO hs,h5,fun k hk=>?_⟩,.inl h.g.1,h.g.2⟩
 ·rcases hk with q|q
  ·exact ⟨(h.st.lt q).1,Nat.lt_of_lt_of_le (hlt k q) ho.size⟩
  ·exact ⟨Nat.le_trans hb (hE k q).1,(hE k q).2⟩
 ·rcases h6 k hk with ⟨q1,q2,q3⟩|q
  ·exact ⟨.inl q1,q2,q3⟩
  ·have h8:=(hE k q).1
   refine ⟨.inr q,fun hf=>?_,by omega⟩
   have:=hlt k (h.st.own k hf)
   omega
def CmtP (X:Sto) (Y:Ply) (X':Sto) (Y':Ply) (ok:Bool) (r:Int):Prop:=
 (Y.waits=false∧X'=X∧Y'=Y∧r=0∧ok=true) ∨
 (Y.waits=true∧(∀m,¬NextIs X (namesF Y.now) m)∧X'=X∧Y'=Y∧r=7∧ok=true) ∨
 (Y.waits=true∧∃m,NextIs X (namesF Y.now) m∧Wf m∧(putD X m).2≠0∧X'={X with S:=(putD X m).1,broken:=true}∧Y'=Y∧r=(putD X m).2∧ok=decide (r=6)) ∨
 (Y.waits=true∧∃m,NextIs X (namesF Y.now) m∧Wf m∧(putD X m).2=0∧X'=⟨(putD X m).1,m,noC,X.broken⟩∧Y'=⟨m,Y.now,Y.now,[],false⟩∧r=0∧ok=true)
theorem NextIs.one {l:List (List UInt8)} {m m':ManD} (h:NextIs X l m) (h':NextIs X l m'):m=m':=by
 have e:=h.1.symm.trans h'.1
 injection e
theorem cmt_ways {F:List UInt8→List UInt8} {r:Int} (h:CmtIs X X' r) (hup:upD X=true) (hY:PlyOk X F Y) :
 (Y.waits=false∧X'=X∧r=0)∨(Y.waits=true∧(∀m,¬NextIs X (namesF Y.now) m)∧X'=X∧r=7) ∨
 (Y.waits=true∧∃m,NextIs X (namesF Y.now) m∧(((putD X m).2≠0∧X'={X with S:=(putD X m).1,broken:=true}∧r=(putD X m).2)∨((putD X m).2=0∧X'=⟨(putD X m).1,m,noC,X.broken⟩∧r=0))):=by
 rcases h with ⟨q,-⟩|⟨-,q,e,hr⟩|⟨-,q,l,hl,hq⟩
 ·rw[hup] at q;cases q
 ·refine .inl ⟨?_,e,hr⟩
  cases hw:Y.waits with
  |false=>rfl
  |true=>exact absurd q (hY.waits.1 hw)
 ·have hw:=hY.waits.2 q
  have hl':=hl.one hY.names
  subst hl'
  rcases hq with ⟨q1,q2,q3⟩|⟨m,hm,q⟩
  ·exact .inr (.inl ⟨hw,q1,q2,q3⟩)
  ·exact .inr (.inr ⟨hw,m,hm,q⟩)
def CpPost (w:World) (B G P D M N:Nat) (X:Sto) (Y:Ply) (own:Nat→Prop) (e:Ending) (w':World):Prop:=
 ∃X' Y' ok r own' ownD',e=.returned (.tuple #[.bool ok,.int .i64 r])∧CmtP X Y X' Y' ok r∧PlayAt w' B G P D M N X' Y' own' ownD'∧Out own w w'∧∀k,own' k→own k∨w.heap.size≤k
set_option maxRecDepth 100000 in
set_option maxHeartbeats 4000000 in
theorem commits_any {F:List UInt8→List UInt8} (h:PlayAt w B G P D M N X Y own ownD) (hup:upD X=true) (hY:PlyOk X F Y) {j:Nat} (hj:FewY Y j) (hj60:j≤60) (hN:N≤1000) (hp:X.S.pend.length+4096≤1073741824) :
 Calls Tryz.prog 38 #[.pointer (some ⟨G,0,none⟩)] w (CpPost w B G P D M N X Y own):=by
 have HPN:=Lib.hid (plan_any h hY hj hj60)
 have HP:=Lib.hid h
 have HY:=Lib.hid hY
 have HU:=Lib.hid hup
 have HPD:=Lib.hid hp
 clear h hY hup hp
 go_enter Tryz.func38,Tryz.ntmps38
 go_upto_region 1 with fail
 go_upto_region 2 with (go_at_call 49;refine HPN.out.mono ?_;rintro e w1 ⟨hb1,v,x,A5,n5,c5,b,rfl,hq⟩;have HB1:=Lib.hid hb1;have HQ:=Lib.hid hq;clear hb1 hq)
 obtain ⟨w2,hw2⟩:∃w2,w2=w1.alloc (.cells #[.int .u64 (v:Int),.int .u32 (x:Int),.slice A5 n5 c5] 38):=⟨_,rfl⟩
 have hb12:Below w1.heap.size w1 w2:=by rw[hw2];exact (Below.refl _ _).alloc (Nat.le_refl _) _
 obtain ⟨W,hW⟩:∃W,W=w1.heap.size:=⟨_,rfl⟩
 have HBW:=Lib.hid (show Blk w2 W [.int .u64 (v:Int),.int .u32 (x:Int),.slice A5 n5 c5] by rw[hw2,hW];exact Blk.new w1 [.int .u64 (v:Int),.int .u32 (x:Int),.slice A5 n5 c5] _)
 have HB2:=Lib.hid (HB1.out.trans (hb12.mono HB1.out.size))
 have hP2:=HP.out.past HB2.out
 have HQ2:=Lib.hid (HQ.out.imp (fun q=>(show b=true∧∃m,m.version=v∧m.next=x∧NextIs X (namesF Y.now) m∧ManK own A5 n5 c5 m w2 from ⟨q.1,q.2.imp fun m q=>⟨q.1,q.2.1,q.2.2.1,q.2.2.2.past hb12⟩⟩)) (fun q=>q))
 obtain ⟨A,n,c,A2,n2,c2,A3,n3,c3,A4,n4,c4,h1,-⟩:=hP2.box
 have c0:=h1.cell (i:=0) rfl
 have HCO:=Lib.hid (scommit_any hP2.st hN HPD.out)
 have HP2:=Lib.hid hP2
 have HW2:=Lib.hid hw2
 have HWE:=Lib.hid hW
 have hWG:W≠G:=by have:=(HP.out.st.lt HP.out.g.1).2;have:=HB1.out.size;omega
 have hWw:w.heap.size≤W:=by have:=HB1.out.size;omega
 rw[←hw2,←hW]
 clear hw2 hb12 hW hP2 h1 HQ HB1
 go_upto_region 3 with (go_at_call 36;refine HCO.out.mono ?_;rintro e w3 ⟨X',r,rfl,hci,own',ownD',hs3,hf3⟩;have HCI:=Lib.hid hci;have HS3:=Lib.hid hs3;have HF3:=Lib.hid hf3;clear hci hs3 hf3)
 have HP3:=Lib.hid (HP2.out.store HS3.out HF3.out)
 have HO3:=Lib.hid (show Out own w w3 from (Out.of_below HB2.out).trans (HP2.out.st.foot HF3.out.1))
 have HN3:=Lib.hid (show ∀k,own' k→own k∨w.heap.size≤k from fun k hk=>by
  rcases HF3.out.2.1 k hk with q|q
  ·exact .inl q
  ·exact .inr (Nat.le_trans HB2.out.size q))
 have hWo:¬Foot P M ownD W:=fun hf=>by
  have h1:=(HP.out.st.lt (HP.out.st.own W hf)).2
  omega
 have HBW3:=Lib.hid (HBW.out.out HF3.out.1 hWo)
 have hbox:=HP3.out.box
 clear c0
 obtain ⟨A,n,c,A2,n2,c2,A3,n3,c3,A4,n4,c4,h1,h2,h3,h4,h5,h6⟩:=hbox
 have HX1:=Lib.hid h1
 have c8:=h1.cell (i:=8) rfl
 obtain ⟨wt,hwt⟩:∃wt,wt=Y.waits:=⟨_,rfl⟩
 rw[←hwt] at c8
 have HWT:=Lib.hid hwt
 clear h1 hwt hWo
 rcases cmt_ways HCI.out HU.out HY.out with ⟨q1,q2,q3⟩|⟨q1,q2,q3,q4⟩|⟨q1,m,q2,⟨q3,q4,q5⟩|⟨q3,q4,q5⟩⟩
 ·have hf:wt=false:=by rw[HWT.out];exact q1
  subst hf q3
  have HQQ:=Lib.hid (And.intro q1 q2)
  clear q1 q2 HCI HCO
  go_wp2_with fail
  go_ret2
  exact ⟨X',Y,true,0,own',ownD',rfl,.inl ⟨HQQ.out.1,HQQ.out.2,rfl,rfl,rfl⟩,HP3.out,HO3.out,HN3.out⟩
 ·have hf:wt=true:=by rw[HWT.out];exact q1
  have hb:b=false:=by
   rcases HQ2.out with ⟨-,m,-,-,q,-⟩|⟨q,-⟩
   ·exact absurd q (q2 m)
   ·exact q
  subst hf hb q4
  have HQQ:=Lib.hid (And.intro q1 (And.intro q2 q3))
  clear q1 q2 q3 HCI HCO
  go_wp2_with fail
  go_ret2
  exact ⟨X',Y,true,7,own',ownD',rfl,.inr (.inl ⟨HQQ.out.1,HQQ.out.2.1,HQQ.out.2.2,rfl,rfl,rfl⟩),HP3.out,HO3.out,HN3.out⟩
 ·have hf:wt=true:=by rw[HWT.out];exact q1
  have hb:b=true:=by
   rcases HQ2.out with ⟨q,-⟩|⟨-,q⟩
   ·exact q
   ·exact absurd q2 (q m)
  subst hf hb
  have hwf:Wf m:=by
   rcases HQ2.out with ⟨-,m',-,-,k3,k4⟩|⟨q,-⟩
   ·have:=k3.one q2
    subst this
    exact k4.now.wf
   ·cases q
  have HWF:=Lib.hid hwf
  clear hwf
  have hr0:r≠0:=by rw[q5];exact q3
  have HQQ:=Lib.hid (And.intro q1 (And.intro q2 (And.intro q3 (And.intro q4 q5))))
  clear q1 q2 q3 q4 q5 HCI HCO
  have d0:(r==0)=false:=by rw[beq_eq_false_iff_ne];exact hr0
  obtain ⟨ok,hok⟩:∃ok,ok=(r==6):=⟨_,rfl⟩
  have HOK:=Lib.hid (show ok=decide (r=6) by rw[hok];exact (Bool.beq_eq_decide_eq r 6))
  have d6:(r==6)=ok:=hok.symm
  clear hok hr0
  go_wp2_with fail
  go_ret2
  exact ⟨X',Y,ok,r,own',ownD',rfl,.inr (.inr (.inl ⟨HQQ.out.1,m,HQQ.out.2.1,HWF.out,HQQ.out.2.2.1,HQQ.out.2.2.2.1,rfl,HQQ.out.2.2.2.2,HOK.out⟩)),HP3.out,HO3.out,HN3.out⟩
 ·have hf:wt=true:=by rw[HWT.out];exact q1
  have hb:b=true:=by
   rcases HQ2.out with ⟨q,-⟩|⟨-,q⟩
   ·exact q
   ·exact absurd q2 (q m)
  subst hf hb q5
  obtain ⟨hv,hx,hmm⟩:v=m.version∧x=m.next∧ManK own A5 n5 c5 m w2:=by
   rcases HQ2.out with ⟨-,m',k1,k2,k3,k4⟩|⟨q,-⟩
   ·have:=k3.one q2
    subst this
    exact ⟨k1.symm,k2.symm,k4⟩
   ·cases q
  have HM3:=Lib.hid (hmm.next (HP2.out.st.foot HF3.out.1) HF3.out.2.1)
  have HQQ:=Lib.hid (And.intro q1 (And.intro q2 (And.intro q3 (And.intro q4 (And.intro hv hx)))))
  have H4:=Lib.hid h4
  have e0:=HBW3.out.cell (i:=0) rfl
  have e1:=HBW3.out.cell (i:=1) rfl
  have e2:=HBW3.out.cell (i:=2) rfl
  have g2:=HX1.out.cell (i:=2) rfl
  have g3:=HX1.out.cell (i:=3) rfl
  have g4:=HX1.out.cell (i:=4) rfl
  have f2:=HX1.out.frozen 2
  have f3:=HX1.out.frozen 3
  have f4:=HX1.out.frozen 4
  have hG3:=HX1.out.lt
  clear hv hx hmm q1 q2 q3 q4 HCI HCO h2 h3 h4 h5 h6 HQ2
  go_upto_region 9 with fail
  obtain ⟨w4,hw4⟩:∃w4,w4=((w3.setCell ⟨G,2,none⟩ (.int .u64 (v:Int))).setCell ⟨G,3,none⟩ (.int .u32 (x:Int))).setCell ⟨G,4,none⟩ (.slice A5 n5 c5):=⟨_,rfl⟩
  have HX4:=Lib.hid (show Blk w4 G [.pointer (some ⟨P,0,none⟩),.pointer (some ⟨D,0,none⟩),.int .u64 (v:Int),.int .u32 (x:Int),.slice A5 n5 c5,.slice A2 n2 c2,.slice A3 n3 c3,.slice A4 n4 c4,.bool Y.waits] by rw[hw4];exact ((HX1.out.set 2 _).set 3 _).set 4 _)
  have HO4:=Lib.hid (show Out (fun k=>k=G) w3 w4 by rw[hw4];exact (((Out.refl (fun k=>k=G) w3).setCell (p:=⟨G,2,none⟩) (.inl rfl) _).setCell (p:=⟨G,3,none⟩) (.inl rfl) _).setCell (p:=⟨G,4,none⟩) (.inl rfl) _)
  rw[←hw4]
  have s4:=HX4.out.cell (i:=5) rfl
  have s5:=HX4.out.cell (i:=6) rfl
  have t4:=HX4.out.frozen 5
  clear hw4 e0 e1 e2 g2 g3 g4 f2 f3 f4 c8
  go_upto_region 10 with fail
  obtain ⟨w5,hw5⟩:∃w5,w5=w4.setCell ⟨G,5,none⟩ (.slice A3 n3 c3):=⟨_,rfl⟩
  have HX5:=Lib.hid (show Blk w5 G [.pointer (some ⟨P,0,none⟩),.pointer (some ⟨D,0,none⟩),.int .u64 (v:Int),.int .u32 (x:Int),.slice A5 n5 c5,.slice A3 n3 c3,.slice A3 n3 c3,.slice A4 n4 c4,.bool Y.waits] by rw[hw5];exact HX4.out.set 5 _)
  have HO5:=Lib.hid (show Out (fun k=>k=G) w3 w5 by rw[hw5];exact HO4.out.setCell (p:=⟨G,5,none⟩) (.inl rfl) _)
  rw[←hw5]
  have s7:=HX5.out.cell (i:=7) rfl
  have t7:=HX5.out.frozen 7
  have hG5:=HX5.out.lt
  clear hw5 s4 s5 t4 HX4 HO4
  go_upto_region 11 with fail
  obtain ⟨w6,hw6⟩:∃w6,w6=w5.setCell ⟨G,7,none⟩ (.slice (some ⟨w5.heap.size,0,none⟩) 0 0):=⟨_,rfl⟩
  obtain ⟨w7,hw7⟩:∃w7,w7=w6.alloc (.cells #[] 9):=⟨_,rfl⟩
  have hs6:w6.heap.size=w5.heap.size:=by rw[hw6,World.size_setCell]
  have HX6:=Lib.hid (show Blk w6 G [.pointer (some ⟨P,0,none⟩),.pointer (some ⟨D,0,none⟩),.int .u64 (v:Int),.int .u32 (x:Int),.slice A5 n5 c5,.slice A3 n3 c3,.slice A3 n3 c3,.slice (some ⟨w5.heap.size,0,none⟩) 0 0,.bool Y.waits] by rw[hw6];exact HX5.out.set 7 _)
  have HX7:=Lib.hid (show Blk w7 G [.pointer (some ⟨P,0,none⟩),.pointer (some ⟨D,0,none⟩),.int .u64 (v:Int),.int .u32 (x:Int),.slice A5 n5 c5,.slice A3 n3 c3,.slice A3 n3 c3,.slice (some ⟨w5.heap.size,0,none⟩) 0 0,.bool Y.waits] by rw[hw7];exact HX6.out.alloc _)
  have HO6:=Lib.hid (show Out (fun k=>k=G) w3 w6 by rw[hw6];exact HO5.out.setCell (p:=⟨G,7,none⟩) (.inl rfl) _)
  have HO7:=Lib.hid (show Out (fun k=>k=G) w3 w7 by rw[hw7];exact HO6.out.alloc _)
  have HR7:=Lib.hid (show w7.ownsRow w5.heap.size 9 1 (.slice (some ⟨w5.heap.size,0,none⟩) 0 0) 0 (([]:List (List UInt8)).map sv) by rw[hw7,←hs6];exact World.ownsRow_lit w6 #[] 0 (Nat.le_refl _) (by unfold maxLen;omega) rfl)
  rw[←hw6,←hw7]
  have h53:=HO5.out.size
  have h57:w5.heap.size<w7.heap.size:=by rw[hw7,World.size_alloc];omega
  have s8:=HX7.out.cell (i:=8) rfl
  have t8:=HX7.out.frozen 8
  clear hw7 hw6 hs6 s7 t7 HX6 HO6 HX5 HO5 hG5
  go_wp2_with fail
  obtain ⟨w8,hw8⟩:∃w8,w8=w7.setCell ⟨G,8,none⟩ (.bool false):=⟨_,rfl⟩
  rw[←hw8]
  have HX8:=Lib.hid (show Blk w8 G [.pointer (some ⟨P,0,none⟩),.pointer (some ⟨D,0,none⟩),.int .u64 (v:Int),.int .u32 (x:Int),.slice A5 n5 c5,.slice A3 n3 c3,.slice A3 n3 c3,.slice (some ⟨w5.heap.size,0,none⟩) 0 0,.bool false] by rw[hw8];exact HX7.out.set 8 _)
  have HO8:=Lib.hid (show Out (fun k=>k=G) w3 w8 by rw[hw8];exact HO7.out.setCell (p:=⟨G,8,none⟩) (.inl rfl) _)
  have HR8:=Lib.hid (show w8.ownsRow w5.heap.size 9 1 (.slice (some ⟨w5.heap.size,0,none⟩) 0 0) 0 (([]:List (List UInt8)).map sv) by
   rw[hw8]
   exact own_out HR7.out ((Out.refl (fun k=>k=G) w7).setCell (p:=⟨G,8,none⟩) (.inl rfl) _) (fun k hk e=>by have h8:w5.heap.size=k:=Option.some.inj hk;omega))
  have h58:w5.heap.size<w8.heap.size:=by rw[hw8,World.size_setCell];exact h57
  clear hw8 s8 t8
  go_ret2
  obtain ⟨q1,q2,q3,q4,rfl,rfl⟩:=HQQ.out
  have hB3:B≤w3.heap.size:=by
   have:=(HP3.out.st.lt HP3.out.g.1)
   omega
  exact ⟨X',⟨m,Y.now,Y.now,[],false⟩,true,0,fun k=>own' k∨k=w5.heap.size,ownD',rfl,.inr (.inr (.inr ⟨q1,m,q2,HM3.out.now.wf,q3,q4,rfl,rfl,rfl⟩)),HP3.out.turn (Y':=⟨m,Y.now,Y.now,[],false⟩) hB3 (HO8.out.more fun k _ hk=>by rw[hk];exact HP3.out.g) (fun k hk=>by subst hk;exact ⟨h53,h58⟩) HX8.out HM3.out H4.out H4.out (own_more HR8.out (by omega)) (fun k hk=>.inr (Option.some.inj hk).symm),
   HO3.out.trans' HO8.out (fun k hk=>by
    rw[hk]
    exact HN3.out _ HP3.out.g.1),fun k hk=>by
    rcases hk with q|q
    ·exact HN3.out k q
    ·right;have:=HO3.out.size;omega⟩
end
end Go.Proofs.YtiocpefgccndbaaGreat
end
section
namespace Go.Proofs.YtiocpefgccndbaaGreat
open Go.RowKit Me Mf Rw Ds Va Go.Maps
section
variable {w w':World} {B G P D M N N':Nat} {X X':Sto} {Y Y':Ply} {own ownD own' ownD':Nat→Prop} {F:List UInt8→List UInt8}
def CgPost (w:World) (B G P D M N j:Nat) (X:Sto) (F:List UInt8→List UInt8) (own ownD:Nat→Prop) (e:Ending) (w':World):Prop:=
 ∃X' Y' N' own',e=.returned (.bool true)∧N'≤N+1∧X'.S=X.S∧X'.m=X.m∧Live X' F∧PlyOk X' F Y'∧FewY Y' (j+1)∧PlayAt w' B G P D M N' X' Y' own' ownD∧Out own w w'∧∀k,own' k→own k∨w.heap.size≤k
theorem FewY.more {j:Nat} (h:FewY Y j):FewY Y (j+1):=⟨by have:=h.now;omega,by have:=h.hv;omega,by have:=h.ch;omega,by have:=h.ver;omega,fun f hf=>by have:=h.bn f hf;omega,fun f hf=>by have:=h.bh f hf;omega⟩
theorem FewY.forget {j:Nat} (h:FewY Y j):FewY ⟨Y.m,Y.hv,Y.hv,[],false⟩ j:=⟨h.hv,h.hv,Nat.zero_le _,h.ver,h.bh,h.bh⟩
theorem FewY.put {j:Nat} (h:FewY Y j) {x b:List UInt8} (hb:b.length≤1000*(j+1)):FewY ⟨Y.m,Y.hv,putGo x b Y.now false,Y.ch++[x],true⟩ (j+1):=⟨by
 have h1:=putGo_length (x:=x) (b:=b) Y.now false
 have:=h.now
 simp at h1
 show (putGo x b Y.now false).length≤_
 omega,by have:=h.hv;show Y.hv.length≤_;omega,by have:=h.ch;show (Y.ch++[x]).length≤_;rw[List.length_append,List.length_singleton];omega,by have:=h.ver;show Y.m.version≤_;omega,fun f hf=>by
 rcases (putGo_mem _ _).1 hf with ⟨-,rfl⟩|⟨h1,-⟩
 ·exact hb
 ·have:=h.bn f h1;omega,fun f hf=>by have:=h.bh f hf;omega⟩
theorem FewY.remove {j:Nat} (h:FewY Y j) {x:List UInt8}:FewY ⟨Y.m,Y.hv,withoutD Y.now x,Y.ch,true⟩ (j+1):=⟨by
 have h1:(withoutD Y.now x).length≤Y.now.length:=List.length_filter_le _ _
 have:=h.now
 show (withoutD Y.now x).length≤_
 omega,by have:=h.hv;show Y.hv.length≤_;omega,by have:=h.ch;show Y.ch.length≤_;omega,by have:=h.ver;show Y.m.version≤_;omega,fun f hf=>by
 have:=h.bn f ((List.mem_filter.1 hf).1);omega,fun f hf=>by have:=h.bh f hf;omega⟩
theorem PlayAt.reset (h:PlayAt w B G P D M N X Y own ownD) {A A2 A3 A4:Option Addr} {n c n2 c2 n3 c3 n4 c4:Nat}
 (hx:Blk w G [.pointer (some ⟨P,0,none⟩),.pointer (some ⟨D,0,none⟩),.int .u64 (Y.m.version:Int),.int .u32 (Y.m.next:Int),.slice A n c,.slice A2 n2 c2,.slice A3 n3 c3,.slice A4 n4 c4,.bool Y.waits]) (h2:ManK own A n c Y.m w) (h3:FbK own A2 n2 c2 Y.hv w)
 (hw:w'=(((w.setCell ⟨G,6,none⟩ (.slice A2 n2 c2)).setCell ⟨G,7,none⟩ (.slice (some ⟨w.heap.size,0,none⟩) 0 0)).setCell ⟨G,8,none⟩ (.bool false)).alloc (.cells #[] 9)) :
 PlayAt w' B G P D M N X ⟨Y.m,Y.hv,Y.hv,[],false⟩ (fun k=>own k∨k=w.heap.size) ownD∧Out (fun k=>k=G) w w':=by
 have hG:=hx.lt
 have hB:B≤w.heap.size:=by have:=h.st.lt h.g.1;omega
 have ho1:Out (fun k=>k=G) w (((w.setCell ⟨G,6,none⟩ (.slice A2 n2 c2)).setCell ⟨G,7,none⟩ (.slice (some ⟨w.heap.size,0,none⟩) 0 0)).setCell ⟨G,8,none⟩ (.bool false)):=(((Out.refl (fun k=>k=G) w).setCell (p:=⟨G,6,none⟩) (.inl rfl) _).setCell (p:=⟨G,7,none⟩) (.inl rfl) _).setCell (p:=⟨G,8,none⟩) (.inl rfl) _
 have hb1:=((hx.set 6 (.slice A2 n2 c2)).set 7 (.slice (some ⟨w.heap.size,0,none⟩) 0 0)).set 8 (.bool false)
 have hs1:(((w.setCell ⟨G,6,none⟩ (.slice A2 n2 c2)).setCell ⟨G,7,none⟩ (.slice (some ⟨w.heap.size,0,none⟩) 0 0)).setCell ⟨G,8,none⟩ (.bool false)).heap.size=w.heap.size:=by rw[World.size_setCell,World.size_setCell,World.size_setCell]
 generalize ((w.setCell ⟨G,6,none⟩ (.slice A2 n2 c2)).setCell ⟨G,7,none⟩ (.slice (some ⟨w.heap.size,0,none⟩) 0 0)).setCell ⟨G,8,none⟩ (.bool false)=w1 at *
 have hr3:w'.ownsRow w.heap.size 9 1 (.slice (some ⟨w.heap.size,0,none⟩) 0 0) 0 (([]:List (List UInt8)).map sv):=by rw[hw,←hs1];exact World.ownsRow_lit w1 #[] 0 (Nat.le_refl _) (by unfold maxLen;omega) rfl
 have ho3:Out (fun k=>k=G) w w':=by rw[hw];exact ho1.alloc (.cells #[] 9)
 have hb3:Blk w' G [.pointer (some ⟨P,0,none⟩),.pointer (some ⟨D,0,none⟩),.int .u64 (Y.m.version:Int),.int .u32 (Y.m.next:Int),.slice A n c,.slice A2 n2 c2,.slice A2 n2 c2,.slice (some ⟨w.heap.size,0,none⟩) 0 0,.bool false]:=by rw[hw];exact hb1.alloc (.cells #[] 9)
 have hs3:w'.heap.size=w.heap.size+1:=by rw[hw,World.size_alloc,hs1]
 exact ⟨h.turn (Y':=⟨Y.m,Y.hv,Y.hv,[],false⟩) (E:=fun k=>k=w.heap.size) hB (ho3.more fun k _ hk=>by rw[hk];exact h.g) (fun k hk=>by omega) hb3 h2 h3 h3 (own_more hr3 hB) (fun k hk=>.inr (Option.some.inj hk).symm),ho3⟩
set_option maxRecDepth 100000 in
set_option maxHeartbeats 4000000 in
theorem changes_forget (h:PlayAt w B G P D M N X Y own ownD) (hL:Live X F) (hY:PlyOk X F Y) {j:Nat} (hj:FewY Y j) (hj60:j≤60) (z:Int) (hz:z≠0∧z≠1∧z≠2) (x:List UInt8) (A0:Option Addr) (n0 c0:Nat) :
 Calls Tryz.prog 39 #[.pointer (some ⟨G,0,none⟩),.agg #[.int .i64 z,sv x,.slice A0 n0 c0]] w (CgPost w B G P D M N j X F own ownD):=by
 obtain ⟨w0,hw0⟩:∃w0,w0=w.alloc (.cells #[.int .i64 z,sv x,.slice A0 n0 c0] 31):=⟨_,rfl⟩
 obtain ⟨H,hH⟩:∃H,H=w.heap.size:=⟨_,rfl⟩
 have hb0:Below w.heap.size w w0:=by rw[hw0];exact (Below.refl _ _).alloc (Nat.le_refl _) _
 have hbd:Below w.heap.size w w0.drew:=hb0.trans ((Below.refl _ _).drew.mono hb0.size)
 have BA:=Lib.hid (show Blk w0.drew H [.int .i64 z,sv x,.slice A0 n0 c0] by rw[hw0,hH];exact (Blk.new w [.int .i64 z,sv x,.slice A0 n0 c0] _).drew)
 have hP0:=h.past hbd
 obtain ⟨A,n,c,A2,n2,c2,A3,n3,c3,A4,n4,c4,h1,h2,h3,h4,h5,h6⟩:=hP0.box
 have HFD:=Lib.hid (rfind_any A3 n3 c3 Y.now x w0.drew h4.len (by have:=hj.now;have:=h4.len;omega) h4.at_.now)
 obtain ⟨ti,tb,hfd⟩:∃ti tb,findD Y.now x=(ti,tb):=⟨_,_,rfl⟩
 rw[hfd] at HFD
 have c0':=h1.cell (i:=0) rfl
 have c6:=h1.cell (i:=6) rfl
 have a0:=BA.out.cell (i:=0) rfl
 have a1:=BA.out.cell (i:=1) rfl
 have HP:=Lib.hid hP0
 have HL:=Lib.hid hL
 have HY:=Lib.hid hY
 have HJ:=Lib.hid hj
 have HW0:=Lib.hid hw0
 have HH:=Lib.hid hH
 have HB0:=Lib.hid hbd
 have d0:(z==0)=false:=by rw[beq_eq_false_iff_ne];exact hz.1
 have d1:(z==1)=false:=by rw[beq_eq_false_iff_ne];exact hz.2.1
 have d2:(z==2)=false:=by rw[beq_eq_false_iff_ne];exact hz.2.2
 have HFG:=Lib.hid (forget_any hP0.st)
 obtain ⟨lx,hlx⟩:∃lx,lx=x.length:=⟨_,rfl⟩
 have hsz:(ByteArray.mk x.toArray).size=lx:=by rw[hlx];exact List.size_toArray ..
 have hway:(decide ((0:Int)<(lx:Int))=false∧decide (0<lx)=false)∨(decide ((0:Int)<(lx:Int))=true∧decide (0<lx)=true∧∃g,decide ((lx:Int)≤32)=g∧decide (lx≤32)=g):=by
  by_cases h0:0<lx
  ·exact .inr ⟨by simp;omega,by simp;omega,_,rfl,by rw[decide_eq_decide];omega⟩
  ·exact .inl ⟨by simp;omega,by simp;omega⟩
 clear hw0 hH hb0 hbd h hP0 hL hY hj h1 h2 h3 h4 h5 h6 hz hfd hlx
 rcases hway with ⟨l0,l1⟩|⟨l0,l1,g,l2,l3⟩
 all_goals
  go_enter Tryz.func39,Tryz.ntmps39
  go_upto_region 1 with fail
  rw[←HW0.out,←HH.out]
  go_region_held3 (fun w'=>w'.cell? ⟨G,6,none⟩=some (.slice A3 n3 c3)∧w'.cell? ⟨H,1,none⟩=some (sv x)) (first|exact ⟨c6,a1⟩) (first|(go_at_call 40;refine HFD.out.mono ?_;rintro e w' ⟨rfl,rfl⟩))
  go_upto_region 27 with (go_at_call 31;refine HFG.out.mono ?_;rintro e w3 ⟨rfl,hs3,ho3⟩;have HS3:=Lib.hid hs3;have HO3:=Lib.hid ho3;clear hs3 ho3)
  have hP3:=HP.out.store HS3.out (Fol.foot HO3.out)
  have HO4:=Lib.hid (show Out own w w3 from (Out.of_below HB0.out).trans (HP.out.st.foot HO3.out))
  have hbox:=hP3.box
  clear c0' c6 a0 a1
  obtain ⟨A,n,c,A2,n2,c2,A3,n3,c3,A4,n4,c4,h1,h2,h3,h4,h5,h6⟩:=hbox
  have s5:=h1.cell (i:=5) rfl
  have s6:=h1.cell (i:=6) rfl
  have s7:=h1.cell (i:=7) rfl
  have s8:=h1.cell (i:=8) rfl
  have t6:=h1.frozen 6
  have t7:=h1.frozen 7
  have t8:=h1.frozen 8
  have hG3:=h1.lt
  obtain ⟨w9,hw9⟩:∃w9,w9=(((w3.setCell ⟨G,6,none⟩ (.slice A2 n2 c2)).setCell ⟨G,7,none⟩ (.slice (some ⟨w3.heap.size,0,none⟩) 0 0)).setCell ⟨G,8,none⟩ (.bool false)).alloc (.cells #[] 9):=⟨_,rfl⟩
  obtain ⟨r1,r2⟩:=hP3.reset h1 h2 h3 hw9
  have HR1:=Lib.hid r1
  have HR2:=Lib.hid r2
  have HW9:=Lib.hid hw9
  clear hP3 h1 h2 h3 h4 h5 h6 r1 r2 hw9
  go_wp2_with fail
  rw[←HW9.out]
  go_ret
  have hok:=HS3.out.ok
  exact ⟨{X with C:=noC},⟨Y.m,Y.hv,Y.hv,[],false⟩,N,fun k=>own k∨k=w3.heap.size,rfl,Nat.le_succ _,rfl,rfl,HL.out.change hok,HY.out.forget HL.out.ok.fit X.S X.broken,HJ.out.forget.more,HR1.out,
   HO4.out.trans (HR2.out.more fun k _ hk=>by rw[hk];exact HP.out.g.1),fun k hk=>by
    rcases hk with q|q
    ·exact .inl q
    ·right;have:=HO4.out.size;omega⟩
end
end Go.Proofs.YtiocpefgccndbaaGreat
end
section
namespace Go.Proofs.YtiocpefgccndbaaGreat
open Go.RowKit Me Mf Rw Ds Va Go.Maps
section
variable {w w':World} {B G P D M N N':Nat} {X X':Sto} {Y Y':Ply} {own ownD own' ownD':Nat→Prop} {F:List UInt8→List UInt8}
theorem PlayAt.st_ptr (h:PlayAt w B G P D M N X Y own ownD):w.cell? ⟨G,0,none⟩=some (.pointer (some ⟨P,0,none⟩)):=by
 obtain ⟨A,n,c,A2,n2,c2,A3,n3,c3,A4,n4,c4,h1,-⟩:=h.box
 exact h1.cell (i:=0) rfl
theorem PlayAt.renow (h:PlayAt w B G P D M N X Y own ownD) {A A2 A3 A4 A5:Option Addr} {n c n2 c2 n3 c3 n4 c4 n5 c5:Nat} {l:List FB}
 (hx:Blk w G [.pointer (some ⟨P,0,none⟩),.pointer (some ⟨D,0,none⟩),.int .u64 (Y.m.version:Int),.int .u32 (Y.m.next:Int),.slice A n c,.slice A2 n2 c2,.slice A3 n3 c3,.slice A4 n4 c4,.bool Y.waits]) (h2:ManK own A n c Y.m w) (h3:FbK own A2 n2 c2 Y.hv w)
 (h5:w.ownsRow B 9 1 (.slice A4 n4 c4) n4 (Y.ch.map sv)) (h6:∀k,(Value.slice A4 n4 c4).ownBlock=some k→own k∧¬Foot P M ownD k∧k≠G) (h7:FbK own A5 n5 c5 l w)
 (hw:w'=(w.setCell ⟨G,6,none⟩ (.slice A5 n5 c5)).setCell ⟨G,8,none⟩ (.bool true)) :
 PlayAt w' B G P D M N X ⟨Y.m,Y.hv,l,Y.ch,true⟩ (fun k=>own k∨False) ownD∧Out (fun k=>k=G) w w':=by
 have hB:B≤w.heap.size:=by have:=h.st.lt h.g.1;omega
 have ho:Out (fun k=>k=G) w w':=by rw[hw];exact ((Out.refl (fun k=>k=G) w).setCell (p:=⟨G,6,none⟩) (.inl rfl) _).setCell (p:=⟨G,8,none⟩) (.inl rfl) _
 have hb:Blk w' G [.pointer (some ⟨P,0,none⟩),.pointer (some ⟨D,0,none⟩),.int .u64 (Y.m.version:Int),.int .u32 (Y.m.next:Int),.slice A n c,.slice A2 n2 c2,.slice A5 n5 c5,.slice A4 n4 c4,.bool true]:=by rw[hw];exact (hx.set 6 _).set 8 _
 exact ⟨h.turn (Y':=⟨Y.m,Y.hv,l,Y.ch,true⟩) (E:=fun _=>False) hB (ho.more fun k _ hk=>by rw[hk];exact h.g) (fun k hk=>hk.elim) hb h2 h3 h7 (own_out h5 ho fun k hk e=>(h6 k hk).2.2 e) (fun k hk=>.inl (h6 k hk)),ho⟩
theorem rem_is (hup:upD X=true) (x:List UInt8):sremD X x=if hasN X x then 0 else 8:=by
 unfold sremD
 rw[hup,if_pos rfl,size_has]
set_option maxRecDepth 100000 in
set_option maxHeartbeats 4000000 in
theorem changes_remove (h:PlayAt w B G P D M N X Y own ownD) (hL:Live X F) (hY:PlyOk X F Y) {j:Nat} (hj:FewY Y j) (hj60:j≤60) (hN:N≤1000) (x:List UInt8) (hx:x.length≤100) (A0:Option Addr) (n0 c0:Nat) :
 Calls Tryz.prog 39 #[.pointer (some ⟨G,0,none⟩),.agg #[.int .i64 2,sv x,.slice A0 n0 c0]] w (CgPost w B G P D M N j X F own ownD):=by
 obtain ⟨w0,hw0⟩:∃w0,w0=w.alloc (.cells #[.int .i64 2,sv x,.slice A0 n0 c0] 31):=⟨_,rfl⟩
 obtain ⟨H,hH⟩:∃H,H=w.heap.size:=⟨_,rfl⟩
 have hb0:Below w.heap.size w w0:=by rw[hw0];exact (Below.refl _ _).alloc (Nat.le_refl _) _
 have hbd:Below w.heap.size w w0.drew:=hb0.trans ((Below.refl _ _).drew.mono hb0.size)
 have hbdd:Below w.heap.size w w0.drew.drew:=hbd.trans ((Below.refl _ _).drew.mono hbd.size)
 have hdr:Below w0.drew.heap.size w0.drew w0.drew.drew:=(Below.refl _ _).drew
 have BA:=Lib.hid (show Blk w0.drew H [.int .i64 2,sv x,.slice A0 n0 c0] by rw[hw0,hH];exact (Blk.new w [.int .i64 2,sv x,.slice A0 n0 c0] _).drew)
 have hP0:=h.past hbd
 have hP1:=h.past hbdd
 obtain ⟨A,n,c,A2,n2,c2,A3,n3,c3,A4,n4,c4,h1,h2,h3,h4,h5,h6⟩:=hP0.box
 have HFD:=Lib.hid (rfind_any A3 n3 c3 Y.now x w0.drew h4.len (by have:=hj.now;have:=h4.len;omega) h4.at_.now)
 have c0':=h1.cell (i:=0) rfl
 have c6:=h1.cell (i:=6) rfl
 have a0:=BA.out.cell (i:=0) rfl
 have a1:=BA.out.cell (i:=1) rfl
 have k0:=(h1.past hdr).cell (i:=0) rfl
 have k1:=(BA.out.past hdr).cell (i:=1) rfl
 have HP:=Lib.hid hP1
 have HL:=Lib.hid hL
 have HY:=Lib.hid hY
 have HJ:=Lib.hid hj
 have HW0:=Lib.hid hw0
 have HH:=Lib.hid hH
 have HB0:=Lib.hid hbdd
 have HBA:=Lib.hid (BA.out.past hdr)
 have HRM:=Lib.hid (sremove_any hP1.st x (by omega) (by unfold maxLen;omega))
 rw[rem_is hL.up] at HRM
 obtain ⟨lx,hlx⟩:∃lx,lx=x.length:=⟨_,rfl⟩
 have hsz:(ByteArray.mk x.toArray).size=lx:=by rw[hlx];exact List.size_toArray ..
 have hway:(decide ((0:Int)<(lx:Int))=false∧decide (0<lx)=false)∨(decide ((0:Int)<(lx:Int))=true∧decide (0<lx)=true∧∃g,decide ((lx:Int)≤32)=g∧decide (lx≤32)=g):=by
  by_cases h0:0<lx
  ·exact .inr ⟨by simp;omega,by simp;omega,_,rfl,by rw[decide_eq_decide];omega⟩
  ·exact .inl ⟨by simp;omega,by simp;omega⟩
 have hHG:H≠G:=by have:=(h.st.lt h.g.1).2;omega
 have hthere:=hY.there x
 have HHF:=Lib.hid (fun k (hk:Foot P M ownD k)=>show k≠H from by have:=(h.st.lt (h.st.own k hk)).2;omega)
 clear hw0 hH hb0 hbd hbdd hdr h hP0 hP1 hL hY hj h1 h2 h3 h4 h5 h6 hlx
 rcases hway with ⟨l0,l1⟩|⟨l0,l1,g,l2,l3⟩
 all_goals
  rcases hthere with ⟨hh,i,f,e1,e2,e3,e4⟩|⟨hh,e1⟩
  ·rw[e1] at HFD
   rw[hh,if_pos rfl] at HRM
   have HE:=Lib.hid hh
   clear e1 e2 e3 e4 hh
   go_enter Tryz.func39,Tryz.ntmps39
   go_upto_region 1 with fail
   rw[←HW0.out,←HH.out]
   go_region_held3 (fun w'=>w'.cell? ⟨G,6,none⟩=some (.slice A3 n3 c3)∧w'.cell? ⟨H,1,none⟩=some (sv x)) (first|exact ⟨c6,a1⟩) (first|(go_at_call 40;refine HFD.out.mono ?_;rintro e w' ⟨rfl,rfl⟩))
   go_upto_region 20 with fail
   go_region_held3 (fun w'=>w'.cell? ⟨G,0,none⟩=some (.pointer (some ⟨P,0,none⟩))∧w'.cell? ⟨H,1,none⟩=some (sv x)) (first|exact ⟨k0,k1⟩|exact ⟨k2,k3⟩)
    (first|(go_at_call 35;refine HRM.out.mono ?_;rintro e w3 ⟨rfl,hq⟩;rcases hq with ⟨q,-⟩|⟨-,hs3,ho3⟩;exact absurd rfl q;have HS3:=Lib.hid hs3;have HO3:=Lib.hid ho3;have HP3:=Lib.hid (HP.out.store hs3 (Fol.foot ho3));have k2:=(HP3.out.st_ptr);have k3:=(HBA.out.out ho3 (fun e=>HHF.out _ e rfl)).cell (i:=1) rfl;clear hs3 ho3))
   have HOW:=Lib.hid (show Out own w w3 from (Out.of_below HB0.out).trans (HP.out.st.foot HO3.out))
   have hbd3:Below w3.heap.size w3 w3.drew:=(Below.refl _ _).drew
   have hP4:=HP3.out.past hbd3
   obtain ⟨A,n,c,A2,n2,c2,A3,n3,c3,A4,n4,c4,h1,h2,h3,h4,h5,h6⟩:=hP4.box
   have HX4:=Lib.hid h1
   have HOK:=Lib.hid HS3.out.ok
   have q6:=h1.cell (i:=6) rfl
   have q1:=(HBA.out.out HO3.out (fun e=>HHF.out _ e rfl)).past hbd3 |>.cell (i:=1) rfl
   have HBA3:=Lib.hid ((HBA.out.out HO3.out (fun e=>HHF.out _ e rfl)).past hbd3)
   have HWO:=Lib.hid (rwithout_any A3 n3 c3 Y.now x w3.drew h4.len (by have:=HJ.out.now;have:=h4.len;omega) h4.at_.now)
   have HP4:=Lib.hid hP4
   have HOB:=Lib.hid (show Out own w w3.drew from HOW.out.trans (.of_below hbd3))
   clear k2 k3 k0 k1 c0' c6 a0 a1 hbd3 hP4 h1 h2 h3 h4 h5 h6 HRM
   go_upto_region 23 with fail
   go_region_law (first
    |(rw[if_pos (by simp[Region.wanted])]
      go_simp
      go_at_call 68
      refine HWO.out.mono ?_
      rintro e w5 ⟨A5,n5,c5,rfl,hl5,hr5,hb5⟩
      have hr5':=hr5
      have p1:=(HBA3.out.past hb5).cell (i:=1) rfl
      have g6:=(HX4.out.past hb5).cell (i:=6) rfl
      have f6:=(HX4.out.past hb5).frozen 6
      have HL5:=Lib.hid hl5
      have HR5:=Lib.hid hr5'
      have HB5:=Lib.hid hb5
      clear hl5 hr5 hr5' hb5))
   all_goals
    have hP5:=HP4.out.past HB5.out
    obtain ⟨A,n,c,A2,n2,c2,A6,n6,c6,A4,n4,c4,h1,h2,h3,h4,h5,h6⟩:=hP5.box
    have g8:=h1.cell (i:=8) rfl
    have f8:=h1.frozen 8
    have hG5:=h1.lt
    have HFB:=Lib.hid (show FbK own A5 n5 c5 (withoutD Y.now x) w5 from FbK.of HR5.out HL5.out (fun k hk=>(HP4.out.st.lt hk).2))
    obtain ⟨w9,hw9⟩:∃w9,w9=(w5.setCell ⟨G,6,none⟩ (.slice A5 n5 c5)).setCell ⟨G,8,none⟩ (.bool true):=⟨_,rfl⟩
    obtain ⟨r1,r2⟩:=hP5.renow h1 h2 h3 h5 h6 HFB.out hw9
    have HR1:=Lib.hid r1
    have HR2:=Lib.hid r2
    have HW9:=Lib.hid hw9
    clear hP5 h1 h2 h3 h4 h5 h6 r1 r2 hw9 q1 q6 p1 g6 f6
    go_wp2_with fail
    rw[←HW9.out]
    go_ret
    exact ⟨{X with C:=setC X.C x none},⟨Y.m,Y.hv,withoutD Y.now x,Y.ch,true⟩,N+1,_,rfl,Nat.le_refl _,rfl,rfl,HL.out.change HOK.out,HY.out.remove x,HJ.out.remove,HR1.out,
     (HOB.out.trans (.of_below HB5.out)).trans (HR2.out.more fun k _ hk=>by rw[hk];exact HP.out.g.1),fun k hk=>.inl (hk.elim (fun q=>q) (fun q=>q.elim))⟩
  ·rw[e1] at HFD
   rw[hh,if_neg (by decide)] at HRM
   clear e1
   go_enter Tryz.func39,Tryz.ntmps39
   go_upto_region 1 with fail
   rw[←HW0.out,←HH.out]
   go_region_held3 (fun w'=>w'.cell? ⟨G,6,none⟩=some (.slice A3 n3 c3)∧w'.cell? ⟨H,1,none⟩=some (sv x)) (first|exact ⟨c6,a1⟩) (first|(go_at_call 40;refine HFD.out.mono ?_;rintro e w' ⟨rfl,rfl⟩))
   go_upto_region 20 with fail
   go_region_held3 (fun w'=>w'.cell? ⟨G,0,none⟩=some (.pointer (some ⟨P,0,none⟩))∧w'.cell? ⟨H,1,none⟩=some (sv x)) (first|exact ⟨k0,k1⟩|exact ⟨k2,k3⟩)
    (first|(go_at_call 35;refine HRM.out.mono ?_;rintro e w3 ⟨rfl,hq⟩;rcases hq with ⟨-,hs3,ho3⟩|⟨q,-⟩;rotate_left;exact absurd q (by decide);have HS3:=Lib.hid hs3;have HO3:=Lib.hid ho3;have HP3:=Lib.hid (HP.out.store hs3 (Fol.foot ho3));have k2:=(HP3.out.st_ptr);have k3:=(HBA.out.out ho3 (fun e=>HHF.out _ e rfl)).cell (i:=1) rfl;clear hs3 ho3))
   go_wp2_with fail
   go_ret
   exact ⟨X,Y,N,own,rfl,Nat.le_succ _,rfl,rfl,HL.out,HY.out,HJ.out.more,HP3.out,(Out.of_below HB0.out).trans (HP.out.st.foot HO3.out),fun k hk=>.inl hk⟩
end
end Go.Proofs.YtiocpefgccndbaaGreat
end
section
namespace Go.Proofs.YtiocpefgccndbaaGreat
open Go.RowKit Me Mf Rw Ds Va Go.Maps
section
variable {w w':World} {B G P D M N N':Nat} {X X':Sto} {Y Y':Ply} {own ownD own' ownD':Nat→Prop} {F:List UInt8→List UInt8}
theorem PlayAt.puts (h:PlayAt w B G P D M N X Y own ownD) {A A2 A3 A4 A5:Option Addr} {n c n2 c2 n3 c3 n4 c4 n5 c5:Nat} {l:List FB} {x:List UInt8} {w6:World} {v:Value}
 (hx:Blk w G [.pointer (some ⟨P,0,none⟩),.pointer (some ⟨D,0,none⟩),.int .u64 (Y.m.version:Int),.int .u32 (Y.m.next:Int),.slice A n c,.slice A2 n2 c2,.slice A3 n3 c3,.slice A4 n4 c4,.bool Y.waits]) (h2:ManK own A n c Y.m w) (h3:FbK own A2 n2 c2 Y.hv w)
 (h6:∀k,(Value.slice A4 n4 c4).ownBlock=some k→own k∧¬Foot P M ownD k∧k≠G) (h7:FbK own A5 n5 c5 l w)
 (ho6:w6.ownsRow B 9 1 v (n4+1) (Y.ch.map sv++[sv x])) (hg6:(((w.setCell ⟨G,6,none⟩ (.slice A5 n5 c5)).drew).alloc (.cells #[sv x] 9)).grownBy w6 (Value.slice A4 n4 c4).ownBlock)
 (hn6:v.ownBlock=(Value.slice A4 n4 c4).ownBlock∨v.ownBlock=some (((w.setCell ⟨G,6,none⟩ (.slice A5 n5 c5)).drew).alloc (.cells #[sv x] 9)).heap.size)
 (hw:w'=(w6.setCell ⟨G,7,none⟩ v).setCell ⟨G,8,none⟩ (.bool true)) :
 ∃own',PlayAt w' B G P D M N X ⟨Y.m,Y.hv,l,Y.ch++[x],true⟩ own' ownD∧Out own w w'∧∀k,own' k→own k∨w.heap.size≤k:=by
 have hG:=hx.lt
 have hB:B≤w.heap.size:=by have:=h.st.lt h.g.1;omega
 obtain ⟨A6,c6,rfl,-⟩:=own_slice' ho6
 have hsz:(((w.setCell ⟨G,6,none⟩ (.slice A5 n5 c5)).drew).alloc (.cells #[sv x] 9)).heap.size=w.heap.size+1:=by rw[World.size_alloc,World.size_drew,World.size_setCell]
 have hoA:Out (fun k=>k=G) w (((w.setCell ⟨G,6,none⟩ (.slice A5 n5 c5)).drew).alloc (.cells #[sv x] 9)):=((((Out.refl (fun k=>k=G) w).setCell (p:=⟨G,6,none⟩) (.inl rfl) _)).trans (out_drew _ _)).alloc _
 have hbA:=(((hx.set 6 (.slice A5 n5 c5)).drew).alloc (.cells #[sv x] 9))
 rw[hsz] at hn6
 generalize ((w.setCell ⟨G,6,none⟩ (.slice A5 n5 c5)).drew).alloc (.cells #[sv x] 9)=wa at *
 have hne:(Value.slice A4 n4 c4).ownBlock≠some G:=fun e=>(h6 G e).2.2 rfl
 have hb6:=hbA.grown hg6 hne
 have ho6':Out (fun k=>k=G∨(Value.slice A4 n4 c4).ownBlock=some k) w w6:=(hoA.more fun k _ hk=>.inl hk).grown hg6 fun k e=>.inl (.inr e)
 have hbl:∀k,(Value.slice A6 (n4+1) c6).ownBlock=some k→(Value.slice A4 n4 c4).ownBlock=some k∨k=w.heap.size+1:=fun k hk=>by
  rcases hn6 with e|e
  ·exact .inl (e▸hk)
  ·rw[e] at hk;injection hk with hk;exact .inr hk.symm
 have ho:Out (fun k=>k=G∨(Value.slice A4 n4 c4).ownBlock=some k) w w':=by rw[hw];exact (ho6'.setCell (p:=⟨G,7,none⟩) (.inl (.inl rfl)) _).setCell (p:=⟨G,8,none⟩) (.inl (.inl rfl)) _
 have hb:Blk w' G [.pointer (some ⟨P,0,none⟩),.pointer (some ⟨D,0,none⟩),.int .u64 (Y.m.version:Int),.int .u32 (Y.m.next:Int),.slice A n c,.slice A2 n2 c2,.slice A5 n5 c5,.slice A6 (n4+1) c6,.bool true]:=by rw[hw];exact (hb6.set 7 _).set 8 _
 have hs:w'.heap.size=w6.heap.size:=by rw[hw,World.size_setCell,World.size_setCell]
 have hr:w'.ownsRow B 9 1 (.slice A6 (n4+1) c6) (n4+1) ((Y.ch++[x]).map sv):=by
  rw[List.map_append,hw]
  refine own_out (S:=fun k=>k=G) ho6 (((Out.refl (fun k=>k=G) w6).setCell (p:=⟨G,7,none⟩) (.inl rfl) _).setCell (p:=⟨G,8,none⟩) (.inl rfl) _) fun k hk e=>?_
  rcases hbl k hk with q|q
  ·exact (h6 k q).2.2 e
  ·omega
 have hin:∀k,k=G∨(Value.slice A4 n4 c4).ownBlock=some k→own k∧¬Foot P M ownD k:=fun k hk=>by
  rcases hk with q|q
  ·rw[q];exact h.g
  ·exact ⟨(h6 k q).1,(h6 k q).2.1⟩
 refine ⟨fun k=>own k∨((Value.slice A6 (n4+1) c6).ownBlock=some k∧w.heap.size≤k),h.turn (Y':=⟨Y.m,Y.hv,l,Y.ch++[x],true⟩) (E:=fun k=>(Value.slice A6 (n4+1) c6).ownBlock=some k∧w.heap.size≤k) hB (ho.more fun k _ hk=>hin k hk) (fun k hk=>⟨hk.2,by rw[hs];exact (ho6.lt k hk.1).2⟩) hb h2 h3 h7 hr (fun k hk=>?_),ho.more fun k _ hk=>(hin k hk).1,fun k hk=>hk.imp (fun q=>q) fun q=>q.2⟩
 rcases hbl k hk with q|q
 ·exact .inl (h6 k q)
 ·exact .inr ⟨hk,by omega⟩
theorem str_one (w:World) (x:List UInt8) (t:TypeId):∀j u,[sv x][j]?=some u→(w.alloc (.cells #[sv x] t)).cell? ((⟨w.heap.size,0,none⟩:Addr).add j)=some u:=cell_one_new w (sv x) t
theorem str_cell (x:List UInt8):∀u∈[sv x],u.oneCell'=true:=fun u hu=>by rw[List.mem_singleton.1 hu];rfl
theorem str_info:(Tryz.prog.info? 9).map (fun i=>(i.zero,i.size,i.bytes))=some (some (.string ⟨#[]⟩),1,16):=by kernel_rfl
theorem allow_bad (hup:upD X=true) {x:List UInt8} {n:Int} (hx:x.length=0∨32<x.length):allowD (upD X) x n=8:=by rw[hup];unfold allowD;rw[if_pos rfl,if_pos hx]
theorem allow_good (hup:upD X=true) {x:List UInt8} {n:Int} (hx:1≤x.length∧x.length≤32) (hn:n≤1048576):allowD (upD X) x n=0:=by rw[hup];unfold allowD;rw[if_pos rfl,if_neg (by omega),if_neg (by omega)]
set_option maxRecDepth 100000 in
set_option maxHeartbeats 8000000 in
theorem changes_put0 (h:PlayAt w B G P D M N X Y own ownD) (hL:Live X F) (hY:PlyOk X F Y) {j:Nat} (hj:FewY Y j) (hj60:j≤60) (hN:N≤1000) (x:List UInt8) (hx:x.length≤100) (A0:Option Addr) (n0 c0:Nat) (b:List UInt8) (hb:b.length=n0) (hn0:n0≤1000) (hrb:Rd w w.heap.size A0 b) :
 Calls Tryz.prog 39 #[.pointer (some ⟨G,0,none⟩),.agg #[.int .i64 0,sv x,.slice A0 n0 c0]] w (CgPost w B G P D M N j X F own ownD):=by
 obtain ⟨i0,hi0,hz0,hz1,hz2⟩:=info_parts str_info
 obtain ⟨w0,hw0⟩:∃w0,w0=w.alloc (.cells #[.int .i64 0,sv x,.slice A0 n0 c0] 31):=⟨_,rfl⟩
 obtain ⟨H,hH⟩:∃H,H=w.heap.size:=⟨_,rfl⟩
 have hb0:Below w.heap.size w w0:=by rw[hw0];exact (Below.refl _ _).alloc (Nat.le_refl _) _
 have hbd:Below w.heap.size w w0.drew:=hb0.trans ((Below.refl _ _).drew.mono hb0.size)
 have hbdd:Below w.heap.size w w0.drew.drew:=hbd.trans ((Below.refl _ _).drew.mono hbd.size)
 have hdr:Below w0.drew.heap.size w0.drew w0.drew.drew:=(Below.refl _ _).drew
 have BA:=Lib.hid (show Blk w0.drew H [.int .i64 0,sv x,.slice A0 n0 c0] by rw[hw0,hH];exact (Blk.new w [.int .i64 0,sv x,.slice A0 n0 c0] _).drew)
 have hP0:=h.past hbd
 have hP1:=h.past hbdd
 obtain ⟨A,n,c,A2,n2,c2,A3,n3,c3,A4,n4,c4,h1,h2,h3,h4,h5,h6⟩:=hP0.box
 have HFD:=Lib.hid (rfind_any A3 n3 c3 Y.now x w0.drew h4.len (by have:=hj.now;have:=h4.len;omega) h4.at_.now)
 have c0':=h1.cell (i:=0) rfl
 have c6:=h1.cell (i:=6) rfl
 have a0:=BA.out.cell (i:=0) rfl
 have a1:=BA.out.cell (i:=1) rfl
 have a2:=BA.out.cell (i:=2) rfl
 have k0:=(h1.past hdr).cell (i:=0) rfl
 have k1:=(BA.out.past hdr).cell (i:=1) rfl
 have k1':=(BA.out.past hdr).cell (i:=2) rfl
 have hcs:=str_any A0 n0 c0 b w0.drew w.heap.size hb (hrb.below hbd)
 have hrd:Rd w0.drew.drew w0.drew.drew.heap.size A0 b:=(hrb.below hbdd).more hbdd.size
 have HP:=Lib.hid hP1
 have HL:=Lib.hid hL
 have HY:=Lib.hid hY
 have HJ:=Lib.hid hj
 have HW0:=Lib.hid hw0
 have HH:=Lib.hid hH
 have HB0:=Lib.hid hbdd
 have HBA:=Lib.hid (BA.out.past hdr)
 have HBL:=Lib.hid hb
 have hb10:b.length≤1000:=by omega
 have HWR:=Lib.hid (swrite_any hP1.st x A0 n0 c0 b hb (by omega) hrd (by unfold maxLen;omega))
 obtain ⟨lx,hlx⟩:∃lx,lx=x.length:=⟨_,rfl⟩
 have hsz:(ByteArray.mk x.toArray).size=lx:=by rw[hlx];exact List.size_toArray ..
 have HLX:=Lib.hid hlx
 have hHG:H≠G:=by have:=(h.st.lt h.g.1).2;omega
 have hthere:=hY.there x
 have HHF:=Lib.hid (fun k (hk:Foot P M ownD k)=>show k≠H from by have:=(h.st.lt (h.st.own k hk)).2;omega)
 clear hw0 hH hb0 hbd hbdd hdr h hP0 hP1 hL hY hj h1 h2 h3 h4 h5 h6 hb hrb hrd hlx
 obtain ⟨ti,tb,hfd⟩:∃ti tb,findD Y.now x=(ti,tb):=⟨_,_,rfl⟩
 rw[hfd] at HFD
 clear hfd hthere
 rcases (show lx=0∨(1≤lx∧lx≤32)∨32<lx by omega) with hl|⟨hl,hl'⟩|hl
 ·have l0:decide ((0:Int)<(lx:Int))=false:=by simp;omega
  have l1:decide (0<lx)=false:=by simp;omega
  rw[allow_bad HL.out.up (by have:=HLX.out;omega)] at HWR
  clear hl
  go_enter Tryz.func39,Tryz.ntmps39
  go_upto_region 1 with fail
  rw[←HW0.out,←HH.out]
  go_region_held3 (fun w'=>w'.cell? ⟨G,6,none⟩=some (.slice A3 n3 c3)∧w'.cell? ⟨H,1,none⟩=some (sv x)) (first|exact ⟨c6,a1⟩) (first|(go_at_call 40;refine HFD.out.mono ?_;rintro e w' ⟨rfl,rfl⟩))
  go_upto_region 9 with fail
  go_region_held3 (fun w'=>w'.cell? ⟨G,0,none⟩=some (.pointer (some ⟨P,0,none⟩))∧w'.cell? ⟨H,1,none⟩=some (sv x)∧w'.cell? ⟨H,2,none⟩=some (.slice A0 n0 c0)) (first|exact ⟨k0,k1,k1'⟩|exact ⟨k2,k3,k4⟩)
   (first|(go_at_call 33;refine HWR.out.mono ?_;rintro e w3 ⟨rfl,hq⟩;rcases hq with ⟨-,hs3,ho3⟩|⟨q,-⟩;rotate_left;exact absurd q (by decide);have HS3:=Lib.hid hs3;have HO3:=Lib.hid ho3;have HP3:=Lib.hid (HP.out.store hs3 (Fol.foot ho3));have k2:=(HP3.out.st_ptr);have k3:=(HBA.out.out ho3 (fun e=>HHF.out _ e rfl)).cell (i:=1) rfl;have k4:=(HBA.out.out ho3 (fun e=>HHF.out _ e rfl)).cell (i:=2) rfl;clear hs3 ho3))
  go_wp2_with fail
  go_ret
  exact ⟨X,Y,N,own,rfl,Nat.le_succ _,rfl,rfl,HL.out,HY.out,HJ.out.more,HP3.out,(Out.of_below HB0.out).trans (HP.out.st.foot HO3.out),fun k hk=>.inl hk⟩
 ·have l0:decide ((0:Int)<(lx:Int))=true:=by simp;omega
  have l1:decide (0<lx)=true:=by simp;omega
  have l2:decide ((lx:Int)≤32)=true:=by simp;omega
  have l3:decide (lx≤32)=true:=by simp;omega
  rw[allow_good HL.out.up (by have:=HLX.out;omega) (by omega)] at HWR
  clear hl hl'
  go_enter Tryz.func39,Tryz.ntmps39
  go_upto_region 1 with fail
  rw[←HW0.out,←HH.out]
  go_region_held3 (fun w'=>w'.cell? ⟨G,6,none⟩=some (.slice A3 n3 c3)∧w'.cell? ⟨H,1,none⟩=some (sv x)) (first|exact ⟨c6,a1⟩) (first|(go_at_call 40;refine HFD.out.mono ?_;rintro e w' ⟨rfl,rfl⟩))
  go_upto_region 9 with fail
  go_region_held3 (fun w'=>w'.cell? ⟨G,0,none⟩=some (.pointer (some ⟨P,0,none⟩))∧w'.cell? ⟨H,1,none⟩=some (sv x)∧w'.cell? ⟨H,2,none⟩=some (.slice A0 n0 c0)) (first|exact ⟨k0,k1,k1'⟩|exact ⟨k2,k3,k4⟩)
   (first|(go_at_call 33;refine HWR.out.mono ?_;rintro e w3 ⟨rfl,hq⟩;rcases hq with ⟨q,-⟩|⟨-,hs3,ho3⟩;exact absurd rfl q;have HS3:=Lib.hid hs3;have HO3:=Lib.hid ho3;have HP3:=Lib.hid (HP.out.store hs3 (Fol.foot ho3));have k2:=(HP3.out.st_ptr);have k3:=(HBA.out.out ho3 (fun e=>HHF.out _ e rfl)).cell (i:=1) rfl;have k4:=(HBA.out.out ho3 (fun e=>HHF.out _ e rfl)).cell (i:=2) rfl;clear hs3 ho3))
  have HOW:=Lib.hid (show Out own w w3 from (Out.of_below HB0.out).trans (HP.out.st.foot HO3.out))
  have hbd3:Below w3.heap.size w3 w3.drew:=(Below.refl _ _).drew
  have hP4:=HP3.out.past hbd3
  obtain ⟨A,n,c,A2,n2,c2,A3,n3,c3,A4,n4,c4,h1,h2,h3,h4,h5,h6⟩:=hP4.box
  have HX4:=Lib.hid h1
  have HOK:=Lib.hid HS3.out.ok
  have q6:=h1.cell (i:=6) rfl
  have q1:=(HBA.out.out HO3.out (fun e=>HHF.out _ e rfl)).past hbd3 |>.cell (i:=1) rfl
  have HBA3:=Lib.hid ((HBA.out.out HO3.out (fun e=>HHF.out _ e rfl)).past hbd3)
  have HWO:=Lib.hid (rput_any A3 n3 c3 Y.now x (b) w3.drew h4.len (by have:=HJ.out.now;have:=h4.len;omega) h4.at_.now)
  have HP4:=Lib.hid hP4
  have HOB:=Lib.hid (show Out own w w3.drew from HOW.out.trans (.of_below hbd3))
  have hchl:Y.ch.length=n4:=by have:=h5.1;rw[List.length_map,Nat.mul_one] at this;exact this
  have hn4:n4≤1000:=by have:=HJ.out.ch;omega
  clear k2 k3 k4 k0 k1 k1' c0' c6 a0 a1 a2 hbd3 hP4 h1 h2 h3 h4 h5 h6 HWR hchl
  go_upto_region 15 with fail
  go_region_law (first
   |(rw[if_pos (by simp[Region.wanted])]
     go_simp
     go_at_call 67
     refine HWO.out.mono ?_
     rintro e w5 ⟨A5,n5,c5,rfl,hl5,hr5,hb5⟩
     have p1:=(HBA3.out.past hb5).cell (i:=1) rfl
     have g6:=(HX4.out.past hb5).cell (i:=6) rfl
     have f6:=(HX4.out.past hb5).frozen 6
     have HL5:=Lib.hid hl5
     have HR5:=Lib.hid hr5
     have HB5:=Lib.hid hb5
     clear hl5 hr5 hb5))
  all_goals
   have hP5:=HP4.out.past HB5.out
   obtain ⟨A,n,c,A2,n2,c2,A6,n6,c6,A4,n4',c4,h1,h2,h3,h4,h5,h6⟩:=hP5.box
   have hn4':n4'≤1000:=by
    have:=h5.1
    rw[List.length_map,Nat.mul_one] at this
    have:=HJ.out.ch
    omega
   have HFB:=Lib.hid (show FbK own A5 n5 c5 (putGo x (b) Y.now false) w5 from FbK.of HR5.out HL5.out (fun k hk=>(HP4.out.st.lt hk).2))
   have HP5:=Lib.hid hP5
   have H1:=Lib.hid h1
   have H2:=Lib.hid h2
   have H3:=Lib.hid h3
   have H6:=Lib.hid h6
   have hG5:=h1.lt
   have hH5:H<w5.heap.size:=(HBA3.out.past HB5.out).lt
   obtain ⟨we,hwe⟩:∃we,we=w5.setCell ⟨G,6,none⟩ (.slice A5 n5 c5):=⟨_,rfl⟩
   have hod:Out (fun k=>k=G) w5 we.drew:=by rw[hwe];exact ((Out.refl (fun k=>k=G) w5).setCell (p:=⟨G,6,none⟩) (.inl rfl) _).trans (out_drew _ _)
   have hbx:Blk we.drew G [.pointer (some ⟨P,0,none⟩),.pointer (some ⟨D,0,none⟩),.int .u64 (Y.m.version:Int),.int .u32 (Y.m.next:Int),.slice A n c,.slice A2 n2 c2,.slice A5 n5 c5,.slice A4 n4' c4,.bool Y.waits]:=by rw[hwe];exact (h1.set 6 (.slice A5 n5 c5)).drew
   have s7:=hbx.cell (i:=7) rfl
   have HBD:=Lib.hid hbx
   have b1:=((HBA3.out.past HB5.out).out hod hHG).cell (i:=1) rfl
   have HO5:=Lib.hid (own_out h5 hod (fun k hk e=>(h6 k hk).2.2 e))
   have hsd:we.drew.heap.size=w5.heap.size:=by rw[hwe,World.size_drew,World.size_setCell]
   have hBw:B≤w5.heap.size:=by have:=HP5.out.st.lt HP5.out.g.1;omega
   have HSRC:=Lib.hid (str_one we.drew x 9)
   have HMX:=Lib.hid (show n4'+1≤maxLen by unfold maxLen;omega)
   have HSZ:=Lib.hid (show B≤(we.drew.alloc (.cells #[sv x] 9)).heap.size by rw[World.size_alloc];omega)
   have hne:(Value.slice A4 n4' c4).ownBlock≠some G:=fun e=>(h6 G e).2.2 rfl
   have HNE:=Lib.hid hne
   have hGe:G<we.heap.size:=by rw[hwe,World.size_setCell];exact hG5
   have s7':we.cell? ⟨G,7,none⟩=_:=s7
   have HWE:=Lib.hid hwe
   clear hP5 h1 h2 h3 h4 h5 h6 hod hbx q1 q6 p1 g6 f6 hsd hne
   go_upto_region 16 with fail
   rw[←HWE.out]
   clear hwe
   go_region_law (refine step_append_own (w:=we.drew.alloc (.cells #[sv x] 9)) rfl (.tmp 90) (.tmp 93) 40 rfl B 9 i0 _ 1 16 Tryz.underlying40 hi0 hz0 hz1 hz2 rfl (by decide) (.slice A4 n4' c4) n4' _ (by simp[Act.eval]) (HO5.out.alloc _) ⟨we.heap.size,0,none⟩ 1 1 [sv x] (by simp[Act.eval]) rfl HSRC.out (str_cell _) HMX.out (by omega) HSZ.out ?_
                  intro v6 w6 ho6 hg6 hn6
                  obtain ⟨A7,d7,rfl,hnd7⟩:=own_slice' ho6
                  have hb6:=(HBD.out.alloc (.cells #[sv x] 9)).grown hg6 HNE.out
                  have e7:=hb6.cell (i:=7) rfl
                  have e8:=hb6.cell (i:=8) rfl
                  have y7:=hb6.frozen 7
                  have y8:=hb6.frozen 8
                  have HO6:=Lib.hid ho6
                  have HG6:=Lib.hid hg6
                  have HN6:=Lib.hid hn6
                  clear ho6 hg6 hn6 hb6)
   all_goals
    obtain ⟨w9,hw9⟩:∃w9,w9=(w6.setCell ⟨G,7,none⟩ (.slice A7 (n4'+1) d7)).setCell ⟨G,8,none⟩ (.bool true):=⟨_,rfl⟩
    have HR:=Lib.hid (HP5.out.puts H1.out H2.out H3.out H6.out HFB.out HO6.out (by rw[←HWE.out];exact HG6.out) (by rw[←HWE.out];exact HN6.out) hw9)
    have HW9:=Lib.hid hw9
    clear hw9
    go_wp2_with fail
    rw[←HW9.out]
    go_ret
    obtain ⟨own',r1,r2,r3⟩:=HR.out
    exact ⟨{X with C:=setC X.C x (some (b))},⟨Y.m,Y.hv,putGo x (b) Y.now false,Y.ch++[x],true⟩,N+1,own',rfl,Nat.le_refl _,rfl,rfl,HL.out.change HOK.out,HY.out.put x (b),HJ.out.put (by omega),r1,
     (HOB.out.trans (.of_below HB5.out)).trans r2,fun k hk=>by
       rcases r3 k hk with q|q
       ·exact .inl q
       ·right;have:=(HOB.out.trans (.of_below HB5.out)).size;omega⟩
 ·have l0:decide ((0:Int)<(lx:Int))=true:=by simp;omega
  have l1:decide (0<lx)=true:=by simp;omega
  have l2:decide ((lx:Int)≤32)=false:=by simp;omega
  have l3:decide (lx≤32)=false:=by simp;omega
  rw[allow_bad HL.out.up (by have:=HLX.out;omega)] at HWR
  clear hl
  go_enter Tryz.func39,Tryz.ntmps39
  go_upto_region 1 with fail
  rw[←HW0.out,←HH.out]
  go_region_held3 (fun w'=>w'.cell? ⟨G,6,none⟩=some (.slice A3 n3 c3)∧w'.cell? ⟨H,1,none⟩=some (sv x)) (first|exact ⟨c6,a1⟩) (first|(go_at_call 40;refine HFD.out.mono ?_;rintro e w' ⟨rfl,rfl⟩))
  go_upto_region 9 with fail
  go_region_held3 (fun w'=>w'.cell? ⟨G,0,none⟩=some (.pointer (some ⟨P,0,none⟩))∧w'.cell? ⟨H,1,none⟩=some (sv x)∧w'.cell? ⟨H,2,none⟩=some (.slice A0 n0 c0)) (first|exact ⟨k0,k1,k1'⟩|exact ⟨k2,k3,k4⟩)
   (first|(go_at_call 33;refine HWR.out.mono ?_;rintro e w3 ⟨rfl,hq⟩;rcases hq with ⟨-,hs3,ho3⟩|⟨q,-⟩;rotate_left;exact absurd q (by decide);have HS3:=Lib.hid hs3;have HO3:=Lib.hid ho3;have HP3:=Lib.hid (HP.out.store hs3 (Fol.foot ho3));have k2:=(HP3.out.st_ptr);have k3:=(HBA.out.out ho3 (fun e=>HHF.out _ e rfl)).cell (i:=1) rfl;have k4:=(HBA.out.out ho3 (fun e=>HHF.out _ e rfl)).cell (i:=2) rfl;clear hs3 ho3))
  go_wp2_with fail
  go_ret
  exact ⟨X,Y,N,own,rfl,Nat.le_succ _,rfl,rfl,HL.out,HY.out,HJ.out.more,HP3.out,(Out.of_below HB0.out).trans (HP.out.st.foot HO3.out),fun k hk=>.inl hk⟩
end
end Go.Proofs.YtiocpefgccndbaaGreat
end
section
namespace Go.Proofs.YtiocpefgccndbaaGreat
open Go.RowKit Me Mf Rw Ds Va Go.Maps
section
variable {w w':World} {B G P D M N N':Nat} {X X':Sto} {Y Y':Ply} {own ownD own' ownD':Nat→Prop} {F:List UInt8→List UInt8}
theorem str_cat (a b:List UInt8):Value.string (ByteArray.mk a.toArray++ByteArray.mk b.toArray)=sv (a++b):=by
 show Value.string _=Value.string _
 congr 1
set_option maxRecDepth 100000 in
set_option maxHeartbeats 8000000 in
theorem changes_put1 (h:PlayAt w B G P D M N X Y own ownD) (hL:Live X F) (hY:PlyOk X F Y) {j:Nat} (hj:FewY Y j) (hj60:j≤60) (hN:N≤1000) (x:List UInt8) (hx:x.length≤100) (A0:Option Addr) (n0 c0:Nat) (b:List UInt8) (hb:b.length=n0) (hn0:n0≤1000) (hrb:Rd w w.heap.size A0 b) :
 Calls Tryz.prog 39 #[.pointer (some ⟨G,0,none⟩),.agg #[.int .i64 1,sv x,.slice A0 n0 c0]] w (CgPost w B G P D M N j X F own ownD):=by
 obtain ⟨i0,hi0,hz0,hz1,hz2⟩:=info_parts str_info
 obtain ⟨w0,hw0⟩:∃w0,w0=w.alloc (.cells #[.int .i64 1,sv x,.slice A0 n0 c0] 31):=⟨_,rfl⟩
 obtain ⟨H,hH⟩:∃H,H=w.heap.size:=⟨_,rfl⟩
 have hb0:Below w.heap.size w w0:=by rw[hw0];exact (Below.refl _ _).alloc (Nat.le_refl _) _
 have hbd:Below w.heap.size w w0.drew:=hb0.trans ((Below.refl _ _).drew.mono hb0.size)
 have hbdd:Below w.heap.size w w0.drew.drew:=hbd.trans ((Below.refl _ _).drew.mono hbd.size)
 have hdr:Below w0.drew.heap.size w0.drew w0.drew.drew:=(Below.refl _ _).drew
 have BA:=Lib.hid (show Blk w0.drew H [.int .i64 1,sv x,.slice A0 n0 c0] by rw[hw0,hH];exact (Blk.new w [.int .i64 1,sv x,.slice A0 n0 c0] _).drew)
 have hP0:=h.past hbd
 have hP1:=h.past hbdd
 obtain ⟨A,n,c,A2,n2,c2,A3,n3,c3,A4,n4,c4,h1,h2,h3,h4,h5,h6⟩:=hP0.box
 have HFD:=Lib.hid (rfind_any A3 n3 c3 Y.now x w0.drew h4.len (by have:=hj.now;have:=h4.len;omega) h4.at_.now)
 have c0':=h1.cell (i:=0) rfl
 have c6:=h1.cell (i:=6) rfl
 have a0:=BA.out.cell (i:=0) rfl
 have a1:=BA.out.cell (i:=1) rfl
 have a2:=BA.out.cell (i:=2) rfl
 have k0:=(h1.past hdr).cell (i:=0) rfl
 have k1:=(BA.out.past hdr).cell (i:=1) rfl
 have k1':=(BA.out.past hdr).cell (i:=2) rfl
 have hcs:=str_any A0 n0 c0 b w0.drew w.heap.size hb (hrb.below hbd)
 have hrd:Rd w0.drew.drew w0.drew.drew.heap.size A0 b:=(hrb.below hbdd).more hbdd.size
 have HP:=Lib.hid hP1
 have HL:=Lib.hid hL
 have HY:=Lib.hid hY
 have HJ:=Lib.hid hj
 have HW0:=Lib.hid hw0
 have HH:=Lib.hid hH
 have HB0:=Lib.hid hbdd
 have HBA:=Lib.hid (BA.out.past hdr)
 have HBL:=Lib.hid hb
 have hb10:b.length≤1000:=by omega
 have HWR:=Lib.hid (sappend_any hP1.st x (by omega) A0 n0 c0 b hb (by omega) hrd (by unfold maxLen;omega) (by rw[hL.calm.pend];show 0<_;omega))
 obtain ⟨lx,hlx⟩:∃lx,lx=x.length:=⟨_,rfl⟩
 have hsz:(ByteArray.mk x.toArray).size=lx:=by rw[hlx];exact List.size_toArray ..
 have HLX:=Lib.hid hlx
 have hHG:H≠G:=by have:=(h.st.lt h.g.1).2;omega
 have hthere:=hY.there x
 have HHF:=Lib.hid (fun k (hk:Foot P M ownD k)=>show k≠H from by have:=(h.st.lt (h.st.own k hk)).2;omega)
 clear hw0 hH hb0 hbd hbdd hdr h hP0 hP1 hL hY hj h1 h2 h3 h4 h5 h6 hb hrb hrd hlx
 rcases (show lx=0∨(1≤lx∧lx≤32)∨32<lx by omega) with hl|⟨hl,hl'⟩|hl
 ·have l0:decide ((0:Int)<(lx:Int))=false:=by simp;omega
  have l1:decide (0<lx)=false:=by simp;omega
  obtain ⟨hh,e1⟩:hasN X x=false∧findD Y.now x=(0,false):=by
   rcases hthere with ⟨hh,-⟩|q
   ·have:=hasN_len HL.out.ok hh;have:=HLX.out;omega
   ·exact q
  rw[e1] at HFD
  rw[app_bad HL.out (by have:=HLX.out;omega)] at HWR
  clear hthere hh e1 hl
  go_enter Tryz.func39,Tryz.ntmps39
  go_upto_region 1 with fail
  rw[←HW0.out,←HH.out]
  go_region_held3 (fun w'=>w'.cell? ⟨G,6,none⟩=some (.slice A3 n3 c3)∧w'.cell? ⟨H,1,none⟩=some (sv x)) (first|exact ⟨c6,a1⟩) (first|(go_at_call 40;refine HFD.out.mono ?_;rintro e w' ⟨rfl,rfl⟩))
  go_upto_region 10 with fail
  go_region_held3 (fun w'=>w'.cell? ⟨G,0,none⟩=some (.pointer (some ⟨P,0,none⟩))∧w'.cell? ⟨H,1,none⟩=some (sv x)∧w'.cell? ⟨H,2,none⟩=some (.slice A0 n0 c0)) (first|exact ⟨k0,k1,k1'⟩|exact ⟨k2,k3,k4⟩)
   (first|(go_at_call 34;refine HWR.out.mono ?_;rintro e w3 ⟨rfl,hq⟩;rcases hq with ⟨-,hs3,ho3⟩|⟨q,-⟩;rotate_left;exact absurd q (by decide);have HS3:=Lib.hid hs3;have HO3:=Lib.hid ho3;have HP3:=Lib.hid (HP.out.store hs3 (Fol.foot ho3));have k2:=(HP3.out.st_ptr);have k3:=(HBA.out.out ho3 (fun e=>HHF.out _ e rfl)).cell (i:=1) rfl;have k4:=(HBA.out.out ho3 (fun e=>HHF.out _ e rfl)).cell (i:=2) rfl;clear hs3 ho3))
  go_wp2_with fail
  go_ret
  exact ⟨X,Y,N,own,rfl,Nat.le_succ _,rfl,rfl,HL.out,HY.out,HJ.out.more,HP3.out,(Out.of_below HB0.out).trans (HP.out.st.foot HO3.out),fun k hk=>.inl hk⟩
 ·have l0:decide ((0:Int)<(lx:Int))=true:=by simp;omega
  have l1:decide (0<lx)=true:=by simp;omega
  have l2:decide ((lx:Int)≤32)=true:=by simp;omega
  have l3:decide (lx≤32)=true:=by simp;omega
  rcases hthere with ⟨hh,i,f,e1,e2,e3,e4⟩|⟨hh,e1⟩
  ·have hfl:=HJ.out.bn f (List.mem_of_getElem? e2)
   rw[e1] at HFD
   rw[app_good HL.out (by have:=HLX.out;omega) (by rw[if_pos hh,←e4];omega),if_pos hh,←e4] at HWR
   have HE2:=Lib.hid e2
   clear hh e1 e3 e4 hl hl' hfl
   go_enter Tryz.func39,Tryz.ntmps39
   go_upto_region 1 with fail
   rw[←HW0.out,←HH.out]
   go_region_held3 (fun w'=>w'.cell? ⟨G,6,none⟩=some (.slice A3 n3 c3)∧w'.cell? ⟨H,1,none⟩=some (sv x)) (first|exact ⟨c6,a1⟩) (first|(go_at_call 40;refine HFD.out.mono ?_;rintro e w' ⟨rfl,rfl⟩))
   go_upto_region 10 with fail
   go_region_held3 (fun w'=>w'.cell? ⟨G,0,none⟩=some (.pointer (some ⟨P,0,none⟩))∧w'.cell? ⟨H,1,none⟩=some (sv x)∧w'.cell? ⟨H,2,none⟩=some (.slice A0 n0 c0)) (first|exact ⟨k0,k1,k1'⟩|exact ⟨k2,k3,k4⟩)
    (first|(go_at_call 34;refine HWR.out.mono ?_;rintro e w3 ⟨rfl,hq⟩;rcases hq with ⟨q,-⟩|⟨-,hs3,ho3⟩;exact absurd rfl q;have HS3:=Lib.hid hs3;have HO3:=Lib.hid ho3;have HP3:=Lib.hid (HP.out.store hs3 (Fol.foot ho3));have k2:=(HP3.out.st_ptr);have k3:=(HBA.out.out ho3 (fun e=>HHF.out _ e rfl)).cell (i:=1) rfl;have k4:=(HBA.out.out ho3 (fun e=>HHF.out _ e rfl)).cell (i:=2) rfl;clear hs3 ho3))
   have HOW:=Lib.hid (show Out own w w3 from (Out.of_below HB0.out).trans (HP.out.st.foot HO3.out))
   have hbd3:Below w3.heap.size w3 w3.drew:=(Below.refl _ _).drew
   have hP4:=HP3.out.past hbd3
   obtain ⟨A',n',c',A2',n2',c2',A3',n3',c3',A4',n4',c4',h1',h2',h3',h4',h5',h6'⟩:=HP3.out.box
   obtain ⟨ai,rfl,u1,u2⟩:=fcl_cells h4'.at_.now e2
   have u6:=h1'.cell (i:=6) rfl
   obtain ⟨fs,hfs⟩:∃fs,fs=f.2.length:=⟨_,rfl⟩
   have hfs1:(ByteArray.mk f.2.toArray).size=fs:=by rw[hfs];exact List.size_toArray ..
   have hbs1:(ByteArray.mk b.toArray).size=n0:=by rw[←HBL.out];exact List.size_toArray ..
   have hfs2:fs≤1000*j:=by rw[hfs];exact HJ.out.bn f (List.mem_of_getElem? e2)
   clear hfs
   have hi3:(i:Int)<(n3':Int):=by have:=(List.getElem?_eq_some_iff.1 e2).1;have:=h4'.len;omega
   clear h1' h2' h3' h4' h5' h6'
   obtain ⟨A,n,c,A2,n2,c2,A3,n3,c3,A4,n4,c4,h1,h2,h3,h4,h5,h6⟩:=hP4.box
   have HX4:=Lib.hid h1
   have HOK:=Lib.hid HS3.out.ok
   have q6:=h1.cell (i:=6) rfl
   have q1:=(HBA.out.out HO3.out (fun e=>HHF.out _ e rfl)).past hbd3 |>.cell (i:=1) rfl
   have HBA3:=Lib.hid ((HBA.out.out HO3.out (fun e=>HHF.out _ e rfl)).past hbd3)
   have HWO:=Lib.hid (rput_any A3 n3 c3 Y.now x (f.2++b) w3.drew h4.len (by have:=HJ.out.now;have:=h4.len;omega) h4.at_.now)
   have HP4:=Lib.hid hP4
   have HOB:=Lib.hid (show Out own w w3.drew from HOW.out.trans (.of_below hbd3))
   have hchl:Y.ch.length=n4:=by have:=h5.1;rw[List.length_map,Nat.mul_one] at this;exact this
   have hn4:n4≤1000:=by have:=HJ.out.ch;omega
   clear k2 k3 k4 k0 k1 k1' c0' c6 a0 a1 a2 hbd3 hP4 h1 h2 h3 h4 h5 h6 HWR hchl
   go_upto_region 15 with fail
   have hcat:Value.string (ByteArray.mk f.2.toArray++ByteArray.mk b.toArray)=sv (f.2++b):=str_cat f.2 b
   rw[hcat]
   clear hcat u1 u2 u6 hi3 hfs1 hbs1
   go_region_law (first
    |(rw[if_pos (by simp[Region.wanted])]
      go_simp
      go_at_call 67
      refine HWO.out.mono ?_
      rintro e w5 ⟨A5,n5,c5,rfl,hl5,hr5,hb5⟩
      have p1:=(HBA3.out.past hb5).cell (i:=1) rfl
      have g6:=(HX4.out.past hb5).cell (i:=6) rfl
      have f6:=(HX4.out.past hb5).frozen 6
      have HL5:=Lib.hid hl5
      have HR5:=Lib.hid hr5
      have HB5:=Lib.hid hb5
      clear hl5 hr5 hb5))
   all_goals
    have hP5:=HP4.out.past HB5.out
    obtain ⟨A,n,c,A2,n2,c2,A6,n6,c6,A4,n4',c4,h1,h2,h3,h4,h5,h6⟩:=hP5.box
    have hn4':n4'≤1000:=by
     have:=h5.1
     rw[List.length_map,Nat.mul_one] at this
     have:=HJ.out.ch
     omega
    have HFB:=Lib.hid (show FbK own A5 n5 c5 (putGo x (f.2++b) Y.now false) w5 from FbK.of HR5.out HL5.out (fun k hk=>(HP4.out.st.lt hk).2))
    have HP5:=Lib.hid hP5
    have H1:=Lib.hid h1
    have H2:=Lib.hid h2
    have H3:=Lib.hid h3
    have H6:=Lib.hid h6
    have hG5:=h1.lt
    have hH5:H<w5.heap.size:=(HBA3.out.past HB5.out).lt
    obtain ⟨we,hwe⟩:∃we,we=w5.setCell ⟨G,6,none⟩ (.slice A5 n5 c5):=⟨_,rfl⟩
    have hod:Out (fun k=>k=G) w5 we.drew:=by rw[hwe];exact ((Out.refl (fun k=>k=G) w5).setCell (p:=⟨G,6,none⟩) (.inl rfl) _).trans (out_drew _ _)
    have hbx:Blk we.drew G [.pointer (some ⟨P,0,none⟩),.pointer (some ⟨D,0,none⟩),.int .u64 (Y.m.version:Int),.int .u32 (Y.m.next:Int),.slice A n c,.slice A2 n2 c2,.slice A5 n5 c5,.slice A4 n4' c4,.bool Y.waits]:=by rw[hwe];exact (h1.set 6 (.slice A5 n5 c5)).drew
    have s7:=hbx.cell (i:=7) rfl
    have HBD:=Lib.hid hbx
    have b1:=((HBA3.out.past HB5.out).out hod hHG).cell (i:=1) rfl
    have HO5:=Lib.hid (own_out h5 hod (fun k hk e=>(h6 k hk).2.2 e))
    have hsd:we.drew.heap.size=w5.heap.size:=by rw[hwe,World.size_drew,World.size_setCell]
    have hBw:B≤w5.heap.size:=by have:=HP5.out.st.lt HP5.out.g.1;omega
    have HSRC:=Lib.hid (str_one we.drew x 9)
    have HMX:=Lib.hid (show n4'+1≤maxLen by unfold maxLen;omega)
    have HSZ:=Lib.hid (show B≤(we.drew.alloc (.cells #[sv x] 9)).heap.size by rw[World.size_alloc];omega)
    have hne:(Value.slice A4 n4' c4).ownBlock≠some G:=fun e=>(h6 G e).2.2 rfl
    have HNE:=Lib.hid hne
    have hGe:G<we.heap.size:=by rw[hwe,World.size_setCell];exact hG5
    have s7':we.cell? ⟨G,7,none⟩=_:=s7
    have HWE:=Lib.hid hwe
    clear hP5 h1 h2 h3 h4 h5 h6 hod hbx q1 q6 p1 g6 f6 hsd hne
    go_upto_region 16 with fail
    rw[←HWE.out]
    clear hwe
    go_region_law (refine step_append_own (w:=we.drew.alloc (.cells #[sv x] 9)) rfl (.tmp 90) (.tmp 93) 40 rfl B 9 i0 _ 1 16 Tryz.underlying40 hi0 hz0 hz1 hz2 rfl (by decide) (.slice A4 n4' c4) n4' _ (by simp[Act.eval]) (HO5.out.alloc _) ⟨we.heap.size,0,none⟩ 1 1 [sv x] (by simp[Act.eval]) rfl HSRC.out (str_cell _) HMX.out (by omega) HSZ.out ?_
                   intro v6 w6 ho6 hg6 hn6
                   obtain ⟨A7,d7,rfl,hnd7⟩:=own_slice' ho6
                   have hb6:=(HBD.out.alloc (.cells #[sv x] 9)).grown hg6 HNE.out
                   have e7:=hb6.cell (i:=7) rfl
                   have e8:=hb6.cell (i:=8) rfl
                   have y7:=hb6.frozen 7
                   have y8:=hb6.frozen 8
                   have HO6:=Lib.hid ho6
                   have HG6:=Lib.hid hg6
                   have HN6:=Lib.hid hn6
                   clear ho6 hg6 hn6 hb6)
    all_goals
     obtain ⟨w9,hw9⟩:∃w9,w9=(w6.setCell ⟨G,7,none⟩ (.slice A7 (n4'+1) d7)).setCell ⟨G,8,none⟩ (.bool true):=⟨_,rfl⟩
     have HR:=Lib.hid (HP5.out.puts H1.out H2.out H3.out H6.out HFB.out HO6.out (by rw[←HWE.out];exact HG6.out) (by rw[←HWE.out];exact HN6.out) hw9)
     have HW9:=Lib.hid hw9
     clear hw9
     go_wp2_with fail
     rw[←HW9.out]
     go_ret
     obtain ⟨own',r1,r2,r3⟩:=HR.out
     exact ⟨{X with C:=setC X.C x (some (f.2++b))},⟨Y.m,Y.hv,putGo x (f.2++b) Y.now false,Y.ch++[x],true⟩,N+1,own',rfl,Nat.le_refl _,rfl,rfl,HL.out.change HOK.out,HY.out.put x (f.2++b),HJ.out.put (by rw[List.length_append];have:=HJ.out.bn f (List.mem_of_getElem? HE2.out);omega),r1,
      (HOB.out.trans (.of_below HB5.out)).trans r2,fun k hk=>by
        rcases r3 k hk with q|q
        ·exact .inl q
        ·right;have:=(HOB.out.trans (.of_below HB5.out)).size;omega⟩
  ·rw[e1] at HFD
   rw[app_good HL.out (by have:=HLX.out;omega) (by rw[if_neg (by rw[hh];decide)];simp;omega),if_neg (by rw[hh];decide),List.nil_append] at HWR
   clear hh e1 hl hl'
   go_enter Tryz.func39,Tryz.ntmps39
   go_upto_region 1 with fail
   rw[←HW0.out,←HH.out]
   go_region_held3 (fun w'=>w'.cell? ⟨G,6,none⟩=some (.slice A3 n3 c3)∧w'.cell? ⟨H,1,none⟩=some (sv x)) (first|exact ⟨c6,a1⟩) (first|(go_at_call 40;refine HFD.out.mono ?_;rintro e w' ⟨rfl,rfl⟩))
   go_upto_region 10 with fail
   go_region_held3 (fun w'=>w'.cell? ⟨G,0,none⟩=some (.pointer (some ⟨P,0,none⟩))∧w'.cell? ⟨H,1,none⟩=some (sv x)∧w'.cell? ⟨H,2,none⟩=some (.slice A0 n0 c0)) (first|exact ⟨k0,k1,k1'⟩|exact ⟨k2,k3,k4⟩)
    (first|(go_at_call 34;refine HWR.out.mono ?_;rintro e w3 ⟨rfl,hq⟩;rcases hq with ⟨q,-⟩|⟨-,hs3,ho3⟩;exact absurd rfl q;have HS3:=Lib.hid hs3;have HO3:=Lib.hid ho3;have HP3:=Lib.hid (HP.out.store hs3 (Fol.foot ho3));have k2:=(HP3.out.st_ptr);have k3:=(HBA.out.out ho3 (fun e=>HHF.out _ e rfl)).cell (i:=1) rfl;have k4:=(HBA.out.out ho3 (fun e=>HHF.out _ e rfl)).cell (i:=2) rfl;clear hs3 ho3))
   have HOW:=Lib.hid (show Out own w w3 from (Out.of_below HB0.out).trans (HP.out.st.foot HO3.out))
   have hbd3:Below w3.heap.size w3 w3.drew:=(Below.refl _ _).drew
   have hP4:=HP3.out.past hbd3
   obtain ⟨A,n,c,A2,n2,c2,A3,n3,c3,A4,n4,c4,h1,h2,h3,h4,h5,h6⟩:=hP4.box
   have HX4:=Lib.hid h1
   have HOK:=Lib.hid HS3.out.ok
   have q6:=h1.cell (i:=6) rfl
   have q1:=(HBA.out.out HO3.out (fun e=>HHF.out _ e rfl)).past hbd3 |>.cell (i:=1) rfl
   have HBA3:=Lib.hid ((HBA.out.out HO3.out (fun e=>HHF.out _ e rfl)).past hbd3)
   have HWO:=Lib.hid (rput_any A3 n3 c3 Y.now x (b) w3.drew h4.len (by have:=HJ.out.now;have:=h4.len;omega) h4.at_.now)
   have HP4:=Lib.hid hP4
   have HOB:=Lib.hid (show Out own w w3.drew from HOW.out.trans (.of_below hbd3))
   have hchl:Y.ch.length=n4:=by have:=h5.1;rw[List.length_map,Nat.mul_one] at this;exact this
   have hn4:n4≤1000:=by have:=HJ.out.ch;omega
   clear k2 k3 k4 k0 k1 k1' c0' c6 a0 a1 a2 hbd3 hP4 h1 h2 h3 h4 h5 h6 HWR hchl
   go_upto_region 15 with fail
   go_region_law (first
    |(rw[if_pos (by simp[Region.wanted])]
      go_simp
      go_at_call 67
      refine HWO.out.mono ?_
      rintro e w5 ⟨A5,n5,c5,rfl,hl5,hr5,hb5⟩
      have p1:=(HBA3.out.past hb5).cell (i:=1) rfl
      have g6:=(HX4.out.past hb5).cell (i:=6) rfl
      have f6:=(HX4.out.past hb5).frozen 6
      have HL5:=Lib.hid hl5
      have HR5:=Lib.hid hr5
      have HB5:=Lib.hid hb5
      clear hl5 hr5 hb5))
   all_goals
    have hP5:=HP4.out.past HB5.out
    obtain ⟨A,n,c,A2,n2,c2,A6,n6,c6,A4,n4',c4,h1,h2,h3,h4,h5,h6⟩:=hP5.box
    have hn4':n4'≤1000:=by
     have:=h5.1
     rw[List.length_map,Nat.mul_one] at this
     have:=HJ.out.ch
     omega
    have HFB:=Lib.hid (show FbK own A5 n5 c5 (putGo x (b) Y.now false) w5 from FbK.of HR5.out HL5.out (fun k hk=>(HP4.out.st.lt hk).2))
    have HP5:=Lib.hid hP5
    have H1:=Lib.hid h1
    have H2:=Lib.hid h2
    have H3:=Lib.hid h3
    have H6:=Lib.hid h6
    have hG5:=h1.lt
    have hH5:H<w5.heap.size:=(HBA3.out.past HB5.out).lt
    obtain ⟨we,hwe⟩:∃we,we=w5.setCell ⟨G,6,none⟩ (.slice A5 n5 c5):=⟨_,rfl⟩
    have hod:Out (fun k=>k=G) w5 we.drew:=by rw[hwe];exact ((Out.refl (fun k=>k=G) w5).setCell (p:=⟨G,6,none⟩) (.inl rfl) _).trans (out_drew _ _)
    have hbx:Blk we.drew G [.pointer (some ⟨P,0,none⟩),.pointer (some ⟨D,0,none⟩),.int .u64 (Y.m.version:Int),.int .u32 (Y.m.next:Int),.slice A n c,.slice A2 n2 c2,.slice A5 n5 c5,.slice A4 n4' c4,.bool Y.waits]:=by rw[hwe];exact (h1.set 6 (.slice A5 n5 c5)).drew
    have s7:=hbx.cell (i:=7) rfl
    have HBD:=Lib.hid hbx
    have b1:=((HBA3.out.past HB5.out).out hod hHG).cell (i:=1) rfl
    have HO5:=Lib.hid (own_out h5 hod (fun k hk e=>(h6 k hk).2.2 e))
    have hsd:we.drew.heap.size=w5.heap.size:=by rw[hwe,World.size_drew,World.size_setCell]
    have hBw:B≤w5.heap.size:=by have:=HP5.out.st.lt HP5.out.g.1;omega
    have HSRC:=Lib.hid (str_one we.drew x 9)
    have HMX:=Lib.hid (show n4'+1≤maxLen by unfold maxLen;omega)
    have HSZ:=Lib.hid (show B≤(we.drew.alloc (.cells #[sv x] 9)).heap.size by rw[World.size_alloc];omega)
    have hne:(Value.slice A4 n4' c4).ownBlock≠some G:=fun e=>(h6 G e).2.2 rfl
    have HNE:=Lib.hid hne
    have hGe:G<we.heap.size:=by rw[hwe,World.size_setCell];exact hG5
    have s7':we.cell? ⟨G,7,none⟩=_:=s7
    have HWE:=Lib.hid hwe
    clear hP5 h1 h2 h3 h4 h5 h6 hod hbx q1 q6 p1 g6 f6 hsd hne
    go_upto_region 16 with fail
    rw[←HWE.out]
    clear hwe
    go_region_law (refine step_append_own (w:=we.drew.alloc (.cells #[sv x] 9)) rfl (.tmp 90) (.tmp 93) 40 rfl B 9 i0 _ 1 16 Tryz.underlying40 hi0 hz0 hz1 hz2 rfl (by decide) (.slice A4 n4' c4) n4' _ (by simp[Act.eval]) (HO5.out.alloc _) ⟨we.heap.size,0,none⟩ 1 1 [sv x] (by simp[Act.eval]) rfl HSRC.out (str_cell _) HMX.out (by omega) HSZ.out ?_
                   intro v6 w6 ho6 hg6 hn6
                   obtain ⟨A7,d7,rfl,hnd7⟩:=own_slice' ho6
                   have hb6:=(HBD.out.alloc (.cells #[sv x] 9)).grown hg6 HNE.out
                   have e7:=hb6.cell (i:=7) rfl
                   have e8:=hb6.cell (i:=8) rfl
                   have y7:=hb6.frozen 7
                   have y8:=hb6.frozen 8
                   have HO6:=Lib.hid ho6
                   have HG6:=Lib.hid hg6
                   have HN6:=Lib.hid hn6
                   clear ho6 hg6 hn6 hb6)
    all_goals
     obtain ⟨w9,hw9⟩:∃w9,w9=(w6.setCell ⟨G,7,none⟩ (.slice A7 (n4'+1) d7)).setCell ⟨G,8,none⟩ (.bool true):=⟨_,rfl⟩
     have HR:=Lib.hid (HP5.out.puts H1.out H2.out H3.out H6.out HFB.out HO6.out (by rw[←HWE.out];exact HG6.out) (by rw[←HWE.out];exact HN6.out) hw9)
     have HW9:=Lib.hid hw9
     clear hw9
     go_wp2_with fail
     rw[←HW9.out]
     go_ret
     obtain ⟨own',r1,r2,r3⟩:=HR.out
     exact ⟨{X with C:=setC X.C x (some (b))},⟨Y.m,Y.hv,putGo x (b) Y.now false,Y.ch++[x],true⟩,N+1,own',rfl,Nat.le_refl _,rfl,rfl,HL.out.change HOK.out,HY.out.put x (b),HJ.out.put (by omega),r1,
      (HOB.out.trans (.of_below HB5.out)).trans r2,fun k hk=>by
        rcases r3 k hk with q|q
        ·exact .inl q
        ·right;have:=(HOB.out.trans (.of_below HB5.out)).size;omega⟩
 ·have l0:decide ((0:Int)<(lx:Int))=true:=by simp;omega
  have l1:decide (0<lx)=true:=by simp;omega
  have l2:decide ((lx:Int)≤32)=false:=by simp;omega
  have l3:decide (lx≤32)=false:=by simp;omega
  obtain ⟨hh,e1⟩:hasN X x=false∧findD Y.now x=(0,false):=by
   rcases hthere with ⟨hh,-⟩|q
   ·have:=hasN_len HL.out.ok hh;have:=HLX.out;omega
   ·exact q
  rw[e1] at HFD
  rw[app_bad HL.out (by have:=HLX.out;omega)] at HWR
  clear hthere hh e1 hl
  go_enter Tryz.func39,Tryz.ntmps39
  go_upto_region 1 with fail
  rw[←HW0.out,←HH.out]
  go_region_held3 (fun w'=>w'.cell? ⟨G,6,none⟩=some (.slice A3 n3 c3)∧w'.cell? ⟨H,1,none⟩=some (sv x)) (first|exact ⟨c6,a1⟩) (first|(go_at_call 40;refine HFD.out.mono ?_;rintro e w' ⟨rfl,rfl⟩))
  go_upto_region 10 with fail
  go_region_held3 (fun w'=>w'.cell? ⟨G,0,none⟩=some (.pointer (some ⟨P,0,none⟩))∧w'.cell? ⟨H,1,none⟩=some (sv x)∧w'.cell? ⟨H,2,none⟩=some (.slice A0 n0 c0)) (first|exact ⟨k0,k1,k1'⟩|exact ⟨k2,k3,k4⟩)
   (first|(go_at_call 34;refine HWR.out.mono ?_;rintro e w3 ⟨rfl,hq⟩;rcases hq with ⟨-,hs3,ho3⟩|⟨q,-⟩;rotate_left;exact absurd q (by decide);have HS3:=Lib.hid hs3;have HO3:=Lib.hid ho3;have HP3:=Lib.hid (HP.out.store hs3 (Fol.foot ho3));have k2:=(HP3.out.st_ptr);have k3:=(HBA.out.out ho3 (fun e=>HHF.out _ e rfl)).cell (i:=1) rfl;have k4:=(HBA.out.out ho3 (fun e=>HHF.out _ e rfl)).cell (i:=2) rfl;clear hs3 ho3))
  go_wp2_with fail
  go_ret
  exact ⟨X,Y,N,own,rfl,Nat.le_succ _,rfl,rfl,HL.out,HY.out,HJ.out.more,HP3.out,(Out.of_below HB0.out).trans (HP.out.st.foot HO3.out),fun k hk=>.inl hk⟩
end
end Go.Proofs.YtiocpefgccndbaaGreat
end
section
namespace Go.Proofs.YtiocpefgccndbaaGreat
open Go.RowKit Me Mf Rw Ds Va Go.Maps
section
variable {w w':World} {B G P D M N N':Nat} {X X':Sto} {Y Y':Ply} {own ownD own' ownD':Nat→Prop} {F:List UInt8→List UInt8}
theorem changes_any (h:PlayAt w B G P D M N X Y own ownD) (hL:Live X F) (hY:PlyOk X F Y) {j:Nat} (hj:FewY Y j) (hj60:j≤60) (hN:N≤1000) (z:Int) (x:List UInt8) (hx:x.length≤100) (A0:Option Addr) (n0 c0:Nat) (b:List UInt8) (hb:b.length=n0) (hn0:n0≤1000) (hrb:Rd w w.heap.size A0 b) :
 Calls Tryz.prog 39 #[.pointer (some ⟨G,0,none⟩),.agg #[.int .i64 z,sv x,.slice A0 n0 c0]] w (CgPost w B G P D M N j X F own ownD):=by
 by_cases h0:z=0
 ·subst h0
  exact changes_put0 h hL hY hj hj60 hN x hx A0 n0 c0 b hb hn0 hrb
 ·by_cases h1:z=1
  ·subst h1
   exact changes_put1 h hL hY hj hj60 hN x hx A0 n0 c0 b hb hn0 hrb
  ·by_cases h2:z=2
   ·subst h2
    exact changes_remove h hL hY hj hj60 hN x hx A0 n0 c0
   ·exact changes_forget h hL hY hj hj60 z ⟨h0,h1,h2⟩ x A0 n0 c0
def PlayIs (w:World) (B G D j:Nat) (X:Sto) (Y:Ply):Prop:=∃P M N own ownD,N≤j∧B≤w.heap.size∧PlayAt w B G P D M N X Y own ownD
theorem PlayIs.past {j:Nat} (h:PlayIs w B G D j X Y) (hb:Below w.heap.size w w'):PlayIs w' B G D j X Y:=by
 obtain ⟨P,M,N,own,ownD,h1,h2,h3⟩:=h
 exact ⟨P,M,N,own,ownD,h1,Nat.le_trans h2 hb.size,h3.past hb⟩
def DoPost (w:World) (B G D j cn:Nat) (e:Ending) (w':World):Prop:=
 ∃X' Y' F',e=.returned (.bool true)∧Rest X' F'∧PlyOk X' F' Y'∧FewY Y' (j+1)∧X'.S.stored.length=cn∧PlayIs w' B G D (j+1) X' Y'∧Below B w w'∧w.heap.size<w'.heap.size
theorem PlayAt.below (h:PlayAt w B G P D M N X Y own ownD) (ho:Out own w w'):Below B w w':=ho.below (fun k _ hk=>(h.st.lt hk).1) (by have:=h.st.lt h.g.1;omega)
theorem PlayAt.anew (h:PlayAt w B G P D M N X Y own ownD) {P' M':Nat} (hs:StoreAt w' B P' D M' N' X' own' ownD') (ho:Out ownD w w') (h1:∀k,own' k→own k∨w.heap.size≤k) (h2:∀k,own k→own' k) (h3:∀k,ownD' k→ownD k∨w.heap.size≤k) (hP:w.heap.size≤P') (hM:w.heap.size≤M') :
 PlayAt (w'.setCell ⟨G,0,none⟩ (.pointer (some ⟨P',0,none⟩))) B G P' D M' N' X' Y own' ownD'∧Out own w (w'.setCell ⟨G,0,none⟩ (.pointer (some ⟨P',0,none⟩))):=by
 obtain ⟨A,n,c,A2,n2,c2,A3,n3,c3,A4,n4,c4,g1,g2,g3,g4,g5,g6⟩:=h.box
 have hG:=h.st.lt h.g.1
 have hoo:Out own w w':=ho.more fun k _ hk=>h.st.own k (.inr (.inr hk))
 have hgD:¬ownD G:=fun e=>h.g.2 (.inr (.inr e))
 have hg':own' G∧¬Foot P' M' ownD' G:=⟨h2 _ h.g.1,fun e=>by
  rcases e with e|e|e
  ·omega
  ·omega
  ·rcases h3 _ e with q|q
   ·exact hgD q
   ·omega⟩
 have hf:∀k,own k→¬Foot P M ownD k→¬Foot P' M' ownD' k:=fun k hk hn e=>by
  have hk2:=(h.st.lt hk).2
  rcases e with e|e|e
  ·omega
  ·omega
  ·rcases h3 _ e with q|q
   ·exact hn (.inr (.inr q))
   ·omega
 have hst:Out (fun k=>k=G) w' (w'.setCell ⟨G,0,none⟩ (.pointer (some ⟨P',0,none⟩))):=(Out.refl (fun k=>k=G) w').setCell (p:=⟨G,0,none⟩) (.inl rfl) _
 have hso:Out own' w' (w'.setCell ⟨G,0,none⟩ (.pointer (some ⟨P',0,none⟩))):=hst.more fun k _ hk=>by rw[hk];exact hg'.1
 have hb:=(g1.out ho hgD).set 0 (.pointer (some ⟨P',0,none⟩))
 refine ⟨⟨hs.kept hst (fun k _ hk=>by rw[hk];exact hg'),⟨A,n,c,A2,n2,c2,A3,n3,c3,A4,n4,c4,hb,(g2.next hoo h1).out hso,(g3.next hoo h1).out hso,(g4.next hoo h1).out hso,own_out (own_out g5 ho fun k hk e=>(g6 k hk).2.1 (.inr (.inr e))) hst fun k hk e=>(g6 k hk).2.2 e,fun k hk=>?_⟩,hg'⟩,hoo.trans (hst.more fun k _ hk=>by rw[hk];exact h.g.1)⟩
 obtain ⟨q1,q2,q3⟩:=g6 k hk
 exact ⟨h2 k q1,hf k q1 q2,q3⟩
end
end Go.Proofs.YtiocpefgccndbaaGreat
end
section
namespace Go.Proofs.YtiocpefgccndbaaGreat
open Go.RowKit Me Mf Rw Ds Va Go.Maps
section
variable {w w':World} {B G P D M N N':Nat} {X X':Sto} {Y Y':Ply} {own ownD own' ownD':Nat→Prop} {F:List UInt8→List UInt8}
theorem Rest.of {X':Sto} (hr:Rest X F) (hS:X'.S=X.S) (hm:X'.m=X.m) (hL:Live X' F):Rest X' F:=
 ⟨hL.calm,hL.on,by rw[hS];exact hr.fuse,hL.ok,hL.live,hL.holds,by rw[hS,hm];exact hr.slots⟩
end
end Go.Proofs.YtiocpefgccndbaaGreat
end
section
namespace Go.Proofs.YtiocpefgccndbaaGreat
open Go.RowKit Me Mf Rw Ds Va Go.Maps
def BpPost (w:World) (n:Nat) (e:Ending) (w':World):Prop:=
 ∃G D,e=.returned (.tuple #[.pointer (some ⟨G,0,none⟩),.bool true])∧PlayIs w' w.heap.size G D 0 ⟨newD n,noMan,noC,false⟩ ⟨noMan,[],[],[],false⟩∧Below w.heap.size w w'
set_option maxRecDepth 100000 in
set_option maxHeartbeats 1000000 in
theorem begin_play (n:Nat) (h1:33≤n) (h2:n≤65536) (w:World):Calls Tryz.prog 11 #[.int .i64 (n:Int)] w (BpPost w n):=by
 have HN:=Lib.hid (dnew_any n (by omega) h2 w)
 go_enter Tryz.func11,Tryz.ntmps11
 go_wp2_with (go_at_call 37;refine HN.out.mono ?_)
 rintro e w1 ⟨D,ownD,rfl,hd,hb1⟩
 have hrest:=Rest.new (F:=fun _=>[]) (n:=n) (by omega)
 obtain ⟨T,Z,hT,hZ,hans⟩:=hrest.read
 have hmr:=mread_any hd (show (newD n).pend.length<_ by show 0<_;omega) hT hZ
 rw[hans] at hmr
 have HO:=Lib.hid (open_good (own:=ownD) hd (fun k hk=>hk) (fun k hk=>hd.lt hk) hmr fit_none wf_none (fun z hz=>by cases hz) hrest.ok.big (show 0+64≤_ by omega))
 have HD:=Lib.hid hd
 have HB1:=Lib.hid hb1
 clear hd hb1 hmr hans hT hZ hrest
 go_wp2_with fail
 refine HO.out.mono ?_
 intro e w2 hop
 simp only[OpPost,show noMan.version=0 from rfl,↓reduceIte] at hop
 rcases hop with ⟨q,-⟩|⟨-,P,M,own,ownD2,rfl,hst,ho2,hn2,-⟩
 ·exact absurd rfl q
 ·have hb2:Below w.heap.size w w2:=HB1.out.trans (ho2.below (fun k hk hs=>(HD.out.lt hs).1) HB1.out.size)
  have HS:=Lib.hid hst
  have HB2:=Lib.hid hb2
  have hle:=hb2.size
  clear hst ho2 hn2 hb2
  go_wp2_with fail
  go_ret2
  have hw3:Below w2.heap.size w2 (w2.alloc (.cells #[.pointer (some ⟨P,0,none⟩),.pointer (some ⟨D,0,none⟩),.int .u64 0,.int .u32 0,.slice none 0 0,.slice none 0 0,.slice none 0 0,.slice none 0 0,.bool false] 42)):=(Below.refl _ _).alloc (Nat.le_refl _) _
  have hsz:(w2.alloc (.cells #[.pointer (some ⟨P,0,none⟩),.pointer (some ⟨D,0,none⟩),.int .u64 0,.int .u32 0,.slice none 0 0,.slice none 0 0,.slice none 0 0,.slice none 0 0,.bool false] 42)).heap.size=w2.heap.size+1:=World.size_alloc _ _
  have hst:=HS.out.with hw3 (E:=fun k=>k=w2.heap.size) (fun k hk=>by omega) hle
  refine ⟨_,D,rfl,⟨P,M,0,_,ownD2,Nat.le_refl _,by omega,hst,⟨none,0,0,none,0,0,none,0,0,none,0,0,Blk.new w2 [.pointer (some ⟨P,0,none⟩),.pointer (some ⟨D,0,none⟩),.int .u64 0,.int .u32 0,.slice none 0 0,.slice none 0 0,.slice none 0 0,.slice none 0 0,.bool false] _,ManK.none _ _,FbK.none,FbK.none,World.ownsRow_nil _ _ _ _,fun k hk=>by cases hk⟩,.inr rfl,fun hf=>?_⟩,HB2.out.alloc hle _⟩
  have:=(HS.out.lt (HS.out.own _ hf)).2
  omega
section
variable {w w':World} {B G P D M N N':Nat} {X X':Sto} {Y Y':Ply} {own ownD own' ownD':Nat→Prop} {F:List UInt8→List UInt8}
theorem ply_new (S:Dsk) (F:List UInt8→List UInt8):PlyOk ⟨S,noMan,noC,false⟩ F ⟨noMan,[],[],[],false⟩:=PlyOk.plain fit_none S false F
theorem few_new:FewY ⟨noMan,[],[],[],false⟩ 0:=⟨Nat.le_refl _,Nat.le_refl _,Nat.le_refl _,Nat.le_refl _,(fun f hf=>by cases hf),(fun f hf=>by cases hf)⟩
theorem PlyOk.all (h:PlyOk X F Y) {l:List (List UInt8)} (hl:IsNames X l):allF X F l=Y.now:=by
 rw[hl.one h.names]
 unfold allF namesF
 rw[List.map_map]
 conv=>rhs;rw[←List.map_id Y.now]
 refine List.map_congr_left fun f hf=>?_
 show (f.1,newF X.C F f.1)=f
 rw[←h.vals f hf]
end
end Go.Proofs.YtiocpefgccndbaaGreat
end
section
namespace Go.Proofs.YtiocpefgccndbaaGreat
open Go.RowKit Me Mf Rw Ds Va Go.Maps
structure Still (X:Sto) (F:List UInt8→List UInt8):Prop where
 live:Live X F
 slots:(X.m=noMan∧∀k,k<2→slotS X.S.stored k 16=blankS)∨(0<X.m.version∧∀k,k<2→slotS X.S.stored k 16=slotOf X.m)
section
variable {X X':Sto} {F:List UInt8→List UInt8} {l:List (List UInt8)} {m:ManD}
theorem Rest.still (h:Rest X F):Still X F:=⟨h.lives,h.slots⟩
theorem Still.change (h:Still X F) (hS:X'.S=X.S) (hm:X'.m=X.m) (hL:Live X' F):Still X' F:=⟨hL,by rw[hS,hm];exact h.slots⟩
theorem Still.fuse (h:Still X F) (f:Int):Still {X with S:={X.S with fuse:=f}} F:=
 ⟨⟨fuse_calm h.live.calm f,h.live.on,{h.live.ok with},h.live.live,h.live.holds⟩,h.slots⟩
theorem Still.commit (h:Still X F) (hn:NextIs X l m) (hw:Wf m) (h0:(putD X m).2=0):Still ⟨(putD X m).1,m,noC,X.broken⟩ (newF X.C F):=by
 have hfit:=hn.2.2
 have hv:0<m.version:=by
  obtain ⟨hp,-,-⟩:=hn
  unfold St.planD at hp
  cases hr:St.planL X.m.files (listC X l) (St.freeM X.S.stored.length X.m.files) X.m.next with
  |none=>rw[hr] at hp;cases hp
  |some r=>
   rw[hr] at hp
   injection hp with hp
   rw[←hp]
   exact Nat.succ_pos _
 rcases putD_cases hn h.live.calm h.live.ok h.live.holds with ⟨hne,-⟩|⟨S,hP,e⟩
 ·exact absurd h0 hne
 ·rw[e] at h0 ⊢
  rcases wmD_cases hP.calm hfit with ⟨c0,-⟩|⟨c0,-⟩|⟨-,c1,c2,c3,c4⟩
  ·exact absurd h0 c0
  ·exact absurd h0 c0
  ·refine ⟨⟨c2,c3,⟨hfit,hw,?_,?_,fun x hx=>absurd rfl hx,fun x b hx=>by cases hx⟩,h.live.live,?_⟩,.inr ⟨hv,c1⟩⟩
   ·show St.OnDisk (wmD S m 2).1.stored.length _
    rw[c4,hP.size]
    exact hn.onDisk h.live.ok.disk
   ·show 32<(wmD S m 2).1.stored.length
    rw[c4,hP.size]
    exact h.live.ok.big
   ·exact hP.new.high hfit fun j hj=>wmD_high hP.calm hfit hj
structure Aft (S:Dsk) (m:ManD) (F:List UInt8→List UInt8):Prop where
 calm:Calm S
 on:S.on=true
 fuse:S.fuse<0
 ok:OkS ⟨S,m,noC,false⟩
 holds:Holds S.stored m.files F
theorem Aft.anew {S:Dsk} (h:Aft S m F):(if m.version=0 then (S,(0:Int)) else wmD S m 2).2=0∧Live ⟨(if m.version=0 then (S,(0:Int)) else wmD S m 2).1,m,noC,false⟩ F:=by
 split
 ·exact ⟨rfl,h.calm,h.on,h.ok,rfl,h.holds⟩
 ·have hfit:Fit m:=h.ok.fit
  obtain ⟨d1,d2⟩:=wmD_done h.calm hfit h.on h.fuse
  refine ⟨d1,?_⟩
  rcases wmD_cases h.calm hfit with ⟨c0,-⟩|⟨c0,-⟩|⟨-,c1,c2,c3,c4⟩
  ·exact absurd d1 c0
  ·exact absurd d1 c0
  ·refine ⟨c2,c3,{h.ok with disk:=?_,big:=?_},rfl,h.holds.high hfit fun j hj=>wmD_high h.calm hfit hj⟩
   ·show St.OnDisk (wmD S m 2).1.stored.length _
    rw[c4]
    exact h.ok.disk
   ·show 32<(wmD S m 2).1.stored.length
    rw[c4]
    exact h.ok.big
theorem Still.back (h:Still X F) (K T:Nat):Rest ⟨backD K T X.S,X.m,noC,false⟩ F:=by
 have e:(backD K T X.S).stored=X.S.stored:=by
  show Ds.settle K T 0 X.S.pend X.S.stored=_
  rw[h.live.calm.pend]
  rfl
 refine ⟨⟨rfl,fun b hb=>h.live.calm.all b (by rw[e] at hb;exact hb),by rw[e];exact h.live.calm.size⟩,rfl,by show (-1:Int)<0;omega,{h.live.ok with keys:=fun x hx=>absurd rfl hx,len:=fun x b hx=>(by cases hx),disk:=?_,big:=?_},rfl,?_,?_⟩
 ·show St.OnDisk (backD K T X.S).stored.length _
  rw[e]
  exact h.live.ok.disk
 ·show 32<(backD K T X.S).stored.length
  rw[e]
  exact h.live.ok.big
 ·show Holds (backD K T X.S).stored _ _
  rw[e]
  exact h.live.holds
 ·rw[show (⟨backD K T X.S,X.m,noC,false⟩:Sto).S.stored=X.S.stored from e]
  exact h.slots
theorem Still.pages (h:Still X F) {S:Dsk} (hst:S.stored=X.S.stored) (hpe:∀x∈S.pend,x.b.length=128∧x.i<X.S.stored.length∧32≤x.i∧∀z∈allBlocks X.m.files,z.toNat≠x.i) (K T:Nat):Rest ⟨backD K T S,X.m,noC,false⟩ F:=by
 have hlen:(backD K T S).stored.length=X.S.stored.length:=by
  show (Ds.settle K T 0 S.pend S.stored).length=_
  rw[settle_length,hst]
 have hoth:∀j,(∀x∈S.pend,x.i≠j)→(backD K T S).stored.getD j []=X.S.stored.getD j []:=fun j hj=>by
  show (Ds.settle K T 0 S.pend S.stored).getD j []=_
  rw[settle_other K T S.pend 0 S.stored j hj,hst]
 refine ⟨⟨rfl,settle_all K T S.pend 0 S.stored (fun x hx=>⟨(hpe x hx).1,by rw[hst];exact (hpe x hx).2.1⟩) (by rw[hst];exact h.live.calm.all),by rw[hlen];exact h.live.calm.size⟩,rfl,by show (-1:Int)<0;omega,{h.live.ok with keys:=fun x hx=>absurd rfl hx,len:=fun x b hx=>(by cases hx),disk:=?_,big:=?_},rfl,?_,?_⟩
 ·show St.OnDisk (backD K T S).stored.length _
  rw[hlen]
  exact h.live.ok.disk
 ·show 32<(backD K T S).stored.length
  rw[hlen]
  exact h.live.ok.big
 ·intro f hf
  exact FileIs.keep (h.live.holds f hf) fun z hz=>hoth _ fun x hx e=>(hpe x hx).2.2.2 z (by unfold allBlocks;exact List.mem_flatMap.2 ⟨f,hf,hz⟩) e.symm
 ·have hsl:∀k,k<2→slotS (backD K T S).stored k 16=slotS X.S.stored k 16:=fun k hk=>slotS_eq (fun j h1 h2=>hoth j fun x hx e=>by have:=(hpe x hx).2.2.1;omega) 16 (Nat.le_refl _)
  rcases h.slots with ⟨h1,h2⟩|⟨h1,h2⟩
  ·exact .inl ⟨h1,fun k hk=>(hsl k hk).trans (h2 k hk)⟩
  ·exact .inr ⟨h1,fun k hk=>(hsl k hk).trans (h2 k hk)⟩
theorem fell_ans {S S1:Dsk} {mw m:ManD} (h32:32<S1.stored.length) (hon:S1.on=true) (hslots:(mw=noMan∧∀k,k<2→slotS S.stored k 16=blankS)∨(Fit mw∧Wf mw∧∀k,k<2→slotS S.stored k 16=slotOf mw)) (h1:slotD S1 ((m.version+1)%2) 16=slotS S.stored ((m.version+1)%2) 16∨slotD S1 (m.version%2) 16=slotOf m) (hf:Fit m) (hw:Wf m) {Tl:Nat→Option ManD} {Z:Nat→Bool} (hT:∀k,k<2→Says (slotD S1 k 16) (Tl k)) (hZ:∀k,k<2→Z k=zeros (slotD S1 k 16))
 (hmix:∀k,k<2→(Tl k).isSome=true→slotD S1 k 16=slotS S.stored k 16∨slotD S1 k 16=slotOf m):ansD S1 Tl Z=(m,0)∨ansD S1 Tl Z=(mw,0):=by
 have hpar:=parity m.version
 have hans:ansD S1 Tl Z=ansOf (curOf Tl 2) (blkOf Z 2):=by
  unfold ansD
  rw[if_neg (by omega),hon]
  rfl
 rw[hans]
 have hsay:=says_slot hw hf
 have hnew:∀k,k<2→slotD S1 k 16=slotOf m→Tl k=some m:=fun k hk e=>by
  have:=hT k hk
  rw[e] at this
  exact this.one hsay
 rcases hslots with ⟨rfl,hb⟩|⟨hfw,hww,hb⟩
 ·have hcas:∀k,k<2→Tl k=none∨Tl k=some m∨Tl k=some m:=fun k hk=>by
   cases hs:(Tl k).isSome with
   |false=>left;cases hq:Tl k with
    |none=>rfl
    |some x=>rw[hq] at hs;cases hs
   |true=>
    rcases hmix k hk hs with e|e
    ·have:=hT k hk
     rw[e,hb k hk] at this
     rw[this.one says_blank] at hs
     cases hs
    ·exact .inr (.inl (hnew k hk e))
  by_cases hex:∃k,k<2∧Tl k≠none
  ·left
   rcases curOf_two hcas hex with e|e<;>exact ans_some e
  ·right
   have hn:∀k,k<2→Tl k=none:=fun k hk=>by
    cases hq:Tl k with
    |none=>rfl
    |some x=>exact absurd ⟨k,hk,by rw[hq];simp⟩ hex
   have hz:blkOf Z 2=true:=by
    have hq:∃k,k<2∧Z k=true:=by
     rcases h1 with e|e
     ·refine ⟨(m.version+1)%2,by omega,?_⟩
      rw[hZ _ (by omega),show slotD S1 ((m.version+1)%2) 16=_ from e]
      show zeros (slotS S.stored _ 16)=true
      rw[hb _ (by omega)]
      exact zeros_blank
     ·have:=hnew _ (by omega) e
      rw[hn _ (by omega)] at this
      cases this
    obtain ⟨k,hk,e⟩:=hq
    unfold blkOf blkOf blkOf
    rcases (show k=0∨k=1 by omega) with h0|h0
    ·rw[h0] at e;rw[e];rfl
    ·rw[h0] at e;rw[e];simp
   have hc:curOf Tl 2=none:=by
    unfold curOf curOf curOf
    rw[hn 0 (by omega),hn 1 (by omega)]
    rfl
   rw[hc,hz]
   rfl
 ·have holds:=says_slot hww hfw
  have hold:∀k,k<2→slotD S1 k 16=slotS S.stored k 16→Tl k=some mw:=fun k hk e=>by
   have:=hT k hk
   rw[e,hb k hk] at this
   exact this.one holds
  have hcas:∀k,k<2→Tl k=none∨Tl k=some m∨Tl k=some mw:=fun k hk=>by
   cases hs:(Tl k).isSome with
   |false=>left;cases hq:Tl k with
    |none=>rfl
    |some x=>rw[hq] at hs;cases hs
   |true=>
    rcases hmix k hk hs with e|e
    ·exact .inr (.inr (hold k hk e))
    ·exact .inr (.inl (hnew k hk e))
  have hex:∃k,k<2∧Tl k≠none:=by
   rcases h1 with e|e
   ·exact ⟨(m.version+1)%2,by omega,by rw[hold _ (by omega) e];simp⟩
   ·exact ⟨m.version%2,by omega,by rw[hnew _ (by omega) e];simp⟩
  rcases curOf_two hcas hex with e|e
  ·exact .inl (ans_some e)
  ·exact .inr (ans_some e)
theorem Still.fell (h:Still X F) (hn:NextIs X l m) (hw:Wf m) {S:Dsk} (hP:Paged X m F S) (K T:Nat) (hall:∀b∈(backD K T (wmD S m 2).1).stored,b.length=128) {Tl:Nat→Option ManD} {Z:Nat→Bool} (hT:∀k,k<2→Says (slotD (backD K T (wmD S m 2).1) k 16) (Tl k)) (hZ:∀k,k<2→Z k=zeros (slotD (backD K T (wmD S m 2).1) k 16))
 (hmix:∀k,k<2→(Tl k).isSome=true→slotD (backD K T (wmD S m 2).1) k 16=slotS X.S.stored k 16∨slotD (backD K T (wmD S m 2).1) k 16=slotOf m) :
 ∃m' F',((m'=X.m∧F'=F)∨(m'=m∧F'=newF X.C F))∧Aft (backD K T (wmD S m 2).1) m' F'∧ansD (backD K T (wmD S m 2).1) Tl Z=(m',0):=by
 have hfit:=hn.2.2
 have hlen:(backD K T (wmD S m 2).1).stored.length=X.S.stored.length:=by
  show (Ds.settle K T 0 (wmD S m 2).1.pend (wmD S m 2).1.stored).length=_
  rw[settle_length,wmD_length hP.calm hfit,hP.size]
 have hhi:∀j,32≤j→(backD K T (wmD S m 2).1).stored.getD j []=S.stored.getD j []:=fun j hj=>by
  show (Ds.settle K T 0 (wmD S m 2).1.pend (wmD S m 2).1.stored).getD j []=_
  rw[settle_other K T _ 0 _ j fun x hx e=>by have:=wmD_pends hP.calm hfit x hx;omega]
  exact wmD_high hP.calm hfit hj
 have hbig:=h.live.ok.big
 have hsl:∀k,k<2→slotS S.stored k 16=slotS X.S.stored k 16:=fun k hk=>slotS_eq (fun j h1 h2=>hP.slots j (by omega)) 16 (Nat.le_refl _)
 obtain ⟨h1,-⟩:=fall_slots hP.calm hfit K T
 rw[hsl _ (by omega)] at h1
 have hcalm:Calm (backD K T (wmD S m 2).1):=⟨rfl,hall,by rw[hlen];exact h.live.calm.size⟩
 have hans:=fell_ans (S:=X.S) (S1:=backD K T (wmD S m 2).1) (mw:=X.m) (by rw[hlen];exact hbig) rfl (h.slots.imp (fun q=>q) fun q=>⟨h.live.ok.fit,h.live.ok.wf,q.2⟩) h1 hfit hw hT hZ hmix
 rcases hans with e|e
 ·refine ⟨m,newF X.C F,.inr ⟨rfl,rfl⟩,⟨hcalm,rfl,by show (-1:Int)<0;omega,⟨hfit,hw,?_,?_,fun x hx=>absurd rfl hx,fun x b hx=>by cases hx⟩,hP.new.high hfit hhi⟩,e⟩
  ·show St.OnDisk (backD K T (wmD S m 2).1).stored.length _
   rw[hlen]
   exact hn.onDisk h.live.ok.disk
  ·show 32<(backD K T (wmD S m 2).1).stored.length
   rw[hlen]
   exact hbig
 ·refine ⟨X.m,F,.inl ⟨rfl,rfl⟩,⟨hcalm,rfl,by show (-1:Int)<0;omega,{h.live.ok with keys:=fun x hx=>absurd rfl hx,len:=fun x b hx=>(by cases hx),disk:=?_,big:=?_},hP.old.high h.live.ok.fit hhi⟩,e⟩
  ·show St.OnDisk (backD K T (wmD S m 2).1).stored.length _
   rw[hlen]
   exact h.live.ok.disk
  ·show 32<(backD K T (wmD S m 2).1).stored.length
   rw[hlen]
   exact hbig
end
end Go.Proofs.YtiocpefgccndbaaGreat
end
section
namespace Go.Proofs.YtiocpefgccndbaaGreat
open Go.RowKit Me Mf Rw Ds Va Go.Maps
def Dn (p:Dsk×Int):Prop:=(p.2=0∧p.1.on=true)∨(p.2=6∧p.1.on=false)
theorem syncD_dn {S:Dsk} (h:S.on=true):Dn (syncD S):=by
 unfold syncD
 rw[if_pos h]
 cases hp:(power S).on with
 |true=>exact .inl ⟨rfl,hp⟩
 |false=>exact .inr ⟨rfl,hp⟩
theorem writeD_dn {S:Dsk} (h:S.on=true) {i:Int} (hb:hasB S.stored.length i=true) {l:List UInt8} (hl:l.length=128):Dn (writeD S i l):=by
 unfold writeD
 rw[if_pos h,if_pos hb,if_pos hl]
 cases hp:(power S).on with
 |true=>exact .inl ⟨rfl,hp⟩
 |false=>exact .inr ⟨rfl,hp⟩
theorem stD_dn {S:Dsk} (h:S.on=true) {n:Nat} (hs:16*n+16≤S.stored.length) {l:List UInt8} (hl:l.length=2048):∀k,k≤16→Dn (stD S n l k)
 |0,_=>.inl ⟨rfl,h⟩
 |k+1,hk=>by
  have ih:=stD_dn h hs hl k (by omega)
  have hst:=(stD_cases S n l k).1
  rw[stD]
  rcases ih with ⟨h0,h1⟩|⟨h0,h1⟩
  ·rw[if_pos h0]
   refine writeD_dn h1 (by rw[hst,hasB_nat];exact decide_eq_true (by omega)) ?_
   unfold chunkL
   simp
   omega
  ·rw[if_neg (by rw[h0];omega)]
   exact .inr ⟨h0,h1⟩
theorem wslotD_dn {S:Dsk} (h:S.on=true) {n:Nat} (hs:16*n+16≤S.stored.length) {l:List UInt8} (hl:l.length=2048):Dn (wslotD S n l):=by
 unfold wslotD
 rcases stD_dn h hs hl 16 (Nat.le_refl _) with ⟨h0,h1⟩|⟨h0,h1⟩
 ·rw[if_pos h0]
  exact syncD_dn h1
 ·rw[if_neg (by rw[h0];omega)]
  exact .inr ⟨h0,h1⟩
theorem wmD_dn {S:Dsk} (h:S.on=true) (hs:32≤S.stored.length) {m:ManD} (hf:Fit m):∀k,Dn (wmD S m k)
 |0=>.inl ⟨rfl,h⟩
 |k+1=>by
  rw[wmD]
  rcases wmD_dn h hs hf k with ⟨h0,h1⟩|⟨h0,h1⟩
  ·rw[if_pos h0]
   exact wslotD_dn h1 (by rw[wmD_size];omega) (slotOf_length hf)
  ·rw[if_neg (by rw[h0];omega)]
   exact .inr ⟨h0,h1⟩
theorem ptD_dn {S:Dsk} {id:Nat} {bl:List Int} {b:List UInt8} (hon:S.on=true):∀k,(∀i,i<k→0≤bl.getD i 0∧bl.getD i 0<(S.stored.length:Int))→Dn (ptD S id bl b k)
 |0,_=>.inl ⟨rfl,hon⟩
 |k+1,h=>by
  obtain ⟨q1,q2⟩:=h k (by omega)
  rw[ptD]
  rcases ptD_dn (id:=id) (bl:=bl) (b:=b) hon k fun i hi=>h i (by omega) with ⟨h0,h1⟩|⟨h0,h1⟩
  ·rw[if_pos h0]
   obtain ⟨n,hn⟩:∃n:Nat,bl.getD k 0=(n:Int):=⟨(bl.getD k 0).toNat,by omega⟩
   refine writeD_dn h1 ?_ (pgB_length _ _ _)
   rw[ptD_size,hn,hasB_nat]
   exact decide_eq_true (by omega)
  ·rw[if_neg (by rw[h0];omega)]
   exact .inr ⟨h0,h1⟩
theorem putsD_dn {C:Chg}:∀(l:List FileD) (S:Dsk),S.on=true→(∀f∈l,∀i,i<St.pages (bodyC C f.name).length→0≤f.blocks.getD i 0∧f.blocks.getD i 0<(S.stored.length:Int))→Dn (putsD C S l)
 |[],S,hon,_=>.inl ⟨rfl,hon⟩
 |f::l,S,hon,h=>by
  rw[putsD]
  rcases (show Dn (putP S f (bodyC C f.name)) from ptD_dn (id:=f.id) (bl:=f.blocks) (b:=bodyC C f.name) hon _ (h f (by simp))) with ⟨h0,h1⟩|⟨h0,h1⟩
  ·rw[if_pos h0]
   exact putsD_dn l _ h1 fun g hg i hi=>by
    rw[putP_size]
    exact h g (by simp[hg]) i hi
  ·rw[if_neg (by rw[h0];omega)]
   exact .inr ⟨h0,h1⟩
theorem putD_dn {X:Sto} {F:List UInt8→List UInt8} (h:Live X F) {l:List (List UInt8)} {m:ManD} (hn:NextIs X l m):Dn (putD X m):=by
 unfold putD
 rcases putsD_dn (C:=X.C) m.files X.S h.on fun f hf i hi=>by
  have hi2:i<f.blocks.length:=by have:=hn.bodies hf;omega
  have h1:=((hn.2.2.1.2.2.1 f hf).2.2 _ (getD_mem hi2)).1
  have h2:=hn.onDisk h.ok.disk _ (by unfold allBlocks;exact List.mem_flatMap.2 ⟨f,hf,getD_mem hi2⟩)
  exact ⟨by omega,h2⟩ with ⟨h0,h1⟩|⟨h0,h1⟩
 ·rw[if_pos h0]
  rcases syncD_dn h1 with ⟨s0,s1⟩|⟨s0,s1⟩
  ·rw[if_pos s0]
   exact wmD_dn s1 (by have:=h.ok.big;rw[syncD_size,putsD_size];omega) hn.2.2 2
  ·rw[if_neg (by rw[s0];omega)]
   exact .inr ⟨s0,s1⟩
 ·rw[if_neg (by rw[h0];omega)]
  exact .inr ⟨h0,h1⟩
end Go.Proofs.YtiocpefgccndbaaGreat
end
section
namespace Go.Proofs.YtiocpefgccndbaaGreat
open Go.RowKit Me Mf Rw Ds Va Go.Maps
theorem body_le {X:Sto} (hok:OkS X) (x:List UInt8):(bodyC X.C x).length≤1048576:=by
 unfold bodyC
 cases hC:X.C x with
 |none=>simp
 |some z=>
  cases z with
  |none=>simp
  |some b=>exact hok.len x b hC
theorem putsD_pend {C:Chg} (hC:∀x,(bodyC C x).length≤1048576):∀(l:List FileD) (S:Dsk),(putsD C S l).1.pend.length≤S.pend.length+l.length*9363
 |[],S=>by rw[putsD];simp
 |f::l,S=>by
  have h1:=putP_pend S f (bodyC C f.name)
  have h2:St.pages (bodyC C f.name).length≤9363:=by have:=hC f.name;unfold St.pages;omega
  rw[putsD,List.length_cons]
  split
  ·have:=putsD_pend hC l (putP S f (bodyC C f.name)).1
   omega
  ·show (putP S f (bodyC C f.name)).1.pend.length≤_
   omega
theorem putD_pend {X:Sto} (hok:OkS X) (m:ManD):(putD X m).1.pend.length≤X.S.pend.length+m.files.length*9363+32:=by
 have h1:=putsD_pend (C:=X.C) (body_le hok) m.files X.S
 have h2:=syncD_pend (putsD X.C X.S m.files).1
 have h3:=wmD_pend (syncD (putsD X.C X.S m.files).1).1 m 2
 unfold putD
 split
 ·split<;>omega
 ·omega
def FlIs (X:Sto) (F:List UInt8→List UInt8) (Y:Ply) (mb:List FB) (nx:ManD) (R:RefM):Prop:=
 (Still X F∧PlyOk X F Y) ∨
 (X.S.on=false∧∃X0 m,Still X0 F∧PlyOk X0 F Y∧NextIs X0 (namesF Y.now) m∧Wf m∧(putD X0 m).2≠0∧X={X0 with S:=(putD X0 m).1,broken:=true}∧mb=Y.now∧nx=m∧R=mdlR X0.S)
section
variable {X X':Sto} {F:List UInt8→List UInt8} {Y Y':Ply} {mb:List FB} {nx:ManD} {R:RefM} {j:Nat} {ok:Bool} {r:Int}
theorem FlIs.live (h:FlIs X F Y mb nx R) (hon:X.S.on=true):Still X F∧PlyOk X F Y:=by
 rcases h with h|⟨h,-⟩
 ·exact h
 ·rw[hon] at h;cases h
theorem FlIs.fit (h:FlIs X F Y mb nx R):Fit Y.m:=by
 rcases h with ⟨h,hY⟩|⟨-,X0,m,h,hY,-⟩
 ·rw[hY.m];exact h.live.ok.fit
 ·rw[hY.m];exact h.live.ok.fit
theorem FlIs.pend (h:FlIs X F Y mb nx R):X.S.pend.length<4611686018427387904:=by
 rcases h with ⟨h,-⟩|⟨-,X0,m,h,-,hn,-,-,rfl,-⟩
 ·rw[h.live.calm.pend];show 0<_;omega
 ·have h1:=putD_pend h.live.ok m
  have h2:=files_len hn.2.2
  rw[h.live.calm.pend] at h1
  show (putD X0 m).1.pend.length<_
  simp at h1
  omega
theorem FlIs.cmt (h:Still X F) (hY:PlyOk X F Y) (hj:FewY Y j) (hc:CmtP X Y X' Y' ok r) (hmb:Y.waits=true→∀m,NextIs X (namesF Y.now) m→mb=Y.now∧nx=m) (hR:R=mdlR X.S) :
 ok=true∧X'.S.stored.length=X.S.stored.length∧FewY Y' (j+1)∧∃F',FlIs X' F' Y' mb nx R:=by
 rcases hc with ⟨-,rfl,rfl,rfl,rfl⟩|⟨-,-,rfl,rfl,rfl,rfl⟩|⟨hw,m,h1,h2,h3,rfl,rfl,rfl,rfl⟩|⟨-,m,h1,h2,h3,rfl,rfl,rfl,rfl⟩
 ·exact ⟨rfl,rfl,hj.more,F,.inl ⟨h,hY⟩⟩
 ·exact ⟨rfl,rfl,hj.more,F,.inl ⟨h,hY⟩⟩
 ·obtain ⟨e1,e2⟩:=hmb hw m h1
  rcases putD_dn h.live h1 with ⟨q,-⟩|⟨q1,q2⟩
  ·exact absurd q h3
  ·exact ⟨decide_eq_true q1,putD_size X m,hj.more,F,.inr ⟨q2,X,m,h,hY,h1,h2,h3,rfl,e1,e2,hR⟩⟩
 ·refine ⟨rfl,putD_size X m,?_,newF X.C F,.inl ⟨h.commit h1 h2 h3,hY.commit h1 _ _⟩⟩
  have hv:m.version≤j+1:=by
   have hp:=h1.1
   unfold St.planD at hp
   cases hq:St.planL X.m.files (listC X (namesF Y.now)) (St.freeM X.S.stored.length X.m.files) X.m.next with
   |none=>rw[hq] at hp;cases hp
   |some q=>
    rw[hq] at hp
    injection hp with hp
    have:=hj.ver
    rw[hY.m] at this
    rw[←hp]
    show X.m.version+1≤j+1
    omega
  exact ⟨by have:=hj.now;show Y.now.length≤_;omega,by have:=hj.now;show Y.now.length≤_;omega,Nat.zero_le _,hv,fun f hf=>by have:=hj.bn f hf;omega,fun f hf=>by have:=hj.bn f hf;omega⟩
end
theorem ansD_one {S:Dsk} {T T':Nat→Option ManD} {Z Z':Nat→Bool} (hT:∀k,k<2→T k=T' k) (hZ:∀k,k<2→Z k=Z' k):ansD S T Z=ansD S T' Z':=by
 have h1:curOf T 2=curOf T' 2:=by
  unfold curOf curOf curOf
  rw[hT 0 (by omega),hT 1 (by omega)]
 have h2:blkOf Z 2=blkOf Z' 2:=by
  unfold blkOf blkOf blkOf
  rw[hZ 0 (by omega),hZ 1 (by omega)]
 unfold ansD
 rw[h1,h2]
theorem Rest.aft {X:Sto} {F:List UInt8→List UInt8} (h:Rest X F) (hC:X.C=noC) (hb:X.broken=false):Aft X.S X.m F:=
 ⟨h.calm,h.on,h.fuse,by
   have:=h.ok
   obtain ⟨S,m,C,b⟩:=X
   cases hC
   cases hb
   exact this,h.holds⟩
theorem Rest.ans {X:Sto} {F:List UInt8→List UInt8} (h:Rest X F) {T:Nat→Option ManD} {Z:Nat→Bool} (hT:∀k,k<2→Says (slotD X.S k 16) (T k)) (hZ:∀k,k<2→Z k=zeros (slotD X.S k 16)):ansD X.S T Z=(X.m,0):=by
 obtain ⟨T',Z',hT',hZ',e⟩:=h.read
 rw[←e]
 exact ansD_one (fun k hk=>(hT k hk).one (hT' k hk)) (fun k hk=>(hZ k hk).trans (hZ' k hk).symm)
theorem NextIs.ver {X:Sto} {l:List (List UInt8)} {m:ManD} (h:NextIs X l m):m.version=X.m.version+1:=by
 have hp:=h.1
 unfold St.planD at hp
 cases hq:St.planL X.m.files (listC X l) (St.freeM X.S.stored.length X.m.files) X.m.next with
 |none=>rw[hq] at hp;cases hp
 |some q=>
  rw[hq] at hp
  injection hp with hp
  rw[←hp]
theorem curOf2 (T:Nat→Option ManD):curOf T 2=best (T 0) (T 1):=by
 unfold curOf curOf curOf
 cases T 0<;>rfl
theorem ans_cases {x:Option ManD} {z:Bool} {m:ManD} (h:ansOf x z=(m,0)):x=some m∨(x=none∧m=noMan):=by
 unfold ansOf at h
 split at h
 ·injection h with h;exact .inl (by rw[h])
 ·split at h
  ·injection h with h;exact .inr ⟨rfl,h.symm⟩
  ·injection h with _ h;cases h
set_option maxHeartbeats 1000000 in
theorem fell_first {S S1:Dsk} {mw m m':ManD} (h32:32<S1.stored.length) (hon:S1.on=true) (hslots:(mw=noMan∧∀k,k<2→slotS S.stored k 16=blankS)∨(Fit mw∧Wf mw∧∀k,k<2→slotS S.stored k 16=slotOf mw)) (h1:slotD S1 ((m.version+1)%2) 16=slotS S.stored ((m.version+1)%2) 16∨slotD S1 (m.version%2) 16=slotOf m) (hv:m.version=mw.version+1) (hf:Fit m) (hw:Wf m) {Tl:Nat→Option ManD} {Z:Nat→Bool} (hT:∀k,k<2→Says (slotD S1 k 16) (Tl k))
 (hmix:∀k,k<2→(Tl k).isSome=true→slotD S1 k 16=slotS S.stored k 16∨slotD S1 k 16=slotOf m) (hans:ansD S1 Tl Z=(m',0)):m'.version=0∨slotD S1 (m'.version%2) 16=slotOf m':=by
 have hpar:=parity m.version
 have he:ansD S1 Tl Z=ansOf (curOf Tl 2) (blkOf Z 2):=by
  unfold ansD
  rw[if_neg (by omega),hon]
  rfl
 rw[he] at hans
 have hsay:=says_slot hw hf
 have hold:∀k,k<2→slotD S1 k 16=slotS S.stored k 16→(Tl k=none∧mw=noMan)∨(Tl k=some mw∧slotD S1 k 16=slotOf mw):=fun k hk e=>by
  have:=hT k hk
  rcases hslots with ⟨e1,hb⟩|⟨hfw,hww,hb⟩
  ·rw[e,hb k hk] at this
   exact .inl ⟨this.one says_blank,e1⟩
  ·rw[e,hb k hk] at this
   exact .inr ⟨this.one (says_slot hww hfw),e.trans (hb k hk)⟩
 have hnew:∀k,k<2→slotD S1 k 16=slotOf m→Tl k=some m:=fun k hk e=>by
  have:=hT k hk
  rw[e] at this
  exact this.one hsay
 have hne:mw≠m:=fun e=>by rw[e] at hv;omega
 have hcas:∀k,k<2→Tl k=none∨(Tl k=some m∧slotD S1 k 16=slotOf m)∨(Tl k=some mw∧slotD S1 k 16=slotOf mw):=fun k hk=>by
  cases hq:Tl k with
  |none=>exact .inl rfl
  |some x=>
   right
   rcases hmix k hk (by rw[hq];rfl) with e|e
   ·rcases hold k hk e with ⟨q,-⟩|⟨q,q2⟩
    ·rw[hq] at q;cases q
    ·rw[hq] at q;exact .inr ⟨q,q2⟩
   ·have:=hnew k hk e
    rw[hq] at this
    exact .inl ⟨this,e⟩
 have hA:=hcas (m.version%2) (by omega)
 have hB:=hcas ((m.version+1)%2) (by omega)
 rcases ans_cases hans with hc|⟨-,rfl⟩
 ·have hcur:best (Tl (m.version%2)) (Tl ((m.version+1)%2))=some m'∨best (Tl ((m.version+1)%2)) (Tl (m.version%2))=some m':=by
   rw[curOf2] at hc
   rcases hpar with ⟨e1,e2⟩|⟨e1,e2⟩
   ·rw[e1,e2];exact .inl hc
   ·rw[e1,e2];exact .inr hc
  rcases hA with hA|⟨hA,hA2⟩|⟨hA,hA2⟩
  ·
   have hl:slotD S1 ((m.version+1)%2) 16=slotS S.stored ((m.version+1)%2) 16:=by
    rcases h1 with e|e
    ·exact e
    ·have:=hnew _ (by omega) e
     rw[hA] at this
     cases this
   rcases hold _ (by omega) hl with ⟨q,-⟩|⟨q,q2⟩
   ·rw[hA,q] at hcur
    rcases hcur with h|h<;>simp[best] at h
   ·rw[hA,q] at hcur
    have:mw=m':=by rcases hcur with h|h<;>simpa [best] using h
    subst this
    right
    rw[show mw.version%2=(m.version+1)%2 by omega]
    exact q2
  ·have:m=m':=by
    rw[hA] at hcur
    rcases hB with hB|⟨hB,-⟩|⟨hB,-⟩
    ·rw[hB] at hcur;rcases hcur with h|h<;>simpa [best] using h
    ·rw[hB] at hcur;rcases hcur with h|h<;>simpa [best] using h
    ·rw[hB] at hcur
     have h1:¬m.version<mw.version:=by omega
     have h2:mw.version<m.version:=by omega
     rcases hcur with h|h
     ·simpa [best,h1] using h
     ·simpa [best,h2] using h
   subst this
   exact .inr hA2
  ·have hl:slotD S1 ((m.version+1)%2) 16=slotS S.stored ((m.version+1)%2) 16:=by
    rcases h1 with e|e
    ·exact e
    ·have:=hnew _ (by omega) e
     rw[hA] at this
     exact (hne (Option.some.inj this)).elim
   rcases hold _ (by omega) hl with ⟨q,q0⟩|⟨q,q2⟩
   ·have:mw=m':=by rw[hA,q] at hcur;rcases hcur with h|h<;>simpa [best] using h
    left
    rw[←this,q0]
    rfl
   ·have:mw=m':=by
     rw[hA,q] at hcur
     have h0:¬mw.version<mw.version:=by omega
     rcases hcur with h|h<;>simpa only [best,h0,if_false,Option.some.injEq] using h
    subst this
    right
    rw[show mw.version%2=(m.version+1)%2 by omega]
    exact q2
 ·exact .inl rfl
theorem Rest.first {X:Sto} {F:List UInt8→List UInt8} (h:Rest X F):X.m.version=0∨slotD X.S (X.m.version%2) 16=slotOf X.m:=by
 rcases h.slots with ⟨e,-⟩|⟨-,hs⟩
 ·exact .inl (by rw[e];rfl)
 ·right
  rw[slotD_stored h.on h.calm.pend h.calm.size (by omega) 16 (Nat.le_refl _)]
  exact hs _ (by omega)
def filesOf (m:ManD) (F:List UInt8→List UInt8):List FB:=m.files.map fun f=>(f.name,F f.name)
theorem FlIs.back {X:Sto} {F:List UInt8→List UInt8} {Y:Ply} {mb:List FB} {nx:ManD} {R:RefM} (h:FlIs X F Y mb nx R) (K T:Nat) (hall:∀b∈(backD K T X.S).stored,b.length=128) {Tl:Nat→Option ManD} {Z:Nat→Bool} (hT:∀k,k<2→Says (slotD (backD K T X.S) k 16) (Tl k)) (hZ:∀k,k<2→Z k=zeros (slotD (backD K T X.S) k 16))
 (hmix:∀k,k<2→mixB (slotD (backD K T X.S) k 16) (slotR R k 16) (slotOf nx) (Tl k)=false) :
 ∃m' F',((m'=Y.m∧filesOf m' F'=Y.hv)∨(m'=nx∧filesOf m' F'=mb))∧Aft (backD K T X.S) m' F'∧ansD (backD K T X.S) Tl Z=(m',0)∧(m'.version=0∨slotD (backD K T X.S) (m'.version%2) 16=slotOf m'):=by
 rcases h with ⟨h,hY⟩|⟨-,X0,m,h,hY,hn,hw,h0,rfl,rfl,rfl,rfl⟩
 ·have hr:=h.back K T
  exact ⟨X.m,F,.inl ⟨hY.m.symm,hY.hv.symm⟩,hr.aft rfl rfl,hr.ans hT hZ,hr.first⟩
 ·rcases putD_cases hn h.live.calm h.live.ok h.live.holds with ⟨-,hst,hpe⟩|⟨S,hP,e⟩
  ·have hr:=h.pages hst hpe K T
   exact ⟨X0.m,F,.inl ⟨hY.m.symm,hY.hv.symm⟩,hr.aft rfl rfl,hr.ans hT hZ,hr.first⟩
  ·have hb:backD K T ({X0 with S:=(putD X0 nx).1,broken:=true}:Sto).S=backD K T (wmD S nx 2).1:=by rw[←e]
   rw[hb] at hall hT hZ hmix ⊢
   have hbig:=h.live.ok.big
   have hmx:∀k,k<2→(Tl k).isSome=true→slotD (backD K T (wmD S nx 2).1) k 16=slotS X0.S.stored k 16∨slotD (backD K T (wmD S nx 2).1) k 16=slotOf nx:=fun k hk hs=>by
    rcases mixB_false (hmix k hk) hs with q|q
    ·left
     rw[q,slotR_mdl h.live.on (by omega) 16 (Nat.le_refl _)]
     exact slotD_stored h.live.on h.live.calm.pend h.live.calm.size (by omega) 16 (Nat.le_refl _)
    ·exact .inr q
   obtain ⟨m',F',hm,ha,hans⟩:=h.fell hn hw hP K T hall hT hZ hmx
   have hfit:=hn.2.2
   obtain ⟨h1,-⟩:=fall_slots hP.calm hfit K T
   rw[show slotS S.stored ((nx.version+1)%2) 16=slotS X0.S.stored ((nx.version+1)%2) 16 from slotS_eq (fun j _ _=>hP.slots j (by omega)) 16 (Nat.le_refl _)] at h1
   refine ⟨m',F',?_,ha,hans,fell_first (S:=X0.S) (by have:=ha.ok.big;exact this) rfl (h.slots.imp (fun q=>q) fun q=>⟨h.live.ok.fit,h.live.ok.wf,q.2⟩) h1 hn.ver hfit hw hT hmx hans⟩
   rcases hm with ⟨rfl,rfl⟩|⟨rfl,rfl⟩
   ·exact .inl ⟨hY.m.symm,hY.hv.symm⟩
   ·refine .inr ⟨rfl,?_⟩
    have:=(hY.commit hn X0.S false).hv
    exact this.symm
end Go.Proofs.YtiocpefgccndbaaGreat
end
section
namespace Go.Proofs.YtiocpefgccndbaaGreat
open Go.RowKit Me Mf Rw Ds Va Go.Maps
def Bq (w:World) (own:Nat→Prop) (b:Nat) (cs:List Value):Prop:=Blk w b cs∧¬own b
structure FlK (w W:World) (own0:Nat→Prop) (B G D j cn P M N:Nat) (own ownD:Nat→Prop) (X:Sto) (F:List UInt8→List UInt8) (Y:Ply) (mb:List FB) (nx:ManD) (R:RefM) (A8:Option Addr) (n8 c8:Nat) (A9:Option Addr) (n9 c9:Nat) (Am:Option Addr) (nm cm:Nat):Prop where
 is:FlIs X F Y mb nx R
 few:FewY Y j
 acts:N≤j
 hcn:X.S.stored.length=cn
 at_:PlayAt W B G P D M N X Y own ownD
 hmb:FbK own A8 n8 c8 mb W
 hnx:ManK own A9 n9 c9 nx W
 fit:Fit nx
 ref:RefAt W own R Am cm none 0
 made:R.made.length=nm
 most:nm≤32
 wait:R.wait.length=0
 le:∀i,(readR R i).length≤128
 val:R.count=cn∧R.off=false∧R.fuse=-1
 out:Out own0 w W
 new:∀k,own k→own0 k∨w.heap.size≤k
section
variable {w w' W W':World} {own0:Nat→Prop} {B G D j cn P M N N' H:Nat} {own ownD own' ownD':Nat→Prop} {X X':Sto} {F F':List UInt8→List UInt8} {Y Y':Ply} {mb mb':List FB} {nx nx':ManD} {R R':RefM} {A8:Option Addr} {n8 c8:Nat} {A9:Option Addr} {n9 c9:Nat} {Am:Option Addr} {nm cm:Nat} {cs cs':List Value}
theorem Bq.past (h:Bq w own H cs) (hb:Below w.heap.size w w'):Bq w' own H cs:=⟨h.1.past hb,h.2⟩
theorem Bq.next (h:Bq w own H cs) (ho:Out own w w') (hn:∀j,own' j→own j∨w.heap.size≤j):Bq w' own' H cs:=
 ⟨h.1.out ho h.2,fun hb=>by
   rcases hn H hb with h1|h1
   ·exact h.2 h1
   ·have:=h.1.lt;omega⟩
theorem Bq.other {H':Nat} (h:Bq w own H cs) (ho:Out (fun k=>k=H') w w') (hn:H≠H'):Bq w' own H cs:=⟨h.1.out ho hn,h.2⟩
theorem FewY.le {j j':Nat} (h:FewY Y j) (hj:j≤j'):FewY Y j':=by
 induction j' with
 |zero=>obtain rfl:j=0:=by omega
        exact h
 |succ k ih=>
  by_cases e:j=k+1
  ·rw[←e];exact h
  ·exact (ih (by omega)).more
theorem FlK.le' {j':Nat} (h:FlK w W own0 B G D j cn P M N own ownD X F Y mb nx R A8 n8 c8 A9 n9 c9 Am nm cm) (hj:j≤j'):FlK w W own0 B G D j' cn P M N own ownD X F Y mb nx R A8 n8 c8 A9 n9 c9 Am nm cm:=
 {h with few:=h.few.le hj,acts:=by have:=h.acts;omega}
theorem FlK.more {j':Nat} (h:FlK w W own0 B G D j cn P M N own ownD X F Y mb nx R A8 n8 c8 A9 n9 c9 Am nm cm) (hj:j'=j+1):FlK w W own0 B G D j' cn P M N own ownD X F Y mb nx R A8 n8 c8 A9 n9 c9 Am nm cm:=by
 subst hj
 exact {h with few:=h.few.more,acts:=by have:=h.acts;omega}
theorem FlK.past (h:FlK w W own0 B G D j cn P M N own ownD X F Y mb nx R A8 n8 c8 A9 n9 c9 Am nm cm) (hb:Below W.heap.size W W'):FlK w W' own0 B G D j cn P M N own ownD X F Y mb nx R A8 n8 c8 A9 n9 c9 Am nm cm:=
 {h with at_:=h.at_.past hb,hmb:=h.hmb.out (.of_below hb),hnx:=h.hnx.past hb,ref:=h.ref.past hb,out:=h.out.trans (.of_below hb)}
theorem FlK.changed (h:FlK w W own0 B G D j cn P M N own ownD X F Y mb nx R A8 n8 c8 A9 n9 c9 Am nm cm) (hs:Still X F) (hN:N'≤N+1) (hS:X'.S=X.S) (hm:X'.m=X.m) (hL:Live X' F) (hY:PlyOk X' F Y') (hj:FewY Y' (j+1)) (hp:PlayAt W' B G P D M N' X' Y' own' ownD') (ho:Out own W W') (hn:∀k,own' k→own k∨W.heap.size≤k) :
 FlK w W' own0 B G D (j+1) cn P M N' own' ownD' X' F Y' mb nx R A8 n8 c8 A9 n9 c9 Am nm cm where
 is:=.inl ⟨hs.change hS hm hL,hY⟩
 few:=hj
 acts:=by have:=h.acts;omega
 hcn:=by rw[hS];exact h.hcn
 at_:=hp
 hmb:=h.hmb.next ho hn
 hnx:=h.hnx.next ho hn
 fit:=h.fit
 ref:=h.ref.next ho hn
 made:=h.made
 most:=h.most
 wait:=h.wait
 le:=h.le
 val:=h.val
 out:=h.out.trans' ho h.new
 new:=fun k hk=>by
  rcases hn k hk with q|q
  ·exact h.new k q
  ·exact .inr (Nat.le_trans h.out.size q)
theorem FlK.commit {ok:Bool} {r:Int} (h:FlK w W own0 B G D j cn P M N own ownD X F Y mb nx R A8 n8 c8 A9 n9 c9 Am nm cm) (hs:Still X F) (hY:PlyOk X F Y) (hmb:Y.waits=true→∀m,NextIs X (namesF Y.now) m→mb=Y.now∧nx=m) (hR:R=mdlR X.S) (hc:CmtP X Y X' Y' ok r) (hp:PlayAt W' B G P D M N X' Y' own' ownD') (ho:Out own W W') (hn:∀k,own' k→own k∨W.heap.size≤k) :
 ok=true∧∃F',FlK w W' own0 B G D (j+1) cn P M N own' ownD' X' F' Y' mb nx R A8 n8 c8 A9 n9 c9 Am nm cm:=by
 obtain ⟨h1,h2,h3,F',h4⟩:=FlIs.cmt hs hY h.few hc hmb hR
 exact ⟨h1,F',⟨h4,h3,by have:=h.acts;omega,h2.trans h.hcn,hp,h.hmb.next ho hn,h.hnx.next ho hn,h.fit,h.ref.next ho hn,h.made,h.most,h.wait,h.le,h.val,h.out.trans' ho h.new,fun k hk=>by
  rcases hn k hk with q|q
  ·exact h.new k q
  ·exact .inr (Nat.le_trans h.out.size q)⟩⟩
theorem FlK.box (h:FlK w W own0 B G D j cn P M N own ownD X F Y mb nx R A8 n8 c8 A9 n9 c9 Am nm cm) (hc:Plain cs) (hm:ManBox H cs cs') (hH:¬own H) (hb:Blk W H cs) (hb':Blk W' H cs') (ho:Out (fun k=>k=H) W W') (hl:w.heap.size≤H):FlK w W' own0 B G D j cn P M N own ownD X F Y mb nx R A8 n8 c8 A9 n9 c9 Am nm cm:=
 {h with at_:=PlayAt.box' hc hm h.is.fit.1.2.2 h.at_ hH hb hb' ho,hmb:=h.hmb.box hc hH hb hb' ho,hnx:=ManK.box hm h.fit.1.2.2 h.hnx hH hb hb' ho,ref:=h.ref.pbox hc hb ho,out:=h.out.trans' ho fun k hk=>.inr (hk▸hl)}
theorem FlK.set (h:FlK w W own0 B G D j cn P M N own ownD X F Y mb nx R A8 n8 c8 A9 n9 c9 Am nm cm) (hs:Still X F) (hY:PlyOk X F Y) {A8' A9' Am':Option Addr} {n8' c8' n9' c9' nm' cm':Nat} (hmb:FbK own A8' n8' c8' mb' W) (hnx:ManK own A9' n9' c9' nx' W) (hf:Fit nx') (hr:RefAt W own R' Am' cm' none 0) (hm:R'.made.length=nm') (h32:nm'≤32) (hw:R'.wait.length=0) (hle:∀i,(readR R' i).length≤128) (hv:R'.count=cn∧R'.off=false∧R'.fuse=-1):FlK w W own0 B G D j cn P M N own ownD X F Y mb' nx' R' A8' n8' c8' A9' n9' c9' Am' nm' cm':=
 ⟨.inl ⟨hs,hY⟩,h.few,h.acts,h.hcn,h.at_,hmb,hnx,hf,hr,hm,h32,hw,hle,hv,h.out,h.new⟩
theorem ManBox.d (H:Nat) (x f:Int) (o o':Bool) (A:Option Addr) (n c:Nat) (A':Option Addr) (n' c':Nat) (v1 v2:Value):ManBox H [.int .i64 x,.bool o,.int .i64 f,.slice A n c,.slice A' n' c'] [.int .i64 x,.bool o',.int .i64 f,v1,v2]:=fun _ _ hb hb' ho _ _ _ _ _ h=>h.dboxq hb hb' ho
end
def PBx (W:World) (own:Nat→Prop) (G P D:Nat) (Y:Ply) (A1:Option Addr) (n1 c1:Nat) (A2:Option Addr) (n2 c2:Nat) (A3:Option Addr) (n3 c3:Nat) (A4:Option Addr) (n4 c4:Nat):Prop:=
 Blk W G [.pointer (some ⟨P,0,none⟩),.pointer (some ⟨D,0,none⟩),.int .u64 (Y.m.version:Int),.int .u32 (Y.m.next:Int),.slice A1 n1 c1,.slice A2 n2 c2,.slice A3 n3 c3,.slice A4 n4 c4,.bool Y.waits]∧ManK own A1 n1 c1 Y.m W∧FbK own A2 n2 c2 Y.hv W∧FbK own A3 n3 c3 Y.now W
section
variable {w W W':World} {own0 own ownD:Nat→Prop} {B G P D M N j cn H:Nat} {X:Sto} {F:List UInt8→List UInt8} {Y:Ply} {A1 A2 A3 A4:Option Addr} {n1 c1 n2 c2 n3 c3 n4 c4:Nat} {cs cs':List Value} {mb:List FB} {nx:ManD} {R:RefM} {A8:Option Addr} {n8 c8:Nat} {A9:Option Addr} {n9 c9:Nat} {Am:Option Addr} {nm cm:Nat}
theorem PlayAt.pbx (h:PlayAt W B G P D M N X Y own ownD):∃A1 n1 c1 A2 n2 c2 A3 n3 c3 A4 n4 c4,PBx W own G P D Y A1 n1 c1 A2 n2 c2 A3 n3 c3 A4 n4 c4:=by
 obtain ⟨A1,n1,c1,A2,n2,c2,A3,n3,c3,A4,n4,c4,h1,h2,h3,h4,-⟩:=h.box
 exact ⟨A1,n1,c1,A2,n2,c2,A3,n3,c3,A4,n4,c4,h1,h2,h3,h4⟩
theorem PBx.past (h:PBx W own G P D Y A1 n1 c1 A2 n2 c2 A3 n3 c3 A4 n4 c4) (hb:Below W.heap.size W W'):PBx W' own G P D Y A1 n1 c1 A2 n2 c2 A3 n3 c3 A4 n4 c4:=
 ⟨h.1.past hb,h.2.1.past hb,h.2.2.1.out (.of_below hb),h.2.2.2.out (.of_below hb)⟩
theorem PBx.box (h:PBx W own G P D Y A1 n1 c1 A2 n2 c2 A3 n3 c3 A4 n4 c4) (hc:Plain cs) (hm:ManBox H cs cs') (hy:Fit Y.m) (hG:own G) (hH:¬own H) (hb:Blk W H cs) (hb':Blk W' H cs') (ho:Out (fun k=>k=H) W W'):PBx W' own G P D Y A1 n1 c1 A2 n2 c2 A3 n3 c3 A4 n4 c4:=
 ⟨h.1.out ho fun e=>hH (e▸hG),ManK.box hm hy.1.2.2 h.2.1 hH hb hb' ho,h.2.2.1.box hc hH hb hb' ho,h.2.2.2.box hc hH hb hb' ho⟩
theorem slots_cn (h:FlK w W own0 B G D j cn P M N own ownD X F Y mb nx R A8 n8 c8 A9 n9 c9 Am nm cm) (hs:Still X F):Calls Tryz.prog 26 #[.pointer (some ⟨D,0,none⟩)] W fun e w5=>Below W.heap.size W w5∧∃Am nm cm,e=.returned (.agg #[.int .i64 (cn:Int),.bool false,.int .i64 (-1),.slice Am nm cm,.slice none 0 0])∧(mdlR X.S).made.length=nm∧nm≤32∧RefAt w5 own (mdlR X.S) Am cm none 0:=by
 have hbig:=hs.live.ok.big
 refine (slots_on (ownQ:=own) h.at_.st.disk (fun k hk=>(h.at_.st.lt hk).2) (show X.S.pend.length<4611686018427387904 by rw[hs.live.calm.pend];show 0<_;omega) hs.live.on (by omega)).mono ?_
 rintro e w5 ⟨hb5,Am,nm,cm,rfl,q1,q2,q3⟩
 refine ⟨hb5,Am,nm,cm,?_,q1,q2,q3⟩
 rw[←h.hcn]
 rfl
end
def FpPost (w:World) (own:Nat→Prop) (B G D cn n:Nat) (e:Ending) (w':World):Prop:=
 ∃P M N own' ownD X F Y mb nx R A8 n8 c8 A9 n9 c9 Am nm cm,e=.returned (.tuple #[.slice A8 n8 c8,mval nx.version nx.next A9 n9 c9,.agg #[.int .i64 (cn:Int),.bool false,.int .i64 (-1),.slice Am nm cm,.slice none 0 0],.bool true]) ∧
  FlK w w' own B G D n cn P M N own' ownD X F Y mb nx R A8 n8 c8 A9 n9 c9 Am nm cm
end Go.Proofs.YtiocpefgccndbaaGreat
end
section
namespace Go.Proofs.YtiocpefgccndbaaGreat
open Go.RowKit Me Mf Rw Ds Va Go.Maps
def fpG (G D L:Nat) (own:Nat→Prop) (A2:Option Addr) (n2 c2:Nat) (mv:Value) (cn:Nat) (R:RefM):Gw.Fact:=fun t v w=>
 match t with
 |0|16|17|20|21|24|25=>v=.pointer (some ⟨G,0,none⟩)
 |18=>v=.pointer (some ⟨G,5,none⟩)
 |19|8=>v=.slice A2 n2 c2
 |22=>v=.pointer (some ⟨G,2,none⟩)
 |23=>v=mv
 |26=>v=.pointer (some ⟨G,1,none⟩)
 |27=>v=.pointer (some ⟨D,0,none⟩)
 |28=>∃Am nm cm,v=.agg #[.int .i64 (cn:Int),.bool false,.int .i64 (-1),.slice Am nm cm,.slice none 0 0]∧R.made.length=nm∧nm≤32∧RefAt w own R Am cm none 0
 |9=>∃b,v=.pointer (some ⟨b,0,none⟩)∧L≤b∧Blk w b [.int .u64 0,.int .u32 0,.slice none 0 0]
 |10=>∃b,v=.pointer (some ⟨b,0,none⟩)∧L≤b∧Blk w b [.int .i64 0,.bool false,.int .i64 0,.slice none 0 0,.slice none 0 0]
 |_=>True
def enG (L b9 b10:Nat) (v8 v9 v10:Value):Gw.Fact:=fun t v _=>
 match t with
 |8|112|4=>v=v8
 |9=>v=.pointer (some ⟨b9,0,none⟩)
 |10=>v=.pointer (some ⟨b10,0,none⟩)
 |5=>v=.pointer (some ⟨L,0,none⟩)
 |6=>v=.pointer (some ⟨L+1,0,none⟩)
 |113=>v=v9
 |114=>v=v10
 |7=>v=.bool true
 |_=>True
def enI (w:World) (own0:Nat→Prop) (B G D j cn P M N:Nat) (own ownD:Nat→Prop) (X:Sto) (F:List UInt8→List UInt8) (Y:Ply) (mb:List FB) (nx:ManD) (R:RefM) (A8:Option Addr) (n8 c8:Nat) (A9:Option Addr) (n9 c9:Nat) (Am:Option Addr) (nm cm p:Nat) (W:World):Prop:=
 FlK w W own0 B G D j cn P M N own ownD X F Y mb nx R A8 n8 c8 A9 n9 c9 Am nm cm ∧
  Blk W w.heap.size (if p=0 then [.int .u64 0,.int .u32 0,.slice none 0 0] else [.int .u64 (nx.version:Int),.int .u32 (nx.next:Int),.slice A9 n9 c9]) ∧
  Blk W (w.heap.size+1) (if p≤1 then [.int .i64 0,.bool false,.int .i64 0,.slice none 0 0,.slice none 0 0] else [.int .i64 (cn:Int),.bool false,.int .i64 (-1),.slice Am nm cm,.slice none 0 0])
theorem m_size':(Tryz.prog.info? 38).map (·.size)=some 3:=by kernel_rfl
theorem m_one' (v x:Int) (A:Option Addr) (n c:Nat):(#[.int .u64 v,.int .u32 x,.slice A n c]:Array Value).all (·.oneCell')=true:=by simp[Value.oneCell']
def fsG (G:Nat) (A2:Option Addr) (n2 c2:Nat) (mv:Value):Gw.Fact:=fun t v _=>
 match t with
 |0|77|78|81|82=>v=.pointer (some ⟨G,0,none⟩)
 |79=>v=.pointer (some ⟨G,5,none⟩)
 |80|8=>v=.slice A2 n2 c2
 |83=>v=.pointer (some ⟨G,2,none⟩)
 |84=>v=mv
 |_=>True
def ftG (G H12:Nat) (A3:Option Addr) (n3 c3:Nat) (mv:Value):Gw.Fact:=fun t v _=>
 match t with
 |0|97|98=>v=.pointer (some ⟨G,0,none⟩)
 |99=>v=.pointer (some ⟨G,6,none⟩)
 |100|8=>v=.slice A3 n3 c3
 |12=>v=.pointer (some ⟨H12,0,none⟩)
 |101=>v=mv
 |_=>True
def FlR (w:World) (own0:Nat→Prop) (B G D cn H5 b9 b10 j:Nat) (A8:Option Addr) (n8 c8:Nat) (W:World):Prop:=
 ∃P M N own ownD X F Y mb nx R A9 n9 c9 Am nm cm,FlK w W own0 B G D j cn P M N own ownD X F Y mb nx R A8 n8 c8 A9 n9 c9 Am nm cm ∧
  Bq W own H5 [.int .u64 0,.int .u32 0,.slice none 0 0]∧Bq W own (H5+1) [.int .i64 0,.bool false,.int .i64 0,.slice none 0 0,.slice none 0 0] ∧
  Bq W own b9 [.int .u64 (nx.version:Int),.int .u32 (nx.next:Int),.slice A9 n9 c9]∧Bq W own b10 [.int .i64 (cn:Int),.bool false,.int .i64 (-1),.slice Am nm cm,.slice none 0 0]
set_option maxRecDepth 100000 in
set_option maxHeartbeats 8000000 in
theorem falls_any {w:World} {B G P D M N n c:Nat} {X:Sto} {F:List UInt8→List UInt8} {Y:Ply} {own ownD:Nat→Prop} {A:Option Addr} {acts:List AS} (h:PlayAt w B G P D M N X Y own ownD) (hN:N=0) (hs:Still X F) (hY:PlyOk X F Y) (hj:FewY Y 0) (hl:acts.length=n) (hn:n≤60) (ha:SActs w B A acts) (h4:∀p∈acts,p.b.length≤1000∧p.name.length≤100) :
 Calls Tryz.prog 22 #[.pointer (some ⟨G,0,none⟩),.slice A n c] w (FpPost w own B G D X.S.stored.length n):=by
 subst hN
 obtain ⟨cn,hcn⟩:∃cn,cn=X.S.stored.length:=⟨_,rfl⟩
 obtain ⟨H5,hH5⟩:∃H5,H5=w.heap.size:=⟨_,rfl⟩
 obtain ⟨w0,hw0⟩:∃w0,w0=w.alloc (.cells #[.int .u64 0,.int .u32 0,.slice none 0 0] 38):=⟨_,rfl⟩
 obtain ⟨w1,hw1⟩:∃w1,w1=w0.alloc (.cells #[.int .i64 0,.bool false,.int .i64 0,.slice none 0 0,.slice none 0 0] 59):=⟨_,rfl⟩
 have hs0:w0.heap.size=H5+1:=by rw[hw0,hH5];simp
 have hb0:Below w.heap.size w w0:=by rw[hw0];exact (Below.refl _ _).alloc (Nat.le_refl _) _
 have hb1:Below w0.heap.size w0 w1:=by rw[hw1];exact (Below.refl _ _).alloc (Nat.le_refl _) _
 have hB1:=hb0.trans (hb1.mono hb0.size)
 have hown:∀k,own k→k<H5:=fun k hk=>by have:=(h.st.lt hk).2;omega
 have Q5:=Lib.hid (show Bq w1 own H5 [.int .u64 0,.int .u32 0,.slice none 0 0] from ⟨by
  have:Blk w0 w.heap.size [.int .u64 0,.int .u32 0,.slice none 0 0]:=by rw[hw0];exact Blk.new w [.int .u64 0,.int .u32 0,.slice none 0 0] _
  rw[hH5];exact this.past hb1,fun e=>by have:=hown _ e;omega⟩)
 have Q6:=Lib.hid (show Bq w1 own (H5+1) [.int .i64 0,.bool false,.int .i64 0,.slice none 0 0,.slice none 0 0] from ⟨by
  rw[hw1];exact Blk.new' w0 [.int .i64 0,.bool false,.int .i64 0,.slice none 0 0,.slice none 0 0] _ hs0,fun e=>by have:=hown _ e;omega⟩)
 have HW1:=Lib.hid (show w1=_ from hw0▸hw1)
 have HH5:=Lib.hid hH5
 have hP1:=h.past hB1
 obtain ⟨A0,n0,c0,A2,n2,c2,A3,n3,c3,A5,n5,c5,h1,h2,h3,-⟩:=h.box
 have BX1:=Lib.hid (h1.past hB1)
 have FB0:=Lib.hid h3
 have MK0:=Lib.hid h2
 have HP1:=Lib.hid hP1
 have HP:=Lib.hid h
 have HP0:=Lib.hid h
 have HP0:=Lib.hid h
 have HP0:=Lib.hid h
 have HP0:=Lib.hid h
 have HP0:=Lib.hid h
 have HP0:=Lib.hid h
 have HP0:=Lib.hid h
 have HP0:=Lib.hid h
 have HP0:=Lib.hid h
 have HP0:=Lib.hid h
 have HP0:=Lib.hid h
 have HS:=Lib.hid hs
 have HY:=Lib.hid hY
 have HJ:=Lib.hid hj
 have HL:=Lib.hid hl
 have HA:=Lib.hid ha
 have HF4:=Lib.hid h4
 have HCN:=Lib.hid hcn
 have HB1:=Lib.hid hB1
 have HOL:=Lib.hid hown
 have hsz1:w1.heap.size=H5+1+1:=by rw[hw1,←hs0];simp
 have HSZ:=Lib.hid hsz1
 have HLO:=Lib.hid (show B≤w.heap.size by have:=h.st.lt h.g.1;omega)
 have HSL:=Lib.hid (fun (W:World) (hb:Below w1.heap.size w1 W)=>slots_on (ownQ:=own) (hP1.past hb).st.disk (fun k hk=>((hP1.past hb).st.lt hk).2) (show X.S.pend.length<4611686018427387904 by rw[hs.live.calm.pend];show 0<_;omega) hs.live.on (by have:=hs.live.ok.big;omega))
 rw[←hcn]
 clear h hs hY hj hl ha h4 hcn hw0 hw1 hH5 hb0 hb1 hB1 hown hP1 h1 h2 h3 hs0 hsz1
 go_enter Tryz.func22,Tryz.ntmps22
 go_upto_region 1 with fail
 rw[←HW1.out,←HH5.out]
 obtain ⟨ver,hver⟩:∃v,v=Y.m.version:=⟨_,rfl⟩
 obtain ⟨nx0,hnx0⟩:∃v,v=Y.m.next:=⟨_,rfl⟩
 have HVN:=Lib.hid (And.intro hver hnx0)
 rw[←hver,←hnx0] at BX1
 clear HW1 hver hnx0
 refine wp_region_tl 16 (fpG G D (H5+1+1) own A2 n2 c2 (mval ver nx0 A0 n0 c0) cn (mdlR X.S)) [16,17,18,19,20,21,22,23,24,25,26,27,28,9,10,8] [([0],none),([16],none),([17],none),([18],none),([0],none),([20],none),([21],none),([22],none),([0],none),([24],none),([25],none),([26],none),([27],none),([],none),([],none),([19],none)] 115 (by kernel_rfl) (by kernel_rfl) rfl ?h0 ?hreq rfl ?hend
 case h0=>
  intro t W hnd _
  unfold fpG
  split<;>first|(exfalso;apply hnd;decide)|rfl|trivial
 case hreq=>
  refine ⟨?_,?_,?_,?_,?_,?_,?_,?_,?_,?_,?_,?_,?_,?_,?_,?_,trivial⟩
  all_goals
   intro ac W hg hk
   have hg':Below w1.heap.size w1 W:=hg
   have b:=BX1.out.past hg'
   have k1:=b.cell (i:=1) rfl
   have k2:=b.cell (i:=2) rfl
   have k3:=b.cell (i:=3) rfl
   have k4:=b.cell (i:=4) rfl
   have k5:=b.cell (i:=5) rfl
   simp only[Gw.Knows,fpG] at hk
   try (simp[go_sem,Gw.OpReq,Gw.Ok,Gw.Post,Gw.Holds,fpG,Gw.Grows.refl,hk,k1,k2,k3,k4,k5,mval];done)
  ·simp[go_sem,Gw.OpReq,Gw.Ok,Gw.Post,Gw.Holds,fpG,Gw.Grows.refl,hk]
   refine (HSL.out W hg').mono ?_
   rintro e w5 ⟨hb5,Am,nm,cm,rfl,q1,q2,q3⟩
   refine ⟨_,rfl,hb5,fun W2 hW2=>⟨Am,nm,cm,?_,q1,q2,q3.past hW2⟩⟩
   rw[HCN.out]
   rfl
  ·simp[go_sem,Gw.OpReq,Gw.Ok,Gw.Post,Gw.Holds,fpG,Gw.Grows.refl]
   exact ⟨(Below.refl _ _).alloc (Nat.le_refl _) _,fun W2 h2=>⟨by have:=HSZ.out;have:=hg'.size;omega,(Blk.new W [.int .u64 0,.int .u32 0,.slice none 0 0] _).past h2⟩⟩
  ·simp[go_sem,Gw.OpReq,Gw.Ok,Gw.Post,Gw.Holds,fpG,Gw.Grows.refl]
   exact ⟨(Below.refl _ _).alloc (Nat.le_refl _) _,fun W2 h2=>⟨by have:=HSZ.out;have:=hg'.size;omega,(Blk.new W [.int .i64 0,.bool false,.int .i64 0,.slice none 0 0,.slice none 0 0] _).past h2⟩⟩
 case hend=>
  intro x w2 hg hx
  have hb2:Below w1.heap.size w1 w2:=hg
  obtain ⟨b9,e9,hl9,hk9⟩:∃b,x 9=.pointer (some ⟨b,0,none⟩)∧H5+1+1≤b∧Blk w2 b [.int .u64 0,.int .u32 0,.slice none 0 0]:=(hx 9 (by simp)).now
  obtain ⟨b10,e10,hl10,hk10⟩:∃b,x 10=.pointer (some ⟨b,0,none⟩)∧H5+1+1≤b∧Blk w2 b [.int .i64 0,.bool false,.int .i64 0,.slice none 0 0,.slice none 0 0]:=(hx 10 (by simp)).now
  obtain ⟨Am,nm,cm,e28,r1,r2,r3⟩:∃Am nm cm,x 28=.agg #[.int .i64 (cn:Int),.bool false,.int .i64 (-1),.slice Am nm cm,.slice none 0 0]∧(mdlR X.S).made.length=nm∧nm≤32∧RefAt w2 own (mdlR X.S) Am cm none 0:=(hx 28 (by simp)).now
  have e8:x 8=.slice A2 n2 c2:=(hx 8 (by simp)).now
  have e23:x 23=mval ver nx0 A0 n0 c0:=(hx 23 (by simp)).now
  simp only[Gw.putAll,Act.put,List.setIfInBounds_toArray,List.set_cons_zero,List.set_cons_succ]
  rw[e8,e9,e10,e23,e28]
  have hne:b10≠b9:=fun e=>by
   have q1:=hk9.cell (i:=0) rfl
   rw[←e,hk10.cell (i:=0) rfl] at q1
   simp at q1
  refine tl_store 38 _ _ rfl b9 _ #[.int .u64 (ver:Int),.int .u32 (nx0:Int),.slice A0 n0 c0] rfl rfl hk9 rfl m_size' (m_one' _ _ _ _ _) ?_
  intro w3 hb3 ho3
  refine tl_store 59 _ _ rfl b10 _ #[.int .i64 (cn:Int),.bool false,.int .i64 (-1),.slice Am nm cm,.slice none 0 0] rfl rfl (hk10.out ho3 hne) rfl d_size' (d_one' _ _ _ _ _ _ _ _ _) ?_
  intro w4 hb4 ho4
  refine tl_nil ?_
  simp only[Act.put]
  have hw1:=HSZ.out
  have hw5:=HH5.out
  have hs12:=hb2.size
  have hs23:=ho3.size
  have hBw4:Below w.heap.size w w4:=(HB1.out.trans (hb2.mono HB1.out.size)).trans ((ho3.below (fun k _ hk=>by omega) (by omega)).trans (ho4.below (fun k _ hk=>by omega) (by omega)))
  have R4:=Lib.hid (show FlR w own B G D cn H5 b9 b10 0 A2 n2 c2 w4 from
   ⟨P,M,0,own,ownD,X,F,Y,Y.hv,Y.m,mdlR X.S,A0,n0,c0,Am,nm,cm,
     ⟨.inl ⟨HS.out,HY.out⟩,HJ.out,Nat.le_refl _,HCN.out.symm,HP.out.past hBw4,FB0.out.out (.of_below hBw4),MK0.out.past hBw4,by rw[HY.out.m];exact HS.out.live.ok.fit,(r3.pbox (plain_m _ _ _ _ _) hk9 ho3).pbox (plain_d _ _ _ _ _ _ _ _ _) (hk10.out ho3 hne) ho4,r1,r2,rfl,readR_mdl_le HP.out.st.disk.good,⟨HCN.out.symm,rfl,rfl⟩,.of_below hBw4,fun k hk=>.inl hk⟩,
     ((Q5.out.past hb2).other ho3 (by omega)).other ho4 (by omega),((Q6.out.past hb2).other ho3 (by omega)).other ho4 (by omega),
     ⟨by rw[←HVN.out.1,←HVN.out.2];exact hb3.out ho4 (Ne.symm hne),fun e=>by have:=HOL.out _ e;omega⟩,⟨hb4,fun e=>by have:=HOL.out _ e;omega⟩⟩)
  have HLO9:=Lib.hid (show w.heap.size+1+1≤b9 by omega)
  have HLO10:=Lib.hid (show w.heap.size+1+1≤b10 by omega)
  clear hx hg hb2 e9 e10 e28 e8 e23 hk9 hk10 r1 r2 r3 hb3 ho3 hb4 ho4 hw1 hs12 hs23 hBw4 HSL HP1 BX1 FB0 MK0 HP HS HY HJ Q5 Q6 hl9 hl10 HVN hw5
  go_wp2_with fail
  go_loopw [8,11] (fun mv iv wr=>∃(j:Nat) (A8:Option Addr) (n8 c8:Nat),mv=.slice A8 n8 c8∧iv=.int .i64 (j:Int)∧j≤n∧Hid (FlR w own B G D cn H5 b9 b10 j A8 n8 c8 wr)) (fun _ iv _=>n-(intOf iv).toNat)
  case atStart=>exact ⟨0,A2,n2,c2,rfl,rfl,Nat.zero_le _,R4⟩
  case round=>
   clear R4
   obtain ⟨j,A8,n8,c8,rfl,rfl,hjn,HR⟩:=hrel
   obtain ⟨P,M,N,own',ownD',X',F',Y',mb,nx,R,A9,n9,c9,Am,nm,cm,hk,q5,q6,q9,q10⟩:=HR.out
   have HK:=Lib.hid hk
   have Q5:=Lib.hid q5
   have Q6:=Lib.hid q6
   have Q9:=Lib.hid q9
   have Q10:=Lib.hid q10
   obtain ⟨A1,n1,c1,A2,n2,c2,A3,n3,c3,A4,n4,c4,g1,g2,g3,g4,g5,g6⟩:=hk.at_.box
   have k1:=g1.cell (i:=1) rfl
   have BX:=Lib.hid g1
   have G2:=Lib.hid g2
   have G3:=Lib.hid g3
   have G4:=Lib.hid g4
   have HON:=Lib.hid (on_any hk.at_.st.disk)
   obtain ⟨on,hon⟩:∃on,on=X'.S.on:=⟨_,rfl⟩
   rw[←hon] at HON
   have HO:=Lib.hid hon
   clear hk q5 q6 q9 q10 g1 g2 g3 g4 g5 g6 hon HR
   by_cases hlt:j<n
   ·have hlt':(j:Int)<(n:Int):=by omega
    cases on with
    |false=>
     go_upto_region 17 with (go_at_call 48;refine HON.out.mono ?_;rintro e w' ⟨rfl,rfl⟩)
     have e5:=HH5.out
     subst e5
     have hq9:=HLO9.out
     have hq10:=HLO10.out
     refine Gw.wp_region_phase (Out (fun k=>k=w.heap.size∨k=w.heap.size+1)) (Out.refl _) (fun _ _ _=>Out.trans) (enI w own B G D j cn P M N own' ownD' X' F' Y' mb nx R A8 n8 c8 A9 n9 c9 Am nm cm) (enG w.heap.size b9 b10 (.slice A8 n8 c8) (mval nx.version nx.next A9 n9 c9) (.agg #[.int .i64 (cn:Int),.bool false,.int .i64 (-1),.slice Am nm cm,.slice none 0 0])) [4,5] [112,113,114,4,7] [([8],none,[0],false),([9],none,[0],false),([10],none,[0,1],false),([112],none,[0],false),([5,113],none,[0],true),([6,114],none,[1],true),([],none,[2],false)] 115 2 (by kernel_rfl) (by kernel_rfl) rfl (out_drew _ _) ?hI ?h0 ?hreq ?hend
     case hI=>
      refine ⟨HK.out.past (Below.refl _ _).drew,?_,?_⟩
      ·rw[if_pos rfl];exact Q5.out.1.drew
      ·rw[if_pos (by omega)];exact Q6.out.1.drew
     case h0=>
      intro t W hnd _
      unfold enG
      split<;>first|(exfalso;apply hnd;decide)|rfl|trivial
     case hreq=>
      refine ⟨⟨?_,trivial⟩,⟨?_,trivial⟩,⟨?_,?_,trivial⟩,⟨?_,trivial⟩,⟨?_,trivial⟩,⟨?_,trivial⟩,⟨?_,trivial⟩,trivial⟩
      all_goals
       intro ac W hR hI hk
       have z9:=Q9.out.1.out hR (by omega)
       have z10:=Q10.out.1.out hR (by omega)
       have y0:=z9.cell (i:=0) rfl
       have y1:=z9.cell (i:=1) rfl
       have y2:=z9.cell (i:=2) rfl
       obtain ⟨k0,k1,k2,k3,k4⟩:=z10.five
       simp only[Gw.Knows,enG] at hk
       try (simp[go_sem,Gw.POpReq,Gw.OkP,Gw.PPost,Gw.HoldsR,enG,Out.refl,hk,hI,y0,y1,y2,k0,k1,k2,k3,k4,mval];done)
      ·obtain ⟨i1,i2,i3⟩:=hI
       rw[if_pos rfl] at i2
       obtain ⟨w',hrun,h2,h3⟩:=run_store_blk (P:=Tryz.prog) (w:=W) (b:=w.heap.size) (ty:=38) (vs:=#[.int .u64 (nx.version:Int),.int .u32 (nx.next:Int),.slice A9 n9 c9]) i2 rfl m_size' (m_one' _ _ _ _ _)
       exact Gw.ok_store rfl ((Gw.eval_slot ac 5).trans hk.1) ((Gw.eval_slot ac 113).trans hk.2.1) hrun ⟨h3.more fun k _ h=>.inl h,⟨i1.box (plain_m _ _ _ _ _) (ManBox.m _ _ _ _ _ _ _) Q5.out.2 i2 h2 h3 (Nat.le_refl _),by rw[if_neg (by decide)];exact h2,by rw[if_pos (by omega)] at i3;rw[if_pos (by decide)];exact i3.out h3 (by omega)⟩,trivial⟩
      ·obtain ⟨i1,i2,i3⟩:=hI
       rw[if_pos (by omega)] at i3
       obtain ⟨w',hrun,h2,h3⟩:=run_store_blk (P:=Tryz.prog) (w:=W) (b:=w.heap.size+1) (ty:=59) (vs:=#[.int .i64 (cn:Int),.bool false,.int .i64 (-1),.slice Am nm cm,.slice none 0 0]) i3 rfl d_size' (d_one' _ _ _ _ _ _ _ _ _)
       exact Gw.ok_store rfl ((Gw.eval_slot ac 6).trans hk.1) ((Gw.eval_slot ac 114).trans hk.2.1) hrun ⟨h3.more fun k _ h=>.inr h,⟨i1.box (plain_d _ _ _ _ _ _ _ _ _) (ManBox.z _ _ _ _ _ _ _ _) Q6.out.2 i3 h2 h3 (by omega),by rw[if_neg (by omega)] at i2;rw[if_neg (by decide)];exact i2.out h3 (by omega),by rw[if_neg (by decide)];exact h2⟩,trivial⟩
     case hend=>
      intro x' w9 hR hI hx'
      have e4:x' 4=.slice A8 n8 c8:=(hx' 4 (by simp)) w9 (Out.refl _ _)
      have e7:x' 7=.bool true:=(hx' 7 (by simp)) w9 (Out.refl _ _)
      have HI:=Lib.hid hI
      clear hx' hI hR
      simp only[Gw.putAll,Act.put,List.setIfInBounds_toArray,List.set_cons_zero,List.set_cons_succ]
      rw[e4,e7]
      go_wp2
      obtain ⟨i1,i2,i3⟩:=HI.out
      rw[if_neg (by omega)] at i2 i3
      have y0:=i2.cell (i:=0) rfl
      have y1:=i2.cell (i:=1) rfl
      have y2:=i2.cell (i:=2) rfl
      obtain ⟨k0,k1,k2,k3,k4⟩:=i3.five
      refine bodyPost_ret (v:=.tuple #[.slice A8 n8 c8,mval nx.version nx.next A9 n9 c9,.agg #[.int .i64 (cn:Int),.bool false,.int .i64 (-1),.slice Am nm cm,.slice none 0 0],.bool true]) (by simp[results,Tryz.results22,go_sem,y0,y1,y2,k0,k1,k2,k3,k4,mval]) rfl ?_
      exact ⟨P,M,N,own',ownD',X',F',Y',mb,nx,R,A8,n8,c8,A9,n9,c9,Am,nm,cm,rfl,i1.le' hjn⟩
    |true=>
     obtain ⟨a,p,rfl,hab,hp,B2,m2,d2,g0,g1,g2,q1,q2,q3,q4⟩:=HA.out.at (i:=j) (by rw[HL.out];exact hlt)
     have hpl:=HF4.out p (List.mem_of_getElem? hp)
     have hBW:Below B w wr:=HK.out.out.below (fun k _ hk=>(HP0.out.st.lt hk).1) HLO.out
     have habk:(a.add (j*3)).block<B:=by rw[block_add];exact hab
     replace g0:=(hBW.cell habk).trans g0
     replace g1:=(hBW.cell (p:=⟨(a.add (j*3)).block,(a.add (j*3)).off+1,none⟩) habk).trans g1
     replace g2:=(hBW.cell (p:=⟨(a.add (j*3)).block,(a.add (j*3)).off+2,none⟩) habk).trans g2
     obtain ⟨hst,hpy⟩:=HK.out.is.live HO.out.symm
     have HST:=Lib.hid hst
     have HPY:=Lib.hid hpy
     obtain ⟨z,hz⟩:∃z,z=p.kind:=⟨_,rfl⟩
     have HCH:=Lib.hid (changes_any HK.out.at_ hst.live hpy HK.out.few (by omega) (by have:=HK.out.acts;omega) z p.name (by have:=hpl.2;omega) B2 m2 d2 p.b q1 (by have:=hpl.1;omega) ((q4.below hBW).more (by have:=HLO.out;have:=HK.out.out.size;omega)))
     obtain ⟨nm',hnm⟩:∃k,k=p.name:=⟨_,rfl⟩
     rw[←hnm] at HCH g1
     rw[←hz] at g0
     clear hp hpl q1 q2 q3 q4 habk hab hnm hz hst hpy hBW
     by_cases hz0:z<0∨4<z
     ·obtain ⟨d0,hd0⟩:∃d,decide (z<0)=d:=⟨_,rfl⟩
      have HNX:=Lib.hid (show FlR w own B G D cn H5 b9 b10 (j+1) A8 n8 c8 wr from ⟨P,M,N,own',ownD',X',F',Y',mb,nx,R,A9,n9,c9,Am,nm,cm,HK.out.more rfl,Q5.out,Q6.out,Q9.out,Q10.out⟩)
      have hd1:d0=false→decide (4<z)=true:=fun e=>by rw[e] at hd0;simp at hd0 ⊢;omega
      clear hz0 HCH
      cases d0 with
      |true=>
       go_wp2_with (go_at_call 48;refine HON.out.mono ?_;rintro e w' ⟨rfl,rfl⟩)
       go_roundw
       case rel=>exact ⟨j+1,A8,n8,c8,rfl,by go_num,hlt,HNX⟩
       case measure=>simp[intOf];omega
      |false=>
       have hd2:=hd1 rfl
       clear hd1
       go_wp2_with (go_at_call 48;refine HON.out.mono ?_;rintro e w' ⟨rfl,rfl⟩)
       go_roundw
       case rel=>exact ⟨j+1,A8,n8,c8,rfl,by go_num,hlt,HNX⟩
       case measure=>simp[intOf];omega
     ·by_cases hz3:z=3
      ·subst hz3
       clear HCH g1 g2
       have HSL:=Lib.hid (slots_cn HK.out HST.out)
       obtain ⟨A1,n1,c1,A2,n2,c2,A3,n3,c3,A4,n4,c4,hpb⟩:=HK.out.at_.pbx
       have k1:=hpb.1.cell (i:=1) rfl
       have PB:=Lib.hid hpb
       clear hpb
       go_upto_region 9 with (go_at_call 48;refine HON.out.mono ?_;rintro e w' ⟨rfl,rfl⟩)
       go_wp2_with fail
       refine HSL.out.mono ?_
       rintro e w5 ⟨hb5,Am5,nm5,cm5,rfl,r1,r2,r3⟩
       have HB5:=Lib.hid hb5
       have HR5:=Lib.hid (And.intro r1 (And.intro r2 r3))
       clear hb5 r1 r2 r3 k1 HSL
       go_upto_region 10 with (refine wpList_store_blk rfl 59 _ _ rfl b10 _ #[.int .i64 (cn:Int),.bool false,.int .i64 (-1),.slice Am5 nm5 cm5,.slice none 0 0] rfl rfl (Q10.out.1.past HB5.out) rfl d_size' (d_one' _ _ _ _ _ _ _ _ _) ?_;intro w6 hb6 ho6;have HB6:=Lib.hid hb6;have HO6:=Lib.hid ho6;clear hb6 ho6)
       have hq9:=HLO9.out
       have hq10:=HLO10.out
       have hne':b9≠b10:=fun e=>hne e.symm
       have hG':=HK.out.at_.g.1
       have hfy:=HK.out.is.fit
       have m10:=ManBox.d b10 (cn:Int) (-1) false false Am nm cm none 0 0 (.slice Am5 nm5 cm5) (.slice none 0 0)
       have K6:=Lib.hid ((HK.out.past HB5.out).box (plain_d _ _ _ _ _ _ _ _ _) m10 Q10.out.2 (Q10.out.1.past HB5.out) HB6.out HO6.out (by omega))
       have P6:=Lib.hid ((PB.out.past HB5.out).box (plain_d _ _ _ _ _ _ _ _ _) m10 hfy hG' Q10.out.2 (Q10.out.1.past HB5.out) HB6.out HO6.out)
       have R6:=Lib.hid (HR5.out.2.2.pbox (plain_d _ _ _ _ _ _ _ _ _) (Q10.out.1.past HB5.out) HO6.out)
       have hn5:H5≠b9∧H5≠b10∧H5+1≠b9∧H5+1≠b10:=by have:=HH5.out;omega
       have Q5a:=Lib.hid ((Q5.out.past HB5.out).other HO6.out hn5.2.1)
       have Q6a:=Lib.hid ((Q6.out.past HB5.out).other HO6.out hn5.2.2.2)
       have Q9a:=Lib.hid ((Q9.out.past HB5.out).other HO6.out hne')
       have Q10a:=Lib.hid (show Bq w6 own' b10 [.int .i64 (cn:Int),.bool false,.int .i64 (-1),.slice Am5 nm5 cm5,.slice none 0 0] from ⟨HB6.out,Q10.out.2⟩)
       have HN5:=Lib.hid hn5
       have HNE:=Lib.hid hne'
       have HGY:=Lib.hid (And.intro hG' hfy)
       obtain ⟨mv,hmv⟩:∃v,v=Y'.m.version:=⟨_,rfl⟩
       obtain ⟨mn,hmn⟩:∃v,v=Y'.m.next:=⟨_,rfl⟩
       obtain ⟨wt,hwt⟩:∃v,v=Y'.waits:=⟨_,rfl⟩
       have HWT:=Lib.hid hwt
       clear hq9 hq10 hne' hG' hfy m10 hn5 HK PB Q5 Q6 Q9 Q10 HB5 HB6 HO6
       refine wp_region_tl 9 (fsG G A2 n2 c2 (mval mv mn A1 n1 c1)) [77,78,79,80,81,82,83,84,8] [([0],none),([77],none),([78],none),([79],none),([0],none),([81],none),([82],none),([83],none),([80],none)] 115 (by kernel_rfl) (by kernel_rfl) rfl ?h0 ?hreq rfl ?hend
       case h0=>
        intro t W hnd _
        unfold fsG
        split<;>first|(exfalso;apply hnd;decide)|rfl|trivial
       case hreq=>
        refine ⟨?_,?_,?_,?_,?_,?_,?_,?_,?_,trivial⟩
        all_goals
         intro ac W hg hk
         have b:=P6.out.1.past (show Below w6.heap.size w6 W from hg)
         have e2:=b.cell (i:=2) rfl
         have e3:=b.cell (i:=3) rfl
         have e4:=b.cell (i:=4) rfl
         have e5:=b.cell (i:=5) rfl
         rw[←hmv] at e2
         rw[←hmn] at e3
         simp only[Gw.Knows,fsG] at hk
         simp[go_sem,Gw.OpReq,Gw.Ok,Gw.Post,Gw.Holds,fsG,Gw.Grows.refl,hk,e2,e3,e4,e5,mval]
       case hend=>
        intro y w6' hg hy
        have hb6':Below w6.heap.size w6 w6':=hg
        have y84:y 84=mval mv mn A1 n1 c1:=(hy 84 (by simp)).now
        have y8:y 8=.slice A2 n2 c2:=(hy 8 (by simp)).now
        simp only[Gw.putAll,Act.put,List.setIfInBounds_toArray,List.set_cons_zero,List.set_cons_succ]
        rw[y84,y8]
        refine tl_store 38 _ _ rfl b9 _ #[.int .u64 (mv:Int),.int .u32 (mn:Int),.slice A1 n1 c1] rfl rfl (Q9a.out.1.past hb6') rfl m_size' (m_one' _ _ _ _ _) ?_
        intro w7 hb7 ho7
        refine tl_nil ?_
        simp only[Act.put]
        have K6:=Lib.hid (K6.out.past hb6')
        have P6:=Lib.hid (P6.out.past hb6')
        have R6:=Lib.hid (R6.out.past hb6')
        have Q5a:=Lib.hid (Q5a.out.past hb6')
        have Q6a:=Lib.hid (Q6a.out.past hb6')
        have Q9a:=Lib.hid (Q9a.out.past hb6')
        have Q10a:=Lib.hid (Q10a.out.past hb6')
        have HB7:=Lib.hid (show Blk w7 b9 [.int .u64 (Y'.m.version:Int),.int .u32 (Y'.m.next:Int),.slice A1 n1 c1] by rw[←hmv,←hmn];exact hb7)
        have HO7:=Lib.hid (show Out (fun k=>k=b9) w6' w7 from ho7)
        clear hy hg y84 y8 hb7 ho7 hb6' hmv hmn hwt
        have m9:=ManBox.m b9 (nx.version:Int) (nx.next:Int) A9 n9 c9 [.int .u64 (Y'.m.version:Int),.int .u32 (Y'.m.next:Int),.slice A1 n1 c1]
        have P7:=Lib.hid (P6.out.box (plain_m _ _ _ _ _) m9 HGY.out.2 HGY.out.1 Q9a.out.2 Q9a.out.1 HB7.out HO7.out)
        have R7:=Lib.hid (R6.out.pbox (plain_m _ _ _ _ _) Q9a.out.1 HO7.out)
        have K7:=Lib.hid ((K6.out.box (plain_m _ _ _ _ _) m9 Q9a.out.2 Q9a.out.1 HB7.out HO7.out (by have:=HLO9.out;omega)).set HST.out HPY.out P7.out.2.2.1 P7.out.2.1 HGY.out.2 R7.out HR5.out.1 HR5.out.2.1 rfl (readR_mdl_le K6.out.at_.st.disk.good) ⟨K6.out.hcn,rfl,rfl⟩)
        have Q5b:=Lib.hid (Q5a.out.other HO7.out HN5.out.1)
        have Q6b:=Lib.hid (Q6a.out.other HO7.out HN5.out.2.2.1)
        have Q9b:=Lib.hid (show Bq w7 own' b9 [.int .u64 (Y'.m.version:Int),.int .u32 (Y'.m.next:Int),.slice A1 n1 c1] from ⟨HB7.out,Q9a.out.2⟩)
        have Q10b:=Lib.hid (Q10a.out.other HO7.out (Ne.symm HNE.out))
        have HPN:=Lib.hid (plan_any K7.out.at_ HPY.out K7.out.few (by omega))
        clear m9 K6 P6 R6 Q5a Q6a Q9a Q10a HB7 HO7
        go_upto_region 12 with (go_at_call 49;refine HPN.out.mono ?_;rintro e w8 ⟨hb8,vv,xx,Ap,np,cp,b,rfl,hq⟩;have HB8:=Lib.hid hb8;have HQ:=Lib.hid hq;clear hb8 hq)
        obtain ⟨w9,hw9⟩:∃w9,w9=w8.alloc (.cells #[.int .u64 (vv:Int),.int .u32 (xx:Int),.slice Ap np cp] 38):=⟨_,rfl⟩
        obtain ⟨H12,hH12⟩:∃H,H=w8.heap.size:=⟨_,rfl⟩
        have hb89:Below w8.heap.size w8 w9:=by rw[hw9];exact (Below.refl _ _).alloc (Nat.le_refl _) _
        have HB9:=Lib.hid (HB8.out.trans (hb89.mono HB8.out.size))
        have X12:=Lib.hid (show Blk w9 H12 [.int .u64 (vv:Int),.int .u32 (xx:Int),.slice Ap np cp] by rw[hw9,hH12];exact Blk.new w8 [.int .u64 (vv:Int),.int .u32 (xx:Int),.slice Ap np cp] _)
        have HQ9:=Lib.hid (HQ.out.imp (fun q=>(show b=true∧∃m,m.version=vv∧m.next=xx∧NextIs X' (namesF Y'.now) m∧ManK own' Ap np cp m w9 from ⟨q.1,q.2.imp fun m q=>⟨q.1,q.2.1,q.2.2.1,q.2.2.2.past hb89⟩⟩)) (fun q=>q))
        have H12n:=Lib.hid (show H12≠b9 by have:=Q9b.out.1.lt;have:=HB8.out.size;omega)
        rw[←hw9,←hH12]
        have K9:=Lib.hid (K7.out.past HB9.out)
        have P9:=Lib.hid (P7.out.past HB9.out)
        have R9:=Lib.hid (R7.out.past HB9.out)
        have Q5c:=Lib.hid (Q5b.out.past HB9.out)
        have Q6c:=Lib.hid (Q6b.out.past HB9.out)
        have Q9c:=Lib.hid (Q9b.out.past HB9.out)
        have Q10c:=Lib.hid (Q10b.out.past HB9.out)
        have e8:=P9.out.1.cell (i:=8) rfl
        rw[←HWT.out] at e8
        clear hw9 hH12 hb89 HB8 HQ HPN HB9 K7 P7 R7 Q5b Q6b Q9b Q10b
        cases wt with
        |false=>
         have HMB:=Lib.hid (show Y'.waits=true→∀m,NextIs X' (namesF Y'.now) m→Y'.hv=Y'.now∧Y'.m=m from fun e=>by rw[←HWT.out] at e;cases e)
         have K10:=K9
         have Q5b:=Q5c
         have Q6b:=Q6c
         have Q9b:=Q9c
         have Q10b:=Q10c
         clear K9 Q5c Q6c Q9c Q10c P9 R9 X12 HQ9
         go_upto_region 14 with fail
         clear e8
         have HCM:=Lib.hid (commits_any K10.out.at_ HST.out.live.up HPY.out K10.out.few (by omega) (by have:=K10.out.acts;omega) (by rw[HST.out.live.calm.pend];show 0+4096≤_;omega))
         go_upto_region 15 with (go_at_call 38;refine HCM.out.mono ?_;rintro e w11 ⟨X2,Y2,ok,r,own2,ownD2,rfl,t1,t2,t3,t4⟩;obtain ⟨rfl,F2,hk11⟩:=K10.out.commit HST.out HPY.out HMB.out rfl t1 t2 t3 t4;have HNX:=Lib.hid (show FlR w own B G D cn H5 b9 b10 (j+1) A2 n2 c2 w11 from ⟨P,M,N,own2,ownD2,X2,F2,Y2,_,_,mdlR X'.S,_,_,_,Am5,nm5,cm5,hk11,Q5b.out.next t3 t4,Q6b.out.next t3 t4,Q9b.out.next t3 t4,Q10b.out.next t3 t4⟩);clear t1 t2 t3 t4 hk11)
         go_wp2_with fail
         go_roundw
         case rel=>exact ⟨j+1,A2,n2,c2,rfl,by go_num,hlt,HNX⟩
         case measure=>simp[intOf];omega
        |true=>
         cases b with
         |false=>
          have HMB:=Lib.hid (show Y'.waits=true→∀m,NextIs X' (namesF Y'.now) m→Y'.hv=Y'.now∧Y'.m=m from fun _ m hm=>by
           rcases HQ9.out with ⟨q,-⟩|⟨-,q⟩
           ·cases q
           ·exact absurd hm (q m))
          have K10:=K9
          have Q5b:=Q5c
          have Q6b:=Q6c
          have Q9b:=Q9c
          have Q10b:=Q10c
          clear K9 Q5c Q6c Q9c Q10c P9 R9 X12 HQ9
          go_upto_region 14 with fail
          clear e8
          have HCM:=Lib.hid (commits_any K10.out.at_ HST.out.live.up HPY.out K10.out.few (by omega) (by have:=K10.out.acts;omega) (by rw[HST.out.live.calm.pend];show 0+4096≤_;omega))
          go_upto_region 15 with (go_at_call 38;refine HCM.out.mono ?_;rintro e w11 ⟨X2,Y2,ok,r,own2,ownD2,rfl,t1,t2,t3,t4⟩;obtain ⟨rfl,F2,hk11⟩:=K10.out.commit HST.out HPY.out HMB.out rfl t1 t2 t3 t4;have HNX:=Lib.hid (show FlR w own B G D cn H5 b9 b10 (j+1) A2 n2 c2 w11 from ⟨P,M,N,own2,ownD2,X2,F2,Y2,_,_,mdlR X'.S,_,_,_,Am5,nm5,cm5,hk11,Q5b.out.next t3 t4,Q6b.out.next t3 t4,Q9b.out.next t3 t4,Q10b.out.next t3 t4⟩);clear t1 t2 t3 t4 hk11)
          go_wp2_with fail
          go_roundw
          case rel=>exact ⟨j+1,A2,n2,c2,rfl,by go_num,hlt,HNX⟩
          case measure=>simp[intOf];omega
         |true=>
          obtain ⟨m,hv,hx,hnm,hmk⟩:∃m,m.version=vv∧m.next=xx∧NextIs X' (namesF Y'.now) m∧ManK own' Ap np cp m w9:=by
           rcases HQ9.out with ⟨-,q⟩|⟨q,-⟩
           ·exact q
           ·cases q
          have HMB:=Lib.hid (show Y'.waits=true→∀m',NextIs X' (namesF Y'.now) m'→Y'.now=Y'.now∧m=m' from fun _ m' hm'=>⟨rfl,hnm.one hm'⟩)
          have HNM:=Lib.hid (And.intro hv (And.intro hx (And.intro hnm.2.2 hmk)))
          clear hv hx hnm hmk HQ9
          go_upto_region 13 with fail
          refine wp_region_tl 6 (ftG G H12 A3 n3 c3 (mval vv xx Ap np cp)) [97,98,99,100,101,8] [([0],none),([97],none),([98],none),([99],none),([12],none),([100],none)] 115 (by kernel_rfl) (by kernel_rfl) rfl ?h0 ?hreq rfl ?hend
          case h0=>
           intro t W hnd _
           unfold ftG
           split<;>first|(exfalso;apply hnd;decide)|rfl|trivial
          case hreq=>
           refine ⟨?_,?_,?_,?_,?_,?_,trivial⟩
           all_goals
            intro ac W hg hk
            have hg':Below w9.heap.size w9 W:=hg
            have e6:=(P9.out.1.past hg').cell (i:=6) rfl
            have y0:=(X12.out.past hg').cell (i:=0) rfl
            have y1:=(X12.out.past hg').cell (i:=1) rfl
            have y2:=(X12.out.past hg').cell (i:=2) rfl
            simp only[Gw.Knows,ftG] at hk
            simp[go_sem,Gw.OpReq,Gw.Ok,Gw.Post,Gw.Holds,ftG,Gw.Grows.refl,hk,e6,y0,y1,y2,mval]
          case hend=>
           intro y w9' hg hy
           have hb9':Below w9.heap.size w9 w9':=hg
           have y101:y 101=mval vv xx Ap np cp:=(hy 101 (by simp)).now
           have y8:y 8=.slice A3 n3 c3:=(hy 8 (by simp)).now
           simp only[Gw.putAll,Act.put,List.setIfInBounds_toArray,List.set_cons_zero,List.set_cons_succ]
           rw[y101,y8]
           refine tl_store 38 _ _ rfl b9 _ #[.int .u64 (vv:Int),.int .u32 (xx:Int),.slice Ap np cp] rfl rfl (Q9c.out.1.past hb9') rfl m_size' (m_one' _ _ _ _ _) ?_
           intro w10 hba hoa
           refine tl_nil ?_
           simp only[Act.put]
           have HBa:=Lib.hid (show Blk w10 b9 [.int .u64 (m.version:Int),.int .u32 (m.next:Int),.slice Ap np cp] by rw[HNM.out.1,HNM.out.2.1];exact hba)
           have HOa:=Lib.hid (show Out (fun k=>k=b9) w9' w10 from hoa)
           have m9:=ManBox.m b9 (Y'.m.version:Int) (Y'.m.next:Int) A1 n1 c1 [.int .u64 (m.version:Int),.int .u32 (m.next:Int),.slice Ap np cp]
           have q9:=Q9c.out.1.past hb9'
           have P10:=Lib.hid ((P9.out.past hb9').box (plain_m _ _ _ _ _) m9 HGY.out.2 HGY.out.1 Q9c.out.2 q9 HBa.out HOa.out)
           have R10:=Lib.hid ((R9.out.past hb9').pbox (plain_m _ _ _ _ _) q9 HOa.out)
           have K10:=Lib.hid (((K9.out.past hb9').box (plain_m _ _ _ _ _) m9 Q9c.out.2 q9 HBa.out HOa.out (by have:=HLO9.out;omega)).set HST.out HPY.out P10.out.2.2.2 (ManK.box m9 HNM.out.2.2.1.1.2.2 (HNM.out.2.2.2.past hb9') Q9c.out.2 q9 HBa.out HOa.out) HNM.out.2.2.1 R10.out HR5.out.1 HR5.out.2.1 rfl (readR_mdl_le K9.out.at_.st.disk.good) ⟨K9.out.hcn,rfl,rfl⟩)
           have Q5b:=Lib.hid ((Q5c.out.past hb9').other HOa.out HN5.out.1)
           have Q6b:=Lib.hid ((Q6c.out.past hb9').other HOa.out HN5.out.2.2.1)
           have Q9b:=Lib.hid (show Bq w10 own' b9 [.int .u64 (m.version:Int),.int .u32 (m.next:Int),.slice Ap np cp] from ⟨HBa.out,Q9c.out.2⟩)
           have Q10b:=Lib.hid ((Q10c.out.past hb9').other HOa.out (Ne.symm HNE.out))
           clear m9 q9 hba hoa hy hg y101 y8 hb9' K9 P9 R9 P10 R10 Q5c Q6c Q9c Q10c X12 HBa HOa e8
           have HCM:=Lib.hid (commits_any K10.out.at_ HST.out.live.up HPY.out K10.out.few (by omega) (by have:=K10.out.acts;omega) (by rw[HST.out.live.calm.pend];show 0+4096≤_;omega))
           go_upto_region 15 with (go_at_call 38;refine HCM.out.mono ?_;rintro e w11 ⟨X2,Y2,ok,r,own2,ownD2,rfl,t1,t2,t3,t4⟩;obtain ⟨rfl,F2,hk11⟩:=K10.out.commit HST.out HPY.out HMB.out rfl t1 t2 t3 t4;have HNX:=Lib.hid (show FlR w own B G D cn H5 b9 b10 (j+1) A3 n3 c3 w11 from ⟨P,M,N,own2,ownD2,X2,F2,Y2,_,_,mdlR X'.S,_,_,_,Am5,nm5,cm5,hk11,Q5b.out.next t3 t4,Q6b.out.next t3 t4,Q9b.out.next t3 t4,Q10b.out.next t3 t4⟩);clear t1 t2 t3 t4 hk11)
           go_wp2_with fail
           go_roundw
           case rel=>exact ⟨j+1,A3,n3,c3,rfl,by go_num,hlt,HNX⟩
           case measure=>simp[intOf];omega
      ·have d0:decide (z<0)=false:=by simp;omega
       have d1:decide (4<z)=false:=by simp;omega
       have d3:(z != 3)=true:=by rw[bne_iff_ne];exact hz3
       clear hz0 hz3
       go_upto_region 7 with (go_at_call 48;refine HON.out.mono ?_;rintro e w' ⟨rfl,rfl⟩)
       go_upto_region 4 with (go_at_call 39;refine HCH.out.mono ?_;rintro e w3 ⟨X2,Y2,N2,own2,rfl,t1,t2,t3,t4,t5,t6,t7,t8,t9⟩;have HNX:=Lib.hid (show FlR w own B G D cn H5 b9 b10 (j+1) A8 n8 c8 w3 from ⟨P,M,N2,own2,ownD',X2,F',Y2,mb,nx,R,A9,n9,c9,Am,nm,cm,HK.out.changed HST.out t1 t2 t3 t4 t5 t6 t7 t8 t9,Q5.out.next t8 t9,Q6.out.next t8 t9,Q9.out.next t8 t9,Q10.out.next t8 t9⟩);clear t1 t2 t3 t4 t5 t6 t7 t8 t9)
       go_wp2_with fail
       go_roundw
       case rel=>exact ⟨j+1,A8,n8,c8,rfl,by go_num,hlt,HNX⟩
       case measure=>simp[intOf];omega
   ·obtain rfl:j=n:=by omega
    go_upto_region 17 with (go_at_call 48;refine HON.out.mono ?_;rintro e w' ⟨rfl,rfl⟩)
    have e5:=HH5.out
    subst e5
    have hq9:=HLO9.out
    have hq10:=HLO10.out
    refine Gw.wp_region_phase (Out (fun k=>k=w.heap.size∨k=w.heap.size+1)) (Out.refl _) (fun _ _ _=>Out.trans) (enI w own B G D j cn P M N own' ownD' X' F' Y' mb nx R A8 n8 c8 A9 n9 c9 Am nm cm) (enG w.heap.size b9 b10 (.slice A8 n8 c8) (mval nx.version nx.next A9 n9 c9) (.agg #[.int .i64 (cn:Int),.bool false,.int .i64 (-1),.slice Am nm cm,.slice none 0 0])) [4,5] [112,113,114,4,7] [([8],none,[0],false),([9],none,[0],false),([10],none,[0,1],false),([112],none,[0],false),([5,113],none,[0],true),([6,114],none,[1],true),([],none,[2],false)] 115 2 (by kernel_rfl) (by kernel_rfl) rfl (out_drew _ _) ?hI ?h0 ?hreq ?hend
    case hI=>
     refine ⟨HK.out.past (Below.refl _ _).drew,?_,?_⟩
     ·rw[if_pos rfl];exact Q5.out.1.drew
     ·rw[if_pos (by omega)];exact Q6.out.1.drew
    case h0=>
     intro t W hnd _
     unfold enG
     split<;>first|(exfalso;apply hnd;decide)|rfl|trivial
    case hreq=>
     refine ⟨⟨?_,trivial⟩,⟨?_,trivial⟩,⟨?_,?_,trivial⟩,⟨?_,trivial⟩,⟨?_,trivial⟩,⟨?_,trivial⟩,⟨?_,trivial⟩,trivial⟩
     all_goals
      intro ac W hR hI hk
      have z9:=Q9.out.1.out hR (by omega)
      have z10:=Q10.out.1.out hR (by omega)
      have y0:=z9.cell (i:=0) rfl
      have y1:=z9.cell (i:=1) rfl
      have y2:=z9.cell (i:=2) rfl
      obtain ⟨k0,k1,k2,k3,k4⟩:=z10.five
      simp only[Gw.Knows,enG] at hk
      try (simp[go_sem,Gw.POpReq,Gw.OkP,Gw.PPost,Gw.HoldsR,enG,Out.refl,hk,hI,y0,y1,y2,k0,k1,k2,k3,k4,mval];done)
     ·obtain ⟨i1,i2,i3⟩:=hI
      rw[if_pos rfl] at i2
      obtain ⟨w',hrun,h2,h3⟩:=run_store_blk (P:=Tryz.prog) (w:=W) (b:=w.heap.size) (ty:=38) (vs:=#[.int .u64 (nx.version:Int),.int .u32 (nx.next:Int),.slice A9 n9 c9]) i2 rfl m_size' (m_one' _ _ _ _ _)
      exact Gw.ok_store rfl ((Gw.eval_slot ac 5).trans hk.1) ((Gw.eval_slot ac 113).trans hk.2.1) hrun ⟨h3.more fun k _ h=>.inl h,⟨i1.box (plain_m _ _ _ _ _) (ManBox.m _ _ _ _ _ _ _) Q5.out.2 i2 h2 h3 (Nat.le_refl _),by rw[if_neg (by decide)];exact h2,by rw[if_pos (by omega)] at i3;rw[if_pos (by decide)];exact i3.out h3 (by omega)⟩,trivial⟩
     ·obtain ⟨i1,i2,i3⟩:=hI
      rw[if_pos (by omega)] at i3
      obtain ⟨w',hrun,h2,h3⟩:=run_store_blk (P:=Tryz.prog) (w:=W) (b:=w.heap.size+1) (ty:=59) (vs:=#[.int .i64 (cn:Int),.bool false,.int .i64 (-1),.slice Am nm cm,.slice none 0 0]) i3 rfl d_size' (d_one' _ _ _ _ _ _ _ _ _)
      exact Gw.ok_store rfl ((Gw.eval_slot ac 6).trans hk.1) ((Gw.eval_slot ac 114).trans hk.2.1) hrun ⟨h3.more fun k _ h=>.inr h,⟨i1.box (plain_d _ _ _ _ _ _ _ _ _) (ManBox.z _ _ _ _ _ _ _ _) Q6.out.2 i3 h2 h3 (by omega),by rw[if_neg (by omega)] at i2;rw[if_neg (by decide)];exact i2.out h3 (by omega),by rw[if_neg (by decide)];exact h2⟩,trivial⟩
    case hend=>
     intro x' w9 hR hI hx'
     have e4:x' 4=.slice A8 n8 c8:=(hx' 4 (by simp)) w9 (Out.refl _ _)
     have e7:x' 7=.bool true:=(hx' 7 (by simp)) w9 (Out.refl _ _)
     have HI:=Lib.hid hI
     clear hx' hI hR
     simp only[Gw.putAll,Act.put,List.setIfInBounds_toArray,List.set_cons_zero,List.set_cons_succ]
     rw[e4,e7]
     go_wp2
     obtain ⟨i1,i2,i3⟩:=HI.out
     rw[if_neg (by omega)] at i2 i3
     have y0:=i2.cell (i:=0) rfl
     have y1:=i2.cell (i:=1) rfl
     have y2:=i2.cell (i:=2) rfl
     obtain ⟨k0,k1,k2,k3,k4⟩:=i3.five
     refine bodyPost_ret (v:=.tuple #[.slice A8 n8 c8,mval nx.version nx.next A9 n9 c9,.agg #[.int .i64 (cn:Int),.bool false,.int .i64 (-1),.slice Am nm cm,.slice none 0 0],.bool true]) (by simp[results,Tryz.results22,go_sem,y0,y1,y2,k0,k1,k2,k3,k4,mval]) rfl ?_
     exact ⟨P,M,N,own',ownD',X',F',Y',mb,nx,R,A8,n8,c8,A9,n9,c9,Am,nm,cm,rfl,i1.le' hjn⟩
end Go.Proofs.YtiocpefgccndbaaGreat
end
section
namespace Go.Proofs.YtiocpefgccndbaaGreat
open Go.RowKit Me Mf Rw Ds Va Go.Maps
structure BkAt (w:World) (B G P D M N:Nat) (X:Sto) (S:Dsk) (F:List UInt8→List UInt8) (Y:Ply) (mb:List FB) (nx:ManD) (R:RefM) (own ownD:Nat→Prop) (A1:Option Addr) (n1 c1:Nat) (A2:Option Addr) (n2 c2:Nat) (A3:Option Addr) (n3 c3:Nat) (A4:Option Addr) (n4 c4:Nat) (A8:Option Addr) (n8 c8:Nat) (A9:Option Addr) (n9 c9:Nat) (Am:Option Addr) (nm cm:Nat):Prop where
 is:FlIs X F Y mb nx R
 disk:DiskAt w B D S ownD
 od:∀k,ownD k→own k
 lo:∀k,own k→B≤k∧k<w.heap.size
 box:PBx w own G P D Y A1 n1 c1 A2 n2 c2 A3 n3 c3 A4 n4 c4
 hmb:FbK own A8 n8 c8 mb w
 hnx:ManK own A9 n9 c9 nx w
 fit:Fit nx
 ref:RefAt w own R Am cm none 0
 made:R.made.length=nm
 most:nm≤32
 wait:R.wait.length=0
 le:∀i,(readR R i).length≤128
 g:own G∧¬ownD G
section
variable {w w' W:World} {own0 own ownD:Nat→Prop} {B G D j cn P M N:Nat} {X:Sto} {S:Dsk} {F:List UInt8→List UInt8} {Y:Ply} {mb:List FB} {nx:ManD} {R:RefM} {A1:Option Addr} {n1 c1:Nat} {A2:Option Addr} {n2 c2:Nat} {A3:Option Addr} {n3 c3:Nat} {A4:Option Addr} {n4 c4:Nat} {A8:Option Addr} {n8 c8:Nat} {A9:Option Addr} {n9 c9:Nat} {Am:Option Addr} {nm cm:Nat}
theorem BkAt.past (h:BkAt w B G P D M N X S F Y mb nx R own ownD A1 n1 c1 A2 n2 c2 A3 n3 c3 A4 n4 c4 A8 n8 c8 A9 n9 c9 Am nm cm) (hb:Below w.heap.size w w'):BkAt w' B G P D M N X S F Y mb nx R own ownD A1 n1 c1 A2 n2 c2 A3 n3 c3 A4 n4 c4 A8 n8 c8 A9 n9 c9 Am nm cm:=
 {h with disk:=h.disk.past hb,lo:=fun k hk=>⟨(h.lo k hk).1,Nat.lt_of_lt_of_le (h.lo k hk).2 hb.size⟩,box:=h.box.past hb,hmb:=h.hmb.out (.of_below hb),hnx:=h.hnx.past hb,ref:=h.ref.past hb}
theorem BkAt.post {S':Dsk} {ownD':Nat→Prop} (h:BkAt w B G P D M N X S F Y mb nx R own ownD A1 n1 c1 A2 n2 c2 A3 n3 c3 A4 n4 c4 A8 n8 c8 A9 n9 c9 Am nm cm) (hd:DiskAt w' B D S' ownD') (ho:Out ownD w w') (hn:∀k,ownD' k→ownD k∨w.heap.size≤k) :
 BkAt w' B G P D M N X S' F Y mb nx R (fun k=>own k∨ownD' k) ownD' A1 n1 c1 A2 n2 c2 A3 n3 c3 A4 n4 c4 A8 n8 c8 A9 n9 c9 Am nm cm:=by
 have hO:Out own w w':=ho.more fun k _ hk=>h.od k hk
 have hs:∀k,(own k∨ownD' k)→own k∨w.heap.size≤k:=fun k hk=>by
  rcases hk with q|q
  ·exact .inl q
  ·exact (hn k q).imp (h.od k) fun q=>q
 have hG:=h.lo G h.g.1
 refine ⟨h.is,hd,fun k hk=>.inr hk,fun k hk=>?_,⟨h.box.1.out ho h.g.2,h.box.2.1.next hO hs,h.box.2.2.1.next hO hs,h.box.2.2.2.next hO hs⟩,h.hmb.next hO hs,h.hnx.next hO hs,h.fit,h.ref.next hO hs,h.made,h.most,h.wait,h.le,⟨.inl h.g.1,fun e=>?_⟩⟩
 ·rcases hk with q|q
  ·exact ⟨(h.lo k q).1,Nat.lt_of_lt_of_le (h.lo k q).2 ho.size⟩
  ·exact hd.lt q
 ·rcases hn G e with q|q
  ·exact h.g.2 q
  ·omega
theorem FlK.bk (h:FlK w W own0 B G D j cn P M N own ownD X F Y mb nx R A8 n8 c8 A9 n9 c9 Am nm cm):∃A1 n1 c1 A2 n2 c2 A3 n3 c3 A4 n4 c4,BkAt W B G P D M N X X.S F Y mb nx R own ownD A1 n1 c1 A2 n2 c2 A3 n3 c3 A4 n4 c4 A8 n8 c8 A9 n9 c9 Am nm cm:=by
 obtain ⟨A1,n1,c1,A2,n2,c2,A3,n3,c3,A4,n4,c4,hp⟩:=h.at_.pbx
 exact ⟨A1,n1,c1,A2,n2,c2,A3,n3,c3,A4,n4,c4,h.is,h.at_.st.disk,fun k hk=>h.at_.st.own k (.inr (.inr hk)),fun k hk=>h.at_.st.lt hk,hp,h.hmb,h.hnx,h.fit,h.ref,h.made,h.most,h.wait,h.le,h.at_.g.1,fun e=>h.at_.g.2 (.inr (.inr e))⟩
end
end Go.Proofs.YtiocpefgccndbaaGreat
end
section
namespace Go.Proofs.YtiocpefgccndbaaGreat
open Go.RowKit Me Mf Rw Ds Va Go.Maps
theorem settle_id (K T:Nat):∀(l:List WD) (k:Nat) (st:List (List UInt8)),(∀x∈l,st.getD x.i []=x.b)→Ds.settle K T k l st=st
 |[],_,_,_=>rfl
 |x::l,k,st,h=>by
  have hx:=h x (by simp)
  have e:st.set x.i (x.b.take (surv K T k)++(st.getD x.i []).drop (surv K T k))=st:=by
   rw[hx,List.take_append_drop,←hx]
   apply List.ext_getElem?
   intro i
   rw[List.getElem?_set]
   split
   ·rename_i e
    subst e
    split
    ·rename_i hi
     rw[List.getD_eq_getElem?_getD,List.getElem?_eq_getElem hi]
     rfl
    ·rename_i hi
     rw[List.getElem?_eq_none (by omega)]
   ·rfl
  rw[Ds.settle,e]
  exact settle_id K T l (k+1) st fun y hy=>h y (by simp[hy])
theorem slotS_len {st:List (List UInt8)} {n:Nat} (h:∀j,j<16→(st.getD (16*n+j) []).length=128):∀k,k≤16→(slotS st n k).length=128*k
 |0,_=>rfl
 |k+1,hk=>by rw[slotS,List.length_append,slotS_len h k (by omega),h k (by omega)];omega
theorem slotS_chunk {st:List (List UInt8)} {n:Nat} (h:∀j,j<16→(st.getD (16*n+j) []).length=128):∀k,k≤16→∀j,j<k→((slotS st n k).drop (128*j)).take 128=st.getD (16*n+j) []
 |0,_,j,hj=>by omega
 |k+1,hk,j,hj=>by
  have hl:=slotS_len h k (by omega)
  rw[slotS]
  by_cases e:j=k
  ·subst e
   rw[List.drop_append_of_le_length (by omega),List.drop_of_length_le (by omega),List.nil_append,List.take_of_length_le (by rw[h j (by omega)];exact Nat.le_refl _)]
  ·rw[List.drop_append_of_le_length (by omega),List.take_append_of_le_length (by rw[List.length_drop,hl];omega)]
   exact slotS_chunk h k (by omega) j (by omega)
theorem wslot_same {S:Dsk} (h:Calm S) {n:Nat} (hn:n≤1) {l:List UInt8} (hs:slotS S.stored n 16=l) (K T:Nat):(wslotD S n l).2≠0→(backD K T (wslotD S n l).1).stored=S.stored:=by
 intro h0
 have hlen:∀j,j<16→(S.stored.getD (16*n+j) []).length=128:=fun j hj=>by
  have hsz:=h.size
  rw[List.getD_eq_getElem?_getD,List.getElem?_eq_getElem (show 16*n+j<S.stored.length by omega)]
  exact h.all _ (List.getElem_mem _)
 obtain ⟨h1,j,hj,h2,-⟩:=stD_cases S n l 16
 rw[h.pend,List.nil_append] at h2
 have hid:∀x∈chW n l j,S.stored.getD x.i []=x.b:=fun x hx=>by
  obtain ⟨i,hi,rfl⟩:=List.mem_map.1 hx
  have hi:=List.mem_range.1 hi
  show S.stored.getD (16*n+i) []=chunkL l i
  unfold chunkL
  rw[←hs]
  exact (slotS_chunk hlen 16 (Nat.le_refl _) i (by omega)).symm
 have key:∀S':Dsk,S'.stored=S.stored→S'.pend=chW n l j→(backD K T S').stored=S.stored:=fun S' e1 e2=>by
  show Ds.settle K T 0 S'.pend S'.stored=_
  rw[e1,e2]
  exact settle_id K T _ 0 _ hid
 unfold wslotD at h0 ⊢
 split
 ·rename_i hz
  rw[if_pos hz] at h0
  rcases syncD_cases (stD S n l 16).1 with ⟨q0,-⟩|⟨q0,q1,q2⟩
  ·exact absurd q0 h0
  ·exact key _ (q1.trans h1) (q2.trans h2)
 ·exact key _ h1 h2
theorem Aft.again {S:Dsk} {m:ManD} {F:List UInt8→List UInt8} (h:Aft S m F) (h1:m.version=0∨slotD S (m.version%2) 16=slotOf m) {T1:Nat→Option ManD} {Z1:Nat→Bool} (hT1:∀k,k<2→Says (slotD S k 16) (T1 k)) (hZ1:∀k,k<2→Z1 k=zeros (slotD S k 16)) (ha:ansD S T1 Z1=(m,0)) (f:Int) (K T:Nat)
 {S3:Dsk} (hS3:S3=backD K T (if m.version=0 then (({S with fuse:=f}:Dsk),(0:Int)) else wmD {S with fuse:=f} m 2).1) (hall:∀b∈S3.stored,b.length=128) {Tl:Nat→Option ManD} {Z:Nat→Bool} (hT:∀k,k<2→Says (slotD S3 k 16) (Tl k)) (hZ:∀k,k<2→Z k=zeros (slotD S3 k 16))
 (hmix:∀k,k<2→mixB (slotD S3 k 16) (slotR (mdlR S) k 16) (slotOf m) (Tl k)=false):Aft S3 m F∧ansD S3 Tl Z=(m,0):=by
 have hbig:32<S.stored.length:=h.ok.big
 have hfit:Fit m:=h.ok.fit
 have hwf:Wf m:=h.ok.wf
 have hc2:Calm ({S with fuse:=f}:Dsk):=fuse_calm h.calm f
 have hon3:S3.on=true:=by rw[hS3];rfl
 have hsl:∀k,k<2→slotD S k 16=slotS S.stored k 16:=fun k hk=>slotD_stored h.on h.calm.pend h.calm.size (by omega) 16 (Nat.le_refl _)
 by_cases hv:m.version=0
 ·rw[if_pos hv] at hS3
  have hst:S3.stored=S.stored:=by
   rw[hS3]
   show Ds.settle K T 0 S.pend S.stored=_
   rw[h.calm.pend]
   rfl
  have hp3:S3.pend=[]:=by rw[hS3];rfl
  have hc3:Calm S3:=⟨hp3,hall,by rw[hst];exact h.calm.size⟩
  have hsl3:∀k,k<2→slotD S3 k 16=slotD S k 16:=fun k hk=>by
   rw[hsl k hk,slotD_stored hon3 hp3 hc3.size (by omega) 16 (Nat.le_refl _),hst]
  refine ⟨⟨hc3,hon3,by rw[hS3];show (-1:Int)<0;omega,{h.ok with disk:=?_,big:=?_},by rw[hst];exact h.holds⟩,?_⟩
  ·show St.OnDisk S3.stored.length _
   rw[hst];exact h.ok.disk
  ·show 32<S3.stored.length
   rw[hst];exact hbig
  ·rw[←ha,ansD_one (S:=S3) (T':=T1) (Z':=Z1) (fun k hk=>(hT k hk).one (by rw[hsl3 k hk];exact hT1 k hk)) (fun k hk=>by rw[hZ k hk,hZ1 k hk,hsl3 k hk])]
   unfold ansD
   rw[hst,hon3,h.on]
 ·rw[if_neg hv] at hS3
  have hA1:slotD S (m.version%2) 16=slotOf m:=h1.resolve_left hv
  have hsay:=says_slot hwf hfit
  have hpar:=parity m.version
  have hlen:S3.stored.length=S.stored.length:=by
   rw[hS3]
   show (Ds.settle K T 0 (wmD _ m 2).1.pend (wmD _ m 2).1.stored).length=_
   rw[settle_length,wmD_length hc2 hfit]
  have hhi:∀j,32≤j→S3.stored.getD j []=S.stored.getD j []:=fun j hj=>by
   rw[hS3]
   show (Ds.settle K T 0 (wmD _ m 2).1.pend (wmD _ m 2).1.stored).getD j []=_
   rw[settle_other K T _ 0 _ j fun x hx e=>by have:=wmD_pends hc2 hfit x hx;omega]
   exact wmD_high hc2 hfit hj
  have hp3:S3.pend=[]:=by rw[hS3];rfl
  have hc3:Calm S3:=⟨hp3,hall,by rw[hlen];exact h.calm.size⟩
  refine ⟨⟨hc3,hon3,by rw[hS3];show (-1:Int)<0;omega,{h.ok with disk:=?_,big:=?_},h.holds.high hfit hhi⟩,?_⟩
  ·show St.OnDisk S3.stored.length _
   rw[hlen];exact h.ok.disk
  ·show 32<S3.stored.length
   rw[hlen];exact hbig
  ·have hans:∀(S:Dsk) (T:Nat→Option ManD) (Z:Nat→Bool),32<S.stored.length→S.on=true→ansD S T Z=ansOf (curOf T 2) (blkOf Z 2):=fun S T Z q1 q2=>by
    unfold ansD
    rw[if_neg (by omega),q2]
    rfl
   rw[hans S T1 Z1 hbig h.on] at ha
   rw[hans S3 Tl Z (by omega) hon3]
   have hTA1:T1 (m.version%2)=some m:=(hT1 _ (by omega)).one (by rw[hA1];exact hsay)
   have hA3:slotD S3 (m.version%2) 16=slotOf m:=by
    have e1:wmD ({S with fuse:=f}:Dsk) m 1=wslotD {S with fuse:=f} (m.version%2) (slotOf m):=by rw[wmD,if_pos (show (wmD _ m 0).2=0 from rfl)];rfl
    by_cases hz:(wslotD ({S with fuse:=f}:Dsk) (m.version%2) (slotOf m)).2=0
    ·have hab:=wslotD_all hc2.pend hc2.all (n:=m.version%2) (by show _≤S.stored.length;omega) (slotOf_length hfit)
     rcases wslotD_cases hc2.pend hc2.all (n:=m.version%2) (by show _≤S.stored.length;omega) (slotOf_length hfit) with ⟨q0,q1,q2,q3,q4,q5⟩|⟨q0,-,-⟩
     ·have e2:wmD ({S with fuse:=f}:Dsk) m 2=wslotD (wmD ({S with fuse:=f}:Dsk) m 1).1 ((m.version+1)%2) (slotOf m):=by rw[wmD,if_pos (by rw[e1];exact hz)]
      rw[e1] at e2
      have hq5:(wslotD ({S with fuse:=f}:Dsk) (m.version%2) (slotOf m)).1.stored.length=S.stored.length:=q5
      rcases wslotD_cases q3 hab.1 (n:=(m.version+1)%2) (by rw[hq5];omega) (slotOf_length hfit) with ⟨r0,r1,r2,r3,r4,r5⟩|⟨r0,r1,r2⟩
      ·rw[hS3,e2,slotD_back (by rw[r5,hq5];exact h.calm.size) K T (by omega) (fun x hx e=>by rw[r3] at hx;cases hx),slotS_other (n:=(m.version+1)%2) (by omega) r2,q1]
      ·rw[hS3,e2,slotD_back (by rw[r1,hq5];exact h.calm.size) K T (by omega) (fun x hx e=>by have:=r2 x hx;omega),r1,q1]
     ·exact absurd hz q0
    ·have e2:wmD ({S with fuse:=f}:Dsk) m 2=wslotD {S with fuse:=f} (m.version%2) (slotOf m):=by rw[wmD_stuck (k:=1) (by rw[e1];exact hz) 2 (by omega),e1]
     have hst:S3.stored=S.stored:=by
      rw[hS3,e2]
      exact wslot_same hc2 (by omega) (by rw[←hA1,hsl _ (by omega)]) K T hz
     rw[slotD_stored hon3 hp3 hc3.size (by omega) 16 (Nat.le_refl _),hst,←hsl _ (by omega),hA1]
   have hTA:Tl (m.version%2)=some m:=(hT _ (by omega)).one (by rw[hA3];exact hsay)
   have hTB:Tl ((m.version+1)%2)=none∨Tl ((m.version+1)%2)=T1 ((m.version+1)%2)∨Tl ((m.version+1)%2)=some m:=by
    cases hq:Tl ((m.version+1)%2) with
    |none=>exact .inl rfl
    |some x=>
     right
     rcases mixB_false (hmix ((m.version+1)%2) (by omega)) (by rw[hq];rfl) with q|q
     ·left
      rw[slotR_mdl h.on (by omega) 16 (Nat.le_refl _)] at q
      have:=hT ((m.version+1)%2) (by omega)
      rw[q] at this
      rw[←hq]
      exact this.one (hT1 _ (by omega))
     ·right
      have:=hT ((m.version+1)%2) (by omega)
      rw[q] at this
      rw[←hq]
      exact this.one hsay
   have hcur1:curOf T1 2=some m:=by
    rcases ans_cases ha with q|⟨q,-⟩
    ·exact q
    ·rw[curOf2] at q
     rcases hpar with ⟨e1,e2⟩|⟨e1,e2⟩
     ·rw[e1] at hTA1;rw[hTA1] at q
      cases hx:T1 1<;>rw[hx] at q<;>simp[best] at q
      split at q<;>cases q
     ·rw[e1] at hTA1;rw[hTA1] at q
      cases hx:T1 0<;>rw[hx] at q<;>simp[best] at q
      split at q<;>cases q
   have hcur:curOf Tl 2=some m:=by
    rw[curOf2] at hcur1 ⊢
    rcases hpar with ⟨e1,e2⟩|⟨e1,e2⟩
    ·rw[e1] at hTA hTA1
     rw[e2] at hTB
     rw[hTA1] at hcur1
     rw[hTA]
     rcases hTB with q|q|q
     ·rw[q];rfl
     ·rw[q];exact hcur1
     ·rw[q];simp[best]
    ·rw[e1] at hTA hTA1
     rw[e2] at hTB
     rw[hTA1] at hcur1
     rw[hTA]
     rcases hTB with q|q|q
     ·rw[q];rfl
     ·rw[q];exact hcur1
     ·rw[q];simp[best]
   rw[hcur]
   rfl
end Go.Proofs.YtiocpefgccndbaaGreat
end
section
namespace Go.Proofs.YtiocpefgccndbaaGreat
open Go.RowKit Me Mf Rw Ds Va Go.Maps
def opD (S:Dsk) (m:ManD):Dsk×Int:=if m.version=0 then (S,(0:Int)) else wmD S m 2
def OpAny (w:World) (B D:Nat) (q:Dsk×Int) (ownD:Nat→Prop) (e:Ending) (w':World):Prop:=
 ∃(pv:Option Addr) (r:Int),e=.returned (.tuple #[.pointer pv,.int .i64 r])∧((r=0∧∃P,pv=some ⟨P,0,none⟩)∨(r=6∧pv=none))∧DPost w B D q.1 ownD w'
theorem open_fell {w:World} {B D:Nat} {own ownD:Nat→Prop} {S:Dsk} {m:ManD} (h:DiskAt w B D S ownD) (hod:∀k,ownD k→own k) (hlo:∀k,own k→B≤k∧k<w.heap.size) (hr:Calls Tryz.prog 17 #[.pointer (some ⟨D,0,none⟩)] w (RdPostK w (m,0))) (hf:Fit m) (hw:Wf m) (hd:St.OnDisk S.stored.length m.files) (hs:32<S.stored.length) (hp:S.pend.length+64≤1073741824) (hon:S.on=true) :
 Calls Tryz.prog 20 #[.pointer (some ⟨D,0,none⟩)] w (OpAny w B D (opD S m) ownD):=by
 refine (open_good h hod hlo hr hf hw hd hs hp).mono ?_
 intro e w' hq
 have hdn:Dn (opD S m):=by
  unfold opD
  split
  ·exact .inl ⟨rfl,hon⟩
  ·exact wmD_dn hon (by omega) hf 2
 simp only[OpPost] at hq
 rcases hq with ⟨q0,rfl,hd⟩|⟨q0,P,M,own',ownD',rfl,hst,ho,-,-,hn,-⟩
 ·refine ⟨none,(opD S m).2,rfl,.inr ⟨?_,rfl⟩,hd⟩
  rcases hdn with ⟨e,-⟩|⟨e,-⟩
  ·exact absurd e q0
  ·exact e
 ·exact ⟨some ⟨P,0,none⟩,0,rfl,.inl ⟨rfl,P,rfl⟩,ownD',hst.disk,ho,hn⟩
theorem slotD_fuse (S:Dsk) (f:Int) (n:Nat):∀k,slotD {S with fuse:=f} n k=slotD S n k
 |0=>rfl
 |k+1=>by rw[slotD,slotD,slotD_fuse S f n k];rfl
theorem opD_pend (S:Dsk) (m:ManD):(opD S m).1.pend.length≤S.pend.length+32:=by
 unfold opD
 split
 ·show S.pend.length≤_
  omega
 ·exact wmD_pend S m 2
theorem opD_size {S:Dsk} {m:ManD}:(opD S m).1.stored.length=S.stored.length:=by
 unfold opD
 split
 ·rfl
 ·exact wmD_size S m 2
end Go.Proofs.YtiocpefgccndbaaGreat
end
section
namespace Go.Proofs.YtiocpefgccndbaaGreat
open Go.RowKit Me Mf Rw Ds Va Go.Maps
theorem ansD_on {S:Dsk} (hb:32<S.stored.length) (hon:S.on=true) (T:Nat→Option ManD) (Z:Nat→Bool):ansD S T Z=ansOf (curOf T 2) (blkOf Z 2):=by
 unfold ansD
 rw[if_neg (by omega),hon]
 rfl
structure AgAt (w:World) (B G P D M N cn:Nat) (X:Sto) (S:Dsk) (F:List UInt8→List UInt8) (Y:Ply) (mb:List FB) (nx:ManD) (R:RefM) (own ownD:Nat→Prop) (A1:Option Addr) (n1 c1:Nat) (A2:Option Addr) (n2 c2:Nat) (A3:Option Addr) (n3 c3:Nat) (A4:Option Addr) (n4 c4:Nat) (A8:Option Addr) (n8 c8:Nat) (A9:Option Addr) (n9 c9:Nat) (Am:Option Addr) (nm cm:Nat)
 (S1:Dsk) (m:ManD) (H14 H21 H22 ver nxt:Nat) (Ak:Option Addr) (nk ck:Nat) (Aq:Option Addr) (nq cq:Nat):Prop where
 bk:BkAt w B G P D M N X S F Y mb nx R own ownD A1 n1 c1 A2 n2 c2 A3 n3 c3 A4 n4 c4 A8 n8 c8 A9 n9 c9 Am nm cm
 b14:Bq w own H14 [.int .u64 (ver:Int),.int .u32 (nxt:Int),.slice A9 n9 c9]
 b21:Bq w own H21 [.int .i64 (cn:Int),.bool false,.int .i64 (-1),.slice Ak nk ck,.slice none 0 0]
 b22:Bq w own H22 [.int .u64 (m.version:Int),.int .u32 (m.next:Int),.slice Aq nq cq]
 kref:RefAt w own (mdlR S1) Ak ck none 0
 man:ManK own Aq nq cq m w
section
variable {w w':World} {B G P D M N cn:Nat} {X:Sto} {S S':Dsk} {F:List UInt8→List UInt8} {Y:Ply} {mb:List FB} {nx:ManD} {R:RefM} {own ownD ownD':Nat→Prop} {A1:Option Addr} {n1 c1:Nat} {A2:Option Addr} {n2 c2:Nat} {A3:Option Addr} {n3 c3:Nat} {A4:Option Addr} {n4 c4:Nat} {A8:Option Addr} {n8 c8:Nat} {A9:Option Addr} {n9 c9:Nat} {Am:Option Addr} {nm cm:Nat}
 {S1:Dsk} {m:ManD} {H14 H21 H22 ver nxt:Nat} {Ak:Option Addr} {nk ck:Nat} {Aq:Option Addr} {nq cq:Nat}
theorem AgAt.past (h:AgAt w B G P D M N cn X S F Y mb nx R own ownD A1 n1 c1 A2 n2 c2 A3 n3 c3 A4 n4 c4 A8 n8 c8 A9 n9 c9 Am nm cm S1 m H14 H21 H22 ver nxt Ak nk ck Aq nq cq) (hb:Below w.heap.size w w') :
 AgAt w' B G P D M N cn X S F Y mb nx R own ownD A1 n1 c1 A2 n2 c2 A3 n3 c3 A4 n4 c4 A8 n8 c8 A9 n9 c9 Am nm cm S1 m H14 H21 H22 ver nxt Ak nk ck Aq nq cq:=
 ⟨h.bk.past hb,h.b14.past hb,h.b21.past hb,h.b22.past hb,h.kref.past hb,h.man.past hb⟩
theorem AgAt.post (h:AgAt w B G P D M N cn X S F Y mb nx R own ownD A1 n1 c1 A2 n2 c2 A3 n3 c3 A4 n4 c4 A8 n8 c8 A9 n9 c9 Am nm cm S1 m H14 H21 H22 ver nxt Ak nk ck Aq nq cq) (hd:DPost w B D S' ownD w') :
 ∃own' ownD',AgAt w' B G P D M N cn X S' F Y mb nx R own' ownD' A1 n1 c1 A2 n2 c2 A3 n3 c3 A4 n4 c4 A8 n8 c8 A9 n9 c9 Am nm cm S1 m H14 H21 H22 ver nxt Ak nk ck Aq nq cq∧Out own w w':=by
 obtain ⟨ownD',hd,ho,hn⟩:=hd
 have hO:Out own w w':=ho.more fun k _ hk=>h.bk.od k hk
 have hs:∀k,(own k∨ownD' k)→own k∨w.heap.size≤k:=fun k hk=>by
  rcases hk with q|q
  ·exact .inl q
  ·exact (hn k q).imp (h.bk.od k) fun q=>q
 exact ⟨_,ownD',⟨h.bk.post hd ho hn,h.b14.next hO hs,h.b21.next hO hs,h.b22.next hO hs,h.kref.next hO hs,h.man.next hO hs⟩,hO⟩
end
end Go.Proofs.YtiocpefgccndbaaGreat
end
