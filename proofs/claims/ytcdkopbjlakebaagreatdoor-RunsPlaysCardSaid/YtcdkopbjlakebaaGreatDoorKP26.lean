/- Texts put together, for a law: Co. -/
import Derived.RangeFuncNested
import Derived.Shelf.Abstract
import Derived.OwnWalkIn
import Derived.TacticsInMore
import Derived.Test.YtcdkopbjlakebaaGreatDoorKP22
import Derived.Test.YtcdkopbjlakebaaGreatDoorKP13
import Derived.Test.YtcdkopbjlakebaaGreatDoorKP6
set_option maxRecDepth 100000
set_option maxHeartbeats 8000000
namespace Go.Proofs.YtcdkopbjlakebaaGreatDoor
section
open Go.RowKit Me Rn
theorem qN {F:Fence} {r:Nat} {P:Program} {ops:Array Oper} {rest:List Oper} {o:Oper} {a:Act} {w:World} {Q:Exit->Act->World->Prop}
 (hg:o.guard=none) (s x:Operand) (t:TypeId) (hop:o.op=Op.call {callee:=Callee.builtin Builtin.append,args:=#[s,x],argTypes:=#[t,t]})
 (base:Nat) (e:TypeId) (i:TypeInfo) (z:Value) (size bytes:Nat) (ht:P.underlying t=some (.slice e)) (hi:P.info? e=some i) (hz:i.zero=some z)
 (hsize:i.size=size) (hby:i.bytes=bytes) (hzs:z.cells.size=size) (hsz:0<size)
 (A:Option Addr) (n cap:Nat) (xs:List Value) (hs:a.eval s=.slice A n cap) (hown:w.ownsRow base e size (.slice A n cap) n xs)
 (ad:Addr) (m c:Nat) (news:List Value) (hx:a.eval x=.slice (some ad) m c) (hl:news.length=m*size) (hnews:∀j u,news[j]?=some u->w.cell? (ad.add j)=some u) (h1:∀u∈news,u.oneCell'=true)
 (hm:0<m) (h63:n+m<=maxLen) (hbytes:(n+m)*bytes<=140737488355328) (hbase:base<=w.heap.size)
 (hK:∀v' w',w'.ownsRow base e size v' (n+m) (xs++news)->w.grownBy w' (Value.slice A n cap).ownBlock->(v'.ownBlock=(Value.slice A n cap).ownBlock\/v'.ownBlock=some w.heap.size)->(n+m<=cap->v'=.slice A (n+m) cap)->wpListIn F r P ops Q rest (a.put o.dst v') w') :
 wpListIn F r P ops Q (o::rest) a w:=by
 obtain ⟨v',w',hr,h2,h3,h5,h6⟩:=vB (P:=P) w base t o.type e i z size bytes ht hi hz hsize hby hzs hsz A n cap xs hown ad m c news hl hnews h1 hm h63 hbytes hbase;refine wpListIn_plain hg fun K hK'=>?_
 unfold Oper.wpIn;refine ⟨by simp[Oper.about,hop,resolve,Target.leads,Sem.run_pure],?_⟩;rw[Oper.semAt_plain F _ _ (by rw[hop];intro c hc';cases hc')];simp[execOp,hop,resolve,invoke,builtin,hs,hx,hr,Result.andThen];exact hK' _ _ (hK v' w' h2 h3 h5 h6)
theorem zjw:(Tryz.prog.info? 24).map (fun i=>(i.zero,i.size,i.bytes))=some (some (.slice none 0 0),1,24):=by kernel_rfl
def CoI {α:Type} (ev:α->Value) (H T:Nat) (pre:List α) (W:World):Prop:=∃A n c,Blk W H [.slice A n c]/\W.ownsRow T 24 1 (.slice A n c) n (pre.map ev)/\pre.length=n
theorem CoI.free {α:Type} {ev:α->Value} {H T B:Nat} (hH:H<B):Rt.Free B T (CoI ev H T):=fun s W W' h ho=>by
 obtain ⟨A,n,c,h1,h2,h3⟩:=h;exact ⟨A,n,c,h1.out ho (by omega),zn h2 ho (fun k hk e=>by have:=(h2.lt k hk).1;omega),h3⟩
attribute [local go_sem] Oper.semAt_some
theorem zgM {α:Type} {g:Nat} {lb:Array Value} {V:Nat->α->Array Value->World->Prop} {Xs:List α} {M:Nat->Prop} (ev:α->Value) (h1:∀x,∃A n c,ev x=.slice A n c) (hV:∀T x av W,V T x av W->av=#[ev x]) (eg:∀args w,(callFunc g args).run Tryz.prog w=.ok (.enter g args) w)
 (w:World) (hg:Rt.Gives Tryz.prog g lb V Xs M w) (hM:∀k,M k->k<w.heap.size) (hX:Xs.length<=1000000) :
 Calls Tryz.prog 147 #[.slice none 0 0,.func (.func g) #[] lb] w fun e w'=>∃A n c,e=.returned (.slice A n c)/\Xs.length=n/\w'.ownsRow w.heap.size 24 1 (.slice A n c) n (Xs.map ev)/\Below w.heap.size w w':=by
 refine (callsIn_wide (n:=4)).1 ?_;obtain ⟨H,hH⟩:∃H,H=w.heap.size:=⟨_,rfl⟩
 obtain ⟨W1,hW1⟩:∃W1,w.alloc (.cells #[.slice none 0 0] 25)=W1:=⟨_,rfl⟩
 have hb1:Below w.heap.size w W1:=by rw[<-hW1];exact (Below.refl _ _).alloc (Nat.le_refl _) _
 have hs1:W1.heap.size=H+1:=by rw[<-hW1,hH];simp
 have hbx:Blk W1 H [.slice none 0 0]:=by rw[<-hW1,hH];exact Blk.new w [.slice none 0 0] _
 have HW1:=gI hW1;have HB1:=gI hb1;have HS1:=gI hs1;have HBX:=gI hbx;have HH:=gI hH;have HG:=gI hg;have HM:=gI hM;have HX:=gI hX;have HV:=gI hV;have H1:=gI h1;have EG:=gI eg;clear hW1 hb1 hs1 hbx hH hg hM hX hV h1 eg;refine callsIn_of_wp_marks Tryz.func147 rfl trivial ?_ rfl;simp only[Tryz.ntmps147,List.size_toArray,List.length_cons,List.length_nil,Nat.reduceAdd,Nat.reduceSub,Array.replicate_succ,Array.replicate_zero,List.push_toArray,List.append_toArray,List.nil_append,List.cons_append]
 gi_wp2_with fail
 rw[HW1.out,<-HH.out];have hs1:=HS1.out;refine Rt.YR (gf:=g) (lb:=lb) rfl EG.out HG.out HB1.out (fun T x av W h=>by rw[HV.out T x av W h];rfl)
  (fun T k=>k=H\/T<=k) ?hS ?hM
  (fun T pre W'=>CoI ev H T pre W') (fun _ _ _ _=>False)
  (fun T hT=>CoI.free (by omega)) (fun _ _ _ _ _ _ h _=>h.elim) (fun T hT=>⟨none,0,0,HBX.out,World.ownsRow_nil _ _ _ _,rfl⟩)
  (fun _ x a' _=>a'={tmps:=#[.slice none 0 0,.func (.func g) #[] lb,.pointer (some ⟨H,0,none⟩),undef,.slice none 0 0,ev x,.func (.func g) #[] lb,ev x,undef,undef,undef,undef,undef],defers:=[]})
  (fun _ x a' _ _ _ _ h _=>h)
  ?assign ?body ?done (fun _ _ _ _ _ _ _ _ _ _ h _=>h.elim)
 case hS=>
  rintro T k hT (rfl|hk)
  ·exact ⟨.inl (by omega),fun h=>by have:=HM.out _ h;have:=HH.out;omega⟩
  ·exact ⟨.inr hk,fun h=>by have:=HM.out _ h;have:=HH.out;omega⟩
 case hM=>
  intro k hk;have:=HM.out k hk;have:=HH.out;omega
 case assign=>
  rintro T l' m pre x av W' K hT hTW hv hI ho hK;have hav:=HV.out T x av W' hv;subst hav
  gi_wp2
  exact hK _ _ (Out.refl _ _) hI rfl
 case body=>
  rintro T l' m pre x post a' W2 hT hXs hsz ho ⟨A,n,c,h1,h2,h3⟩ rfl;obtain ⟨A1,n1,c1,hev⟩:=H1.out x;rw[hev];have z0:=h1.cell (i:=0) rfl;have z1:=h1.frozen 0;have hln:pre.length+1<=1000000:=by
   have:=HX.out;rw[hXs,List.length_append,List.length_cons] at this;omega
  obtain ⟨i0,hi0,hz0,hz1,hz2⟩:=info_parts zjw;have HA:=gI h1;have HB:=gI h2;have HN:=gI h3;have HE:=gI hev;have HMX:=gI (show n+1<=maxLen by unfold maxLen;omega);have HSZ:=gI (show T<=W2.heap.size from hsz);have hHT:H<T:=by omega
  clear h1 h2 hXs ho
  gi_wp2_with (gi_at_builtin
               go_loud (refine qN rfl (.tmp 8) (.tmp 10) 25 rfl T 24 i0 _ 1 24 Tryz.underlying25 hi0 hz0 hz1 hz2 rfl (by decide) A n c _ rfl (HB.out.alloc _) ⟨W2.heap.size,0,none⟩ 1 1 [.slice A1 n1 c1] rfl rfl (cell_one_new W2 _ _) (fun u hu=>by rw[List.mem_singleton.1 hu];rfl) (by decide) HMX.out (by omega) (by rw[World.size_alloc];have:=HSZ.out;omega) ?_)
               intro v6 w6 ho6 hg6 hn6 hfit6;refine Classical.byContradiction fun hcontra=>?_)
  obtain ⟨A7,d7,hv7,-⟩:=zC ho6;subst hv7;have hne6:(Value.slice A n c).ownBlock≠some H:=fun e=>by have:=(HB.out.lt H e).1;omega
  have hb6:=(HA.out.alloc (.cells #[.slice A1 n1 c1] 24)).grown hg6 hne6;have e7:=hb6.cell (i:=0) rfl;have y7:=hb6.frozen 0;have FIN:=gI (show Out (fun k=>k=H\/T<=k) W2 (w6.setCell ⟨H,0,none⟩ (.slice A7 (n+1) d7))/\CoI ev H T (pre++[x]) (w6.setCell ⟨H,0,none⟩ (.slice A7 (n+1) d7)) from by
   refine ⟨(((Out.refl (fun k=>k=H\/T<=k) W2).alloc _).grown hg6 (fun k e=>.inl (.inr (HB.out.lt k e).1))).setCell (p:=⟨H,0,none⟩) (.inl (.inl rfl)) _,A7,n+1,d7,hb6.set 0 _,?_,by rw[List.length_append,HN.out];rfl⟩;have e9:(pre++[x]).map ev=pre.map ev++[.slice A1 n1 c1]:=by rw[List.map_append];simp[HE.out]
   rw[e9];exact ownsRow_setCell_below ho6 (a:=⟨H,0,none⟩) hHT _)
  clear ho6 hg6 hn6 hfit6 hb6 hne6 z0 z1
  apply hcontra
  clear hcontra
  gi_wp2
  exact FIN.out
 case done=>
  rintro T D W2 hT hD ho ⟨A,n,c,h1,h2,h3⟩ hK;have z0:=h1.cell (i:=0) rfl;have hlt:=(Array.getElem?_eq_some_iff.1 hK).1;have hbw:Below w.heap.size w W2:=HB1.out.trans (ho.below (fun k _ hk=>by
   have hk:k=H\/T<=k:=hk;have:=HH.out
   omega) HB1.out.size)
  have HK:=gI hK;have FIN:=gI (show Xs.length=n/\(W2.putObj D (.deferred none)).ownsRow w.heap.size 24 1 (.slice A n c) n (Xs.map ev)/\Below w.heap.size w (W2.putObj D (.deferred none)) from by
   have hDT:D<T:=by omega
   refine ⟨h3,?_,hbw.grown (grownBy_putObj' _ D _) (by have:=hbw.size;omega) (fun k e=>by cases e;have:=HH.out;omega)⟩;have h5:=zn h2 (Out.of_grown (S:=fun k=>k=D) (grownBy_putObj' W2 D (.deferred none)) (fun k e _=>by injection e with e;exact e.symm)) (fun k hk e=>by have:=(h2.lt k hk).1;omega);exact zU h5 (by have:=HH.out;omega))
  clear h1 h2 h3 ho hK hbw
  gi_wp2
  refine ⟨by simp,.inl ⟨_,_,rfl,run_takeDeferred HK.out,?_⟩⟩;refine ⟨.slice A n c,?_,A,n,c,rfl,FIN.out⟩;simp[results,Tryz.results147,go_sem]
theorem zel {α:Type} {g:Nat} {lb:Array Value} {V:Nat->α->Array Value->World->Prop} {Xs:List α} {M:Nat->Prop} (ev:α->Value) (h1:∀x,∃A n c,ev x=.slice A n c) (hV:∀T x av W,V T x av W->av=#[ev x]) (eg:∀args w,(callFunc g args).run Tryz.prog w=.ok (.enter g args) w)
 (w:World) (hg:Rt.Gives Tryz.prog g lb V Xs M w) (hM:∀k,M k->k<w.heap.size) (hX:Xs.length<=1000000) :
 Calls Tryz.prog 110 #[.func (.func g) #[] lb] w fun e w'=>∃A n c,e=.returned (.slice A n c)/\Xs.length=n/\w'.ownsRow w.heap.size 24 1 (.slice A n c) n (Xs.map ev)/\Below w.heap.size w w':=by
 have HA:=gI (zgM ev h1 hV eg w hg hM hX);clear h1 hV eg hg hM hX
 go_enter Tryz.func110,Tryz.ntmps110
 go_wp2_with fail
 refine HA.out.mono ?_;rintro e w1 ⟨A,n,c,rfl,h2⟩;have H2:=gI h2;clear h2
 go_wp2
 go_ret
 exact ⟨A,n,c,rfl,H2.out⟩
end
end Go.Proofs.YtcdkopbjlakebaaGreatDoor
