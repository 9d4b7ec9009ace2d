/- Texts put together, for a law: Qs, Heap, HeapB, Nq, Qi. -/
import Derived.Laws.OwnMore
import Derived.BigRegion
import Derived.Maps.AppendAt
import Derived.Test.YtcdkopbjlakebaaGreatDoorKP11
set_option maxRecDepth 100000
set_option maxHeartbeats 8000000
namespace Go.Proofs.YtcdkopbjlakebaaGreatDoor
section
open Go.RowKit Me Rn Hp Mw
variable {w w':World} {lo hi Q wd cp:Nat} {H:List Qe} {rb:Option Nat}
theorem Yc (h:QAt w lo hi Q wd H rb cp) {i j:Nat} (hi':i<H.length) (hj':j<H.length) :
 Calls Tryz.prog 248 #[.pointer (some ⟨Q,0,none⟩),.int .i64 (i:Int),.int .i64 (j:Int)] w fun e w'=>e=.returned (.tuple #[])/\QAt w' lo hi Q wd (swp H i j) rb cp/\Out (fun k=>rb=some k) w w':=by
 obtain ⟨g,B,nb,cb,hg,c1,p1,-,-,-,-,-⟩:=h.at hi';obtain ⟨g',C,nc,cc,hg',c2,p2,-,-,-,-,-⟩:=h.at hj';rw[hg] at hg';injection hg' with hg';subst hg';obtain ⟨A,n,hb,hw,hr,hn⟩:=h.box;have q1:=hb.cell (i:=1) rfl;obtain ⟨g2,hA,hgb,-,f1,o1⟩:=vC (v:=.slice C nc cc) hw (i:=i) (by omega);subst hA;have hgg:g2=g:=by
  have:(some g2:Option Nat)=some g:=hr.trans hg;injection this
 subst hgg;obtain ⟨g3,hA,-,c30,f2,o2⟩:=vC (v:=.slice B nb cb) o1 (i:=j) (by omega);have hA3:g3=g2:=by injection hA with hA;injection hA with hA;exact hA.symm
 subst hA3;obtain ⟨u3,c3⟩:∃u,(w.setCell ⟨g3,i,none⟩ (.slice C nc cc)).cell? ⟨g3,j,none⟩=some u:=by
  rw[List.getElem?_eq_getElem (by simp;omega)] at c30;exact ⟨_,c30⟩
 clear c30;have hQg:Q≠g3:=by omega
 have ho1:Out (fun k=>rb=some k) w ((w.setCell ⟨g3,i,none⟩ (.slice C nc cc)).setCell ⟨g3,j,none⟩ (.slice B nb cb)):=((Out.refl _ w).setCell (p:=⟨g3,i,none⟩) (.inl hg) _).setCell (p:=⟨g3,j,none⟩) (.inl hg) _;have hq:QAt ((w.setCell ⟨g3,i,none⟩ (.slice C nc cc)).setCell ⟨g3,j,none⟩ (.slice B nb cb)) lo hi Q wd (swp H i j) rb cp:=by
  refine ⟨⟨_,n,(hb.other (p:=⟨g3,i,none⟩) (Ne.symm hQg) _).other (p:=⟨g3,j,none⟩) (Ne.symm hQg) _,?_,hr,by rw[zB,hn]⟩,fun p hp=>?_,h.lo,by rw[zB];exact h.few,h.wpos⟩
  ·have e:(swp H i j).map Prod.fst=((H.map Prod.fst).set i (.slice C nc cc)).set j (.slice B nb cb):=by
    unfold swp;rw[List.map_set,List.map_set,p1,p2]
   rw[e];exact o2
  ·have hp':=h.el p ((Zz hi' hj').mem_iff.1 hp);exact hp'.out ho1 (by have:=h.lo;have:=h.lt;omega) (fun k _ hk e=>by have:=h.row k e;have:=h.lo;omega)
 have FIN:=gI (And.intro hq ho1);have e1:(i:Int)<(n:Int):=by omega
 have e2:(j:Int)<(n:Int):=by omega
 have f3:(w.setCell ⟨g3,i,none⟩ (.slice C nc cc)).frozen? ⟨g3,j,none⟩=false:=f2;clear hq ho1 o1 o2 hb hw h hr hg hn hi' hj' p1 p2 hA hgb
 go_enter Tryz.func248,Tryz.ntmps248
 go_wp2_with fail
 go_region
 all_goals
  go_wp2
  go_end0
  exact ⟨rfl,FIN.out.1.past (Below.refl _ _).drew,FIN.out.2.trans (xu _ _)⟩
theorem vB {P:Program} (w:World) (base:Nat) (t ty e:TypeId) (i:TypeInfo) (z:Value) (size bytes:Nat) (ht:P.underlying t=some (.slice e)) (hi:P.info? e=some i) (hz:i.zero=some z)
 (hsize:i.size=size) (hby:i.bytes=bytes) (hzs:z.cells.size=size) (hsz:0<size)
 (A:Option Addr) (n cap:Nat) (xs:List Value) (hown:w.ownsRow base e size (.slice A n cap) n xs)
 (ad:Addr) (m c:Nat) (news:List Value) (hl:news.length=m*size) (hnews:∀j u,news[j]?=some u->w.cell? (ad.add j)=some u) (h1:∀u∈news,u.oneCell'=true)
 (hm:0<m) (h63:n+m<=maxLen) (hbytes:(n+m)*bytes<=140737488355328) (hbase:base<=w.heap.size) :
 ∃v' w',(Builtin.append_ #[t,t] ty #[.slice A n cap,.slice (some ad) m c]).run P w=.ok v' w'/\w'.ownsRow base e size v' (n+m) (xs++news)/\w.grownBy w' (Value.slice A n cap).ownBlock /\
  (v'.ownBlock=(Value.slice A n cap).ownBlock\/v'.ownBlock=some w.heap.size)/\(n+m<=cap->v'=.slice A (n+m) cap):=by
 by_cases hr:n+m<=cap
 ·rcases hown.2 with ⟨h,_⟩|⟨g,cap',cur,h,_⟩
  ·injection h with _ _ h;omega
  ·injection h with ha _ hc;subst ha;obtain ⟨w',hrun,ho,hg⟩:=run_append_fits (P:=P) w base t ty e i size ht hi hsize g n cap xs hown ad m c news hl hnews h1 hr;exact ⟨_,w',hrun,ho,hg,.inl rfl,fun _=>rfl⟩
 ·obtain ⟨v',w',hrun,h2,h3,-,h5⟩:=run_append_own_at (P:=P) w base t ty e i z size bytes ht hi hz hsize hby hzs hsz (.slice A n cap) n xs hown ad m c news hl hnews h1 h63 hbytes hbase;exact ⟨v',w',hrun,h2,h3,h5,fun h=>absurd h hr⟩
theorem QB {P:Program} {ops:Array Oper} {o:Oper} {a:Act} {w:World} {K:Act->World->Prop} {Q:Exit->Act->World->Prop} {E:Prop}
 (hg:o.guard=none) (s x:Operand) (t:TypeId) (hop:o.op=Op.call {callee:=Callee.builtin Builtin.append,args:=#[s,x],argTypes:=#[t,t]})
 (base:Nat) (e:TypeId) (i:TypeInfo) (z:Value) (size bytes:Nat) (ht:P.underlying t=some (.slice e)) (hi:P.info? e=some i) (hz:i.zero=some z)
 (hsize:i.size=size) (hby:i.bytes=bytes) (hzs:z.cells.size=size) (hsz:0<size)
 (A:Option Addr) (n cap:Nat) (xs:List Value) (hs:a.eval s=.slice A n cap) (hown:w.ownsRow base e size (.slice A n cap) n xs)
 (ad:Addr) (m c:Nat) (news:List Value) (hx:a.eval x=.slice (some ad) m c) (hl:news.length=m*size) (hnews:∀j u,news[j]?=some u->w.cell? (ad.add j)=some u) (h1:∀u∈news,u.oneCell'=true)
 (hm:0<m) (h63:n+m<=maxLen) (hbytes:(n+m)*bytes<=140737488355328) (hbase:base<=w.heap.size)
 (hK:∀v' w',w'.ownsRow base e size v' (n+m) (xs++news)->w.grownBy w' (Value.slice A n cap).ownBlock->(v'.ownBlock=(Value.slice A n cap).ownBlock\/v'.ownBlock=some w.heap.size)->(n+m<=cap->v'=.slice A (n+m) cap)->K (a.put o.dst v') w') :
 if Region.wanted o (yielded ops a.tmps)=true then Oper.wp P o a w K Q else E:=by
 have hw:Region.wanted o (yielded ops a.tmps)=true:=by simp[Region.wanted,hg]
 rw[if_pos hw];obtain ⟨v',w',hr,h2,h3,h5,h6⟩:=vB (P:=P) w base t o.type e i z size bytes ht hi hz hsize hby hzs hsz A n cap xs hown ad m c news hl hnews h1 hm h63 hbytes hbase;unfold Oper.wp execOp;simp only[hop,resolve,invoke,builtin,Sem.run_bind,Sem.run_pure,Result.andThen_ok,List.map_toArray,List.map_cons,List.map_nil,hs,hx,hr];exact hK v' w' h2 h3 h5 h6
theorem xR {P:Program} {ops:Array Oper} {rest:List Oper} {o:Oper} {a:Act} {w:World} {Q:Exit->Act->World->Prop}
 (hg:o.guard=none) (s x:Operand) (t:TypeId) (hop:o.op=Op.call {callee:=Callee.builtin Builtin.append,args:=#[s,x],argTypes:=#[t,t]})
 (base:Nat) (e:TypeId) (i:TypeInfo) (z:Value) (size bytes:Nat) (ht:P.underlying t=some (.slice e)) (hi:P.info? e=some i) (hz:i.zero=some z)
 (hsize:i.size=size) (hby:i.bytes=bytes) (hzs:z.cells.size=size) (hsz:0<size)
 (A:Option Addr) (n cap:Nat) (xs:List Value) (hs:a.eval s=.slice A n cap) (hown:w.ownsRow base e size (.slice A n cap) n xs)
 (ad:Addr) (m c:Nat) (news:List Value) (hx:a.eval x=.slice (some ad) m c) (hl:news.length=m*size) (hnews:∀j u,news[j]?=some u->w.cell? (ad.add j)=some u) (h1:∀u∈news,u.oneCell'=true)
 (hm:0<m) (h63:n+m<=maxLen) (hbytes:(n+m)*bytes<=140737488355328) (hbase:base<=w.heap.size)
 (hK:∀v' w',w'.ownsRow base e size v' (n+m) (xs++news)->w.grownBy w' (Value.slice A n cap).ownBlock->(v'.ownBlock=(Value.slice A n cap).ownBlock\/v'.ownBlock=some w.heap.size)->(n+m<=cap->v'=.slice A (n+m) cap)->wpList P ops Q rest (a.put o.dst v') w') :
 wpList P ops Q (o::rest) a w:=
 wpList_plain hg fun _ hK2=>by
  obtain ⟨v',w',hr,h2,h3,h5,h6⟩:=vB (P:=P) w base t o.type e i z size bytes ht hi hz hsize hby hzs hsz A n cap xs hown ad m c news hl hnews h1 hm h63 hbytes hbase;unfold Oper.wp execOp;simp only[hop,resolve,invoke,builtin,Sem.run_bind,Sem.run_pure,Result.andThen_ok,List.map_toArray,List.map_cons,List.map_nil,hs,hx,hr];exact hK2 _ _ (hK v' w' h2 h3 h5 h6)
theorem Vu:(Tryz.prog.info? 92).map (fun i=>(i.zero,i.size,i.bytes))=some (some (.slice none 0 0),1,24):=by kernel_rfl
theorem zjH (h:QAt w lo hi Q wd H rb cp) {n:Nat} (hn1:H.length=n+1) :
 Calls Tryz.prog 246 #[.pointer (some ⟨Q,0,none⟩)] w fun e w'=>e=.returned (.iface 92 (at' H n).1)/\QAt w' lo hi Q wd (H.take n) rb cp/\Out (fun k=>k=Q) w w':=by
 obtain ⟨g,B,nb,cb,hg,c1,p1,-,-,-,-,-⟩:=h.at (k:=n) (by omega);obtain ⟨A,m,hb,hw,hr,hn⟩:=h.box;have q1:=hb.cell (i:=1) rfl;have f1:=hb.frozen 1;obtain ⟨g2,hA,-,-,-,-⟩:=vC (v:=undef) hw (i:=n) (by omega);subst hA;have hgg:g2=g:=by
  have:(some g2:Option Nat)=some g:=hr.trans hg;injection this
 subst hgg;have hm:m=n+1:=by omega
 subst hm;have hc:=Xj hw;have hgQ:g2≠Q:=by have:=h.row g2 hg;omega
 have FIN:=gI (show QAt (w.setCell ⟨Q,1,none⟩ (.slice (some ⟨g2,0,none⟩) n cp)) lo hi Q wd (H.take n) rb cp/\Out (fun k=>k=Q) w (w.setCell ⟨Q,1,none⟩ (.slice (some ⟨g2,0,none⟩) n cp)) from by
  have ho:Out (fun k=>k=Q) w (w.setCell ⟨Q,1,none⟩ (.slice (some ⟨g2,0,none⟩) n cp)):=(Out.refl (fun k=>k=Q) w).setCell (p:=⟨Q,1,none⟩) (.inl rfl) _;refine ⟨⟨⟨_,n,hb.set 1 _,?_,hr,by rw[List.length_take];omega⟩,fun p hp=>(h.el p (List.mem_of_mem_take hp)).out ho (by have:=h.lo;have:=h.lt;omega) (fun k _ hk e=>by have:=h.lo;omega),h.lo,by rw[List.length_take];have:=h.few;omega,h.wpos⟩,ho⟩;have h1:=zn (zlv hw (m:=n) (by omega) (fun e=>by cases e)) ho (fun k hk e=>hgQ (by injection hk with hk;exact hk.trans e));rw[Nat.mul_one,<-List.map_take] at h1;exact h1)
 rw[p1];have e1:(n:Int)<(n:Int)+1:=by omega
 have e2:(n:Int)<=(cp:Int):=by omega
 have hn64:n<=1000000:=by have:=h.few;omega
 clear hb hw hr hn h hg p1 hn1 hgQ
 go_enter Tryz.func246,Tryz.ntmps246
 go_wp2
 go_ret
 exact ⟨rfl,FIN.out⟩
theorem ZW {P:Program} {I T e:TypeId} (hT:P.underlying T=some (.slice e)) (v:Value) (w:World):(Instr.typeAssert (.iface T v) I T false).run P w=.ok v w:=by
 simp[Instr.typeAssert,run_underlying hT]
theorem zcx (h:QAt w lo hi Q wd H rb cp) {p:Qe} (hp:Qv w lo hi wd p) {A A1 A7:Option Addr} {m n1 c1 d7:Nat} (hr:(Value.slice A m cp).ownBlock=rb) (hn:H.length=m) (hpc:p=(.slice A1 n1 c1,p.2)) (hb:Blk w Q [.int .i64 (wd:Int),.slice A m cp]) {w6 W0:World} (hb0:Below w.heap.size w W0)
 (ho6:w6.ownsRow (Q+1) 92 1 (.slice A7 (m+1) d7) (m+1) (H.map Prod.fst++[.slice A1 n1 c1])) (hg6:W0.grownBy w6 (Value.slice A m cp).ownBlock)
 (hn6:(Value.slice A7 (m+1) d7).ownBlock=(Value.slice A m cp).ownBlock\/(Value.slice A7 (m+1) d7).ownBlock=some W0.heap.size) (hfit:m+1<=cp->Value.slice A7 (m+1) d7=.slice A (m+1) cp)
 (hb6:Blk w6 Q [.int .i64 (wd:Int),.slice A m cp]) (hf:m+1<=1000000) :
 ∃rb' cp',QAt (w6.setCell ⟨Q,1,none⟩ (.slice A7 (m+1) d7)) lo hi Q wd (H++[p]) rb' cp'/\Out (fun k=>k=Q\/rb=some k) w (w6.setCell ⟨Q,1,none⟩ (.slice A7 (m+1) d7))/\(H.length+1<=cp->rb'=rb/\cp'=cp)/\∀k,rb'=some k->rb=some k\/w.heap.size<=k:=by
 have ho:Out (fun k=>k=Q\/rb=some k) w (w6.setCell ⟨Q,1,none⟩ (.slice A7 (m+1) d7)):=
  ((Out.of_below hb0).grown hg6 (fun k e=>.inl (.inr (hr.symm.trans e)))).setCell (p:=⟨Q,1,none⟩) (.inl (.inl rfl)) _
 have hlo:=h.lo;have hlt:=h.lt;have hrow:=h.row;refine ⟨_,d7,⟨⟨_,_,hb6.set 1 _,?_,rfl,by rw[List.length_append,hn];rfl⟩,fun q hq=>?_,hlo,by rw[List.length_append,hn];exact hf,h.wpos⟩,ho,fun hc=>?_,fun k hk=>?_⟩
 ·have e:(H++[p]).map Prod.fst=H.map Prod.fst++[.slice A1 n1 c1]:=by rw[List.map_append,hpc];rfl
  rw[e];exact ownsRow_setCell_below ho6 (a:=⟨Q,1,none⟩) (show Q<Q+1 by omega) _
 ·have hq':Qv w lo hi wd q:=by
   rcases List.mem_append.1 hq with hq|hq
   ·exact h.el q hq
   ·rw[List.mem_singleton.1 hq];exact hp
  exact hq'.out ho (by omega) (fun k _ hk e=>by
   rcases e with e|e
   ·omega
   ·have:=hrow k e;omega)
 ·rw[hn] at hc;have e:=hfit hc;injection e with e1 _ e2;subst e1 e2;refine ⟨?_,rfl⟩
  revert hr
  clear hfit hn6 hg6 ho6 ho
  cases A7<;>exact fun hr=>hr
 ·rcases hn6 with e|e
  ·exact .inl (hr.symm.trans (e.symm.trans hk))
  ·rw[e] at hk;injection hk with hk;have:=hb0.size;exact .inr (by omega)
theorem zhv (h:QAt w lo hi Q wd H rb cp) {p:Qe} (hp:Qv w lo hi wd p) (hf:H.length+1<=1000000) :
 Calls Tryz.prog 247 #[.pointer (some ⟨Q,0,none⟩),.iface 92 p.1] w fun e w'=>e=.returned (.tuple #[]) /\
  ∃rb' cp',QAt w' lo hi Q wd (H++[p]) rb' cp'/\Out (fun k=>k=Q\/rb=some k) w w'/\(H.length+1<=cp->rb'=rb/\cp'=cp)/\∀k,rb'=some k->rb=some k\/w.heap.size<=k:=by
 obtain ⟨A,m,hb,hw,hr,hn⟩:=h.box;have q1:=hb.cell (i:=1) rfl;obtain ⟨A1,n1,c1,hp1,-⟩:=hp.2.2;have HP:=gI hp;have H0:=gI h;have HB:=gI hb;have HW:=gI hw;have HR:=gI hr;have HN:=gI hn;have hm:m+1<=1000000:=by omega
 obtain ⟨i0,hi0,hz0,hz1,hz2⟩:=info_parts Vu;have hpc:p=(.slice A1 n1 c1,p.2):=by rw[<-hp1]
 have HPC:=gI hpc;rw[hp1];have HMX:=gI (show m+1<=maxLen by unfold maxLen;omega);have hQlt:=h.lt;have HQ:=gI hQlt;clear hb hw hr hn h hp hp1 hpc hf;have ta:=fun (v:Value) (w:World)=>ZW (P:=Tryz.prog) (I:=20) Tryz.underlying92 v w
 go_enter Tryz.func247,Tryz.ntmps247
 go_wp2_with fail
 go_region_law (go_loud (refine QB (w:=w.drew.alloc (.cells #[.slice A1 n1 c1] 92)) rfl (.tmp 8) (.tmp 11) 94 rfl (Q+1) 92 i0 _ 1 24 Tryz.underlying94 hi0 hz0 hz1 hz2 rfl (by decide) A m cp _ (by simp[Act.eval]) (HW.out.alloc _) ⟨w.heap.size,0,none⟩ 1 1 [.slice A1 n1 c1] (by simp[Act.eval]) rfl (cell_one_new w.drew _ _) (fun u hu=>by rw[List.mem_singleton.1 hu];rfl) (by decide) HMX.out (by omega) (by have:=HQ.out;simp;omega) ?_)
                intro v6 w6 ho6 hg6 hn6 hfit6;obtain ⟨A7,d7,rfl,hnd7⟩:=zC ho6;have hne6:(Value.slice A m cp).ownBlock≠some Q:=fun e=>by have:=(HW.out.lt Q e).1;omega
                have hb6:=(HB.out.drew.alloc (.cells #[.slice A1 n1 c1] 92)).grown hg6 hne6;have e7:=hb6.cell (i:=1) rfl;have y7:=hb6.frozen 1;have HO6:=gI (And.intro ho6 (And.intro hg6 (And.intro hn6 (And.intro hfit6 hb6))));clear ho6 hg6 hn6 hfit6 hb6 hne6)
 all_goals
  go_wp2
  go_end0
  exact ⟨rfl,zcx H0.out HP.out HR.out HN.out HPC.out HB.out ((Below.refl _ w).drew.alloc (Nat.le_refl _) _) HO6.out.1 HO6.out.2.1 HO6.out.2.2.1 HO6.out.2.2.2.1 HO6.out.2.2.2.2 hm⟩
end
section
open Go.RowKit Me Rn Hp Mw
variable {w w':World} {lo hi Q wd cp:Nat} {H:List Qe} {rb:Option Nat}
abbrev qif (Q:Nat):Value:=.iface 152 (.pointer (some ⟨Q,0,none⟩))
theorem Zr {f:Nat} {l:List Qe} {i n j:Nat} (h:¬n<=2*i+1) (hj:j=if decide (2*i+2<n)&&ltQ (at' l (2*i+2)) (at' l (2*i+1)) then 2*i+2 else 2*i+1) :
 (down ltQ (f+1) l i n).1=(if ltQ (at' l j) (at' l i) then down ltQ f (swp l i j) j n else (l,i)).1:=by
 subst hj;rw[down,if_neg h]
theorem zcT (f:Nat) (a:Addr) (w:World):(method (f+1) 152 (.pointer (some a)) "Less").run Tryz.prog w=.ok (245,.pointer (some a)) w:=by kernel_rfl
theorem Vp (f:Nat) (a:Addr) (w:World):(method (f+1) 152 (.pointer (some a)) "Swap").run Tryz.prog w=.ok (248,.pointer (some a)) w:=by kernel_rfl
theorem zbp (f:Nat) (a:Addr) (w:World):(method (f+1) 152 (.pointer (some a)) "Len").run Tryz.prog w=.ok (77,.pointer (some a)) w:=by kernel_rfl
theorem zhX (f:Nat) (a:Addr) (w:World):(method (f+1) 152 (.pointer (some a)) "Push").run Tryz.prog w=.ok (247,.pointer (some a)) w:=by kernel_rfl
theorem zj9 (f:Nat) (a:Addr) (w:World):(method (f+1) 152 (.pointer (some a)) "Pop").run Tryz.prog w=.ok (246,.pointer (some a)) w:=by kernel_rfl
theorem zc1 (h:QAt w lo hi Q wd H rb cp) {i n:Nat} (hi':i<=n) (hn:n<=H.length) :
 Calls Tryz.prog 117 #[qif Q,.int .i64 (i:Int),.int .i64 (n:Int)] w fun e w'=>∃b:Bool,e=.returned (.bool b)/\QAt w' lo hi Q wd (down ltQ n H i n).1 rb cp/\Out (fun k=>rb=some k) w w':=by
 have hf:=h.few;have hml:=zcT;have hms:=Vp;have HQ0:=gI h;have HN:=gI hn;clear h
 go_enter Tryz.func117,Tryz.ntmps117
 go_wp2
 go_loopw [7] (fun x wr=>∃(k f:Nat) (H':List Qe),x=.int .i64 (k:Int)/\k<=n/\Hid (f+k>=n)/\H'.length=H.length/\Hid (QAt wr lo hi Q wd H' rb cp)/\Hid (Out (fun k=>rb=some k) w wr)/\Hid ((down ltQ n H i n).1=(down ltQ f H' k n).1)) (fun x _=>n-(intOf x).toNat)
 case atStart=>exact ⟨i,n,H,rfl,hi',gI (by omega),rfl,HQ0,gI (.refl _ _),gI rfl⟩
 case round=>
  clear HQ0;obtain ⟨k,f,H',rfl,hk,HF,hl,HQ,HO,HD⟩:=hrel;have hk64:k<=1000000:=by have:=HN.out;omega
  by_cases h1:n<=2*k+1
  ·have e1:(n:Int)<=2*(k:Int)+1:=by omega
   have hD:(down ltQ f H' k n).1=H':=by cases f<;>simp[down,h1]
   go_wp2
   go_ret
   refine ⟨_,rfl,?_,HO.out⟩;rw[HD.out,hD];exact HQ.out
  ·have e1:¬(n:Int)<=2*(k:Int)+1:=by omega
   by_cases h2:2*k+2<n
   ·have e2:2*(k:Int)+1+1<(n:Int):=by omega
    have hl1:2*k+1<H'.length:=by have:=HN.out;omega
    have hl2:2*k+2<H'.length:=by have:=HN.out;omega
    go_wp2_with fail
    rw[show 2*(k:Int)+1+1=((2*k+2:Nat):Int) by omega,show 2*(k:Int)+1=((2*k+1:Nat):Int) by omega];refine (Yd HQ.out hl2 hl1).mono ?_;obtain ⟨r1,hr1⟩:∃r,r=ltQ (at' H' (2*k+2)) (at' H' (2*k+1)):=⟨_,rfl⟩
    rw[<-hr1];have HR1:=gI hr1;clear hr1;rintro e w1 ⟨rfl,hb1⟩;have HQ2:=gI (HQ.out.past hb1);have HO2:=gI (HO.out.trans (.of_below hb1));clear hb1
    cases r1 with
    |true=>
     go_wp2_with fail
     have hjl:2*k+2<H'.length:=by have:=HN.out;omega
     have hkl:k<H'.length:=by have:=HN.out;omega
     refine (Yd HQ2.out hjl hkl).mono ?_;obtain ⟨r2,hr2⟩:∃r,r=ltQ (at' H' (2*k+2)) (at' H' k):=⟨_,rfl⟩
     rw[<-hr2];have HR2:=gI hr2;clear hr2;rintro e w2 ⟨rfl,hb2⟩;have HQ3:=gI (HQ2.out.past hb2);have HO3:=gI (HO2.out.trans (.of_below hb2));clear hb2
     cases r2 with
     |false=>
      have hD:(down ltQ f H' k n).1=H':=by
       obtain ⟨f0,rfl⟩:∃f0,f=f0+1:=⟨f-1,by have:=HF.out;omega⟩
       rw[Zr (j:=2*k+2) h1 (by rw[<-HR1.out];simp[h2]),<-HR2.out];rfl
      go_wp2
      go_ret
      refine ⟨_,rfl,?_,HO3.out⟩;rw[HD.out,hD];exact HQ3.out
     |true=>
      go_wp2_with fail
      try rw[show 2*(k:Int)+1+1=((2*k+2:Nat):Int) by omega]
      refine (Yc HQ3.out hkl hjl).mono ?_;rintro e w3 ⟨rfl,hq3,ho3⟩;have HQ4:=gI hq3;have HO4:=gI (HO3.out.trans ho3);have HD4:=gI (show (down ltQ n H i n).1=(down ltQ (f-1) (swp H' k (2*k+2)) (2*k+2) n).1 by
       rw[HD.out];obtain ⟨f0,rfl⟩:∃f0,f=f0+1:=⟨f-1,by have:=HF.out;omega⟩
       rw[Zr (j:=2*k+2) h1 (by rw[<-HR1.out];simp[h2]),<-HR2.out]
       rfl)
      clear hq3 ho3
      go_wp2
      go_roundw
      case rel=>exact ⟨2*k+2,f-1,swp H' k (2*k+2),by go_num,by omega,gI (by have:=HF.out;omega),by rw[zB];exact hl,HQ4,HO4,HD4⟩
      case measure=>simp[intOf];omega
    |false=>
     go_wp2_with fail
     have hjl:2*k+1<H'.length:=by have:=HN.out;omega
     have hkl:k<H'.length:=by have:=HN.out;omega
     refine (Yd HQ2.out hjl hkl).mono ?_;obtain ⟨r2,hr2⟩:∃r,r=ltQ (at' H' (2*k+1)) (at' H' k):=⟨_,rfl⟩
     rw[<-hr2];have HR2:=gI hr2;clear hr2;rintro e w2 ⟨rfl,hb2⟩;have HQ3:=gI (HQ2.out.past hb2);have HO3:=gI (HO2.out.trans (.of_below hb2));clear hb2
     cases r2 with
     |false=>
      have hD:(down ltQ f H' k n).1=H':=by
       obtain ⟨f0,rfl⟩:∃f0,f=f0+1:=⟨f-1,by have:=HF.out;omega⟩
       rw[Zr (j:=2*k+1) h1 (by rw[<-HR1.out];simp),<-HR2.out];rfl
      go_wp2
      go_ret
      refine ⟨_,rfl,?_,HO3.out⟩;rw[HD.out,hD];exact HQ3.out
     |true=>
      go_wp2_with fail
      try rw[show 2*(k:Int)+1=((2*k+1:Nat):Int) by omega]
      refine (Yc HQ3.out hkl hjl).mono ?_;rintro e w3 ⟨rfl,hq3,ho3⟩;have HQ4:=gI hq3;have HO4:=gI (HO3.out.trans ho3);have HD4:=gI (show (down ltQ n H i n).1=(down ltQ (f-1) (swp H' k (2*k+1)) (2*k+1) n).1 by
       rw[HD.out];obtain ⟨f0,rfl⟩:∃f0,f=f0+1:=⟨f-1,by have:=HF.out;omega⟩
       rw[Zr (j:=2*k+1) h1 (by rw[<-HR1.out];simp),<-HR2.out]
       rfl)
      clear hq3 ho3
      go_wp2
      go_roundw
      case rel=>exact ⟨2*k+1,f-1,swp H' k (2*k+1),by go_num,by omega,gI (by have:=HF.out;omega),by rw[zB];exact hl,HQ4,HO4,HD4⟩
      case measure=>simp[intOf];omega
   ·have e2:¬2*(k:Int)+1+1<(n:Int):=by omega
    have HQ2:=HQ;have HO2:=HO
    go_wp2_with fail
    rw[show 2*(k:Int)+1=((2*k+1:Nat):Int) by omega];have hjl:2*k+1<H'.length:=by have:=HN.out;omega
    have hkl:k<H'.length:=by have:=HN.out;omega
    refine (Yd HQ2.out hjl hkl).mono ?_;obtain ⟨r2,hr2⟩:∃r,r=ltQ (at' H' (2*k+1)) (at' H' k):=⟨_,rfl⟩
    rw[<-hr2];have HR2:=gI hr2;clear hr2;rintro e w2 ⟨rfl,hb2⟩;have HQ3:=gI (HQ2.out.past hb2);have HO3:=gI (HO2.out.trans (.of_below hb2));clear hb2
    cases r2 with
    |false=>
     have hD:(down ltQ f H' k n).1=H':=by
      obtain ⟨f0,rfl⟩:∃f0,f=f0+1:=⟨f-1,by have:=HF.out;omega⟩
      rw[Zr (j:=2*k+1) h1 (by simp[h2]),<-HR2.out];rfl
     go_wp2
     go_ret
     refine ⟨_,rfl,?_,HO3.out⟩;rw[HD.out,hD];exact HQ3.out
    |true=>
     go_wp2_with fail
     try rw[show 2*(k:Int)+1=((2*k+1:Nat):Int) by omega]
     refine (Yc HQ3.out hkl hjl).mono ?_;rintro e w3 ⟨rfl,hq3,ho3⟩;have HQ4:=gI hq3;have HO4:=gI (HO3.out.trans ho3);have HD4:=gI (show (down ltQ n H i n).1=(down ltQ (f-1) (swp H' k (2*k+1)) (2*k+1) n).1 by
      rw[HD.out];obtain ⟨f0,rfl⟩:∃f0,f=f0+1:=⟨f-1,by have:=HF.out;omega⟩
      rw[Zr (j:=2*k+1) h1 (by simp[h2]),<-HR2.out]
      rfl)
     clear hq3 ho3
     go_wp2
     go_roundw
     case rel=>exact ⟨2*k+1,f-1,swp H' k (2*k+1),by go_num,by omega,gI (by have:=HF.out;omega),by rw[zB];exact hl,HQ4,HO4,HD4⟩
     case measure=>simp[intOf];omega
end
section
open Go.RowKit Me Rn Hp Mw
variable {w w':World} {lo hi Q wd cp:Nat} {H:List Qe} {rb:Option Nat}
theorem zjj {l:List Qe} {i j:Nat} (h:i≠j):swp l i j=swp l j i:=by
 unfold swp;exact List.set_comm _ _ h
theorem zld {f:Nat} {l:List Qe}:up ltQ f l 0=l:=by cases f<;>simp[up]
theorem zle {f:Nat} {l:List Qe} {j:Nat} (h:ltQ (at' l j) (at' l ((j-1) / 2))=false):up ltQ f l j=l:=by
 cases f with
 |zero=>rfl
 |succ f=>rw[up,h];simp
theorem zmC {f:Nat} {l:List Qe} {j:Nat} (h0:j≠0) (h:ltQ (at' l j) (at' l ((j-1) / 2))=true):up ltQ (f+1) l j=up ltQ f (swp l j ((j-1) / 2)) ((j-1) / 2):=by
 rw[up,if_neg h0,if_pos h]
theorem zlO (h:QAt w lo hi Q wd H rb cp) {j f:Nat} (hj:j<H.length) (hf:j<=f) :
 Calls Tryz.prog 119 #[qif Q,.int .i64 (j:Int)] w fun e w'=>e=.returned (.tuple #[])/\QAt w' lo hi Q wd (up ltQ f H j) rb cp/\Out (fun k=>rb=some k) w w':=by
 have hfew:=h.few;have hml:=zcT;have hms:=Vp;have HQ0:=gI h;have HJ:=gI hj;clear h
 go_enter Tryz.func119,Tryz.ntmps119
 go_wp2
 go_loopw [1] (fun x wr=>∃(k f':Nat) (H':List Qe),x=.int .i64 (k:Int)/\k<H.length/\Hid (k<=f')/\H'.length=H.length/\Hid (QAt wr lo hi Q wd H' rb cp)/\Hid (Out (fun k=>rb=some k) w wr)/\Hid (up ltQ f H j=up ltQ f' H' k)) (fun x _=>(intOf x).toNat)
 case atStart=>exact ⟨j,f,H,rfl,hj,gI hf,rfl,HQ0,gI (.refl _ _),gI rfl⟩
 case round=>
  clear HQ0;obtain ⟨k,f',H',rfl,hk,HF,hl,HQ,HO,HD⟩:=hrel
  by_cases h0:k=0
  ·subst h0;have e1:((0:Int)-1).tdiv 2=0:=by decide
   go_wp2
   go_end0
   refine ⟨rfl,?_,HO.out⟩;rw[HD.out,zld];exact HQ.out
  ·obtain ⟨i,hi2⟩:∃i,i=(k-1) / 2:=⟨_,rfl⟩
   have e1:((k:Int)-1).tdiv 2=(i:Int):=by
    rw[show (k:Int)-1=((k-1:Nat):Int) by omega,hi2];rfl
   have e2:((i:Int)==(k:Int))=false:=beq_eq_false_iff_ne.2 (by omega);have hkl:k<H'.length:=by omega
   have hil:i<H'.length:=by omega
   have hik:i≠k:=by omega
   have HI:=gI hi2;have HZ:=gI h0;clear hi2
   go_wp2_with fail
   refine (Yd HQ.out hkl hil).mono ?_;obtain ⟨r,hr⟩:∃r,r=ltQ (at' H' k) (at' H' i):=⟨_,rfl⟩
   rw[<-hr];have HR:=gI hr;clear hr;rintro e w2 ⟨rfl,hb2⟩;have HQ2:=gI (HQ.out.past hb2);have HO2:=gI (HO.out.trans (.of_below hb2));clear hb2
   cases r with
   |false=>
    go_wp2
    go_end0
    refine ⟨rfl,?_,HO2.out⟩;rw[HD.out,zle (by rw[<-HI.out,<-HR.out])];exact HQ2.out
   |true=>
    go_wp2_with fail
    refine (Yc HQ2.out hil hkl).mono ?_;rintro e w3 ⟨rfl,hq3,ho3⟩;have HQ4:=gI hq3;have HO4:=gI (HO2.out.trans ho3);have HD4:=gI (show up ltQ f H j=up ltQ (f'-1) (swp H' i k) i by
     rw[HD.out,zjj hik];obtain ⟨f0,rfl⟩:∃f0,f'=f0+1:=⟨f'-1,by have:=HF.out;have:=HZ.out;omega⟩
     rw[zmC HZ.out (by rw[<-HI.out,<-HR.out]),<-HI.out]
     rfl)
    clear hq3 ho3
    go_wp2
    go_roundw
    case rel=>exact ⟨i,f'-1,swp H' i k,by go_num,by omega,gI (by have:=HF.out;have:=HI.out;omega),by rw[zB];exact hl,HQ4,HO4,HD4⟩
    case measure=>simp[intOf];have:=HI.out;have:=HZ.out;omega
theorem zij (h:QAt w lo hi Q wd H rb cp) {p:Qe} (hp:Qv w lo hi wd p) (hf:H.length+1<=1000000) :
 Calls Tryz.prog 80 #[qif Q,.iface 92 p.1] w fun e w'=>e=.returned (.tuple #[]) /\
  ∃rb' cp',QAt w' lo hi Q wd (up ltQ (H.length+1) (H++[p]) H.length) rb' cp'/\Out (fun k=>k=Q\/rb=some k) w w'/\(H.length+1<=cp->rb'=rb/\cp'=cp)/\∀k,rb'=some k->rb=some k\/w.heap.size<=k:=by
 have hmp:=zhX;have hml:=zbp;have HQ0:=gI h;have HP:=gI hp;have HF:=gI hf;obtain ⟨v,hv⟩:∃v,v=p.1:=⟨_,rfl⟩
 have HV:=gI hv;rw[<-hv];clear h hp hv
 go_enter Tryz.func80,Tryz.ntmps80
 go_wp2_with fail
 rw[HV.out];refine (zhv HQ0.out HP.out HF.out).mono ?_;rintro e w2 ⟨rfl,rb',cp',hq2,ho2,hroom,hlie⟩;have HQ2:=gI hq2;have HO2:=gI ho2;have HR2:=gI (And.intro hroom hlie);obtain ⟨m,hm⟩:∃m,m=H.length:=⟨_,rfl⟩
 have HM:=gI hm;have hm6:m<=1000000:=by omega
 clear hq2 ho2 hroom hm hf hlie
 go_wp2_with fail
 refine (QJ HQ2.out).mono ?_;rintro e w3 ⟨rfl,rfl⟩;rw[show ((H++[p]).length:Int)=(m:Int)+1 by rw[List.length_append,<-HM.out];rfl];have ew:(m:Int)+1-1=(m:Int):=by omega
 go_wp2_with fail
 try rw[ew]
 refine (zlO HQ2.out (j:=m) (f:=H.length+1) (by rw[List.length_append,<-HM.out];show m<m+1;omega) (by rw[<-HM.out];omega)).mono ?_;rintro e w4 ⟨rfl,hq4,ho4⟩;have FIN:=gI (show ∃rb' cp',QAt w4 lo hi Q wd (up ltQ (H.length+1) (H++[p]) H.length) rb' cp'/\Out (fun k=>k=Q\/rb=some k) w w4/\(H.length+1<=cp->rb'=rb/\cp'=cp)/\∀k,rb'=some k->rb=some k\/w.heap.size<=k from by
  rw[HM.out] at hq4;refine ⟨rb',cp',hq4,HO2.out.trans' ho4 (fun k hk=>?_),HR2.out⟩;rcases HR2.out.2 k hk with h|h
  ·exact .inl (.inr h)
  ·exact .inr h)
 clear hq4 ho4
 go_wp2
 go_end0
 exact ⟨rfl,FIN.out⟩
theorem zkh (h:QAt w lo hi Q wd H rb cp) {n:Nat} (hn1:H.length=n+1) {E:List Qe} (hE:E=(down ltQ n (swp H 0 n) 0 n).1) :
 Calls Tryz.prog 78 #[qif Q] w fun e w'=>e=.returned (.iface 92 (at' E n).1)/\QAt w' lo hi Q wd (E.take n) rb cp/\Out (fun k=>k=Q\/rb=some k) w w':=by
 have hml:=zbp;have hms:=Vp;have hmp:=zj9;have hfew:=h.few;have hn6:n<=1000000:=by omega
 have HQ0:=gI h;have HE:=gI hE;have HN:=gI hn1;clear h hE
 go_enter Tryz.func78,Tryz.ntmps78
 go_wp2_with fail
 refine (QJ HQ0.out).mono ?_;rintro e w1 ⟨rfl,rfl⟩;have ew:(n:Int)+1-1=(n:Int):=by omega
 rw[show (H.length:Int)=(n:Int)+1 by rw[HN.out];rfl];clear hn1 hfew
 go_wp2_with fail
 try rw[ew]
 refine (Yc HQ0.out (i:=0) (j:=n) (by have:=HN.out;omega) (by have:=HN.out;omega)).mono ?_;rintro e w2 ⟨rfl,hq2,ho2⟩;have HQ2:=gI hq2;have HO2:=gI ho2;clear hq2 ho2
 go_wp2_with fail
 refine (zc1 HQ2.out (i:=0) (n:=n) (by omega) (by rw[zB];have:=HN.out;omega)).mono ?_;rintro e w3 ⟨b,rfl,hq3,ho3⟩;rw[<-HE.out] at hq3;have HQ3:=gI hq3;have HO3:=gI (HO2.out.trans ho3);clear hq3 ho3
 go_wp2_with fail
 refine (zjH HQ3.out (n:=n) (by rw[HE.out,y8,zB];exact HN.out)).mono ?_;rintro e w4 ⟨rfl,hq4,ho4⟩;have FIN:=gI (And.intro hq4 (show Out (fun k=>k=Q\/rb=some k) w w4 from (HO3.out.more fun k _ h=>.inr h).trans (ho4.more fun k _ h=>.inl h)));clear hq4 ho4
 go_wp2
 go_ret
 exact ⟨rfl,FIN.out⟩
theorem zil (h:QAt w lo hi Q wd H rb cp) :
 Calls Tryz.prog 116 #[qif Q] w fun e w'=>e=.returned (.tuple #[])/\QAt w' lo hi Q wd (init ltQ H.length (H.length / 2) H H.length) rb cp/\Out (fun k=>rb=some k) w w':=by
 have hml:=zbp;have hfew:=h.few;have HQ0:=gI h;obtain ⟨n,hn⟩:∃n,n=H.length:=⟨_,rfl⟩
 have HN:=gI hn;rw[<-hn] at hfew;rw[<-hn];obtain ⟨m,hm⟩:∃m,m=n / 2:=⟨_,rfl⟩
 rw[<-hm];have hmn:m<=n:=by omega
 have e1:(n:Int).tdiv 2=(m:Int):=by rw[hm];rfl
 clear h hn hm
 go_enter Tryz.func116,Tryz.ntmps116
 go_wp2_with fail
 refine (QJ HQ0.out).mono ?_;rintro e w1 ⟨rfl,rfl⟩;rw[show (H.length:Int)=(n:Int) by rw[HN.out]]
 go_wp2
 go_loopw [3] (fun x wr=>∃(k:Nat) (H':List Qe),x=.int .i64 ((k:Int)-1)/\k<=n/\H'.length=n/\Hid (QAt wr lo hi Q wd H' rb cp)/\Hid (Out (fun k=>rb=some k) w wr)/\Hid (init ltQ n m H n=init ltQ n k H' n)) (fun x _=>(intOf x+1).toNat)
 case atStart=>exact ⟨m,H,rfl,hmn,HN.out.symm,HQ0,gI (.refl _ _),gI rfl⟩
 case round=>
  clear HQ0;obtain ⟨k,H',rfl,hk,hl,HQ,HO,HD⟩:=hrel
  cases k with
  |zero=>
   have e2:¬(0:Int)<=((0:Nat):Int)-1:=by omega
   go_wp2
   go_end0
   refine ⟨rfl,?_,HO.out⟩;rw[HD.out];exact HQ.out
  |succ k=>
   have e2:(((k+1:Nat):Int)-1)=(k:Int):=by omega
   rw[e2]
   go_wp2_with fail
   refine (zc1 HQ.out (i:=k) (n:=n) (by omega) (by omega)).mono ?_;rintro e w3 ⟨b,rfl,hq3,ho3⟩;have HQ3:=gI hq3;have HO3:=gI (HO.out.trans ho3);have HD3:=gI (show init ltQ n m H n=init ltQ n k (down ltQ n H' k n).1 n by rw[HD.out,init]);clear hq3 ho3
   go_wp2
   go_roundw
   case rel=>exact ⟨k,(down ltQ n H' k n).1,by go_num,by omega,by rw[y8];exact hl,HQ3,HO3,HD3⟩
   case measure=>simp[intOf]
end
section
open Go.RowKit Me Rn Hp Mw
variable {w w':World} {lo hi Q wd cp:Nat} {H:List Qe} {rb:Option Nat}
def Lv (w:World) (lo hi wd:Nat) (p:Qe):Prop:=Wid wd p.2/\yu p.2/\∃A n c,p.1=.slice A n c/\p.2.flatten.length=n/\n<=c/\c<=9223372036854775807/\Rd w hi A p.2.flatten/\∀a,A=some a->lo<=a.block
theorem Lv.keep {p:Qe} (h:Lv w lo hi wd p) (hk:∀a:Addr,lo<=a.block->a.block<hi->w'.cell? a=w.cell? a):Lv w' lo hi wd p:=by
 obtain ⟨h1,h2,A,n,c,h3,h4,h5,h6,h7,h8⟩:=h;exact ⟨h1,h2,A,n,c,h3,h4,h5,h6,zeU h7 h8 hk,h8⟩
theorem Lv.q {p:Qe} (h:Lv w lo hi wd p) (hne:p.2≠[]):Qv w lo hi wd p:=⟨hne,h.1,h.2.2⟩
def xY (L:List Qe):List Qe:=L.filter fun p=> !p.2.isEmpty
theorem zac {L:List Qe} {p:Qe}:xY (L++[p])=if p.2.isEmpty then xY L else xY L++[p]:=by
 unfold xY;rw[List.filter_append]
 cases h:p.2.isEmpty<;>simp[h]
theorem zgT (L:List Qe):(xY L).length<=L.length:=List.length_filter_le _ _
theorem zc7 {wd:Nat} (hw:0<wd) {l:List (List UInt8)} (h:Wid wd l):l.flatten.length=0↔l=[]:=by
 rw[zT h]
 constructor
 ·intro e;rcases Nat.mul_eq_zero.1 e with e|e
  ·omega
  ·exact List.length_eq_zero_iff.1 e
 ·rintro rfl;simp
theorem zj1 (lo hi:Nat) (LA:Option Addr) (ln lc wd:Nat) (L:List Qe) (hl:L.length=ln) (hln:ln<=100000) (hwd:0<wd/\wd<=1000000) (w:World) (hhi:hi<=w.heap.size) (hc:Cs w w.heap.size LA (L.map Prod.fst)) (hv:∀p∈L,Lv w lo hi wd p) :
 Calls Tryz.prog 76 #[.slice LA ln lc,.int .i64 (wd:Int)] w fun e w'=>
  ∃Q rb cp,e=.returned (.pointer (some ⟨Q,0,none⟩))/\QAt w' lo hi Q wd (init ltQ (xY L).length ((xY L).length / 2) (xY L) (xY L).length) rb cp/\Below w.heap.size w w'/\w.heap.size<=Q:=by
 have HL:=gI hl;have HC:=gI hc;have HV:=gI hv;have HI:=gI hhi;have HW:=gI hwd;obtain ⟨Q,hQ⟩:∃Q,Q=w.heap.size:=⟨_,rfl⟩
 have HQQ:=gI hQ;have HX0:=gI (show QAt (w.alloc (.cells #[.int .i64 (wd:Int),.slice none 0 0] 186)) lo hi Q wd (xY (L.take 0)) none 0/\Below w.heap.size w (w.alloc (.cells #[.int .i64 (wd:Int),.slice none 0 0] 186)) from by
  refine ⟨⟨⟨none,0,by rw[hQ];exact Blk.new w [.int .i64 (wd:Int),.slice none 0 0] _,World.ownsRow_nil _ _ _ _,rfl,rfl⟩,(fun p hp=>by simp[xY] at hp),by omega,by simp[xY],hwd⟩,(Below.refl _ w).alloc (Nat.le_refl _) _⟩)
 obtain ⟨i0,hi0,hz0,hz1,hz2⟩:=info_parts Vu;clear hl hc hv hhi hwd hQ
 go_enter Tryz.func76,Tryz.ntmps76
 go_wp2
 rw[<-HQQ.out]
 go_loopw [13] (fun x wr=>∃(k:Nat) (rb:Option Nat) (cp:Nat),x=.int .i64 (k:Int)/\k<=ln/\Hid (QAt wr lo hi Q wd (xY (L.take k)) rb cp)/\Hid (Below w.heap.size w wr)) (fun x _=>ln-(intOf x).toNat)
 case atStart=>exact ⟨0,none,0,rfl,by omega,gI HX0.out.1,gI HX0.out.2⟩
 case round=>
  clear HX0;obtain ⟨k,rb,cp,rfl,hk,HQ,HB⟩:=hrel
  by_cases hlt:k<ln
  ·have hkl:k<L.length:=by rw[HL.out];exact hlt
   obtain ⟨p,hp⟩:∃p,L[k]?=some p:=⟨_,List.getElem?_eq_getElem hkl⟩
   obtain ⟨a,rfl,hab,hcl⟩:=HC.out (by rw[List.length_map,HL.out];omega);have c0:wr.cell? (a.add k)=some p.1:=by
    have h1:=hcl k p.1 (by rw[List.getElem?_map,hp];rfl);exact (HB.out.cell (by rw[block_add];exact hab)).trans h1
   have hpv:=(HV.out p (List.mem_of_getElem? hp)).keep (fun b _ hb=>HB.out.cell (by have:=HI.out;omega):∀b:Addr,lo<=b.block->b.block<hi->wr.cell? b=w.cell? b);obtain ⟨A1,n1,c1,hp1,hn1,-,-,-,-⟩:=hpv.2.2;rw[hp1] at c0;have htk:L.take (k+1)=L.take k++[p]:=by rw[List.take_add_one,hp];rfl
   have hlt2:(k:Int)<(ln:Int):=by omega
   have HPV:=gI hpv;have HTK:=gI htk;have HP1:=gI hp1;have HN1:=gI hn1;clear hp hcl hpv htk hkl hp1
   by_cases hz:n1=0
   ·have hnil:p.2=[]:=(zc7 HW.out.1 HPV.out.1).1 (by rw[HN1.out];exact hz);have z1:¬(0:Int)<(n1:Int):=by omega
    have HQ2:=gI (show QAt wr lo hi Q wd (xY (L.take (k+1))) rb cp by
     rw[HTK.out,zac,hnil];exact HQ.out)
    clear hnil hn1
    go_wp2
    go_roundw
    case rel=>exact ⟨k+1,rb,cp,by go_num,by omega,HQ2,HB⟩
    case measure=>simp[intOf];omega
   ·have z1:(0:Int)<(n1:Int):=by omega
    have hne:p.2≠[]:=fun e=>hz (by rw[<-HN1.out,e];rfl)
    obtain ⟨A,m,hb,hw,hr,hm⟩:=HQ.out.box;have hm6:m+1<=1000000:=by
     have h1:=zgT (L.take k);rw[List.length_take] at h1;omega
    have q1:=hb.cell (i:=1) rfl;have HBX:=gI hb;have HOW:=gI hw;have HRB:=gI hr;have HM:=gI hm;have HNE:=gI hne;have hQlt:=HQ.out.lt;have HMX:=gI (show m+1<=maxLen by unfold maxLen;omega);clear hb hw hr hm hne hn1
    go_wp2_with (at_builtin
                 go_loud (refine xR rfl (.tmp 24) (.tmp 26) 94 rfl (Q+1) 92 i0 _ 1 24 Tryz.underlying94 hi0 hz0 hz1 hz2 rfl (by decide) A m cp _ rfl (HOW.out.alloc _) ⟨wr.heap.size,0,none⟩ 1 1 [.slice A1 n1 c1] rfl rfl (cell_one_new wr _ _) (fun u hu=>by rw[List.mem_singleton.1 hu];rfl) (by decide) HMX.out (by omega) (by rw[World.size_alloc];omega) ?_)
                 intro v6 w6 ho6 hg6 hn6 hfit6;refine Classical.byContradiction fun hcontra=>?_)
    obtain ⟨A7,d7,hv7,hnd7⟩:=zC ho6;subst hv7;have hne6:(Value.slice A m cp).ownBlock≠some Q:=fun e=>by have:=(HOW.out.lt Q e).1;omega
    have hb6:=(HBX.out.alloc (.cells #[.slice A1 n1 c1] 92)).grown hg6 hne6;have e7:=hb6.cell (i:=1) rfl;have y7:=hb6.frozen 1;have FIN:=gI (zcx HQ.out (HPV.out.q HNE.out) HRB.out HM.out (show p=(.slice A1 n1 c1,p.2) by rw[<-HP1.out]) HBX.out ((Below.refl _ wr).alloc (Nat.le_refl _) _) ho6 hg6 hn6 hfit6 hb6 hm6);clear ho6 hg6 hn6 hfit6 hb6 hne6
    apply hcontra
    clear hcontra
    go_wp2
    obtain ⟨rb',cp',hq',ho',-⟩:=FIN.out;have HQ2:=gI (show QAt (w6.setCell ⟨Q,1,none⟩ (.slice A7 (m+1) d7)) lo hi Q wd (xY (L.take (k+1))) rb' cp' by
     rw[HTK.out,zac,if_neg (by simpa using HNE.out)];exact hq')
    have HB2:=gI (show Below w.heap.size w (w6.setCell ⟨Q,1,none⟩ (.slice A7 (m+1) d7)) from HB.out.trans (ho'.below (fun j hj e=>by
     rcases e with e|e
     ·have:=HQQ.out;omega
     ·have:=HQ.out.row j e;have:=HQQ.out;omega) HB.out.size))
    clear hq' ho' FIN
    go_roundw
    case rel=>exact ⟨k+1,rb',cp',by go_num,by omega,HQ2,HB2⟩
    case measure=>simp[intOf];omega
  ·have hkk:k=ln:=by omega
   subst hkk;have hnl:¬(k:Int)<(k:Int):=by omega
   have HQ2:=gI (show QAt wr lo hi Q wd (xY L) rb cp by
    have:=HQ.out
    rwa[List.take_of_length_le (by rw[HL.out];exact Nat.le_refl _)] at this)
   go_wp2_with fail
   refine (zil HQ2.out).mono ?_;rintro e w3 ⟨rfl,hq3,ho3⟩;have FIN:=gI (show Below w.heap.size w w3 from HB.out.trans (ho3.below (fun j hj e=>by
    have:=HQ2.out.row j e;have:=HQQ.out
    omega) HB.out.size))
   have HQ3:=gI hq3;clear hq3 ho3
   go_wp2
   go_ret
   exact ⟨Q,rb,cp,rfl,HQ3.out,FIN.out,by rw[<-HQQ.out];exact Nat.le_refl _⟩
end
section
open Go.RowKit Me Rn Hp Mw
variable {w w':World} {lo hi Q wd cp:Nat} {H:List Qe} {rb:Option Nat}
theorem zhP (l:List (List UInt8)) (H:List Qe):XR l (H.map Prod.snd)=(H.isEmpty|| !Op.bytesLess ((at' H 0).2.headD []) (l.headD [])):=by
 unfold XR;rw[zaY (rc:=Prod.snd) XJ,List.isEmpty_map]
theorem zlW {a b:List UInt8}:decide (cmpB a b<=0)= !Op.bytesLess b a:=by
 have h:=zfy (a:=a) (b:=b)
 cases hb:Op.bytesLess b a with
 |true=>have:=h.2 hb;simp;omega
 |false=>
  have:¬0<cmpB a b:=fun e=>by rw[h.1 e] at hb;cases hb
  simp;omega
theorem zhw (h:QAt w lo hi Q wd H rb cp) {p:Qe} (hp:Qv w lo hi wd p) :
 Calls Tryz.prog 79 #[.pointer (some ⟨Q,0,none⟩),p.1] w fun e w'=>e=.returned (.bool (XR p.2 (H.map Prod.snd)))/\Below w.heap.size w w':=by
 obtain ⟨A,n,hb,hw,hr,hn⟩:=h.box;have q0:=hb.cell (i:=0) rfl;have q1:=hb.cell (i:=1) rfl;have hp9:=hp;obtain ⟨-,-,A1,n1,c1,hp1,hl1,hc1,-,hr1,-⟩:=hp;rw[zhP]
 by_cases h0:H=[]
 ·subst h0;have hn0:n=0:=by rw[<-hn];rfl
  subst hn0;rw[hp1];clear hb hw hr hn h hp1 hl1 hr1 hp9
  go_enter Tryz.func79,Tryz.ntmps79
  go_wp2
  go_ret
  exact ⟨rfl,Below.refl _ _⟩
 ·have hpos:0<H.length:=List.length_pos_iff.2 h0;obtain ⟨g,B,nb,cb,hg,c2,-,l2,k3,k4,r2,v2⟩:=h.at hpos;obtain ⟨r,t,e1,e2,f1,f2⟩:=hp9.first
  obtain ⟨r',t',e1',e2',f3,f4⟩:=v2.first
  have w1:wd<=n1:=by rw[<-hl1,e1,List.flatten_cons,List.length_append,e2];omega
  have w2:wd<=nb:=by rw[<-l2,e1',List.flatten_cons,List.length_append,e2'];omega
  obtain ⟨g2,hA,-,-,-,-⟩:=vC (v:=undef) hw (i:=0) (by omega);subst hA;have hgg:g2=g:=by
   have:(some g2:Option Nat)=some g:=hr.trans hg;injection this
  subst hgg;have hsz:hi<=w.heap.size:=by have:=h.lo;have:=h.lt;omega
  obtain ⟨z,hz⟩:∃z,z=cmpB (p.2.flatten.take wd) ((at' H 0).2.flatten.take wd):=⟨_,rfl⟩
  have HR:=gI (show Calls Tryz.prog 118 #[.pointer (some ⟨Q,0,none⟩),.slice A1 n1 c1,.slice B nb cb] w fun e w'=>e=.returned (.int .i64 z)/\Below w.heap.size w w' from by
   rw[hz];exact Qp q0 A1 B n1 c1 nb cb _ _ hl1 l2 w1 w2 hc1 k3 h.wpos.2 h.wpos.1 hi hi hsz hsz hr1 r2)
  have hbn:(H.isEmpty|| !Op.bytesLess ((at' H 0).2.headD []) (p.2.headD []))=decide (z<=0):=by
   rw[hz,f1,f3,<-f2,<-f4,zlW]
   cases H with
   |nil=>exact absurd rfl h0
   |cons a b=>rfl
  rw[hbn,hp1];have d1:((n:Int)==0)=false:=beq_eq_false_iff_ne.2 (by omega);have hpn:(0:Int)<(n:Int):=by omega
  clear hz hbn hb hw hr hn h hp1 hl1 hr1 r2 l2 f1 f2 f3 f4 e1 e2 e1' e2' v2 hg hp9
  go_enter Tryz.func79,Tryz.ntmps79
  go_wp2_with fail
  refine HR.out.mono ?_;rintro e w2 ⟨rfl,hb⟩;have HB:=gI hb;clear hb
  go_wp2
  go_ret
  exact ⟨rfl,HB.out⟩
end
end Go.Proofs.YtcdkopbjlakebaaGreatDoor
