/- Texts put together, for a law: PmP, ClR, RwR, RsS. -/
import Derived.Test.YtcdkopbjlakebaaGreatDoorKP47
import Derived.Test.YtcdkopbjlakebaaGreatDoorKP43
import Derived.Test.YtcdkopbjlakebaaGreatDoorKP34
import Derived.Test.YtcdkopbjlakebaaGreatDoorKP39
import Derived.Test.YtcdkopbjlakebaaGreatDoorKP46
import Derived.Test.YtcdkopbjlakebaaGreatDoorKP37
set_option maxRecDepth 100000
set_option maxHeartbeats 8000000
namespace Go.Proofs.YtcdkopbjlakebaaGreatDoor
section
open Go.RowKit Me Mf Rw Ds Rn Tx Fr Mw Hp Va
def yH (R:SrD) (l:List FB):SrD×List FB:=if R.held=[] then (R,l) else ({R with held:=[],next:=R.next+1},zS (zq R R.next) (runB (zG R.held)) l false)
def mput (R:SrD) (l:List FB) (r:List UInt8):SrD×List FB×Int:=
 if r.length≠R.wd then (R,l,3) else
  let q:=if R.held.length=R.rm then yH R l else (R,l)
  ({q.1 with held:=q.1.held++[r]},q.2,0)
def qW (R:SrD):Nat->List FB->List FB
 |0,l=>l
 |n+1,l=>yC (qW R n l) (zq R n)
def mclear (R:SrD) (l:List FB):SrD×List FB:=({R with held:=[],next:=0},qW R R.next l)
def yP (R:SrD) (l:List FB) (m:List (List UInt8)):SrD×List FB:=
 if m=[] then mclear R l else ({(mclear R l).1 with next:=1},zS (zq R 0) (runB m) (mclear R l).2 false)
def vH (b:List UInt8) (wd:Nat):List (List UInt8)×Bool:=
 let q:=qO b
 if q.2≠0\/q.1.length≠1\/(q.1.headD vN).kind≠82\/(q.1.headD vN).body.length%wd≠0 then ([],false)
 else if yu (pieces wd (q.1.headD vN).body) then (pieces wd (q.1.headD vN).body,true) else ([],false)
def mgo (wd:Nat) (cont:Nat->List UInt8):Nat->Nat->List (List UInt8)->List (List UInt8)×Int
 |_,0,all=>(zG all,0)
 |k,n+1,all=>if (vH (cont k) wd).2 then mgo wd cont (k+1) n (all++(vH (cont k) wd).1) else ([],5)
theorem zdq:∀(f:Nat) (acc:List SecD) (b:List UInt8),(allS f acc b).2≠0\/acc.length<=(allS f acc b).1.length
 |0,acc,b=>.inr (by rw[allS];exact Nat.le_refl _)
 |f+1,acc,b=>by
  rw[allS]
  split
  ·exact .inr (Nat.le_refl _)
  ·split
   ·rcases zdq f (acc++[(getS b).1]) (b.drop (getS b).2.1) with h|h
    ·exact .inl h
    ·rw[List.length_append] at h;exact .inr (by simp at h;omega)
   ·rename_i h
    exact .inl h
theorem za8 (b:List UInt8):(∃s,getS b=(s,b.length,0)/\qO b=([s],0))\/(((getS b).2.2≠0\/(getS b).2.1≠b.length)/\((qO b).2≠0\/(qO b).1.length≠1)):=by
 by_cases hb:b=[]
 ·subst hb;exact .inr ⟨.inl (by rw[X4 (by simp)];decide),.inr (by decide)⟩
 ·obtain ⟨f,hf⟩:∃f,b.length=f+1:=⟨b.length-1,by have:=List.length_pos_iff.2 hb;omega⟩
  rcases vg b with ⟨x,h,hx⟩|⟨s,n,h,hs,hn,hl⟩
  ·refine .inr ⟨.inl (by rw[h];exact hx),.inl ?_⟩;unfold qO;rw[hf,zbN hb h hx];exact hx
  ·have e1:qO b=allS f [s] (b.drop (n+13)):=by unfold qO;rw[hf,VP hb h];rfl
   by_cases he:n+13=b.length
   ·refine .inl ⟨s,by rw[h,he],?_⟩;rw[e1,he,List.drop_length,zfE]
   ·refine .inr ⟨.inr (by rw[h];exact he),?_⟩;have hd:b.drop (n+13)≠[]:=fun e=>by have:=congrArg List.length e;rw[List.length_drop] at this;simp at this;omega
    obtain ⟨g,hg⟩:∃g,f=g+1:=⟨f-1,by omega⟩
    rw[e1,hg];rcases vg (b.drop (n+13)) with ⟨x,h2,hx⟩|⟨s2,n2,h2,-⟩
    ·rw[zbN hd h2 hx];exact .inl hx
    ·rw[VP hd h2];rcases zdq g ([s]++[s2]) ((b.drop (n+13)).drop (n2+13)) with q|q
     ·exact .inl q
     ·refine .inr fun e=>?_
      rw[e] at q;simp at q
variable {X:Sto} {R:SrD} {F:List UInt8->List UInt8} {Y:Ply}
theorem zjE {i:Nat} {b:List UInt8} (hw:0<R.wd) (hs:xS X (zq R i)=(b,0)):((vH b R.wd).2=true/\rdD X R i=((vH b R.wd).1.flatten,0)/\pieces R.wd (rdD X R i).1=(vH b R.wd).1)\/((vH b R.wd).2=false/\rdD X R i=([],5)):=by
 have e1:rdD X R i=if (getS b).2.2≠0\/(getS b).2.1≠b.length\/(getS b).1.kind≠82\/fitR R.wd (pieces R.wd (getS b).1.body)=false then ([],5) else ((getS b).1.body,0):=by
  unfold rdD
  dsimp only
  rw[hs]
  dsimp only
  rw[if_neg (fun h=>h rfl)]
 rcases za8 b with ⟨s,h1,h2⟩|⟨h1,h2⟩
 ·have hm:vH b R.wd=if s.kind≠82\/s.body.length%R.wd≠0 then ([],false) else if yu (pieces R.wd s.body) then (pieces R.wd s.body,true) else ([],false):=by
   unfold vH
   dsimp only
   rw[h2]
   simp
  rw[h1] at e1
  dsimp only at e1
  by_cases hk:s.kind=82
  ·by_cases hl:s.body.length%R.wd=0
   ·by_cases hr:yu (pieces R.wd s.body)
    ·have hfit:fitR R.wd (pieces R.wd s.body)=true:=yY.2 ⟨(zaw hw _).2 hl,hr⟩;rw[if_neg (by rw[hk,hl];simp),if_pos hr] at hm;rw[if_neg (by rw[hk,hfit];simp)] at e1;rw[hm,e1];exact .inl ⟨rfl,by rw[YT hw],rfl⟩
    ·have hfit:fitR R.wd (pieces R.wd s.body)=false:=X5.2 fun h=>hr h.2
     rw[if_neg (by rw[hk,hl];simp),if_neg hr] at hm;rw[if_pos (.inr (.inr (.inr hfit)))] at e1;rw[hm,e1];exact .inr ⟨rfl,rfl⟩
   ·have hfit:fitR R.wd (pieces R.wd s.body)=false:=X5.2 fun h=>hl ((zaw hw _).1 h.1)
    rw[if_pos (.inr hl)] at hm;rw[if_pos (.inr (.inr (.inr hfit)))] at e1;rw[hm,e1];exact .inr ⟨rfl,rfl⟩
  ·rw[if_pos (.inl hk)] at hm;rw[if_pos (.inr (.inr (.inl hk)))] at e1;rw[hm,e1];exact .inr ⟨rfl,rfl⟩
 ·have hm:vH b R.wd=([],false):=by
   unfold vH
   dsimp only
   rw[if_pos (by rcases h2 with h|h;exact .inl h;exact .inr (.inl h))]
  rw[if_pos (by rcases h1 with h|h;exact .inl h;exact .inr (.inl h))] at e1;rw[hm,e1];exact .inr ⟨rfl,rfl⟩
structure Bes (X:Sto) (F:List UInt8->List UInt8) (R:SrD) (Y:Ply):Prop where
 rest:Rest X F
 ply:vO X F Y
 ok:OkR R
 zero:R.first=0
 run:∀i,i<R.next->hasN X (zq R i)=true
theorem Bes.cont (h:Bes X F R Y) {i:Nat} (hi:i<R.next):xS X (zq R i)=(newF X.C F (zq R i),0):=by rw[h.rest.reads,if_pos (h.run i hi)]
theorem Bes.rows (h:Bes X F R Y):QD X R=mgo R.wd (fun i=>newF X.C F (zq R i)) 0 R.next R.held:=by
 have hw:0<R.wd:=h.ok.wd.1;have key:∀n k all,k+n=R.next->(all.Perm (YD X R k).flatten)->(ZY X R k n=0/\mgo R.wd (fun i=>newF X.C F (zq R i)) k n all=(zG (YD X R R.next).flatten,0))\/(ZY X R k n=5/\mgo R.wd (fun i=>newF X.C F (zq R i)) k n all=([],5)):=fun n=>by
  induction n with
  |zero=>
   intro k all hk hp;have e:k=R.next:=by omega
   subst e;refine .inl ⟨rfl,?_⟩;show (zG all,(0:Int))=_
   rw[zfO hp]
  |succ n ih=>
   intro k all hk hp;show ((if (rdD X R k).2≠0 then (rdD X R k).2 else ZY X R (k+1) n)=0/\(if (vH (newF X.C F (zq R k)) R.wd).2 then mgo R.wd (fun i=>newF X.C F (zq R i)) (k+1) n (all++(vH (newF X.C F (zq R k)) R.wd).1) else ([],5))=_)\/((if (rdD X R k).2≠0 then (rdD X R k).2 else ZY X R (k+1) n)=5/\(if (vH (newF X.C F (zq R k)) R.wd).2 then mgo R.wd (fun i=>newF X.C F (zq R i)) (k+1) n (all++(vH (newF X.C F (zq R k)) R.wd).1) else ([],5))=_)
   rcases zjE hw (h.cont (i:=k) (by omega)) with ⟨h1,h2,h3⟩|⟨h1,h2⟩
   ·rw[h1,if_pos rfl,if_neg (by rw[h2];simp)];refine ih (k+1) _ (by omega) ?_;rw[zam (by rw[h.zero];omega),List.flatten_append,h3];simp only[List.flatten_cons,List.flatten_nil,List.append_nil];exact List.Perm.append_right _ hp
   ·refine .inr ⟨?_,?_⟩
    ·rw[h2,if_pos (by decide)]
    ·rw[h1];rfl
 have hU0:YD X R 0=[zG R.held]:=by unfold YD;rw[h.zero];rfl
 unfold QD;rw[h.zero,Nat.sub_zero];rcases key R.next 0 R.held (by omega) (by rw[hU0];simp only[List.flatten_cons,List.flatten_nil,List.append_nil];exact (zR _).symm) with ⟨h1,h2⟩|⟨h1,h2⟩
 ·rw[h1,if_neg (fun h=>h rfl),h2]
 ·rw[h1,if_pos (by decide),h2]
theorem OkS.put (h:OkS X) {x b:List UInt8} (hx:1<=x.length/\x.length<=32) (hb:b.length<=1048576):OkS {X with C:=setC X.C x (some b)}:=
 {h with keys:=QI h.keys hx,len:=za7 h.len fun c e=>by injection e with e;rw[<-e];exact hb}
theorem OkS.rem (h:OkS X) {x:List UInt8} (hx:1<=x.length/\x.length<=32):OkS {X with C:=setC X.C x none}:=
 {h with keys:=QI h.keys hx,len:=za7 h.len fun c e=>by cases e}
theorem zgd {R R':SrD} (h:R'.pre=R.pre) (n:Nat):zq R' n=zq R n:=by unfold zq;rw[h]
theorem Bes.flush (h:Bes X F R Y) (hn:R.next<1000000):∃X' Y',xB X R=(0,X',(yH R Y.now).1)/\Bes X' F (yH R Y.now).1 Y'/\Y'.now=(yH R Y.now).2/\Y'.hv=Y.hv/\X'.S=X.S/\X'.m=X.m/\X'.broken=X.broken:=by
 unfold xB yH
 by_cases h0:R.held=[]
 ·rw[if_pos h0,if_pos h0];exact ⟨X,Y,rfl,h,rfl,rfl,rfl,rfl,rfl⟩
 ·have hfl:(zG R.held).flatten.length<=262144:=by
   rw[perm_flatten_len (zR _)];exact Zn h.ok
  have hnm:=qm h.ok hn;have hal:xg (upD X) (zq R R.next) ((runB (zG R.held)).length:Nat)=0:=by
   rw[h.rest.up,yU];unfold xg;rw[if_pos rfl,if_neg (by omega),if_neg (by omega)]
  rw[if_neg h0,if_neg h0,hal,if_neg (fun h=>h rfl)];have hok:=h.rest.ok.put (x:=zq R R.next) (b:=runB (zG R.held)) ⟨hnm.1,by omega⟩ (by rw[yU];omega);refine ⟨_,_,rfl,⟨h.rest.change hok,h.ply.put _ _,⟨h.ok.pre,h.ok.wd,h.ok.rm,fun r hr=>by simp at hr,Nat.zero_le _,by show R.first<=R.next+1/\R.next+1<=1000000;have:=h.ok.run.1;omega⟩,h.zero,fun i hi=>?_⟩,rfl,rfl,rfl,rfl,rfl⟩;show hasN {X with C:=setC X.C (zq R R.next) (some (runB (zG R.held)))} (zq R i)=true
  have hi:i<R.next+1:=hi;rw[X0]
  split
  ·rfl
  ·rename_i hne
   have:i≠R.next:=fun e=>hne (by rw[e])
   exact h.run i (by omega)
theorem Bes.held {l:List (List UInt8)} (h:Bes X F R Y) (hw:Wid R.wd l) (hf:l.length<=R.rm):Bes X F {R with held:=l} Y:=⟨h.rest,h.ply,⟨h.ok.pre,h.ok.wd,h.ok.rm,hw,hf,h.ok.run⟩,h.zero,h.run⟩
theorem Bes.put (h:Bes X F R Y) (hn:R.next<1000000) (r:List UInt8):∃X' Y',putR X R r=((mput R Y.now r).2.2,X',(mput R Y.now r).1)/\Bes X' F (mput R Y.now r).1 Y'/\Y'.now=(mput R Y.now r).2.1/\Y'.hv=Y.hv/\X'.S=X.S/\X'.m=X.m/\X'.broken=X.broken:=by
 unfold putR mput
 by_cases hr:r.length≠R.wd
 ·rw[if_pos hr,if_pos hr];exact ⟨X,Y,rfl,h,rfl,rfl,rfl,rfl,rfl⟩
 ·rw[if_neg hr,if_neg hr];have hr:r.length=R.wd:=Decidable.not_not.1 hr
  by_cases hf:R.held.length=R.rm
  ·obtain ⟨X',Y',e1,e2,e3,e4,e5⟩:=h.flush hn;simp only[if_pos hf,e1];rw[if_neg (fun h=>h rfl)];have hne:R.held≠[]:=fun e=>by have:=h.ok.rm.1;rw[e] at hf;simp at hf;omega
   have hm:(yH R Y.now).1={R with held:=[],next:=R.next+1}:=by unfold yH;rw[if_neg hne]
   refine ⟨X',Y',rfl,?_,e3,e4,e5⟩;rw[hm] at e2 ⊢;exact e2.held (fun x hx=>by simp at hx;rw[hx];exact hr) (by simp;exact h.ok.rm.1)
  ·simp only[if_neg hf];rw[if_neg (fun h=>h rfl)];have:=h.ok.few;exact ⟨X,Y,rfl,h.held (QH.2 ⟨h.ok.wid,hr⟩) (by rw[List.length_append];simp;omega),rfl,rfl,rfl,rfl,rfl⟩
def yc (X:Sto) (R:SrD):Nat->Sto
 |0=>X
 |n+1=>{yc X R n with C:=setC (yc X R n).C (zq R n) none}
theorem zaS (X:Sto) (R:SrD):∀n,(yc X R n).S=X.S/\(yc X R n).m=X.m/\(yc X R n).broken=X.broken
 |0=>⟨rfl,rfl,rfl⟩
 |n+1=>zaS X R n
theorem VS {l:List FB} {x:List UInt8} (h:x∈yM l):(yC l x).length+1<=l.length:=by
 obtain ⟨f,h1,h2⟩:=List.mem_map.1 h;unfold yC;exact List.length_filter_lt_length_iff_exists.2 ⟨f,h1,by simp[h2]⟩
theorem Bes.clean (h:Bes X F R Y) (hn:R.next<=1000000):∀k,k<=R.next->∃Y',Rest (yc X R k) F/\vO (yc X R k) F Y'/\Y'.now=qW R k Y.now/\Y'.hv=Y.hv/\Y'.now.length+k<=Y.now.length/\∀i,k<=i->i<R.next->hasN (yc X R k) (zq R i)=true
 |0,_=>⟨Y,h.rest,h.ply,rfl,rfl,Nat.le_refl _,fun i _ hi=>h.run i hi⟩
 |k+1,hk=>by
  obtain ⟨Y',h1,h2,h3,h4,h5,h6⟩:=Bes.clean h hn k (by omega);have hnm:=qm h.ok (n:=k) (by omega);have hok:=h1.ok.rem (x:=zq R k) ⟨hnm.1,by omega⟩;have hin:zq R k∈yM Y'.now:=(h2.names.mem _).2 (h6 k (Nat.le_refl _) (by omega));refine ⟨_,h1.change hok,h2.remove (zq R k),?_,h4,?_,fun i h7 h8=>?_⟩
  ·show yC Y'.now (zq R k)=_
   rw[h3];rfl
  ·show (yC Y'.now (zq R k)).length+(k+1)<=_
   have:=VS hin;omega
  ·show hasN {yc X R k with C:=setC (yc X R k).C (zq R k) none} (zq R i)=true
   rw[X0,if_neg (fun e=>by have:=zhU e;omega)];exact h6 i (by omega) h8
theorem Bes.clear (h:Bes X F R Y) (hn:R.next<=1000000):∃Y',Bes (yc X R R.next) F (mclear R Y.now).1 Y'/\Y'.now=(mclear R Y.now).2/\Y'.hv=Y.hv/\Y'.now.length+R.next<=Y.now.length:=by
 obtain ⟨Y',h1,h2,h3,h4,h5,-⟩:=h.clean hn R.next (Nat.le_refl _);exact ⟨Y',⟨h1,h2,⟨h.ok.pre,h.ok.wd,h.ok.rm,(fun r hr=>by cases hr),Nat.zero_le _,by show R.first<=0/\0<=1000000;rw[h.zero];omega⟩,h.zero,fun i hi=>absurd hi (by show ¬i<0;omega)⟩,h3,h4,h5⟩
end
section
open Go.RowKit Me Mf Rw Ds Rn Tx Fr Mw Hp
variable {w w':World} {B K P D M N:Nat} {hb:Option Nat} {X:Sto} {R:SrD} {own ownD:Nat->Prop}
theorem yR.first (h:yR w B K P hb R) (hn:R.first<R.next):yR (w.setCell ⟨K,5,none⟩ (.int .i64 ((R.first:Int)+1))) B K P hb {R with first:=R.first+1}:=by
 obtain ⟨A,n,c,h1,h2,h3,h4⟩:=h.box;have hT:=h.tlo;have hlo:=h.lo;have ho:Out (fun k=>k=K) w (w.setCell ⟨K,5,none⟩ (.int .i64 ((R.first:Int)+1))):=(Out.refl (fun k=>k=K) w).setCell (p:=⟨K,5,none⟩) (.inl rfl) _;exact ⟨⟨A,n,c,h1.set 5 _,zn h2 ho (fun k hk e=>h.ne (by rw[<-h3,hk,e])),h3,h4⟩,h.lo,h.ne,⟨h.ok.pre,h.ok.wd,h.ok.rm,h.ok.wid,h.ok.few,⟨hn,h.ok.run.2⟩⟩,h.tab.out ho (fun e=>by have e:1=K:=e;omega),hT⟩
def crG (K k nx:Nat) (q:Bool):Gw.Fact:=fun t v _=>
 match t with
 |0|8|9|12|13=>v=.pointer (some ⟨K,0,none⟩)
 |10=>v=.pointer (some ⟨K,5,none⟩)
 |14=>v=.pointer (some ⟨K,6,none⟩)
 |11=>v=.int .i64 (k:Int)
 |15=>v=.int .i64 (nx:Int)
 |16=>v=.bool q
 |_=>True
def csG (K P k:Nat) (x:List UInt8):Gw.Fact:=fun t v _=>
 match t with
 |0|17|18|21|22|23=>v=.pointer (some ⟨K,0,none⟩)
 |19=>v=.pointer (some ⟨K,0,none⟩)
 |20=>v=.pointer (some ⟨P,0,none⟩)
 |24=>v=.pointer (some ⟨K,5,none⟩)
 |25=>v=.int .i64 (k:Int)
 |26=>v=sv x
 |27|3=>v=.int .i64 0
 |_=>True
def csI (w:World) (B K P D M N:Nat) (X:Sto) (R:SrD) (own ownD:Nat->Prop) (C:Chg):Nat->World->Prop:=fun p W=>
 if p=0 then Below w.heap.size w W else Out (yg P M K none ownD) w W/\zI W B K P D M (N+1) none {X with C:=C} R own ownD
theorem zaq (h:zI w B K P D M N hb X R own ownD) (h0:R.first=0) (hrem:∀k,k<R.next->zb3 (yc X R k) (zq R k)=0) (hN:N+R.next<maxLen) :
 Calls Tryz.prog 23 #[.pointer (some ⟨K,0,none⟩)] w fun e w'=>e=.returned (.int .i64 0)/\Out (yg P M K hb ownD) w w'/\zI w' B K P D M (N+R.next) none (yc X R R.next) {R with held:=[],first:=0,next:=0} own ownD:=by
 have HF:=gI (YQ h.bx);have HS:=gI h;obtain ⟨nx,hnx⟩:∃nx,nx=R.next:=⟨_,rfl⟩
 have HNX:=gI hnx;have HREM:=gI hrem;have H0:=gI h0;have hn6:nx<=1000000:=by rw[hnx];exact h.bx.ok.run.2
 rw[<-hnx] at hN ⊢;clear h hnx hrem h0
 go_enter Tryz.func23,Tryz.ntmps23
 go_wp2_with fail
 refine HF.out.mono ?_;rintro e w1 ⟨rfl,hx,ho⟩;have HS1:=gI (show zI w1 B K P D M (N+0) none (yc X R 0) {R with held:=[],first:=0} own ownD from by
  have:=HS.out.fewer (hb':=none) hx ho;rw[show ({R with held:=[],first:=0}:SrD)={R with held:=[]} by rw[<-H0.out]];exact this)
 have HO1:=gI (show Out (yg P M K hb ownD) w w1 from ho.more fun k _ e=>.inr (.inl e));clear hx ho HF
 go_wp2
 go_loopw [3] (fun _ wr=>∃k,k<=nx/\zf8 wr K 5=k/\Hid (zI wr B K P D M (N+k) none (yc X R k) {R with held:=[],first:=k} own ownD)/\Hid (Out (yg P M K hb ownD) w wr)) (fun _ wr=>nx-zf8 wr K 5)
 case atStart=>
  obtain ⟨A',n',c',g1,-⟩:=HS1.out.bx.box;exact ⟨0,Nat.zero_le _,QL (k:=.i64) (n:=0) (g1.seven.2.2.2.2.2.1),HS1,HO1⟩
 case round=>
  obtain ⟨k,hk,hnum,HSr,HOr⟩:=hrel;clear HS1 HO1;obtain ⟨A',n',c',h1,-⟩:=HSr.out.bx.box;obtain ⟨c0,c1,c2,c3,c4,c5,c6⟩:=h1.seven;have HNUM:=gI hnum;have HC:=gI (show wr.cell? ⟨K,5,none⟩=some (.int .i64 (k:Int))/\wr.cell? ⟨K,6,none⟩=some (.int .i64 (nx:Int))/\wr.cell? ⟨K,0,none⟩=some (.pointer (some ⟨P,0,none⟩)) from ⟨c5,by rw[c6,HNX.out],c0⟩);obtain ⟨q,hq⟩:∃q,decide ((k:Int)<(nx:Int))=q:=⟨_,rfl⟩
  have hq':decide (k<nx)=q:=by rw[<-hq];simp
  clear h1 c0 c1 c2 c3 c4 c5 c6
  go_wp2_with fail
  refine Gw.zl (crG K k nx q) [8,9,10,11,12,13,14,15,16] [([0],none),([8],none),([9],none),([10],none),([0],none),([12],none),([13],none),([14],none),([11,15],none)] 44 (by kernel_rfl) (by kernel_rfl) rfl ?h0 ?hreq ?hend
  case h0=>
   intro t W hnd _;unfold crG
   split<;>first|rfl|trivial|exact absurd (by simp) hnd
  case hreq=>
   refine ⟨?_,?_,?_,?_,?_,?_,?_,?_,?_,trivial⟩
   all_goals
    intro ac W hg hk;have z5:=(Below.cell (show Below wr.heap.size wr W from hg) (World.block_lt_of_cell? _ _ HC.out.1)).trans HC.out.1;have z6:=(Below.cell (show Below wr.heap.size wr W from hg) (World.block_lt_of_cell? _ _ HC.out.2.1)).trans HC.out.2.1;simp only[Gw.Knows,crG] at hk
    try (simp[go_sem,Gw.zw,Gw.Ok,Gw.Post,Gw.Holds,crG,Gw.zk.refl,hk,z5,z6,hq,hq'];done)
  case hend=>
   intro x' w2 hg hx;have h16:=(hx 16 (by simp)).now;simp only[crG] at h16;have hb2:Below wr.heap.size wr w2:=hg;have HS2:=gI (HSr.out.past hb2);have HO2:=gI (HOr.out.trans (.of_below hb2));have HC2:=gI (show w2.cell? ⟨K,5,none⟩=some (.int .i64 (k:Int))/\w2.cell? ⟨K,6,none⟩=some (.int .i64 (nx:Int))/\w2.cell? ⟨K,0,none⟩=some (.pointer (some ⟨P,0,none⟩)) from ⟨(hb2.cell (World.block_lt_of_cell? _ _ HC.out.1)).trans HC.out.1,(hb2.cell (World.block_lt_of_cell? _ _ HC.out.2.1)).trans HC.out.2.1,(hb2.cell (World.block_lt_of_cell? _ _ HC.out.2.2)).trans HC.out.2.2⟩);clear hx hg hb2;simp only[Gw.zm,Act.put,List.setIfInBounds_toArray,List.set_cons_zero,List.set_cons_succ];rw[h16]
   cases q with
   |false=>
    have hkn:k=nx:=by have:=of_decide_eq_false hq';omega
    subst hkn;obtain ⟨A8,n8,c8,h8,-⟩:=HS2.out.bx.box;have y5:=HC2.out.1;have y6:=HC2.out.2.1;have g5:=h8.frozen 5;have g6:=h8.frozen 6;clear h8;have FIN:=gI (show Out (yg P M K hb ownD) w ((w2.setCell ⟨K,5,none⟩ (.int .i64 0)).setCell ⟨K,6,none⟩ (.int .i64 0))/\zI ((w2.setCell ⟨K,5,none⟩ (.int .i64 0)).setCell ⟨K,6,none⟩ (.int .i64 0)) B K P D M (N+k) none (yc X R k) {R with held:=[],first:=0,next:=0} own ownD from by
     have ho:Out (fun k=>k=K) w2 ((w2.setCell ⟨K,5,none⟩ (.int .i64 0)).setCell ⟨K,6,none⟩ (.int .i64 0)):=((Out.refl (fun k=>k=K) w2).setCell (p:=⟨K,5,none⟩) (.inl rfl) _).setCell (p:=⟨K,6,none⟩) (.inl rfl) _;exact ⟨HO2.out.trans (ho.more fun k _ e=>.inr (.inl e)),HS2.out.turn (ho.more fun k _ e=>.inl e) HS2.out.bx.zero (fun k e=>by cases e)⟩)
    go_wp2
    go_ret
    exact ⟨rfl,FIN.out⟩
   |true=>
    have hkn:k<nx:=of_decide_eq_true hq';obtain ⟨x,hxx⟩:∃x,x=zq R k:=⟨_,rfl⟩
    obtain ⟨X1,hX1⟩:∃X1,X1=yc X R k:=⟨_,rfl⟩
    obtain ⟨R1,hR1⟩:∃R1,R1=({R with held:=[],first:=k}:SrD):=⟨_,rfl⟩
    obtain ⟨C,hCC⟩:∃C,C=setC X1.C x none:=⟨_,rfl⟩
    have HXX:=gI (And.intro hxx (And.intro hX1 (And.intro hR1 hCC)));have HS2b:=gI (show zI w2 B K P D M (N+k) none X1 R1 own ownD by rw[hX1,hR1];exact HS2.out);have HNM:=gI (show ∀W,Below w2.heap.size w2 W->Calls Tryz.prog 31 #[.pointer (some ⟨K,0,none⟩),.int .i64 (k:Int)] W fun e w'=>e=.returned (sv x)/\Below W.heap.size W w' from fun W hW=>by
     rw[hxx];exact Q9 (HS2.out.bx.past hW) k (by omega))
    have hxl:x.length<=1000:=by
     have h7:=(qm HS2.out.bx.ok (n:=k) (by omega)).2;rw[hxx];show (zq R k).length<=1000
     exact Nat.le_trans h7 (by omega)
    have HRM:=gI (show ∀W,Below w2.heap.size w2 W->Calls Tryz.prog 49 #[.pointer (some ⟨P,0,none⟩),sv x] W (zdx W B P D M (N+k) X1 own ownD 0 C) from fun W hW=>by
     have h7:=zdJ (HS2b.out.st.past hW) x hxl (by omega);have h8:zb3 X1 x=0:=by rw[hX1,hxx];exact HREM.out k (by rw[<-HNX.out];exact hkn)
     rw[h8,<-hCC] at h7;exact h7)
    clear hxx hX1 hR1 hCC hq hq' h16 hnum
    go_wp2_with fail
    refine Gw.zN (Out (yg P M K none ownD)) (Out.refl _) (fun _ _ _=>Out.trans) (csI w2 B K P D M (N+k) X1 R1 own ownD C) (csG K P k x) [10] [17,18,19,20,21,22,23,24,25,26,27,3] [([0],none,[0],false),([17],none,[0],false),([18],none,[0],false),([19],none,[0],false),([0],none,[0],false),([0],none,[0],false),([22],none,[0],false),([23],none,[0],false),([24],none,[0],false),([21,25],none,[0],false),([20,26],none,[0],true),([27],none,[1],false)] 44 1 (by kernel_rfl) (by kernel_rfl) rfl (xu _ _) ?hI ?h0 ?hreq ?hend
    case hI=>
     show (if 0=0 then Below w2.heap.size w2 w2.drew else _)
     rw[if_pos rfl];exact (Below.refl _ _).drew
    case h0=>
     intro t W hnd _;unfold csG
     split<;>first|rfl|trivial|exact absurd (by simp) hnd
    case hreq=>
     refine ⟨⟨?_,trivial⟩,⟨?_,trivial⟩,⟨?_,trivial⟩,⟨?_,trivial⟩,⟨?_,trivial⟩,⟨?_,trivial⟩,⟨?_,trivial⟩,⟨?_,trivial⟩,⟨?_,trivial⟩,⟨?_,trivial⟩,⟨?_,trivial⟩,⟨?_,trivial⟩,trivial⟩
     all_goals
      intro ac W hR hI hk;simp only[Gw.Knows,csG] at hk
      try (simp[go_sem,Gw.yo,Gw.OkP,Gw.xH,Gw.zW,csG,Out.refl,hk,hI];done)
     all_goals
      try (have q0:=((show Below w2.heap.size w2 W from hI).cell (World.block_lt_of_cell? _ _ HC2.out.2.2)).trans HC2.out.2.2
           have q5:=((show Below w2.heap.size w2 W from hI).cell (World.block_lt_of_cell? _ _ HC2.out.1)).trans HC2.out.1;simp[go_sem,Gw.yo,Gw.OkP,Gw.xH,Gw.zW,csG,Out.refl,hk,hI,q0,q5]
           done)
     ·have hI':Below w2.heap.size w2 W:=hI;simp[go_sem,Gw.yo,Gw.OkP,Gw.xH,Gw.zW,csG,Out.refl,hk];refine (HNM.out W hI').mono ?_;rintro e W' ⟨rfl,hb3⟩;exact ⟨_,rfl,.of_below hb3,hI'.trans (hb3.mono hI'.size),fun _ _=>rfl⟩
     ·have hI':Below w2.heap.size w2 W:=hI;simp[go_sem,Gw.yo,Gw.OkP,Gw.xH,Gw.zW,csG,Out.refl,hk];refine (HRM.out W hI').mono ?_;rintro e W' ⟨rfl,hb3⟩;rcases hb3 with ⟨h3,-⟩|⟨-,h3⟩
      ·exact absurd rfl h3
      ·have ho:Out (yg P M K none ownD) W W':=h3.2.more fun k _ hk=>.inl hk
       exact ⟨_,rfl,ho,⟨(Out.of_below hI').trans ho,(HS2b.out.past hI').stored h3⟩,fun _ _=>rfl⟩
    case hend=>
     intro y w5 hR hI hx;have v3:=hx 3 (by simp) _ (Out.refl _ _);simp only[csG] at v3;clear hx;simp only[Gw.zm,Act.put,List.setIfInBounds_toArray,List.set_cons_zero,List.set_cons_succ];rw[v3];obtain ⟨ho,hs⟩:=(show Out (yg P M K none ownD) w2 w5/\zI w5 B K P D M (N+k+1) none {X1 with C:=C} R1 own ownD from hI)
     rw[HXX.out.2.2.1] at hs;obtain ⟨A2,n2,c2,g1,-⟩:=hs.bx.box;have d5:=g1.cell (i:=5) rfl;have e5:=g1.frozen 5;have FIN:=gI (show zf8 (w5.setCell ⟨K,5,none⟩ (.int .i64 ((k:Int)+1))) K 5=k+1/\Hid (zI (w5.setCell ⟨K,5,none⟩ (.int .i64 ((k:Int)+1))) B K P D M (N+(k+1)) none (yc X R (k+1)) {R with held:=[],first:=k+1} own ownD)/\Hid (Out (yg P M K hb ownD) w (w5.setCell ⟨K,5,none⟩ (.int .i64 ((k:Int)+1)))) from by
      have ho2:Out (fun j=>j=K) w5 (w5.setCell ⟨K,5,none⟩ (.int .i64 ((k:Int)+1))):=(Out.refl (fun j=>j=K) w5).setCell (p:=⟨K,5,none⟩) (.inl rfl) _;have hnb:=hs.bx.first (show k<R.next by rw[<-HNX.out];exact hkn)
      have h9:=hs.turn (ho2.more fun j _ e=>.inl e) hnb (fun j e=>by cases e);have e1:({X1 with C:=C}:Sto)=yc X R (k+1):=by rw[HXX.out.2.2.2,HXX.out.2.1,HXX.out.1];rfl
      rw[e1] at h9;refine ⟨?_,gI h9,gI ?_⟩
      ·obtain ⟨A3,n3,c3,g3,-⟩:=h9.bx.box;exact QL (k:=.i64) (n:=k+1) g3.seven.2.2.2.2.2.1
      ·refine HO2.out.trans ((ho.more fun j _ hj=>?_).trans (ho2.more fun j _ e=>.inr (.inl e)));rcases hj with h|h|h
       ·exact .inl h
       ·exact .inr (.inl h)
       ·cases h)
     clear ho hs g1 hR hI v3
     go_wp2
     go_roundw
     case rel=>exact ⟨k+1,by omega,FIN.out.1,FIN.out.2.1,FIN.out.2.2⟩
     case measure=>rw[FIN.out.1,HNUM.out];omega
end
section
open Go.RowKit Me Mf Rw Ds Rn Tx Fr Mw Hp
variable {w w':World} {B K P D M N:Nat} {hb:Option Nat} {X:Sto} {R:SrD} {own ownD:Nat->Prop}
theorem zjP {w:World} {B:Nat} {A:Option Addr} {es:List Pc} (h:ZU w B A es):Parts w B A (es.map (·.2)):=fun h0=>by
 rw[List.length_map] at h0;obtain ⟨a,A1,n1,c1,rfl,hab,-⟩:=h.at (i:=0) (p:=es[0]) (List.getElem?_eq_getElem h0);refine ⟨a,rfl,hab,fun i l hi=>?_⟩;rw[List.getElem?_map] at hi
 cases hp:es[i]? with
 |none=>rw[hp] at hi;cases hi
 |some p=>
  rw[hp] at hi;injection hi with hi;subst hi;obtain ⟨a',A2,n2,c2,ea,-,g,q1,q2,q3,hr⟩:=h.at hp;injection ea with ea;subst ea;exact ⟨A2,n2,c2,g,q1,by omega,hr⟩
def rewX (X:Sto) (R:SrD) (m:List (List UInt8)):Sto×SrD:=
 if m=[] then (yc X R R.next,{R with held:=[],first:=0,next:=0}) else ({yc X R R.next with C:=setC (yc X R R.next).C (zq R 0) (some (runB m))},{R with held:=[],first:=0,next:=1})
theorem zkB (X:Sto) (R:SrD) (n:Nat):upD (yc X R n)=upD X:=by
 obtain ⟨h1,h2,h3⟩:=zaS X R n;unfold upD;rw[h1,h3]
def ziY (w:World) (B K P D M N:Nat) (hb:Option Nat) (own ownD:Nat->Prop) (q:Sto×SrD) (e:Ending) (w':World):Prop:=
 e=.returned (.int .i64 0)/\Out (yg P M K hb ownD) w w'/\∃N',N'<=N/\zI w' B K P D M N' none q.1 q.2 own ownD
theorem zcd (h:zI w B K P D M N hb X R own ownD) {A:Option Addr} {n c:Nat} {es:List Pc} (hl:es.length=n) (hn:n<=100000) (hr:ZU w w.heap.size A es) (hf:fitR R.wd (es.map (·.2))=false) :
 Calls Tryz.prog 24 #[.pointer (some ⟨K,0,none⟩),.slice A n c] w fun e w'=>e=.returned (.int .i64 3)/\Below w.heap.size w w':=by
 obtain ⟨A',n',c',h1,-⟩:=h.bx.box;have c2:=h1.cell (i:=2) rfl;have hwd:=h.bx.ok.wd;have HC:=gI c2;have HR:=gI hr;have HL:=gI hl;have HF:=gI hf;clear h h1 c2 hr hl hf
 go_enter Tryz.func24,Tryz.ntmps24
 go_wp2_with fail
 refine (Q0 A n c w).mono ?_;rintro e w1 ⟨rfl,hw1⟩;have hb1:Below w.heap.size w w1:=by rw[hw1];exact (Below.refl _ _).alloc (Nat.le_refl _) _
 have BS:=gI (show Blk w1 w.heap.size [.slice A n c] by rw[hw1];exact Blk.new w [.slice A n c] _);have HB1:=gI hb1;have HR1:=gI (show ZU w1 w1.heap.size A es from ⟨(HR.out.row.below hb1).more hb1.size,fun p hp=>by
  obtain ⟨A1,n1,c1,e1,h1,h2,h3,h4⟩:=HR.out.all p hp;exact ⟨A1,n1,c1,e1,h1,h2,h3,(h4.below hb1).more hb1.size⟩⟩)
 have HGV:=gI (Xc (w:=w1) HL.out (by omega) BS.out HR1.out.row);have HFT:=gI (zbA (fun x:Pc=>x.1) (fun x:Pc=>x.2) (fun T x av W h=>h) (enters_of Tryz.func82 (by kernel_rfl) rfl) w1 HGV.out (fun k hk=>by
  rcases hk with rfl|⟨h0,a,e,rfl⟩
  ·exact BS.out.lt
  ·obtain ⟨a',e',hb',-⟩:=HR1.out.row (by rw[List.length_map,HL.out];exact h0);rw[e] at e';injection e' with e';subst e';exact hb') (fun x hx=>HR1.out.all x hx) K R.wd (by omega) ((hb1.cell (World.block_lt_of_cell? _ _ HC.out)).trans HC.out))
 rw[HF.out] at HFT;clear hw1 hb1
 go_wp2_with fail
 refine HFT.out.mono ?_;rintro e w2 ⟨rfl,hb2⟩;have HB2:=gI (HB1.out.trans (hb2.mono HB1.out.size));clear hb2
 go_wp2
 go_ret
 exact ⟨rfl,HB2.out⟩
theorem zce (h:zI w B K P D M N hb X R own ownD) (h0:R.first=0) (hrem:∀k,k<R.next->zb3 (yc X R k) (zq R k)=0) (hup:upD X=true) (hN:N+R.next+1<maxLen) {A:Option Addr} {n c:Nat} {es:List Pc} (hl:es.length=n) (hn:n<=100000) (hr:ZU w w.heap.size A es) (hf:fitR R.wd (es.map (·.2))=true) (hfl:(es.map (·.2)).flatten.length<=262144) :
 Calls Tryz.prog 24 #[.pointer (some ⟨K,0,none⟩),.slice A n c] w (ziY w B K P D M (N+R.next+1) hb own ownD (rewX X R (es.map (·.2)))):=by
 obtain ⟨A',n',c',h1,-⟩:=h.bx.box;have c2:=h1.cell (i:=2) rfl;have hwd:=h.bx.ok.wd;have HC:=gI c2;have HR:=gI hr;have HL:=gI hl;have HF:=gI hf;have HH:=gI h;have H0:=gI (And.intro h0 hup);have HREM:=gI hrem;obtain ⟨m,hm⟩:∃m,m=es.map (·.2):=⟨_,rfl⟩
 rw[<-hm] at hfl ⊢;have HM:=gI (And.intro hm hfl);have hml:m.length=n:=by rw[hm,List.length_map,hl]
 obtain ⟨V,hV⟩:∃V,V=rewX X R m:=⟨_,rfl⟩
 rw[<-hV];have HV:=gI hV;have HML:=gI hml;clear h h1 c2 hr hl hf h0 hup hm hfl hV hml hrem
 go_enter Tryz.func24,Tryz.ntmps24
 go_wp2_with fail
 refine (Q0 A n c w).mono ?_;rintro e w1 ⟨rfl,hw1⟩;have hb1:Below w.heap.size w w1:=by rw[hw1];exact (Below.refl _ _).alloc (Nat.le_refl _) _
 have BS:=gI (show Blk w1 w.heap.size [.slice A n c] by rw[hw1];exact Blk.new w [.slice A n c] _);have HB1:=gI hb1;have HR1:=gI (show ZU w1 w1.heap.size A es from ⟨(HR.out.row.below hb1).more hb1.size,fun p hp=>by
  obtain ⟨A1,n1,c1,e1,h1,h2,h3,h4⟩:=HR.out.all p hp;exact ⟨A1,n1,c1,e1,h1,h2,h3,(h4.below hb1).more hb1.size⟩⟩)
 have HGV:=gI (Xc (w:=w1) HL.out (by omega) BS.out HR1.out.row);have HFT:=gI (zbA (fun x:Pc=>x.1) (fun x:Pc=>x.2) (fun T x av W h=>h) (enters_of Tryz.func82 (by kernel_rfl) rfl) w1 HGV.out (fun k hk=>by
  rcases hk with rfl|⟨h0,a,e,rfl⟩
  ·exact BS.out.lt
  ·obtain ⟨a',e',hb',-⟩:=HR1.out.row (by rw[List.length_map,HL.out];exact h0);rw[e] at e';injection e' with e';subst e';exact hb') (fun x hx=>HR1.out.all x hx) K R.wd (by omega) ((hb1.cell (World.block_lt_of_cell? _ _ HC.out)).trans HC.out))
 rw[HF.out] at HFT;clear hw1 hb1
 go_wp2_with fail
 refine HFT.out.mono ?_;rintro e w2 ⟨rfl,hb2⟩;have HB2:=gI (HB1.out.trans (hb2.mono HB1.out.size));have HP2:=gI (show Parts w2 w2.heap.size A m from by
  rw[HM.out.1];refine zjP (es:=es) ⟨(HR1.out.row.below hb2).more hb2.size,fun p hp=>?_⟩;obtain ⟨A1,n1,c1,e1,h1,h2,h3,h4⟩:=HR1.out.all p hp;exact ⟨A1,n1,c1,e1,h1,h2,h3,(h4.below hb2).more hb2.size⟩)
 clear hb2
 go_wp2_with fail
 refine (X9 A n c m w2 HML.out (by omega) (by have:=HM.out.2;omega) HP2.out).mono ?_;rintro e w3 hnews;obtain ⟨A1,n1,c1,rfl,hl1,hc1,ho1,hr1,hb1⟩:=hnews.open;have HEN:=gI (VI A1 n1 c1 m.flatten w3 hl1 (by have:=HM.out.2;omega) hr1);have HB3:=gI (HB2.out.trans (hb1.mono HB2.out.size));clear hnews hl1 hc1 ho1 hr1 hb1
 go_wp2_with fail
 refine HEN.out.mono ?_;rintro e w4 hput;obtain ⟨A2,n2,c2,rfl,hl2,hc2,ho2,hr2,hb2⟩:=hput.open;have HB4:=gI (HB3.out.trans (hb2.mono HB3.out.size));have HRB:=gI (show (runB m).length=n2/\w4.ownsRow w3.heap.size 5 1 (.slice A2 n2 c2) n2 (cellsOf (runB m)) from ⟨hl2,ho2⟩);clear hput hl2 hc2 ho2 hr2 hb2;have HCL:=gI (zaq (HH.out.past HB4.out) H0.out.1 HREM.out (by omega))
 go_wp2_with fail
 refine HCL.out.mono ?_;rintro e w5 ⟨rfl,ho5,hs5⟩;have HO5:=gI ((Out.of_below HB4.out).trans ho5);have HS5:=gI hs5;have HR5:=gI (show w5.ownsRow w3.heap.size 5 1 (.slice A2 n2 c2) n2 (cellsOf (runB m)) from zn HRB.out.2 ho5 (fun k hk hf=>by
  have h3:=HRB.out.2.lt k hk;have h4:=HH.out.foot hf;have h5:=(HH.out.st.lt h4).2;have h6:=HB3.out.size
  omega))
 clear ho5 hs5 HCL
 by_cases hm0:m=[]
 ·have e0:n=0:=by rw[<-HML.out,hm0];rfl
  subst e0;have FIN:=gI (show ziY w B K P D M (N+R.next+1) hb own ownD V (.returned (.int .i64 0)) w5 from by
   rw[HV.out];unfold rewX;rw[if_pos hm0];exact ⟨rfl,HO5.out,N+R.next,by omega,HS5.out⟩)
  clear hm0
  go_wp2
  go_ret
  exact FIN.out
 ·have hn0:¬n=0:=fun e=>hm0 (List.length_eq_zero_iff.1 (by rw[HML.out,e]))
  have d1:((n:Int)==0)=false:=beq_eq_false_iff_ne.2 (by omega);have hn2:n2<=300000:=by rw[<-HRB.out.1,yU];have:=HM.out.2;omega
  have HAD:=gI (zeW HS5.out A2 n2 c2 (runB m) HRB.out.1 (by omega) (Rd.of_own HR5.out) (by omega) (by show 0<1000000;omega));have hal:xg (upD (yc X R R.next)) (zq R 0) (n2:Int)=0:=by
   have h7:=qm HH.out.bx.ok (n:=0) (by omega);rw[zkB,H0.out.2];unfold xg;rw[if_pos rfl,if_neg (by omega),if_neg (by omega)]
  have HAL:=gI hal;have FINX:=gI (show V=({yc X R R.next with C:=setC (yc X R R.next).C (zq R 0) (some (runB m))},{R with held:=[],first:=0,next:=1}) from by rw[HV.out];unfold rewX;rw[if_neg hm0]);clear hm0 hal
  go_wp2_with fail
  refine HAD.out.mono ?_;rintro e w6 ⟨rfl,ho6,hs6⟩;have FIN:=gI (show ziY w B K P D M (N+R.next+1) hb own ownD V (.returned (.int .i64 0)) w6 from by
   rw[FINX.out];rcases hs6 with ⟨hr0,-⟩|⟨-,hs6⟩
   ·exact absurd HAL.out hr0
   ·refine ⟨rfl,HO5.out.trans (ho6.more fun k _ hk=>?_),N+R.next+1,Nat.le_refl _,hs6⟩;rcases hk with h|h|h
    ·exact .inl h
    ·exact .inr (.inl h)
    ·cases h)
  have hz:xg (upD (yc X R R.next)) (zq {R with held:=[],first:=0,next:=0} 0) (n2:Int)=0:=HAL.out;clear ho6 hs6;rw[show xg (upD (yc X R R.next)) (zq {pre:=R.pre,wd:=R.wd,rm:=R.rm,held:=[],first:=0,next:=0} {pre:=R.pre,wd:=R.wd,rm:=R.rm,held:=[],first:=0,next:=0:SrD}.next) (n2:Int)=0 from HAL.out]
  go_wp2
  go_ret
  exact FIN.out
end
section
open Go.RowKit Me Mf Rw Ds Rn Tx Fr Mw Hp
theorem zlC {pre:List UInt8} {wz rz:Int} (h:Xl pre wz rz=true):∃wd rm:Nat,wz=(wd:Int)/\rz=(rm:Int)/\1<=wd/\wd<=64/\1<=rm/\rm<=4096:=by
 unfold Xl at h;simp only[Bool.and_eq_true,decide_eq_true_eq] at h;exact ⟨wz.toNat,rz.toNat,by omega,by omega,by omega,by omega,by omega,by omega⟩
end
end Go.Proofs.YtcdkopbjlakebaaGreatDoor
