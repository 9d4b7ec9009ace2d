/- Texts put together, for a law: PlA0, PlM. -/
import Derived.Deep.Grids
import Derived.Test.YtcdkopbjlakebaaGreatDoorKP41
set_option maxRecDepth 100000
set_option maxHeartbeats 8000000
namespace Go.Proofs.YtcdkopbjlakebaaGreatDoor
section
open Go.RowKit Me Mf Rw Ds Va Go.Maps
open Go.ChangeShapes Go.WideShapes
end
section
open Go.RowKit Me Mf Rw Ds Va Go.Maps
theorem Vw {x y:List UInt8}:less x y=true↔x<y:=by
 have h:less x y=decide (x<y):=bytesLess_eq x y;rw[h]
 simp
theorem zlH {x y z:List UInt8} (h:less x y=true) (k:less y z=true):less x z=true:=Vw.2 (List.lt_trans (Vw.1 h) (Vw.1 k))
theorem zlI {x y:List UInt8} (h:less x y=true) (k:less y x=true):False:=List.lt_asymm (Vw.1 h) (Vw.1 k)
theorem zbe:∀{l k:List (List UInt8)},l.Pairwise (fun x y=>less x y=true)->k.Pairwise (fun x y=>less x y=true)->(∀x,x∈l↔x∈k)->l=k
 |[],[],_,_,_=>rfl
 |[],b::k,_,_,h=>absurd ((h b).2 (by simp)) (by simp)
 |a::l,[],_,_,h=>absurd ((h a).1 (by simp)) (by simp)
 |a::l,b::k,h1,h2,h=>by
  rw[List.pairwise_cons] at h1 h2;have hab:a=b:=by
   have ha:=(h a).1 (by simp);have hb:=(h b).2 (by simp);rw[List.mem_cons] at ha hb;rcases ha with rfl|ha
   ·rfl
   ·rcases hb with rfl|hb
    ·rfl
    ·exact (zlI (h1.1 b hb) (h2.1 a ha)).elim
  subst hab
  congr 1
  refine zbe h1.2 h2.2 fun i=>?_
  have:=h i;rw[List.mem_cons,List.mem_cons] at this
  constructor
  ·intro hi;rcases this.1 (.inr hi) with rfl|h'
   ·have:=h1.1 i hi;rw[yA] at this;cases this
   ·exact h'
  ·intro hi;rcases this.2 (.inr hi) with rfl|h'
   ·have:=h2.1 i hi;rw[yA] at this;cases this
   ·exact h'
theorem ZT.one {X:Sto} {l k:List (List UInt8)} (h:ZT X l) (h':ZT X k):l=k:=zbe h.rise h'.rise fun x=>(h.mem x).trans (h'.mem x).symm
structure Live (X:Sto) (F:List UInt8->List UInt8):Prop where
 calm:Calm X.S
 on:X.S.on=true
 ok:OkS X
 live:X.broken=false
 holds:Holds X.S.stored X.m.files F
section
variable {X:Sto} {F:List UInt8->List UInt8} {m:ManD} {l:List (List UInt8)} {x b:List UInt8}
theorem Live.up (h:Live X F):upD X=true:=by unfold upD;rw[h.live,h.on];rfl
theorem Live.file (h:Live X F) {f:zi} (hf:f∈X.m.files):zbi X.S f=(F f.name,0):=by
 refine zeS h.on h.calm.pend (h.holds f hf) fun z hz=>⟨?_,h.ok.disk z (by unfold zh;exact List.mem_flatMap.2 ⟨f,hf,hz⟩)⟩
 have:=((h.ok.fit.1.2.2.1 f hf).2.2 z hz).1;omega
theorem Live.reads (h:Live X F) (x:List UInt8):xS X x=if hasN X x then (newF X.C F x,0) else ([],8):=by
 unfold xS hasN newF;rw[h.up,if_pos rfl]
 cases hC:X.C x with
 |some z=>
  cases z with
  |some b=>rfl
  |none=>rfl
 |none=>
  cases hf:fileOf X.m x with
  |none=>
   have:=X7.1 hf;simp only[decide_eq_true_eq];rw[if_neg this]
  |some f=>
   obtain ⟨h1,h2⟩:=xK hf;have:x∈X.m.files.map (·.name):=List.mem_map.2 ⟨f,h1,h2⟩;simp only[decide_eq_true_eq];rw[if_pos this,h.file h1,h2]
theorem zjr (x:List UInt8):(qU X x).2=hasN X x:=by
 unfold qU hasN
 cases hC:X.C x with
 |some z=>cases z<;>rfl
 |none=>
  cases hf:fileOf X.m x with
  |none=>simp[X7.1 hf]
  |some f=>
   obtain ⟨h1,h2⟩:=xK hf;have:x∈X.m.files.map (·.name):=List.mem_map.2 ⟨f,h1,h2⟩;simp only[decide_eq_true this]
theorem Live.size (h:Live X F) (hx:hasN X x=true):(qU X x).1=((newF X.C F x).length:Int):=by
 have h1:=h.reads x;rw[if_pos hx] at h1;have h2:=zb4 h.ok (x:=x) (by rw[h1]);rw[h1] at h2;exact h2.symm
end
structure Ply where
 m:ManD
 hv:List FB
 now:List FB
 ch:List (List UInt8)
 waits:Bool
def yM (l:List FB):List (List UInt8):=l.map fun f=>f.1
structure vO (X:Sto) (F:List UInt8->List UInt8) (Y:Ply):Prop where
 m:Y.m=X.m
 hv:Y.hv=X.m.files.map fun f=>(f.name,F f.name)
 names:ZT X (yM Y.now)
 vals:∀f∈Y.now,f.2=newF X.C F f.1
 ch1:∀x b,X.C x=some (some b)->x∈Y.ch
 ch2:∀x∈Y.ch,X.C x≠none
 waits:Y.waits=true↔¬∀x,X.C x=none
section
variable {l:List FB} {x b:List UInt8}
theorem zaP (h:x∈yM l):∃(i:Nat) (f:FB),X6 l x=((i:Int),true)/\l[i]?=some f/\f.1=x:=by
 unfold X6
 cases hf:l.findIdx? (fun f=>f.1==x) with
 |some i=>
  obtain ⟨hi,h1,-⟩:=List.findIdx?_eq_some_iff_getElem.1 hf;exact ⟨i,l[i],rfl,List.getElem?_eq_getElem hi,by simpa using h1⟩
 |none=>
  rw[List.findIdx?_eq_none_iff] at hf;obtain ⟨f,h1,h2⟩:=List.mem_map.1 h;have:=hf f h1;simp at this;exact absurd h2 this
theorem zaQ (h:x∉yM l):X6 l x=(0,false):=by
 unfold X6;have:l.findIdx? (fun f=>f.1==x)=none:=by
  rw[List.findIdx?_eq_none_iff];intro f hf;have:f.1≠x:=fun e=>h (List.mem_map.2 ⟨f,hf,e⟩)
  simpa using this
 rw[this]
theorem yE {f:FB}:∀(l:List FB) (done:Bool),f∈zS x b l done↔(done=false/\f=(x,b))\/(f∈l/\f.1≠x)
 |[],done=>by
  rw[zS]
  cases done<;>simp
 |g::l,done=>by
  rw[zS]
  split
  ·rename_i h
   rw[yE l done]
   constructor
   ·rintro (h1|⟨h1,h2⟩)
    ·exact .inl h1
    ·exact .inr ⟨List.mem_cons_of_mem _ h1,h2⟩
   ·rintro (h1|⟨h1,h2⟩)
    ·exact .inl h1
    ·rcases List.mem_cons.1 h1 with rfl|h1
     ·exact absurd h h2
     ·exact .inr ⟨h1,h2⟩
  ·rename_i h
   split
   ·rename_i hd
    rw[Bool.and_eq_true,Bool.not_eq_true'] at hd;rw[List.mem_cons,List.mem_cons,yE l true,hd.1]
    constructor
    ·rintro (rfl|rfl|⟨h1,-⟩|⟨h1,h2⟩)
     ·exact .inl ⟨rfl,rfl⟩
     ·exact .inr ⟨List.mem_cons_self,h⟩
     ·cases h1
     ·exact .inr ⟨List.mem_cons_of_mem _ h1,h2⟩
    ·rintro (⟨-,rfl⟩|⟨h1,h2⟩)
     ·exact .inl rfl
     ·rcases List.mem_cons.1 h1 with rfl|h1
      ·exact .inr (.inl rfl)
      ·exact .inr (.inr (.inr ⟨h1,h2⟩))
   ·rw[List.mem_cons,yE l done]
    constructor
    ·rintro (rfl|h1|⟨h1,h2⟩)
     ·exact .inr ⟨List.mem_cons_self,h⟩
     ·exact .inl h1
     ·exact .inr ⟨List.mem_cons_of_mem _ h1,h2⟩
    ·rintro (h1|⟨h1,h2⟩)
     ·exact .inr (.inl h1)
     ·rcases List.mem_cons.1 h1 with rfl|h1
      ·exact .inl rfl
      ·exact .inr (.inr ⟨h1,h2⟩)
def zdr (l:List FB):Prop:=l.Pairwise fun f g=>less f.1 g.1=true
theorem zjz:(yM l).Pairwise (fun x y=>less x y=true)↔zdr l:=by unfold yM zdr;rw[List.pairwise_map]
theorem XL:∀(l:List FB),zdr l->zdr (zS x b l true)
 |[],_=>by rw[zS];exact List.Pairwise.nil
 |g::l,h=>by
  unfold zdr at h;rw[List.pairwise_cons] at h;rw[zS]
  split
  ·exact XL l h.2
  ·rw[if_neg (by simp)];refine List.pairwise_cons.2 ⟨fun f hf=>?_,XL l h.2⟩;rcases (yE l true).1 hf with ⟨h1,-⟩|⟨h1,-⟩
   ·cases h1
   ·exact h.1 f h1
theorem XK:∀(l:List FB),zdr l->zdr (zS x b l false)
 |[],_=>by rw[zS];exact List.pairwise_singleton _ _
 |g::l,h=>by
  have hd:=XL (x:=x) (b:=b) l (List.Pairwise.of_cons h);unfold zdr at h;rw[List.pairwise_cons] at h;rw[zS]
  split
  ·exact XK l h.2
  ·rename_i hne
   split
   ·rename_i hl
    have hl:less x g.1=true:=by simpa using hl
    have hin:∀f∈zS x b l true,less g.1 f.1=true:=fun f hf=>by
     rcases (yE l true).1 hf with ⟨h1,-⟩|⟨h1,-⟩
     ·cases h1
     ·exact h.1 f h1
    refine List.pairwise_cons.2 ⟨fun f hf=>?_,List.pairwise_cons.2 ⟨hin,hd⟩⟩;rcases List.mem_cons.1 hf with rfl|hf
    ·exact hl
    ·exact zlH hl (hin f hf)
   ·rename_i hl
    have hl:less x g.1=false:=by simpa using hl
    have hgx:less g.1 x=true:=by
     have:=Vv (x:=x) (y:=g.1) (fun e=>hne e.symm);rw[hl] at this;exact this
    refine List.pairwise_cons.2 ⟨fun f hf=>?_,XK l h.2⟩;rcases (yE l false).1 hf with ⟨-,rfl⟩|⟨h1,-⟩
    ·exact hgx
    ·exact h.1 f h1
theorem qD:∀(l:List FB) (done:Bool),(zS x b l done).length<=l.length+(if done then 0 else 1)
 |[],done=>by rw[zS];cases done<;>simp
 |g::l,done=>by
  have h1:=qD l done;have h2:=qD l true;simp at h2;rw[zS]
  split
  ·rw[List.length_cons];omega
  ·split
   ·rename_i hd
    rw[Bool.and_eq_true,Bool.not_eq_true'] at hd;rw[hd.1]
    simp
    omega
   ·rw[List.length_cons,List.length_cons];omega
end
section
variable {X:Sto} {F:List UInt8->List UInt8} {Y:Ply} {m:ManD} {x b:List UInt8}
theorem X0 (z:Option (List UInt8)) (y:List UInt8):hasN {X with C:=setC X.C x z} y=if y=x then z.isSome else hasN X y:=by
 unfold hasN setC
 by_cases e:y=x
 ·simp[e]
 ·simp[e]
theorem zlB (z:List UInt8) (y:List UInt8):newF (setC X.C x (some z)) F y=if y=x then z else newF X.C F y:=by
 unfold newF setC
 by_cases e:y=x
 ·simp[e]
 ·simp[e]
theorem zj2 (y:List UInt8) (h:y≠x):newF (setC X.C x none) F y=newF X.C F y:=by
 unfold newF setC;simp[h]
theorem vO.put (h:vO X F Y) (x b:List UInt8):vO {X with C:=setC X.C x (some b)} F ⟨Y.m,Y.hv,zS x b Y.now false,Y.ch++[x],true⟩ where
 m:=h.m
 hv:=h.hv
 names:=⟨zjz.2 (XK _ (zjz.1 h.names.rise)),fun y=>by
  rw[X0]
  constructor
  ·intro hy;obtain ⟨f,h1,h2⟩:=List.mem_map.1 hy;rcases (yE _ _).1 h1 with ⟨-,rfl⟩|⟨h1,h3⟩
   ·rw[if_pos h2.symm];rfl
   ·rw[if_neg (by rw[<-h2];exact h3)];exact (h.names.mem y).1 (List.mem_map.2 ⟨f,h1,h2⟩)
  ·intro hy
   by_cases e:y=x
   ·exact List.mem_map.2 ⟨(x,b),(yE _ _).2 (.inl ⟨rfl,rfl⟩),e.symm⟩
   ·rw[if_neg e] at hy;obtain ⟨f,h1,h2⟩:=List.mem_map.1 ((h.names.mem y).2 hy);exact List.mem_map.2 ⟨f,(yE _ _).2 (.inr ⟨h1,by rw[h2];exact e⟩),h2⟩⟩
 vals:=fun f hf=>by
  rw[zlB];rcases (yE _ _).1 hf with ⟨-,rfl⟩|⟨h1,h2⟩
  ·rw[if_pos rfl]
  ·rw[if_neg h2];exact h.vals f h1
 ch1:=fun y c hy=>by
  by_cases e:y=x
  ·simp[e]
  ·have:X.C y=some (some c):=by have:=hy;unfold setC at this;simpa [e] using this
   exact List.mem_append_left _ (h.ch1 y c this)
 ch2:=fun y hy=>by
  show setC X.C x (some b) y≠none
  unfold setC
  by_cases e:y=x
  ·simp[e]
  ·rw[if_neg e];rcases List.mem_append.1 hy with h1|h1
   ·exact h.ch2 y h1
   ·exact absurd (by simpa using h1) e
 waits:=by
  simp only[true_iff];intro hn;have:=hn x;simp[setC] at this
theorem vO.remove (h:vO X F Y) (x:List UInt8):vO {X with C:=setC X.C x none} F ⟨Y.m,Y.hv,yC Y.now x,Y.ch,true⟩ where
 m:=h.m
 hv:=h.hv
 names:=⟨zjz.2 (List.Pairwise.sublist List.filter_sublist (zjz.1 h.names.rise)),fun y=>by
  rw[X0];unfold yC
  constructor
  ·intro hy;obtain ⟨f,h1,h2⟩:=List.mem_map.1 hy;obtain ⟨h3,h4⟩:=List.mem_filter.1 h1;have h4:f.1≠x:=by simpa using h4
   rw[if_neg (by rw[<-h2];exact h4)];exact (h.names.mem y).1 (List.mem_map.2 ⟨f,h3,h2⟩)
  ·intro hy
   by_cases e:y=x
   ·rw[if_pos e] at hy;cases hy
   ·rw[if_neg e] at hy;obtain ⟨f,h1,h2⟩:=List.mem_map.1 ((h.names.mem y).2 hy);exact List.mem_map.2 ⟨f,List.mem_filter.2 ⟨h1,by rw[h2];simpa using e⟩,h2⟩⟩
 vals:=fun f hf=>by
  obtain ⟨h3,h4⟩:=List.mem_filter.1 hf;have h4:f.1≠x:=by simpa using h4
  rw[zj2 _ h4];exact h.vals f h3
 ch1:=fun y c hy=>by
  by_cases e:y=x
  ·have:setC X.C x none y=some (some c):=hy;unfold setC at this;rw[if_pos e] at this
   cases this
  ·have:X.C y=some (some c):=by have:=hy;unfold setC at this;simpa [e] using this
   exact h.ch1 y c this
 ch2:=fun y hy=>by
  show setC X.C x none y≠none
  unfold setC
  by_cases e:y=x
  ·simp[e]
  ·rw[if_neg e];exact h.ch2 y hy
 waits:=by
  simp only[true_iff];intro hn;have:=hn x;simp[setC] at this
theorem zj4 (hf:Fit m) {S:Dsk} {br:Bool}:ZT ⟨S,m,noC,br⟩ (m.files.map (·.name)):=by
 refine ⟨?_,fun x=>?_⟩
 ·rw[List.pairwise_map];exact hf.1.1.2
 ·unfold hasN noC
  simp
theorem vO.plain (hf:Fit m) (S:Dsk) (br:Bool) (F:List UInt8->List UInt8):vO ⟨S,m,noC,br⟩ F ⟨m,m.files.map fun f=>(f.name,F f.name),m.files.map fun f=>(f.name,F f.name),[],false⟩ where
 m:=rfl
 hv:=rfl
 names:=by
  have e:yM (m.files.map fun f=>(f.name,F f.name))=m.files.map (·.name):=by unfold yM;rw[List.map_map];rfl
  rw[e];exact zj4 hf
 vals:=fun f hf=>by
  obtain ⟨g,-,rfl⟩:=List.mem_map.1 hf;rfl
 ch1:=fun x b hx=>by cases hx
 ch2:=fun x hx=>by cases hx
 waits:=⟨(fun h=>by cases h),(fun h=>absurd (fun _=>rfl) h)⟩
theorem vO.forget (h:vO X F Y) (hf:Fit X.m) (S:Dsk) (br:Bool):vO ⟨S,X.m,noC,br⟩ F ⟨Y.m,Y.hv,Y.hv,[],false⟩:=by
 rw[h.m,h.hv];exact vO.plain hf S br F
theorem Vh (fs:List zi):∀(L:List (List UInt8×Option Nat)) (fr:List Nat) (nx:Nat) (r:List zi×Nat),St.yX fs L fr nx=some r->∀x o,(x,o)∈L->(o=none->x∈fs.map (·.name))->x∈r.1.map (·.name)
 |[],fr,nx,r,h,x,o,hx,_=>by cases hx
 |(y,none)::l,fr,nx,r,h,x,o,hx,ho=>by
  rw[St.yX] at h
  cases hr:St.yX fs l fr nx with
  |none=>rw[hr] at h;cases h
  |some q=>
   rw[hr] at h;injection h with h;subst h;show x∈(_++q.1).map _
   rw[List.map_append,List.mem_append];rcases List.mem_cons.1 hx with e|hx
   ·injection e with e1 e2;subst e1 e2;obtain ⟨f,h1,h2⟩:=List.mem_map.1 (ho rfl);exact .inl (List.mem_map.2 ⟨f,List.mem_filter.2 ⟨h1,by simpa using h2⟩,h2⟩)
   ·exact .inr (Vh fs l fr nx q hr x o hx ho)
 |(y,some s)::l,fr,nx,r,h,x,o,hx,ho=>by
  rw[St.yX] at h
  split at h
  ·cases hr:St.yX fs l (fr.drop (St.pages s)) (nx+1) with
   |none=>rw[hr] at h;cases h
   |some q=>
    rw[hr] at h;injection h with h;subst h;show x∈(_::q.1).map _
    rw[List.map_cons,List.mem_cons];rcases List.mem_cons.1 hx with e|hx
    ·injection e with e1 e2;exact .inl e1
    ·exact .inr (Vh fs l _ _ q hr x o hx ho)
  ·cases h
theorem xC.names {l:List (List UInt8)} (h:xC X l m) (hl:ZT X l):m.files.map (·.name)=l:=by
 refine zbe ?_ hl.rise fun x=>⟨fun hx=>?_,fun hx=>?_⟩
 ·rw[List.pairwise_map];exact h.2.2.1.1.2
 ·obtain ⟨f,hf,rfl⟩:=List.mem_map.1 hx;rcases h.file hf with ⟨h1,-⟩|⟨s,h1,-⟩<;>exact h1
 ·have h1:=h.1;unfold St.QE at h1
  cases hr:St.yX X.m.files (YE X l) (St.Yh X.S.stored.length X.m.files) X.m.next with
  |none=>rw[hr] at h1;cases h1
  |some r=>
   rw[hr] at h1;injection h1 with h1;rw[<-h1];refine Vh _ _ _ _ r hr x (szC X x) (List.mem_map.2 ⟨x,hx,rfl⟩) fun ho=>?_
   have hN:=(hl.mem x).1 hx;unfold hasN at hN;unfold szC at ho
   cases hC:X.C x with
   |none=>rw[hC] at hN;simpa using hN
   |some z=>
    cases z with
    |none=>rw[hC] at hN;cases hN
    |some c=>rw[hC] at ho;cases ho
theorem vO.commit (h:vO X F Y) (hn:xC X (yM Y.now) m) (S:Dsk) (br:Bool):vO ⟨S,m,noC,br⟩ (newF X.C F) ⟨m,Y.now,Y.now,[],false⟩:=by
 have e:Y.now=m.files.map fun f=>(f.name,newF X.C F f.name):=by
  have h1:=hn.names h.names;have h2:Y.now=(yM Y.now).map fun x=>(x,newF X.C F x):=by
   unfold yM;rw[List.map_map]
   conv=>lhs;rw[<-List.map_id Y.now]
   refine List.map_congr_left fun f hf=>?_
   show f=(f.1,newF X.C F f.1)
   rw[<-h.vals f hf]
  rw[h2,<-h1,List.map_map];rfl
 have:=vO.plain hn.2.2 S br (newF X.C F);rw[<-e] at this;exact this
theorem vO.there (h:vO X F Y) (x:List UInt8):(hasN X x=true/\∃(i:Nat) (f:FB),X6 Y.now x=((i:Int),true)/\Y.now[i]?=some f/\f.1=x/\f.2=newF X.C F x)\/(hasN X x=false/\X6 Y.now x=(0,false)):=by
 by_cases hx:x∈yM Y.now
 ·obtain ⟨i,f,h1,h2,h3⟩:=zaP hx;exact .inl ⟨(h.names.mem x).1 hx,i,f,h1,h2,h3,by rw[<-h3];exact h.vals f (List.mem_of_getElem? h2)⟩
 ·refine .inr ⟨?_,zaQ hx⟩
  cases hh:hasN X x with
  |false=>rfl
  |true=>exact absurd ((h.names.mem x).2 hh) hx
end
end
end Go.Proofs.YtcdkopbjlakebaaGreatDoor
