/- Texts put together, for a law: StPu, StPq, StM, StCo, StOp, StN, StNi, StBe, StWi. -/
import Derived.Test.YtcdkopbjlakebaaGreatDoorKS37
import Derived.Test.YtcdkopbjlakebaaGreatDoorKS40
import Derived.Test.YtcdkopbjlakebaaGreatDoorKS34
import Derived.Test.YtcdkopbjlakebaaGreatDoorKS33
section
namespace Go.Proofs.YtcdkopbjlakebaaGreatDoor
open Go.RowKit Me Mf Rw Ds Va Go.Maps
section
theorem writeD_size (S:Dsk) (i:Int) (l:List UInt8):(writeD S i l).1.stored=S.stored:=by
 unfold writeD
 repeat' split
 all_goals simp[(power_pend S).2]
theorem syncD_size (S:Dsk):(syncD S).1.stored.length=S.stored.length:=by
 unfold syncD
 repeat' split
 all_goals simp[(power_pend S).2,settle_length]
theorem stD_size (S:Dsk) (n:Nat) (l:List UInt8):∀k,(stD S n l k).1.stored=S.stored
 |0=>rfl
 |k+1=>by
  have h:=stD_size S n l k
  rw[stD]
  split
  ·rw[writeD_size,h]
  ·exact h
theorem wslotD_size (S:Dsk) (n:Nat) (l:List UInt8):(wslotD S n l).1.stored.length=S.stored.length:=by
 unfold wslotD
 split
 ·rw[syncD_size,stD_size]
 ·rw[stD_size]
theorem wmD_size (S:Dsk) (m:ManD):∀k,(wmD S m k).1.stored.length=S.stored.length
 |0=>rfl
 |k+1=>by
  have h:=wmD_size S m k
  rw[wmD]
  split
  ·rw[wslotD_size,h]
  ·exact h
theorem ptD_size (S:Dsk) (id:Nat) (bl:List Int) (b:List UInt8):∀k,(ptD S id bl b k).1.stored=S.stored
 |0=>rfl
 |k+1=>by
  have h:=ptD_size S id bl b k
  rw[ptD]
  split
  ·rw[writeD_size,h]
  ·exact h
def bodyC (C:Chg) (x:List UInt8):List UInt8:=((C x).getD none).getD []
def putsD (C:Chg):Dsk→List FileD→Dsk×Int
 |S,[]=>(S,0)
 |S,f::l=>if (putP S f (bodyC C f.name)).2=0 then putsD C (putP S f (bodyC C f.name)).1 l else putP S f (bodyC C f.name)
theorem putP_pend (S:Dsk) (f:FileD) (b:List UInt8):(putP S f b).1.pend.length≤S.pend.length+St.pages b.length:=ptD_pend _
theorem putP_size (S:Dsk) (f:FileD) (b:List UInt8):(putP S f b).1.stored=S.stored:=ptD_size _ _ _ _ _
theorem putsD_size (C:Chg):∀(l:List FileD) (S:Dsk),(putsD C S l).1.stored=S.stored
 |[],_=>rfl
 |f::l,S=>by
  rw[putsD]
  split
  ·rw[putsD_size C l,putP_size]
  ·rw[putP_size]
def putD (X:Sto) (m:ManD):Dsk×Int:=
 if (putsD X.C X.S m.files).2=0 then (if (syncD (putsD X.C X.S m.files).1).2=0 then wmD (syncD (putsD X.C X.S m.files).1).1 m 2 else syncD (putsD X.C X.S m.files).1) else putsD X.C X.S m.files
end
section
variable {w w':World} {B P D M N:Nat} {X:Sto} {own ownD T:Nat→Prop}
def Fol (w w':World) (P M:Nat) (own ownD own' ownD':Nat→Prop):Prop:=Out (Foot P M ownD) w w'∧(∀k,own' k→own k∨w.heap.size≤k)∧(∀k,own k→own' k)∧∀k,ownD' k→ownD k∨w.heap.size≤k
theorem Fol.below (hb:Below w.heap.size w w'):Fol w w' P M own ownD own ownD:=⟨.of_below hb,fun k hk=>.inl hk,fun k hk=>hk,fun k hk=>.inl hk⟩
theorem Fol.foot (h:Out (Foot P M ownD) w w'):Fol w w' P M own ownD own ownD:=⟨h,fun k hk=>.inl hk,fun k hk=>hk,fun k hk=>.inl hk⟩
theorem Fol.trans {w2:World} {own1 ownD1 own2 ownD2:Nat→Prop} (h:Fol w w' P M own ownD own1 ownD1) (k:Fol w' w2 P M own1 ownD1 own2 ownD2):Fol w w2 P M own ownD own2 ownD2:=by
 obtain ⟨h1,h2,h3,h4⟩:=h
 obtain ⟨k1,k2,k3,k4⟩:=k
 have hs:=h1.size
 refine ⟨h1.trans' k1 fun j hj=>?_,fun j hj=>?_,fun j hj=>k3 j (h3 j hj),fun j hj=>?_⟩
 ·rcases hj with e|e|e
  ·exact .inl (.inl e)
  ·exact .inl (.inr (.inl e))
  ·exact (h4 j e).imp (fun q=>.inr (.inr q)) fun q=>q
 ·rcases k2 j hj with q|q
  ·exact h2 j q
  ·exact .inr (by omega)
 ·rcases k4 j hj with q|q
  ·exact h4 j q
  ·exact .inr (by omega)
def WPost (w:World) (B P D M N:Nat) (X:Sto) (own ownD:Nat→Prop) (w':World):Prop:=∃own' ownD',StoreAt w' B P D M N X own' ownD'∧Fol w w' P M own ownD own' ownD'
theorem StoreAt.disked (h:StoreAt w B P D M N X own ownD) {S:Dsk} (hd:DPost w B D S ownD w') (hl:S.stored.length=X.S.stored.length):WPost w B P D M N {X with S:=S} own ownD w':=by
 obtain ⟨ownD',h1,h2,h3⟩:=hd
 have ho:Out (Foot P M ownD) w w':=h2.more fun j _ hj=>.inr (.inr hj)
 have hoo:=h.foot ho
 have hs:∀k,(own k∨ownD' k)→own k∨w.heap.size≤k:=fun k hk=>by
  rcases hk with e|e
  ·exact .inl e
  ·exact (h3 k e).imp (fun q=>h.own k (.inr (.inr q))) fun q=>q
 obtain ⟨A,n,c,b1,b2⟩:=h.blk
 obtain ⟨DD,hc⟩:=h.chs
 refine ⟨fun k=>own k∨ownD' k,ownD',?_,ho,hs,fun k hk=>.inl hk,h3⟩
 exact {
  blk:=⟨A,n,c,b1.out h2 h.dP,b2.next hoo hs⟩
  disk:=h1
  chs:=by
   refine ⟨DD,?_,hc.no,fun x z hz=>?_⟩
   ·obtain ⟨es,clock,q1,q2⟩:=hc.map
    exact ⟨es,clock,(h2.block M hc.lt h.dM).trans q1,q2⟩
   ·obtain ⟨A,k,c,q1,q2,q3,q4,q5⟩:=hc.is x z hz
    exact ⟨A,k,c,q1,q2,q3,q4,q5.next hoo hs⟩
  dP:=fun e=>(h3 P e).elim h.dP fun q=>by have:=b1.lt;omega
  dM:=fun e=>(h3 M e).elim h.dM fun q=>by have:=hc.lt;omega
  low:=fun k hk=>by
   rcases hk with e|e
   ·exact ⟨(h.low k e).1,Nat.lt_of_lt_of_le (h.low k e).2 h2.size⟩
   ·exact h1.lt e
  own:=fun k hk=>by
   rcases hk with e|e|e
   ·exact .inl (h.own k (.inl e))
   ·exact .inl (h.own k (.inr (.inl e)))
   ·exact .inr e
  lP:=h.lP
  lM:=h.lM
  ok:={h.ok with disk:=by show St.OnDisk S.stored.length _;rw[hl];exact h.ok.disk,big:=by show 32<S.stored.length;rw[hl];exact h.ok.big}}
structure PuI (w:World) (B P D M N:Nat) (X:Sto) (own ownD:Nat→Prop) (l:List FileD) (j:Nat) (W:World):Prop where
 ex:∃S own' ownD',StoreAt W B P D M N {X with S:=S} own' ownD'∧Fol w W P M own ownD own' ownD'∧putsD X.C X.S l=putsD X.C S (l.drop j)∧S.pend.length≤X.S.pend.length+countOf (l.take j)∧S.stored=X.S.stored
def pwG (P M b:Nat) (nm:List UInt8) (id:Nat) (sz:Int) (A3:Option Addr) (n3 c3:Nat) (A4:Option Addr) (k4 c4:Nat) (r4:Bool) (r:Int):Gw.Fact:=fun s v _=>
 match s with
 |0|16|18|19=>v=.pointer (some ⟨P,0,none⟩)
 |6=>v=.pointer (some ⟨b,0,none⟩)
 |17=>v=.agg #[sv nm,.int .u32 (id:Int),.int .i64 sz,.slice A3 n3 c3]
 |20=>v=.pointer (some ⟨P,4,none⟩)
 |21=>v=.map (some M)
 |22=>v=.pointer (some ⟨b,0,none⟩)
 |23=>v=sv nm
 |24=>v=chV A4 k4 c4 r4
 |25=>v=.slice A4 k4 c4
 |26|7=>v=.int .i64 r
 |_=>True
theorem WPost.from {own' ownD':Nat→Prop} {w2:World} (h:WPost w' B P D M N X own' ownD' w2) (hf:Fol w w' P M own ownD own' ownD'):WPost w B P D M N X own ownD w2:=by
 obtain ⟨own2,ownD2,h1,h2⟩:=h
 exact ⟨own2,ownD2,h1,hf.trans h2⟩
theorem drop_cons {α:Type} {l:List α} {j:Nat} {x:α} (h:l[j]?=some x):l.drop j=x::l.drop (j+1):=drop_at h
theorem PuI.next {l:List FileD} {j:Nat} {wr wz w2:World} {S:Dsk} {own' ownD':Nat→Prop} {f:FileD} (ho:Fol w wr P M own ownD own' ownD') (he:putsD X.C X.S l=putsD X.C S (l.drop j)) (hp:S.pend.length≤X.S.pend.length+countOf (l.take j)) (hst:S.stored=X.S.stored)
 (hf:l[j]?=some f) (hb:Below wr.heap.size wr wz) (hW:WPost wz B P D M N {X with S:=(putP S f (bodyC X.C f.name)).1} own' ownD' w2) (hz:(putP S f (bodyC X.C f.name)).2=0) (hpg:St.pages (bodyC X.C f.name).length≤f.blocks.length):PuI w B P D M N X own ownD l (j+1) w2:=by
 obtain ⟨own2,ownD2,h1,h2⟩:=hW.from (ho.trans (.below hb))
 refine ⟨_,own2,ownD2,h1,h2,?_,?_,?_⟩
 ·rw[he,drop_cons hf,putsD,if_pos hz]
 ·rw[countOf_next hf]
  have:=putP_pend S f (bodyC X.C f.name)
  omega
 ·rw[putP_size,hst]
theorem PuI.stop {l:List FileD} {j:Nat} {S:Dsk} {f:FileD} (he:putsD X.C X.S l=putsD X.C S (l.drop j)) (hf:l[j]?=some f) (hz:(putP S f (bodyC X.C f.name)).2≠0):putsD X.C X.S l=putP S f (bodyC X.C f.name):=by
 rw[he,drop_cons hf,putsD,if_neg hz]
def pmG (P D H:Nat) (mv:Value) (r:Int):Gw.Fact:=fun s v _=>
 match s with
 |0|39|40|41=>v=.pointer (some ⟨P,0,none⟩)
 |42=>v=.pointer (some ⟨D,0,none⟩)
 |3=>v=.pointer (some ⟨H,0,none⟩)
 |43=>v=mv
 |44|4=>v=.int .i64 r
 |_=>True
end
end Go.Proofs.YtcdkopbjlakebaaGreatDoor
end
section
namespace Go.Proofs.YtcdkopbjlakebaaGreatDoor
open Go.RowKit Me Mf Rw Ds Va Go.Maps
theorem planL_mem (fs:List FileD):∀(L:List (List UInt8×Option Nat)) (fr:List Nat) (nx:Nat) (r:List FileD×Nat),St.planL fs L fr nx=some r→∀f∈r.1,
 ((f.name,none)∈L∧f∈fs)∨(∃s,(f.name,some s)∈L∧f.size=(s:Int)∧f.blocks.length=St.pages s∧∀b∈f.blocks,∃i∈fr,b=(i:Int))
 |[],fr,nx,r,h,f,hf=>by
  rw[St.planL] at h
  injection h with h
  subst h
  cases hf
 |(x,none)::l,fr,nx,r,h,f,hf=>by
  rw[St.planL] at h
  cases hr:St.planL fs l fr nx with
  |none=>rw[hr] at h;cases h
  |some q=>
   rw[hr] at h
   injection h with h
   subst h
   rcases List.mem_append.1 hf with h|h
   ·obtain ⟨h1,h2⟩:=List.mem_filter.1 h
    have e:f.name=x:=by simpa using h2
    exact .inl ⟨by rw[e];exact List.mem_cons_self,h1⟩
   ·rcases planL_mem fs l fr nx q hr f h with ⟨h1,h2⟩|⟨s,h1,h2,h3,h4⟩
    ·exact .inl ⟨List.mem_cons_of_mem _ h1,h2⟩
    ·exact .inr ⟨s,List.mem_cons_of_mem _ h1,h2,h3,h4⟩
 |(x,some s)::l,fr,nx,r,h,f,hf=>by
  rw[St.planL] at h
  split at h
  ·rename_i hc
   cases hr:St.planL fs l (fr.drop (St.pages s)) (nx+1) with
   |none=>rw[hr] at h;cases h
   |some q=>
    rw[hr] at h
    injection h with h
    subst h
    rcases List.mem_cons.1 hf with h|h
    ·subst h
     refine .inr ⟨s,List.mem_cons_self,rfl,?_,fun b hb=>?_⟩
     ·show (St.ints _).length=_
      unfold St.ints
      rw[List.length_map,List.length_take]
      omega
     ·have hb:b∈St.ints (fr.take (St.pages s)):=hb
      unfold St.ints at hb
      obtain ⟨i,hi,e⟩:=List.mem_map.1 hb
      exact ⟨i,List.mem_of_mem_take hi,e.symm⟩
    ·rcases planL_mem fs l _ _ q hr f h with ⟨h1,h2⟩|⟨s',h1,h2,h3,h4⟩
     ·exact .inl ⟨List.mem_cons_of_mem _ h1,h2⟩
     ·exact .inr ⟨s',List.mem_cons_of_mem _ h1,h2,h3,fun b hb=>by
       obtain ⟨i,hi,e⟩:=h4 b hb
       exact ⟨i,List.mem_of_mem_drop hi,e⟩⟩
  ·cases h
section
variable {X:Sto} {l:List (List UInt8)} {m:ManD}
theorem NextIs.file (h:NextIs X l m) {f:FileD} (hf:f∈m.files):(f.name∈l∧szC X f.name=none∧f∈X.m.files)∨(∃s,f.name∈l∧szC X f.name=some s∧f.size=(s:Int)∧f.blocks.length=St.pages s∧∀b∈f.blocks,∃i∈St.freeM X.S.stored.length X.m.files,b=(i:Int)):=by
 obtain ⟨h,-,-⟩:=h
 unfold St.planD at h
 cases hr:St.planL X.m.files (listC X l) (St.freeM X.S.stored.length X.m.files) X.m.next with
 |none=>rw[hr] at h;cases h
 |some r=>
  rw[hr] at h
  injection h with h
  subst h
  have hL:∀s,(f.name,s)∈listC X l→f.name∈l∧szC X f.name=s:=fun s hs=>by
   unfold listC at hs
   obtain ⟨x,hx,e⟩:=List.mem_map.1 hs
   injection e with e1 e2
   subst e1
   exact ⟨hx,e2⟩
  rcases planL_mem _ _ _ _ r hr f hf with ⟨h1,h2⟩|⟨s,h1,h2,h3,h4⟩
  ·exact .inl ⟨(hL _ h1).1,(hL _ h1).2,h2⟩
  ·exact .inr ⟨s,(hL _ h1).1,(hL _ h1).2,h2,h3,h4⟩
theorem freeM_lt {c:Nat} {fs:List FileD} {i:Nat} (h:i∈St.freeM c fs):i<c:=by
 unfold St.freeM St.freeP at h
 exact List.mem_range.1 (List.mem_filter.1 h).1
theorem NextIs.bodies (h:NextIs X l m) {f:FileD} (hf:f∈m.files):St.pages (bodyC X.C f.name).length≤f.blocks.length:=by
 rcases h.file hf with ⟨-,h1,-⟩|⟨s,-,h1,-,h3,-⟩
 ·have:bodyC X.C f.name=[]:=by
   unfold szC at h1
   unfold bodyC
   split at h1
   ·cases h1
   ·rename_i hn
    cases hC:X.C f.name with
    |none=>rfl
    |some z=>
     cases z with
     |none=>rfl
     |some b=>exact absurd hC (hn b)
  rw[this]
  exact Nat.zero_le _
 ·have:(bodyC X.C f.name).length=s:=by
   unfold szC at h1
   unfold bodyC
   split at h1
   ·rename_i b hb
    rw[hb]
    injection h1
   ·cases h1
  rw[this,h3]
  exact Nat.le_refl _
theorem NextIs.onDisk (h:NextIs X l m) (hd:St.OnDisk X.S.stored.length X.m.files):St.OnDisk X.S.stored.length m.files:=fun z hz=>by
 unfold allBlocks at hz
 obtain ⟨f,hf,hz⟩:=List.mem_flatMap.1 hz
 rcases h.file hf with ⟨-,-,h1⟩|⟨s,-,-,-,-,h3⟩
 ·exact hd z (by unfold allBlocks;exact List.mem_flatMap.2 ⟨f,h1,hz⟩)
 ·obtain ⟨i,hi,e⟩:=h3 z hz
  have:=freeM_lt hi
  omega
end
end Go.Proofs.YtcdkopbjlakebaaGreatDoor
end
section
namespace Go.Proofs.YtcdkopbjlakebaaGreatDoor
open Go.RowKit Me Mf Rw Ds Go.Maps
def pgW (id:Nat) (bl:List Int) (b:List UInt8) (k:Nat):List WD:=(List.range k).map fun i=>⟨(bl.getD i 0).toNat,pgB id b i⟩
theorem pgW_succ (id:Nat) (bl:List Int) (b:List UInt8) (k:Nat):pgW id bl b (k+1)=pgW id bl b k++[⟨(bl.getD k 0).toNat,pgB id b k⟩]:=by simp[pgW,List.range_succ]
theorem ptD_cases (S:Dsk) (id:Nat) (bl:List Int) (b:List UInt8):∀k,∃j,j≤k∧(ptD S id bl b k).1.pend=S.pend++pgW id bl b j∧((ptD S id bl b k).2=0→j=k)
 |0=>⟨0,Nat.le_refl _,by simp[ptD,pgW],fun _=>rfl⟩
 |k+1=>by
  obtain ⟨j,hj,h2,h3⟩:=ptD_cases S id bl b k
  rw[ptD]
  split
  ·rename_i hz
   have hjk:=h3 hz
   subst hjk
   rcases writeD_cases (ptD S id bl b j).1 (bl.getD j 0) (pgB id b j) with ⟨q0,q1,q2,-⟩|⟨q0,q1,q2⟩
   ·exact ⟨j+1,Nat.le_refl _,by rw[q2,h2,pgW_succ,List.append_assoc],fun _=>rfl⟩
   ·exact ⟨j,by omega,q2.trans h2,fun h=>absurd h q0⟩
  ·rename_i hz
   exact ⟨j,by omega,h2,fun h=>absurd h hz⟩
def filW (C:Chg) (f:FileD):List WD:=pgW f.id f.blocks (bodyC C f.name) (St.pages (bodyC C f.name).length)
def allW (C:Chg) (l:List FileD):List WD:=l.flatMap (filW C)
theorem pgW_take {id:Nat} {bl:List Int} {b:List UInt8} {j k:Nat} (h:j≤k):pgW id bl b j=(pgW id bl b k).take j:=by
 unfold pgW
 rw[←List.map_take,List.take_range,Nat.min_eq_left h]
theorem putsD_cases (C:Chg):∀(l:List FileD) (S:Dsk),∃ws,ws <+: allW C l∧(putsD C S l).1.pend=S.pend++ws∧((putsD C S l).2=0→ws=allW C l)
 |[],S=>⟨[],List.prefix_refl _,by simp[putsD],fun _=>rfl⟩
 |f::l,S=>by
  obtain ⟨j,hj,h2,h3⟩:=ptD_cases S f.id f.blocks (bodyC C f.name) (St.pages (bodyC C f.name).length)
  rw[putsD]
  have hcons:allW C (f::l)=filW C f++allW C l:=rfl
  split
  ·rename_i hz
   obtain ⟨ws,q1,q2,q3⟩:=putsD_cases C l (putP S f (bodyC C f.name)).1
   have e:=h3 hz
   subst e
   refine ⟨filW C f++ws,?_,?_,fun h=>by rw[hcons,q3 h]⟩
   ·rw[hcons]
    exact (List.prefix_append_right_inj _).2 q1
   ·rw[q2]
    show (ptD S f.id f.blocks (bodyC C f.name) _).1.pend++ws=_
    rw[h2,List.append_assoc]
    rfl
  ·rename_i hz
   refine ⟨pgW f.id f.blocks (bodyC C f.name) j,?_,h2,fun h=>absurd h hz⟩
   rw[hcons]
   refine List.IsPrefix.trans ?_ (List.prefix_append _ _)
   rw[pgW_take hj]
   exact List.take_prefix _ _
def FileIs (st:List (List UInt8)) (f:FileD) (b:List UInt8):Prop:=f.size=(b.length:Int)∧f.blocks.length=St.pages b.length∧∀k,k<St.pages b.length→st.getD (f.blocks.getD k 0).toNat []=pgB f.id b k
theorem readGo_is {S:Dsk} {f:FileD} {b:List UInt8} (hsz:f.size=(b.length:Int)) (hrd:∀k,k<St.pages b.length→readD S (f.blocks.getD k 0)=pgB f.id b k) (hl:f.blocks.length=St.pages b.length) :
 ∀(n k:Nat),n+k=St.pages b.length→readGo S f.id f.size (f.blocks.drop k) k (b.take (112*k))=(b,0)
 |0,k,h=>by
  rw[List.drop_of_length_le (by omega),readGo,List.take_of_length_le (by unfold St.pages at h;omega)]
 |n+1,k,h=>by
  have hk:k<f.blocks.length:=by omega
  have hkb:112*k<b.length:=by unfold St.pages at h;omega
  have hc:(chP b k).length≤112:=by rw[chP_length];unfold chLen;omega
  have e1:f.blocks[k]=f.blocks.getD k 0:=by rw[List.getD_eq_getElem?_getD,List.getElem?_eq_getElem hk];rfl
  rw[List.drop_eq_getElem_cons hk,readGo,e1,hrd k (by omega)]
  have e2:Pg.getP (pgB f.id b k) (rg f.id) (rg k)=(chP b k,0):=Pg.getP_enc hc
  rw[e2]
  have e3:b.take (112*k)++chP b k=b.take (112*(k+1)):=by
   unfold chP
   rw[Nat.mul_succ,List.take_add]
  rw[if_neg,e3]
  ·exact readGo_is hsz hrd hl n (k+1) (by omega)
  ·simp only[ne_eq,not_true,false_or,Decidable.not_not]
   rw[hsz,chP_length,List.length_take]
   unfold chLen
   omega
theorem readF_is {S:Dsk} (hon:S.on=true) (hp:S.pend=[]) {f:FileD} {b:List UInt8} (h:FileIs S.stored f b) (hb:∀z∈f.blocks,0≤z∧z<(S.stored.length:Int)):readF S f=(b,0):=by
 obtain ⟨h1,h2,h3⟩:=h
 have hrd:∀k,k<St.pages b.length→readD S (f.blocks.getD k 0)=pgB f.id b k:=fun k hk=>by
  have hm:f.blocks.getD k 0∈f.blocks:=by
   rw[List.getD_eq_getElem?_getD,List.getElem?_eq_getElem (show k<f.blocks.length by omega)]
   exact List.getElem_mem _
  obtain ⟨q1,q2⟩:=hb _ hm
  obtain ⟨n,hn⟩:∃n:Nat,f.blocks.getD k 0=(n:Int):=⟨(f.blocks.getD k 0).toNat,by omega⟩
  have h4:=h3 k hk
  rw[hn,Int.toNat_natCast] at h4
  unfold readD readE
  rw[hn,hon,if_pos rfl,hasB_nat,decide_eq_true (by omega),if_pos rfl,if_pos rfl,Int.toNat_natCast]
  unfold latestD
  rw[hp]
  exact h4
 exact readGo_is h1 hrd h2 (St.pages b.length) 0 (by omega)
def Holds (st:List (List UInt8)) (fs:List FileD) (F:List UInt8→List UInt8):Prop:=∀f∈fs,FileIs st f (F f.name)
theorem FileIs.keep {st st':List (List UInt8)} {f:FileD} {b:List UInt8} (h:FileIs st f b) (hk:∀z∈f.blocks,st'.getD z.toNat []=st.getD z.toNat []):FileIs st' f b:=by
 obtain ⟨h1,h2,h3⟩:=h
 refine ⟨h1,h2,fun k hk'=>?_⟩
 rw[hk,h3 k hk']
 rw[List.getD_eq_getElem?_getD,List.getElem?_eq_getElem (show k<f.blocks.length by omega)]
 exact List.getElem_mem _
def newF (C:Chg) (F:List UInt8→List UInt8) (x:List UInt8):List UInt8:=match C x with
 |some (some b)=>b
 |_=>F x
theorem lastW_mem2:∀{l:List WD} {x:WD} (b:List UInt8),(l.map (·.i)).Nodup→x∈l→lastW l x.i b=x.b
 |y::l,x,b,hn,hx=>by
  rw[List.map_cons,List.nodup_cons] at hn
  rw[lastW]
  rcases List.mem_cons.1 hx with rfl|hx
  ·rw[if_pos rfl]
   have:∀(l:List WD) (i:Nat) (b:List UInt8),i∉l.map (·.i)→lastW l i b=b:=by
    intro l
    induction l with
    |nil=>intro i b _;rfl
    |cons z l ih=>
     intro i b h
     rw[List.map_cons,List.mem_cons,not_or] at h
     rw[lastW,if_neg (fun e=>h.1 e.symm)]
     exact ih i b h.2
   exact this l x.i x.b hn.1
  ·exact lastW_mem2 _ hn.2 hx
theorem pgW_is {id:Nat} {bl:List Int} {b:List UInt8}:∀{p:Nat},p≤bl.length→(pgW id bl b p).map (·.i)=(bl.take p).map Int.toNat
 |0,_=>rfl
 |p+1,h=>by
  rw[pgW_succ,List.map_append,pgW_is (p:=p) (by omega),List.take_add_one,List.map_append]
  congr 1
  rw[List.getD_eq_getElem?_getD,List.getElem?_eq_getElem (show p<bl.length by omega)]
  rfl
theorem allW_is {C:Chg}:∀{l:List FileD},(∀f∈l,St.pages (bodyC C f.name).length≤f.blocks.length)→List.Sublist ((allW C l).map (·.i)) ((allBlocks l).map Int.toNat)
 |[],_=>List.Sublist.refl _
 |f::l,h=>by
  have h1:=allW_is (C:=C) (l:=l) fun g hg=>h g (by simp[hg])
  have e1:allW C (f::l)=filW C f++allW C l:=rfl
  have e2:allBlocks (f::l)=f.blocks++allBlocks l:=by unfold allBlocks;rfl
  rw[e1,e2,List.map_append,List.map_append]
  refine List.Sublist.append ?_ h1
  unfold filW
  rw[pgW_is (h f (by simp))]
  exact (List.take_sublist _ _).map _
theorem allW_nodup {C:Chg} {l:List FileD} (hb:BlocksOk l) (h:∀f∈l,St.pages (bodyC C f.name).length≤f.blocks.length):((allW C l).map (·.i)).Nodup:=by
 refine List.Nodup.sublist (allW_is h) ?_
 rw[List.nodup_iff_pairwise_ne,List.pairwise_map]
 refine (List.nodup_iff_pairwise_ne.1 hb.2).imp_of_mem fun ha hb' hne e=>hne ?_
 have:∀z∈allBlocks l,32≤z:=fun z hz=>by
  unfold allBlocks at hz
  obtain ⟨f,hf,hz⟩:=List.mem_flatMap.1 hz
  exact ((hb.1 f hf).2.2 z hz).1
 have h1:=this _ ha
 have h2:=this _ hb'
 omega
theorem allW_mem {C:Chg} {l:List FileD} {x:WD} (h:x∈allW C l):∃f∈l,∃k,k<St.pages (bodyC C f.name).length∧x=⟨(f.blocks.getD k 0).toNat,pgB f.id (bodyC C f.name) k⟩:=by
 obtain ⟨f,hf,hx⟩:=List.mem_flatMap.1 h
 obtain ⟨k,hk,rfl⟩:=List.mem_map.1 hx
 exact ⟨f,hf,k,List.mem_range.1 hk,rfl⟩
theorem allW_get {C:Chg} {l:List FileD} {f:FileD} (hf:f∈l) {k:Nat} (hk:k<St.pages (bodyC C f.name).length):(⟨(f.blocks.getD k 0).toNat,pgB f.id (bodyC C f.name) k⟩:WD)∈allW C l:=
 List.mem_flatMap.2 ⟨f,hf,List.mem_map.2 ⟨k,List.mem_range.2 hk,rfl⟩⟩
theorem getD_mem {bl:List Int} {k:Nat} (h:k<bl.length):bl.getD k 0∈bl:=by
 rw[List.getD_eq_getElem?_getD,List.getElem?_eq_getElem h]
 exact List.getElem_mem _
theorem freeM_at {c:Nat} {fs:List FileD} {i:Nat} (h:i∈St.freeM c fs):i<c∧32≤i∧(i:Int)∉allBlocks fs:=by
 unfold St.freeM St.freeP at h
 obtain ⟨h1,h2⟩:=List.mem_filter.1 h
 have h1:=List.mem_range.1 h1
 unfold St.takenP at h2
 simp at h2
 exact ⟨h1,h2.1,h2.2⟩
section
variable {X:Sto} {l:List (List UInt8)} {m:ManD} {F:List UInt8→List UInt8}
theorem szC_some {x:List UInt8} {s:Nat} (h:szC X x=some s):∃b,X.C x=some (some b)∧b.length=s:=by
 unfold szC at h
 split at h
 ·rename_i b hb
  injection h with h
  exact ⟨b,hb,h⟩
 ·cases h
theorem szC_none {x:List UInt8} (h:szC X x=none):bodyC X.C x=[]∧newF X.C F x=F x:=by
 unfold szC at h
 unfold bodyC newF
 split at h
 ·cases h
 ·rename_i hn
  cases hC:X.C x with
  |none=>exact ⟨rfl,rfl⟩
  |some z=>
   cases z with
   |none=>exact ⟨rfl,rfl⟩
   |some b=>exact absurd hC (hn b)
theorem NextIs.writes (h:NextIs X l m) {x:WD} (hx:x∈allW X.C m.files):x.b.length=128∧x.i<X.S.stored.length∧32≤x.i∧∀z∈allBlocks X.m.files,z.toNat≠x.i:=by
 obtain ⟨f,hf,k,hk,rfl⟩:=allW_mem hx
 refine ⟨pgB_length _ _ _,?_⟩
 have hpl:=h.bodies hf
 rcases h.file hf with ⟨-,h1,-⟩|⟨s,-,h1,-,h3,h4⟩
 ·rw[(szC_none (F:=fun _=>[]) h1).1] at hk
  exact absurd hk (by show ¬k<St.pages 0;unfold St.pages;omega)
 ·obtain ⟨i,hi,e⟩:=h4 _ (getD_mem (show k<f.blocks.length by omega))
  obtain ⟨q1,q2,q3⟩:=freeM_at hi
  show (f.blocks.getD k 0).toNat<_∧32≤(f.blocks.getD k 0).toNat∧_
  rw[e,Int.toNat_natCast]
  refine ⟨q1,q2,fun z hz e2=>q3 ?_⟩
  have e2:z.toNat=i:=e2
  obtain rfl:z=(i:Int):=by omega
  exact hz
structure Paged (X:Sto) (m:ManD) (F:List UInt8→List UInt8) (S:Dsk):Prop where
 calm:Calm S
 on:S.on=true
 size:S.stored.length=X.S.stored.length
 slots:∀j,j<32→S.stored.getD j []=X.S.stored.getD j []
 old:Holds S.stored X.m.files F
 new:Holds S.stored m.files (newF X.C F)
theorem paged (h:NextIs X l m) (hc:Calm X.S) (hok:OkS X) (hH:Holds X.S.stored X.m.files F) {S:Dsk} (hst:S.stored=Ds.settle ones 0 0 (allW X.C m.files) X.S.stored) (hp:S.pend=[]) (hon:S.on=true):Paged X m F S:=by
 have hw:=fun x hx=>h.writes (x:=x) hx
 have hsz:S.stored.length=X.S.stored.length:=by rw[hst,settle_length]
 have hother:∀j,(∀x∈allW X.C m.files,x.i≠j)→S.stored.getD j []=X.S.stored.getD j []:=fun j hj=>by rw[hst,settle_other _ _ _ _ _ _ hj]
 have hold:∀z∈allBlocks X.m.files,S.stored.getD z.toNat []=X.S.stored.getD z.toNat []:=fun z hz=>hother _ fun x hx e=>(hw x hx).2.2.2 z hz e.symm
 have hnd:=allW_nodup (C:=X.C) h.2.2.1.2.2 fun f hf=>h.bodies hf
 refine ⟨⟨hp,?_,by rw[hsz];exact hc.size⟩,hon,hsz,fun j hj=>hother j fun x hx e=>by have:=(hw x hx).2.2.1;omega,?_,?_⟩
 ·rw[hst]
  exact settle_all _ _ _ _ _ (fun x hx=>⟨(hw x hx).1,(hw x hx).2.1⟩) hc.all
 ·intro f hf
  exact (hH f hf).keep fun z hz=>hold z (by unfold allBlocks;exact List.mem_flatMap.2 ⟨f,hf,hz⟩)
 ·intro f hf
  rcases h.file hf with ⟨-,h1,h2⟩|⟨s,-,h1,h2,h3,h4⟩
  ·rw[(szC_none h1).2]
   exact (hH f h2).keep fun z hz=>hold z (by unfold allBlocks;exact List.mem_flatMap.2 ⟨f,h2,hz⟩)
  ·obtain ⟨b,hb,hl⟩:=szC_some h1
   have e1:newF X.C F f.name=b:=by unfold newF;rw[hb]
   have e2:bodyC X.C f.name=b:=by unfold bodyC;rw[hb];rfl
   rw[e1]
   refine ⟨by rw[h2,hl],by rw[h3,hl],fun k hk=>?_⟩
   have hmem:=allW_get (C:=X.C) hf (k:=k) (by rw[e2];exact hk)
   have:=hw _ hmem
   rw[hst,settle_ones _ _ _ _ this.2.1 (fun x hx=>(hw x hx).1) hc.all,lastW_mem2 _ hnd hmem,e2]
end
end Go.Proofs.YtcdkopbjlakebaaGreatDoor
end
section
namespace Go.Proofs.YtcdkopbjlakebaaGreatDoor
open Go.RowKit Me Mf Rw Ds Va Go.Maps
section
variable {w w':World} {B P D M N:Nat} {X:Sto} {own ownD T:Nat→Prop}
theorem str_keys {H:Type} {w:World} {R:Value→Option (DataW H×List MemPlace)} {b n:Nat} {D:DataW H} (h:w.ownsMap Tryz.prog 9 R b n D):∃es,D=.map es∧∀q∈es,∃x:List UInt8,q.1=Key x:=by
 obtain ⟨es,e,h1,-⟩:=h.entries law_str
 refine ⟨es,e,fun q hq=>?_⟩
 obtain ⟨es0,clock,hb,F,hs,e0⟩:=h
 rw[e] at e0
 injection e0 with e0
 rw[e0] at hq
 obtain ⟨v,hv⟩:=Maps.fit_keys F q (mem_sorted.1 hq)
 obtain ⟨x,-,hx,-⟩:=str_inv hv
 exact ⟨x,hx⟩
theorem Chs.zero {C:Chg} {DD:DataW Value} (h:Chs w T M N C DD):Maps.size DD=0↔∀x,C x=none:=by
 obtain ⟨es,rfl,hk⟩:=str_keys h.map
 constructor
 ·intro e x
  rw[h.no x]
  have:es=[]:=List.length_eq_zero_iff.1 e
  rw[this]
  rfl
 ·intro hn
  show es.length=0
  rw[List.length_eq_zero_iff]
  apply List.eq_nil_iff_forall_not_mem.2
  intro q hq
  obtain ⟨x,hx⟩:=hk q hq
  have h1:=(h.no x).1 (hn x)
  rw[Maps.has_eq,List.any_eq_false] at h1
  exact h1 q hq (by rw[hx];exact WideAt.sameKey_self (key_is x))
theorem StoreAt.box (h:StoreAt w B P D M N X own ownD) (ho:Out (fun k=>k=P) w w') {X':Sto} {A:Option Addr} {n c:Nat} (hb:Blk w' P [.pointer (some ⟨D,0,none⟩),.int .u64 (X'.m.version:Int),.int .u32 (X'.m.next:Int),.slice A n c,.map (some M),.bool X'.broken])
 (hm:ManK own A n c X'.m w') (hS:X'.S=X.S) (hC:X'.C=X.C) (hok:OkS X'):StoreAt w' B P D M N X' own ownD:=by
 obtain ⟨DD,hc⟩:=h.chs
 have hPM:M≠P:=fun e=>by
  obtain ⟨A,n,c,⟨t,hb⟩,-⟩:=h.blk
  obtain ⟨es,clock,hm,-⟩:=hc.map
  rw[←e,hm] at hb
  cases hb
 have hoo:Out own w w':=ho.more fun k _ e=>by rw[e];exact h.own P (.inl rfl)
 have hsz:=ho.size
 exact {
  blk:=⟨A,n,c,hb,hm⟩
  disk:=by rw[hS];exact h.disk.out ho fun k hk e=>h.dP (by rw[←e];exact hk)
  chs:=by
   rw[hC]
   refine ⟨DD,?_,hc.no,fun x z hz=>?_⟩
   ·obtain ⟨es,clock,q1,q2⟩:=hc.map
    exact ⟨es,clock,(ho.block M hc.lt hPM).trans q1,q2⟩
   ·obtain ⟨A,k,c,q1,q2,q3,q4,q5⟩:=hc.is x z hz
    exact ⟨A,k,c,q1,q2,q3,q4,q5.out hoo⟩
  dP:=h.dP
  dM:=h.dM
  own:=h.own
  low:=fun k hk=>⟨(h.low k hk).1,Nat.lt_of_lt_of_le (h.low k hk).2 hsz⟩
  lP:=h.lP
  lM:=h.lM
  ok:=hok}
def CmtIs (X X':Sto) (r:Int):Prop:=
 (upD X=false∧X'=X∧r=6) ∨
 (upD X=true∧(∀x,X.C x=none)∧X'=X∧r=0) ∨
 (upD X=true∧(¬∀x,X.C x=none)∧∃l,IsNames X l∧(((∀m,¬NextIs X l m)∧X'=X∧r=7) ∨
   ∃m,NextIs X l m∧(((putD X m).2≠0∧X'={X with S:=(putD X m).1,broken:=true}∧r=(putD X m).2)∨((putD X m).2=0∧X'=⟨(putD X m).1,m,noC,X.broken⟩∧r=0))))
end
end Go.Proofs.YtcdkopbjlakebaaGreatDoor
end
section
namespace Go.Proofs.YtcdkopbjlakebaaGreatDoor
open Go.RowKit Me Mf Rw Ds Va Go.Maps
section
variable {w w':World} {B P D M N:Nat} {X:Sto} {own ownD T:Nat→Prop}
def OpPost (w:World) (B D:Nat) (S:Dsk) (m:ManD) (own ownD:Nat→Prop) (e:Ending) (w':World):Prop:=
 let q:=if m.version=0 then (S,0) else wmD S m 2
 (q.2≠0∧e=.returned (.tuple #[.pointer none,.int .i64 q.2])∧DPost w B D q.1 ownD w') ∨
 (q.2=0∧∃P M own' ownD',e=.returned (.tuple #[.pointer (some ⟨P,0,none⟩),.int .i64 0])∧StoreAt w' B P D M 0 ⟨q.1,m,noC,false⟩ own' ownD'∧Out ownD w w'∧(∀k,own' k→own k∨w.heap.size≤k)∧(∀k,own k→own' k)∧(∀k,ownD' k→ownD k∨w.heap.size≤k)∧w.heap.size≤P∧w.heap.size≤M)
set_option maxRecDepth 100000 in
set_option maxHeartbeats 4000000 in
theorem open_good {S:Dsk} {m:ManD} (h:DiskAt w B D S ownD) (hod:∀k,ownD k→own k) (hlo:∀k,own k→B≤k∧k<w.heap.size) (hr:Calls Tryz.prog 53 #[.pointer (some ⟨D,0,none⟩)] w (RdPostK w (m,0))) (hf:Fit m) (hw:Wf m) (hd:St.OnDisk S.stored.length m.files) (hs:32<S.stored.length) (hp:S.pend.length+64≤1073741824) :
 Calls Tryz.prog 27 #[.pointer (some ⟨D,0,none⟩)] w (OpPost w B D S m own ownD):=by
 have HR:=Lib.hid hr
 have HD:=Lib.hid h
 have HF:=Lib.hid hf
 have HWF:=Lib.hid hw
 have HOD:=Lib.hid hd
 clear hr h hf hd hw
 go_enter Tryz.func27,Tryz.ntmps27
 go_wp2_with (go_at_call 53;refine HR.out.mono ?_)
 rintro e w1 ⟨hb1,A,n,c,rfl,hm⟩
 obtain ⟨G,hG⟩:∃G,G=w1.heap.size:=⟨_,rfl⟩
 obtain ⟨w2,hw2⟩:∃w2,w2=w1.alloc (.cells #[.int .u64 (m.version:Int),.int .u32 (m.next:Int),.slice A n c] 110):=⟨_,rfl⟩
 obtain ⟨w3,hw3⟩:∃w3,w3=w2.alloc (.map #[] 0):=⟨_,rfl⟩
 obtain ⟨w4,hw4⟩:∃w4,w4=w3.alloc (.cells #[.pointer (some ⟨D,0,none⟩),.int .u64 (m.version:Int),.int .u32 (m.next:Int),.slice A n c,.map (some (G+1)),.bool false] 115):=⟨_,rfl⟩
 have hs2:w2.heap.size=G+1:=by rw[hw2,hG];simp
 have hs3:w3.heap.size=G+1+1:=by rw[hw3,←hs2];simp
 have hb2:Below w1.heap.size w1 w2:=by rw[hw2];exact (Below.refl _ _).alloc (Nat.le_refl _) _
 have hb3:Below w1.heap.size w1 w3:=by rw[hw3];exact hb2.alloc hb2.size _
 have hb4:Below w1.heap.size w1 w4:=by rw[hw4];exact hb3.alloc hb3.size _
 have hB4:Below w.heap.size w w4:=hb1.trans (hb4.mono hb1.size)
 have hle:=hb1.size
 have hDl:∀{k:Nat},ownD k→B≤k∧k<w.heap.size:=fun hk=>HD.out.lt hk
 have hBw:B≤w.heap.size:=by
  obtain ⟨g,Pv,hl⟩:=HD.out
  have:=hl.blk.lt
  have:=(HD.out.lt ((hl.own D).2 (.inl rfl))).1
  omega
 have hst:StoreAt w4 B (G+1+1) D (G+1) 0 ⟨S,m,noC,false⟩ (fun k=>k=G+1+1∨k=G+1∨own k) ownD:=by
  have hnm:∀k,(k=G+1+1∨k=G+1∨own k)→k<w.heap.size∨w1.heap.size≤k:=fun k hk=>by
   rcases hk with e|e|e
   ·right;omega
   ·right;omega
   ·exact .inl (hlo _ e).2
  have hs4:w4.heap.size=G+1+1+1:=by rw[hw4,←hs3];simp
  refine ⟨⟨A,n,c,?_,hm.next (.of_below hb4) hnm⟩,HD.out.past hB4,⟨.map [],?_,?_,?_⟩,?_,?_,fun k hk=>?_,fun k hk=>?_,?_,?_,⟨HF.out,HWF.out,HOD.out,hs,fun x hx=>absurd rfl hx,fun x b hx=>by cases hx⟩⟩
  ·rw[hw4,←hs3]
   exact Blk.new w3 [.pointer (some ⟨D,0,none⟩),.int .u64 (m.version:Int),.int .u32 (m.next:Int),.slice A n c,.map (some (G+1)),.bool false] _
  ·rw[hw4,hw3]
   rw[←hs2]
   exact (World.ownsMap_made (H:=Value) w2 Tryz.prog 9 chE).alloc _
  ·intro x
   exact ⟨fun _=>rfl,fun _=>rfl⟩
  ·intro x z hz
   cases hz
  ·intro h
   have:=(hDl h).2
   omega
  ·intro h
   have:=(hDl h).2
   omega
  ·rcases hk with e|e|e
   ·omega
   ·omega
   ·have:=hlo _ e
    omega
  ·rcases hk with e|e|e
   ·exact .inl e
   ·exact .inr (.inl e)
   ·exact .inr (.inr (hod _ e))
  ·omega
  ·omega
 have HW2:=Lib.hid hw2
 have HW3:=Lib.hid hw3
 have HW4:=Lib.hid hw4
 have HGG:=Lib.hid hG
 have HST:=Lib.hid hst
 have HB4:=Lib.hid hB4
 have HBX:=Lib.hid (show Blk w4 G [.int .u64 (m.version:Int),.int .u32 (m.next:Int),.slice A n c] by
  rw[hw4,hw3,hw2,hG]
  exact (((Blk.new w1 [.int .u64 (m.version:Int),.int .u32 (m.next:Int),.slice A n c] _).alloc _).alloc _))
 have HMK:=Lib.hid (hm.next (T':=ownD) (.of_below hb4) fun k hk=>.inl (hDl hk).2)
 have HBL:=Lib.hid (blocks_any hst)
 have HLE:=Lib.hid hle
 have HOD2:=Lib.hid (And.intro hod hlo)
 have hmm:=@run_makeMap Tryz.prog
 clear hod hlo hw2 hw3 hw4 hb2 hb3 hb4 hB4 hst hb1 hm hG hs2 hs3 hle hDl HR hBw
 go_wp2_with fail
 rw[←HW2.out,←HGG.out,←HW3.out,←HW4.out]
 refine HBL.out.mono ?_
 rintro e w5 ⟨D2,own2,rfl,-,hb5⟩
 have hg5:=HBX.out.past hb5
 have b0:=hg5.cell (i:=0) rfl
 have b1:=hg5.cell (i:=1) rfl
 have b2:=hg5.cell (i:=2) rfl
 have HS5:=Lib.hid (HST.out.past hb5)
 have HB5:=Lib.hid (HB4.out.trans (hb5.mono HB4.out.size))
 have HM5:=Lib.hid (HMK.out.past hb5)
 obtain ⟨v,hv⟩:∃v,v=m.version:=⟨_,rfl⟩
 have HV:=Lib.hid hv
 rw[←hv] at b0 ⊢
 clear hg5 hb5 hv hmm
 by_cases hv0:v=0
 ·subst hv0
  go_wp2_with fail
  go_ret2
  have hv:=HV.out
  refine .inr ?_
  rw[if_pos hv.symm]
  have:=HLE.out
  have:=HGG.out
  refine ⟨rfl,_,_,_,_,rfl,HS5.out,.of_below HB5.out,fun k hk=>?_,fun k hk=>.inr (.inr hk),fun k hk=>.inl hk,by omega,by omega⟩
  rcases hk with e|e|e
  ·right;omega
  ·right;omega
  ·exact .inl e
 ·have hvi:((v:Int)==0)=false:=by rw[beq_eq_false_iff_ne];omega
  have hsm:Small m:=small_of_body (by have:=HF.out.2;omega)
  have HWR:=Lib.hid (mwrite_any HS5.out.disk A n c m HM5.out.now hsm HF.out (show S.pend.length+32≤_ by omega))
  rw[←HV.out] at HWR
  clear hsm
  go_wp2_with fail
  refine HWR.out.mono ?_
  rintro e w6 ⟨rfl,hd6⟩
  obtain ⟨r,hr⟩:∃r,r=(wmD S m 2).2:=⟨_,rfl⟩
  have HRR:=Lib.hid hr
  have HD6:=Lib.hid hd6
  rw[←hr]
  clear hr hd6 b0 b1 b2
  by_cases hr0:r=0
  ·subst hr0
   go_wp2_with fail
   go_ret2
   have hv:=HV.out
   refine .inr ?_
   rw[if_neg (by omega)]
   obtain ⟨own6,ownD6,h6,ho6,hn6,hg6,hd6⟩:=HS5.out.disked HD6.out (wmD_size S m 2)
   have hle:=HLE.out
   have hgg:=HGG.out
   have hsz:=HB5.out.size
   have hob:Out ownD w w6:=(Out.of_below HB5.out).trans' ho6 fun k hk=>by
    rcases hk with e|e|e
    ·right;omega
    ·right;omega
    ·exact .inl e
   refine ⟨HRR.out.symm,_,_,_,_,rfl,h6,hob,fun k hk=>?_,fun k hk=>hg6 k (.inr (.inr hk)),fun k hk=>(hd6 k hk).imp (fun q=>q) fun q=>by omega,by omega,by omega⟩
   rcases hn6 k hk with (e|e|e)|e
   ·right;omega
   ·right;omega
   ·exact .inl e
   ·right;omega
  ·have hd1:(r != 0)=true:=by rw[bne_iff_ne];exact hr0
   go_wp2_with fail
   go_ret2
   have hv:=HV.out
   refine .inl ?_
   rw[if_neg (by omega)]
   refine ⟨by rw[←HRR.out];exact hr0,by rw[←HRR.out];rfl,?_⟩
   obtain ⟨own6,h6,ho6,hn6⟩:=HD6.out
   exact ⟨own6,h6,(Out.of_below HB5.out).trans ho6,fun k hk=>(hn6 k hk).imp (fun q=>q) fun q=>Nat.le_trans HB5.out.size q⟩
end
end Go.Proofs.YtcdkopbjlakebaaGreatDoor
end
section
namespace Go.Proofs.YtcdkopbjlakebaaGreatDoor
open Go.RowKit Me Mf Rw Ds Go.Maps
theorem wmD_high {S:Dsk} (h:Calm S) {m:ManD} (hf:Fit m) {j:Nat} (hj:32≤j):(wmD S m 2).1.stored.getD j []=S.stored.getD j []:=by
 have hl:=slotOf_length hf
 have hsz:=h.size
 have e1:wmD S m 1=wslotD S (m.version%2) (slotOf m):=by rw[wmD,if_pos (show (wmD S m 0).2=0 from rfl)];rfl
 have ha:=wslotD_all h.pend h.all (n:=m.version%2) (by omega) hl
 rcases wslotD_cases h.pend h.all (n:=m.version%2) (by omega) hl with ⟨q0,q1,q2,q3,q4,q5⟩|⟨q0,q1,q2⟩
 ·rw[←e1] at q0 q1 q2 q3 q4 q5 ha
  have e2:wmD S m 2=wslotD (wmD S m 1).1 ((m.version+1)%2) (slotOf m):=by rw[wmD,if_pos q0]
  rcases wslotD_cases q3 ha.1 (n:=(m.version+1)%2) (by rw[q5];omega) hl with ⟨r0,r1,r2,r3,r4,r5⟩|⟨r0,r1,r2⟩
  ·rw[e2,r2 j (by omega),q2 j (by omega)]
  ·rw[e2,r1,q2 j (by omega)]
 ·rw[←e1] at q0 q1 q2
  rw[wmD_stuck q0 2 (by omega),q1]
section
variable {X:Sto} {l:List (List UInt8)} {m:ManD} {F:List UInt8→List UInt8}
theorem blocks_high {m:ManD} (hf:Fit m) {f:FileD} (h:f∈m.files) {z:Int} (hz:z∈f.blocks):32≤z.toNat:=by
 have:=((hf.1.2.2.1 f h).2.2 z hz).1
 omega
theorem Holds.high {st st':List (List UInt8)} (h:Holds st m.files F) (hf:Fit m) (hk:∀j,32≤j→st'.getD j []=st.getD j []):Holds st' m.files F:=fun f hfm=>(h f hfm).keep fun _ hz=>hk _ (blocks_high hf hfm hz)
structure Rest (X:Sto) (F:List UInt8→List UInt8):Prop where
 calm:Calm X.S
 on:X.S.on=true
 fuse:X.S.fuse<0
 ok:OkS X
 live:X.broken=false
 holds:Holds X.S.stored X.m.files F
 slots:(X.m=noMan∧∀k,k<2→slotS X.S.stored k 16=blankS)∨(0<X.m.version∧∀k,k<2→slotS X.S.stored k 16=slotOf X.m)
theorem Rest.up (h:Rest X F):upD X=true:=by unfold upD;rw[h.live,h.on];rfl
theorem Rest.new {n:Nat} (hn:32<n):Rest ⟨newD n,noMan,noC,false⟩ F:=
 ⟨new_calm (by omega),rfl,by show (-1:Int)<0;omega,⟨fit_none,wf_none,fun z hz=>(by cases hz),by simpa [newD] using hn,fun x hx=>absurd rfl hx,fun x b hx=>by cases hx⟩,rfl,fun f hf=>(by cases hf),.inl ⟨rfl,fun k hk=>slotS_zero k 16 n (by omega)⟩⟩
theorem Rest.change (h:Rest X F) {C:Chg} (hok:OkS {X with C:=C}):Rest {X with C:=C} F:={h with ok:=hok}
theorem Rest.read (h:Rest X F):∃T Z,(∀k,k<2→Says (slotD X.S k 16) (T k))∧(∀k,k<2→Z k=zeros (slotD X.S k 16))∧ansD X.S T Z=(X.m,0):=by
 obtain ⟨T,Z,hT,hZ⟩:=slots_say X.S
 refine ⟨T,Z,hT,hZ,?_⟩
 have hsl:∀k,k<2→slotD X.S k 16=slotS X.S.stored k 16:=fun k hk=>slotD_stored h.on h.calm.pend h.calm.size (by omega) 16 (Nat.le_refl _)
 have hbig:=h.ok.big
 unfold ansD
 rw[if_neg (by omega),h.on]
 rcases h.slots with ⟨hm,hb⟩|⟨hv,hs⟩
 ·have hall:∀k,k<2→T k=none:=fun k hk=>by
   have:=hT k hk
   rw[hsl k hk,hb k hk] at this
   exact this.one says_blank
  have hz:blkOf Z 2=true:=by
   unfold blkOf
   rw[hZ 1 (by omega),hsl 1 (by omega),hb 1 (by omega),zeros_blank,Bool.or_true]
  rw[if_pos rfl,hz]
  unfold curOf curOf curOf
  rw[hall 0 (by omega),hall 1 (by omega),hm]
  rfl
 ·have hall:∀k,k<2→T k=some X.m:=fun k hk=>by
   have:=hT k hk
   rw[hsl k hk,hs k hk] at this
   exact this.one (says_slot h.ok.wf h.ok.fit)
  exact ans_two (.inl ⟨hall 0 (by omega),.inl (hall 1 (by omega))⟩)
theorem ptD_done {S:Dsk} {id:Nat} {bl:List Int} {b:List UInt8} (hon:S.on=true) (hf:S.fuse<0):∀k,(∀i,i<k→0≤bl.getD i 0∧bl.getD i 0<(S.stored.length:Int))→(ptD S id bl b k).2=0∧(ptD S id bl b k).1.on=true∧(ptD S id bl b k).1.fuse=S.fuse
 |0,_=>⟨rfl,hon,rfl⟩
 |k+1,h=>by
  obtain ⟨h0,h1,h2⟩:=ptD_done (id:=id) (bl:=bl) (b:=b) hon hf k fun i hi=>h i (by omega)
  obtain ⟨q1,q2⟩:=h k (by omega)
  obtain ⟨n,hn⟩:∃n:Nat,bl.getD k 0=(n:Int):=⟨(bl.getD k 0).toNat,by omega⟩
  rw[ptD,if_pos h0,hn,writeD_ok h1 (by omega) (by rw[ptD_size];omega) (pgB_length _ _ _)]
  exact ⟨rfl,h1,h2⟩
theorem putsD_done {C:Chg}:∀(l:List FileD) (S:Dsk),S.on=true→S.fuse<0→(∀f∈l,∀i,i<St.pages (bodyC C f.name).length→0≤f.blocks.getD i 0∧f.blocks.getD i 0<(S.stored.length:Int))→(putsD C S l).2=0∧(putsD C S l).1.on=true∧(putsD C S l).1.fuse=S.fuse
 |[],S,hon,_,_=>⟨rfl,hon,rfl⟩
 |f::l,S,hon,hf,h=>by
  obtain ⟨h0,h1,h2⟩:=ptD_done (id:=f.id) (bl:=f.blocks) (b:=bodyC C f.name) hon hf _ (h f (by simp))
  have e:(putP S f (bodyC C f.name)).2=0:=h0
  rw[putsD,if_pos e]
  have h1':(putP S f (bodyC C f.name)).1.on=true:=h1
  have h2':(putP S f (bodyC C f.name)).1.fuse=S.fuse:=h2
  obtain ⟨q0,q1,q2⟩:=putsD_done l (putP S f (bodyC C f.name)).1 h1' (by omega) fun g hg i hi=>by rw[putP_size];exact h g (by simp[hg]) i hi
  exact ⟨q0,q1,by rw[q2,h2']⟩
theorem Rest.commit (h:Rest X F) (hn:NextIs X l m) (hw:Wf m):(putD X m).2=0∧Rest ⟨(putD X m).1,m,noC,X.broken⟩ (newF X.C F):=by
 obtain ⟨q0,q1,q2⟩:=putsD_done (C:=X.C) m.files X.S h.on h.fuse fun f hf i hi=>by
  have hi2:i<f.blocks.length:=by have:=hn.bodies hf;omega
  have h1:=((hn.2.2.1.2.2.1 f hf).2.2 _ (getD_mem hi2)).1
  have h2:=hn.onDisk h.ok.disk _ (by unfold allBlocks;exact List.mem_flatMap.2 ⟨f,hf,getD_mem hi2⟩)
  exact ⟨by omega,h2⟩
 have hsy:(syncD (putsD X.C X.S m.files).1).2=0∧(syncD (putsD X.C X.S m.files).1).1.fuse=X.S.fuse:=by
  have hf:=h.fuse
  unfold syncD
  rw[q1,if_pos rfl,power_neg (by omega),if_pos q1]
  exact ⟨rfl,q2⟩
 obtain ⟨s0,s1,s2,s3⟩:(syncD (putsD X.C X.S m.files).1).2=0∧(syncD (putsD X.C X.S m.files).1).1.stored=Ds.settle ones 0 0 (putsD X.C X.S m.files).1.pend (putsD X.C X.S m.files).1.stored∧(syncD (putsD X.C X.S m.files).1).1.pend=[]∧(syncD (putsD X.C X.S m.files).1).1.on=true:=by
  rcases syncD_cases (putsD X.C X.S m.files).1 with q|⟨q,-⟩
  ·exact q
  ·exact absurd hsy.1 q
 obtain ⟨ws,w1,w2,w3⟩:=putsD_cases X.C m.files X.S
 rw[h.calm.pend,List.nil_append,w3 q0] at w2
 have hP:Paged X m F (syncD (putsD X.C X.S m.files).1).1:=paged hn h.calm h.ok h.holds (by rw[s1,w2,putsD_size]) s2 s3
 have e:putD X m=wmD (syncD (putsD X.C X.S m.files).1).1 m 2:=by unfold putD;rw[if_pos q0,if_pos s0]
 obtain ⟨S,hS⟩:∃S,S=(syncD (putsD X.C X.S m.files).1).1:=⟨_,rfl⟩
 rw[←hS] at hP e hsy
 have hfit:=hn.2.2
 obtain ⟨d1,d2⟩:=wmD_done hP.calm hfit hP.on (by rw[hsy.2];exact h.fuse)
 refine ⟨by rw[e];exact d1,?_⟩
 have hv:0<m.version:=by
  obtain ⟨hp,-,-⟩:=hn
  unfold St.planD at hp
  cases hr:St.planL X.m.files (listC X l) (St.freeM X.S.stored.length X.m.files) X.m.next with
  |none=>rw[hr] at hp;cases hp
  |some r=>
   rw[hr] at hp
   injection hp with hp
   rw[←hp]
   exact Nat.succ_pos _
 rcases wmD_cases hP.calm hfit with ⟨c0,-⟩|⟨c0,-⟩|⟨-,c1,c2,c3,c4⟩
 ·exact absurd d1 c0
 ·exact absurd d1 c0
 ·rw[e]
  refine ⟨c2,c3,by show (wmD S m 2).1.fuse<0;rw[d2,hsy.2];exact h.fuse,⟨hfit,hw,?_,?_,fun x hx=>absurd rfl hx,fun x b hx=>by cases hx⟩,h.live,?_,.inr ⟨hv,c1⟩⟩
  ·show St.OnDisk (wmD S m 2).1.stored.length _
   rw[c4,hP.size]
   exact hn.onDisk h.ok.disk
  ·show 32<(wmD S m 2).1.stored.length
   rw[c4,hP.size]
   exact h.ok.big
  ·exact hP.new.high hfit fun j hj=>wmD_high hP.calm hfit hj
theorem Rest.anew (h:Rest X F):(if X.m.version=0 then (X.S,(0:Int)) else wmD X.S X.m 2).2=0∧Rest ⟨(if X.m.version=0 then (X.S,(0:Int)) else wmD X.S X.m 2).1,X.m,noC,false⟩ F:=by
 have hok:OkS ⟨X.S,X.m,noC,false⟩:={h.ok with keys:=fun x hx=>absurd rfl hx,len:=fun x b hx=>by cases hx}
 split
 ·exact ⟨rfl,h.calm,h.on,h.fuse,hok,rfl,h.holds,h.slots⟩
 ·rename_i hv
  have hfit:=h.ok.fit
  obtain ⟨d1,d2⟩:=wmD_done h.calm hfit h.on h.fuse
  refine ⟨d1,?_⟩
  rcases wmD_cases h.calm hfit with ⟨c0,-⟩|⟨c0,-⟩|⟨-,c1,c2,c3,c4⟩
  ·exact absurd d1 c0
  ·exact absurd d1 c0
  ·refine ⟨c2,c3,by show (wmD X.S X.m 2).1.fuse<0;rw[d2];exact h.fuse,{hok with disk:=?_,big:=?_},rfl,h.holds.high hfit fun j hj=>wmD_high h.calm hfit hj,.inr ⟨by show 0<X.m.version;omega,c1⟩⟩
   ·show St.OnDisk (wmD X.S X.m 2).1.stored.length _
    rw[c4]
    exact h.ok.disk
   ·show 32<(wmD X.S X.m 2).1.stored.length
    rw[c4]
    exact h.ok.big
theorem Rest.file (h:Rest X F) {f:FileD} (hf:f∈X.m.files):readF X.S f=(F f.name,0):=by
 refine readF_is h.on h.calm.pend (h.holds f hf) fun z hz=>⟨?_,h.ok.disk z (by unfold allBlocks;exact List.mem_flatMap.2 ⟨f,hf,hz⟩)⟩
 have:=((h.ok.fit.1.2.2.1 f hf).2.2 z hz).1
 omega
theorem fileOf_mem {m:ManD} {x:List UInt8}:fileOf m x=none↔x∉m.files.map (·.name):=by
 unfold fileOf
 rw[List.find?_eq_none]
 simp
theorem Rest.reads (h:Rest X F) (x:List UInt8):sreadD X x=if hasN X x then (newF X.C F x,0) else ([],8):=by
 unfold sreadD hasN newF
 rw[h.up,if_pos rfl]
 cases hC:X.C x with
 |some z=>
  cases z with
  |some b=>rfl
  |none=>rfl
 |none=>
  cases hf:fileOf X.m x with
  |none=>
   have:=fileOf_mem.1 hf
   simp only[decide_eq_true_eq]
   rw[if_neg this]
  |some f=>
   obtain ⟨h1,h2⟩:=fileOf_some hf
   have:x∈X.m.files.map (·.name):=List.mem_map.2 ⟨f,h1,h2⟩
   simp only[decide_eq_true_eq]
   rw[if_pos this,h.file h1,h2]
end
end Go.Proofs.YtcdkopbjlakebaaGreatDoor
end
section
namespace Go.Proofs.YtcdkopbjlakebaaGreatDoor
open Go.RowKit Me Mf Rw Ds Va Go.Maps
section
variable {w:World} {p:Value}
abbrev Down (p:Value) (w:World):Prop:=Calls Tryz.prog 62 #[p] w fun e w'=>e=.returned (.bool false)∧w=w'
end
end Go.Proofs.YtcdkopbjlakebaaGreatDoor
end
section
namespace Go.Proofs.YtcdkopbjlakebaaGreatDoor
open Go.RowKit Me Mf Rw Ds Va Go.Maps
theorem ite_length {S:Dsk} {m:ManD}:(if m.version=0 then (S,(0:Int)) else wmD S m 2).1.stored.length=S.stored.length:=by
 split
 ·rfl
 ·exact wmD_size S m 2
theorem OpPost.rest {X:Sto} {F:List UInt8→List UInt8} {w w':World} {B D:Nat} {own ownD:Nat→Prop} {e:Ending} (h:OpPost w B D X.S X.m own ownD e w') (hr:Rest X F) :
 ∃P M own' ownD' S',e=.returned (.tuple #[.pointer (some ⟨P,0,none⟩),.int .i64 0])∧StoreAt w' B P D M 0 ⟨S',X.m,noC,false⟩ own' ownD'∧Rest ⟨S',X.m,noC,false⟩ F∧S'.stored.length=X.S.stored.length∧Out ownD w w'∧(∀k,own' k→own k∨w.heap.size≤k)∧(∀k,own k→own' k)∧(∀k,ownD' k→ownD k∨w.heap.size≤k)∧w.heap.size≤P∧w.heap.size≤M:=by
 obtain ⟨h1,h2⟩:=hr.anew
 rcases h with ⟨q,-⟩|⟨-,P,M,own,ownD2,he,hst,ho2,hn2⟩
 ·exact absurd h1 q
 ·exact ⟨P,M,own,ownD2,_,he,hst,h2,ite_length,ho2,hn2⟩
def BgPost (w:World) (n:Nat) (e:Ending) (w':World):Prop:=
 ∃G P D M own ownD,e=.returned (.tuple #[.pointer (some ⟨G,0,none⟩),.bool true])∧Blk w' G [.pointer (some ⟨P,0,none⟩),.pointer (some ⟨D,0,none⟩),.int .u64 0,.int .u32 0,.slice none 0 0,.slice none 0 0,.slice none 0 0,.slice none 0 0,.bool false] ∧
  StoreAt w' w.heap.size P D M 0 ⟨newD n,noMan,noC,false⟩ own ownD∧¬own G∧Below w.heap.size w w'∧w.heap.size≤G
end Go.Proofs.YtcdkopbjlakebaaGreatDoor
end
section
namespace Go.Proofs.YtcdkopbjlakebaaGreatDoor
open Go.RowKit Me Mf Rw Ds Va Go.Maps
section
variable {w w':World} {B P D M N:Nat} {X:Sto} {own own' ownD T:Nat→Prop}
theorem StoreAt.wide (h:StoreAt w B P D M N X own ownD) (ho:Out own w w') (hF:Out (fun k=>own k∧¬Foot P M ownD k) w w') (h1:∀k,own k→own' k) (h2:∀k,own' k→own k∨w.heap.size≤k) (h3:∀k,own' k→B≤k∧k<w'.heap.size):StoreAt w' B P D M N X own' ownD:=by
 obtain ⟨A,n,c,b1,b2⟩:=h.blk
 obtain ⟨DD,hc⟩:=h.chs
 exact {
  blk:=⟨A,n,c,b1.out hF fun e=>e.2 (.inl rfl),b2.next ho h2⟩
  disk:=h.disk.out hF fun k hk e=>e.2 (.inr (.inr hk))
  chs:=by
   refine ⟨DD,?_,hc.no,fun x z hz=>?_⟩
   ·obtain ⟨es,clock,q1,q2⟩:=hc.map
    exact ⟨es,clock,(hF.block M hc.lt fun e=>e.2 (.inr (.inl rfl))).trans q1,q2⟩
   ·obtain ⟨A,k,c,q1,q2,q3,q4,q5⟩:=hc.is x z hz
    exact ⟨A,k,c,q1,q2,q3,q4,q5.next ho h2⟩
  dP:=h.dP
  dM:=h.dM
  low:=h3
  own:=fun k hk=>h1 k (h.own k hk)
  lP:=h.lP
  lM:=h.lM
  ok:=h.ok}
theorem StoreAt.with (h:StoreAt w B P D M N X own ownD) (hb:Below w.heap.size w w') {E:Nat→Prop} (hE:∀k,E k→w.heap.size≤k∧k<w'.heap.size) (hB:B≤w.heap.size):StoreAt w' B P D M N X (fun k=>own k∨E k) ownD:=
 h.wide (.of_below hb) (.of_below hb) (fun k hk=>.inl hk) (fun k hk=>hk.imp (fun q=>q) fun q=>(hE k q).1) fun k hk=>by
  rcases hk with q|q
  ·exact ⟨(h.low k q).1,Nat.lt_of_lt_of_le (h.low k q).2 hb.size⟩
  ·have:=hE k q
   omega
theorem StoreAt.kept (h:StoreAt w B P D M N X own ownD) (ho:Out T w w') (hT:∀k,k<w.heap.size→T k→own k∧¬Foot P M ownD k):StoreAt w' B P D M N X own ownD:=
 h.wide (ho.more fun k hk q=>(hT k hk q).1) (ho.more fun k hk q=>hT k hk q) (fun k hk=>hk) (fun k hk=>.inl hk) fun k hk=>⟨(h.low k hk).1,Nat.lt_of_lt_of_le (h.low k hk).2 ho.size⟩
end
end Go.Proofs.YtcdkopbjlakebaaGreatDoor
end
