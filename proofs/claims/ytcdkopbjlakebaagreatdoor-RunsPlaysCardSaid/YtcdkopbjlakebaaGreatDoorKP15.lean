/- Texts put together, for a law: MfA. -/
import Derived.Test.YtcdkopbjlakebaaGreatDoorKP3
import Derived.Test.YtcdkopbjlakebaaGreatDoorKP7
import Derived.Test.YtcdkopbjlakebaaGreatDoorKP14
import Derived.Test.YtcdkopbjlakebaaGreatDoorKP2
set_option maxRecDepth 100000
set_option maxHeartbeats 8000000
namespace Go.Proofs.YtcdkopbjlakebaaGreatDoor
section
section
open Go.RowKit Me
def qX (s:Int):Int:=if s<=0 then 0 else (s-1) / 112+1
theorem zbq (s:Int) (w:World) (h1:s<=9223372036854775807) :
 Calls Tryz.prog 102 #[.int .i64 s] w fun e w'=>e=.returned (.int .i64 (qX s))/\w=w':=by
 by_cases h0:s<=0
 ·have d1:decide (s<=0)=true:=by simp;omega
  have e:qX s=0:=by unfold qX;rw[if_pos h0]
  rw[e];clear e
  go_enter Tryz.func102,Tryz.ntmps102
  go_wp2
  go_ret
  exact ⟨rfl,rfl⟩
 ·have d1:decide (s<=0)=false:=by simp;omega
  obtain ⟨q,hq⟩:∃q,q=(s-1) / 112:=⟨_,rfl⟩
  have hq1:0<=q/\q<9223372036854775807:=by omega
  obtain ⟨hq1,hq2⟩:=hq1;have e:qX s=q+1:=by unfold qX;rw[if_neg h0,hq]
  rw[e];have t1:IntKind.i64.wrap (s-1)=s-1:=by rw[IntKind.wrap_i64];omega
  have t2:(s-1).tdiv 112=q:=by rw[Int.tdiv_eq_ediv_of_nonneg (by omega)];omega
  have t3:IntKind.i64.wrap q=q:=by rw[IntKind.wrap_i64];omega
  have t4:IntKind.i64.wrap (q+1)=q+1:=by rw[IntKind.wrap_i64];omega
  clear e hq
  go_enter Tryz.func102,Tryz.ntmps102
  go_wp2
  go_ret
  exact ⟨rfl,rfl⟩
end
namespace Mf
open Va
structure zi where
 name:List UInt8
 id:Nat
 size:Int
 blocks:List Int
structure ManD where
 version:Nat
 next:Nat
 files:List zi
def ql:ManD:=⟨0,0,[]⟩
def less (l m:List UInt8):Bool:=Go.Op.bytesLess l m
theorem zfK (a b:UInt8):(a<b)↔a.toNat<b.toNat:=UInt8.lt_iff_toNat_lt
theorem yA:∀l:List UInt8,less l l=false
 |[]=>rfl
 |a::l=>by
  have h1:¬a<a:=by rw[zfK];omega
  have:=yA l;unfold less at this ⊢;simp[Go.Op.bytesLess,h1,this]
theorem zbs (l:List UInt8):less l []=false:=by unfold less;cases l<;>rfl
theorem zjZ {l:List UInt8} (h:l≠[]):less [] l=true:=by
 unfold less
 cases l with
 |nil=>exact absurd rfl h
 |cons a l=>rfl
theorem Vx (a b:UInt8) (x y:List UInt8):less (a::x) (b::y)=true↔a.toNat<b.toNat\/(a=b/\less x y=true):=by
 unfold less;simp[Go.Op.bytesLess,zfK]
theorem xO:∀{l m n:List UInt8},less l m=true->less m n=true->less l n=true
 |l,m,[],_,h=>by rw[zbs] at h;cases h
 |l,[],_::_,h,_=>by rw[zbs] at h;cases h
 |[],_::_,c::n,_,_=>rfl
 |a::l,b::m,c::n,h1,h2=>by
  rw[Vx] at h1 h2 ⊢;rcases h1 with h1|⟨rfl,h1⟩
  ·rcases h2 with h2|⟨rfl,h2⟩
   ·exact .inl (by omega)
   ·exact .inl h1
  ·rcases h2 with h2|⟨rfl,h2⟩
   ·exact .inl h2
   ·exact .inr ⟨rfl,xO h1 h2⟩
theorem Zk:∀{l m:List UInt8},less l m=false->l≠m->less m l=true
 |[],[],_,h=>absurd rfl h
 |[],b::m,h,_=>by cases h
 |a::l,[],_,_=>rfl
 |a::l,b::m,h,hne=>by
  have h':¬less (a::l) (b::m)=true:=by rw[h];simp
  rw[Vx] at h' ⊢;rcases Nat.lt_trichotomy a.toNat b.toNat with h1|h1|h1
  ·exact absurd (.inl h1) h'
  ·have hab:a=b:=UInt8.toNat_inj.1 h1;subst hab;refine .inr ⟨rfl,Zk ?_ (fun e=>hne (by rw[e]))⟩
   cases hl:less l m with
   |false=>rfl
   |true=>exact absurd (.inr ⟨rfl,hl⟩) h'
  ·exact .inl h1
theorem XW {l m:List UInt8} (h:less l m=true):less m l=false:=by
 cases hm:less m l with
 |false=>rfl
 |true=>
  have:=xO h hm;rw[yA] at this
  cases this
theorem zk3 (l m:List UInt8):(less l m||l==m)= !less m l:=by
 cases h:less l m with
 |true=>rw[XW h];rfl
 |false=>
  by_cases e:l=m
  ·subst e;rw[yA];simp
  ·rw[Zk h e]
   simpa using e
def xE:List Int->List UInt8
 |[]=>[]
 |b::l=>enc b.toNat++xE l
theorem Yl:∀l m:List Int,xE (l++m)=xE l++xE m
 |[],m=>rfl
 |b::l,m=>by simp only[xE,List.cons_append,Yl l m,List.append_assoc]
theorem zgC {l:List Int} {k:Nat} {b:Int} (h:l[k]?=some b):xE (l.take (k+1))=xE (l.take k)++enc b.toNat:=by
 rw[List.take_add_one,h,Yl];simp[xE]
theorem Yk:∀l:List Int,l.length<=(xE l).length
 |[]=>Nat.le_refl _
 |b::l=>by
  have:=Yk l;have:=ZQ b.toNat;simp only[xE,List.length_append,List.length_cons];omega
def yZ:List Nat->List UInt8
 |[]=>[]
 |b::l=>enc b++yZ l
theorem Qx:∀l m:List Nat,yZ (l++m)=yZ l++yZ m
 |[],m=>rfl
 |b::l,m=>by simp only[yZ,List.cons_append,Qx l m,List.append_assoc]
theorem zgB {l:List Nat} {k:Nat} {b:Nat} (h:l[k]?=some b):yZ (l.take (k+1))=yZ (l.take k)++enc b:=by
 rw[List.take_add_one,h,Qx];simp[yZ]
theorem VJ:∀l:List Nat,(∀x∈l,x<18446744073709551616)->(yZ l).length<=10*l.length
 |[],_=>Nat.le_refl _
 |b::l,h=>by
  have:=VJ l (fun x hx=>h x (by simp[hx]));have:=ZP (h b (by simp));simp only[yZ,List.length_append,List.length_cons];omega
def encF (f:zi):List UInt8:=enc f.name.length++(f.name++(enc f.id++(enc f.size.toNat++xE f.blocks)))
def yQ:List zi->List UInt8
 |[]=>[]
 |f::l=>encF f++yQ l
theorem Yj:∀l m:List zi,yQ (l++m)=yQ l++yQ m
 |[],m=>rfl
 |b::l,m=>by simp only[yQ,List.cons_append,Yj l m,List.append_assoc]
theorem zaR {l:List zi} {k:Nat} {f:zi} (h:l[k]?=some f):yQ (l.take (k+1))=yQ (l.take k)++encF f:=by
 rw[List.take_add_one,h,Yj];simp[yQ]
theorem Y0 (f:zi):3<=(encF f).length/\f.name.length<=(encF f).length/\f.blocks.length<=(encF f).length:=by
 have h1:=ZQ f.name.length;have h2:=ZQ f.id;have h3:=ZQ f.size.toNat;have h4:=Yk f.blocks;unfold encF;simp only[List.length_append];omega
theorem zdh:∀{l:List zi} {f:zi},f∈l->(encF f).length<=(yQ l).length
 |g::l,f,h=>by
  rw[yQ,List.length_append];rcases List.mem_cons.1 h with rfl|h
  ·omega
  ·have:=zdh h;omega
theorem yI:∀l:List zi,3*l.length<=(yQ l).length
 |[]=>Nat.le_refl _
 |f::l=>by
  have h1:=yI l;have h2:=(Y0 f).1;rw[yQ,List.length_append,List.length_cons];omega
theorem zkz {l:List zi} (k:Nat):(yQ (l.take k)).length<=(yQ l).length:=by
 have h:yQ l=yQ (l.take k)++yQ (l.drop k):=by rw[<-Yj,List.take_append_drop]
 rw[h,List.length_append];omega
def body (m:ManD):List UInt8:=enc m.version++(enc m.next++(enc m.files.length++yQ m.files))
theorem y9 (m:ManD):(yQ m.files).length+3<=(body m).length:=by
 have h1:=ZQ m.version;have h2:=ZQ m.next;have h3:=ZQ m.files.length;unfold body;simp only[List.length_append];omega
structure WfF (f:zi):Prop where
 id:f.id<4294967296
 low:-9223372036854775808<=f.size
 high:f.size<=9223372036854775807
 blocks:∀b∈f.blocks,-9223372036854775808<=b/\b<=9223372036854775807
structure Wf (m:ManD):Prop where
 version:m.version<18446744073709551616
 next:m.next<4294967296
 files:∀f∈m.files,WfF f
structure PosF (f:zi):Prop where
 size:0<=f.size
 blocks:∀b∈f.blocks,0<=b
def zh (l:List zi):List Int:=l.flatMap (·.blocks)
theorem QG (l m:List zi):zh (l++m)=zh l++zh m:=by simp[zh]
theorem YJ (l:List zi) (f:zi):zh (l++[f])=zh l++f.blocks:=by simp[zh]
def xM (l:List zi):Prop:=(∀f∈l,1<=f.name.length/\f.name.length<=32)/\l.Pairwise fun f g=>less f.name g.name=true
def zmw (next:Nat) (l:List zi):Prop:=(∀f∈l,f.id<next)/\(l.map (·.id)).Nodup
def zkT (f:zi):Prop:=0<=f.size/\qX f.size=f.blocks.length/\∀b∈f.blocks,32<=b/\b<65536
def XE (l:List zi):Prop:=(∀f∈l,zkT f)/\(zh l).Nodup
def Good (next:Nat) (l:List zi):Prop:=xM l/\zmw next l/\XE l
def Fit (m:ManD):Prop:=Good m.next m.files/\(body m).length<=2035
theorem yw {α:Type} {l:List α} {k:Nat} {x:α} (h:l[k]?=some x):l.take (k+1)=l.take k++[x]:=by rw[List.take_add_one,h];rfl
theorem ZG {α:Type} {R:α->α->Prop} {l:List α} {x:α}:(l++[x]).Pairwise R↔l.Pairwise R/\∀y∈l,R y x:=by
 rw[List.pairwise_append]
 simp
theorem zf9 {α:Type} {l:List α} {x:α}:(l++[x]).Nodup↔l.Nodup/\x∉l:=by
 rw[List.nodup_append]
 simp
 intro _;exact ⟨fun h hx=>h x hx rfl,fun h y hy e=>h (e▸hy)⟩
def ZK (l:List zi):List UInt8:=(l.getLast?.map (·.name)).getD []
theorem ZJ (l:List zi) (f:zi):ZK (l++[f])=f.name:=by simp[ZK]
theorem zgc {l:List zi} (h:xM l):∀g∈l,less g.name (ZK l)=true\/g.name=ZK l:=by
 intro g hg;rcases List.eq_nil_or_concat l with rfl|⟨l',f,rfl⟩
 ·cases hg
 ·rw[List.concat_eq_append] at hg h ⊢;rw[ZJ];rcases List.mem_append.1 hg with hg|hg
  ·exact .inl ((ZG.1 h.2).2 g hg)
  ·simp at hg;subst hg;exact .inr rfl
theorem zga {l:List zi} {f:zi} (h:xM l):xM (l++[f])↔less (ZK l) f.name=true/\f.name.length<=32:=by
 constructor
 ·rintro ⟨h1,h2⟩;have hf:=h1 f (by simp);refine ⟨?_,hf.2⟩;rcases List.eq_nil_or_concat l with rfl|⟨l',g,rfl⟩
  ·exact zjZ (fun e=>by rw[e] at hf;simp at hf)
  ·rw[List.concat_eq_append] at h2 ⊢;rw[ZJ];exact (ZG.1 h2).2 g (by simp)
 ·rintro ⟨h1,h2⟩;refine ⟨fun g hg=>?_,ZG.2 ⟨h.2,fun g hg=>?_⟩⟩
  ·rcases List.mem_append.1 hg with hg|hg
   ·exact h.1 g hg
   ·simp at hg;subst hg;refine ⟨?_,h2⟩
    cases hn:g.name with
    |nil=>rw[hn,zbs] at h1;cases h1
    |cons a t=>simp
  ·rcases zgc h g hg with h3|h3
   ·exact xO h3 h1
   ·rw[h3];exact h1
theorem xM.take {l:List zi} (h:xM l) (k:Nat):xM (l.take k):=⟨fun f hf=>h.1 f (List.mem_of_mem_take hf),h.2.sublist (List.take_sublist _ _)⟩
theorem zfo (n:Nat):Good n []:=⟨⟨fun f h=>(by cases h),.nil⟩,⟨fun f h=>(by cases h),by simp⟩,⟨fun f h=>(by cases h),by simp[zh]⟩⟩
theorem zkk {n:Nat} {l:List zi} (h:Good n l):∀f∈l,PosF f:=fun f hf=>⟨(h.2.2.1 f hf).1,fun b hb=>by have:=((h.2.2.1 f hf).2.2 b hb).1;omega⟩
end Mf
namespace Mf
open Va Fr
def numO (most:Nat) (l:List UInt8):Option (Nat×List UInt8):=if (numOf l 0 most).2.2=0 then some ((numOf l 0 most).1,(numOf l 0 most).2.1) else none
theorem qG {most x:Nat} {l l':List UInt8} (h:numOf l 0 most=(x,l',0)):numO most l=some (x,l'):=by unfold numO;rw[h];rfl
theorem vF {most x:Nat} {l l':List UInt8} {e:Int} (h:numOf l 0 most=(x,l',e)) (he:e≠0):numO most l=none:=by unfold numO;rw[h];exact if_neg he
theorem qj {most x:Nat} {l l':List UInt8} (h:numO most l=some (x,l')):l=enc x++l'/\x<=most/\x<18446744073709551616:=by
 unfold numO at h
 split at h
 ·rename_i he
  injection h with h;injection h with h1 h2;subst h1 h2;have e:numOf l 0 most=((numOf l 0 most).1,(numOf l 0 most).2.1,(numOf l 0 most).2.2):=rfl;rw[he] at e;exact ⟨Vm e,qi l 0 most,XQ l 0 most⟩
 ·cases h
theorem ZH {x most:Nat} (r:List UInt8) (h:x<18446744073709551616) (hm:x<=most):numO most (enc x++r)=some (x,r):=qG (zjC r h most hm)
def vU (mb:Nat):Nat->List Int->List UInt8->Option (List Int×List UInt8)
 |0,acc,l=>some (acc,l)
 |k+1,acc,l=>match numO mb l with
  |none=>none
  |some (x,l1)=>vU mb k (acc++[(x:Int)]) l1
theorem Qr (mb:Nat):∀(k:Nat) (acc:List Int) (l:List UInt8) (out:List Int) (l':List UInt8),vU mb k acc l=some (out,l') ->
 ∃r,out=acc++r/\r.length=k/\l=xE r++l'/\∀x∈r,0<=x/\x<=mb
 |0,acc,l,out,l',h=>by
  rw[vU] at h;injection h with h;injection h with h1 h2;subst h1 h2;exact ⟨[],by simp,rfl,rfl,fun x hx=>(by cases hx)⟩
 |k+1,acc,l,out,l',h=>by
  rw[vU] at h
  split at h
  ·cases h
  ·rename_i x l1 hx
   obtain ⟨e1,e2,-⟩:=qj hx;obtain ⟨r,h1,h2,h3,h4⟩:=Qr mb k _ _ _ _ h;refine ⟨(x:Int)::r,by rw[h1];simp,by simp[h2],?_,fun y hy=>?_⟩
   ·rw[e1,h3];simp[xE]
   ·rcases List.mem_cons.1 hy with rfl|hy
    ·omega
    ·exact h4 y hy
theorem zaz (mb:Nat) (hmb:mb<18446744073709551616):∀(r acc:List Int) (l':List UInt8),(∀x∈r,0<=x/\x<=mb)->vU mb r.length acc (xE r++l')=some (acc++r,l')
 |[],acc,l',_=>by simp[vU,xE]
 |x::r,acc,l',h=>by
  have hx:=h x (by simp);rw[List.length_cons,vU,xE,List.append_assoc,ZH _ (by omega) (by omega)];simp only;rw[zaz mb hmb r _ l' (fun y hy=>h y (by simp[hy]))];have e:((x.toNat:Nat):Int)=x:=by omega
  rw[e]
  simp
def qE (ms mb:Nat) (l:List UInt8):Option (zi×List UInt8):=match numO 32 l with
 |none=>none
 |some (n,l1)=>if l1.length<n then none else match numO 4294967295 (l1.drop n) with
  |none=>none
  |some (id,l2)=>match numO ms l2 with
   |none=>none
   |some (sz,l3)=>match vU mb (qX (sz:Int)).toNat [] l3 with
    |none=>none
    |some (bs,l4)=>some (⟨l1.take n,id,(sz:Int),bs⟩,l4)
structure CapF (ms mb:Nat) (f:zi):Prop where
 name:f.name.length<=32
 id:f.id<4294967296
 size:0<=f.size/\f.size<=ms
 many:(qX f.size).toNat=f.blocks.length
 blocks:∀x∈f.blocks,0<=x/\x<=mb
theorem zcG {ms mb:Nat} {l l':List UInt8} {f:zi} (h:qE ms mb l=some (f,l')):l=encF f++l'/\CapF ms mb f:=by
 unfold qE at h
 split at h
 ·cases h
 rename_i n l1 h1
 obtain ⟨a1,a2,-⟩:=qj h1
 split at h
 ·cases h
 rename_i hn
 split at h
 ·cases h
 rename_i id l2 h2
 obtain ⟨b1,b2,-⟩:=qj h2
 split at h
 ·cases h
 rename_i sz l3 h3
 obtain ⟨c1,c2,-⟩:=qj h3
 split at h
 ·cases h
 rename_i bs l4 h4
 obtain ⟨r,d1,d2,d3,d4⟩:=Qr _ _ _ _ _ _ h4;injection h with h;injection h with e1 e2;subst e1 e2;rw[List.nil_append] at d1;subst d1;have hlen:(l1.take n).length=n:=by rw[List.length_take];omega
 refine ⟨?_,⟨by simp only;omega,by simp only;omega,by simp only;omega,by simp only;omega,d4⟩⟩;unfold encF;simp only;rw[hlen];have e:((sz:Int)).toNat=sz:=by omega
 rw[e,a1];simp only[List.append_assoc]
 congr 1
 rw[<-d3,<-c1,<-b1,List.take_append_drop]
theorem zf4 {ms mb:Nat} (hms:ms<18446744073709551616) (hmb:mb<18446744073709551616) {f:zi} (hc:CapF ms mb f) (l':List UInt8):qE ms mb (encF f++l')=some (f,l'):=by
 obtain ⟨h1,h2,h3,h4,h5⟩:=hc;unfold qE encF;simp only[List.append_assoc];rw[ZH _ (by omega) h1];simp only;rw[if_neg (by simp only[List.length_append];omega),List.drop_left,ZH _ (by omega) (by omega)];simp only;rw[ZH _ (by omega) (by omega)];simp only;have e:((f.size.toNat:Nat):Int)=f.size:=by omega
 rw[e,h4,zaz mb hmb _ _ _ h5];simp only[List.take_left,List.nil_append]
def qh (ms mb:Nat):Nat->List zi->List UInt8->Option (List zi×List UInt8)
 |0,acc,l=>some (acc,l)
 |k+1,acc,l=>match qE ms mb l with
  |none=>none
  |some (f,l1)=>qh ms mb k (acc++[f]) l1
theorem Xi (ms mb:Nat):∀(k:Nat) (acc:List zi) (l:List UInt8) (out:List zi) (l':List UInt8),qh ms mb k acc l=some (out,l') ->
 ∃r,out=acc++r/\r.length=k/\l=yQ r++l'/\∀x∈r,CapF ms mb x
 |0,acc,l,out,l',h=>by
  rw[qh] at h;injection h with h;injection h with h1 h2;subst h1 h2;exact ⟨[],by simp,rfl,rfl,fun x hx=>(by cases hx)⟩
 |k+1,acc,l,out,l',h=>by
  rw[qh] at h
  split at h
  ·cases h
  ·rename_i x l1 hx
   obtain ⟨e1,e2⟩:=zcG hx;obtain ⟨r,h1,h2,h3,h4⟩:=Xi ms mb k _ _ _ _ h;refine ⟨x::r,by rw[h1];simp,by simp[h2],?_,fun y hy=>?_⟩
   ·rw[e1,h3];simp[yQ]
   ·rcases List.mem_cons.1 hy with rfl|hy
    ·exact e2
    ·exact h4 y hy
theorem Vk (ms mb:Nat) (hms:ms<18446744073709551616) (hmb:mb<18446744073709551616):∀(r acc:List zi) (l':List UInt8),(∀x∈r,CapF ms mb x)->qh ms mb r.length acc (yQ r++l')=some (acc++r,l')
 |[],acc,l',_=>by simp[qh,yQ]
 |x::r,acc,l',h=>by
  rw[List.length_cons,qh,yQ,List.append_assoc,zf4 hms hmb (h x (by simp))];simp only;rw[Vk ms mb hms hmb r _ l' (fun y hy=>h y (by simp[hy]))]
  simp
def vT (mn ms mb:Nat) (l:List UInt8):Option (ManD×List UInt8):=match numO 18446744073709551615 l with
 |none=>none
 |some (v,l1)=>match numO 4294967295 l1 with
  |none=>none
  |some (x,l2)=>match numO mn l2 with
   |none=>none
   |some (n,l3)=>match qh ms mb n [] l3 with
    |none=>none
    |some (fs,l4)=>some (⟨v,x,fs⟩,l4)
structure Cap (mn ms mb:Nat) (m:ManD):Prop where
 version:m.version<18446744073709551616
 next:m.next<4294967296
 count:m.files.length<=mn/\m.files.length<18446744073709551616
 files:∀f∈m.files,CapF ms mb f
theorem Qq {mn ms mb:Nat} {l l':List UInt8} {m:ManD} (h:vT mn ms mb l=some (m,l')):l=body m++l'/\Cap mn ms mb m:=by
 unfold vT at h
 split at h
 ·cases h
 rename_i v l1 h1
 obtain ⟨a1,a2,a3⟩:=qj h1
 split at h
 ·cases h
 rename_i x l2 h2
 obtain ⟨b1,b2,b3⟩:=qj h2
 split at h
 ·cases h
 rename_i n l3 h3
 obtain ⟨c1,c2,c3⟩:=qj h3
 split at h
 ·cases h
 rename_i fs l4 h4
 obtain ⟨r,d1,d2,d3,d4⟩:=Xi _ _ _ _ _ _ _ h4;injection h with h;injection h with e1 e2;subst e1 e2;rw[List.nil_append] at d1;subst d1;refine ⟨?_,⟨a3,by simp only;omega,by simp only;omega,d4⟩⟩;unfold body;simp only[List.append_assoc];rw[d2,<-d3,<-c1,<-b1,<-a1]
theorem XO {mn ms mb:Nat} (hms:ms<18446744073709551616) (hmb:mb<18446744073709551616) {m:ManD} (hc:Cap mn ms mb m) (l':List UInt8):vT mn ms mb (body m++l')=some (m,l'):=by
 obtain ⟨h1,h2,h3,h4⟩:=hc;unfold vT body;simp only[List.append_assoc];rw[ZH _ h1 (by omega)];simp only;rw[ZH _ (by omega) (by omega)];simp only;rw[ZH _ h3.2 h3.1];simp only;rw[Vk ms mb hms hmb _ _ _ h4]
 simp
theorem zh0 {z:Int} {k:Nat} (h:qX z=(k:Int)) (hk:k<=65536):z<=7340032:=by
 unfold qX at h
 split at h
 ·omega
 ·omega
theorem zec {m:ManD} (hw:Wf m) (h:Fit m) {mn ms mb:Nat} (hmn:2048<=mn) (hms:7340032<=ms) (hmb:65535<=mb):Cap mn ms mb m:=by
 have hb:=h.2;have h1:=y9 m;have h2:=yI m.files;refine ⟨hw.version,hw.next,by omega,fun f hf=>?_⟩;obtain ⟨p1,p2,p3⟩:=h.1.2.2.1 f hf;have h3:=zdh hf;have h4:=(Y0 f).2.2;have hsz:=zh0 p2 (by omega);exact ⟨(h.1.1.1 f hf).2,(hw.files f hf).id,⟨p1,by omega⟩,by omega,fun x hx=>by have:=p3 x hx;omega⟩
theorem zmo {m:ManD} {mn ms mb:Nat} (hms:ms<=9223372036854775807) (hmb:mb<=9223372036854775807) (h:Cap mn ms mb m):Wf m:=
 ⟨h.version,h.next,fun f hf=>⟨(h.files f hf).id,by have:=(h.files f hf).size;omega,by have:=(h.files f hf).size;omega,fun b hb=>by have:=(h.files f hf).blocks b hb;omega⟩⟩
def YG (b:List UInt8) (m:ManD):Prop:=(∃k,getS b=(⟨77,body m⟩,k,0))/\Fit m/\Wf m
theorem YG.one {b:List UInt8} {m m':ManD} (h:YG b m) (h':YG b m'):m=m':=by
 obtain ⟨⟨k,e1⟩,f1,w1⟩:=h;obtain ⟨⟨k',e2⟩,f2,w2⟩:=h';rw[e1] at e2;injection e2 with e2 _;injection e2 with _ e2;have p1:=XO (mn:=2048) (ms:=7340032) (mb:=65536) (by decide) (by decide) (zec w1 f1 (by decide) (by decide) (by decide)) [];have p2:=XO (mn:=2048) (ms:=7340032) (mb:=65536) (by decide) (by decide) (zec w2 f2 (by decide) (by decide) (by decide)) [];rw[e2,p2] at p1;injection p1 with p1;injection p1 with p1 _;exact p1.symm
theorem zkm {b bd:List UInt8} {k:Nat} (hb:getS b=(⟨77,bd⟩,k,0)) {mn ms mb:Nat} (hmn:2048<=mn) (hms:7340032<=ms/\ms<=9223372036854775807) (hmb:65535<=mb/\mb<=9223372036854775807) (m:ManD) :
 YG b m↔vT mn ms mb bd=some (m,[])/\Fit m:=by
 constructor
 ·rintro ⟨⟨k',e⟩,f,w⟩;rw[hb] at e;injection e with e _;injection e with _ e;have:=XO (mn:=mn) (ms:=ms) (mb:=mb) (by omega) (by omega) (zec w f hmn hms.1 hmb.1) [];rw[List.append_nil,<-e] at this;exact ⟨this,f⟩
 ·rintro ⟨h,f⟩;obtain ⟨e,hc⟩:=Qq h;rw[List.append_nil] at e;exact ⟨⟨k,by rw[hb,e]⟩,f,zmo hms.2 hmb.2 hc⟩
end Mf
section
open Go.RowKit Me
abbrev sv (b:List UInt8):Value:=.string ⟨b.toArray⟩
def zL (l:List Int):List Value:=l.map (Value.int .i64)
theorem zV (l:List Int):(zL l).length=l.length:=by simp[zL]
theorem Yz {l:List Int} {i:Nat} {z:Int} (h:l[i]?=some z):(zL l)[i]?=some (.int .i64 z):=by simp[zL,h]
theorem zaJ (l:List Int):∀v∈zL l,v.oneCell'=true:=by
 intro v hv;simp only[zL,List.mem_map] at hv;obtain ⟨u,-,rfl⟩:=hv;rfl
theorem Xm (k m:List Int):zL (k++m)=zL k++zL m:=by simp[zL]
open Go.ChangeShapes Go.WideShapes
theorem ziV (x:Addr) (j:Nat):x.add (j+1)=⟨x.block,x.off+(j+1),none⟩:=by
 have:=xX x 0 j;rw[Nat.zero_add] at this;rw[this];unfold Addr.add
 simp
theorem zhb (s:ByteArray):sv s.data.toList=.string s:=by obtain ⟨⟨l⟩⟩:=s;rfl
end
section
open Go.RowKit Me Mf
def FAt (w:World) (B:Nat) (x:Addr) (f:zi):Prop:=∃A n c,w.cell? x=some (sv f.name)/\w.cell? ⟨x.block,x.off+1,none⟩=some (.int .u32 (f.id:Int))/\w.cell? ⟨x.block,x.off+2,none⟩=some (.int .i64 f.size) /\
 w.cell? ⟨x.block,x.off+3,none⟩=some (.slice A n c)/\f.blocks.length=n/\n<=c/\n<=9223372036854775807/\Cs w B A (zL f.blocks)
def Files (w:World) (B:Nat) (L:Option Addr) (l:List zi):Prop:=0<l.length->∃a,L=some a/\a.block<B/\∀i f,l[i]?=some f->FAt w B (a.add (i*4)) f
section
variable {w w':World} {B B':Nat} {L:Option Addr} {l:List zi}
theorem FAt.below {x:Addr} {f:zi} (h:FAt w B x f) (hx:x.block<B) (hb:Below B w w'):FAt w' B x f:=by
 obtain ⟨A,n,c,h1,h2,h3,h4,h5,h6,h7,h8⟩:=h;exact ⟨A,n,c,(hb.cell hx).trans h1,(hb.cell (p:=⟨x.block,x.off+1,none⟩) hx).trans h2,(hb.cell (p:=⟨x.block,x.off+2,none⟩) hx).trans h3,(hb.cell (p:=⟨x.block,x.off+3,none⟩) hx).trans h4,h5,h6,h7,h8.below hb⟩
theorem FAt.more {x:Addr} {f:zi} (h:FAt w B x f) (hB:B<=B'):FAt w B' x f:=by
 obtain ⟨A,n,c,h1,h2,h3,h4,h5,h6,h7,h8⟩:=h;exact ⟨A,n,c,h1,h2,h3,h4,h5,h6,h7,h8.more hB⟩
theorem Files.empty:Files w B L []:=fun h=>by simp at h
theorem Files.below (h:Files w B L l) (hb:Below B w w'):Files w' B L l:=fun hn=>by
 obtain ⟨a,rfl,h1,hc⟩:=h hn;exact ⟨a,rfl,h1,fun i p hp=>(hc i p hp).below (by rw[block_add];exact h1) hb⟩
theorem Files.more (h:Files w B L l) (hB:B<=B'):Files w B' L l:=fun hn=>by
 obtain ⟨a,rfl,h1,hc⟩:=h hn;exact ⟨a,rfl,by omega,fun i p hp=>(hc i p hp).more hB⟩
theorem Files.at (h:Files w B L l) {i:Nat} (hi:i<l.length):∃a f,L=some a/\a.block<B/\l[i]?=some f/\FAt w B (a.add (i*4)) f:=by
 obtain ⟨a,e,h1,hc⟩:=h (by omega);exact ⟨a,l[i],e,h1,List.getElem?_eq_getElem hi,hc i _ (List.getElem?_eq_getElem hi)⟩
theorem Files.get (h:Files w B L l) {i:Nat} {f:zi} (hf:l[i]?=some f):∃a,L=some a/\a.block<B/\FAt w B (a.add (i*4)) f:=by
 have hi:i<l.length:=(List.getElem?_eq_some_iff.1 hf).1;obtain ⟨a,e,h1,hc⟩:=h (by omega);exact ⟨a,e,h1,hc i _ hf⟩
end
abbrev mval (v x:Nat) (A:Option Addr) (n c:Nat):Value:=.agg #[.int .u64 (v:Int),.int .u32 (x:Int),.slice A n c]
structure Zc (w:World) (B:Nat) (A:Option Addr) (n c:Nat) (m:ManD):Prop where
 files:Files w B A m.files
 len:m.files.length=n
 cap:n<=c
 most:n<=9223372036854775807
 wf:Wf m
section
variable {w w':World} {B B':Nat} {A:Option Addr} {n c:Nat} {m:ManD}
theorem Zc.below (h:Zc w B A n c m) (hb:Below B w w'):Zc w' B A n c m:={h with files:=h.files.below hb}
theorem Zc.more (h:Zc w B A n c m) (hB:B<=B'):Zc w B' A n c m:={h with files:=h.files.more hB}
theorem Zc.past (h:Zc w w.heap.size A n c m) (hb:Below w.heap.size w w'):Zc w' w'.heap.size A n c m:=(h.below hb).more hb.size
theorem zdD:Wf ql:=⟨by decide,by decide,fun f h=>(by cases h)⟩
theorem Zc.none (w:World) (B:Nat):Zc w B Option.none 0 0 ql:=⟨Files.empty,rfl,Nat.le_refl _,by omega,zdD⟩
abbrev ManK (T:Nat->Prop) (A:Option Addr) (n c:Nat) (m:ManD) (w:World):Prop:=Kk T (fun W=>Zc W W.heap.size A n c m) w
theorem ManK.none (T:Nat->Prop) (w:World):ManK T Option.none 0 0 ql w:=fun _ _=>Zc.none _ _
end
open Go.ChangeShapes Go.WideShapes
variable {H:Type} {enc:TypeId×Value->H} {W:World}
theorem add_zero' (x:Addr):x.add 0=x:=by unfold Addr.add;simp
end
end
end Go.Proofs.YtcdkopbjlakebaaGreatDoor
