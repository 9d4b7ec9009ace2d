/- Texts put together, for a law: MfA. -/
import Derived.Test.YtcdkopbjlakebaaGreatDoorKS3
import Derived.Test.YtcdkopbjlakebaaGreatDoorKS7
import Derived.Test.YtcdkopbjlakebaaGreatDoorKS14
import Derived.Test.YtcdkopbjlakebaaGreatDoorKS2
section
namespace Go.Proofs.YtcdkopbjlakebaaGreatDoor
open Go.RowKit Me
def manyZ (s:Int):Int:=if s≤0 then 0 else (s-1) / 112+1
theorem many_any (s:Int) (w:World) (h1:s≤9223372036854775807) :
 Calls Tryz.prog 102 #[.int .i64 s] w fun e w'=>e=.returned (.int .i64 (manyZ s))∧w=w':=by
 by_cases h0:s≤0
 ·have d1:decide (s≤0)=true:=by simp;omega
  have e:manyZ s=0:=by unfold manyZ;rw[if_pos h0]
  rw[e]
  clear e
  go_enter Tryz.func102,Tryz.ntmps102
  go_wp2
  go_ret
  exact ⟨rfl,rfl⟩
 ·have d1:decide (s≤0)=false:=by simp;omega
  obtain ⟨q,hq⟩:∃q,q=(s-1) / 112:=⟨_,rfl⟩
  have hq1:0≤q∧q<9223372036854775807:=by omega
  obtain ⟨hq1,hq2⟩:=hq1
  have e:manyZ s=q+1:=by unfold manyZ;rw[if_neg h0,hq]
  rw[e]
  have t1:IntKind.i64.wrap (s-1)=s-1:=by rw[IntKind.wrap_i64];omega
  have t2:(s-1).tdiv 112=q:=by rw[Int.tdiv_eq_ediv_of_nonneg (by omega)];omega
  have t3:IntKind.i64.wrap q=q:=by rw[IntKind.wrap_i64];omega
  have t4:IntKind.i64.wrap (q+1)=q+1:=by rw[IntKind.wrap_i64];omega
  clear e hq
  go_enter Tryz.func102,Tryz.ntmps102
  go_wp2
  go_ret
  exact ⟨rfl,rfl⟩
end Go.Proofs.YtcdkopbjlakebaaGreatDoor
namespace Go.Proofs.YtcdkopbjlakebaaGreatDoor.Mf
open Va
structure FileD where
 name:List UInt8
 id:Nat
 size:Int
 blocks:List Int
structure ManD where
 version:Nat
 next:Nat
 files:List FileD
def noFile:FileD:=⟨[],0,0,[]⟩
def noMan:ManD:=⟨0,0,[]⟩
def less (l m:List UInt8):Bool:=Go.Op.bytesLess l m
theorem u8_lt (a b:UInt8):(a<b)↔a.toNat<b.toNat:=UInt8.lt_iff_toNat_lt
theorem less_irrefl:∀l:List UInt8,less l l=false
 |[]=>rfl
 |a::l=>by
  have h1:¬a<a:=by rw[u8_lt];omega
  have:=less_irrefl l
  unfold less at this ⊢
  simp[Go.Op.bytesLess,h1,this]
theorem less_nil (l:List UInt8):less l []=false:=by unfold less;cases l<;>rfl
theorem nil_less {l:List UInt8} (h:l≠[]):less [] l=true:=by
 unfold less
 cases l with
 |nil=>exact absurd rfl h
 |cons a l=>rfl
theorem less_cons (a b:UInt8) (x y:List UInt8):less (a::x) (b::y)=true↔a.toNat<b.toNat∨(a=b∧less x y=true):=by
 unfold less
 simp[Go.Op.bytesLess,u8_lt]
theorem less_trans:∀{l m n:List UInt8},less l m=true→less m n=true→less l n=true
 |l,m,[],_,h=>by rw[less_nil] at h;cases h
 |l,[],_::_,h,_=>by rw[less_nil] at h;cases h
 |[],_::_,c::n,_,_=>rfl
 |a::l,b::m,c::n,h1,h2=>by
  rw[less_cons] at h1 h2 ⊢
  rcases h1 with h1|⟨rfl,h1⟩
  ·rcases h2 with h2|⟨rfl,h2⟩
   ·exact .inl (by omega)
   ·exact .inl h1
  ·rcases h2 with h2|⟨rfl,h2⟩
   ·exact .inl h2
   ·exact .inr ⟨rfl,less_trans h1 h2⟩
theorem less_total:∀{l m:List UInt8},less l m=false→l≠m→less m l=true
 |[],[],_,h=>absurd rfl h
 |[],b::m,h,_=>by cases h
 |a::l,[],_,_=>rfl
 |a::l,b::m,h,hne=>by
  have h':¬less (a::l) (b::m)=true:=by rw[h];simp
  rw[less_cons] at h' ⊢
  rcases Nat.lt_trichotomy a.toNat b.toNat with h1|h1|h1
  ·exact absurd (.inl h1) h'
  ·have hab:a=b:=UInt8.toNat_inj.1 h1
   subst hab
   refine .inr ⟨rfl,less_total ?_ (fun e=>hne (by rw[e]))⟩
   cases hl:less l m with
   |false=>rfl
   |true=>exact absurd (.inr ⟨rfl,hl⟩) h'
  ·exact .inl h1
theorem less_asymm {l m:List UInt8} (h:less l m=true):less m l=false:=by
 cases hm:less m l with
 |false=>rfl
 |true=>
  have:=less_trans h hm
  rw[less_irrefl] at this
  cases this
theorem leq_eq (l m:List UInt8):(less l m||l==m)= !less m l:=by
 cases h:less l m with
 |true=>rw[less_asymm h];rfl
 |false=>
  by_cases e:l=m
  ·subst e;rw[less_irrefl];simp
  ·rw[less_total h e]
   simpa using e
def encBs:List Int→List UInt8
 |[]=>[]
 |b::l=>enc b.toNat++encBs l
theorem encBs_append:∀l m:List Int,encBs (l++m)=encBs l++encBs m
 |[],m=>rfl
 |b::l,m=>by simp only[encBs,List.cons_append,encBs_append l m,List.append_assoc]
theorem encBs_take {l:List Int} {k:Nat} {b:Int} (h:l[k]?=some b):encBs (l.take (k+1))=encBs (l.take k)++enc b.toNat:=by
 rw[List.take_add_one,h,encBs_append]
 simp[encBs]
theorem encBs_length:∀l:List Int,l.length≤(encBs l).length
 |[]=>Nat.le_refl _
 |b::l=>by
  have:=encBs_length l
  have:=enc_pos b.toNat
  simp only[encBs,List.length_append,List.length_cons];omega
def encNs:List Nat→List UInt8
 |[]=>[]
 |b::l=>enc b++encNs l
theorem encNs_append:∀l m:List Nat,encNs (l++m)=encNs l++encNs m
 |[],m=>rfl
 |b::l,m=>by simp only[encNs,List.cons_append,encNs_append l m,List.append_assoc]
theorem encNs_take {l:List Nat} {k:Nat} {b:Nat} (h:l[k]?=some b):encNs (l.take (k+1))=encNs (l.take k)++enc b:=by
 rw[List.take_add_one,h,encNs_append]
 simp[encNs]
theorem encNs_ten:∀l:List Nat,(∀x∈l,x<18446744073709551616)→(encNs l).length≤10*l.length
 |[],_=>Nat.le_refl _
 |b::l,h=>by
  have:=encNs_ten l (fun x hx=>h x (by simp[hx]))
  have:=enc_ten (h b (by simp))
  simp only[encNs,List.length_append,List.length_cons];omega
def encF (f:FileD):List UInt8:=enc f.name.length++(f.name++(enc f.id++(enc f.size.toNat++encBs f.blocks)))
def encFs:List FileD→List UInt8
 |[]=>[]
 |f::l=>encF f++encFs l
theorem encFs_append:∀l m:List FileD,encFs (l++m)=encFs l++encFs m
 |[],m=>rfl
 |b::l,m=>by simp only[encFs,List.cons_append,encFs_append l m,List.append_assoc]
theorem encFs_take {l:List FileD} {k:Nat} {f:FileD} (h:l[k]?=some f):encFs (l.take (k+1))=encFs (l.take k)++encF f:=by
 rw[List.take_add_one,h,encFs_append]
 simp[encFs]
theorem encF_length (f:FileD):3≤(encF f).length∧f.name.length≤(encF f).length∧f.blocks.length≤(encF f).length:=by
 have h1:=enc_pos f.name.length
 have h2:=enc_pos f.id
 have h3:=enc_pos f.size.toNat
 have h4:=encBs_length f.blocks
 unfold encF
 simp only[List.length_append]
 omega
theorem encFs_mem:∀{l:List FileD} {f:FileD},f∈l→(encF f).length≤(encFs l).length
 |g::l,f,h=>by
  rw[encFs,List.length_append]
  rcases List.mem_cons.1 h with rfl|h
  ·omega
  ·have:=encFs_mem h;omega
theorem encFs_length:∀l:List FileD,3*l.length≤(encFs l).length
 |[]=>Nat.le_refl _
 |f::l=>by
  have h1:=encFs_length l
  have h2:=(encF_length f).1
  rw[encFs,List.length_append,List.length_cons];omega
theorem encFs_le {l:List FileD} (k:Nat):(encFs (l.take k)).length≤(encFs l).length:=by
 have h:encFs l=encFs (l.take k)++encFs (l.drop k):=by rw[←encFs_append,List.take_append_drop]
 rw[h,List.length_append];omega
def body (m:ManD):List UInt8:=enc m.version++(enc m.next++(enc m.files.length++encFs m.files))
theorem body_length (m:ManD):(encFs m.files).length+3≤(body m).length:=by
 have h1:=enc_pos m.version
 have h2:=enc_pos m.next
 have h3:=enc_pos m.files.length
 unfold body
 simp only[List.length_append]
 omega
structure WfF (f:FileD):Prop where
 id:f.id<4294967296
 low:-9223372036854775808≤f.size
 high:f.size≤9223372036854775807
 blocks:∀b∈f.blocks,-9223372036854775808≤b∧b≤9223372036854775807
structure Wf (m:ManD):Prop where
 version:m.version<18446744073709551616
 next:m.next<4294967296
 files:∀f∈m.files,WfF f
structure PosF (f:FileD):Prop where
 size:0≤f.size
 blocks:∀b∈f.blocks,0≤b
def allBlocks (l:List FileD):List Int:=l.flatMap (·.blocks)
theorem allBlocks_append (l m:List FileD):allBlocks (l++m)=allBlocks l++allBlocks m:=by simp[allBlocks]
theorem allBlocks_snoc (l:List FileD) (f:FileD):allBlocks (l++[f])=allBlocks l++f.blocks:=by simp[allBlocks]
def NamesOk (l:List FileD):Prop:=(∀f∈l,1≤f.name.length∧f.name.length≤32)∧l.Pairwise fun f g=>less f.name g.name=true
def IdsOk (next:Nat) (l:List FileD):Prop:=(∀f∈l,f.id<next)∧(l.map (·.id)).Nodup
def BlkOk (f:FileD):Prop:=0≤f.size∧manyZ f.size=f.blocks.length∧∀b∈f.blocks,32≤b∧b<65536
def BlocksOk (l:List FileD):Prop:=(∀f∈l,BlkOk f)∧(allBlocks l).Nodup
def Good (next:Nat) (l:List FileD):Prop:=NamesOk l∧IdsOk next l∧BlocksOk l
def Fit (m:ManD):Prop:=Good m.next m.files∧(body m).length≤2035
theorem take_snoc {α:Type} {l:List α} {k:Nat} {x:α} (h:l[k]?=some x):l.take (k+1)=l.take k++[x]:=by rw[List.take_add_one,h];rfl
theorem pairwise_snoc {α:Type} {R:α→α→Prop} {l:List α} {x:α}:(l++[x]).Pairwise R↔l.Pairwise R∧∀y∈l,R y x:=by
 rw[List.pairwise_append]
 simp
theorem nodup_snoc {α:Type} {l:List α} {x:α}:(l++[x]).Nodup↔l.Nodup∧x∉l:=by
 rw[List.nodup_append]
 simp
 intro _
 exact ⟨fun h hx=>h x hx rfl,fun h y hy e=>h (e▸hy)⟩
def lastName (l:List FileD):List UInt8:=(l.getLast?.map (·.name)).getD []
theorem lastName_snoc (l:List FileD) (f:FileD):lastName (l++[f])=f.name:=by simp[lastName]
theorem names_last {l:List FileD} (h:NamesOk l):∀g∈l,less g.name (lastName l)=true∨g.name=lastName l:=by
 intro g hg
 rcases List.eq_nil_or_concat l with rfl|⟨l',f,rfl⟩
 ·cases hg
 ·rw[List.concat_eq_append] at hg h ⊢
  rw[lastName_snoc]
  rcases List.mem_append.1 hg with hg|hg
  ·exact .inl ((pairwise_snoc.1 h.2).2 g hg)
  ·simp at hg;subst hg;exact .inr rfl
theorem names_snoc {l:List FileD} {f:FileD} (h:NamesOk l):NamesOk (l++[f])↔less (lastName l) f.name=true∧f.name.length≤32:=by
 constructor
 ·rintro ⟨h1,h2⟩
  have hf:=h1 f (by simp)
  refine ⟨?_,hf.2⟩
  rcases List.eq_nil_or_concat l with rfl|⟨l',g,rfl⟩
  ·exact nil_less (fun e=>by rw[e] at hf;simp at hf)
  ·rw[List.concat_eq_append] at h2 ⊢
   rw[lastName_snoc]
   exact (pairwise_snoc.1 h2).2 g (by simp)
 ·rintro ⟨h1,h2⟩
  refine ⟨fun g hg=>?_,pairwise_snoc.2 ⟨h.2,fun g hg=>?_⟩⟩
  ·rcases List.mem_append.1 hg with hg|hg
   ·exact h.1 g hg
   ·simp at hg;subst hg
    refine ⟨?_,h2⟩
    cases hn:g.name with
    |nil=>rw[hn,less_nil] at h1;cases h1
    |cons a t=>simp
  ·rcases names_last h g hg with h3|h3
   ·exact less_trans h3 h1
   ·rw[h3];exact h1
theorem NamesOk.take {l:List FileD} (h:NamesOk l) (k:Nat):NamesOk (l.take k):=⟨fun f hf=>h.1 f (List.mem_of_mem_take hf),h.2.sublist (List.take_sublist _ _)⟩
theorem IdsOk.take {n:Nat} {l:List FileD} (h:IdsOk n l) (k:Nat):IdsOk n (l.take k):=⟨fun f hf=>h.1 f (List.mem_of_mem_take hf),h.2.sublist ((List.take_sublist _ _).map _)⟩
theorem BlocksOk.take {l:List FileD} (h:BlocksOk l) (k:Nat):BlocksOk (l.take k):=by
 refine ⟨fun f hf=>h.1 f (List.mem_of_mem_take hf),?_⟩
 have e:allBlocks l=allBlocks (l.take k)++allBlocks (l.drop k):=by rw[←allBlocks_append,List.take_append_drop]
 have:=h.2
 rw[e,List.nodup_append] at this
 exact this.1
theorem Good.take {n:Nat} {l:List FileD} (h:Good n l) (k:Nat):Good n (l.take k):=⟨h.1.take k,h.2.1.take k,h.2.2.take k⟩
structure RefOk (next:Nat) (pre:List FileD) (f:FileD):Prop where
 name:1≤f.name.length∧f.name.length≤32
 id:f.id<next
 blk:0≤f.size∧manyZ f.size=f.blocks.length
 ahead:∀g∈pre,g.id≠f.id∧less g.name f.name=true
 range:∀b∈f.blocks,32≤b∧b<65536
 nodup:f.blocks.Nodup
 apart:∀b∈f.blocks,∀g∈pre,b∉g.blocks
theorem good_nil (n:Nat):Good n []:=⟨⟨fun f h=>(by cases h),.nil⟩,⟨fun f h=>(by cases h),by simp⟩,⟨fun f h=>(by cases h),by simp[allBlocks]⟩⟩
theorem good_pos {n:Nat} {l:List FileD} (h:Good n l):∀f∈l,PosF f:=fun f hf=>⟨(h.2.2.1 f hf).1,fun b hb=>by have:=((h.2.2.1 f hf).2.2 b hb).1;omega⟩
end Go.Proofs.YtcdkopbjlakebaaGreatDoor.Mf
namespace Go.Proofs.YtcdkopbjlakebaaGreatDoor.Mf
open Va Fr
def numO (most:Nat) (l:List UInt8):Option (Nat×List UInt8):=if (numOf l 0 most).2.2=0 then some ((numOf l 0 most).1,(numOf l 0 most).2.1) else none
theorem numO_some {most x:Nat} {l l':List UInt8} (h:numOf l 0 most=(x,l',0)):numO most l=some (x,l'):=by unfold numO;rw[h];rfl
theorem numO_none {most x:Nat} {l l':List UInt8} {e:Int} (h:numOf l 0 most=(x,l',e)) (he:e≠0):numO most l=none:=by unfold numO;rw[h];exact if_neg he
theorem numO_stood {most x:Nat} {l l':List UInt8} (h:numO most l=some (x,l')):l=enc x++l'∧x≤most∧x<18446744073709551616:=by
 unfold numO at h
 split at h
 ·rename_i he
  injection h with h
  injection h with h1 h2
  subst h1 h2
  have e:numOf l 0 most=((numOf l 0 most).1,(numOf l 0 most).2.1,(numOf l 0 most).2.2):=rfl
  rw[he] at e
  exact ⟨numOf_stood e,numOf_most l 0 most,numOf_fits l 0 most⟩
 ·cases h
theorem numO_put {x most:Nat} (r:List UInt8) (h:x<18446744073709551616) (hm:x≤most):numO most (enc x++r)=some (x,r):=numO_some (read_num r h most hm)
def parseB (mb:Nat):Nat→List Int→List UInt8→Option (List Int×List UInt8)
 |0,acc,l=>some (acc,l)
 |k+1,acc,l=>match numO mb l with
  |none=>none
  |some (x,l1)=>parseB mb k (acc++[(x:Int)]) l1
theorem parseB_stood (mb:Nat):∀(k:Nat) (acc:List Int) (l:List UInt8) (out:List Int) (l':List UInt8),parseB mb k acc l=some (out,l') →
 ∃r,out=acc++r∧r.length=k∧l=encBs r++l'∧∀x∈r,0≤x∧x≤mb
 |0,acc,l,out,l',h=>by
  rw[parseB] at h
  injection h with h
  injection h with h1 h2
  subst h1 h2
  exact ⟨[],by simp,rfl,rfl,fun x hx=>(by cases hx)⟩
 |k+1,acc,l,out,l',h=>by
  rw[parseB] at h
  split at h
  ·cases h
  ·rename_i x l1 hx
   obtain ⟨e1,e2,-⟩:=numO_stood hx
   obtain ⟨r,h1,h2,h3,h4⟩:=parseB_stood mb k _ _ _ _ h
   refine ⟨(x:Int)::r,by rw[h1];simp,by simp[h2],?_,fun y hy=>?_⟩
   ·rw[e1,h3]
    simp[encBs]
   ·rcases List.mem_cons.1 hy with rfl|hy
    ·omega
    ·exact h4 y hy
theorem parseB_put (mb:Nat) (hmb:mb<18446744073709551616):∀(r acc:List Int) (l':List UInt8),(∀x∈r,0≤x∧x≤mb)→parseB mb r.length acc (encBs r++l')=some (acc++r,l')
 |[],acc,l',_=>by simp[parseB,encBs]
 |x::r,acc,l',h=>by
  have hx:=h x (by simp)
  rw[List.length_cons,parseB,encBs,List.append_assoc,numO_put _ (by omega) (by omega)]
  simp only
  rw[parseB_put mb hmb r _ l' (fun y hy=>h y (by simp[hy]))]
  have e:((x.toNat:Nat):Int)=x:=by omega
  rw[e]
  simp
def parseF (ms mb:Nat) (l:List UInt8):Option (FileD×List UInt8):=match numO 32 l with
 |none=>none
 |some (n,l1)=>if l1.length<n then none else match numO 4294967295 (l1.drop n) with
  |none=>none
  |some (id,l2)=>match numO ms l2 with
   |none=>none
   |some (sz,l3)=>match parseB mb (manyZ (sz:Int)).toNat [] l3 with
    |none=>none
    |some (bs,l4)=>some (⟨l1.take n,id,(sz:Int),bs⟩,l4)
structure CapF (ms mb:Nat) (f:FileD):Prop where
 name:f.name.length≤32
 id:f.id<4294967296
 size:0≤f.size∧f.size≤ms
 many:(manyZ f.size).toNat=f.blocks.length
 blocks:∀x∈f.blocks,0≤x∧x≤mb
theorem parseF_stood {ms mb:Nat} {l l':List UInt8} {f:FileD} (h:parseF ms mb l=some (f,l')):l=encF f++l'∧CapF ms mb f:=by
 unfold parseF at h
 split at h
 ·cases h
 rename_i n l1 h1
 obtain ⟨a1,a2,-⟩:=numO_stood h1
 split at h
 ·cases h
 rename_i hn
 split at h
 ·cases h
 rename_i id l2 h2
 obtain ⟨b1,b2,-⟩:=numO_stood h2
 split at h
 ·cases h
 rename_i sz l3 h3
 obtain ⟨c1,c2,-⟩:=numO_stood h3
 split at h
 ·cases h
 rename_i bs l4 h4
 obtain ⟨r,d1,d2,d3,d4⟩:=parseB_stood _ _ _ _ _ _ h4
 injection h with h
 injection h with e1 e2
 subst e1 e2
 rw[List.nil_append] at d1
 subst d1
 have hlen:(l1.take n).length=n:=by rw[List.length_take];omega
 refine ⟨?_,⟨by simp only;omega,by simp only;omega,by simp only;omega,by simp only;omega,d4⟩⟩
 unfold encF
 simp only
 rw[hlen]
 have e:((sz:Int)).toNat=sz:=by omega
 rw[e,a1]
 simp only[List.append_assoc]
 congr 1
 rw[←d3,←c1,←b1,List.take_append_drop]
theorem parseF_put {ms mb:Nat} (hms:ms<18446744073709551616) (hmb:mb<18446744073709551616) {f:FileD} (hc:CapF ms mb f) (l':List UInt8):parseF ms mb (encF f++l')=some (f,l'):=by
 obtain ⟨h1,h2,h3,h4,h5⟩:=hc
 unfold parseF encF
 simp only[List.append_assoc]
 rw[numO_put _ (by omega) h1]
 simp only
 rw[if_neg (by simp only[List.length_append];omega),List.drop_left,numO_put _ (by omega) (by omega)]
 simp only
 rw[numO_put _ (by omega) (by omega)]
 simp only
 have e:((f.size.toNat:Nat):Int)=f.size:=by omega
 rw[e,h4,parseB_put mb hmb _ _ _ h5]
 simp only[List.take_left,List.nil_append]
def parseFs (ms mb:Nat):Nat→List FileD→List UInt8→Option (List FileD×List UInt8)
 |0,acc,l=>some (acc,l)
 |k+1,acc,l=>match parseF ms mb l with
  |none=>none
  |some (f,l1)=>parseFs ms mb k (acc++[f]) l1
theorem parseFs_stood (ms mb:Nat):∀(k:Nat) (acc:List FileD) (l:List UInt8) (out:List FileD) (l':List UInt8),parseFs ms mb k acc l=some (out,l') →
 ∃r,out=acc++r∧r.length=k∧l=encFs r++l'∧∀x∈r,CapF ms mb x
 |0,acc,l,out,l',h=>by
  rw[parseFs] at h
  injection h with h
  injection h with h1 h2
  subst h1 h2
  exact ⟨[],by simp,rfl,rfl,fun x hx=>(by cases hx)⟩
 |k+1,acc,l,out,l',h=>by
  rw[parseFs] at h
  split at h
  ·cases h
  ·rename_i x l1 hx
   obtain ⟨e1,e2⟩:=parseF_stood hx
   obtain ⟨r,h1,h2,h3,h4⟩:=parseFs_stood ms mb k _ _ _ _ h
   refine ⟨x::r,by rw[h1];simp,by simp[h2],?_,fun y hy=>?_⟩
   ·rw[e1,h3]
    simp[encFs]
   ·rcases List.mem_cons.1 hy with rfl|hy
    ·exact e2
    ·exact h4 y hy
theorem parseFs_put (ms mb:Nat) (hms:ms<18446744073709551616) (hmb:mb<18446744073709551616):∀(r acc:List FileD) (l':List UInt8),(∀x∈r,CapF ms mb x)→parseFs ms mb r.length acc (encFs r++l')=some (acc++r,l')
 |[],acc,l',_=>by simp[parseFs,encFs]
 |x::r,acc,l',h=>by
  rw[List.length_cons,parseFs,encFs,List.append_assoc,parseF_put hms hmb (h x (by simp))]
  simp only
  rw[parseFs_put ms mb hms hmb r _ l' (fun y hy=>h y (by simp[hy]))]
  simp
def parseM (mn ms mb:Nat) (l:List UInt8):Option (ManD×List UInt8):=match numO 18446744073709551615 l with
 |none=>none
 |some (v,l1)=>match numO 4294967295 l1 with
  |none=>none
  |some (x,l2)=>match numO mn l2 with
   |none=>none
   |some (n,l3)=>match parseFs ms mb n [] l3 with
    |none=>none
    |some (fs,l4)=>some (⟨v,x,fs⟩,l4)
structure Cap (mn ms mb:Nat) (m:ManD):Prop where
 version:m.version<18446744073709551616
 next:m.next<4294967296
 count:m.files.length≤mn∧m.files.length<18446744073709551616
 files:∀f∈m.files,CapF ms mb f
theorem parseM_stood {mn ms mb:Nat} {l l':List UInt8} {m:ManD} (h:parseM mn ms mb l=some (m,l')):l=body m++l'∧Cap mn ms mb m:=by
 unfold parseM at h
 split at h
 ·cases h
 rename_i v l1 h1
 obtain ⟨a1,a2,a3⟩:=numO_stood h1
 split at h
 ·cases h
 rename_i x l2 h2
 obtain ⟨b1,b2,b3⟩:=numO_stood h2
 split at h
 ·cases h
 rename_i n l3 h3
 obtain ⟨c1,c2,c3⟩:=numO_stood h3
 split at h
 ·cases h
 rename_i fs l4 h4
 obtain ⟨r,d1,d2,d3,d4⟩:=parseFs_stood _ _ _ _ _ _ _ h4
 injection h with h
 injection h with e1 e2
 subst e1 e2
 rw[List.nil_append] at d1
 subst d1
 refine ⟨?_,⟨a3,by simp only;omega,by simp only;omega,d4⟩⟩
 unfold body
 simp only[List.append_assoc]
 rw[d2,←d3,←c1,←b1,←a1]
theorem parseM_put {mn ms mb:Nat} (hms:ms<18446744073709551616) (hmb:mb<18446744073709551616) {m:ManD} (hc:Cap mn ms mb m) (l':List UInt8):parseM mn ms mb (body m++l')=some (m,l'):=by
 obtain ⟨h1,h2,h3,h4⟩:=hc
 unfold parseM body
 simp only[List.append_assoc]
 rw[numO_put _ h1 (by omega)]
 simp only
 rw[numO_put _ (by omega) (by omega)]
 simp only
 rw[numO_put _ h3.2 h3.1]
 simp only
 rw[parseFs_put ms mb hms hmb _ _ _ h4]
 simp
theorem many_size {z:Int} {k:Nat} (h:manyZ z=(k:Int)) (hk:k≤65536):z≤7340032:=by
 unfold manyZ at h
 split at h
 ·omega
 ·omega
theorem fit_cap {m:ManD} (hw:Wf m) (h:Fit m) {mn ms mb:Nat} (hmn:2048≤mn) (hms:7340032≤ms) (hmb:65535≤mb):Cap mn ms mb m:=by
 have hb:=h.2
 have h1:=body_length m
 have h2:=encFs_length m.files
 refine ⟨hw.version,hw.next,by omega,fun f hf=>?_⟩
 obtain ⟨p1,p2,p3⟩:=h.1.2.2.1 f hf
 have h3:=encFs_mem hf
 have h4:=(encF_length f).2.2
 have hsz:=many_size p2 (by omega)
 exact ⟨(h.1.1.1 f hf).2,(hw.files f hf).id,⟨p1,by omega⟩,by omega,fun x hx=>by have:=p3 x hx;omega⟩
theorem cap_wf {m:ManD} {mn ms mb:Nat} (hms:ms≤9223372036854775807) (hmb:mb≤9223372036854775807) (h:Cap mn ms mb m):Wf m:=
 ⟨h.version,h.next,fun f hf=>⟨(h.files f hf).id,by have:=(h.files f hf).size;omega,by have:=(h.files f hf).size;omega,fun b hb=>by have:=(h.files f hf).blocks b hb;omega⟩⟩
def GetsM (b:List UInt8) (m:ManD):Prop:=(∃k,getS b=(⟨77,body m⟩,k,0))∧Fit m∧Wf m
theorem GetsM.one {b:List UInt8} {m m':ManD} (h:GetsM b m) (h':GetsM b m'):m=m':=by
 obtain ⟨⟨k,e1⟩,f1,w1⟩:=h
 obtain ⟨⟨k',e2⟩,f2,w2⟩:=h'
 rw[e1] at e2
 injection e2 with e2 _
 injection e2 with _ e2
 have p1:=parseM_put (mn:=2048) (ms:=7340032) (mb:=65536) (by decide) (by decide) (fit_cap w1 f1 (by decide) (by decide) (by decide)) []
 have p2:=parseM_put (mn:=2048) (ms:=7340032) (mb:=65536) (by decide) (by decide) (fit_cap w2 f2 (by decide) (by decide) (by decide)) []
 rw[e2,p2] at p1
 injection p1 with p1
 injection p1 with p1 _
 exact p1.symm
theorem gets_iff {b bd:List UInt8} {k:Nat} (hb:getS b=(⟨77,bd⟩,k,0)) {mn ms mb:Nat} (hmn:2048≤mn) (hms:7340032≤ms∧ms≤9223372036854775807) (hmb:65535≤mb∧mb≤9223372036854775807) (m:ManD) :
 GetsM b m↔parseM mn ms mb bd=some (m,[])∧Fit m:=by
 constructor
 ·rintro ⟨⟨k',e⟩,f,w⟩
  rw[hb] at e
  injection e with e _
  injection e with _ e
  have:=parseM_put (mn:=mn) (ms:=ms) (mb:=mb) (by omega) (by omega) (fit_cap w f hmn hms.1 hmb.1) []
  rw[List.append_nil,←e] at this
  exact ⟨this,f⟩
 ·rintro ⟨h,f⟩
  obtain ⟨e,hc⟩:=parseM_stood h
  rw[List.append_nil] at e
  exact ⟨⟨k,by rw[hb,e]⟩,f,cap_wf hms.2 hmb.2 hc⟩
end Go.Proofs.YtcdkopbjlakebaaGreatDoor.Mf
namespace Go.Proofs.YtcdkopbjlakebaaGreatDoor
open Go.RowKit Me
abbrev sv (b:List UInt8):Value:=.string ⟨b.toArray⟩
def icells (l:List Int):List Value:=l.map (Value.int .i64)
theorem icells_length (l:List Int):(icells l).length=l.length:=by simp[icells]
theorem icells_get {l:List Int} {i:Nat} {z:Int} (h:l[i]?=some z):(icells l)[i]?=some (.int .i64 z):=by simp[icells,h]
theorem icells_one (l:List Int):∀v∈icells l,v.oneCell'=true:=by
 intro v hv
 simp only[icells,List.mem_map] at hv
 obtain ⟨u,-,rfl⟩:=hv
 rfl
theorem icells_append (k m:List Int):icells (k++m)=icells k++icells m:=by simp[icells]
open Go.ChangeShapes Go.WideShapes
theorem sv_data (s:ByteArray):sv s.data.toList=.string s:=by obtain ⟨⟨l⟩⟩:=s;rfl
end Go.Proofs.YtcdkopbjlakebaaGreatDoor
namespace Go.Proofs.YtcdkopbjlakebaaGreatDoor
open Go.RowKit Me Mf
def FAt (w:World) (B:Nat) (x:Addr) (f:FileD):Prop:=∃A n c,w.cell? x=some (sv f.name)∧w.cell? ⟨x.block,x.off+1,none⟩=some (.int .u32 (f.id:Int))∧w.cell? ⟨x.block,x.off+2,none⟩=some (.int .i64 f.size) ∧
 w.cell? ⟨x.block,x.off+3,none⟩=some (.slice A n c)∧f.blocks.length=n∧n≤c∧n≤9223372036854775807∧Cs w B A (icells f.blocks)
def Files (w:World) (B:Nat) (L:Option Addr) (l:List FileD):Prop:=0<l.length→∃a,L=some a∧a.block<B∧∀i f,l[i]?=some f→FAt w B (a.add (i*4)) f
section
variable {w w':World} {B B':Nat} {L:Option Addr} {l:List FileD}
theorem FAt.below {x:Addr} {f:FileD} (h:FAt w B x f) (hx:x.block<B) (hb:Below B w w'):FAt w' B x f:=by
 obtain ⟨A,n,c,h1,h2,h3,h4,h5,h6,h7,h8⟩:=h
 exact ⟨A,n,c,(hb.cell hx).trans h1,(hb.cell (p:=⟨x.block,x.off+1,none⟩) hx).trans h2,(hb.cell (p:=⟨x.block,x.off+2,none⟩) hx).trans h3,(hb.cell (p:=⟨x.block,x.off+3,none⟩) hx).trans h4,h5,h6,h7,h8.below hb⟩
theorem FAt.more {x:Addr} {f:FileD} (h:FAt w B x f) (hB:B≤B'):FAt w B' x f:=by
 obtain ⟨A,n,c,h1,h2,h3,h4,h5,h6,h7,h8⟩:=h
 exact ⟨A,n,c,h1,h2,h3,h4,h5,h6,h7,h8.more hB⟩
theorem Files.empty:Files w B L []:=fun h=>by simp at h
theorem Files.below (h:Files w B L l) (hb:Below B w w'):Files w' B L l:=fun hn=>by
 obtain ⟨a,rfl,h1,hc⟩:=h hn
 exact ⟨a,rfl,h1,fun i p hp=>(hc i p hp).below (by rw[block_add];exact h1) hb⟩
theorem Files.more (h:Files w B L l) (hB:B≤B'):Files w B' L l:=fun hn=>by
 obtain ⟨a,rfl,h1,hc⟩:=h hn
 exact ⟨a,rfl,by omega,fun i p hp=>(hc i p hp).more hB⟩
theorem Files.past (h:Files w w.heap.size L l) (hb:Below w.heap.size w w'):Files w' w'.heap.size L l:=(h.below hb).more hb.size
theorem Files.at (h:Files w B L l) {i:Nat} (hi:i<l.length):∃a f,L=some a∧a.block<B∧l[i]?=some f∧FAt w B (a.add (i*4)) f:=by
 obtain ⟨a,e,h1,hc⟩:=h (by omega)
 exact ⟨a,l[i],e,h1,List.getElem?_eq_getElem hi,hc i _ (List.getElem?_eq_getElem hi)⟩
theorem Files.get (h:Files w B L l) {i:Nat} {f:FileD} (hf:l[i]?=some f):∃a,L=some a∧a.block<B∧FAt w B (a.add (i*4)) f:=by
 have hi:i<l.length:=(List.getElem?_eq_some_iff.1 hf).1
 obtain ⟨a,e,h1,hc⟩:=h (by omega)
 exact ⟨a,e,h1,hc i _ hf⟩
end
abbrev mval (v x:Nat) (A:Option Addr) (n c:Nat):Value:=.agg #[.int .u64 (v:Int),.int .u32 (x:Int),.slice A n c]
structure ManAt (w:World) (B:Nat) (A:Option Addr) (n c:Nat) (m:ManD):Prop where
 files:Files w B A m.files
 len:m.files.length=n
 cap:n≤c
 most:n≤9223372036854775807
 wf:Wf m
section
variable {w w':World} {B B':Nat} {A:Option Addr} {n c:Nat} {m:ManD}
theorem ManAt.below (h:ManAt w B A n c m) (hb:Below B w w'):ManAt w' B A n c m:={h with files:=h.files.below hb}
theorem ManAt.more (h:ManAt w B A n c m) (hB:B≤B'):ManAt w B' A n c m:={h with files:=h.files.more hB}
theorem ManAt.past (h:ManAt w w.heap.size A n c m) (hb:Below w.heap.size w w'):ManAt w' w'.heap.size A n c m:=(h.below hb).more hb.size
theorem wf_none:Wf noMan:=⟨by decide,by decide,fun f h=>(by cases h)⟩
theorem ManAt.none (w:World) (B:Nat):ManAt w B Option.none 0 0 noMan:=⟨Files.empty,rfl,Nat.le_refl _,by omega,wf_none⟩
abbrev ManK (T:Nat→Prop) (A:Option Addr) (n c:Nat) (m:ManD) (w:World):Prop:=Kk T (fun W=>ManAt W W.heap.size A n c m) w
theorem ManK.none (T:Nat→Prop) (w:World):ManK T Option.none 0 0 noMan w:=fun _ _=>ManAt.none _ _
end
def MAt (w:World) (B:Nat) (x:Addr) (m:ManD):Prop:=∃A n c,w.cell? x=some (.int .u64 (m.version:Int))∧w.cell? ⟨x.block,x.off+1,none⟩=some (.int .u32 (m.next:Int))∧w.cell? ⟨x.block,x.off+2,none⟩=some (.slice A n c)∧ManAt w B A n c m
def Mans (w:World) (B:Nat) (L:Option Addr) (l:List ManD):Prop:=0<l.length→∃a,L=some a∧a.block<B∧∀i m,l[i]?=some m→MAt w B (a.add (i*3)) m
theorem Mans.below {w w':World} {B:Nat} {L:Option Addr} {l:List ManD} (h:Mans w B L l) (hb:Below B w w'):Mans w' B L l:=fun hn=>by
 obtain ⟨a,rfl,h1,hc⟩:=h hn
 refine ⟨a,rfl,h1,fun i p hp=>?_⟩
 have hx:(a.add (i*3)).block<B:=by rw[block_add];exact h1
 obtain ⟨A,n,c,g0,g1,g2,g3⟩:=hc i p hp
 exact ⟨A,n,c,(hb.cell hx).trans g0,(hb.cell (p:=⟨_,_,none⟩) hx).trans g1,(hb.cell (p:=⟨_,_,none⟩) hx).trans g2,g3.below hb⟩
open Go.ChangeShapes Go.WideShapes
variable {H:Type} {enc:TypeId×Value→H} {W:World}
end Go.Proofs.YtcdkopbjlakebaaGreatDoor
end
