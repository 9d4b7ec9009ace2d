/- Texts put together, for a law: Crcs. -/
import Derived.RowKit
import Derived.Laws.BitsAllLaws
import Derived.Deep.WholeRow
import Derived.Deep.QuietTactic
import Derived.Lib.SliceRun
import Derived.Deep.RegionWith
import Derived.Test.YtcdkopbjlakebaaGreatDoorKP3
import Derived.Test.YtcdkopbjlakebaaGreatDoorKP2
set_option maxRecDepth 100000
set_option maxHeartbeats 8000000
namespace Go.Proofs.YtcdkopbjlakebaaGreatDoor
section
namespace Cr
abbrev Reg:=BitVec 32
def poly:Reg:=3988292384#32
def sh (r:Reg):Reg:=(r >>> 1) ^^^ (if r.getLsbD 0 then poly else 0#32)
def shN:Nat->Reg->Reg
 |0,r=>r
 |n+1,r=>shN n (sh r)
def bit (b:Bool):Reg:=if b then 1#32 else 0#32
theorem zmb (a b:Reg):sh (a ^^^ b)=sh a ^^^ sh b:=by
 unfold sh;rw[BitVec.ushiftRight_xor_distrib,BitVec.getLsbD_xor]
 generalize a >>> 1=x
 generalize b >>> 1=y
 cases a.getLsbD 0<;>cases b.getLsbD 0
 ·simp
 ·simp[BitVec.xor_assoc]
 ·simp
  rw[BitVec.xor_assoc,BitVec.xor_comm y poly,<-BitVec.xor_assoc]
 ·simp
  rw[BitVec.xor_assoc,<-BitVec.xor_assoc poly,BitVec.xor_comm poly y,BitVec.xor_assoc,BitVec.xor_self]
  simp
theorem zdQ:∀(n:Nat) (a b:Reg),shN n (a ^^^ b)=shN n a ^^^ shN n b
 |0,_,_=>rfl
 |n+1,a,b=>by rw[shN,shN,shN,zmb,zdQ n]
theorem Z9:∀(n:Nat) (a:Reg),shN (n+1) a=sh (shN n a)
 |0,_=>rfl
 |n+1,a=>by rw[shN,Z9 n,shN]
theorem zmc {x:Reg} (h:x.getLsbD 31=false):sh (x <<< 1)=x:=by
 unfold sh;have h0:(x <<< 1).getLsbD 0=false:=by simp
 rw[h0];simp only[Bool.false_eq_true,if_false,BitVec.xor_zero]
 apply BitVec.eq_of_getLsbD_eq
 intro i hi;rw[BitVec.getLsbD_ushiftRight,BitVec.getLsbD_shiftLeft]
 by_cases h31:i=31
 ·subst h31;rw[h];simp
 ·have:1+i<32:=by omega
  simp[this]
def low (w:Reg):Nat->Reg
 |0=>0#32
 |k+1=>low w k ^^^ (bit (w.getLsbD k) <<< k)
def upd (r:Reg) (x:UInt8):Reg:=shN 8 (r ^^^ BitVec.ofNat 32 x.toNat)
def Xx (l:List UInt8):Reg:=l.foldl upd 4294967295#32
def crc (l:List UInt8):Reg:= ~~~ Xx l
theorem zej (l:List UInt8) (x:UInt8):Xx (l++[x])=upd (Xx l) x:=by unfold Xx;simp
theorem zkD (x:UInt8) (i:Nat):(BitVec.ofNat 32 x.toNat).getLsbD i=x.toNat.testBit i:=by
 have hx:x.toNat<256:=x.toNat_lt;rw[BitVec.getLsbD_ofNat]
 by_cases h:i<32
 ·simp[h]
 ·have:x.toNat.testBit i=false:=Nat.testBit_lt_two_pow (Nat.lt_of_lt_of_le hx (by
   calc 256=2^8:=rfl
    _<=2^i:=Nat.pow_le_pow_right (by omega) (by omega)))
  simp[this]
theorem ziK (x:UInt8) {i:Nat} (h:8<=i):x.toNat.testBit i=false:=by
 have hx:x.toNat<256:=x.toNat_lt;exact Nat.testBit_lt_two_pow (Nat.lt_of_lt_of_le hx (by
  calc 256=2^8:=rfl
   _<=2^i:=Nat.pow_le_pow_right (by omega) h))
def four (w:Reg):List UInt8:=[UInt8.ofNat w.toNat,UInt8.ofNat (w.toNat / 256),UInt8.ofNat (w.toNat / 65536),UInt8.ofNat (w.toNat / 16777216)]
def mark (l:List UInt8):List UInt8:=l++four (crc l)
theorem zO (l:List UInt8):(mark l).length=l.length+4:=by simp[mark,four]
end Cr
section
open Go.RowKit Cr Me
theorem Qm (r:Reg):(0:Int)<=(r.toNat:Int)/\(r.toNat:Int)<4294967296:=⟨by omega,by have:=r.isLt;omega⟩
theorem XF (a b:Reg):bits .xor .u32 (a.toNat:Int) (b.toNat:Int)=((a ^^^ b).toNat:Int):=by
 rw[u32_xor_nat _ _ a.isLt b.isLt,BitVec.toNat_xor]
theorem zi9 (a:Reg) (x:UInt8):bits .xor .u32 (a.toNat:Int) (x.toNat:Int)=((a ^^^ BitVec.ofNat 32 x.toNat).toNat:Int):=by
 rw[<-XF,BitVec.toNat_ofNat,Nat.mod_eq_of_lt (Nat.lt_trans x.toNat_lt (by decide))]
theorem not_xor (r:Reg):r ^^^ 4294967295#32= ~~~r:=by
 have e:(4294967295#32:Reg)=BitVec.allOnes 32:=rfl;rw[e,BitVec.xor_allOnes]
theorem zlz (r:Reg):bits .xor .u32 (r.toNat:Int) 4294967295=((~~~r).toNat:Int):=by
 rw[<-not_xor,<-XF];rfl
theorem zjX (r:Reg):bits .xor .u32 4294967295 (r.toNat:Int)=((~~~r).toNat:Int):=by
 rw[<-not_xor,BitVec.xor_comm,<-XF];rfl
theorem zhL (r:Reg):r.toNat%2=1↔r.getLsbD 0=true:=by
 show _↔r.toNat.testBit 0=true
 rw[Nat.testBit_zero]
 simp
theorem zkZ (r:Reg) (h:r.toNat%2=1):bits .xor .u32 ((r.toNat:Int) / 2) 3988292384=((sh r).toNat:Int):=by
 unfold sh;rw[if_pos ((zhL r).1 h),<-XF,BitVec.toNat_ushiftRight,Nat.shiftRight_eq_div_pow];rfl
theorem zhi (r:Reg) (h:¬r.toNat%2=1):(r.toNat:Int) / 2=((sh r).toNat:Int):=by
 unfold sh;rw[if_neg (fun e=>h ((zhL r).2 e)),BitVec.xor_zero,BitVec.toNat_ushiftRight,Nat.shiftRight_eq_div_pow];rfl
theorem zdX (A:Option Addr) (n c:Nat) (l:List UInt8) (w:World) (B:Nat) (hl:l.length=n) (hn:n<=9223372036854775807) (hr:Rd w B A l) :
 Calls Tryz.prog 179 #[.slice A n c] w fun e w'=>e=.returned (.int .u32 ((crc l).toNat:Int))/\w=w':=by
 have HL:=gI hl;have HR:=gI hr;clear hl hr
 go_enter Tryz.func179,Tryz.ntmps179
 go_wp2
 go_loop [3,8] (fun x i=>∃k:Nat,k<=n/\i=.int .i64 k/\∃r:Reg,Hid (r=Xx (l.take k))/\x=.int .u32 (r.toNat:Int)) (fun _ i=>n-(intOf i).toNat)
 case atStart=>exact ⟨0,Nat.zero_le _,rfl,4294967295#32,gI rfl,rfl⟩
 case round=>
  obtain ⟨k,hk,rfl,r,H,rfl⟩:=hrel
  by_cases hlt:k<n
  ·have hlt':k<l.length:=by rw[HL.out];exact hlt
   obtain ⟨a,u,rfl,-,hu,hc⟩:=HR.out.at hlt';have HU:=gI (yw hu);clear hu hlt';have hu256:=u.toNat_lt;have hr1:=Qm r
   go_wp2_with fail
   rw[zi9];obtain ⟨r0,hr0⟩:∃r0,r0=r ^^^ BitVec.ofNat 32 u.toNat:=⟨_,rfl⟩
   rw[<-hr0];have HR0:=gI hr0;clear hr0
   go_loop [3,5] (fun x i=>∃j:Nat,j<=8/\i=.int .i64 j/\∃s:Reg,Hid (s=shN j r0)/\x=.int .u32 (s.toNat:Int)) (fun _ i=>8-(intOf i).toNat)
   case atStart=>exact ⟨0,by omega,rfl,r0,gI rfl,rfl⟩
   case round=>
    obtain ⟨j,hj,rfl,s,HS,rfl⟩:=hrel;have hs1:=Qm s
    by_cases hj8:j<8
    ·by_cases hodd:s.toNat%2=1
     ·have ho:((s.toNat:Int)%2==1)=true:=by rw[beq_iff_eq];omega
      have HO:=gI hodd;clear hodd
      go_wp2
      go_round
      case rel=>exact ⟨j+1,by omega,by go_num,sh s,gI (by rw[Z9,HS.out]),by rw[zkZ s HO.out]⟩
      case measure=>simp[intOf];omega
     ·have ho:((s.toNat:Int)%2==1)=false:=by rw[beq_eq_false_iff_ne];omega
      have HO:=gI hodd;clear hodd
      go_wp2
      go_round
      case rel=>exact ⟨j+1,by omega,by go_num,sh s,gI (by rw[Z9,HS.out]),by rw[zhi s HO.out]⟩
      case measure=>simp[intOf];omega
    ·go_wp2
     go_round
     case rel=>exact ⟨k+1,by omega,by go_num,s,gI (by rw[HU.out,zej,<-H.out,upd,<-HR0.out,HS.out,show j=8 by omega]),rfl⟩
     case measure=>simp[intOf];omega
  ·go_wp2
   go_ret
   refine ⟨qK ?_,rfl⟩;have hk':k=l.length:=by rw[HL.out];omega
   rw[zlz,crc,H.out,hk',List.take_length]
end
section
open Go.RowKit Cr Me
theorem and_one (r:Reg):bits .and .u32 (r.toNat:Int) 1=((r.toNat%2:Nat):Int):=by
 have:=u32_and_nat r.toNat 1 r.isLt (by decide);rw[nat_mask1] at this;exact this
theorem zdP (r:Reg) (w:World) :
 Calls Tryz.prog 215 #[.int .u32 (r.toNat:Int)] w fun e w'=>e=.returned (.int .u32 ((shN 8 r).toNat:Int))/\w=w':=by
 go_enter Tryz.func215,Tryz.ntmps215
 go_wp2
 go_loop [0,4] (fun x i=>∃j:Nat,j<=8/\i=.int .i64 j/\∃s:Reg,Hid (s=shN j r)/\x=.int .u32 (s.toNat:Int)) (fun _ i=>8-(intOf i).toNat)
 case atStart=>exact ⟨0,by omega,rfl,r,gI rfl,rfl⟩
 case round=>
  obtain ⟨j,hj,rfl,s,HS,rfl⟩:=hrel;have hs1:=Qm s
  by_cases hj8:j<8
  ·by_cases hodd:s.toNat%2=1
   ·have ho:bits .and .u32 (s.toNat:Int) 1=1:=by rw[and_one,hodd];rfl
    have HO:=gI hodd;clear hodd
    go_wp2
    go_round
    case rel=>exact ⟨j+1,by omega,by go_num,sh s,gI (by rw[Z9,HS.out]),by rw[zkZ s HO.out]⟩
    case measure=>simp[intOf];omega
   ·have ho:bits .and .u32 (s.toNat:Int) 1=0:=by rw[and_one,show s.toNat%2=0 by omega];rfl
    have HO:=gI hodd;clear hodd
    go_wp2
    go_round
    case rel=>exact ⟨j+1,by omega,by go_num,sh s,gI (by rw[Z9,HS.out]),by rw[zhi s HO.out]⟩
    case measure=>simp[intOf];omega
  ·go_wp2
   go_ret
   exact ⟨qK (by rw[HS.out,show j=8 by omega]),rfl⟩
end
section
open Go.RowKit Cr Me
def yh:Array Value:=Array.replicate 256 (.int .u32 0)
theorem Y6:(Tryz.prog.info? 254).map (fun i=>(i.zero,i.size))=some (some (.agg yh),256):=by kernel_rfl
def effI (i:Nat):Int:=((shN 8 (BitVec.ofNat 32 i)).toNat:Int)
theorem zfH:yh[0]?=some (.int .u32 (effI 0)):=by kernel_rfl
def Eff (w wr:World) (m:Nat):Prop:=
 ∃cs:Array Value,cs.size=256/\wr=(w.alloc (.cells yh 254)).alloc (.cells cs 254)/\∀i,i<m->cs[i]?=some (.int .u32 (effI i))
theorem Eff.cells {w wr:World} {m i j:Nat} (h:Eff w wr m) (hi:i<m) (hj:j<256) :
 wr.cell? ⟨w.heap.size+1,i,none⟩=some (.int .u32 (effI i))/\(∃v,wr.cell? ⟨w.heap.size+1,j,none⟩=some v)/\wr.frozen? ⟨w.heap.size+1,j,none⟩=false:=by
 obtain ⟨cs,hs,rfl,hc⟩:=h;have hh:=heap_alloc_last (w.alloc (.cells yh 254)) (.cells cs 254);rw[show (w.alloc (.cells yh 254)).heap.size=w.heap.size+1 by simp] at hh;refine ⟨?_,⟨cs[j],?_⟩,?_⟩
 ·simp only[World.cell?,hh];simpa using hc i hi
 ·simp only[World.cell?,hh];simp[hs,hj]
 ·unfold World.frozen?;rw[hh];simp
theorem Eff.store {w wr:World} {m:Nat} (h:Eff w wr m) (hM:m<256) {x:Int} (hx:x=effI m):Eff w (wr.setCell ⟨w.heap.size+1,m,none⟩ (.int .u32 x)) (m+1):=by
 obtain ⟨cs,hs,rfl,hc⟩:=h;refine ⟨cs.setIfInBounds m (.int .u32 x),by simpa using hs,?_,fun i hi=>?_⟩
 ·have hsz:(w.alloc (.cells yh 254)).heap.size=w.heap.size+1:=by simp
  rw[<-hsz]
  generalize w.alloc (.cells yh 254)=u
  simp only[World.setCell,World.alloc]
  congr 1
  apply Array.ext_getElem?
  intro k;rw[Array.getElem?_modify]
  by_cases hk:u.heap.size=k
  ·subst hk;simp
  ·have hk':¬k=u.heap.size:=fun e=>hk e.symm
   simp[hk,hk',Array.getElem?_push]
 ·rw[Array.getElem?_setIfInBounds]
  by_cases h:m=i
  ·subst h;rw[if_pos rfl]
   by_cases h2:m<cs.size
   ·rw[if_pos h2,hx]
   ·exact absurd (by rw[hs];exact hM) h2
  ·rw[if_neg h];exact hc i (by omega)
theorem Eff.sum {t r:Nat} {f:Reg} (ht:t<=128) (hp:∃b,t=2^b) (hr:r<t) (hf:f=shN 8 (BitVec.ofNat 32 t)):bits .xor .u32 (effI r) (f.toNat:Int)=effI (t+r):=by
 unfold effI;rw[XF,hf,<-zdQ]
 congr 3
 apply BitVec.eq_of_toNat_eq
 rw[BitVec.toNat_xor,BitVec.toNat_ofNat,BitVec.toNat_ofNat,BitVec.toNat_ofNat,Nat.mod_eq_of_lt (by omega),Nat.mod_eq_of_lt (by omega),Nat.mod_eq_of_lt (by omega)];obtain ⟨b,rfl⟩:=hp;rw[Nat.xor_comm];have:=Nat.two_pow_add_eq_or_of_lt hr 1;rw[Nat.mul_one] at this;rw[this]
 apply Nat.eq_of_testBit_eq
 intro i;rw[Nat.testBit_xor,Nat.testBit_or,Nat.testBit_two_pow]
 by_cases h:b=i
 ·subst h;have:r.testBit b=false:=Nat.testBit_lt_two_pow hr;simp[this]
 ·simp[h]
theorem below_setCells {B:Nat} {a:World} (b:Nat):∀(vs:List Value) (o:Nat) {w:World},Below B a w->B<=b->Below B a (w.setCells b o vs)
 |[],_,_,h,_=>h
 |_::vs,o,_,h,hb=>below_setCells b vs (o+1) (h.setCell (p:=⟨b,o,none⟩) hb _) hb
theorem zeh (w:World) :
 Calls Tryz.prog 183 #[] w fun e w'=>∃cs,e=.returned (.agg cs)/\cs.size=256/\(∀i,i<256->cs[i]?=some (.int .u32 ((shN 8 (BitVec.ofNat 32 i)).toNat:Int)))/\Below w.heap.size w w':=by
 have hz:∀w,(zeroValue 254).run Tryz.prog w=.ok (.agg yh) w:=(zero_of_info Y6).1
 go_enter Tryz.func183,Tryz.ntmps183
 go_wp2
 go_loopw [6] (fun i wr=>∃b:Nat,b<=8/\i=.int .i64 b/\Hid (Eff w wr (2^b))) (fun i _=>8-(intOf i).toNat)
 case atStart=>exact ⟨0,by omega,rfl,gI ⟨yh,by simp[yh],rfl,fun i hi=>by
  have:i=0:=by simpa using hi
  subst this;exact zfH⟩⟩
 case round=>
  obtain ⟨b,hb,rfl,HE⟩:=hrel
  by_cases hlt:b<8
  ·obtain ⟨t,ht⟩:∃t,t=2^b:=⟨_,rfl⟩
   have ht1:1<=t:=by rw[ht];exact Nat.one_le_two_pow
   have ht128:t<=128:=by rw[ht];calc 2^b<=2^7:=Nat.pow_le_pow_right (by omega) (by omega)
    _=128:=rfl
   have HT:=gI ht;clear ht
   go_wp2_with fail
   rw[show wrap64 (2^b)=(t:Int) from by
    rw[HT.out];have e:((2^b:Nat):Int)=(2:Int)^b:=by simp
    rw[<-e,<-HT.out];unfold wrap64;omega]
   rw[show (t:Int)%4294967296=((BitVec.ofNat 32 t).toNat:Int) from by rw[BitVec.toNat_ofNat];omega];refine (zdP _ _).mono ?_;rintro e w' ⟨rfl,rfl⟩;obtain ⟨f,hf⟩:∃f,f=shN 8 (BitVec.ofNat 32 t):=⟨_,rfl⟩
   rw[<-hf];have HF:=gI hf;clear hf;rw[HT.out.symm] at HE
   go_wp2
   go_loopw [15] (fun i wr=>∃r:Nat,r<=t/\i=.int .i64 r/\Hid (Eff w wr (t+r))) (fun i _=>t-(intOf i).toNat)
   case atStart=>exact ⟨0,by omega,rfl,HE⟩
   case round=>
    obtain ⟨r,hr,rfl,HE2⟩:=hrel
    by_cases hrt:r<t
    ·obtain ⟨c1,⟨v0,c2⟩,c3⟩:=HE2.out.cells (i:=r) (j:=t+r) (by omega) (by omega);have hf1:=Qm f
     go_wp2
     go_roundw
     case rel=>exact ⟨r+1,by omega,by go_num,gI (HE2.out.store (by omega) (Eff.sum ht128 ⟨b,HT.out⟩ hrt HF.out))⟩
     case measure=>simp[intOf];omega
    ·go_wp2
     go_roundw
     case rel=>exact ⟨b+1,by omega,by go_num,gI (by have e:t+r=2^(b+1):=by rw[Nat.pow_succ,<-HT.out];omega
                                                    rw[<-e];exact HE2.out)⟩
     case measure=>simp[intOf];omega
  ·have hb8:b=8:=by omega
   subst hb8;obtain ⟨cs,hs,hW,hc⟩:=HE.out;have hsz:(Tryz.prog.info? 254).map (·.size)=some cs.size:=by rw[hs];exact (zero_of_info Y6).2
   have hrange:wr.rangeAt (w.heap.size+1) 0 cs.toList:=fun j v hv=>by
    have hh:=heap_alloc_last (w.alloc (.cells yh 254)) (.cells cs 254);rw[show (w.alloc (.cells yh 254)).heap.size=w.heap.size+1 by simp,<-hW] at hh;simp only[World.cell?,hh]
    simpa using hv
   have hthere:wr.there w.heap.size 0 cs.toList.length:=fun j hj=>by
    have hh:wr.heap[w.heap.size]?=some (.cells yh 254):=by
     rw[hW,Below.heap_alloc _ _ _ (by simp)];exact heap_alloc_last w _
    have hj':j<256:=by simpa [hs] using hj
    refine ⟨?_,?_⟩
    ·simp only[World.cell?,hh];simp[yh,hj']
    ·unfold World.frozen?;rw[hh];simp
   have hone:cs.all (·.oneCell')=true:=Array.all_eq_true_iff_forall_mem.2 fun v hv=>by
    obtain ⟨i,hi,rfl⟩:=Array.mem_iff_getElem.1 hv;have:=hc i (by rw[hs] at hi;simpa using hi);rw[Array.getElem?_eq_getElem hi] at this;injection this with this;rw[this];rfl
   have hbelow:Below w.heap.size w wr:=by
    rw[hW];exact ((Below.refl _ _).alloc (Nat.le_refl _) _).alloc (by simp) _
   have HS:=gI hs;have HC:=gI hc;have HZ:=gI hsz;have HRa:=gI hrange;have HTh:=gI hthere;have HO:=gI hone;have HB:=gI hbelow;clear hs hW hc hsz hrange hthere hone hbelow HE
   go_wp2_with (first
    |(refine wpList_load_mid rfl 254 _ rfl (w.heap.size+1) 0 rfl cs.toList _ HRa.out Tryz.underlying254 rfl (by rw[HZ.out];simp) ?_)
    |(refine wpList_store_mid rfl 254 _ _ rfl w.heap.size 0 cs rfl rfl HTh.out HZ.out HO.out ?_))
   have hrest:=World.rangeAt_setCells_same wr w.heap.size 0 cs.toList HTh.out;refine bodyPost_ret (v:=.agg cs) ?_ rfl ⟨cs,rfl,HS.out,fun i hi=>HC.out i hi,below_setCells _ _ _ HB.out (Nat.le_refl _)⟩;refine (qL (p:=0) (ty:=254) rfl _ _ w.heap.size 0 cs.toList _ rfl hrest Tryz.underlying254 rfl (by rw[HZ.out];simp)).trans ?_;rw[Array.toArray_toList]
end
section
open Go.RowKit Cr Me
theorem zhj (x:Reg):∀k,k<=32->(∀i,32-k<=i->x.getLsbD i=false)->shN k (x <<< k)=x
 |0,_,_=>by simp[shN]
 |k+1,h,hx=>by
  have e:x <<< (k+1)=(x <<< k) <<< 1:=by rw[<-BitVec.shiftLeft_add]
  have ht:(x <<< k).getLsbD 31=false:=by
   rw[BitVec.getLsbD_shiftLeft,hx (31-k) (by omega)];simp
  rw[shN,e,zmc ht,zhj x k (by omega) (fun i hi=>hx i (by omega))]
theorem zgX (s:Reg) (u:UInt8):upd s u=(s >>> 8) ^^^ shN 8 (BitVec.ofNat 32 ((s.toNat%256) ^^^ u.toNat)):=by
 have hu:u.toNat<256:=u.toNat_lt;have hq:(s.toNat%256) ^^^ u.toNat<2^8:=Nat.xor_lt_two_pow (Nat.mod_lt _ (by decide)) hu;have e:s ^^^ BitVec.ofNat 32 u.toNat=((s >>> 8) <<< 8) ^^^ BitVec.ofNat 32 ((s.toNat%256) ^^^ u.toNat):=by
  apply BitVec.eq_of_getLsbD_eq
  intro i hi;rw[BitVec.getLsbD_xor,BitVec.getLsbD_xor,zkD,BitVec.getLsbD_shiftLeft,BitVec.getLsbD_ushiftRight,BitVec.getLsbD_ofNat,Nat.testBit_xor,show (256:Nat)=2^8 from rfl,Nat.testBit_mod_two_pow];have hs:s.getLsbD i=s.toNat.testBit i:=rfl;rw[hs]
  by_cases h:i<8
  ·simp[h,hi]
  ·have h8:8+(i-8)=i:=by omega
   rw[ziK u (by omega),h8,hs];simp[h,hi]
 unfold upd;rw[e,zdQ,zhj _ 8 (by omega) (fun i hi=>by rw[BitVec.getLsbD_ushiftRight];exact BitVec.getLsbD_of_ge _ _ (by omega))]
theorem zlc (s:Reg) (u:UInt8) (q:Nat) (hq:q=(s.toNat%256) ^^^ u.toNat):bits .xor .u32 ((s.toNat:Int) / 256) (effI q)=((upd s u).toNat:Int):=by
 rw[zgX,<-hq,<-XF]
 congr 1
 rw[BitVec.toNat_ushiftRight,Nat.shiftRight_eq_div_pow];rfl
theorem zif (s:Reg) (u:UInt8):∃q:Nat,q=(s.toNat%256) ^^^ u.toNat/\q<256/\bits .xor .u8 ((s.toNat:Int)%256) (u.toNat:Int)=(q:Int):=by
 have hu:u.toNat<256:=u.toNat_lt;have hm:s.toNat%256<256:=Nat.mod_lt _ (by decide);refine ⟨_,rfl,Nat.xor_lt_two_pow (n:=8) hm hu,?_⟩;have:=u8_xor_nat (s.toNat%256) u.toNat hm hu;rw[<-this];rfl
def Parts (w:World) (B:Nat) (L:Option Addr) (ls:List (List UInt8)):Prop:=
 0<ls.length->∃a,L=some a/\a.block<B/\∀i l,ls[i]?=some l->∃A m c,w.cell? (a.add i)=some (.slice A m c)/\l.length=m/\m<=9223372036854775807/\Rd w B A l
theorem Parts.at {w:World} {B:Nat} {L:Option Addr} {ls:List (List UInt8)} {k:Nat} (h:Parts w B L ls) (hk:k<ls.length) :
 ∃a l A m c,L=some a/\ls[k]?=some l/\a.block<B/\w.cell? (a.add k)=some (.slice A m c)/\l.length=m/\m<=9223372036854775807/\Rd w B A l:=by
 obtain ⟨a,rfl,hb,hc⟩:=h (by omega);obtain ⟨A,m,c,h1,h2,h3,h4⟩:=hc k _ (List.getElem?_eq_getElem hk);exact ⟨a,_,A,m,c,rfl,List.getElem?_eq_getElem hk,hb,h1,h2,h3,h4⟩
theorem Parts.below {w w':World} {B:Nat} {L:Option Addr} {ls:List (List UInt8)} (h:Parts w B L ls) (hb:Below B w w'):Parts w' B L ls:=fun hn=>by
 obtain ⟨a,rfl,h1,hc⟩:=h hn;refine ⟨a,rfl,h1,fun i l hl=>?_⟩;obtain ⟨A,m,c,g1,g2,g3,g4⟩:=hc i l hl;exact ⟨A,m,c,by rw[hb.cell (by rw[block_add];exact h1)];exact g1,g2,g3,g4.below hb⟩
theorem Parts.more {w:World} {B B':Nat} {L:Option Addr} {ls:List (List UInt8)} (h:Parts w B L ls) (hB:B<=B'):Parts w B' L ls:=fun hn=>by
 obtain ⟨a,rfl,h1,hc⟩:=h hn;refine ⟨a,rfl,by omega,fun i l hl=>?_⟩;obtain ⟨A,m,c,g1,g2,g3,g4⟩:=hc i l hl;exact ⟨A,m,c,g1,g2,g3,g4.more hB⟩
theorem zbE (l m:List UInt8):Xx (l++m)=m.foldl upd (Xx l):=by unfold Xx;rw[List.foldl_append]
theorem vW {ls:List (List UInt8)} {k:Nat} {l:List UInt8} (h:ls[k]?=some l):(ls.take (k+1)).flatten=(ls.take k).flatten++l:=by
 rw[List.take_add_one,h,List.flatten_append];simp
theorem zgv {l:List UInt8} {k:Nat} {u:UInt8} (r:Reg) (h:l[k]?=some u):(l.take (k+1)).foldl upd r=upd ((l.take k).foldl upd r) u:=by
 rw[yw h,List.foldl_append];rfl
def Tab (w:World) (g:Nat):Prop:=∀i,i<256->w.cell? ⟨g,i,none⟩=some (.int .u32 (effI i))
theorem zha (w:World) (cs:Array Value) (hs:cs.size=256) (hc:∀i,i<256->cs[i]?=some (.int .u32 ((shN 8 (BitVec.ofNat 32 i)).toNat:Int))) :
 (w.alloc (.cells yh 254)).there w.heap.size 0 cs.size/\(Tryz.prog.info? 254).map (·.size)=some cs.size/\cs.all (·.oneCell')=true /\
   Tab ((w.alloc (.cells yh 254)).setCells w.heap.size 0 cs.toList) w.heap.size/\Below w.heap.size w ((w.alloc (.cells yh 254)).setCells w.heap.size 0 cs.toList):=by
 have hh:=heap_alloc_last w (.cells yh 254);have ht:(w.alloc (.cells yh 254)).there w.heap.size 0 cs.size:=fun j hj=>by
  rw[hs] at hj;refine ⟨?_,?_⟩
  ·simp only[World.cell?,hh];simp[yh,hj]
  ·unfold World.frozen?;rw[hh];simp
 refine ⟨ht,by rw[hs];exact (zero_of_info Y6).2,Array.all_eq_true_iff_forall_mem.2 fun v hv=>?_,fun i hi=>?_,below_setCells _ _ _ ((Below.refl _ _).alloc (Nat.le_refl _) _) (Nat.le_refl _)⟩
 ·obtain ⟨i,hi,rfl⟩:=Array.mem_iff_getElem.1 hv;have:=hc i (by rw[hs] at hi;exact hi);rw[Array.getElem?_eq_getElem hi] at this;injection this with this;rw[this];rfl
 ·have:=World.rangeAt_setCells_same (w.alloc (.cells yh 254)) w.heap.size 0 cs.toList (by simpa using ht) i (.int .u32 (effI i)) (by simpa [effI] using hc i hi)
  simpa using this
theorem zli (L:Option Addr) (n c:Nat) (ls:List (List UInt8)) (w:World) (hl:ls.length=n) (hn:n<=9223372036854775807) (hp:Parts w w.heap.size L ls) :
 Calls Tryz.prog 146 #[.slice L n c] w fun e w'=>e=.returned (.int .u32 ((crc ls.flatten).toNat:Int))/\Below w.heap.size w w':=by
 have hz:∀w,(zeroValue 254).run Tryz.prog w=.ok (.agg yh) w:=(zero_of_info Y6).1;have HL:=gI hl;have HP:=gI hp;clear hl hp
 go_enter Tryz.func146,Tryz.ntmps146
 go_wp2_with fail
 refine (zeh _).mono ?_;rintro e w1 ⟨cs,rfl,hs,hcs,hb⟩;obtain ⟨h1,h2,h3,h4,h5⟩:=zha w1 cs hs hcs;have H1:=gI h1;have H2:=gI h2;have H3:=gI h3;have H4:=gI h4;have H5:=gI (hb.trans (h5.mono hb.size));clear hs hcs hb h1 h2 h3 h4 h5
 go_wp2_with (refine wpList_store_mid rfl 254 _ _ rfl w1.heap.size 0 cs rfl rfl H1.out H2.out H3.out ?_)
 obtain ⟨W,hW⟩:∃W,W=(w1.alloc (.cells yh 254)).setCells w1.heap.size 0 cs.toList:=⟨_,rfl⟩
 rw[<-hW] at H4 H5 ⊢;clear hW H1 H2 H3;have HQ:=gI (HP.out.below H5.out);obtain ⟨g,hg⟩:∃g,g=w1.heap.size:=⟨_,rfl⟩
 rw[<-hg] at H4 ⊢;clear hg HP
 go_loop [4,12] (fun x i=>∃k:Nat,k<=n/\i=.int .i64 k/\∃r:Reg,Hid (r=Xx (ls.take k).flatten)/\x=.int .u32 (r.toNat:Int)) (fun _ i=>n-(intOf i).toNat)
 case atStart=>exact ⟨0,Nat.zero_le _,rfl,4294967295#32,gI rfl,rfl⟩
 case round=>
  obtain ⟨k,hk,rfl,r,H,rfl⟩:=hrel
  by_cases hlt:k<n
  ·have hlt':k<ls.length:=by rw[HL.out];exact hlt
   obtain ⟨a,l,A,m,c2,rfl,hlk,-,hc,hm,hm63,hrd⟩:=HQ.out.at hlt';have HK:=gI hlk;have HM:=gI hm;have HD:=gI hrd;clear hlt' hlk hm hrd
   go_wp2_with fail
   go_loop [4,18] (fun x i=>∃j:Nat,j<=m/\i=.int .i64 j/\∃s:Reg,Hid (s=(l.take j).foldl upd r)/\x=.int .u32 (s.toNat:Int)) (fun _ i=>m-(intOf i).toNat)
   case atStart=>exact ⟨0,Nat.zero_le _,rfl,r,gI rfl,rfl⟩
   case round=>
    obtain ⟨j,hj,rfl,s,HS,rfl⟩:=hrel;have hs1:=Qm s
    by_cases hjm:j<m
    ·have hjm':j<l.length:=by rw[HM.out];exact hjm
     obtain ⟨b,u,rfl,-,hu,hcu⟩:=HD.out.at hjm';obtain ⟨q,hq,hq256,hqi⟩:=zif s u;have hcq:=H4.out q hq256;have HU:=gI hu;have HQI:=gI hq;have hu256:=u.toNat_lt;have hq0:(0:Int)<=(q:Int):=by omega
     have hq1:(q:Int)<256:=by omega
     clear hu hjm' hq
     go_wp2
     go_round
     case rel=>exact ⟨j+1,by omega,by go_num,upd s u,gI (by rw[zgv r HU.out,HS.out]),by rw[zlc s u q HQI.out]⟩
     case measure=>simp[intOf];omega
    ·go_wp2
     go_round
     case rel=>exact ⟨k+1,by omega,by go_num,s,gI (by
      have e:l.take j=l:=List.take_of_length_le (by rw[HM.out];omega);rw[vW HK.out,zbE,<-H.out,HS.out,e]),rfl⟩
     case measure=>simp[intOf];omega
  ·have hsig:IntKind.u32.signed=false:=rfl;have hmax:IntKind.u32.max=4294967295:=by decide
   go_wp2
   go_ret
   have hk':k=ls.length:=by rw[HL.out];omega
   refine ⟨qK ?_,H5.out⟩;rw[zjX,crc,H.out,hk',List.take_length]
end
section
open Go.RowKit Cr Me
theorem zhH {w:World} {B:Nat} {A:Option Addr} {m c:Nat} {l:List UInt8} (t:TypeId) (hl:l.length=m) (hm:m<=9223372036854775807) (hB:B<=w.heap.size) (hr:Rd w B A l) {H:Nat} (hH:w.heap.size=H) :
 Parts (w.alloc (.cells #[.slice A m c] t)) (w.alloc (.cells #[.slice A m c] t)).heap.size (some ⟨H,0,none⟩) [l]:=fun _=>by
 subst hH;refine ⟨_,rfl,by simp,fun i l' hl'=>?_⟩;have hi:i=0:=by
  have:=(List.getElem?_eq_some_iff.1 hl').1
  simpa using this
 subst hi;have hll:l=l':=by simpa using hl'
 subst hll;refine ⟨A,m,c,?_,hl,hm,(hr.alloc hB _).more (by simp;omega)⟩;have hh:=heap_alloc_new w (.cells #[.slice A m c] t);have e:(⟨w.heap.size,0,none⟩:Addr).add 0=⟨w.heap.size,0,none⟩:=by unfold Addr.add;simp
 rw[e];simp only[World.cell?,hh];rfl
theorem byte_of (r:Reg) (k:Nat):((r.toNat:Int) / (k:Int))%256=((UInt8.ofNat (r.toNat / k)).toNat:Int):=by
 rw[UInt8.toNat_ofNat'];rfl
theorem QM (r:Reg):(#[.int .u8 ((r.toNat:Int)%256),.int .u8 ((r.toNat:Int) / 256%256),.int .u8 ((r.toNat:Int) / 65536%256),.int .u8 ((r.toNat:Int) / 16777216)]:Array Value).toList=cellsOf (four r):=by
 have h0:=byte_of r 1;have h1:=byte_of r 256;have h2:=byte_of r 65536;have h3:=byte_of r 16777216;have hr:=r.isLt;simp only[Nat.div_one] at h0;have e0:((r.toNat:Int) / ((1:Nat):Int))%256=(r.toNat:Int)%256:=by omega
 have e3:((r.toNat:Int) / ((16777216:Nat):Int))%256=(r.toNat:Int) / 16777216:=by omega
 rw[e0] at h0;rw[e3] at h3;simp only[cellsOf,four,List.map_cons,List.map_nil];rw[<-h0,<-h3,<-h1,<-h2];rfl
theorem zfh (A:Option Addr) (n c:Nat) (l:List UInt8) (w:World) (hl:l.length=n) (hn:n<=70368744177664) (hr:Rd w w.heap.size A l) :
 Calls Tryz.prog 107 #[.slice A n c] w fun e w'=>∃v,e=.returned v/\w'.ownsRow w.heap.size 5 1 v (n+4) (cellsOf (Cr.mark l))/\Below w.heap.size w w':=by
 obtain ⟨i0,hi0,hz0,hz1,hz2⟩:=info_parts yO;have hp:=zhH (c:=c) 24 hl (by omega) (Nat.le_refl _) hr rfl;have HL:=gI hl;have HR:=gI hr;have HP:=gI hp;clear hl hr hp
 go_enter Tryz.func107,Tryz.ntmps107
 go_wp2_with fail
 refine (zli _ 1 1 [l] _ rfl (by omega) HP.out).mono ?_;rintro e w1 ⟨rfl,hb⟩;have HB:=gI ((((Below.refl _ _).alloc (Nat.le_refl _) _).trans (hb.mono (by simp))):Below w.heap.size w w1);obtain ⟨r,hr⟩:∃r,r=crc [l].flatten:=⟨_,rfl⟩
 rw[<-hr];have HC:=gI hr;clear hr hb HP;have hr1:=Qm r
 go_wp2_with (first
  |(refine wpList_make_own w1 rfl _ _ 24 rfl w.heap.size 5 i0 _ 1 Tryz.underlying24 hi0 hz0 hz1 .i64 .i64 ((n:Int)+4) (n+4) rfl rfl (by omega) (by rw[hz2];omega) (by unfold maxLen;omega) HB.out.size ?_
    intro w2 hown1 hg1)
  |(at_builtin
    refine zF rfl (.tmp 12) (.tmp 13) 24 rfl w.heap.size 5 i0 _ Tryz.underlying24 hi0 hz0 hz1 hz2 rfl (.slice (some ⟨w1.heap.size,0,none⟩) 0 (n+4)) 0 [] rfl hown1 w.heap.size A n c l rfl HL.out ((HR.out.below HB.out).grown hg1 HB.out.size (by simp)) (by omega) (Nat.le_trans HB.out.size hg1.size) ?_;intro v2 w3 hown2 hg2 hat2;have HB3:=gI (yj (HB.out.grown hg1 HB.out.size (by simp)) hown1 (Nat.le_refl _) (Nat.le_trans HB.out.size hg1.size) hg2);have HW2:=gI hown2;clear hat2 hg2 hown2)
  |(at_builtin
    refine zF rfl (.tmp 15) (.tmp 27) 24 rfl w.heap.size 5 i0 _ Tryz.underlying24 hi0 hz0 hz1 hz2 rfl v2 (0+n) ([]++l) rfl (HW2.out.alloc _) (w3.heap.size+1) (some ⟨w3.heap.size,0,none⟩) 4 4 (four r) rfl rfl (Rd.lit w3 _ _ _ (QM r)) (by omega) (by have:=HB3.out.size;simp;omega) ?_;intro v4 w4 hown4 hg4 hat4))
 have hr:r=crc l:=by have:=HC.out;simpa using this
 have hb4:=yj (HB3.out.alloc HB3.out.size _) (HW2.out.alloc _) (Nat.le_refl _) (by have:=HB3.out.size;simp;omega) hg4;have HB4:=gI hb4;have HW4:=gI hown4;have HRR:=gI hr;clear hown4 hg4 hat4 hb4 hr
 go_ret
 refine ⟨v4,rfl,?_,HB4.out⟩;have:=HW4.out;rw[HRR.out] at this
 simpa [Cr.mark] using this
theorem Qn (r:Reg) (w:World) :
 Calls Tryz.prog 137 #[.int .u32 (r.toNat:Int)] w fun e w'=>e=.returned (.slice (some ⟨w.heap.size,0,none⟩) 4 4)/\Rd w' w'.heap.size (some ⟨w.heap.size,0,none⟩) (four r)/\Below w.heap.size w w':=by
 have hr1:=Qm r
 go_enter Tryz.func137,Tryz.ntmps137
 go_wp2
 go_ret
 refine ⟨rfl,?_,(Below.refl _ _).alloc (Nat.le_refl _) _⟩;rw[World.size_alloc];refine Rd.lit w _ _ _ ?_;rw[<-QM]
end
section
open Go.RowKit Cr Me
theorem Yb (A:Option Addr) (n c:Nat) (l:List UInt8) (w:World) (hl:l.length=n) (hn:n<=70368744177664) (hr:Rd w w.heap.size A l) :
 Calls Tryz.prog 138 #[.slice A n c] w fun e w'=>∃v,e=.returned v/\w'.ownsRow w.heap.size 5 1 v (n+4) (cellsOf (Cr.mark l))/\Below w.heap.size w w':=by
 obtain ⟨i0,hi0,hz0,hz1,hz2⟩:=info_parts yO;have hb0:Below w.heap.size w (w.alloc (.cells #[] 5)):=(Below.refl _ _).alloc (Nat.le_refl _) _;have HL:=gI hl;have HR:=gI hr;have HB0:=gI hb0;clear hl hr hb0
 go_enter Tryz.func138,Tryz.ntmps138
 go_wp2_with (first
  |(at_builtin
    refine zF rfl (.tmp 4) (.tmp 5) 24 rfl w.heap.size 5 i0 _ Tryz.underlying24 hi0 hz0 hz1 hz2 rfl (.slice (some ⟨w.heap.size,0,none⟩) 0 0) 0 [] rfl (qF w _ _ (Nat.le_refl _)) w.heap.size A n c l rfl HL.out (HR.out.below HB0.out) (by omega) HB0.out.size ?_;intro v2 w3 hown2 hg2 hat2;have HB3:=gI (yj HB0.out (qF w _ _ (Nat.le_refl _)) (Nat.le_refl _) HB0.out.size hg2);have HW2:=gI hown2;clear hat2 hg2 hown2)
  |fail)
 refine (zdX A n c l w3 w.heap.size HL.out (by omega) (HR.out.below HB3.out)).mono ?_;rintro e w' ⟨rfl,rfl⟩;obtain ⟨r,hr⟩:∃r,r=crc l:=⟨_,rfl⟩
 rw[<-hr];have HC:=gI hr;clear hr
 go_wp2_with fail
 refine (Qn _ _).mono ?_;rintro e w4 ⟨rfl,hr4,hb4⟩;have HR4:=gI hr4;have HB4:=gI (HB3.out.trans (hb4.mono HB3.out.size));have HW4:=gI (own_below HW2.out hb4);clear hr4 hb4
 go_wp2_with (at_builtin
              refine zF rfl (.tmp 7) (.tmp 10) 24 rfl w.heap.size 5 i0 _ Tryz.underlying24 hi0 hz0 hz1 hz2 rfl v2 (0+n) ([]++l) rfl HW4.out w4.heap.size _ 4 4 (four r) rfl rfl HR4.out (by omega) HB4.out.size ?_;intro v5 w5 hown5 hg5 hat5;have HB5:=gI (yj HB4.out HW4.out (Nat.le_refl _) HB4.out.size hg5);have HW5:=gI hown5;clear hat5 hg5 hown5)
 go_ret
 refine ⟨v5,rfl,?_,HB5.out⟩;have:=HW5.out;rw[HC.out] at this
 simpa [Cr.mark] using this
end
section
open Go.RowKit Cr Me
def zds (w:World) (l:List UInt8) (code:Int) (e:Ending) (w':World):Prop:=
 Below w.heap.size w w'/\∃A c,e=.returned (.tuple #[.slice A l.length c,.int .i64 code])/\Rd w' w'.heap.size A l/\(0<l.length->∃a,A=some a/\w.heap.size<=a.block)/\l.length<=c
theorem YI (A:Option Addr) (n c:Nat) (w:World) (hn:n<4) :
 Calls Tryz.prog 145 #[.slice A n c] w fun e w'=>zds w [] 2 e w':=by
 have h1:decide ((n:Int)<4)=true:=by simp;omega
 go_enter Tryz.func145,Tryz.ntmps145
 go_wp2
 go_ret2
 exact ⟨(Below.refl _ _).alloc (Nat.le_refl _) _,_,_,rfl,Rd.empty,(fun h=>by simp at h),Nat.zero_le _⟩
theorem Xf (a:Addr) (k c:Nat) (l:List UInt8) (w:World) (hl:l.length=k+4) (hc:k+4<=c) (hn:k<=70368744177664) (hr:Rd w w.heap.size (some a) l) (b:Bool) (hb:(Cr.mark (l.take k)==l)=b) :
 Calls Tryz.prog 145 #[.slice (some a) (k+4) c] w fun e w'=>zds w (if b then l.take k else []) (if b then 0 else 5) e w':=by
 obtain ⟨i0,hi0,hz0,hz1,hz2⟩:=info_parts yO;have hk:(l.take k).length=k:=by rw[List.length_take,hl];omega
 have hb0:Below w.heap.size w (w.alloc (.cells #[] 5)):=(Below.refl _ _).alloc (Nat.le_refl _) _;have HL:=gI hl;have HR:=gI hr;have HK:=gI hk;have HT:=gI (hr.take k);have HB:=gI hb;have HB0:=gI hb0;clear hl hr hk hb hb0
 go_enter Tryz.func145,Tryz.ntmps145
 go_wp2_with (at_builtin
              refine zF rfl (.tmp 9) (.tmp 14) 24 rfl w.heap.size 5 i0 _ Tryz.underlying24 hi0 hz0 hz1 hz2 rfl (.slice (some ⟨w.heap.size,0,none⟩) 0 0) 0 [] rfl (qF w _ _ (Nat.le_refl _)) w.heap.size (some a) k c (l.take k) rfl HK.out (HT.out.below HB0.out) (by omega) HB0.out.size ?_;intro v2 w3 hown2 hg2 hat2;have HB3:=gI (yj HB0.out (qF w _ _ (Nat.le_refl _)) (Nat.le_refl _) HB0.out.size hg2);have HW2:=gI hown2;clear hat2 hg2 hown2)
 obtain ⟨A2,c2,rfl⟩:=zJ HW2.out;have hw2:=HW2.out;rw[Nat.zero_add,List.nil_append] at hw2;rw[Nat.zero_add];have HO2:=gI (Rd.of_own hw2);have HW3:=gI hw2;clear hw2 HW2;have e0:=xD (some a) (k+4) c l w3.drew _ HL.out (HR.out.below HB3.out.drew)
 go_region_with (
  (go_at_call 138
   refine (Yb A2 k c2 (l.take k) w3.drew HK.out hn HO2.out.drew).mono ?_;rintro e w4 ⟨v4,rfl,hown4,hb4⟩;obtain ⟨A4,c4,rfl⟩:=zJ hown4;have e1:=xD (some a) (k+4) c l w4 _ HL.out (HR.out.below (HB3.out.drew.trans (hb4.mono HB3.out.size)));have e2:=xD A4 (k+4) c4 (Cr.mark (l.take k)) w4 _ ((zO _).trans (by rw[HK.out])) (Rd.of_own hown4);have HW4:=gI hown4;have HB4:=gI hb4;clear hown4 hb4))
 all_goals
  have HB5:=gI (HB3.out.drew.trans (HB4.out.mono HB3.out.size));have HO5:=gI (HO2.out.drew.below HB4.out);rw[HB.out];clear e0 e1 e2
  cases b with
  |false=>
   go_wp2
   go_ret2
   exact ⟨HB5.out.alloc HB5.out.size _,_,_,rfl,Rd.empty,(fun h=>by simp at h),Nat.zero_le _⟩
  |true=>
   go_wp2
   go_ret2
   exact ⟨HB5.out,A2,c2,(by show _=Ending.returned (.tuple #[.slice A2 (l.take k).length c2,.int .i64 0]);rw[HK.out];rfl),HO5.out.more HB4.out.size,(fun h=>by
    have h0:0<k:=by rw[<-HK.out];simpa using h
    obtain ⟨g,cap,hv,hg,-⟩:=HW3.out.form h0;injection hv with hv;exact ⟨_,hv,hg⟩),by show (l.take k).length<=c2;rw[HK.out];exact Xj HW3.out⟩
end
section
open Go.RowKit Cr Me
def fitB (l:List UInt8):Bool:=decide (4<=l.length)&&(Cr.mark (l.take (l.length-4))==l)
def fitL (l:List UInt8):List UInt8:=if fitB l then l.take (l.length-4) else []
def fitC (l:List UInt8):Int:=if l.length<4 then 2 else if fitB l then 0 else 5
theorem zdb (l:List UInt8):fitB (Cr.mark l)=true:=by
 unfold fitB;rw[zO];have e:(Cr.mark l).take (l.length+4-4)=l:=by unfold Cr.mark;simp
 rw[e]
 simp
def zdw (w:World) (l:List UInt8) (code:Int) (e:Ending) (w':World):Prop:=
 Below w.heap.size w w'/\∃X n c,e=.returned (.tuple #[.slice X n c,.int .i64 code])/\l.length=n/\n<=140737488355328/\Rd w' w'.heap.size X l/\(0<l.length->∃a,X=some a/\w.heap.size<=a.block)
theorem zbC {l:List UInt8} {k:Nat} (hl:l.length=k+4):fitB l=(Cr.mark (l.take k)==l):=by
 unfold fitB;rw[hl]
 simp
theorem Vq (A:Option Addr) (n c:Nat) (l:List UInt8) (w:World) (hl:l.length=n) (hn:n<=70368744177664) (hr:Rd w w.heap.size A l) :
 Calls Tryz.prog 107 #[.slice A n c] w (News w (Cr.mark l)):=
 (zfh A n c l w hl hn hr).mono fun _ _ ⟨v,he,ho,hb⟩=>⟨v,n+4,he,ho,hb⟩
theorem zbg (A:Option Addr) (n c:Nat) (l:List UInt8) (w:World) (hl:l.length=n) (hn:n<=70368744177664) (hr:Rd w w.heap.size A l) :
 Calls Tryz.prog 138 #[.slice A n c] w (News w (Cr.mark l)):=
 (Yb A n c l w hl hn hr).mono fun _ _ ⟨v,he,ho,hb⟩=>⟨v,n+4,he,ho,hb⟩
end
section
open Go.RowKit Cr Me
theorem zco (A:Option Addr) (n c:Nat) (l:List UInt8) (w:World) (hl:l.length=n) (hc:n<=c) (hn:n<=70368744177664) (hr:Rd w w.heap.size A l) :
 Calls Tryz.prog 145 #[.slice A n c] w fun e w'=>zdw w (fitL l) (fitC l) e w':=by
 by_cases h4:n<4
 ·refine (YI A n c w h4).mono fun e w' ⟨hb,X,cx,he,_,hnw,_⟩=>?_
  have hb2:fitB l=false:=by unfold fitB;simp;omega
  exact ⟨hb,X,0,cx,by rw[he];unfold fitC;rw[if_pos (by omega)];rfl,by unfold fitL;rw[hb2];rfl,by omega,by unfold fitL;rw[hb2];exact Rd.empty,by unfold fitL;rw[hb2];exact fun h=>by simp at h⟩
 ·obtain ⟨k,rfl⟩:∃k,n=k+4:=⟨n-4,by omega⟩
  obtain ⟨a,rfl,-⟩:=hr (by omega);have hf:=zbC hl;refine (Xf a k c l w hl hc (by omega) hr _ rfl).mono fun e w' ⟨hb,X,cx,he,hx,hnw,_⟩=>?_
  rw[<-hf] at he hx hnw;have e1:fitL l=if fitB l=true then l.take k else []:=by unfold fitL;rw[hl];simp
  have e2:fitC l=if fitB l=true then 0 else 5:=by unfold fitC;rw[if_neg (by omega)]
  rw[<-e1,<-e2] at he;rw[<-e1] at hx hnw;refine ⟨hb,X,_,cx,he,rfl,?_,hx,hnw⟩;rw[e1]
  split
  ·rw[List.length_take];omega
  ·simp
end
section
open Go.RowKit Cr Me
theorem zaN (A:Option Addr) (n c:Nat) (w:World) (hn:n<4) :
 Calls Tryz.prog 150 #[.slice A n c] w fun e w'=>e=.returned (.tuple #[.slice none 0 0,.int .i64 2])/\w=w':=by
 have h1:decide ((n:Int)<4)=true:=by simp;omega
 go_enter Tryz.func150,Tryz.ntmps150
 go_wp2
 go_ret2
 exact ⟨rfl,rfl⟩
def zkS (w:World) (k:Nat) (l:List UInt8) (b:Bool) (e:Ending) (w':World):Prop:=
 Below w.heap.size w w'/\if b then ∃v,e=.returned (.tuple #[v,.int .i64 0])/\w'.ownsRow w.heap.size 5 1 v k (cellsOf (l.take k)) else e=.returned (.tuple #[.slice none 0 0,.int .i64 5])
theorem zc9 (a:Addr) (k c:Nat) (l:List UInt8) (w:World) (hl:l.length=k+4) (hc:k+4<=c) (hn:k<=70368744177664) (hr:Rd w w.heap.size (some a) l) (b:Bool) (hb:(Cr.mark (l.take k)==l)=b) :
 Calls Tryz.prog 150 #[.slice (some a) (k+4) c] w fun e w'=>zkS w k l b e w':=by
 have hk:(l.take k).length=k:=by rw[List.length_take,hl];omega
 have HL:=gI hl;have HR:=gI hr;have HK:=gI hk;have HT:=gI (hr.take k);have HB:=gI hb;clear hl hr hk hb
 go_enter Tryz.func150,Tryz.ntmps150
 go_wp2_with fail
 refine (zfh (some a) k c (l.take k) w HK.out hn HT.out).mono ?_;rintro e w1 ⟨v,rfl,hown,hb1⟩;obtain ⟨g,cap,rfl,-,-⟩:=hown.form (by omega);have HO:=gI (Rd.of_own hown);have HM:=gI ((zO (l.take k)).trans (by rw[HK.out]));have HB1:=gI hb1;clear hown hb1
 go_wp2_with fail
 refine (zdf _ _ _ _ _ _ (Cr.mark (l.take k)) l w1 _ _ HM.out HO.out HL.out (HR.out.below HB1.out)).mono ?_;rintro e w' ⟨rfl,rfl⟩;rw[HB.out]
 cases b with
 |false=>
  go_wp2
  go_ret2
  exact ⟨HB1.out,rfl⟩
 |true=>
  go_wp2_with fail
  refine (xV (some a) k c (l.take k) w1 HK.out hn ((HT.out.below HB1.out).more HB1.out.size)).mono ?_;rintro e w2 ⟨v,m2,rfl,hown2,hb2⟩;have hm2:m2=k:=by have h1:=hown2.1;have h2:=HK.out;rw[za] at h1;omega
  subst hm2;have HB2:=gI (HB1.out.trans (hb2.mono HB1.out.size));have HW2:=gI hown2;clear hown2 hb2
  go_wp2
  go_ret2
  exact ⟨HB2.out,v,rfl,zU HW2.out HB1.out.size⟩
end
section
open Go.RowKit Cr Me
theorem zkt (A:Option Addr) (n c:Nat) (l:List UInt8) (w:World) (hl:l.length=n) (hc:n<=c) (hn:n<=70368744177664) (hr:Rd w w.heap.size A l) :
 Calls Tryz.prog 150 #[.slice A n c] w fun e w'=>zdw w (fitL l) (fitC l) e w':=by
 by_cases h4:n<4
 ·refine (zaN A n c w h4).mono fun e w' ⟨he,hw⟩=>?_
  subst hw;have hb:fitB l=false:=by unfold fitB;simp;omega
  exact ⟨Below.refl _ _,none,0,0,by rw[he];unfold fitC;rw[if_pos (by omega)],by unfold fitL;rw[hb];rfl,by omega,by unfold fitL;rw[hb];exact Rd.empty,by unfold fitL;rw[hb];exact fun h=>by simp at h⟩
 ·obtain ⟨k,rfl⟩:∃k,n=k+4:=⟨n-4,by omega⟩
  obtain ⟨a,rfl,-⟩:=hr (by omega);have hf:=zbC hl;refine (zc9 a k c l w hl hc (by omega) hr _ rfl).mono fun e w' ⟨hb,h⟩=>?_
  rw[<-hf] at h
  cases hfb:fitB l with
  |false=>
   rw[hfb] at h;have he:e=.returned (.tuple #[.slice none 0 0,.int .i64 5]):=h;exact ⟨hb,none,0,0,by rw[he];unfold fitC;rw[if_neg (by omega),hfb];rfl,by unfold fitL;rw[hfb];rfl,by omega,by unfold fitL;rw[hfb];exact Rd.empty,by unfold fitL;rw[hfb];exact fun h=>by simp at h⟩
  |true=>
   rw[hfb] at h;obtain ⟨v,he,ho⟩:∃v,e=.returned (.tuple #[v,.int .i64 0])/\w'.ownsRow w.heap.size 5 1 v k (cellsOf (l.take k)):=h;obtain ⟨X,cx,rfl⟩:=zJ ho;have e1:fitL l=l.take k:=by unfold fitL;rw[hfb,if_pos rfl,hl];simp
   exact ⟨hb,X,k,cx,by rw[he];unfold fitC;rw[if_neg (by omega),hfb];rfl,by rw[e1,List.length_take];omega,by omega,by rw[e1];exact Rd.of_own ho,fun h=>by
    have h0:0<k:=by rw[e1,List.length_take] at h;omega
    obtain ⟨g,cap,hv,hg,-⟩:=ho.form h0;injection hv with hv;exact ⟨_,hv,hg⟩⟩
end
section
open Go.RowKit Cr Me
def zl8 (w:World) (l:List UInt8) (code:Int) (e:Ending) (w':World):Prop:=
 Below w.heap.size w w'/\∃X n c,e=.returned (.tuple #[.slice X n c,.int .i64 code])/\l.length=n/\n<=140737488355328/\Rd w' w'.heap.size X l/\(0<l.length->∃a,X=some a/\w.heap.size<=a.block)/\n<=c
theorem zcn (A:Option Addr) (n c:Nat) (l:List UInt8) (w:World) (hl:l.length=n) (hc:n<=c) (hn:n<=70368744177664) (hr:Rd w w.heap.size A l) :
 Calls Tryz.prog 145 #[.slice A n c] w fun e w'=>zl8 w (fitL l) (fitC l) e w':=by
 by_cases h4:n<4
 ·refine (YI A n c w h4).mono fun e w' ⟨hb,X,cx,he,_,hnw,_⟩=>?_
  have hb2:fitB l=false:=by unfold fitB;simp;omega
  exact ⟨hb,X,0,cx,by rw[he];unfold fitC;rw[if_pos (by omega)];rfl,by unfold fitL;rw[hb2];rfl,by omega,by unfold fitL;rw[hb2];exact Rd.empty,by unfold fitL;rw[hb2];exact fun h=>by simp at h,Nat.zero_le _⟩
 ·obtain ⟨k,rfl⟩:∃k,n=k+4:=⟨n-4,by omega⟩
  obtain ⟨a,rfl,-⟩:=hr (by omega);have hf:=zbC hl;refine (Xf a k c l w hl hc (by omega) hr _ rfl).mono fun e w' ⟨hb,X,cx,he,hx,hnw,hcx⟩=>?_
  rw[<-hf] at he hx hnw hcx;have e1:fitL l=if fitB l=true then l.take k else []:=by unfold fitL;rw[hl];simp
  have e2:fitC l=if fitB l=true then 0 else 5:=by unfold fitC;rw[if_neg (by omega)]
  rw[<-e1,<-e2] at he;rw[<-e1] at hx hnw hcx;refine ⟨hb,X,_,cx,he,rfl,?_,hx,hnw,hcx⟩;rw[e1]
  split
  ·rw[List.length_take];omega
  ·simp
end
end
end Go.Proofs.YtcdkopbjlakebaaGreatDoor
