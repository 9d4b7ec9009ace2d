/- Texts put together, for a law: Crcs. -/
import Derived.RowKit
import Derived.Laws.BitsAllLaws
import Derived.Deep.WholeRow
import Derived.Deep.QuietTactic
import Derived.Lib.SliceRun
import Derived.Deep.RegionWith
import Derived.Test.YtcdkopbjlakebaaGreatDoorKS3
import Derived.Test.YtcdkopbjlakebaaGreatDoorKS2
section
namespace Go.Proofs.YtcdkopbjlakebaaGreatDoor.Cr
abbrev Reg:=BitVec 32
def poly:Reg:=3988292384#32
def sh (r:Reg):Reg:=(r >>> 1) ^^^ (if r.getLsbD 0 then poly else 0#32)
def shN:Nat→Reg→Reg
 |0,r=>r
 |n+1,r=>shN n (sh r)
def bit (b:Bool):Reg:=if b then 1#32 else 0#32
theorem sh_xor (a b:Reg):sh (a ^^^ b)=sh a ^^^ sh b:=by
 unfold sh
 rw[BitVec.ushiftRight_xor_distrib,BitVec.getLsbD_xor]
 generalize a >>> 1=x
 generalize b >>> 1=y
 cases a.getLsbD 0<;>cases b.getLsbD 0
 ·simp
 ·simp[BitVec.xor_assoc]
 ·simp
  rw[BitVec.xor_assoc,BitVec.xor_comm y poly,←BitVec.xor_assoc]
 ·simp
  rw[BitVec.xor_assoc,←BitVec.xor_assoc poly,BitVec.xor_comm poly y,BitVec.xor_assoc,BitVec.xor_self]
  simp
theorem shN_xor:∀(n:Nat) (a b:Reg),shN n (a ^^^ b)=shN n a ^^^ shN n b
 |0,_,_=>rfl
 |n+1,a,b=>by rw[shN,shN,shN,sh_xor,shN_xor n]
theorem shN_succ':∀(n:Nat) (a:Reg),shN (n+1) a=sh (shN n a)
 |0,_=>rfl
 |n+1,a=>by rw[shN,shN_succ' n,shN]
theorem sh_shl {x:Reg} (h:x.getLsbD 31=false):sh (x <<< 1)=x:=by
 unfold sh
 have h0:(x <<< 1).getLsbD 0=false:=by simp
 rw[h0]
 simp only[Bool.false_eq_true,if_false,BitVec.xor_zero]
 apply BitVec.eq_of_getLsbD_eq
 intro i hi
 rw[BitVec.getLsbD_ushiftRight,BitVec.getLsbD_shiftLeft]
 by_cases h31:i=31
 ·subst h31;rw[h];simp
 ·have:1+i<32:=by omega
  simp[this]
def regF (r:Reg) (f:Nat→Bool):Nat→Reg
 |0=>r
 |n+1=>sh (regF r f n ^^^ bit (f n))
def low (w:Reg):Nat→Reg
 |0=>0#32
 |k+1=>low w k ^^^ (bit (w.getLsbD k) <<< k)
def burst (at_:Nat) (w:Reg) (q:Nat):Bool:=decide (at_≤q)&&w.getLsbD (q-at_)
def upd (r:Reg) (x:UInt8):Reg:=shN 8 (r ^^^ BitVec.ofNat 32 x.toNat)
def crcReg (l:List UInt8):Reg:=l.foldl upd 4294967295#32
def crc (l:List UInt8):Reg:= ~~~ crcReg l
def bitAt (l:List UInt8) (q:Nat):Bool:=(l.getD (q / 8) 0).toNat.testBit (q%8)
theorem byte_bit (x:UInt8) (i:Nat):(BitVec.ofNat 32 x.toNat).getLsbD i=x.toNat.testBit i:=by
 have hx:x.toNat<256:=x.toNat_lt
 rw[BitVec.getLsbD_ofNat]
 by_cases h:i<32
 ·simp[h]
 ·have:x.toNat.testBit i=false:=Nat.testBit_lt_two_pow (Nat.lt_of_lt_of_le hx (by
   calc 256=2^8:=rfl
    _≤2^i:=Nat.pow_le_pow_right (by omega) (by omega)))
  simp[this]
theorem byte_high (x:UInt8) {i:Nat} (h:8≤i):x.toNat.testBit i=false:=by
 have hx:x.toNat<256:=x.toNat_lt
 exact Nat.testBit_lt_two_pow (Nat.lt_of_lt_of_le hx (by
  calc 256=2^8:=rfl
   _≤2^i:=Nat.pow_le_pow_right (by omega) h))
def four (w:Reg):List UInt8:=[UInt8.ofNat w.toNat,UInt8.ofNat (w.toNat / 256),UInt8.ofNat (w.toNat / 65536),UInt8.ofNat (w.toNat / 16777216)]
def mark (l:List UInt8):List UInt8:=l++four (crc l)
theorem mark_length (l:List UInt8):(mark l).length=l.length+4:=by simp[mark,four]
end Go.Proofs.YtcdkopbjlakebaaGreatDoor.Cr
namespace Go.Proofs.YtcdkopbjlakebaaGreatDoor
open Go.RowKit Cr Me
theorem reg_lt (r:Reg):(0:Int)≤(r.toNat:Int)∧(r.toNat:Int)<4294967296:=⟨by omega,by have:=r.isLt;omega⟩
theorem xor_reg (a b:Reg):bits .xor .u32 (a.toNat:Int) (b.toNat:Int)=((a ^^^ b).toNat:Int):=by
 rw[u32_xor_nat _ _ a.isLt b.isLt,BitVec.toNat_xor]
theorem not_xor (r:Reg):r ^^^ 4294967295#32= ~~~r:=by
 have e:(4294967295#32:Reg)=BitVec.allOnes 32:=rfl
 rw[e,BitVec.xor_allOnes]
theorem not_reg' (r:Reg):bits .xor .u32 4294967295 (r.toNat:Int)=((~~~r).toNat:Int):=by
 rw[←not_xor,BitVec.xor_comm,←xor_reg];rfl
theorem odd_reg (r:Reg):r.toNat%2=1↔r.getLsbD 0=true:=by
 show _↔r.toNat.testBit 0=true
 rw[Nat.testBit_zero]
 simp
theorem sh_odd (r:Reg) (h:r.toNat%2=1):bits .xor .u32 ((r.toNat:Int) / 2) 3988292384=((sh r).toNat:Int):=by
 unfold sh
 rw[if_pos ((odd_reg r).1 h),←xor_reg,BitVec.toNat_ushiftRight,Nat.shiftRight_eq_div_pow]
 rfl
theorem sh_even (r:Reg) (h:¬r.toNat%2=1):(r.toNat:Int) / 2=((sh r).toNat:Int):=by
 unfold sh
 rw[if_neg (fun e=>h ((odd_reg r).2 e)),BitVec.xor_zero,BitVec.toNat_ushiftRight,Nat.shiftRight_eq_div_pow]
 rfl
end Go.Proofs.YtcdkopbjlakebaaGreatDoor
namespace Go.Proofs.YtcdkopbjlakebaaGreatDoor
open Go.RowKit Cr Me
theorem and_one (r:Reg):bits .and .u32 (r.toNat:Int) 1=((r.toNat%2:Nat):Int):=by
 have:=u32_and_nat r.toNat 1 r.isLt (by decide)
 rw[nat_mask1] at this
 exact this
set_option maxRecDepth 100000 in
set_option maxHeartbeats 400000 in
theorem shifted_any (r:Reg) (w:World) :
 Calls Tryz.prog 215 #[.int .u32 (r.toNat:Int)] w fun e w'=>e=.returned (.int .u32 ((shN 8 r).toNat:Int))∧w=w':=by
 go_enter Tryz.func215,Tryz.ntmps215
 go_wp2
 go_loop [0,4] (fun x i=>∃j:Nat,j≤8∧i=.int .i64 j∧∃s:Reg,Hid (s=shN j r)∧x=.int .u32 (s.toNat:Int)) (fun _ i=>8-(intOf i).toNat)
 case atStart=>exact ⟨0,by omega,rfl,r,Lib.hid rfl,rfl⟩
 case round=>
  obtain ⟨j,hj,rfl,s,HS,rfl⟩:=hrel
  have hs1:=reg_lt s
  by_cases hj8:j<8
  ·by_cases hodd:s.toNat%2=1
   ·have ho:bits .and .u32 (s.toNat:Int) 1=1:=by rw[and_one,hodd];rfl
    have HO:=Lib.hid hodd
    clear hodd
    go_wp2
    go_round
    case rel=>exact ⟨j+1,by omega,by go_num,sh s,Lib.hid (by rw[shN_succ',HS.out]),by rw[sh_odd s HO.out]⟩
    case measure=>simp[intOf];omega
   ·have ho:bits .and .u32 (s.toNat:Int) 1=0:=by rw[and_one,show s.toNat%2=0 by omega];rfl
    have HO:=Lib.hid hodd
    clear hodd
    go_wp2
    go_round
    case rel=>exact ⟨j+1,by omega,by go_num,sh s,Lib.hid (by rw[shN_succ',HS.out]),by rw[sh_even s HO.out]⟩
    case measure=>simp[intOf];omega
  ·go_wp2
   go_ret
   exact ⟨ret_int (by rw[HS.out,show j=8 by omega]),rfl⟩
end Go.Proofs.YtcdkopbjlakebaaGreatDoor
namespace Go.Proofs.YtcdkopbjlakebaaGreatDoor
open Go.RowKit Cr Me
def zero256:Array Value:=Array.replicate 256 (.int .u32 0)
theorem zero_info:(Tryz.prog.info? 254).map (fun i=>(i.zero,i.size))=some (some (.agg zero256),256):=by kernel_rfl
def effI (i:Nat):Int:=((shN 8 (BitVec.ofNat 32 i)).toNat:Int)
theorem zero_first:zero256[0]?=some (.int .u32 (effI 0)):=by kernel_rfl
def Eff (w wr:World) (m:Nat):Prop:=
 ∃cs:Array Value,cs.size=256∧wr=(w.alloc (.cells zero256 254)).alloc (.cells cs 254)∧∀i,i<m→cs[i]?=some (.int .u32 (effI i))
theorem Eff.cells {w wr:World} {m i j:Nat} (h:Eff w wr m) (hi:i<m) (hj:j<256) :
 wr.cell? ⟨w.heap.size+1,i,none⟩=some (.int .u32 (effI i))∧(∃v,wr.cell? ⟨w.heap.size+1,j,none⟩=some v)∧wr.frozen? ⟨w.heap.size+1,j,none⟩=false:=by
 obtain ⟨cs,hs,rfl,hc⟩:=h
 have hh:=heap_alloc_last (w.alloc (.cells zero256 254)) (.cells cs 254)
 rw[show (w.alloc (.cells zero256 254)).heap.size=w.heap.size+1 by simp] at hh
 refine ⟨?_,⟨cs[j],?_⟩,?_⟩
 ·simp only[World.cell?,hh];simpa using hc i hi
 ·simp only[World.cell?,hh];simp[hs,hj]
 ·unfold World.frozen?;rw[hh];simp
theorem Eff.store {w wr:World} {m:Nat} (h:Eff w wr m) (hM:m<256) {x:Int} (hx:x=effI m):Eff w (wr.setCell ⟨w.heap.size+1,m,none⟩ (.int .u32 x)) (m+1):=by
 obtain ⟨cs,hs,rfl,hc⟩:=h
 refine ⟨cs.setIfInBounds m (.int .u32 x),by simpa using hs,?_,fun i hi=>?_⟩
 ·have hsz:(w.alloc (.cells zero256 254)).heap.size=w.heap.size+1:=by simp
  rw[←hsz]
  generalize w.alloc (.cells zero256 254)=u
  simp only[World.setCell,World.alloc]
  congr 1
  apply Array.ext_getElem?
  intro k
  rw[Array.getElem?_modify]
  by_cases hk:u.heap.size=k
  ·subst hk;simp
  ·have hk':¬k=u.heap.size:=fun e=>hk e.symm
   simp[hk,hk',Array.getElem?_push]
 ·rw[Array.getElem?_setIfInBounds]
  by_cases h:m=i
  ·subst h
   rw[if_pos rfl]
   by_cases h2:m<cs.size
   ·rw[if_pos h2,hx]
   ·exact absurd (by rw[hs];exact hM) h2
  ·rw[if_neg h]
   exact hc i (by omega)
theorem Eff.sum {t r:Nat} {f:Reg} (ht:t≤128) (hp:∃b,t=2^b) (hr:r<t) (hf:f=shN 8 (BitVec.ofNat 32 t)):bits .xor .u32 (effI r) (f.toNat:Int)=effI (t+r):=by
 unfold effI
 rw[xor_reg,hf,←shN_xor]
 congr 3
 apply BitVec.eq_of_toNat_eq
 rw[BitVec.toNat_xor,BitVec.toNat_ofNat,BitVec.toNat_ofNat,BitVec.toNat_ofNat,Nat.mod_eq_of_lt (by omega),Nat.mod_eq_of_lt (by omega),Nat.mod_eq_of_lt (by omega)]
 obtain ⟨b,rfl⟩:=hp
 rw[Nat.xor_comm]
 have:=Nat.two_pow_add_eq_or_of_lt hr 1
 rw[Nat.mul_one] at this
 rw[this]
 apply Nat.eq_of_testBit_eq
 intro i
 rw[Nat.testBit_xor,Nat.testBit_or,Nat.testBit_two_pow]
 by_cases h:b=i
 ·subst h
  have:r.testBit b=false:=Nat.testBit_lt_two_pow hr
  simp[this]
 ·simp[h]
theorem below_setCells {B:Nat} {a:World} (b:Nat):∀(vs:List Value) (o:Nat) {w:World},Below B a w→B≤b→Below B a (w.setCells b o vs)
 |[],_,_,h,_=>h
 |_::vs,o,_,h,hb=>below_setCells b vs (o+1) (h.setCell (p:=⟨b,o,none⟩) hb _) hb
set_option maxRecDepth 100000 in
set_option maxHeartbeats 400000 in
theorem effects_any (w:World) :
 Calls Tryz.prog 183 #[] w fun e w'=>∃cs,e=.returned (.agg cs)∧cs.size=256∧(∀i,i<256→cs[i]?=some (.int .u32 ((shN 8 (BitVec.ofNat 32 i)).toNat:Int)))∧Below w.heap.size w w':=by
 have hz:∀w,(zeroValue 254).run Tryz.prog w=.ok (.agg zero256) w:=(zero_of_info zero_info).1
 go_enter Tryz.func183,Tryz.ntmps183
 go_wp2
 go_loopw [6] (fun i wr=>∃b:Nat,b≤8∧i=.int .i64 b∧Hid (Eff w wr (2^b))) (fun i _=>8-(intOf i).toNat)
 case atStart=>exact ⟨0,by omega,rfl,Lib.hid ⟨zero256,by simp[zero256],rfl,fun i hi=>by
  have:i=0:=by simpa using hi
  subst this
  exact zero_first⟩⟩
 case round=>
  obtain ⟨b,hb,rfl,HE⟩:=hrel
  by_cases hlt:b<8
  ·obtain ⟨t,ht⟩:∃t,t=2^b:=⟨_,rfl⟩
   have ht1:1≤t:=by rw[ht];exact Nat.one_le_two_pow
   have ht128:t≤128:=by rw[ht];calc 2^b≤2^7:=Nat.pow_le_pow_right (by omega) (by omega)
    _=128:=rfl
   have HT:=Lib.hid ht
   clear ht
   go_wp2_with fail
   rw[show wrap64 (2^b)=(t:Int) from by
    rw[HT.out]
    have e:((2^b:Nat):Int)=(2:Int)^b:=by simp
    rw[←e,←HT.out]
    unfold wrap64;omega]
   rw[show (t:Int)%4294967296=((BitVec.ofNat 32 t).toNat:Int) from by rw[BitVec.toNat_ofNat];omega]
   refine (shifted_any _ _).mono ?_
   rintro e w' ⟨rfl,rfl⟩
   obtain ⟨f,hf⟩:∃f,f=shN 8 (BitVec.ofNat 32 t):=⟨_,rfl⟩
   rw[←hf]
   have HF:=Lib.hid hf
   clear hf
   rw[HT.out.symm] at HE
   go_wp2
   go_loopw [15] (fun i wr=>∃r:Nat,r≤t∧i=.int .i64 r∧Hid (Eff w wr (t+r))) (fun i _=>t-(intOf i).toNat)
   case atStart=>exact ⟨0,by omega,rfl,HE⟩
   case round=>
    obtain ⟨r,hr,rfl,HE2⟩:=hrel
    by_cases hrt:r<t
    ·obtain ⟨c1,⟨v0,c2⟩,c3⟩:=HE2.out.cells (i:=r) (j:=t+r) (by omega) (by omega)
     have hf1:=reg_lt f
     go_wp2
     go_roundw
     case rel=>exact ⟨r+1,by omega,by go_num,Lib.hid (HE2.out.store (by omega) (Eff.sum ht128 ⟨b,HT.out⟩ hrt HF.out))⟩
     case measure=>simp[intOf];omega
    ·go_wp2
     go_roundw
     case rel=>exact ⟨b+1,by omega,by go_num,Lib.hid (by have e:t+r=2^(b+1):=by rw[Nat.pow_succ,←HT.out];omega
                                                         rw[←e];exact HE2.out)⟩
     case measure=>simp[intOf];omega
  ·have hb8:b=8:=by omega
   subst hb8
   obtain ⟨cs,hs,hW,hc⟩:=HE.out
   have hsz:(Tryz.prog.info? 254).map (·.size)=some cs.size:=by rw[hs];exact (zero_of_info zero_info).2
   have hrange:wr.rangeAt (w.heap.size+1) 0 cs.toList:=fun j v hv=>by
    have hh:=heap_alloc_last (w.alloc (.cells zero256 254)) (.cells cs 254)
    rw[show (w.alloc (.cells zero256 254)).heap.size=w.heap.size+1 by simp,←hW] at hh
    simp only[World.cell?,hh]
    simpa using hv
   have hthere:wr.there w.heap.size 0 cs.toList.length:=fun j hj=>by
    have hh:wr.heap[w.heap.size]?=some (.cells zero256 254):=by
     rw[hW,Below.heap_alloc _ _ _ (by simp)];exact heap_alloc_last w _
    have hj':j<256:=by simpa [hs] using hj
    refine ⟨?_,?_⟩
    ·simp only[World.cell?,hh];simp[zero256,hj']
    ·unfold World.frozen?;rw[hh];simp
   have hone:cs.all (·.oneCell')=true:=Array.all_eq_true_iff_forall_mem.2 fun v hv=>by
    obtain ⟨i,hi,rfl⟩:=Array.mem_iff_getElem.1 hv
    have:=hc i (by rw[hs] at hi;simpa using hi)
    rw[Array.getElem?_eq_getElem hi] at this
    injection this with this
    rw[this]
    rfl
   have hbelow:Below w.heap.size w wr:=by
    rw[hW];exact ((Below.refl _ _).alloc (Nat.le_refl _) _).alloc (by simp) _
   have HS:=Lib.hid hs
   have HC:=Lib.hid hc
   have HZ:=Lib.hid hsz
   have HRa:=Lib.hid hrange
   have HTh:=Lib.hid hthere
   have HO:=Lib.hid hone
   have HB:=Lib.hid hbelow
   clear hs hW hc hsz hrange hthere hone hbelow HE
   go_wp2_with (first
    |(refine wpList_load_mid rfl 254 _ rfl (w.heap.size+1) 0 rfl cs.toList _ HRa.out Tryz.underlying254 rfl (by rw[HZ.out];simp) ?_)
    |(refine wpList_store_mid rfl 254 _ _ rfl w.heap.size 0 cs rfl rfl HTh.out HZ.out HO.out ?_))
   have hrest:=World.rangeAt_setCells_same wr w.heap.size 0 cs.toList HTh.out
   refine bodyPost_ret (v:=.agg cs) ?_ rfl ⟨cs,rfl,HS.out,fun i hi=>HC.out i hi,below_setCells _ _ _ HB.out (Nat.le_refl _)⟩
   refine (results_cell_mid (p:=0) (ty:=254) rfl _ _ w.heap.size 0 cs.toList _ rfl hrest Tryz.underlying254 rfl (by rw[HZ.out];simp)).trans ?_
   rw[Array.toArray_toList]
end Go.Proofs.YtcdkopbjlakebaaGreatDoor
namespace Go.Proofs.YtcdkopbjlakebaaGreatDoor
open Go.RowKit Cr Me
theorem shN_shl (x:Reg):∀k,k≤32→(∀i,32-k≤i→x.getLsbD i=false)→shN k (x <<< k)=x
 |0,_,_=>by simp[shN]
 |k+1,h,hx=>by
  have e:x <<< (k+1)=(x <<< k) <<< 1:=by rw[←BitVec.shiftLeft_add]
  have ht:(x <<< k).getLsbD 31=false:=by
   rw[BitVec.getLsbD_shiftLeft,hx (31-k) (by omega)];simp
  rw[shN,e,sh_shl ht,shN_shl x k (by omega) (fun i hi=>hx i (by omega))]
theorem upd_table (s:Reg) (u:UInt8):upd s u=(s >>> 8) ^^^ shN 8 (BitVec.ofNat 32 ((s.toNat%256) ^^^ u.toNat)):=by
 have hu:u.toNat<256:=u.toNat_lt
 have hq:(s.toNat%256) ^^^ u.toNat<2^8:=Nat.xor_lt_two_pow (Nat.mod_lt _ (by decide)) hu
 have e:s ^^^ BitVec.ofNat 32 u.toNat=((s >>> 8) <<< 8) ^^^ BitVec.ofNat 32 ((s.toNat%256) ^^^ u.toNat):=by
  apply BitVec.eq_of_getLsbD_eq
  intro i hi
  rw[BitVec.getLsbD_xor,BitVec.getLsbD_xor,byte_bit,BitVec.getLsbD_shiftLeft,BitVec.getLsbD_ushiftRight,BitVec.getLsbD_ofNat,Nat.testBit_xor,show (256:Nat)=2^8 from rfl,Nat.testBit_mod_two_pow]
  have hs:s.getLsbD i=s.toNat.testBit i:=rfl
  rw[hs]
  by_cases h:i<8
  ·simp[h,hi]
  ·have h8:8+(i-8)=i:=by omega
   rw[byte_high u (by omega),h8,hs]
   simp[h,hi]
 unfold upd
 rw[e,shN_xor,shN_shl _ 8 (by omega) (fun i hi=>by rw[BitVec.getLsbD_ushiftRight];exact BitVec.getLsbD_of_ge _ _ (by omega))]
theorem upd_int (s:Reg) (u:UInt8) (q:Nat) (hq:q=(s.toNat%256) ^^^ u.toNat):bits .xor .u32 ((s.toNat:Int) / 256) (effI q)=((upd s u).toNat:Int):=by
 rw[upd_table,←hq,←xor_reg]
 congr 1
 rw[BitVec.toNat_ushiftRight,Nat.shiftRight_eq_div_pow]
 rfl
theorem index_int (s:Reg) (u:UInt8):∃q:Nat,q=(s.toNat%256) ^^^ u.toNat∧q<256∧bits .xor .u8 ((s.toNat:Int)%256) (u.toNat:Int)=(q:Int):=by
 have hu:u.toNat<256:=u.toNat_lt
 have hm:s.toNat%256<256:=Nat.mod_lt _ (by decide)
 refine ⟨_,rfl,Nat.xor_lt_two_pow (n:=8) hm hu,?_⟩
 have:=u8_xor_nat (s.toNat%256) u.toNat hm hu
 rw[←this]
 rfl
def Parts (w:World) (B:Nat) (L:Option Addr) (ls:List (List UInt8)):Prop:=
 0<ls.length→∃a,L=some a∧a.block<B∧∀i l,ls[i]?=some l→∃A m c,w.cell? (a.add i)=some (.slice A m c)∧l.length=m∧m≤9223372036854775807∧Rd w B A l
theorem Parts.at {w:World} {B:Nat} {L:Option Addr} {ls:List (List UInt8)} {k:Nat} (h:Parts w B L ls) (hk:k<ls.length) :
 ∃a l A m c,L=some a∧ls[k]?=some l∧a.block<B∧w.cell? (a.add k)=some (.slice A m c)∧l.length=m∧m≤9223372036854775807∧Rd w B A l:=by
 obtain ⟨a,rfl,hb,hc⟩:=h (by omega)
 obtain ⟨A,m,c,h1,h2,h3,h4⟩:=hc k _ (List.getElem?_eq_getElem hk)
 exact ⟨a,_,A,m,c,rfl,List.getElem?_eq_getElem hk,hb,h1,h2,h3,h4⟩
theorem Parts.below {w w':World} {B:Nat} {L:Option Addr} {ls:List (List UInt8)} (h:Parts w B L ls) (hb:Below B w w'):Parts w' B L ls:=fun hn=>by
 obtain ⟨a,rfl,h1,hc⟩:=h hn
 refine ⟨a,rfl,h1,fun i l hl=>?_⟩
 obtain ⟨A,m,c,g1,g2,g3,g4⟩:=hc i l hl
 exact ⟨A,m,c,by rw[hb.cell (by rw[block_add];exact h1)];exact g1,g2,g3,g4.below hb⟩
theorem Parts.more {w:World} {B B':Nat} {L:Option Addr} {ls:List (List UInt8)} (h:Parts w B L ls) (hB:B≤B'):Parts w B' L ls:=fun hn=>by
 obtain ⟨a,rfl,h1,hc⟩:=h hn
 refine ⟨a,rfl,by omega,fun i l hl=>?_⟩
 obtain ⟨A,m,c,g1,g2,g3,g4⟩:=hc i l hl
 exact ⟨A,m,c,g1,g2,g3,g4.more hB⟩
theorem crcReg_append (l m:List UInt8):crcReg (l++m)=m.foldl upd (crcReg l):=by unfold crcReg;rw[List.foldl_append]
theorem flatten_snoc {ls:List (List UInt8)} {k:Nat} {l:List UInt8} (h:ls[k]?=some l):(ls.take (k+1)).flatten=(ls.take k).flatten++l:=by
 rw[List.take_add_one,h,List.flatten_append];simp
theorem foldl_snoc {l:List UInt8} {k:Nat} {u:UInt8} (r:Reg) (h:l[k]?=some u):(l.take (k+1)).foldl upd r=upd ((l.take k).foldl upd r) u:=by
 rw[take_snoc h,List.foldl_append];rfl
def Tab (w:World) (g:Nat):Prop:=∀i,i<256→w.cell? ⟨g,i,none⟩=some (.int .u32 (effI i))
theorem tab_world (w:World) (cs:Array Value) (hs:cs.size=256) (hc:∀i,i<256→cs[i]?=some (.int .u32 ((shN 8 (BitVec.ofNat 32 i)).toNat:Int))) :
 (w.alloc (.cells zero256 254)).there w.heap.size 0 cs.size∧(Tryz.prog.info? 254).map (·.size)=some cs.size∧cs.all (·.oneCell')=true ∧
   Tab ((w.alloc (.cells zero256 254)).setCells w.heap.size 0 cs.toList) w.heap.size∧Below w.heap.size w ((w.alloc (.cells zero256 254)).setCells w.heap.size 0 cs.toList):=by
 have hh:=heap_alloc_last w (.cells zero256 254)
 have ht:(w.alloc (.cells zero256 254)).there w.heap.size 0 cs.size:=fun j hj=>by
  rw[hs] at hj
  refine ⟨?_,?_⟩
  ·simp only[World.cell?,hh];simp[zero256,hj]
  ·unfold World.frozen?;rw[hh];simp
 refine ⟨ht,by rw[hs];exact (zero_of_info zero_info).2,Array.all_eq_true_iff_forall_mem.2 fun v hv=>?_,fun i hi=>?_,below_setCells _ _ _ ((Below.refl _ _).alloc (Nat.le_refl _) _) (Nat.le_refl _)⟩
 ·obtain ⟨i,hi,rfl⟩:=Array.mem_iff_getElem.1 hv
  have:=hc i (by rw[hs] at hi;exact hi)
  rw[Array.getElem?_eq_getElem hi] at this
  injection this with this
  rw[this]
  rfl
 ·have:=World.rangeAt_setCells_same (w.alloc (.cells zero256 254)) w.heap.size 0 cs.toList (by simpa using ht) i (.int .u32 (effI i)) (by simpa [effI] using hc i hi)
  simpa using this
set_option maxRecDepth 100000 in
set_option maxHeartbeats 400000 in
theorem sum_any (L:Option Addr) (n c:Nat) (ls:List (List UInt8)) (w:World) (hl:ls.length=n) (hn:n≤9223372036854775807) (hp:Parts w w.heap.size L ls) :
 Calls Tryz.prog 146 #[.slice L n c] w fun e w'=>e=.returned (.int .u32 ((crc ls.flatten).toNat:Int))∧Below w.heap.size w w':=by
 have hz:∀w,(zeroValue 254).run Tryz.prog w=.ok (.agg zero256) w:=(zero_of_info zero_info).1
 have HL:=Lib.hid hl
 have HP:=Lib.hid hp
 clear hl hp
 go_enter Tryz.func146,Tryz.ntmps146
 go_wp2_with fail
 refine (effects_any _).mono ?_
 rintro e w1 ⟨cs,rfl,hs,hcs,hb⟩
 obtain ⟨h1,h2,h3,h4,h5⟩:=tab_world w1 cs hs hcs
 have H1:=Lib.hid h1
 have H2:=Lib.hid h2
 have H3:=Lib.hid h3
 have H4:=Lib.hid h4
 have H5:=Lib.hid (hb.trans (h5.mono hb.size))
 clear hs hcs hb h1 h2 h3 h4 h5
 go_wp2_with (refine wpList_store_mid rfl 254 _ _ rfl w1.heap.size 0 cs rfl rfl H1.out H2.out H3.out ?_)
 obtain ⟨W,hW⟩:∃W,W=(w1.alloc (.cells zero256 254)).setCells w1.heap.size 0 cs.toList:=⟨_,rfl⟩
 rw[←hW] at H4 H5 ⊢
 clear hW H1 H2 H3
 have HQ:=Lib.hid (HP.out.below H5.out)
 obtain ⟨g,hg⟩:∃g,g=w1.heap.size:=⟨_,rfl⟩
 rw[←hg] at H4 ⊢
 clear hg HP
 go_loop [4,12] (fun x i=>∃k:Nat,k≤n∧i=.int .i64 k∧∃r:Reg,Hid (r=crcReg (ls.take k).flatten)∧x=.int .u32 (r.toNat:Int)) (fun _ i=>n-(intOf i).toNat)
 case atStart=>exact ⟨0,Nat.zero_le _,rfl,4294967295#32,Lib.hid rfl,rfl⟩
 case round=>
  obtain ⟨k,hk,rfl,r,H,rfl⟩:=hrel
  by_cases hlt:k<n
  ·have hlt':k<ls.length:=by rw[HL.out];exact hlt
   obtain ⟨a,l,A,m,c2,rfl,hlk,-,hc,hm,hm63,hrd⟩:=HQ.out.at hlt'
   have HK:=Lib.hid hlk
   have HM:=Lib.hid hm
   have HD:=Lib.hid hrd
   clear hlt' hlk hm hrd
   go_wp2_with fail
   go_loop [4,18] (fun x i=>∃j:Nat,j≤m∧i=.int .i64 j∧∃s:Reg,Hid (s=(l.take j).foldl upd r)∧x=.int .u32 (s.toNat:Int)) (fun _ i=>m-(intOf i).toNat)
   case atStart=>exact ⟨0,Nat.zero_le _,rfl,r,Lib.hid rfl,rfl⟩
   case round=>
    obtain ⟨j,hj,rfl,s,HS,rfl⟩:=hrel
    have hs1:=reg_lt s
    by_cases hjm:j<m
    ·have hjm':j<l.length:=by rw[HM.out];exact hjm
     obtain ⟨b,u,rfl,-,hu,hcu⟩:=HD.out.at hjm'
     obtain ⟨q,hq,hq256,hqi⟩:=index_int s u
     have hcq:=H4.out q hq256
     have HU:=Lib.hid hu
     have HQI:=Lib.hid hq
     have hu256:=u.toNat_lt
     have hq0:(0:Int)≤(q:Int):=by omega
     have hq1:(q:Int)<256:=by omega
     clear hu hjm' hq
     go_wp2
     go_round
     case rel=>exact ⟨j+1,by omega,by go_num,upd s u,Lib.hid (by rw[foldl_snoc r HU.out,HS.out]),by rw[upd_int s u q HQI.out]⟩
     case measure=>simp[intOf];omega
    ·go_wp2
     go_round
     case rel=>exact ⟨k+1,by omega,by go_num,s,Lib.hid (by
      have e:l.take j=l:=List.take_of_length_le (by rw[HM.out];omega)
      rw[flatten_snoc HK.out,crcReg_append,←H.out,HS.out,e]),rfl⟩
     case measure=>simp[intOf];omega
  ·have hsig:IntKind.u32.signed=false:=rfl
   have hmax:IntKind.u32.max=4294967295:=by decide
   go_wp2
   go_ret
   have hk':k=ls.length:=by rw[HL.out];omega
   refine ⟨ret_int ?_,H5.out⟩
   rw[not_reg',crc,H.out,hk',List.take_length]
end Go.Proofs.YtcdkopbjlakebaaGreatDoor
namespace Go.Proofs.YtcdkopbjlakebaaGreatDoor
open Go.RowKit Cr Me
theorem parts_one {w:World} {B:Nat} {A:Option Addr} {m c:Nat} {l:List UInt8} (t:TypeId) (hl:l.length=m) (hm:m≤9223372036854775807) (hB:B≤w.heap.size) (hr:Rd w B A l) {H:Nat} (hH:w.heap.size=H) :
 Parts (w.alloc (.cells #[.slice A m c] t)) (w.alloc (.cells #[.slice A m c] t)).heap.size (some ⟨H,0,none⟩) [l]:=fun _=>by
 subst hH
 refine ⟨_,rfl,by simp,fun i l' hl'=>?_⟩
 have hi:i=0:=by
  have:=(List.getElem?_eq_some_iff.1 hl').1
  simpa using this
 subst hi
 have hll:l=l':=by simpa using hl'
 subst hll
 refine ⟨A,m,c,?_,hl,hm,(hr.alloc hB _).more (by simp;omega)⟩
 have hh:=heap_alloc_new w (.cells #[.slice A m c] t)
 have e:(⟨w.heap.size,0,none⟩:Addr).add 0=⟨w.heap.size,0,none⟩:=by unfold Addr.add;simp
 rw[e]
 simp only[World.cell?,hh]
 rfl
theorem byte_of (r:Reg) (k:Nat):((r.toNat:Int) / (k:Int))%256=((UInt8.ofNat (r.toNat / k)).toNat:Int):=by
 rw[UInt8.toNat_ofNat']
 rfl
theorem lit_four (r:Reg):(#[.int .u8 ((r.toNat:Int)%256),.int .u8 ((r.toNat:Int) / 256%256),.int .u8 ((r.toNat:Int) / 65536%256),.int .u8 ((r.toNat:Int) / 16777216)]:Array Value).toList=cellsOf (four r):=by
 have h0:=byte_of r 1
 have h1:=byte_of r 256
 have h2:=byte_of r 65536
 have h3:=byte_of r 16777216
 have hr:=r.isLt
 simp only[Nat.div_one] at h0
 have e0:((r.toNat:Int) / ((1:Nat):Int))%256=(r.toNat:Int)%256:=by omega
 have e3:((r.toNat:Int) / ((16777216:Nat):Int))%256=(r.toNat:Int) / 16777216:=by omega
 rw[e0] at h0
 rw[e3] at h3
 simp only[cellsOf,four,List.map_cons,List.map_nil]
 rw[←h0,←h3,←h1,←h2]
 rfl
set_option maxRecDepth 100000 in
set_option maxHeartbeats 400000 in
theorem mark_any (A:Option Addr) (n c:Nat) (l:List UInt8) (w:World) (hl:l.length=n) (hn:n≤70368744177664) (hr:Rd w w.heap.size A l) :
 Calls Tryz.prog 107 #[.slice A n c] w fun e w'=>∃v,e=.returned v∧w'.ownsRow w.heap.size 5 1 v (n+4) (cellsOf (Cr.mark l))∧Below w.heap.size w w':=by
 obtain ⟨i0,hi0,hz0,hz1,hz2⟩:=info_parts u8_info
 have hp:=parts_one (c:=c) 24 hl (by omega) (Nat.le_refl _) hr rfl
 have HL:=Lib.hid hl
 have HR:=Lib.hid hr
 have HP:=Lib.hid hp
 clear hl hr hp
 go_enter Tryz.func107,Tryz.ntmps107
 go_wp2_with fail
 refine (sum_any _ 1 1 [l] _ rfl (by omega) HP.out).mono ?_
 rintro e w1 ⟨rfl,hb⟩
 have HB:=Lib.hid ((((Below.refl _ _).alloc (Nat.le_refl _) _).trans (hb.mono (by simp))):Below w.heap.size w w1)
 obtain ⟨r,hr⟩:∃r,r=crc [l].flatten:=⟨_,rfl⟩
 rw[←hr]
 have HC:=Lib.hid hr
 clear hr hb HP
 have hr1:=reg_lt r
 go_wp2_with (first
  |(refine wpList_make_own w1 rfl _ _ 24 rfl w.heap.size 5 i0 _ 1 Tryz.underlying24 hi0 hz0 hz1 .i64 .i64 ((n:Int)+4) (n+4) rfl rfl (by omega) (by rw[hz2];omega) (by unfold maxLen;omega) HB.out.size ?_
    intro w2 hown1 hg1)
  |(at_builtin
    refine wpList_app rfl (.tmp 12) (.tmp 13) 24 rfl w.heap.size 5 i0 _ Tryz.underlying24 hi0 hz0 hz1 hz2 rfl (.slice (some ⟨w1.heap.size,0,none⟩) 0 (n+4)) 0 [] rfl hown1 w.heap.size A n c l rfl HL.out ((HR.out.below HB.out).grown hg1 HB.out.size (by simp)) (by omega) (Nat.le_trans HB.out.size hg1.size) ?_
    intro v2 w3 hown2 hg2 hat2
    have HB3:=Lib.hid (below_app (HB.out.grown hg1 HB.out.size (by simp)) hown1 (Nat.le_refl _) (Nat.le_trans HB.out.size hg1.size) hg2)
    have HW2:=Lib.hid hown2
    clear hat2 hg2 hown2)
  |(at_builtin
    refine wpList_app rfl (.tmp 15) (.tmp 27) 24 rfl w.heap.size 5 i0 _ Tryz.underlying24 hi0 hz0 hz1 hz2 rfl v2 (0+n) ([]++l) rfl (HW2.out.alloc _) (w3.heap.size+1) (some ⟨w3.heap.size,0,none⟩) 4 4 (four r) rfl rfl (Rd.lit w3 _ _ _ (lit_four r)) (by omega) (by have:=HB3.out.size;simp;omega) ?_
    intro v4 w4 hown4 hg4 hat4))
 have hr:r=crc l:=by have:=HC.out;simpa using this
 have hb4:=below_app (HB3.out.alloc HB3.out.size _) (HW2.out.alloc _) (Nat.le_refl _) (by have:=HB3.out.size;simp;omega) hg4
 have HB4:=Lib.hid hb4
 have HW4:=Lib.hid hown4
 have HRR:=Lib.hid hr
 clear hown4 hg4 hat4 hb4 hr
 go_ret
 refine ⟨v4,rfl,?_,HB4.out⟩
 have:=HW4.out
 rw[HRR.out] at this
 simpa [Cr.mark] using this
end Go.Proofs.YtcdkopbjlakebaaGreatDoor
namespace Go.Proofs.YtcdkopbjlakebaaGreatDoor
open Go.RowKit Cr Me
end Go.Proofs.YtcdkopbjlakebaaGreatDoor
namespace Go.Proofs.YtcdkopbjlakebaaGreatDoor
open Go.RowKit Cr Me
def RFitsPost (w:World) (l:List UInt8) (code:Int) (e:Ending) (w':World):Prop:=
 Below w.heap.size w w'∧∃A c,e=.returned (.tuple #[.slice A l.length c,.int .i64 code])∧Rd w' w'.heap.size A l∧(0<l.length→∃a,A=some a∧w.heap.size≤a.block)∧l.length≤c
end Go.Proofs.YtcdkopbjlakebaaGreatDoor
namespace Go.Proofs.YtcdkopbjlakebaaGreatDoor
open Go.RowKit Cr Me
def fitB (l:List UInt8):Bool:=decide (4≤l.length)&&(Cr.mark (l.take (l.length-4))==l)
def fitL (l:List UInt8):List UInt8:=if fitB l then l.take (l.length-4) else []
def fitC (l:List UInt8):Int:=if l.length<4 then 2 else if fitB l then 0 else 5
theorem fitB_mark (l:List UInt8):fitB (Cr.mark l)=true:=by
 unfold fitB
 rw[mark_length]
 have e:(Cr.mark l).take (l.length+4-4)=l:=by unfold Cr.mark;simp
 rw[e]
 simp
def FTells (w:World) (l:List UInt8) (code:Int) (e:Ending) (w':World):Prop:=
 Below w.heap.size w w'∧∃X n c,e=.returned (.tuple #[.slice X n c,.int .i64 code])∧l.length=n∧n≤140737488355328∧Rd w' w'.heap.size X l∧(0<l.length→∃a,X=some a∧w.heap.size≤a.block)
theorem fitB_of {l:List UInt8} {k:Nat} (hl:l.length=k+4):fitB l=(Cr.mark (l.take k)==l):=by
 unfold fitB
 rw[hl]
 simp
theorem mark_news (A:Option Addr) (n c:Nat) (l:List UInt8) (w:World) (hl:l.length=n) (hn:n≤70368744177664) (hr:Rd w w.heap.size A l) :
 Calls Tryz.prog 107 #[.slice A n c] w (News w (Cr.mark l)):=
 (mark_any A n c l w hl hn hr).mono fun _ _ ⟨v,he,ho,hb⟩=>⟨v,n+4,he,ho,hb⟩
end Go.Proofs.YtcdkopbjlakebaaGreatDoor
namespace Go.Proofs.YtcdkopbjlakebaaGreatDoor
open Go.RowKit Cr Me
end Go.Proofs.YtcdkopbjlakebaaGreatDoor
namespace Go.Proofs.YtcdkopbjlakebaaGreatDoor
open Go.RowKit Cr Me
theorem fits_short (A:Option Addr) (n c:Nat) (w:World) (hn:n<4) :
 Calls Tryz.prog 150 #[.slice A n c] w fun e w'=>e=.returned (.tuple #[.slice none 0 0,.int .i64 2])∧w=w':=by
 have h1:decide ((n:Int)<4)=true:=by simp;omega
 go_enter Tryz.func150,Tryz.ntmps150
 go_wp2
 go_ret2
 exact ⟨rfl,rfl⟩
def FitsPost (w:World) (k:Nat) (l:List UInt8) (b:Bool) (e:Ending) (w':World):Prop:=
 Below w.heap.size w w'∧if b then ∃v,e=.returned (.tuple #[v,.int .i64 0])∧w'.ownsRow w.heap.size 5 1 v k (cellsOf (l.take k)) else e=.returned (.tuple #[.slice none 0 0,.int .i64 5])
set_option maxRecDepth 100000 in
set_option maxHeartbeats 400000 in
theorem fits_long (a:Addr) (k c:Nat) (l:List UInt8) (w:World) (hl:l.length=k+4) (hc:k+4≤c) (hn:k≤70368744177664) (hr:Rd w w.heap.size (some a) l) (b:Bool) (hb:(Cr.mark (l.take k)==l)=b) :
 Calls Tryz.prog 150 #[.slice (some a) (k+4) c] w fun e w'=>FitsPost w k l b e w':=by
 have hk:(l.take k).length=k:=by rw[List.length_take,hl];omega
 have HL:=Lib.hid hl
 have HR:=Lib.hid hr
 have HK:=Lib.hid hk
 have HT:=Lib.hid (hr.take k)
 have HB:=Lib.hid hb
 clear hl hr hk hb
 go_enter Tryz.func150,Tryz.ntmps150
 go_wp2_with fail
 refine (mark_any (some a) k c (l.take k) w HK.out hn HT.out).mono ?_
 rintro e w1 ⟨v,rfl,hown,hb1⟩
 obtain ⟨g,cap,rfl,-,-⟩:=hown.form (by omega)
 have HO:=Lib.hid (Rd.of_own hown)
 have HM:=Lib.hid ((mark_length (l.take k)).trans (by rw[HK.out]))
 have HB1:=Lib.hid hb1
 clear hown hb1
 go_wp2_with fail
 refine (equal_any _ _ _ _ _ _ (Cr.mark (l.take k)) l w1 _ _ HM.out HO.out HL.out (HR.out.below HB1.out)).mono ?_
 rintro e w' ⟨rfl,rfl⟩
 rw[HB.out]
 cases b with
 |false=>
  go_wp2
  go_ret2
  exact ⟨HB1.out,rfl⟩
 |true=>
  go_wp2_with fail
  refine (clone_any (some a) k c (l.take k) w1 HK.out hn ((HT.out.below HB1.out).more HB1.out.size)).mono ?_
  rintro e w2 ⟨v,m2,rfl,hown2,hb2⟩
  have hm2:m2=k:=by have h1:=hown2.1;have h2:=HK.out;rw[cellsOf_length] at h1;omega
  subst hm2
  have HB2:=Lib.hid (HB1.out.trans (hb2.mono HB1.out.size))
  have HW2:=Lib.hid hown2
  clear hown2 hb2
  go_wp2
  go_ret2
  exact ⟨HB2.out,v,rfl,own_more HW2.out HB1.out.size⟩
end Go.Proofs.YtcdkopbjlakebaaGreatDoor
namespace Go.Proofs.YtcdkopbjlakebaaGreatDoor
open Go.RowKit Cr Me
theorem fits_all (A:Option Addr) (n c:Nat) (l:List UInt8) (w:World) (hl:l.length=n) (hc:n≤c) (hn:n≤70368744177664) (hr:Rd w w.heap.size A l) :
 Calls Tryz.prog 150 #[.slice A n c] w fun e w'=>FTells w (fitL l) (fitC l) e w':=by
 by_cases h4:n<4
 ·refine (fits_short A n c w h4).mono fun e w' ⟨he,hw⟩=>?_
  subst hw
  have hb:fitB l=false:=by unfold fitB;simp;omega
  exact ⟨Below.refl _ _,none,0,0,by rw[he];unfold fitC;rw[if_pos (by omega)],by unfold fitL;rw[hb];rfl,by omega,by unfold fitL;rw[hb];exact Rd.empty,by unfold fitL;rw[hb];exact fun h=>by simp at h⟩
 ·obtain ⟨k,rfl⟩:∃k,n=k+4:=⟨n-4,by omega⟩
  obtain ⟨a,rfl,-⟩:=hr (by omega)
  have hf:=fitB_of hl
  refine (fits_long a k c l w hl hc (by omega) hr _ rfl).mono fun e w' ⟨hb,h⟩=>?_
  rw[←hf] at h
  cases hfb:fitB l with
  |false=>
   rw[hfb] at h
   have he:e=.returned (.tuple #[.slice none 0 0,.int .i64 5]):=h
   exact ⟨hb,none,0,0,by rw[he];unfold fitC;rw[if_neg (by omega),hfb];rfl,by unfold fitL;rw[hfb];rfl,by omega,by unfold fitL;rw[hfb];exact Rd.empty,by unfold fitL;rw[hfb];exact fun h=>by simp at h⟩
  |true=>
   rw[hfb] at h
   obtain ⟨v,he,ho⟩:∃v,e=.returned (.tuple #[v,.int .i64 0])∧w'.ownsRow w.heap.size 5 1 v k (cellsOf (l.take k)):=h
   obtain ⟨X,cx,rfl⟩:=own_slice ho
   have e1:fitL l=l.take k:=by unfold fitL;rw[hfb,if_pos rfl,hl];simp
   exact ⟨hb,X,k,cx,by rw[he];unfold fitC;rw[if_neg (by omega),hfb];rfl,by rw[e1,List.length_take];omega,by omega,by rw[e1];exact Rd.of_own ho,fun h=>by
    have h0:0<k:=by rw[e1,List.length_take] at h;omega
    obtain ⟨g,cap,hv,hg,-⟩:=ho.form h0
    injection hv with hv
    exact ⟨_,hv,hg⟩⟩
end Go.Proofs.YtcdkopbjlakebaaGreatDoor
namespace Go.Proofs.YtcdkopbjlakebaaGreatDoor
open Go.RowKit Cr Me
def FTellsC (w:World) (l:List UInt8) (code:Int) (e:Ending) (w':World):Prop:=
 Below w.heap.size w w'∧∃X n c,e=.returned (.tuple #[.slice X n c,.int .i64 code])∧l.length=n∧n≤140737488355328∧Rd w' w'.heap.size X l∧(0<l.length→∃a,X=some a∧w.heap.size≤a.block)∧n≤c
end Go.Proofs.YtcdkopbjlakebaaGreatDoor
end
