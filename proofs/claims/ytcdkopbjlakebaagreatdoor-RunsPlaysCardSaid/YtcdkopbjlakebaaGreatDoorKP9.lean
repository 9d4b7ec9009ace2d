/- Texts put together, for a law: Blank. -/
import Derived.Lib.BytesEntry
import Derived.Laws.Externs
import Derived.Test.YtcdkopbjlakebaaGreatDoorKP3
set_option maxRecDepth 100000
set_option maxHeartbeats 8000000
namespace Go.Proofs.YtcdkopbjlakebaaGreatDoor
section
open Go.RowKit Me
def zeros (l:List UInt8):Bool:=l.all (·==0)
theorem zdy (l:List UInt8):decide (l.count 0=l.length)=zeros l:=by
 rw[Bool.eq_iff_iff,decide_eq_true_iff,zeros,List.all_eq_true,List.count_eq_length];exact ⟨fun h x hx=>by rw[beq_iff_eq];exact (h x hx).symm,fun h x hx=>by have:=h x hx;rw[beq_iff_eq] at this;exact this.symm⟩
theorem V3 {P:Program} (w:World) (B:Nat) (A:Option Addr) (n c:Nat) (l:List UInt8) (hl:l.length=n) (hr:Rd w B A l) :
 (Extern.BytealgCount.count #[.slice A n c,.int .u8 0]).run P w=.ok (.int .i64 (l.count 0:Nat)) w:=by
 have hs:=Lib.run_countString (P:=P) ⟨l.toArray⟩ 0 w
 change Sem.run P (do
  let b <-Extern.Bytes.bytesOf (.string ⟨l.toArray⟩)
  let c' <-Extern.Bytes.asByte (.int .u8 0)
  pure (goInt (b.foldl (fun n x=>if x==c' then n+1 else n) (0:Nat)))) w=_ at hs
 change Sem.run P (do
  let b <-Extern.Bytes.bytesOf (.slice A n c)
  let c' <-Extern.Bytes.asByte (.int .u8 0)
  pure (goInt (b.foldl (fun n x=>if x==c' then n+1 else n) (0:Nat)))) w=_
 have hb:(Extern.Bytes.bytesOf (.slice A n c)).run P w=.ok ⟨l.toArray⟩ w:=by
  cases A with
  |none=>
   have:l=[]:=by
    cases l with
    |nil=>rfl
    |cons x l=>
     obtain ⟨a,h,-⟩:=hr (by simp)
     cases h
   subst this;rfl
  |some a=>
   have hh:=Lib.run_loadBytesX (P:=P) w (l.map fun u=>(u.toNat:Int)) a .empty (fun j x hj=>by
    rw[List.getElem?_map] at hj
    cases hu:l[j]? with
    |none=>rw[hu] at hj;cases hj
    |some u=>
     rw[hu] at hj;injection hj with hj;subst hj;have hj':=(List.getElem?_eq_some_iff.1 hu).1;obtain ⟨a',u',e,-,h1,h2⟩:=hr.at hj';injection e with e;subst e;rw[hu] at h1;injection h1 with h1;subst h1;exact h2)
   rw[List.length_map,hl] at hh;have e:Lib.bytesOf (l.map fun u=>(u.toNat:Int))=l:=by
    simp only[Lib.bytesOf,List.map_map]
    conv=>rhs;rw[<-List.map_id l]
    refine List.map_congr_left fun u _=>?_
    simp[Function.comp]
   rw[e] at hh;have he:(⟨ByteArray.empty.data++l.toArray⟩:ByteArray)=⟨l.toArray⟩:=by
    apply ByteArray.ext
    show (#[]:Array UInt8)++l.toArray=l.toArray
    simp
   rw[he] at hh;exact hh
 simp only[Extern.Bytes.bytesOf,Sem.run_bind,Sem.run_pure,Result.andThen] at hs hb ⊢;rw[hb]
 simpa [Lib.countByte] using hs
theorem zgH (A:Option Addr) (n c:Nat) (l:List UInt8) (b2:Nat) (w:World) (B:Nat) (hl:l.length=n) (hr:Rd w B A l) (h2:w.cell? ⟨b2,0,none⟩=some (.int .u8 0)) :
 Calls Tryz.prog 124 #[.slice A n c,.slice (some ⟨b2,0,none⟩) 1 1] w fun e w'=>e=.returned (.int .i64 (l.count 0:Nat))/\w'=w:=by
 have HC:=gI (V3 (P:=Tryz.prog) w B A n c l hl hr);clear hl hr
 go_enter Tryz.func124,Tryz.ntmps124
 go_wp2
 rw[run_callFunc_extern Tryz.func158 (by kernel_rfl) (by kernel_rfl) (by kernel_rfl) (e:=Extern.BytealgCount.count) (by kernel_rfl),HC.out];simp only[Result.andThen];rw[Oper.upon_value]
 go_wp2
 go_ret
 exact ⟨rfl,rfl⟩
theorem Xz (A:Option Addr) (n c:Nat) (l:List UInt8) (w:World) (hl:l.length=n) (hr:Rd w w.heap.size A l) :
 Calls Tryz.prog 87 #[.slice A n c] w fun e w'=>e=.returned (.bool (zeros l))/\Below w.heap.size w w':=by
 have hn:l.count 0<=n:=by rw[<-hl];exact List.count_le_length
 have HZ:=gI (zdy l);have HL:=gI hl;have HR:=gI hr;obtain ⟨k,hk⟩:∃k,k=l.count 0:=⟨_,rfl⟩
 obtain ⟨z,hz⟩:∃z,z=zeros l:=⟨_,rfl⟩
 rw[<-hz,<-hk] at HZ;rw[<-hk] at hn;rw[<-hz];have HK:=gI hk;have d1:((k:Int)==(n:Int))=z:=by
  rw[<-HZ.out,HL.out,Bool.eq_iff_iff,beq_iff_eq,decide_eq_true_iff];omega
 clear hl hr hk hz
 go_enter Tryz.func87,Tryz.ntmps87
 have HB:=gI (show Below w.heap.size w (w.alloc (.cells #[.int .u8 0] 5)) from (Below.refl _ _).alloc (Nat.le_refl _) _)
 go_wp2_with fail
 refine (zgH A n c l w.heap.size _ w.heap.size HL.out (HR.out.below HB.out) (by simp[go_sem])).mono ?_;rintro e w1 ⟨rfl,rfl⟩;rw[<-HK.out]
 go_wp2
 go_ret
 exact ⟨rfl,HB.out⟩
end
end Go.Proofs.YtcdkopbjlakebaaGreatDoor
