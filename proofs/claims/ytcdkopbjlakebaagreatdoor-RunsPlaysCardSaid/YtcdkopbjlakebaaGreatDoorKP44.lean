/- Texts put together, for a law: TxQ. -/
import Derived.Laws.Concat
import Derived.Test.YtcdkopbjlakebaaGreatDoorKP30
import Derived.Test.YtcdkopbjlakebaaGreatDoorKP2
import Derived.Test.YtcdkopbjlakebaaGreatDoorKP42
set_option maxRecDepth 100000
set_option maxHeartbeats 8000000
namespace Go.Proofs.YtcdkopbjlakebaaGreatDoor
section
open Go.RowKit Me Tx Go.Shelf Go.Lib
theorem zbY (n:Nat):∀(w:World),n<18446744073709551616 ->
 Calls Tryz.prog 60 #[.int .u64 (n:Int)] w fun e w'=>e=.returned (sv (putN n))/\Below w.heap.size w w':=by
 induction n using Nat.strongRecOn with
 |_ n ih=>
  intro w hn
  by_cases h:n<10
  ·have h1:(n:Int)<10:=by omega
   have h2:(n:Int)%256=(n:Int):=by omega
   have h3:(48+(n:Int))%256=48+(n:Int):=by omega
   obtain ⟨d,hd⟩:∃d,d=UInt8.ofNat (48+n):=⟨_,rfl⟩
   have hu:d.toNat=48+n:=by rw[hd];exact (ziz h).2
   have hi:(d.toNat:Int)=48+(n:Int):=by omega
   have e1:=xD (some ⟨w.heap.size,0,none⟩) 1 1 [d] (w.alloc (.cells #[.int .u8 (48+(n:Int))] 5)) (w.heap.size+1) rfl (Rd.lit w #[.int .u8 (48+(n:Int))] _ _ (by simp only[cellsOf,List.map_cons,List.map_nil,hi]));rw[Ye h,<-hd];clear hd
   go_enter Tryz.func60,Tryz.ntmps60
   go_wp2
   go_ret
   exact ⟨rfl,(Below.refl _ _).alloc (Nat.le_refl _) _⟩
  ·have h1:¬(n:Int)<10:=by omega
   obtain ⟨p,hp⟩:∃p,p=n / 10:=⟨_,rfl⟩
   obtain ⟨r,hr⟩:∃r,r=n%10:=⟨_,rfl⟩
   have HI1:=gI (fun w=>ih p (by omega) w (by omega));have HI2:=gI (fun w=>ih r (by omega) w (by omega));have h4:Int.tdiv (n:Int) 10=(p:Int):=by rw[Int.tdiv_eq_ediv_of_nonneg (by omega)];omega
   have h5:Int.tmod (n:Int) 10=(r:Int):=by rw[Int.tmod_eq_emod_of_nonneg (by omega)];omega
   have k1:(putN p).length<=20:=YS (by omega);have k2:putN r=[UInt8.ofNat (48+r)]:=Ye (by omega);have HE:=gI (show putN n=putN p++putN r by rw[Ve h,hp,<-hr,k2]);have k3:(putN r).length<=20:=by rw[k2];simp
   have h6:IntKind.u64.wrap (p:Int)=(p:Int):=by rw[IntKind.wrap_u64];omega
   have h7:IntKind.u64.wrap (r:Int)=(r:Int):=by rw[IntKind.wrap_u64];omega
   clear ih k2 hp hr h;have HN:=gI hn;clear hn
   go_enter Tryz.func60,Tryz.ntmps60
   go_wp2_with fail
   refine (HI1.out w).mono ?_;rintro e w1 ⟨rfl,hb1⟩;have HB1:=gI hb1;clear hb1
   go_wp2_with fail
   refine (HI2.out w1).mono ?_;rintro e w2 ⟨rfl,hb2⟩;have HB2:=gI (HB1.out.trans (hb2.mono HB1.out.size));have e1:=run_string_add_lists (P:=Tryz.prog) w2 (putN p) (putN r) (by omega) (by omega);clear hb2
   go_wp2
   go_ret
   exact ⟨by rw[HE.out];rfl,HB2.out⟩
end
end Go.Proofs.YtcdkopbjlakebaaGreatDoor
