/- Texts put together, for a law: RdSlot. -/
import Derived.Test.YtcdkopbjlakebaaGreatDoorKP21
import Derived.Test.YtcdkopbjlakebaaGreatDoorKP2
import Derived.Test.YtcdkopbjlakebaaGreatDoorKP3
import Derived.Test.YtcdkopbjlakebaaGreatDoorKP12
set_option maxRecDepth 100000
set_option maxHeartbeats 8000000
namespace Go.Proofs.YtcdkopbjlakebaaGreatDoor
section
open Go.RowKit Me Rw Ds
theorem zlx {w:World} {base size:Nat} {e:TypeId} {A:Option Addr} {n c:Nat} {xs:List Value} (h:w.ownsRow base e size (.slice A n c) n xs):c<=9223372036854775807:=by
 obtain ⟨-,⟨e,-⟩|⟨g,cap,cur,e,-,-,-,hm,-,-⟩⟩:=h
 ·injection e with _ _ e;omega
 ·injection e with _ _ e;subst e;exact hm
def qJ (S:Dsk) (n:Nat):Nat->List UInt8
 |0=>[]
 |k+1=>qJ S n k++qV S ((16*n+k:Nat):Int)
def zmp (w:World) (S:Dsk) (n:Nat) (e:Ending) (w':World):Prop:=
 Below w.heap.size w w'/\((qf S ((16*n:Nat):Int)=0/\∃A t c,e=.returned (.tuple #[.slice A t c,.int .i64 0])/\(qJ S n 16).length=t/\t<=c/\c<=9223372036854775807/\t<=2048/\Rd w' w'.heap.size A (qJ S n 16))\/(qf S ((16*n:Nat):Int)≠0/\e=.returned (.tuple #[.slice none 0 0,.int .i64 (qf S ((16*n:Nat):Int))])))
theorem zcr {w:World} {B D:Nat} {S:Dsk} {own:Nat->Prop} (h:zQ w B D S own) (hp:S.pend.length<4611686018427387904) (n:Nat) (hn:n<=1) (he:∀i<16,qf S ((16*n+i:Nat):Int)=qf S ((16*n:Nat):Int)) (hb:∀i,(qV S i).length<=128) :
 Calls Tryz.prog 85 #[.pointer (some ⟨D,0,none⟩),.int .i64 (n:Int)] w (zmp w S n):=by
 obtain ⟨i0,hi0,hz0,hz1,hz2⟩:=info_parts yO;have HA:=gI h;have HE:=gI he;have HRB:=gI hb;clear h he hb;obtain ⟨x,hx⟩:∃x,x=qf S ((16*n:Nat):Int):=⟨_,rfl⟩
 have HX:=gI hx;clear hx
 go_enter Tryz.func85,Tryz.ntmps85
 have O0:=gI (show w.ownsRow w.heap.size 5 1 (.slice none 0 0) 0 (cellsOf (qJ S n 0)) from World.ownsRow_nil _ _ _ _)
 go_wp2_with fail
 go_loopw [6,10] (fun v i wr=>∃k t:Nat,k<=16/\i=.int .i64 (k:Int)/\Hid (0<k->x=0)/\Hid ((qJ S n k).length=t/\t<=128*k)/\Hid (wr.ownsRow w.heap.size 5 1 v t (cellsOf (qJ S n k)))/\Hid (Below w.heap.size w wr)) (fun _ i _=>16-(intOf i).toNat)
 case atStart=>exact ⟨0,0,Nat.zero_le _,rfl,gI (fun h=>absurd h (by omega)),gI ⟨rfl,Nat.le_refl _⟩,O0,gI (Below.refl _ _)⟩
 case round=>
  clear O0;obtain ⟨k,t,hk,rfl,HZ,HT,O,HB⟩:=hrel;obtain ⟨A,c,e5,hc⟩:=zC O.out;subst e5;have ht:t<=2048:=by have:=HT.out.2;omega
  by_cases hlt:k<16
  ·have e1:((16*n+k:Nat):Int)=(n:Int)*16+(k:Int):=by omega
   obtain ⟨b,hb⟩:∃b,b=qV S ((16*n+k:Nat):Int):=⟨_,rfl⟩
   have hb128:b.length<=128:=by rw[hb];exact HRB.out _
   have HBB:=gI hb;have HEK:=gI (show qf S ((16*n+k:Nat):Int)=x by rw[HE.out k hlt,HX.out]);clear hb
   go_wp2_with fail
   rw[<-e1];refine (zeR (HA.out.past HB.out) ((16*n+k:Nat):Int) hp).mono ?_;rw[<-HBB.out,HEK.out];rintro e w1 ⟨hb1,A1,n1,rfl,hl1,hr1⟩;have HB1:=gI (HB.out.trans (hb1.mono HB.out.size));have O1:=gI (own_below' O.out hb1);have HL1:=gI hl1;have HR1:=gI (show Rd w1 w1.heap.size A1 b from fun hn0=>by
    obtain ⟨q,e,-,hq⟩:=hr1 (by omega);exact ⟨_,e,hq.lt,fun j u hu=>by
     have hcell:=hq.cell (i:=j) (v:=.int .u8 (u.toNat:Int)) (by rw[cellsOf,List.getElem?_map,hu];rfl);have e2:(⟨q,0,none⟩:Addr).add j=⟨q,j,none⟩:=by unfold Addr.add;split<;>simp_all
     rw[e2];exact hcell⟩)
   have HS1:=gI HB1.out.size;have hn1:n1<=128:=by omega
   clear hb1 hl1 hr1
   by_cases hx:x=0
   ·have d1:(x != 0)=false:=by rw[hx];rfl
    go_wp2_with (at_builtin;refine zF rfl (.tmp 25) (.tmp 26) 24 rfl w.heap.size 5 i0 _ Tryz.underlying24 hi0 hz0 hz1 hz2 rfl _ t _ rfl O1.out w1.heap.size A1 n1 n1 b rfl HL1.out HR1.out (by omega) HS1.out ?_;intro v3 w3 ho hg _)
    have HB3:=gI (show Below w.heap.size w w3 from HB1.out.trans ⟨hg.os,hg.tape,hg.output,hg.size,fun j hj=>hg.block j (by have:=HB1.out.size;omega) (fun e=>by have:=(O1.out.lt _ e.symm).1;omega)⟩);have HT3:=gI (show (qJ S n (k+1)).length=t+n1/\t+n1<=128*(k+1) by rw[qJ,List.length_append,HT.out.1,<-HBB.out,HL1.out];exact ⟨rfl,by have:=HT.out.2;omega⟩);have O3:=gI (show w3.ownsRow w.heap.size 5 1 v3 (t+n1) (cellsOf (qJ S n (k+1))) by rw[qJ,<-HBB.out];exact ho);clear ho hg
    go_roundw
    case rel=>exact ⟨k+1,t+n1,by omega,by go_num,gI (fun _=>hx),HT3,O3,HB3⟩
    case measure=>simp[intOf];omega
   ·have d1:(x != 0)=true:=by rw[bne_iff_ne];exact hx
    go_wp2
    exact bodyPost_ret (v:=.tuple #[.slice none 0 0,.int .i64 x]) (by simp[results,Tryz.results85,go_sem]) rfl ⟨HB1.out,.inr ⟨by rw[<-HX.out];exact hx,by rw[<-HX.out]⟩⟩
  ·have hk16:k=16:=by omega
   subst hk16
   go_wp2
   exact bodyPost_ret (v:=.tuple #[.slice A t c,.int .i64 0]) (by simp[results,Tryz.results85,go_sem]) rfl ⟨HB.out,.inl ⟨by rw[<-HX.out];exact HZ.out (by omega),A,t,c,rfl,HT.out.1,hc,zlx O.out,ht,Rd.of_own O.out⟩⟩
end
end Go.Proofs.YtcdkopbjlakebaaGreatDoor
