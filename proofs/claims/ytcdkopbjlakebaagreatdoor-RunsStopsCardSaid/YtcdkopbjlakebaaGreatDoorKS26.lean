/- Texts put together, for a law: RdSlot. -/
import Derived.Test.YtcdkopbjlakebaaGreatDoorKS22
import Derived.Test.YtcdkopbjlakebaaGreatDoorKS2
import Derived.Test.YtcdkopbjlakebaaGreatDoorKS3
import Derived.Test.YtcdkopbjlakebaaGreatDoorKS12
section
namespace Go.Proofs.YtcdkopbjlakebaaGreatDoor
open Go.RowKit Me Rw Ds
theorem own_c63 {w:World} {base size:Nat} {e:TypeId} {A:Option Addr} {n c:Nat} {xs:List Value} (h:w.ownsRow base e size (.slice A n c) n xs):c≤9223372036854775807:=by
 obtain ⟨-,⟨e,-⟩|⟨g,cap,cur,e,-,-,-,hm,-,-⟩⟩:=h
 ·injection e with _ _ e;omega
 ·injection e with _ _ e;subst e;exact hm
def slotD (S:Dsk) (n:Nat):Nat→List UInt8
 |0=>[]
 |k+1=>slotD S n k++readD S ((16*n+k:Nat):Int)
def SlPost (w:World) (S:Dsk) (n:Nat) (e:Ending) (w':World):Prop:=
 Below w.heap.size w w'∧((readE S ((16*n:Nat):Int)=0∧∃A t c,e=.returned (.tuple #[.slice A t c,.int .i64 0])∧(slotD S n 16).length=t∧t≤c∧c≤9223372036854775807∧t≤2048∧Rd w' w'.heap.size A (slotD S n 16))∨(readE S ((16*n:Nat):Int)≠0∧e=.returned (.tuple #[.slice none 0 0,.int .i64 (readE S ((16*n:Nat):Int))])))
set_option maxRecDepth 100000 in
set_option maxHeartbeats 1000000 in
theorem readSlot_any {w:World} {B D:Nat} {S:Dsk} {own:Nat→Prop} (h:DiskAt w B D S own) (hp:S.pend.length<4611686018427387904) (n:Nat) (hn:n≤1) (he:∀i<16,readE S ((16*n+i:Nat):Int)=readE S ((16*n:Nat):Int)) (hb:∀i,(readD S i).length≤128) :
 Calls Tryz.prog 85 #[.pointer (some ⟨D,0,none⟩),.int .i64 (n:Int)] w (SlPost w S n):=by
 obtain ⟨i0,hi0,hz0,hz1,hz2⟩:=info_parts u8_info
 have HA:=Lib.hid h
 have HE:=Lib.hid he
 have HRB:=Lib.hid hb
 clear h he hb
 obtain ⟨x,hx⟩:∃x,x=readE S ((16*n:Nat):Int):=⟨_,rfl⟩
 have HX:=Lib.hid hx
 clear hx
 go_enter Tryz.func85,Tryz.ntmps85
 have O0:=Lib.hid (show w.ownsRow w.heap.size 5 1 (.slice none 0 0) 0 (cellsOf (slotD S n 0)) from World.ownsRow_nil _ _ _ _)
 go_wp2_with fail
 go_loopw [6,10] (fun v i wr=>∃k t:Nat,k≤16∧i=.int .i64 (k:Int)∧Hid (0<k→x=0)∧Hid ((slotD S n k).length=t∧t≤128*k)∧Hid (wr.ownsRow w.heap.size 5 1 v t (cellsOf (slotD S n k)))∧Hid (Below w.heap.size w wr)) (fun _ i _=>16-(intOf i).toNat)
 case atStart=>exact ⟨0,0,Nat.zero_le _,rfl,Lib.hid (fun h=>absurd h (by omega)),Lib.hid ⟨rfl,Nat.le_refl _⟩,O0,Lib.hid (Below.refl _ _)⟩
 case round=>
  clear O0
  obtain ⟨k,t,hk,rfl,HZ,HT,O,HB⟩:=hrel
  obtain ⟨A,c,e5,hc⟩:=own_slice' O.out
  subst e5
  have ht:t≤2048:=by have:=HT.out.2;omega
  by_cases hlt:k<16
  ·have e1:((16*n+k:Nat):Int)=(n:Int)*16+(k:Int):=by omega
   obtain ⟨b,hb⟩:∃b,b=readD S ((16*n+k:Nat):Int):=⟨_,rfl⟩
   have hb128:b.length≤128:=by rw[hb];exact HRB.out _
   have HBB:=Lib.hid hb
   have HEK:=Lib.hid (show readE S ((16*n+k:Nat):Int)=x by rw[HE.out k hlt,HX.out])
   clear hb
   go_wp2_with fail
   rw[←e1]
   refine (read_any (HA.out.past HB.out) ((16*n+k:Nat):Int) hp).mono ?_
   rw[←HBB.out,HEK.out]
   rintro e w1 ⟨hb1,A1,n1,rfl,hl1,hr1⟩
   have HB1:=Lib.hid (HB.out.trans (hb1.mono HB.out.size))
   have O1:=Lib.hid (own_below' O.out hb1)
   have HL1:=Lib.hid hl1
   have HR1:=Lib.hid (show Rd w1 w1.heap.size A1 b from fun hn0=>by
    obtain ⟨q,e,-,hq⟩:=hr1 (by omega)
    exact ⟨_,e,hq.lt,fun j u hu=>by
     have hcell:=hq.cell (i:=j) (v:=.int .u8 (u.toNat:Int)) (by rw[cellsOf,List.getElem?_map,hu];rfl)
     have e2:(⟨q,0,none⟩:Addr).add j=⟨q,j,none⟩:=by unfold Addr.add;split<;>simp_all
     rw[e2];exact hcell⟩)
   have HS1:=Lib.hid HB1.out.size
   have hn1:n1≤128:=by omega
   clear hb1 hl1 hr1
   by_cases hx:x=0
   ·have d1:(x != 0)=false:=by rw[hx];rfl
    go_wp2_with (at_builtin;refine wpList_app rfl (.tmp 25) (.tmp 26) 24 rfl w.heap.size 5 i0 _ Tryz.underlying24 hi0 hz0 hz1 hz2 rfl _ t _ rfl O1.out w1.heap.size A1 n1 n1 b rfl HL1.out HR1.out (by omega) HS1.out ?_;intro v3 w3 ho hg _)
    have HB3:=Lib.hid (show Below w.heap.size w w3 from HB1.out.trans ⟨hg.os,hg.tape,hg.output,hg.size,fun j hj=>hg.block j (by have:=HB1.out.size;omega) (fun e=>by have:=(O1.out.lt _ e.symm).1;omega)⟩)
    have HT3:=Lib.hid (show (slotD S n (k+1)).length=t+n1∧t+n1≤128*(k+1) by rw[slotD,List.length_append,HT.out.1,←HBB.out,HL1.out];exact ⟨rfl,by have:=HT.out.2;omega⟩)
    have O3:=Lib.hid (show w3.ownsRow w.heap.size 5 1 v3 (t+n1) (cellsOf (slotD S n (k+1))) by rw[slotD,←HBB.out];exact ho)
    clear ho hg
    go_roundw
    case rel=>exact ⟨k+1,t+n1,by omega,by go_num,Lib.hid (fun _=>hx),HT3,O3,HB3⟩
    case measure=>simp[intOf];omega
   ·have d1:(x != 0)=true:=by rw[bne_iff_ne];exact hx
    go_wp2
    exact bodyPost_ret (v:=.tuple #[.slice none 0 0,.int .i64 x]) (by simp[results,Tryz.results85,go_sem]) rfl ⟨HB1.out,.inr ⟨by rw[←HX.out];exact hx,by rw[←HX.out]⟩⟩
  ·have hk16:k=16:=by omega
   subst hk16
   go_wp2
   exact bodyPost_ret (v:=.tuple #[.slice A t c,.int .i64 0]) (by simp[results,Tryz.results85,go_sem]) rfl ⟨HB.out,.inl ⟨by rw[←HX.out];exact HZ.out (by omega),A,t,c,rfl,HT.out.1,hc,own_c63 O.out,ht,Rd.of_own O.out⟩⟩
end Go.Proofs.YtcdkopbjlakebaaGreatDoor
end
