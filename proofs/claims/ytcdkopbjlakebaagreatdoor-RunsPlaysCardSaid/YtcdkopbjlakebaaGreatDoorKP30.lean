/- Texts put together, for a law: TxP. -/
import Derived.Lib.ItoaNum
import Derived.Test.YtcdkopbjlakebaaGreatDoorKP2
import Derived.Test.YtcdkopbjlakebaaGreatDoorKP3
import Derived.Test.YtcdkopbjlakebaaGreatDoorKP1
set_option maxRecDepth 100000
set_option maxHeartbeats 8000000
namespace Go.Proofs.YtcdkopbjlakebaaGreatDoor
section
namespace Tx
open Go.Lib
theorem V9 (n:Nat):decDigits n=putN n:=by
 induction n using Nat.strongRecOn with
 |_ n ih=>
  by_cases h:n<10
  ·rw[decDigits,dif_pos h,Ye h]
  ·rw[decDigits,dif_neg h,Ve h,ih (n / 10) (by omega)]
end Tx
section
open Go.RowKit Me Tx Go.Shelf Go.Lib
theorem zdm (l:List UInt8):byteCells l=cellsOf l:=rfl
def PTab (w:World):Prop:=TabIs Tryz.prog w "internal/strconv.uint64pow10" .u64 pow10Tab
theorem ZE:Tryz.prog.globalNamed "internal/strconv.uint64pow10"=some 1:=by kernel_rfl
theorem PTab.at {w:World} (h:PTab w) (i:Nat) (hi:i<20):w.cell? ⟨1,i,none⟩=some (.int .u64 (pow10Tab.getD i 0)):=TabIs.cell h ZE i (show i<pow10Tab.length from hi)
theorem PTab.below {w w':World} (h:PTab w) (hb:Below w.heap.size w w'):PTab w':=by
 have hc:=h.at 0 (by omega);have hlt:(1:Nat)<w.heap.size:=World.block_lt_of_cell? _ _ hc;unfold PTab TabIs World.var? at *;simp only[ZE,Option.bind_some] at h ⊢;rw[hb.block 1 hlt];exact h
theorem QY (v:Value) (n:Nat) (b:List UInt8) (hn:n<=1073741824) (u:Nat) (hu:u<18446744073709551616) (B:Nat) (w:World) (ho:w.ownsRow B 5 1 v n (cellsOf b)) (hB:B<=w.heap.size) (hT:PTab w) :
 Calls Tryz.prog 98 #[v,.int .u64 (u:Int),.int .i64 10] w fun e w'=>∃v',e=.returned v'/\w'.ownsRow B 5 1 v' (n+(putN u).length) (cellsOf (b++putN u))/\Below B w w':=by
 have h:=Tryz.internal_strconv_AppendUint_10 B n u hu v (cellsOf b) w ho hB (by omega) hT;rw[V9,zdm,<-qz] at h;have HH:=gI h;clear h ho hT
 go_enter Tryz.func98,Tryz.ntmps98
 go_wp2_with fail
 refine HH.out.mono ?_;rintro e w1 ⟨v1,rfl,ho1,hb1,-⟩;have HO1:=gI (And.intro ho1 hb1);clear ho1 hb1
 go_wp2
 go_ret
 exact ⟨_,rfl,HO1.out.1,HO1.out.2⟩
theorem zjf (a:Addr) (n c:Nat) (b:List UInt8) (hb:b.length=n) (hn:n<=1073741824) (u:Nat) (hu:u<18446744073709551616) (w:World) (hr:Rd w w.heap.size (some a) b) (hT:PTab w) :
 Calls Tryz.prog 59 #[.slice (some a) n c,.int .u64 (u:Int)] w (News w (b++putN u)):=by
 have hc:∀i,i<n->w.cell? (a.add i)=some (.int .u8 ((b.map fun x:UInt8=>(x.toNat:Int)).getD i 0)):=by
  intro i hi;obtain ⟨a',u',e,-,hu',hcl⟩:=hr.at (show i<b.length by omega);injection e with e;subst e;rw[hcl];simp[hu']
 have hlen:(b.map fun x:UInt8=>(x.toNat:Int)).length=n:=by rw[List.length_map,hb]
 have hcl:=Tryz.bytes_Clone_at a n c (b.map fun x:UInt8=>(x.toNat:Int)) w hlen (by omega) hc;rw[show (b.map fun x:UInt8=>(x.toNat:Int)).map (Value.int .u8)=cellsOf b by rw[List.map_map];rfl] at hcl;have HCL:=gI hcl;have HT:=gI hT;clear hc hlen hcl hr hT
 go_enter Tryz.func59,Tryz.ntmps59
 go_wp2_with fail
 refine HCL.out.mono ?_;rintro e w1 ⟨v1,rfl,ho1,-,hb1⟩;have HO1:=gI ho1;have HB1:=gI hb1;have HT1:=gI (HT.out.below hb1);clear ho1 hb1
 go_wp2_with fail
 refine (QY v1 n b hn u hu w.heap.size w1 HO1.out HB1.out.size HT1.out).mono ?_;rintro e w2 ⟨v2,rfl,ho2,hb2⟩;have HO2:=gI (show News w (b++putN u) (.returned v2) w2 from ⟨v2,_,rfl,ho2,HB1.out.trans hb2⟩);clear ho2 hb2
 go_wp2
 go_ret
 exact HO2.out
theorem zg4 (A:Option Addr) (n c:Nat) (b:List UInt8) (hb:b.length=n) (hn:n<=1073741824) (u:Nat) (hu:u<18446744073709551616) (w:World) (hr:Rd w w.heap.size A b) (hT:PTab w) :
 Calls Tryz.prog 59 #[.slice A n c,.int .u64 (u:Int)] w (News w (b++putN u)):=by
 cases A with
 |some a=>exact zjf a n c b hb hn u hu w hr hT
 |none=>
  have h0:b=[]:=by
   rcases Nat.eq_zero_or_pos b.length with h0|h0
   ·exact List.eq_nil_of_length_eq_zero h0
   ·obtain ⟨a,e,_⟩:=hr h0
    cases e
  subst h0;have HT:=gI hT;clear hr hT
  go_enter Tryz.func59,Tryz.ntmps59
  go_wp2_with fail
  refine (Tryz.bytes_Clone_nil n c w).mono ?_;rintro e w1 ⟨rfl,rfl⟩
  go_wp2_with fail
  refine (QY (.slice none 0 0) 0 [] (by omega) u hu w1.heap.size w1 (World.ownsRow_nil _ _ _ _) (Nat.le_refl _) HT.out).mono ?_;rintro e w2 ⟨v2,rfl,ho2,hb2⟩;have HO2:=gI (show News w1 ([]++putN u) (.returned v2) w2 from ⟨v2,_,rfl,ho2,hb2⟩);clear ho2 hb2
  go_wp2
  go_ret
  exact HO2.out
end
end
end Go.Proofs.YtcdkopbjlakebaaGreatDoor
