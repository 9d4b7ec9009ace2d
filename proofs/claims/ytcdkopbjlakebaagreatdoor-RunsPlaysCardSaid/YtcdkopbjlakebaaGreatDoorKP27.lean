/- Texts put together, for a law: StAt, StBl, StSz, StFo, StWr. -/
import Derived.StringKeys
import Derived.Maps.RangeWalk
import Derived.Maps.OwnOps
import Derived.Test.YtcdkopbjlakebaaGreatDoorKP4
import Derived.Test.YtcdkopbjlakebaaGreatDoorKP20
import Derived.Test.YtcdkopbjlakebaaGreatDoorKP16
import Derived.Test.YtcdkopbjlakebaaGreatDoorKP24
import Derived.Test.YtcdkopbjlakebaaGreatDoorKP17
import Derived.Test.YtcdkopbjlakebaaGreatDoorKP3
set_option maxRecDepth 100000
set_option maxHeartbeats 8000000
namespace Go.Proofs.YtcdkopbjlakebaaGreatDoor
section
open Go.RowKit Me Mf Rw Ds Go.Maps
abbrev chV (A:Option Addr) (n c:Nat) (r:Bool):Value:=.agg #[.slice A n c,.bool r]
def chE:Value->Option (DataW Value×List MemPlace)
 | .agg cs=>match cs.toList with
   |[.slice A n c,.bool r]=>some (.held (chV A n c r),[])
   |_=>none
 |_=>none
theorem zfB (A:Option Addr) (n c:Nat) (r:Bool):chE (chV A n c r)=some (.held (chV A n c r),[]):=rfl
theorem Qb {v:Value} {z:DataW Value×List MemPlace} (h:chE v=some z):∃A n c r,v=chV A n c r/\z=(.held (chV A n c r),[]):=by
 unfold chE at h
 split at h
 ·rename_i cs
  split at h
  ·rename_i A n c r e
   injection h with h;exact ⟨A,n,c,r,by show Value.agg cs=_;rw[<-Array.toArray_toList (xs:=cs),e],h.symm⟩
  ·cases h
 ·cases h
abbrev Key (x:List UInt8):Lit:=.string x
theorem vJ:Keyed Tryz.prog 9:=string_keyed Tryz.underlying9
theorem zaH {x:List UInt8} (h:x.length<=maxLen):keyOf Tryz.prog 9 (sv x)=some (Key x):=by
 have:=WideMaps.keyOf_string_mk Tryz.underlying9 (s:=⟨x.toArray⟩) (by show x.toArray.size<=maxLen;simpa using h)
 simpa using this
theorem zfl (x:List UInt8):WideAt.IsKeyLit (Key x):=trivial
abbrev Chg:=List UInt8->Option (Option (List UInt8))
structure Chs (w:World) (T:Nat->Prop) (M n:Nat) (C:Chg) (D:DataW Value):Prop where
 map:w.ownsMap Tryz.prog 9 chE M n D
 no:∀x,C x=none↔Maps.has D (Key x)=false
 is:∀x z,C x=some z->∃A k c,(∀zd,D.atKey (Key x) zd=.held (chV A k c z.isNone))/\(z.getD []).length=k/\k<=c/\c<=9223372036854775807/\Kk T (fun W=>Rd W W.heap.size A (z.getD [])) w
structure Sto where
 S:Dsk
 m:ManD
 C:Chg
 broken:Bool
structure OkS (X:Sto):Prop where
 fit:Fit X.m
 wf:Wf X.m
 disk:St.YL X.S.stored.length X.m.files
 big:32<X.S.stored.length
 keys:∀x,X.C x≠none->1<=x.length/\x.length<=32
 len:∀x b,X.C x=some (some b)->b.length<=1048576
structure zo (w:World) (B P D M N:Nat) (X:Sto) (own ownD:Nat->Prop):Prop where
 blk:∃A n c,Blk w P [.pointer (some ⟨D,0,none⟩),.int .u64 (X.m.version:Int),.int .u32 (X.m.next:Int),.slice A n c,.map (some M),.bool X.broken]/\ManK own A n c X.m w
 disk:zQ w B D X.S ownD
 chs:∃DD,Chs w own M N X.C DD
 dP:¬ownD P
 dM:¬ownD M
 low:∀k,own k->B<=k/\k<w.heap.size
 own:∀k,k=P\/k=M\/ownD k->own k
 lP:B<=P
 lM:B<=M
 ok:OkS X
section
variable {w w':World} {B P D M N:Nat} {X:Sto} {own ownD T:Nat->Prop}
theorem Chs.lt {C:Chg} {DD:DataW Value} (h:Chs w T M N C DD):M<w.heap.size:=h.map.lt
theorem Chs.past {C:Chg} {DD:DataW Value} (h:Chs w T M N C DD) (hb:Below w.heap.size w w'):Chs w' T M N C DD:=
 ⟨h.map.kept (row:=none) (vL hb none) (by simp),h.no,fun x z hz=>by
   obtain ⟨A,k,c,h1,h2,h3,h4,h5⟩:=h.is x z hz;exact ⟨A,k,c,h1,h2,h3,h4,h5.past hb⟩⟩
theorem zo.lt (h:zo w B P D M N X own ownD) {k:Nat} (hk:own k):B<=k/\k<w.heap.size:=h.low k hk
def Foot (P M:Nat) (ownD:Nat->Prop):Nat->Prop:=fun k=>k=P\/k=M\/ownD k
theorem zo.past (h:zo w B P D M N X own ownD) (hb:Below w.heap.size w w'):zo w' B P D M N X own ownD:=
 {h with
  blk:=by obtain ⟨A,n,c,h1,h2⟩:=h.blk;exact ⟨A,n,c,h1.past hb,h2.past hb⟩
  disk:=h.disk.past hb
  chs:=by obtain ⟨DD,hc⟩:=h.chs;exact ⟨DD,hc.past hb⟩
  low:=fun k hk=>⟨(h.low k hk).1,Nat.lt_of_lt_of_le (h.low k hk).2 hb.size⟩}
theorem Blk.six {a0 a1 a2 a3 a4 a5:Value} {b:Nat} (h:Blk w b [a0,a1,a2,a3,a4,a5]) :
 w.cell? ⟨b,0,none⟩=some a0/\w.cell? ⟨b,1,none⟩=some a1/\w.cell? ⟨b,2,none⟩=some a2/\w.cell? ⟨b,3,none⟩=some a3/\w.cell? ⟨b,4,none⟩=some a4/\w.cell? ⟨b,5,none⟩=some a5:=
 ⟨h.cell rfl,h.cell rfl,h.cell rfl,h.cell rfl,h.cell rfl,h.cell rfl⟩
def upD (X:Sto):Bool:= !X.broken&&X.S.on
theorem zeC (h:zo w B P D M N X own ownD):Calls Tryz.prog 62 #[.pointer (some ⟨P,0,none⟩)] w fun e w'=>e=.returned (.bool (upD X))/\w=w':=by
 obtain ⟨A,n,c,hb,-⟩:=h.blk;obtain ⟨c0,c1,c2,c3,c4,c5⟩:=hb.six;have HO:=gI (zfc h.disk);unfold upD;obtain ⟨o,ho⟩:∃o,o=X.S.on:=⟨_,rfl⟩
 obtain ⟨b,hbk⟩:∃b,b=X.broken:=⟨_,rfl⟩
 rw[<-ho] at HO ⊢;rw[<-hbk] at c5 ⊢;clear h hb ho hbk
 cases b with
 |true=>
  go_enter Tryz.func62,Tryz.ntmps62
  go_wp2
  go_ret
  exact ⟨rfl,rfl⟩
 |false=>
  go_enter Tryz.func62,Tryz.ntmps62
  go_wp2_with (go_at_call 100;refine HO.out.mono ?_;rintro e w' ⟨rfl,rfl⟩)
  go_ret
  exact ⟨rfl,rfl⟩
end
end
section
open Go.RowKit Me Mf Rw Ds Go.Maps
theorem YH {l:List zi} {j:Nat} {f:zi} (h:l[j]?=some f):l.take j++f::l.drop (j+1)=l:=by
 obtain ⟨hj,e⟩:=List.getElem?_eq_some_iff.1 h;rw[<-e,<-List.drop_eq_getElem_cons hj,List.take_append_drop]
section
variable {w w':World} {B P D M N:Nat} {X:Sto} {own ownD T:Nat->Prop}
def zmz (w:World) (k:List Bool) (e:Ending) (w':World):Prop:=∃D2 own2,e=.returned (.tuple #[.pointer (some ⟨D2,0,none⟩),.int .i64 0])/\Xt.MapAt w' w.heap.size D2 k own2/\Below w.heap.size w w'
theorem Xr {m:ManD} (h:Fit m):m.files.length<=2035:=by have:=y9 m;have:=yI m.files;have:=h.2;omega
theorem zaW (h:zo w B P D M N X own ownD):Calls Tryz.prog 54 #[.pointer (some ⟨P,0,none⟩)] w (zmz w (St.xG X.S.stored.length (St.vw X.m.files))):=by
 obtain ⟨A,n,c,hb,hm⟩:=h.blk;obtain ⟨c0,c1,c2,c3,c4,c5⟩:=hb.six;have HCN:=gI (Xy h.disk);have HBK:=gI hb;have HF:=gI hm.now.files;have HL:=gI hm.now.len;have HOK:=gI h.ok;have hbig:=h.ok.big;have hn:n<=2035:=by have:=Xr h.ok.fit;have:=hm.now.len;omega
 have HG:=gI h.disk.good;obtain ⟨cn,hcn⟩:∃cn,cn=X.S.stored.length:=⟨_,rfl⟩
 obtain ⟨fs,hfs⟩:∃fs,fs=X.m.files:=⟨_,rfl⟩
 have HBO:=gI (show XE fs by rw[hfs];exact h.ok.fit.1.2.2);have HOD:=gI (show St.YL cn fs by rw[hfs,hcn];exact h.ok.disk);have hc65:cn<=65536:=by rw[hcn];exact HG.out.2.2.2.1
 rw[<-hcn] at HCN hbig ⊢;rw[<-hfs] at HF HL ⊢;clear h hm hb hcn hfs HG HOK
 go_enter Tryz.func54,Tryz.ntmps54
 go_wp2_with fail
 refine HCN.out.mono ?_;rintro e w0 ⟨rfl,rfl⟩
 go_wp2_with fail
 refine (Xt.zd2 (cn:Int) w).mono ?_;rintro e w1 ⟨D2,own2,rfl,h1,hb1⟩;have e1:(min (max (cn:Int) 0) 65536).toNat=cn:=by omega
 rw[e1] at h1;have HM1:=gI h1;have HB1:=gI hb1;clear h1 hb1 HCN e1
 go_wp2_with fail
 refine (Xt.zeF HM1.out 32).mono ?_;rw[St.zdc (by omega)];rintro e w2 ⟨A2,n2,c2',rfl,-,-,-,-,-,hk2,ho2⟩;have HM2:=gI (show Xt.MapAt w2 w.heap.size D2 (St.xG cn (St.vw [])) own2 from hk2);have HB2:=gI (HB1.out.trans (ho2.below (fun k _ ho=>(HM1.out.lt ho).1) HB1.out.size));obtain ⟨e0,e1,e2,e3,e4,e5⟩:=(HBK.out.past HB2.out).six;clear hk2 ho2 c0 c1 c2 c3 c4 c5 HM1 HB1
 go_wp2_with fail
 go_loopw [22] (fun i wr=>∃j:Nat,i=.int .i64 (j:Int)/\j<=n/\Hid (Xt.MapAt wr w.heap.size D2 (St.xG cn (St.vw (fs.take j))) own2)/\Hid (Below w.heap.size w wr)) (fun i _=>n-(intOf i).toNat)
 case atStart=>exact ⟨0,rfl,Nat.zero_le _,HM2,HB2⟩
 case round=>
  clear HM2 HB2 e0 e1 e2 e3 e4 e5;obtain ⟨j,rfl,hjn,HK,HB⟩:=hrel
  by_cases hlt:j<n
  ·have hj:j<fs.length:=by rw[HL.out];exact hlt
   obtain ⟨a,f,rfl,hab,hf,A3,n3,c3,g0,g1,g2,g3,l3,b3,m3,q3⟩:=(HF.out.below HB.out).at hj;obtain ⟨nm,hnm⟩:∃nm,nm=f.name:=⟨_,rfl⟩
   obtain ⟨id,hid⟩:∃id:Nat,id=f.id:=⟨_,rfl⟩
   obtain ⟨sz,hsz⟩:∃sz,sz=f.size:=⟨_,rfl⟩
   rw[<-hnm] at g0;rw[<-hid] at g1;rw[<-hsz] at g2;obtain ⟨wb,hwb⟩:∃wb,wb=wr.alloc (fbox nm id sz A3 n3 c3):=⟨_,rfl⟩
   have hbb:Below wr.heap.size wr wb:=by rw[hwb];exact (Below.refl _ _).alloc (Nat.le_refl _) _
   have HWB:=gI hwb;have HBB:=gI (HB.out.trans (hbb.mono HB.out.size));have HKB:=gI (HK.out.past hbb);have HZ:=gI (show Cz wb own2 A3 (zL f.blocks) from fun hn0=>by
    obtain ⟨q,e,hq,hc⟩:=(q3.below (hbb.mono HB.out.size)) hn0;exact ⟨q,e,by have:=HBB.out.size;omega,fun ho=>by have:=(HKB.out.lt ho).1;omega,hc⟩)
   have HT:=gI (St.zik (c:=cn) (l:=fs.take j) (f:=f) (r:=fs.drop (j+1)) (by rw[YH hf];exact HBO.out) (by rw[YH hf];exact HOD.out));have HTK:=gI (yw hf);have hlt':(j:Int)<(n:Int):=by omega
   have L3:=gI l3;clear hnm hid hsz hwb hbb q3 hf hj l3
   go_wp2_with fail
   rw[<-HWB.out];refine (Xt.zki HKB.out A3 n3 c3 f.blocks L3.out b3 m3 HZ.out).mono ?_;rw[HT.out,<-HTK.out];rintro e w4 ⟨rfl,hk4,ho4⟩;have HK4:=gI hk4;have HB4:=gI (HBB.out.trans (ho4.below (fun k _ ho=>(HKB.out.lt ho).1) HBB.out.size));clear hk4 ho4 HT HTK g0 g1 g2 g3
   go_wp2
   go_roundw
   case rel=>exact ⟨j+1,by go_num,by omega,HK4,HB4⟩
   case measure=>simp[intOf];omega
  ·have hjn':j=n:=by omega
   subst hjn';have hk:=HK.out;rw[List.take_of_length_le (by rw[HL.out];exact Nat.le_refl _)] at hk;have HK':=gI hk;clear hk
   go_wp2
   go_ret2
   exact ⟨_,_,rfl,HK'.out,HB.out⟩
end
end
section
open Go.RowKit Me Mf Rw Ds Go.Maps
section
variable {l:List zi} {x:List UInt8} {r:Nat} {bb:Bool}
theorem YO (h:zex l x r bb) (hok:xM l):l.find? (fun f=>f.name==x)=if bb then l[r]? else none:=by
 cases bb with
 |true=>
  obtain ⟨f,hf,hx⟩:=h.is.1 rfl;obtain ⟨hr,e⟩:=List.getElem?_eq_some_iff.1 hf;rw[if_pos rfl,hf,List.find?_eq_some_iff_getElem];refine ⟨by simp[hx],r,hr,e,fun j hj=>?_⟩;have h1:=h.lo j l[j] (List.getElem?_eq_getElem (by omega)) hj;have:l[j].name≠x:=fun e=>by rw[e,yA] at h1;cases h1
  simpa using this
 |false=>
  rw[if_neg (by decide),List.find?_eq_none];intro f hf;obtain ⟨t,ht,rfl⟩:=List.mem_iff_getElem.1 hf;have hno:¬∃f,l[r]?=some f/\f.name=x:=fun h'=>by have:=h.is.2 h';cases this
  intro e;have e:l[t].name=x:=by simpa using e
  by_cases h1:t<r
  ·have:=h.lo t l[t] (List.getElem?_eq_getElem ht) h1;rw[e,yA] at this
   cases this
  ·by_cases h2:t=r
   ·subst h2;exact hno ⟨l[t],List.getElem?_eq_getElem ht,e⟩
   ·have h3:=XT hok (s:=r) (t:=t) (by omega) (List.getElem?_eq_getElem (by omega)) (List.getElem?_eq_getElem ht);rw[e] at h3;have:=h.hi r l[r] (List.getElem?_eq_getElem (by omega)) (Nat.le_refl _);rw[this] at h3
    cases h3
end
def fileOf (m:ManD) (x:List UInt8):Option zi:=m.files.find? fun f=>f.name==x
theorem xK {m:ManD} {x:List UInt8} {f:zi} (h:fileOf m x=some f):f∈m.files/\f.name=x:=⟨List.mem_of_find?_eq_some h,by have:=List.find?_some h;simpa using this⟩
def qU (X:Sto) (x:List UInt8):Int×Bool:=match X.C x with
 |some (some b)=>((b.length:Int),true)
 |some none=>(0,false)
 |none=>match fileOf X.m x with
  |some f=>(f.size,true)
  |none=>(0,false)
theorem VO (w:World):(zeroValue 126).run Tryz.prog w=.ok (chV none 0 0 false) w:=by kernel_rfl
theorem qb {w:World} {T:Nat->Prop} {M n:Nat} {C:Chg} {DD:DataW Value} (h:Chs w T M n C DD) {ops:Array Oper} {rest:List Oper} {o:Oper} {a:Act} {Q:Exit->Act->World->Prop}
 (hg:o.guard=none) (m x:Operand) (hop:o.op=Op.lookup 113 m x true) (hm:a.eval m=.map (some M)) (nm:List UInt8) (hx:a.eval x=sv nm) (hl:nm.length<=maxLen)
 (hno:C nm=none->wpList Tryz.prog ops Q rest (a.put o.dst (.tuple #[chV none 0 0 false,.bool false])) w)
 (hyes:∀z A k c,C nm=some z->(z.getD []).length=k->k<=c->c<=9223372036854775807->Kk T (fun W=>Rd W W.heap.size A (z.getD [])) w->wpList Tryz.prog ops Q rest (a.put o.dst (.tuple #[chV A k c z.isNone,.bool true])) w) :
 wpList Tryz.prog ops Q (o::rest) a w:=by
 refine wpList_lookup_own_ok w hg m x _ hop 9 126 vJ Tryz.underlying113 chE (VO w) (.held (chV none 0 0 false)) [] (zfB _ _ _ _) M n DD hm h.map _ (Key nm) hx (zaH hl) fun v ps hv=>?_
 cases hC:C nm with
 |none=>
  have hh:=(h.no nm).1 hC;rw[hh];rw[Maps.atKey_of_not_has hh] at hv;obtain ⟨A,k,c,r,rfl,e⟩:=Qb hv;injection e with e _;injection e with e;rw[<-e];exact hno hC
 |some z=>
  obtain ⟨A,k,c,h1,h2,h3,h4,h5⟩:=h.is nm z hC;have hh:Maps.has DD (Key nm)=true:=by
   cases hb:Maps.has DD (Key nm) with
   |true=>rfl
   |false=>rw[(h.no nm).2 hb] at hC;cases hC
  rw[hh];rw[h1] at hv;obtain ⟨A',k',c',r,rfl,e⟩:=Qb hv;injection e with e _;injection e with e;rw[<-e];exact hyes z A k c hC h2 h3 h4 h5
section
variable {w w':World} {B P D M N:Nat} {X:Sto} {own ownD T:Nat->Prop}
theorem zeM (h:zo w B P D M N X own ownD) (x:List UInt8) (hx:x.length<=1000):Calls Tryz.prog 81 #[.pointer (some ⟨P,0,none⟩),sv x] w fun e w'=>e=.returned (.tuple #[.int .i64 (qU X x).1,.bool (qU X x).2])/\Below w.heap.size w w':=by
 obtain ⟨A,n,c,hb,hm⟩:=h.blk;obtain ⟨c0,c1,c2,c3,c4,c5⟩:=hb.six;obtain ⟨DD,hc⟩:=h.chs;have HC:=gI hc;have HX:=gI (show x.length<=maxLen by unfold maxLen;omega);have HM:=gI hm;have HBK:=gI hb;have HN:=gI h.ok.fit.1.1;have HL:=gI hm.now.len;have HS:=gI h.ok.fit.2;obtain ⟨R,hR⟩:∃R,R=qU X x:=⟨_,rfl⟩
 rw[<-hR];have HR:=gI hR;clear hb hc h hm hR
 go_enter Tryz.func81,Tryz.ntmps81
 go_wp2_with (at_lookup;refine qb HC.out rfl _ _ rfl rfl x rfl HX.out ?_ ?_)
 ·intro hC;have HCC:=gI hC;obtain ⟨d0,d1,d2,d3,d4,d5⟩:=(HBK.out.alloc (.cells #[.slice none 0 0,.bool false] 126)).six;have hb1:Below w.heap.size w (w.alloc (.cells #[.slice none 0 0,.bool false] 126)):=(Below.refl _ _).alloc (Nat.le_refl _) _;have HB1:=gI hb1;have HM1:=gI (HM.out.past hb1).now;have HBL1:=gI (HBK.out.alloc (.cells #[.slice none 0 0,.bool false] 126));obtain ⟨w1,hw1⟩:∃w1,w1=w.alloc (.cells #[.slice none 0 0,.bool false] 126):=⟨_,rfl⟩
  rw[<-hw1] at HB1 HM1 HBL1;have HW1:=gI hw1;have HLN:=gI (show X.m.files.length<=2035 by have:=y9 X.m;have:=yI X.m.files;have:=HS.out;omega);clear hC hb1 hw1
  go_wp2_with fail
  rw[<-HW1.out];refine (Vo X.m.version X.m.next A n c X.m x w1 (by have:=HLN.out;have:=HL.out;omega) HN.out HM1.out).mono ?_;rintro e w2 ⟨r,bb,rfl,hs,hb2⟩;have HF:=gI (YO hs HN.out);have HSR:=gI hs;have HB2:=gI (HB1.out.trans (hb2.mono HB1.out.size));have HM2:=gI (HM1.out.past hb2);obtain ⟨e0,e1,e2,e3,e4,e5⟩:=(HBL1.out.past hb2).six;clear hs hb2 HW1 d0 d1 d2 d3 d4 d5 c0 c1 c2 c3 c4 c5
  cases bb with
  |true=>
   obtain ⟨f,hf,hn⟩:=HSR.out.is.1 rfl;obtain ⟨a,rfl,hab,A2,n2,c2,g0,g1,g2,g3,-⟩:=HM2.out.files.get hf;have HRR:=gI (show R=(f.size,true) by rw[HR.out];unfold qU fileOf;rw[HCC.out];show (match X.m.files.find? _ with|some f=>(f.size,true)|none=>(0,false))=_;rw[HF.out,if_pos rfl,hf]);have hrn:r<n:=by have:=(List.getElem?_eq_some_iff.1 hf).1;have:=HL.out;omega
   have hrn':(r:Int)<(n:Int):=by omega
   obtain ⟨sz,hsz⟩:∃sz,sz=f.size:=⟨_,rfl⟩
   rw[<-hsz] at g2 HRR;clear hf hn hsz g0 g1 g3
   go_wp2
   go_ret2
   rw[HRR.out];exact ⟨rfl,HB2.out⟩
  |false=>
   have HRR:=gI (show R=(0,false) by rw[HR.out];unfold qU fileOf;rw[HCC.out];show (match X.m.files.find? _ with|some f=>(f.size,true)|none=>(0,false))=_;rw[HF.out,if_neg (by decide)])
   go_wp2
   go_ret2
   rw[HRR.out];exact ⟨rfl,HB2.out⟩
 ·intro z A' k' c' hC h1 h2 h3 h4;have HRR:=gI (show R=((k':Int),!z.isNone) by
   rw[HR.out];unfold qU;rw[hC]
   cases z with
   |none=>rw[<-h1];rfl
   |some b=>rw[<-h1];rfl)
  obtain ⟨o,ho⟩:∃o,o=z.isNone:=⟨_,rfl⟩
  rw[<-ho] at HRR ⊢;clear hC h1 h4 ho c0 c1 c2 c3 c4 c5
  go_wp2_with fail
  go_region
  go_wp2
  go_ret2
  rw[HRR.out];exact ⟨rfl,((Below.refl _ _).alloc (Nat.le_refl _) _).drew⟩
end
end
section
open Go.RowKit Me Mf Rw Ds Go.Maps
theorem QA {H:Type} {P:Program} (w:World) {ops:Array Oper} {rest:List Oper} {o:Oper} {a:Act} {Q:Exit->Act->World->Prop} (hg:o.guard=none) (m:Operand) (t:TypeId) (hop:o.op=Op.call {callee:=Callee.builtin Builtin.clear,args:=#[m],argTypes:=#[t]})
 (k e:TypeId) (ht:P.underlying t=some (.map k e)) (R:Value->Option (DataW H×List MemPlace)) (b n:Nat) (D:DataW H) (hm:a.eval m=.map (some b)) (hown:w.ownsMap P k R b n D)
 (hK:∀w',w'.ownsMap P k R b n (.map [])->w.grownBy w' (some b)->wpList P ops Q rest (a.put o.dst (.tuple #[])) w') :
 wpList P ops Q (o::rest) a w:=by
 refine wpList_plain hg fun K' hK'=>?_
 obtain ⟨es,clock,hb,F,hs,-⟩:=hown;have hrun:(Builtin.clear_ #[t] o.type #[.map (some b)]).run P w=.ok (.tuple #[]) {w with heap:=w.heap.setIfInBounds b (.map #[] clock)}:=by
  simp[Builtin.clear_,run_underlying ht,MapKept.run_getObj_map hb,MapKept.run_setObj_map _ hb,Result.andThen]
 unfold Oper.wp;simp[execOp,hop,resolve,invoke,builtin,hm,hrun,Result.andThen];refine hK' _ _ (hK _ ⟨#[],clock,(MapKept.heap_set hb).1,⟨by simp,MapKept.stamped_empty _,by simp⟩,Nat.zero_le _,rfl⟩ ⟨rfl,rfl,rfl,by simp,fun i _ hi=>(MapKept.heap_set hb).2 i fun e=>hi (by rw[e])⟩)
def noC:Chg:=fun _=>none
def setC (C:Chg) (x:List UInt8) (z:Option (List UInt8)):Chg:=fun y=>if y=x then some z else C y
theorem zmm {w:World} {T:Nat->Prop} {base n c:Nat} {A:Option Addr} {l:List UInt8} (h:w.ownsRow base 5 1 (.slice A n c) n (cellsOf l)) (hT:∀k,T k->k<base):Kk T (fun W=>Rd W W.heap.size A l) w:=fun W2 ho=>
 Rd.of_own (zn h ho (fun k hk e=>by have:=(h.lt k hk).1;have:=hT k e;omega))
section
variable {w w':World} {B P D M N:Nat} {X:Sto} {own ownD T:Nat->Prop}
def zkN (w:World) (B P D M N:Nat) (X:Sto) (own ownD:Nat->Prop) (w':World):Prop:=zo w' B P D M N X own ownD/\Out (Foot P M ownD) w w'
theorem zo.map_out (h:zo w B P D M N X own ownD) (hg:w.grownBy w' (some M)):Out (Foot P M ownD) w w':=Out.of_grown hg fun k e _=>by injection e with e;exact .inr (.inl e.symm)
theorem zo.foot (h:zo w B P D M N X own ownD) {a b:World} (ho:Out (Foot P M ownD) a b):Out own a b:=ho.more fun k _ hk=>h.own k hk
theorem zo.changed (h:zo w B P D M N X own ownD) (hg:w.grownBy w' (some M)) {N':Nat} {C':Chg} {DD:DataW Value} (hc:Chs w' own M N' C' DD) (hk:∀x,C' x≠none->1<=x.length/\x.length<=32) (hl:∀x b,C' x=some (some b)->b.length<=1048576) :
 zo w' B P D M N' {X with C:=C'} own ownD:=by
 have ho:Out (fun k=>k=M) w w':=Out.of_grown hg fun k e _=>by injection e with e;exact e.symm
 have hPM:P≠M:=fun e=>by
  obtain ⟨A,n,c,⟨t,hb⟩,-⟩:=h.blk;obtain ⟨DD0,h0⟩:=h.chs;obtain ⟨es,clock,hm,-⟩:=h0.map;rw[e,hm] at hb
  cases hb
 exact {
  blk:=by obtain ⟨A,n,c,h1,h2⟩:=h.blk;exact ⟨A,n,c,h1.out ho hPM,h2.out (h.foot (h.map_out hg))⟩
  disk:=h.disk.out ho fun k hk e=>h.dM (by rw[<-e];exact hk)
  chs:=⟨DD,hc⟩
  dP:=h.dP
  dM:=h.dM
  own:=h.own
  low:=fun k hk=>⟨(h.low k hk).1,Nat.lt_of_lt_of_le (h.low k hk).2 hg.size⟩
  lP:=h.lP
  lM:=h.lM
  ok:={h.ok with keys:=hk,len:=hl}}
theorem Chs.put {C:Chg} {DD:DataW Value} (h:Chs w T M N C DD) (hM:T M) {x:List UInt8} {z:Option (List UInt8)} {A:Option Addr} {k c:Nat} (hw:w'.ownsMap Tryz.prog 9 chE M (N+1) (DD.put (Key x) (.held (chV A k c z.isNone)))) (hg:w.grownBy w' (some M))
 (h1:(z.getD []).length=k) (h2:k<=c) (h3:c<=9223372036854775807) (h4:Kk T (fun W=>Rd W W.heap.size A (z.getD [])) w):Chs w' T M (N+1) (setC C x z) (DD.put (Key x) (.held (chV A k c z.isNone))):=by
 have ho:Out T w w':=Out.of_grown hg fun k e _=>by injection e with e;rw[<-e];exact hM
 refine ⟨hw,fun y=>?_,fun y z' hz=>?_⟩
 ·unfold setC
  by_cases e:y=x
  ·subst e;rw[if_pos rfl,Maps.has_put_same h.map.isMap (zfl _)]
   simp
  ·rw[if_neg e,Maps.has_put_other (by intro e';injection e' with e';exact e e')];exact h.no y
 ·unfold setC at hz
  by_cases e:y=x
  ·subst e;rw[if_pos rfl] at hz;injection hz with hz;subst hz;exact ⟨A,k,c,fun zd=>Maps.atKey_put_same h.map.isMap (zfl _) _ _,h1,h2,h3,h4.out ho⟩
  ·rw[if_neg e] at hz;obtain ⟨A',k',c',q1,q2,q3,q4,q5⟩:=h.is y z' hz;exact ⟨A',k',c',fun zd=>(Maps.atKey_put_other (by intro e';injection e' with e';exact e e') _ _).trans (q1 zd),q2,q3,q4,q5.out ho⟩
theorem Chs.clear {w':World} (hw:w'.ownsMap Tryz.prog 9 chE M N (.map [])):Chs w' T M N noC (.map []):=⟨hw,fun x=>⟨fun _=>rfl,fun _=>rfl⟩,fun x z hz=>by cases hz⟩
def xg (up:Bool) (x:List UInt8) (n:Int):Int:=if up then (if x.length=0\/32<x.length then 8 else if 1048576<n then 4 else 0) else 6
theorem ziT {p:Value} {up:Bool} (hu:Calls Tryz.prog 62 #[p] w fun e w'=>e=.returned (.bool up)/\w=w') (x:List UInt8) (n:Int) :
 Calls Tryz.prog 66 #[p,sv x,.int .i64 n] w fun e w'=>e=.returned (.int .i64 (xg up x n))/\w=w':=by
 have HU:=gI hu;obtain ⟨r,hr⟩:∃r,r=xg up x n:=⟨_,rfl⟩
 rw[<-hr];have HR:=gI hr;clear hu hr
 cases up with
 |false=>
  go_enter Tryz.func66,Tryz.ntmps66
  go_wp2_with (go_at_call 62;refine HU.out.mono ?_;rintro e w' ⟨rfl,rfl⟩)
  go_ret
  exact ⟨by rw[HR.out];rfl,rfl⟩
 |true=>
  obtain ⟨m,hm⟩:∃m,m=x.length:=⟨_,rfl⟩
  have hsz:(ByteArray.mk x.toArray).size=m:=by rw[hm];exact List.size_toArray ..
  have hR:=HR.out;unfold xg at hR;rw[if_pos rfl,<-hm] at hR;have HR2:=gI hR;clear HR hR
  by_cases h0:m=0
  ·have e0:x=[]:=List.eq_nil_of_length_eq_zero (by omega);have HR3:=gI (show r=8 by rw[HR2.out,if_pos (.inl h0)]);subst e0;clear HR2 hsz hm h0
   go_enter Tryz.func66,Tryz.ntmps66
   go_wp2_with (go_at_call 62;refine HU.out.mono ?_;rintro e w' ⟨rfl,rfl⟩)
   go_ret
   exact ⟨by rw[HR3.out];rfl,rfl⟩
  ·have q0:¬x=[]:=fun e=>h0 (by rw[hm,e];rfl)
   have q1:x.isEmpty=false:=by
    cases x with
    |nil=>exact absurd rfl q0
    |cons a l=>rfl
   by_cases h1:32<m
   ·have d1:decide ((32:Int)<(m:Int))=true:=by simp;omega
    have HR3:=gI (show r=8 by rw[HR2.out,if_pos (.inr h1)]);clear HR2 hm h0
    go_enter Tryz.func66,Tryz.ntmps66
    go_wp2_with (go_at_call 62;refine HU.out.mono ?_;rintro e w' ⟨rfl,rfl⟩)
    go_ret
    exact ⟨by rw[HR3.out];rfl,rfl⟩
   ·have d1:decide ((32:Int)<(m:Int))=false:=by simp;omega
    by_cases h2:1048576<n
    ·have d2:decide ((1048576:Int)<n)=true:=by simp;omega
     have HR3:=gI (show r=4 by rw[HR2.out,if_neg (by omega),if_pos h2]);clear HR2 hm h0
     go_enter Tryz.func66,Tryz.ntmps66
     go_wp2_with (go_at_call 62;refine HU.out.mono ?_;rintro e w' ⟨rfl,rfl⟩)
     go_ret
     exact ⟨by rw[HR3.out];rfl,rfl⟩
    ·have d2:decide ((1048576:Int)<n)=false:=by simp;omega
     have HR3:=gI (show r=0 by rw[HR2.out,if_neg (by omega),if_neg h2]);clear HR2 hm h0
     go_enter Tryz.func66,Tryz.ntmps66
     go_wp2_with (go_at_call 62;refine HU.out.mono ?_;rintro e w' ⟨rfl,rfl⟩)
     go_ret
     exact ⟨by rw[HR3.out];rfl,rfl⟩
end
end
section
open Go.RowKit Me Mf Rw Ds Go.Maps
theorem zg5 {H:Type} {P:Program} {w:World} {o:Oper} {rest:List Oper} {a:Act} {Q:Exit->Act->World->Prop} (m x v:Operand) (t:TypeId) (ho:o.op=Op.mapUpdate t m x v)
 (k e:TypeId) (K':Keyed P k) (ht:P.underlying t=some (.map k e)) (R:Value->Option (DataW H×List MemPlace)) (b n:Nat) (D:DataW H) (hm:a.eval m=.map (some b)) (hown:w.ownsMap P k R b n D) (hn:n<maxLen)
 (key val:Value) (kl:Lit) (hx:a.eval x=key) (hv:a.eval v=val) (hkey:keyOf P k key=some kl) (d:DataW H) (ps:List MemPlace) (hval:R val=some (d,ps))
 (h:∀w',w'.ownsMap P k R b (n+1) (D.put kl d)->w.grownBy w' (some b)->Tl (Gw.zX P Q rest (a.put o.dst undef) w')):Tl (Gw.zX P Q (o::rest) a w):=by
 obtain ⟨w',hrun,r1,r2⟩:=hown.update K' ht hn hkey hval;refine ⟨?_⟩;show Oper.wp P o a w _ _
 unfold Oper.wp;simp[execOp,ho,hm,hx,hv,hrun,Result.andThen];exact (h _ r1 r2).out
section
variable {w w':World} {B P D M N:Nat} {X:Sto} {own ownD T:Nat->Prop}
def zdx (w:World) (B P D M N:Nat) (X:Sto) (own ownD:Nat->Prop) (r:Int) (C:Chg) (e:Ending) (w':World):Prop:=
 e=.returned (.int .i64 r)/\((r≠0/\zkN w B P D M N X own ownD w')\/(r=0/\zkN w B P D M (N+1) {X with C:=C} own ownD w'))
theorem zgO {up:Bool} {x:List UInt8} {n:Int} (h:xg up x n=0):up=true/\1<=x.length/\x.length<=32/\n<=1048576:=by
 unfold xg at h
 split at h
 ·rename_i hu
  split at h
  ·cases h
  ·split at h
   ·cases h
   ·exact ⟨hu,by omega,by omega,by omega⟩
 ·cases h
theorem QI {C:Chg} {x:List UInt8} {z:Option (List UInt8)} (h:∀y,C y≠none->1<=y.length/\y.length<=32) (hx:1<=x.length/\x.length<=32):∀y,setC C x z y≠none->1<=y.length/\y.length<=32:=fun y hy=>by
 unfold setC at hy
 split at hy
 ·rename_i e;rw[e];exact hx
 ·exact h y hy
theorem za7 {C:Chg} {x:List UInt8} {z:Option (List UInt8)} (h:∀y b,C y=some (some b)->b.length<=1048576) (hz:∀b,z=some b->b.length<=1048576):∀y b,setC C x z y=some (some b)->b.length<=1048576:=fun y b hy=>by
 unfold setC at hy
 split at hy
 ·injection hy with hy;exact hz b hy
 ·exact h y b hy
def wrcG (P M n c H:Nat) (A:Option Addr) (x b:List UInt8):Gw.Fact:=fun t v w=>
 match t with
 |0|16|17=>v=.pointer (some ⟨P,0,none⟩)
 |18=>v=.pointer (some ⟨P,4,none⟩)
 |19=>v=.map (some M)
 |1|20=>v=sv x
 |2|21=>v=.slice A n c
 |22=>∃Y k,v=.slice Y n k/\w.ownsRow H 5 1 (.slice Y n k) n (cellsOf b)
 |23=>∃Y k,v=chV Y n k false/\w.ownsRow H 5 1 (.slice Y n k) n (cellsOf b)
 |_=>True
theorem zah (h:zo w B P D M N X own ownD) (x:List UInt8) (A:Option Addr) (n c:Nat) (b:List UInt8) (hb:b.length=n) (hn:n<=70368744177664) (hr:Rd w w.heap.size A b) (hN:N<maxLen) :
 Calls Tryz.prog 38 #[.pointer (some ⟨P,0,none⟩),sv x,.slice A n c] w (zdx w B P D M N X own ownD (xg (upD X) x n) (setC X.C x (some b))):=by
 have HA:=gI (ziT (zeC h) x (n:Int));obtain ⟨r,hr0⟩:∃r,r=xg (upD X) x n:=⟨_,rfl⟩
 rw[<-hr0] at HA ⊢;have HR0:=gI hr0;have HH:=gI h;have HBL:=gI hb;have HRD:=gI hr;obtain ⟨A0,n0,c0',hbk,-⟩:=h.blk;have HBK:=gI hbk;clear hr0 h hb hr hbk
 by_cases hz:r=0
 ·subst hz;obtain ⟨hu,hx1,hx2,hn2⟩:=zgO HR0.out.symm;obtain ⟨DD,hc⟩:=HH.out.chs;have HC:=gI hc;have HX:=gI (zaH (x:=x) (by unfold maxLen;omega));have hnM:own M:=HH.out.own M (.inr (.inl rfl));clear hc hu
  go_enter Tryz.func38,Tryz.ntmps38
  go_wp2_with (go_at_call 66;refine HA.out.mono ?_;rintro e w' ⟨rfl,rfl⟩)
  refine Qh 8 (wrcG P M n c w.heap.size A x b) [16,17,18,19,20,21,22,23] [([0],none),([16],none),([17],none),([18],none),([1],none),([2],none),([21],none),([22],none)] 24 (by kernel_rfl) (by kernel_rfl) rfl ?h0 ?hreq rfl ?hend
  case h0=>
   intro t W hnd _;unfold wrcG
   split<;>first|rfl|trivial|exact absurd (by simp) hnd
  case hreq=>
   refine ⟨?_,?_,?_,?_,?_,?_,?_,?_,trivial⟩
   all_goals
    intro ac W hg hk;have hg':Below w.heap.size w W:=hg;obtain ⟨q0,q1,q2,q3,q4,q5⟩:=(HBK.out.past hg').six;simp only[Gw.Knows,wrcG] at hk
    try (simp[go_sem,Gw.zw,Gw.Ok,Gw.Post,Gw.Holds,wrcG,Gw.zk.refl,hk,q4];done)
   ·simp[go_sem,Gw.zw,Gw.Ok,Gw.Post,Gw.Holds,wrcG,Gw.zk.refl,hk];refine (xV A n c b W HBL.out hn ((HRD.out.below hg').more hg'.size)).mono ?_;intro e w5 h5;obtain ⟨Y,n5,c5,rfl,hl,-,ho,hr5,hb5⟩:=h5.open;have e5:n5=n:=by rw[<-hl,HBL.out]
    subst e5;exact ⟨_,rfl,hb5,fun W2 hW2=>⟨Y,c5,rfl,own_below (zU ho hg'.size) hW2⟩⟩
   ·obtain ⟨Y,k,e22,ho⟩:=hk.1;simp[go_sem,Gw.zw,Gw.Ok,Gw.Post,Gw.Holds,wrcG,Gw.zk.refl,e22];exact fun W2 hW2=>⟨Y,k,⟨rfl,rfl⟩,own_below ho hW2⟩
  case hend=>
   intro y w2 hg hy;obtain ⟨Y,k,e23,hown⟩:∃Y k,y 23=chV Y n k false/\w2.ownsRow w.heap.size 5 1 (.slice Y n k) n (cellsOf b):=(hy 23 (by simp)).now;have e19:y 19=.map (some M):=(hy 19 (by simp)).now;have e20:y 20=sv x:=(hy 20 (by simp)).now;have hg':Below w.heap.size w w2:=hg;have hst:=HH.out.past hg';have hch:=HC.out.past hg';simp only[Gw.zm,Act.put,List.setIfInBounds_toArray,List.set_cons_zero,List.set_cons_succ];rw[e23,e19,e20];refine zg5 (.tmp 19) (.tmp 20) (.tmp 23) _ rfl 9 126 vJ Tryz.underlying113 chE M N DD rfl hch.map hN (sv x) (chV Y n k false) (Key x) rfl rfl HX.out (.held (chV Y n k false)) [] (zfB _ _ _ _) ?_;intro w3 hw3 hg3;obtain ⟨hk1,hk2⟩:n<=k/\k<=9223372036854775807:=by
    obtain ⟨-,⟨e,-⟩|⟨g',cap',cur,e,-,-,h1,h2,-⟩⟩:=hown
    ·injection e with _ e2 e3;subst e2 e3;omega
    ·injection e with _ e2 e3;subst e3;have:maxLen<=9223372036854775807:=by unfold maxLen;omega
     omega
   have hput:=hch.put (z:=some b) hnM hw3 hg3 (A:=Y) (k:=n) (c:=k) HBL.out hk1 hk2 (zmm hown fun j hj=>(HH.out.lt hj).2);have hnew:=hst.changed hg3 hput (QI HH.out.ok.keys ⟨hx1,hx2⟩) (za7 HH.out.ok.len fun b' e=>by injection e with e;rw[<-e,HBL.out];omega);have HNEW:=gI hnew;have HO3:=gI ((Out.of_below hg').trans (hst.map_out hg3));clear hnew hput hch hst hg3 hw3 hown hg hy hg' e23 e19 e20;refine zeD ?_;simp only[Act.put,List.setIfInBounds_toArray,List.set_cons_zero,List.set_cons_succ]
   go_wp2
   go_ret
   exact ⟨rfl,.inr ⟨rfl,HNEW.out,HO3.out⟩⟩
 ·have d1:(r != 0)=true:=by rw[bne_iff_ne];exact hz
  go_enter Tryz.func38,Tryz.ntmps38
  go_wp2_with (go_at_call 66;refine HA.out.mono ?_;rintro e w' ⟨rfl,rfl⟩)
  go_ret
  exact ⟨rfl,.inl ⟨hz,HH.out,Out.refl _ _⟩⟩
end
end
end Go.Proofs.YtcdkopbjlakebaaGreatDoor
