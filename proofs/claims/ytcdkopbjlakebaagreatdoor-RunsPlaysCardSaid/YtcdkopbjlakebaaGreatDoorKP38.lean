/- Texts put together, for a law: StNm. -/
import Derived.Maps.Ext
import Derived.Test.YtcdkopbjlakebaaGreatDoorKP27
import Derived.Test.YtcdkopbjlakebaaGreatDoorKP1
set_option maxRecDepth 100000
set_option maxHeartbeats 8000000
namespace Go.Proofs.YtcdkopbjlakebaaGreatDoor
section
open Go.RowKit Me Mf Rw Ds Go.Maps Go.Shelf
def hasN (X:Sto) (x:List UInt8):Bool:=match X.C x with
 |some z=>z.isSome
 |none=>decide (x∈X.m.files.map (·.name))
structure ZT (X:Sto) (l:List (List UInt8)):Prop where
 rise:l.Pairwise fun x y=>less x y=true
 mem:∀x,x∈l↔hasN X x=true
theorem key_inj {x y:List UInt8}:Key x=Key y↔x=y:=⟨fun e=>by injection e,fun e=>by rw[e]⟩
theorem Yu (x y:List UInt8):(Key x).sameKey (Key y)=decide (x=y):=by
 by_cases h:x=y
 ·subst h;simp[Key,Lit.sameKey]
 ·rw[Maps.sameKey_ne (fun e=>h (key_inj.1 e))];simp[h]
theorem za3 {v:Value} {kl:Lit} (h:keyOf Tryz.prog 9 v=some kl):∃x:List UInt8,v=sv x/\kl=Key x/\x.length<=maxLen:=by
 obtain ⟨s,rfl,rfl,hs⟩:=WideMaps.string_of_keyOf Tryz.underlying9 h;exact ⟨s.data.toList,(zhb s).symm,rfl,by have:s.data.size<=maxLen:=hs;simpa using this⟩
def V6 (l:List (List UInt8)):List Lit:=l.map fun x=>Key x
theorem zgn (l:List (List UInt8)) (x:List UInt8):V6 (l++[x])=V6 l++[Key x]:=by simp[V6]
theorem zh9 (l:List (List UInt8)):∀x∈V6 l,WideAt.IsKeyLit x:=by
 intro x hx;obtain ⟨_,_,rfl⟩:=List.mem_map.1 hx
 trivial
theorem zia (x:List UInt8) (l:List (List UInt8)):(V6 l).any (fun y=>y.sameKey (Key x))=decide (x∈l):=by
 rw[Bool.eq_iff_iff,List.any_eq_true,decide_eq_true_iff]
 constructor
 ·rintro ⟨k,hk,he⟩;obtain ⟨y,hy,rfl⟩:=List.mem_map.1 hk;rw[Yu,decide_eq_true_iff] at he
  rwa[<-he]
 ·exact fun h=>⟨Key x,List.mem_map_of_mem h,by rw[Yu];simp⟩
structure SetN (D:DataW Unit) (p:List UInt8->Bool):Prop where
 tidy:∃es,D=.map es/\es.Pairwise (fun a b=>a.1≠b.1)/\∀q∈es,∃x:List UInt8,q.1=Key x
 has:∀x,Maps.has D (Key x)=p x
theorem SetN.keys {D:DataW Unit} {p:List UInt8->Bool} (h:SetN D p):(strKeys D).Nodup/\∀x,x∈strKeys D↔p x=true:=by
 obtain ⟨es,rfl,h1,h2⟩:=h.tidy;have hm:∀x,x∈strKeys (.map es:DataW Unit)↔p x=true:=fun x=>by
  rw[<-h.has x,Maps.has_eq,List.any_eq_true];show x∈es.map _↔_
  rw[List.mem_map]
  constructor
  ·rintro ⟨q,hq,e⟩;obtain ⟨y,hy⟩:=h2 q hq;refine ⟨q,hq,?_⟩;rw[hy] at e ⊢;have e:y=x:=e;rw[Yu,e]
   simp
  ·rintro ⟨q,hq,e⟩;obtain ⟨y,hy⟩:=h2 q hq;refine ⟨q,hq,?_⟩;rw[hy] at e ⊢;rw[Yu,decide_eq_true_iff] at e;exact e
 refine ⟨?_,hm⟩;show (es.map _).Nodup
 rw[List.nodup_iff_pairwise_ne,List.pairwise_map];refine h1.imp_of_mem fun ha hb hne e=>hne ?_
 obtain ⟨x,hx⟩:=h2 _ ha;obtain ⟨y,hy⟩:=h2 _ hb;rw[hx,hy] at e ⊢;have e:x=y:=e;rw[e]
theorem zca {w:World} {R:Value->Option (DataW Unit×List MemPlace)} {b n:Nat} {D:DataW Unit} (h:w.ownsMap Tryz.prog 9 R b n D):∃es,D=.map es/\es.Pairwise (fun a b=>a.1≠b.1)/\∀q∈es,∃x:List UInt8,q.1=Key x:=by
 obtain ⟨es,e,h1,-⟩:=h.entries vJ;refine ⟨es,e,h1,fun q hq=>?_⟩;obtain ⟨es0,clock,hb,F,hs,e0⟩:=h;rw[e] at e0;injection e0 with e0;rw[e0] at hq;obtain ⟨v,hv⟩:=Maps.fit_keys F q (mem_sorted.1 hq);obtain ⟨x,-,hx,-⟩:=za3 hv;exact ⟨x,hx⟩
theorem XY (x y:List UInt8):decide (x<=y)= !less y x:=by
 have e:less y x=decide (y<x):=bytesLess_eq y x;rw[e]
 by_cases h:y<x
 ·have:¬x<=y:=fun h'=>h' h
  simp[h,this]
 ·have:x<=y:=h;simp[h,this]
theorem zdL {l:List (List UInt8)} (h:l.Nodup):(l.mergeSort fun x y=>decide (x<=y)).Pairwise fun x y=>less x y=true:=by
 have hp:=List.mergeSort_perm l (fun x y=>decide (x<=y));have hn:=hp.nodup_iff.2 h;have hs:(l.mergeSort fun x y=>decide (x<=y)).Pairwise fun x y=>decide (x<=y)=true:=by
  refine List.pairwise_mergeSort (le:=fun x y=>decide (x<=y)) (fun a b c hab hbc=>?_) (fun a b=>?_) l
  ·rw[XY] at hab hbc ⊢;simp only[Bool.not_eq_true'] at hab hbc ⊢
   by_cases e:a=b
   ·rw[e];exact hbc
   ·have h1:=Zk hab (fun e'=>e e'.symm)
    by_cases e2:b=c
    ·rw[<-e2];exact hab
    ·exact XW (xO h1 (Zk hbc fun e'=>e2 e'.symm))
  ·rw[XY,XY]
   cases hba:less b a with
   |false=>rfl
   |true=>rw[XW hba];rfl
 rw[List.nodup_iff_pairwise_ne] at hn;refine (hs.and hn).imp fun ⟨h1,h2⟩=>?_
 rw[XY] at h1;simp only[Bool.not_eq_true'] at h1;exact Zk h1 (fun e=>h2 e.symm)
theorem zh8 (mb:Option Nat) (W:World):Calls Tryz.prog 57 #[.map mb] W fun e w'=>e=.returned (.func (.func 95) #[] #[.pointer (some ⟨W.heap.size,0,none⟩)])/\w'=W.alloc (.cells #[.map mb] 120):=
 callsIn_wide.1 (AnyZ.keys_in Tryz.shKeys Fence.wide 5 trivial rfl mb W)
theorem zjn (m:Nat):AnyZ.SortsIn Tryz.prog Tryz.shSorted_ren Fence.wide m:=
 ⟨fun blk off cap ss W hH hblk hsz=>callsIn_wide.2 (AnyM.slices_Sort_string Tryz.shSort blk off cap ss W hH hblk hsz),
  fun p cap W=>callsIn_wide.2 (AnyM.slices_Sort_string_none Tryz.shSort p cap W)⟩
theorem zdM (b nn:Nat) (D0:DataW Unit) (R:Value->Option (DataW Unit×List MemPlace)) (w:World) (hown:w.ownsMap Tryz.prog 9 R b nn D0) (hmax:Maps.size D0<=maxLen) (hbytes:Maps.size D0*16<=140737488355328) :
 Calls Tryz.prog 56 #[.func (.func 95) #[] #[.pointer (some ⟨w.heap.size,0,none⟩)]] (w.alloc (.cells #[.map (some b)] 120)) fun e w'=>∃(v:Value) (ss:List (List UInt8)),e=.returned v/\ss.Perm (strKeys D0) /\
  w'.ownsRow (w.alloc (.cells #[.map (some b)] 120)).heap.size 9 1 v ss.length ((ss.mergeSort (fun x y=>decide (x<=y))).map encStr)/\(v=.slice none 0 0↔ss=[])/\Below (w.alloc (.cells #[.map (some b)] 120)).heap.size (w.alloc (.cells #[.map (some b)] 120)) w':=by
 have hbl:=hown.lt;have hseq:SeqGives Fence.wide 2 Tryz.prog 95 #[.pointer (some ⟨w.heap.size,0,none⟩)] encStr (fun ss=>ss.Perm (strKeys D0)) (Maps.size D0) (w.alloc (.cells #[.map (some b)] 120)):=
  AnyZ.keys_gives (ρ:=Tryz.shKeys_ren) {Tryz.shKeys with} Fence.wide _ trivial rfl (by omega) w.heap.size b nn D0 _ (by simp) (by simp) (by
   obtain ⟨es,clock,hb,Ft,hs,hD⟩:=hown;exact ⟨es,clock,(Below.heap_alloc _ _ b hbl).trans hb,Ft,hs,hD⟩)
 exact callsIn_wide.1 (AnyZ.sorted_in Tryz.shSorted Fence.wide 5 trivial trivial trivial trivial rfl (by omega) (zjn _) (enters_of Tryz.func94 (by kernel_rfl) rfl) 95 #[.pointer (some ⟨w.heap.size,0,none⟩)] trivial (enters_of Tryz.func95 (by kernel_rfl) rfl) _ _ hmax hbytes _ hseq)
structure CV where
 A:Option Addr
 n:Nat
 c:Nat
 r:Bool
section
variable {w w':World} {B P D M N:Nat} {X:Sto} {own ownD T:Nat->Prop}
theorem zlX {A A':Option Addr} {n c n' c':Nat} {r r':Bool} (h:chV A n c r=chV A' n' c' r'):r=r':=by
 have h:=Value.agg.inj h;have h:=congrArg Array.toList h;simp only[List.cons.injEq,Value.bool.injEq] at h;exact h.2.1
theorem QU {T:Nat->Prop} {n:Nat} {C:Chg} {DD:DataW Value} {w0:World} (hc:Chs w0 T M N C DD) {ops:Array Oper} {rest:List Oper} {o:Oper} {a:Act} {Q:Exit->Act->World->Prop} (hg:o.guard=none) (it:Operand) (hop:o.op=Op.next it false) (I:Nat) (left:Lit->Bool) (cnt:Nat)
 (hit:a.eval it=.pointer (some ⟨I,0,none⟩)) (h:w.ranges Tryz.prog 9 chE M I n DD left cnt)
 (hDone:cnt=0->(∀kl,left kl=false)->wpList Tryz.prog ops Q rest (a.put o.dst (.tuple #[.bool false])) w)
 (hMore:∀(x:List UInt8) (z:Option (List UInt8)) (A:Option Addr) (k c:Nat) (w':World) (cnt':Nat),C x=some z->x.length<=maxLen->w'.ranges Tryz.prog 9 chE M I n DD (fun q=>left q&& !q.sameKey (Key x)) cnt'->cnt'<cnt->w.grownBy w' (some I) ->
   (Instr.entry (.pointer (some ⟨I,0,none⟩))).run Tryz.prog w'=.ok (.tuple #[sv x,chV A k c z.isNone]) w'->wpList Tryz.prog ops Q rest (a.put o.dst (.tuple #[.bool true,sv x,chV A k c z.isNone])) w') :
 wpList Tryz.prog ops Q (o::rest) a w:=by
 refine wpList_next_ranges (α:=List UInt8) (β:=CV) w hg it hop 9 vJ chE (fun x=>sv x) (fun p=>chV p.A p.n p.c p.r) (fun key kl hk=>(za3 hk).imp fun x h=>h.1) (fun v y hv=>by obtain ⟨A,a,b,r,e,-⟩:=Qb hv;exact ⟨⟨A,a,b,r⟩,e⟩) M I n DD left cnt hit h hDone ?_;rintro x ⟨A4,k4,c4,r4⟩ kl y w7 cnt7 hkey hlk hR hat hrg7 hlt7 hg7 hs7 hen;obtain ⟨x',ex,ekl,hxl⟩:=za3 hkey;injection ex with ex;injection ex with ex;have ex:=List.toArray_inj ex;subst ex;subst ekl;obtain ⟨A5,k5,c5,r5,e5,ey⟩:=Qb hR;subst ey;obtain ⟨z,hz⟩:∃z,C x=some z:=by
  cases hC:C x with
  |some z=>exact ⟨z,rfl⟩
  |none=>
   have h1:=(hc.no x).1 hC;have h2:=Maps.has_true_of_atKey hat;rw[h1] at h2
   cases h2
 have hrz:r4=z.isNone:=by
  obtain ⟨A6,k6,c6,h1,-⟩:=hc.is x z hz;have h2:(DataW.held (chV A5 k5 c5 r5):DataW Value)=.held (chV A6 k6 c6 z.isNone):=(hat (.held (.bool false))).symm.trans (h1 _);exact zlX (e5.trans (DataW.held.inj h2))
 subst hrz;exact hMore x z A4 k4 c4 w7 cnt7 hz hxl hrg7 hlt7 hg7 hen
def midN (X:Sto) (left:Lit->Bool) (x:List UInt8):Bool:=match X.C x with
 |some z=>if left (Key x) then decide (x∈X.m.files.map (·.name)) else z.isSome
 |none=>decide (x∈X.m.files.map (·.name))
theorem zj6 (X:Sto) {left:Lit->Bool} (h:∀kl,left kl=false) (x:List UInt8):midN X left x=hasN X x:=by
 unfold midN hasN
 cases X.C x with
 |none=>rfl
 |some z=>simp[h]
def zk7 (w:World) (X:Sto) (N:Nat) (e:Ending) (w':World):Prop:=
 ∃A n c l,e=.returned (.slice A n c)/\ZT X l/\l.length=n/\n<=2035+N/\w'.ownsRow w.heap.size 9 1 (.slice A n c) n (l.map sv)/\Below w.heap.size w w'
theorem zgb {w w':World} {v:Value} {D2:DataW Unit} {R:Value->Option (DataW Unit×List MemPlace)} {b n2:Nat} {ss:List (List UInt8)} {base:Nat} (W:World) (hown:W.ownsMap Tryz.prog 9 R b n2 D2) (hn:n2<=2035+N) (hh:∀x,Maps.has D2 (Key x)=hasN X x)
 (hp:ss.Perm (strKeys D2)) (hr:w'.ownsRow base 9 1 v ss.length ((ss.mergeSort (fun x y=>decide (x<=y))).map encStr)) (hbase:w.heap.size<=base) (hb:Below w.heap.size w w'):zk7 w X N (.returned v) w':=by
 obtain ⟨hk1,hk2⟩:=SetN.keys (p:=hasN X) ⟨zca hown,hh⟩;have hms:=List.mergeSort_perm ss (fun x y=>decide (x<=y));have hl:(ss.mergeSort fun x y=>decide (x<=y)).length=ss.length:=hms.length_eq;obtain ⟨A,c,rfl⟩:=(zC hr:∃A c,v=.slice A ss.length c/\_).imp fun A h=>h.imp fun c h=>h.1
 refine ⟨A,ss.length,c,_,rfl,⟨zdL (hp.nodup_iff.2 hk1),fun x=>?_⟩,hl,?_,zU hr hbase,hb⟩
 ·rw[hms.mem_iff,hp.mem_iff,hk2]
 ·have h1:=hp.length_eq;obtain ⟨es,e,-,-⟩:=zca hown;have h2:=hown.size_le;rw[e] at h1 h2;have h3:(strKeys (.map es:DataW Unit)).length=es.length:=by show (es.map _).length=_;simp
  have h4:Maps.size (.map es:DataW Unit)=es.length:=rfl;omega
theorem zai (h:zo w B P D M N X own ownD) (hN:N<=1000000):Calls Tryz.prog 29 #[.pointer (some ⟨P,0,none⟩)] w (zk7 w X N):=by
 have hmm:=@run_makeMap Tryz.prog;obtain ⟨A,n,c,hbk,hm⟩:=h.blk;obtain ⟨H,hH⟩:∃H,H=w.heap.size:=⟨_,rfl⟩
 obtain ⟨wz,hwz⟩:∃wz,wz=w.alloc (.map #[] 0):=⟨_,rfl⟩
 have hbz:Below w.heap.size w wz:=by rw[hwz];exact (Below.refl _ _).alloc (Nat.le_refl _) _
 obtain ⟨p0,p1,p2,p3,p4,p5⟩:=(hbk.past hbz).six;have HOZ:=gI (show wz.ownsMap Tryz.prog 9 ue H 0 (setOf uu (V6 [])) by rw[hwz,hH];exact World.ownsMap_made (H:=Unit) w Tryz.prog 9 ue);have HF:=gI hm.now.files;have HL:=gI hm.now.len;have HBK:=gI hbk;have HH:=gI h;have HBZ:=gI hbz;have HWZ:=gI hwz;have HHW:=gI hH;have hn:=Xr h.ok.fit;have hL:=hm.now.len;have hn2:n<=2035:=by omega
 rw[hwz] at p0 p1 p2 p3 p4 p5;obtain ⟨fs,hfs⟩:∃fs,fs=X.m.files:=⟨_,rfl⟩
 rw[<-hfs] at HF HL;have HFS:=gI hfs;have HWN:=gI (fun (f:zi) (hf:f∈fs)=>show f.name.length<=maxLen by rw[hfs] at hf;have:=(h.ok.fit.1.1.1 f hf).2;unfold maxLen;omega);clear hwz hbz hbk hm h hH hn hL hfs
 go_enter Tryz.func29,Tryz.ntmps29
 go_wp2_with fail
 rw[<-HWZ.out,<-HHW.out];clear HWZ p0 p1 p2 p3 p4 p5
 go_loopw [17] (fun i wr=>∃j:Nat,i=.int .i64 (j:Int)/\j<=n/\Hid (wr.ownsMap Tryz.prog 9 ue H j (setOf uu (V6 ((fs.take j).map (·.name)))))/\Hid (Below w.heap.size w wr)) (fun i _=>n-(intOf i).toNat)
 case atStart=>exact ⟨0,rfl,Nat.zero_le _,HOZ,HBZ⟩
 case round=>
  clear HOZ HBZ;obtain ⟨j,rfl,hjn,HO,HB⟩:=hrel
  by_cases hlt:j<n
  ·have hj:j<fs.length:=by rw[HL.out];exact hlt
   obtain ⟨a,f,rfl,hab,hf,A3,n3,c3,g0,g1,g2,g3,-⟩:=(HF.out.below HB.out).at hj;have HKEY:=gI (zaH (HWN.out f (List.mem_of_getElem? hf)));obtain ⟨nm,hnm⟩:∃nm,nm=f.name:=⟨_,rfl⟩
   obtain ⟨id,hid⟩:∃id:Nat,id=f.id:=⟨_,rfl⟩
   obtain ⟨sz,hsz⟩:∃sz,sz=f.size:=⟨_,rfl⟩
   have HTK:=gI (show V6 ((fs.take (j+1)).map (·.name))=V6 ((fs.take j).map (·.name))++[Key nm] by rw[yw hf,List.map_append,hnm];exact zgn _ _);rw[<-hnm] at g0 HKEY;rw[<-hid] at g1;rw[<-hsz] at g2;have hlt':(j:Int)<(n:Int):=by omega
   clear hnm hid hsz hf hj
   go_wp2_with (at_mapUpdate;refine wpList_mapUpdate_own _ rfl _ _ _ 120 rfl 9 124 vJ Tryz.underlying120 ue H j _ rfl (HO.out.alloc _) (by unfold maxLen;omega) _ _ (Key nm) rfl rfl HKEY.out uu [] unitElem_mk ?_;intro w1 hown1 hgrow1;have HO1:=gI hown1;have HG1:=gI hgrow1;clear hown1 hgrow1)
   have HB1:=gI ((HB.out.alloc HB.out.size (fbox nm id sz A3 n3 c3)).grown HG1.out (by simp;have:=HB.out.size;omega) (fun k e=>by injection e with e;have:=HHW.out;omega));have ho1:=HO1.out;rw[<-setOf_snoc,<-HTK.out] at ho1;have HO2:=gI ho1;clear ho1 HO1 HG1
   go_roundw
   case rel=>exact ⟨j+1,by go_num,by omega,HO2,HB1⟩
   case measure=>simp[intOf];omega
  ·have hjn':j=n:=by omega
   subst hjn';have hO:=HO.out;have hB:=HB.out;rw[List.take_of_length_le (by rw[HL.out];exact Nat.le_refl _)] at hO;clear HO HB hlt
   generalize wr=w5 at *
   have HB5:=gI hB;obtain ⟨p0,p1,p2,p3,p4,p5⟩:=(HBK.out.past hB).six;obtain ⟨DD,hc⟩:=(HH.out.past hB).chs;have HC:=gI hc;have HO5:=gI hO;have hHM:M<H:=by have:=(HH.out.lt (HH.out.own M (.inr (.inl rfl)))).2;have:=HHW.out;omega
   have hH5:H<w5.heap.size:=hO.lt;obtain ⟨I,hI⟩:∃I,I=w5.heap.size:=⟨_,rfl⟩
   have HI:=gI hI;clear hO hB hc hI
   go_wp2_with (at_range;refine wpList_range_own _ rfl _ 113 rfl 9 126 vJ Tryz.underlying113 chE M N DD rfl HC.out.map ?_;intro w6 hrg6 hg6 hs6;have HRG:=gI hrg6;have HG6:=gI hg6;clear hrg6 hg6 hs6)
   go_frame
   rw[<-HI.out] at HRG ⊢;have HNM:=gI (fun x=>show Maps.has (setOf uu (V6 (fs.map (·.name)))) (Key x)=decide (x∈X.m.files.map (·.name)) by rw[Maps.has_setOf _ _ _ (zh9 _),zia,HFS.out]);have hwI:w.heap.size<=I:=by have:=HHW.out;have:=HI.out;omega
   go_loopw [31] (fun _ wr=>∃(left:Lit->Bool) (cnt:Nat) (D2:DataW Unit) (n2:Nat),Hid (wr.ranges Tryz.prog 9 chE M I N DD left cnt)/\n2+cnt<=j+N/\Hid (wr.ownsMap Tryz.prog 9 ue H n2 D2)/\Hid (∀x,Maps.has D2 (Key x)=midN X left x)/\Hid (Below w.heap.size w wr))
    (fun _ wr=>wr.rangeLeft M I)
   case atStart=>
    refine ⟨_,_,_,j,HRG,?_,gI (HO5.out.kept HG6.out (by simp)),gI fun x=>?_,gI (HB5.out.grown HG6.out HB5.out.size (fun k e=>by cases e))⟩
    ·have:=HC.out.map.size_le;omega
    ·rw[HNM.out];unfold midN
     cases hC:X.C x with
     |none=>rfl
     |some z=>
      have:Maps.has DD (Key x)=true:=by
       cases hb:Maps.has DD (Key x) with
       |true=>rfl
       |false=>rw[(HC.out.no x).2 hb] at hC;cases hC
      simp only[this,if_true]
   case round=>
    clear HRG HG6 HO5 HB5;obtain ⟨left,cnt,D2,n2,HR,hn2c,HO,HHAS,HB⟩:=hrel
    go_wp2_with (at_next;refine QU HC.out rfl _ rfl I left cnt rfl HR.out ?_ ?_)
    ·intro hc0 hl0;have HEND:=gI (fun x=>(HHAS.out x).trans (zj6 X hl0 x));obtain ⟨w7,hw7⟩:∃w7,w7=wr.alloc (.cells #[.map (some H)] 120):=⟨_,rfl⟩
     have HW7:=gI hw7;have HB7:=gI (show Below w.heap.size w w7 by rw[hw7];exact HB.out.alloc HB.out.size _);have HSC:=gI (zdM H n2 D2 ue wr HO.out (by have:=HO.out.size_le;unfold maxLen;omega) (by have:=HO.out.size_le;omega));rw[<-hw7] at HSC;have hw57:w.heap.size<=w7.heap.size:=HB7.out.size;clear hl0 hc0 hw7 HHAS
     go_wp2_with fail
     refine (zh8 (some H) wr).mono ?_;rintro e w8 ⟨rfl,rfl⟩
     go_wp2_with fail
     rw[<-HW7.out];refine HSC.out.mono ?_;rintro e w8 ⟨v,ss,rfl,hp,hr,-,hb8⟩;have HPO:=gI (zgb (X:=X) (N:=N) wr HO.out (by omega) HEND.out hp hr hw57 (HB7.out.trans (hb8.mono hw57)));clear hp hr hb8
     go_wp2
     go_ret
     exact HPO.out
    ·intro x z A4 k4 c4 w7 cnt7 hz hxl hrg7 hlt7 hg7 hen;have HLN:=gI (show ∀q:DataW Unit,(Maps.has q (Key x)=z.isSome)->(∀y,y≠x->Maps.has q (Key y)=Maps.has D2 (Key y))->∀y,Maps.has q (Key y)=midN X (fun kl=>left kl&& !kl.sameKey (Key x)) y from fun q h1 h2 y=>by
      by_cases e:y=x
      ·subst e;rw[h1];unfold midN;rw[hz];simp[Yu]
      ·rw[h2 y e,HHAS.out y];unfold midN;simp only[Yu,decide_eq_false e,Bool.not_false,Bool.and_true])
     have HKEY:=gI (zaH hxl);have HRG7:=gI hrg7;have hHI:H≠I:=by have:=HI.out;omega
     have HO7:=gI (HO.out.kept hg7 (by intro e;injection e with e;exact hHI e));have HB7:=gI (HB.out.grown hg7 HB.out.size (fun k e=>by injection e with e;omega));have HRL:=gI (HR.out.left_eq);have hMH:M≠H:=by omega
     clear hrg7 hg7 HR HO HHAS HB hz hxl
     cases z with
     |none=>
      go_wp2_with (at_delete;refine wpList_delete_own _ rfl _ _ 120 9 rfl 124 vJ Tryz.underlying120 ue H n2 D2 rfl (HO7.out.alloc _) _ (Key x) rfl HKEY.out ?_;intro w8 hown8 hturn8;have HO8:=gI hown8;have HT8:=gI hturn8.grown;clear hown8 hturn8)
      go_frame
      have hrg8:=(HRG7.out.alloc (.cells #[.slice A4 k4 c4,.bool true] 126)).kept HT8.out (by intro e;injection e with e;exact hMH e) (by intro e;injection e with e;exact hHI e.symm);have HB8:=gI ((HB7.out.alloc HB7.out.size (.cells #[.slice A4 k4 c4,.bool true] 126)).grown HT8.out (by simp;have:=HB7.out.size;omega) (fun k e=>by injection e with e;have:=HHW.out;omega));have HH8:=gI (HLN.out _ Maps.has_del_same (fun y e=>Maps.has_del_other (fun e'=>e (key_inj.1 e'))))
      go_roundw
      case rel=>exact ⟨_,cnt7,_,n2,gI hrg8,by omega,HO8,HH8,HB8⟩
      case measure=>rw[hrg8.left_eq,HRL.out];exact hlt7
     |some b=>
      go_wp2_with (at_mapUpdate;refine wpList_mapUpdate_own _ rfl _ _ _ 120 rfl 9 124 vJ Tryz.underlying120 ue H n2 D2 rfl (HO7.out.alloc _) (by unfold maxLen;omega) _ _ (Key x) rfl rfl HKEY.out uu [] unitElem_mk ?_;intro w8 hown8 hg8;have HO8:=gI hown8;have HT8:=gI hg8;clear hown8 hg8)
      go_frame
      have hrg8:=(HRG7.out.alloc (.cells #[.slice A4 k4 c4,.bool false] 126)).kept HT8.out (by intro e;injection e with e;exact hMH e) (by intro e;injection e with e;exact hHI e.symm);have HB8:=gI ((HB7.out.alloc HB7.out.size (.cells #[.slice A4 k4 c4,.bool false] 126)).grown HT8.out (by simp;have:=HB7.out.size;omega) (fun k e=>by injection e with e;have:=HHW.out;omega));have HH8:=gI (HLN.out _ (Maps.has_put_same HO7.out.isMap (zfl _) uu) (fun y e=>Maps.has_put_other (fun e'=>e (key_inj.1 e')) uu))
      go_roundw
      case rel=>exact ⟨_,cnt7,_,n2+1,gI hrg8,by omega,HO8,HH8,HB8⟩
      case measure=>rw[hrg8.left_eq,HRL.out];exact hlt7
end
end
end Go.Proofs.YtcdkopbjlakebaaGreatDoor
