/- Texts put together, for a law: MfB, MfP, File, MfS, MGet, MfG. -/
import Derived.Maps.OwnSet
import Derived.Lib.Strings
import Derived.Carry
import Derived.Lib.AppendStr
import Derived.Deep.DeepCutAuto
import Derived.Deep.CutBlock
import Derived.Test.YtcdkopbjlakebaaGreatDoorKP15
import Derived.Test.YtcdkopbjlakebaaGreatDoorKP7
import Derived.Test.YtcdkopbjlakebaaGreatDoorKP2
import Derived.Test.YtcdkopbjlakebaaGreatDoorKP14
import Derived.Test.YtcdkopbjlakebaaGreatDoorKP3
import Derived.Test.YtcdkopbjlakebaaGreatDoorKP17
set_option maxRecDepth 100000
set_option maxHeartbeats 8000000
namespace Go.Proofs.YtcdkopbjlakebaaGreatDoor
section
section
open Go.RowKit Me Mf Va
def ZV (l:List Nat):List Value:=l.map fun x:Nat=>Value.int .u64 (x:Int)
theorem zaZ (l:List Nat):(ZV l).length=l.length:=by simp[ZV]
theorem ZO (A:Option Addr) (n c:Nat) (ns:List Nat) (w:World) (B:Nat) (hl:ns.length=n) (hn:n<=1000) (h64:∀x∈ns,x<18446744073709551616) (hr:Cs w B A (ZV ns)) (hB:B<=w.heap.size) :
 Calls Tryz.prog 164 #[.slice A n c] w (News w (yZ ns)):=by
 have HL:=gI hl;have H64:=gI h64;have HR:=gI (hr.more hB);clear hl h64 hr
 go_enter Tryz.func164,Tryz.ntmps164
 go_wp2
 go_loopw [3,8] (fun v i wr=>∃k t:Nat,k<=n/\i=.int .i64 (k:Int)/\t<=10000/\Hid (t=(yZ (ns.take k)).length)/\Hid (wr.ownsRow w.heap.size 5 1 v t (cellsOf (yZ (ns.take k))))/\Hid (Below w.heap.size w wr)) (fun _ i _=>n-(intOf i).toNat)
 case atStart=>exact ⟨0,0,Nat.zero_le _,rfl,by omega,gI rfl,gI (World.ownsRow_nil _ _ _ _),gI (Below.refl _ _)⟩
 case round=>
  obtain ⟨k,t,hk,rfl,ht,HT,HO,HB⟩:=hrel
  by_cases hlt:k<n
  ·obtain ⟨x,hx⟩:∃x,ns[k]?=some x:=⟨_,List.getElem?_eq_getElem (by rw[HL.out];exact hlt)⟩
   obtain ⟨a,rfl,hab,hc⟩:=(HR.out.below HB.out) (by rw[zaZ,HL.out];omega);have hcx:=hc k (.int .u64 (x:Int)) (by simp[ZV,hx]);have hx64:=H64.out x (List.mem_of_getElem? hx);have HX:=gI hx;clear hc hx;have HTX:=gI (show (yZ (ns.take (k+1))).length<=10000 from by
    have:=VJ (ns.take (k+1)) (fun y hy=>H64.out y (List.mem_of_mem_take hy));rw[List.length_take] at this
    omega)
   obtain ⟨V,cv,rfl⟩:=zJ HO.out;have HRD:=gI (Rd.of_own HO.out)
   go_wp2_with fail
   refine (zlo V t cv x _ wr HT.out.symm (by omega) HRD.out hx64).mono ?_;rintro e w1 ⟨v1,t1,rfl,ho1,hb1⟩;have hlen1:=ho1.1;rw[za,Nat.mul_one] at hlen1;have HB1:=gI (HB.out.trans (hb1.mono HB.out.size));have HE:=gI (zgB HX.out);have HO1:=gI (zU ho1 HB.out.size);rw[<-HE.out] at HO1 hlen1;have ht1:t1<=10000:=by have:=HTX.out;omega
   have HT1:=gI hlen1.symm;clear ho1 hb1 hlen1
   go_wp2
   go_roundw
   case rel=>exact ⟨k+1,t1,by omega,by go_num,ht1,HT1,HO1,HB1⟩
   case measure=>simp[intOf];omega
  ·have hkn:k=n:=by omega
   subst hkn;have e:ns.take k=ns:=by rw[<-HL.out,List.take_length]
   have HO':=HO;rw[e] at HO';clear HO HT
   go_wp2
   go_ret
   exact ⟨_,_,rfl,HO'.out,HB.out⟩
theorem zd1 {w:World} {base size n b:Nat} {e t:TypeId} {v:Value} {xs:List Value} {cs:Array Value} (h:w.ownsRow base e size v n xs) (hb:w.heap[b]?=some (.cells cs t)) (hne:e≠t):v.ownBlock≠some b:=by
 rcases h.2 with ⟨rfl,-⟩|⟨g,cap,cur,rfl,-,hg,-⟩
 ·simp[Value.ownBlock]
 ·intro e';simp[Value.ownBlock] at e';subst e';rw[hg] at hb;injection hb with hb;injection hb with _ hb;exact hne hb
end
section
open Go.RowKit Me Mf Go.Maps
def Bp (w:World) (P:Prop) (e:Ending) (w':World):Prop:=∃b:Bool,e=.returned (.bool b)/\(b=true↔P)/\Below w.heap.size w w'
theorem zhR (A:Option Addr) (n c:Nat) (l:List zi) (w:World) (hl:l.length=n) (hn:n<=9223372036854775807) (h:Files w w.heap.size A l) :
 Calls Tryz.prog 127 #[.slice A n c] w (Bp w (xM l)):=by
 have HL:=gI hl;have HF:=gI h;clear hl h
 go_enter Tryz.func127,Tryz.ntmps127
 go_wp2
 go_loopw [3,8] (fun s i wr=>∃(k:Nat) (last:List UInt8),k<=n/\i=.int .i64 (k:Int)/\s=sv last/\Hid (last=ZK (l.take k))/\Hid (xM (l.take k))/\Hid (Below w.heap.size w wr)) (fun _ i _=>n-(intOf i).toNat)
 case atStart=>exact ⟨0,[],Nat.zero_le _,rfl,rfl,gI rfl,gI (zfo 0).1,gI (Below.refl _ _)⟩
 case round=>
  obtain ⟨k,last,hk,rfl,rfl,HLA,HN,HB⟩:=hrel
  by_cases hlt:k<n
  ·obtain ⟨a,f,rfl,hab,hf,A2,n2,c2,g0,g1,g2,g3,-⟩:=(HF.out.below HB.out).at (by rw[HL.out];exact hlt);have HFK:=gI hf;obtain ⟨nm,hnm⟩:∃nm,nm=f.name:=⟨_,rfl⟩
   obtain ⟨id,hid⟩:∃id:Int,id=(f.id:Int):=⟨_,rfl⟩
   obtain ⟨sz,hsz⟩:∃sz,sz=f.size:=⟨_,rfl⟩
   rw[<-hnm] at g0;rw[<-hid] at g1;rw[<-hsz] at g2;have HNM:=gI hnm;clear hnm hid hsz hf;obtain ⟨b1,hb1⟩:∃b1,(!less last nm)=b1:=⟨_,rfl⟩
   have hle:(Op.bytesLess nm last||nm==last)=b1:=(zk3 nm last).trans hb1;have HB1:=gI hb1;clear hb1;have hstep:=zga (f:=f) HN.out;rw[<-yw HFK.out,<-HLA.out,<-HNM.out] at hstep;have HST:=gI hstep;clear hstep
   cases b1 with
   |true=>
    go_wp2
    go_ret
    refine ⟨false,rfl,⟨fun h=>(by cases h),fun h=>?_⟩,HB.out.alloc HB.out.size _⟩;have:=(HST.out.1 (h.take (k+1))).1;rw[this] at HB1;exact absurd HB1.out (by simp)
   |false=>
    obtain ⟨m,hm⟩:∃m,m=nm.length:=⟨_,rfl⟩
    have hsz:(ByteArray.mk nm.toArray).size=m:=by rw[hm];exact List.size_toArray ..
    have HM:=gI hm;clear hm
    by_cases hm:32<m
    ·have d1:decide ((32:Int)<(m:Int))=true:=by simp;omega
     go_wp2
     go_ret
     refine ⟨false,rfl,⟨fun h=>(by cases h),fun h=>?_⟩,HB.out.alloc HB.out.size _⟩;have:=(HST.out.1 (h.take (k+1))).2;rw[<-HM.out] at this;omega
    ·have d1:decide ((32:Int)<(m:Int))=false:=by simp;omega
     have HNX:=gI (HST.out.2 ⟨by have:=HB1.out;simpa using this,by rw[<-HM.out];omega⟩);have HLX:=gI (show nm=ZK (l.take (k+1)) by rw[yw HFK.out,ZJ];exact HNM.out)
     go_wp2
     go_roundw
     case rel=>exact ⟨k+1,nm,by omega,by go_num,rfl,HLX,HNX,gI (HB.out.alloc HB.out.size _)⟩
     case measure=>simp[intOf];omega
  ·have hkn:k=n:=by omega
   go_wp2
   go_ret
   refine ⟨true,rfl,⟨fun _=>?_,fun _=>rfl⟩,HB.out⟩;have:=HN.out
   rwa[hkn,<-HL.out,List.take_length] at this
def keysOf (q:IntKind) (l:List Int):List Lit:=l.map (Lit.int q)
theorem YV (q:IntKind) (l:List Int) (x:Int):keysOf q (l++[x])=keysOf q l++[Lit.int q x]:=by simp[keysOf]
theorem zkf (q:IntKind) (l:List Int):∀x∈keysOf q l,WideAt.IsKeyLit x:=by
 intro x hx;obtain ⟨_,_,rfl⟩:=List.mem_map.1 hx
 trivial
theorem ziR (q:IntKind) (x:Int):∀l:List Int,(keysOf q l).any (fun y=>y.sameKey (.int q x))=decide (x∈l)
 |[]=>rfl
 |a::r=>by
  have ih:=ziR q x r;unfold keysOf at ih ⊢;rw[List.map_cons,List.any_cons,ih];show (decide (q=q/\a=x)||decide (x∈r))=decide (x∈a::r)
  by_cases e:a=x
  ·subst e;simp
  ·have e':¬x=a:=fun h=>e h.symm
   simp[e,e']
theorem zbO (q:IntKind):∀(l acc:List Int),acc.Nodup->((keysOf q l).foldl addKey (keysOf q acc)).length<=acc.length+l.length/\(((keysOf q l).foldl addKey (keysOf q acc)).length=acc.length+l.length↔(acc++l).Nodup)
 |[],acc,h=>by simp[keysOf,h]
 |x::r,acc,h=>by
  have e:keysOf q (x::r)=Lit.int q x::keysOf q r:=rfl;rw[e,List.foldl_cons,addKey,ziR]
  by_cases hx:x∈acc
  ·have:=(zbO q r acc h).1;simp only[hx,decide_true,if_true,List.length_cons];refine ⟨by omega,⟨fun k=>by omega,fun k=>?_⟩⟩;rw[List.nodup_append] at k;exact absurd rfl (k.2.2 x hx x (by simp))
  ·have h':(acc++[x]).Nodup:=zf9.2 ⟨h,hx⟩;have:=zbO q r (acc++[x]) h';rw[YV] at this;simp only[hx,decide_false,Bool.false_eq_true,if_false,List.length_cons];simp only[List.length_append,List.length_cons,List.length_nil,List.append_assoc,List.cons_append,List.nil_append] at this;exact ⟨by omega,by rw[<-this.2];omega⟩
theorem zb7 {H:Type} (u:DataW H) (q:IntKind) (l:List Int):Maps.size (setOf u (keysOf q l))=l.length↔l.Nodup:=by
 rw[size_setOf _ _ (zkf q l)];have:=(zbO q l [] (by simp)).2
 simpa [keysOf] using this
theorem zlJ:Keyed Tryz.prog 107:=int_keyed Tryz.underlying107
theorem zlK:Keyed Tryz.prog 3:=int_keyed Tryz.underlying3
abbrev uu:DataW Unit:=.agg []
abbrev ue:Value->Option (DataW Unit×List MemPlace):=unitElem
end
section
open Go.RowKit Me Mf Go.Maps
theorem wf_u32 {i:Nat} (h:i<4294967296):(Lit.int IntKind.u32 (i:Int)).wf=true:=by
 simp[Lit.wf,IntKind.min,IntKind.max,IntKind.bits,IntKind.signed];omega
def VD (l:List zi):List Int:=l.map fun f=>(f.id:Int)
theorem zii (l:List zi):(VD l).Nodup↔(l.map (·.id)).Nodup:=by
 have e:VD l=(l.map (·.id)).map (fun i:Nat=>(i:Int)):=by simp[VD]
 rw[e];refine ⟨fun h=>?_,fun h=>?_⟩
 ·exact List.Pairwise.of_map _ (fun a b hab e=>hab (by rw[e])) h
 ·exact h.map _ fun a b hab e=>hab (by omega)
theorem zlN (v x:Nat) (A:Option Addr) (n c:Nat) (m:ManD) (w:World) (hx:m.next=x) (hn:n<=1073741824) (h:Zc w w.heap.size A n c m) :
 Calls Tryz.prog 128 #[mval v x A n c] w (Bp w (zmw m.next m.files)):=by
 have hmm:=@run_makeMap Tryz.prog;obtain ⟨HF,HL,-,-,HWF⟩:=h;have HF:=gI HF;have HL:=gI HL;have HX:=gI hx;have HWF:=gI HWF;clear hx;obtain ⟨wb,hwb⟩:∃wb,wb=w.alloc (.cells #[.int .u64 (v:Int),.int .u32 (x:Int),.slice A n c] 110):=⟨_,rfl⟩
 have HWB:=gI hwb;have hb0:Below w.heap.size w wb:=by rw[hwb];exact (Below.refl _ _).alloc (Nat.le_refl _) _
 have hbs:wb.heap.size=w.heap.size+1:=by rw[hwb];simp
 have HB0:=gI hb0;have HBS:=gI hbs;have hq1:wb.cell? ⟨w.heap.size,1,none⟩=some (.int .u32 (x:Int)):=by rw[hwb];simp only[World.cell?,heap_alloc_new];rfl
 have hq2:wb.cell? ⟨w.heap.size,2,none⟩=some (.slice A n c):=by rw[hwb];simp only[World.cell?,heap_alloc_new];rfl
 have HQ1:=gI hq1;have HQ2:=gI hq2;clear hwb hb0 hbs hq1 hq2
 go_enter Tryz.func128,Tryz.ntmps128
 go_wp2
 go_loopw [10] (fun i wr=>∃k:Nat,k<=n/\i=.int .i64 (k:Int)/\Hid (∀f∈m.files.take k,f.id<m.next)/\Hid (wr.ownsMap Tryz.prog 107 ue (w.heap.size+1) k (setOf uu (keysOf .u32 (VD (m.files.take k)))))/\Hid (Below (w.heap.size+1) wb wr)) (fun i _=>n-(intOf i).toNat)
 case atStart=>exact ⟨0,Nat.zero_le _,rfl,gI (fun f h=>by simp at h),gI (by
  have:=World.ownsMap_made (H:=Unit) wb Tryz.prog 107 ue;rw[HBS.out,HWB.out] at this;exact this),gI (by
  have:=(Below.refl (w.heap.size+1) wb).alloc (by rw[HBS.out];exact Nat.le_refl _) (.map #[] 0);rw[HWB.out] at this ⊢;exact this)⟩
 case round=>
  obtain ⟨k,hk,rfl,HID,HOWN,HB⟩:=hrel;have hsz:=HB.out.size;rw[HBS.out] at hsz;have hws:w.heap.size<wr.heap.size:=by omega
  have r1:=(HB.out.cell (p:=⟨w.heap.size,1,none⟩) (Nat.lt_succ_self _)).trans HQ1.out;have r2:=(HB.out.cell (p:=⟨w.heap.size,2,none⟩) (Nat.lt_succ_self _)).trans HQ2.out;have HBW:=gI (HB0.out.trans (HB.out.mono (Nat.le_succ _)))
  by_cases hlt:k<n
  ·obtain ⟨a,f,rfl,hab,hf,A2,n2,c2,g0,g1,g2,g3,-⟩:=(HF.out.below HBW.out).at (by rw[HL.out];exact hlt);have HFK:=gI hf;have hfw:=HWF.out.files f (List.mem_of_getElem? hf);obtain ⟨nm,hnm⟩:∃nm,nm=f.name:=⟨_,rfl⟩
   obtain ⟨id,hid⟩:∃id:Nat,id=f.id:=⟨_,rfl⟩
   obtain ⟨sz,hsz'⟩:∃sz,sz=f.size:=⟨_,rfl⟩
   rw[<-hnm] at g0;rw[<-hid] at g1;rw[<-hsz'] at g2;have hid32:id<4294967296:=by rw[hid];exact hfw.id
   have HI:=gI hid;have hkey:=gI (keyOf_int_mk (P:=Tryz.prog) Tryz.underlying107 (wf_u32 hid32));clear hnm hid hsz' hf hfw
   by_cases hlx:id<x
   ·have d1:decide ((x:Int)<=(id:Int))=false:=by simp;omega
    have d2:decide (x<=id)=false:=by simp;omega
    have HIDX:=gI (show ∀f∈m.files.take (k+1),f.id<m.next from by
     rw[yw HFK.out];intro g hg;rcases List.mem_append.1 hg with hg|hg
     ·exact HID.out g hg
     ·simp at hg;subst hg;rw[HX.out,<-HI.out];exact hlx)
    have HKX:=gI (show keysOf .u32 (VD (m.files.take (k+1)))=keysOf .u32 (VD (m.files.take k))++[Lit.int .u32 (id:Int)] from by
     rw[yw HFK.out,<-YV]
     congr 1
     simp[VD,HI.out])
    go_wp2_with (at_mapUpdate;refine wpList_mapUpdate_own _ rfl _ _ _ 234 rfl 107 124 zlJ Tryz.underlying234 ue (w.heap.size+1) k _ rfl (HOWN.out.alloc _) (by unfold maxLen;omega) _ _ _ rfl rfl hkey.out _ [] unitElem_mk ?_;intro w1 hown1 hgrow1;have HO1:=gI hown1;have HG1:=gI hgrow1;clear hown1 hgrow1)
    go_roundw
    case rel=>
     refine ⟨k+1,by omega,by go_num,HIDX,gI ?_,gI ((HB.out.alloc hsz _).grown HG1.out (by simp;omega) (fun j hj=>by cases hj;exact Nat.le_refl _))⟩;rw[HKX.out,setOf_snoc];exact HO1.out
    case measure=>simp[intOf];omega
   ·have d1:decide ((x:Int)<=(id:Int))=true:=by simp;omega
    have d2:decide (x<=id)=true:=by simp;omega
    go_wp2
    go_ret
    refine ⟨false,rfl,⟨fun h=>(by cases h),fun h=>?_⟩,HBW.out.alloc HBW.out.size _⟩;have:=h.1 f (List.mem_of_getElem? HFK.out);rw[HX.out,<-HI.out] at this;omega
  ·have hkn:k=n:=by omega
   subst hkn;have e:m.files.take k=m.files:=by rw[<-HL.out,List.take_length]
   have hlen:=zb7 uu .u32 (VD m.files);rw[zii] at hlen;have hil:(VD m.files).length=k:=by simp[VD,HL.out]
   rw[hil] at hlen;obtain ⟨z,hz⟩:∃z,z=Maps.size (setOf uu (keysOf .u32 (VD (m.files.take k)))):=⟨_,rfl⟩
   have HZ:=gI hz;rw[e] at hz;rw[<-hz] at hlen;have HLEN:=gI hlen;have HID':=HID.out;rw[e] at HID';have HIX:=gI HID';clear hz hlen HID' hil e
   go_wp2_with (at_len;refine wpList_len_own _ rfl _ 234 rfl 107 124 Tryz.underlying234 ue (w.heap.size+1) k _ rfl HOWN.out ?_;rw[<-HZ.out])
   go_ret
   refine ⟨(z:Int)==(k:Int),rfl,?_,HBW.out⟩;rw[beq_iff_eq];exact ⟨fun h=>⟨HIX.out,HLEN.out.1 (by omega)⟩,fun h=>by have:=HLEN.out.2 h.2;omega⟩
end
section
open Go.RowKit Me Mf Go.Maps
theorem wf_i64 {i:Int} (h1:-9223372036854775808<=i) (h2:i<=9223372036854775807):(Lit.int IntKind.i64 i).wf=true:=by
 simp[Lit.wf,IntKind.min,IntKind.max,IntKind.bits,IntKind.signed];omega
theorem Cs.int {w:World} {B:Nat} {A:Option Addr} {l:List Int} (h:Cs w B A (zL l)) {j:Nat} {z:Int} (hz:l[j]?=some z):∃a,A=some a/\a.block<B/\w.cell? (a.add j)=some (.int .i64 z):=by
 have hj:j<l.length:=(List.getElem?_eq_some_iff.1 hz).1;obtain ⟨a,e,hb,hc⟩:=h (by rw[zV];omega);exact ⟨a,e,hb,hc j _ (Yz hz)⟩
def zK (l:List zi):Nat:=(zh l).length
theorem X8 (l:List zi) (k:Nat):zK (l.take k)<=zK l:=by
 unfold zK;have e:zh l=zh (l.take k)++zh (l.drop k):=by rw[<-QG,List.take_append_drop]
 rw[e,List.length_append];omega
theorem vX {l:List zi} {k:Nat} {f:zi} (h:l[k]?=some f):zK (l.take (k+1))=zK (l.take k)+f.blocks.length:=by
 unfold zK;rw[yw h,YJ,List.length_append]
def bhG (b:Nat) (sz mz:Int) (A2:Option Addr) (n2 c2:Nat) (b1 b2:Bool):Gw.Fact:=fun t v _=>
 match t with
 |6=>v=.pointer (some ⟨b,0,none⟩)
 |16=>v=.pointer (some ⟨b,2,none⟩)
 |17=>v=.int .i64 sz
 |18|19=>v=.bool b1
 |20=>b1=false->v=.pointer (some ⟨b,3,none⟩)
 |21=>b1=false->v=.slice A2 n2 c2
 |22=>b1=false->v=.int .i64 (n2:Int)
 |23=>b1=false->v=.pointer (some ⟨b,2,none⟩)
 |24=>b1=false->v=.int .i64 sz
 |25=>b1=false->v=.int .i64 mz
 |26=>b1=false->v=.bool b2
 |27=>v=.bool (b1||b2)
 |_=>True
theorem zkF (A:Option Addr) (n c:Nat) (l:List zi) (w:World) (hl:l.length=n) (hn:n<=1073741824) (hcn:zK l<=1073741824) (hwf:∀f∈l,WfF f) (h:Files w w.heap.size A l) :
 Calls Tryz.prog 129 #[.slice A n c] w (Bp w (XE l)):=by
 have hmm:=@run_makeMap Tryz.prog;have HF:=gI h;have HL:=gI hl;have HWF:=gI hwf;have HCN:=gI hcn;clear h hl hwf hcn
 go_enter Tryz.func129,Tryz.ntmps129
 go_wp2
 go_loopw [4,12] (fun cn i wr=>∃k t:Nat,k<=n/\i=.int .i64 (k:Int)/\cn=.int .i64 (t:Int)/\t<=1073741824/\Hid (t=zK (l.take k))/\Hid (∀f∈l.take k,zkT f)/\Hid (wr.ownsMap Tryz.prog 3 ue w.heap.size t (setOf uu (keysOf .i64 (zh (l.take k)))))/\Hid (Below w.heap.size w wr)/\w.heap.size<wr.heap.size) (fun _ i _=>n-(intOf i).toNat)
 case atStart=>exact ⟨0,0,Nat.zero_le _,rfl,rfl,by omega,gI rfl,gI (fun f h=>by simp at h),gI (World.ownsMap_made (H:=Unit) w Tryz.prog 3 ue),gI ((Below.refl _ w).alloc (Nat.le_refl _) _),by simp⟩
 case round=>
  obtain ⟨k,t,hk,rfl,rfl,ht,HT,HOK,HOWN,HB,hws⟩:=hrel
  by_cases hlt:k<n
  ·obtain ⟨a,f,rfl,hab,hf,A2,n2,c2,g0,g1,g2,g3,g4,g5,g6,g7⟩:=(HF.out.below HB.out).at (by rw[HL.out];exact hlt);have HFK:=gI hf;have hfw:=HWF.out f (List.mem_of_getElem? hf);obtain ⟨nm,hnm⟩:∃nm,nm=f.name:=⟨_,rfl⟩
   obtain ⟨id,hid⟩:∃id:Nat,id=f.id:=⟨_,rfl⟩
   obtain ⟨sz,hsz'⟩:∃sz,sz=f.size:=⟨_,rfl⟩
   obtain ⟨mz,hmz⟩:∃mz,mz=qX f.size:=⟨_,rfl⟩
   have hmany:=fun w=>zbq f.size w hfw.high
   rw[<-hmz,<-hsz'] at hmany;rw[<-hnm] at g0;rw[<-hid] at g1;rw[<-hsz'] at g2;have HSZ:=gI hsz';have HMZ:=gI hmz;have HMANY:=gI hmany;have HBL:=gI g4;have HBC:=gI g7;have hfw':=gI hfw;clear hnm hid hsz' hf hmz hmany g4 g7 hfw;obtain ⟨b1,hb1⟩:∃b1,decide (sz<0)=b1:=⟨_,rfl⟩
   obtain ⟨b2,hb2⟩:∃b2,((n2:Int) != mz)=b2:=⟨_,rfl⟩
   obtain ⟨wz,hwz⟩:∃wz,wz=wr.alloc (.cells #[.string ⟨nm.toArray⟩,.int .u32 (id:Int),.int .i64 sz,.slice A2 n2 c2] 123):=⟨_,rfl⟩
   have hzs:wz.heap.size=wr.heap.size+1:=by rw[hwz];simp
   have HRZ:=gI (show Below w.heap.size wr wz by rw[hwz];exact (Below.refl _ _).alloc HB.out.size _);have HTN:=gI (show t+n2<=1073741824 from by
    have e1:=vX HFK.out;have e2:=X8 l (k+1);have e3:=HT.out;have e4:=HCN.out;have e5:=HBL.out
    omega)
   have hzb:Below w.heap.size w wz:=by rw[hwz];exact HB.out.alloc HB.out.size _
   have hz2:wz.cell? ⟨wr.heap.size,2,none⟩=some (.int .i64 sz):=by rw[hwz];simp only[World.cell?,heap_alloc_new];rfl
   have hz3:wz.cell? ⟨wr.heap.size,3,none⟩=some (.slice A2 n2 c2):=by rw[hwz];simp only[World.cell?,heap_alloc_new];rfl
   have hzo:wz.ownsMap Tryz.prog 3 ue w.heap.size t (setOf uu (keysOf .i64 (zh (l.take k)))):=by rw[hwz];exact HOWN.out.alloc _
   have HZS:=gI hzs;have HZB:=gI hzb;have HZ2:=gI hz2;have HZ3:=gI hz3;have HZO:=gI hzo;have HB1:=gI hb1;have HB2:=gI hb2;have HWZ:=gI hwz;clear hzs hzb hz2 hz3 hzo hb1 hb2 hwz
   go_wp2_with fail
   rw[<-HWZ.out];clear HWZ;obtain ⟨b,hb⟩:∃b,b=wr.heap.size:=⟨_,rfl⟩
   have hbw:w.heap.size<b:=by rw[hb];exact hws
   rw[<-hb] at HZS HZ2 HZ3 ⊢;have HBE:=gI hb;clear hb;refine Gw.zl (bhG b sz mz A2 n2 c2 b1 b2) [16,17,18,19,20,21,22,23,24,25,26,27] [([6],none),([16],none),([17],none),([18],none),([6,19],some (19,false)),([20,19],some (19,false)),([21,19],some (19,false)),([6,19],some (19,false)),([23,19],some (19,false)),([24,19],some (19,false)),([22,25,19],some (19,false)),([19,26],none)] 55 (by kernel_rfl) (by kernel_rfl) rfl ?h0 ?hreq ?hend
   case h0=>
    intro t W hnd _;unfold bhG
    split<;>first|rfl|trivial|exact absurd (by simp) hnd
   case hreq=>
    have q1:=HB1.out;have q2:=HB2.out;refine ⟨?_,?_,?_,?_,?_,?_,?_,?_,?_,?_,?_,?_,trivial⟩
    all_goals
     intro ac W hg hk;have hg':Below wz.heap.size wz W:=hg;have k2:W.cell? ⟨b,2,none⟩=_:=(hg'.cell (p:=⟨b,2,none⟩) (by rw[HZS.out];exact Nat.lt_succ_self _)).trans HZ2.out;have k3:W.cell? ⟨b,3,none⟩=_:=(hg'.cell (p:=⟨b,3,none⟩) (by rw[HZS.out];exact Nat.lt_succ_self _)).trans HZ3.out;simp only[Gw.Knows,bhG] at hk
     try (cases b1<;>(simp[go_sem,Gw.zw,Gw.Ok,Gw.Post,Gw.Holds,bhG,Gw.zk.refl,hk,k2,k3,q1,q2];done))
    cases b1
    ·simp[go_sem,Gw.zw,Gw.Ok,Gw.Post,Gw.Holds,bhG,Gw.zk.refl,hk];refine (HMANY.out _).mono ?_;rintro e w' ⟨rfl,rfl⟩;simp[go_sem,Gw.zk.refl]
    ·simp[go_sem,Gw.zw,Gw.Post,Gw.Holds,bhG,hk]
   case hend=>
    intro x wq hg hx;have h27:x 27=.bool (b1||b2):=(hx 27 (by simp)).now;simp only[Gw.zm,Act.put,List.setIfInBounds_toArray,List.set_cons_zero,List.set_cons_succ];rw[h27];have hq:Below (b+1) wz wq:=Below.mono (show Below wz.heap.size wz wq from hg) (by rw[HZS.out];exact Nat.le_refl _);have HRQ:=gI (HRZ.out.trans (hq.mono (by omega)));have HQB:=gI (HZB.out.trans (hq.mono (by omega)));have hqs:b+1<=wq.heap.size:=by have:=hq.size;rw[HZS.out] at this;exact this
    have HQ2:=gI ((hq.cell (p:=⟨b,2,none⟩) (Nat.lt_succ_self _)).trans HZ2.out);have HQ3:=gI ((hq.cell (p:=⟨b,3,none⟩) (Nat.lt_succ_self _)).trans HZ3.out);have HQO:=gI (HZO.out.kept (row:=none) ⟨hg.os,hg.tape,hg.output,hg.size,fun j hj _=>hg.block j hj⟩ (by simp));clear h27 hx hg hq HZ2 HZ3 HZO HZB;obtain ⟨bb,hbb⟩:∃bb,(b1||b2)=bb:=⟨_,rfl⟩
    rw[hbb];have HBB:=gI hbb;clear hbb
    cases bb with
    |true=>
     go_wp2
     go_ret
     refine ⟨false,rfl,⟨fun h=>(by cases h),fun h=>?_⟩,HQB.out⟩;obtain ⟨p1,p2,-⟩:=h.1 f (List.mem_of_getElem? HFK.out);have e:=HBB.out;rw[<-HB1.out,<-HB2.out,HSZ.out,HMZ.out,p2,HBL.out] at e;simp at e;omega
    |false=>
     have hmz:mz=(n2:Int)/\0<=sz:=by
      have e:=HBB.out;rw[<-HB1.out,<-HB2.out] at e;simp at e;omega
     have HOKF:=gI hmz;have htn:=HTN.out;clear hmz HBB HB1 HB2;have r3:=HQ3.out
     go_wp2
     go_loopw [31] (fun i wr'=>∃j:Nat,j<=n2/\i=.int .i64 (j:Int)/\Hid (∀z∈f.blocks.take j,32<=z/\z<65536)/\Hid (wr'.ownsMap Tryz.prog 3 ue w.heap.size (t+j) (setOf uu (keysOf .i64 (zh (l.take k)++f.blocks.take j))))/\Hid (wq.grownBy wr' (some w.heap.size))/\b+1<=wr'.heap.size) (fun i _=>n2-(intOf i).toNat)
     case atStart=>exact ⟨0,Nat.zero_le _,rfl,gI (fun z hz=>by simp at hz),gI (by simpa using HQO.out),gI (World.grownBy.refl _ _),hqs⟩
     case round=>
      obtain ⟨j,hj,rfl,HR,HO,HG,hrs⟩:=hrel;have HBR:=gI (HQB.out.grown HG.out HQB.out.size (fun q hq=>by cases hq;exact Nat.le_refl _));have HWB:=gI ((HRQ.out.grown HG.out HQB.out.size (fun q hq=>by cases hq;exact Nat.le_refl _)))
      by_cases hjl:j<n2
      ·obtain ⟨z,hz⟩:∃z,f.blocks[j]?=some z:=⟨_,List.getElem?_eq_getElem (by rw[HBL.out];exact hjl)⟩
       obtain ⟨a2,rfl,hab2,hcz⟩:=(HBC.out.below HWB.out).int hz;have HZ:=gI hz;clear hz
       by_cases h1:z<32
       ·have d1:decide (z<32)=true:=by simp;omega
        go_wp2
        go_ret
        refine ⟨false,rfl,⟨fun h=>(by cases h),fun h=>?_⟩,HBR.out⟩;have:=(h.1 f (List.mem_of_getElem? HFK.out)).2.2 z (List.mem_of_getElem? HZ.out);omega
       ·have d1:decide (z<32)=false:=by simp;omega
        by_cases h2:65536<=z
        ·have d2:decide (65536<=z)=true:=by simp;omega
         go_wp2
         go_ret
         refine ⟨false,rfl,⟨fun h=>(by cases h),fun h=>?_⟩,HBR.out⟩;have:=(h.1 f (List.mem_of_getElem? HFK.out)).2.2 z (List.mem_of_getElem? HZ.out);omega
        ·have d2:decide (65536<=z)=false:=by simp;omega
         have hkey:=gI (keyOf_int_mk (P:=Tryz.prog) Tryz.underlying3 (wf_i64 (i:=z) (by omega) (by omega)));have HRX:=gI (show ∀y∈f.blocks.take (j+1),32<=y/\y<65536 from by
          rw[yw HZ.out];intro y hy;rcases List.mem_append.1 hy with hy|hy
          ·exact HR.out y hy
          ·simp at hy;subst hy;omega)
         have HKX:=gI (show keysOf .i64 (zh (l.take k)++f.blocks.take (j+1))=keysOf .i64 (zh (l.take k)++f.blocks.take j)++[Lit.int .i64 z] from by
          rw[yw HZ.out,<-List.append_assoc,YV])
         go_wp2_with (at_mapUpdate;refine wpList_mapUpdate_own _ rfl _ _ _ 235 rfl 3 124 zlK Tryz.underlying235 ue w.heap.size (t+j) _ rfl HO.out (by unfold maxLen;omega) _ _ _ rfl rfl hkey.out _ [] unitElem_mk ?_;intro w1 hown1 hgrow1;have HO1:=gI hown1;have HG1:=gI hgrow1;clear hown1 hgrow1)
         go_roundw
         case rel=>
          refine ⟨j+1,by omega,by go_num,HRX,gI ?_,gI (HG.out.trans HG1.out),Nat.le_trans hrs HG1.out.size⟩;rw[HKX.out,setOf_snoc];exact HO1.out
         case measure=>simp[intOf];omega
      ·have hjn:j=n2:=by omega
       subst hjn;have e:f.blocks.take j=f.blocks:=by rw[<-HBL.out,List.take_length]
       have hr3:=(World.cell?_of_block (a:=⟨b,3,none⟩) (HG.out.block b (by omega) (fun h=>by injection h;omega))).trans HQ3.out;have HOX:=gI (show ∀g∈l.take (k+1),zkT g from by
        rw[yw HFK.out];intro g hg;rcases List.mem_append.1 hg with hg|hg
        ·exact HOK.out g hg
        ·simp at hg;subst hg;have h1:=HOKF.out;have h2:=HR.out;rw[e] at h2;exact ⟨by rw[<-HSZ.out];exact h1.2,by rw[<-HMZ.out,h1.1,HBL.out],h2⟩)
       have HTX:=gI (show t+j=zK (l.take (k+1)) from by rw[vX HFK.out,HT.out,HBL.out]);have HMX:=HO;rw[e,<-YJ,<-yw HFK.out] at HMX;clear e HO HR;obtain ⟨t',ht'⟩:∃t',t'=t+j:=⟨_,rfl⟩
       have hts:(t:Int)+(j:Int)=(t':Int):=by omega
       rw[<-ht'] at HTX HMX htn;clear ht'
       go_wp2
       go_roundw
       case rel=>exact ⟨k+1,t',by omega,by go_num,by go_num,by omega,HTX,HOX,HMX,HBR,by omega⟩
       case measure=>simp[intOf];omega
  ·have hkn:k=n:=by omega
   subst hkn;have e:l.take k=l:=by rw[<-HL.out,List.take_length]
   have hlen:=zb7 uu .i64 (zh l);obtain ⟨z,hz⟩:∃z,z=Maps.size (setOf uu (keysOf .i64 (zh (l.take k)))):=⟨_,rfl⟩
   have HZ:=gI hz;rw[e] at hz;rw[<-hz] at hlen;have HTE:=HT;rw[e] at HTE;have hlen2:(zh l).length=t:=HTE.out.symm;rw[hlen2] at hlen;have HLEN:=gI hlen;have HOKX:=HOK;rw[e] at HOKX;clear hz hlen hlen2 e HTE
   go_wp2_with (at_len;refine wpList_len_own _ rfl _ 235 rfl 3 124 Tryz.underlying235 ue w.heap.size t _ rfl HOWN.out ?_;rw[<-HZ.out])
   go_ret
   refine ⟨(z:Int)==(t:Int),rfl,?_,HB.out⟩;rw[beq_iff_eq];exact ⟨fun h=>⟨HOKX.out,HLEN.out.1 (by omega)⟩,fun h=>by have:=HLEN.out.2 h.2;omega⟩
end
section
open Go.RowKit Me Mf Va
abbrev fbox (nm:List UInt8) (id:Nat) (sz:Int) (A:Option Addr) (n c:Nat):Obj:=.cells #[.string ⟨nm.toArray⟩,.int .u32 (id:Int),.int .i64 sz,.slice A n c] 123
theorem Zp {w:World} {b:Nat} {nm:List UInt8} {id:Nat} {sz:Int} {A:Option Addr} {n c:Nat} (h:w.heap[b]?=some (fbox nm id sz A n c)) :
 w.cell? ⟨b,0,none⟩=some (.string ⟨nm.toArray⟩)/\w.cell? ⟨b,1,none⟩=some (.int .u32 (id:Int))/\w.cell? ⟨b,2,none⟩=some (.int .i64 sz)/\w.cell? ⟨b,3,none⟩=some (.slice A n c):=by
 refine ⟨?_,?_,?_,?_⟩<;>(simp only[World.cell?,h];rfl)
structure Ap (w wr:World) (b:Nat) (o:Obj) (v:Value) (t:Nat) (l:List UInt8):Prop where
 own:wr.ownsRow w.heap.size 5 1 v t (cellsOf l)
 box:wr.heap[b]?=some o
 lt:b<wr.heap.size
 below:Below w.heap.size w wr
theorem Ap.len {w wr:World} {b t:Nat} {o:Obj} {v:Value} {l:List UInt8} (h:Ap w wr b o v t l):l.length=t:=by
 have:=h.own.1
 rwa[za,Nat.mul_one] at this
theorem Ap.past {w wr w1:World} {b t:Nat} {o:Obj} {v:Value} {l:List UInt8} (h:Ap w wr b o v t l) (hb:Below wr.heap.size wr w1):Ap w w1 b o v t l:=
 ⟨own_below h.own hb,(hb.block b h.lt).trans h.box,Nat.lt_of_lt_of_le h.lt hb.size,h.below.trans (hb.mono h.below.size)⟩
theorem Ap.app {w wr w1:World} {b t t':Nat} {cs:Array Value} {v v':Value} {l l':List UInt8} (h:Ap w wr b (.cells cs 123) v t l) (ho:w1.ownsRow w.heap.size 5 1 v' t' (cellsOf l')) (hg:wr.grownBy w1 v.ownBlock):Ap w w1 b (.cells cs 123) v' t' l':=
 ⟨ho,(hg.block b h.lt (zd1 h.own h.box (by decide) ∘ Eq.symm)).trans h.box,Nat.lt_of_lt_of_le h.lt hg.size,h.below.grown hg h.below.size (fun k hk=>(h.own.lt k hk).1)⟩
theorem strCells_eq (l:List UInt8):Lib.strCells ⟨l.toArray⟩=cellsOf l:=by
 simp[Lib.strCells,cellsOf]
theorem qa {z:Int} (h1:0<=z) (h2:z<18446744073709551616):IntKind.u64.wrap z=z:=by rw[IntKind.wrap_u64];omega
theorem zkE (A:Option Addr) (n c:Nat) (m:ManD) (w:World) (hpos:∀f∈m.files,PosF f) (hbl:(body m).length<=1099511627776) (h:Zc w w.heap.size A n c m) :
 Calls Tryz.prog 130 #[mval m.version m.next A n c] w (News w (body m)):=by
 obtain ⟨i0,hi0,hz0,hz1,hz2⟩:=info_parts yO;obtain ⟨HF,HL,-,-,HWF⟩:=h;have hn40:n<=1099511627776:=by
  have h1:=y9 m;have h2:=yI m.files;omega
 have HF:=gI HF;have HL:=gI HL;have HPOS:=gI hpos;have HBL:=gI hbl;obtain ⟨l,hl⟩:∃l,l=m.files:=⟨_,rfl⟩
 obtain ⟨v,hv⟩:∃v,v=m.version:=⟨_,rfl⟩
 obtain ⟨x,hx⟩:∃x,x=m.next:=⟨_,rfl⟩
 have hv64:v<18446744073709551616:=by rw[hv];exact HWF.version
 have hx32:x<4294967296:=by rw[hx];exact HWF.next
 have HWF:=gI HWF.files;have HBY:=gI (show body m=yZ [v,x,n]++yQ l by
  unfold body;simp only[yZ,List.append_assoc,List.append_nil];rw[hv,hx,hl,HL.out])
 rw[<-hv,<-hx];rw[<-hl] at HF HL HPOS HWF;clear hpos hbl hl hv hx;have e1:IntKind.u64.wrap (x:Int)=(x:Int):=qa (by omega) (by omega);have e2:IntKind.u64.wrap (n:Int)=(n:Int):=qa (by omega) (by omega);have HHD:=gI (VJ [v,x,n] (by simp;omega));obtain ⟨wb,hwb⟩:∃wb,wb=(w.alloc (.cells #[.int .u64 (v:Int),.int .u32 (x:Int),.slice A n c] 110)).alloc (.cells #[.int .u64 (v:Int),.int .u64 (x:Int),.int .u64 (n:Int)] 106):=⟨_,rfl⟩
 have HWB:=gI hwb;have HB0:=gI (show Below w.heap.size w wb by rw[hwb];exact ((Below.refl _ _).alloc (Nat.le_refl _) _).alloc (by simp) _);have HC0:=gI (show Cs wb wb.heap.size (some ⟨w.heap.size+1,0,none⟩) (ZV [v,x,n]) by
  rw[hwb];have:=Cs.lit (w.alloc (.cells #[.int .u64 (v:Int),.int .u32 (x:Int),.slice A n c] 110)) #[.int .u64 (v:Int),.int .u64 (x:Int),.int .u64 (n:Int)] 106
  simpa [ZV] using this)
 have hq2:wb.cell? ⟨w.heap.size,2,none⟩=some (.slice A n c):=by rw[hwb,World.cell?_alloc_lt _ _ _ (by simp)];simp only[World.cell?,heap_alloc_new];rfl
 have HQ2:=gI hq2;have HBS:=gI (show w.heap.size<wb.heap.size by rw[hwb];simp;omega);clear hwb hq2
 go_enter Tryz.func130,Tryz.ntmps130
 go_wp2_with fail
 rw[<-HWB.out];clear HWB;refine (ZO (some ⟨w.heap.size+1,0,none⟩) 3 3 [v,x,n] wb wb.heap.size rfl (by omega) (by simp;omega) HC0.out (Nat.le_refl _)).mono ?_;rintro e w1 ⟨v1,t1,rfl,ho1,hb1⟩;have hlen1:=ho1.1;rw[za,Nat.mul_one] at hlen1;have HB1:=gI (HB0.out.trans (hb1.mono HB0.out.size));have HO1:=gI (zU ho1 HB0.out.size);have hr2:w1.cell? ⟨w.heap.size,2,none⟩=some (.slice A n c):=(hb1.cell (p:=⟨w.heap.size,2,none⟩) HBS.out).trans HQ2.out;have HT1:=gI hlen1;clear ho1 hb1 hlen1
 go_wp2
 clear hr2
 go_loopw [3,22] (fun y i wr=>∃k t:Nat,k<=n/\i=.int .i64 (k:Int)/\Hid (wr.ownsRow w.heap.size 5 1 y t (cellsOf (yZ [v,x,n]++yQ (l.take k))))/\Hid (Below w.heap.size w wr)) (fun _ i _=>n-(intOf i).toNat)
 case atStart=>exact ⟨0,t1,Nat.zero_le _,rfl,gI (by simpa [yQ] using HO1.out),HB1⟩
 case round=>
  clear HB0 HC0 HQ2 HBS HB1 HO1 HT1;obtain ⟨k,t,hk,rfl,HO,HB⟩:=hrel
  by_cases hlt:k<n
  ·obtain ⟨a,f,rfl,hab,hf,A2,n2,c2,g0,g1,g2,g3,g4,-,-,g7⟩:=HF.out.at (by rw[HL.out];exact hlt);have hax:(a.add (k*4)).block<w.heap.size:=by rw[block_add];exact hab
   replace g0:=(HB.out.cell hax).trans g0;replace g1:=(HB.out.cell (p:=⟨_,_,none⟩) hax).trans g1;replace g2:=(HB.out.cell (p:=⟨_,_,none⟩) hax).trans g2;replace g3:=(HB.out.cell (p:=⟨_,_,none⟩) hax).trans g3;clear hax;have hfm:=List.mem_of_getElem? hf;have hfw:=HWF.out f hfm;have hfp:=HPOS.out f hfm;have hbig:(yZ [v,x,n]++yQ (l.take k)).length+(encF f).length<=1099511627776:=by
    have h1:=HBL.out;rw[HBY.out] at h1;have h2:=zkz (l:=l) (k+1);rw[zaR hf] at h2;simp only[List.length_append] at h1 h2 ⊢;omega
   obtain ⟨nm,hnm⟩:∃nm,nm=f.name:=⟨_,rfl⟩
   obtain ⟨id,hid⟩:∃id:Nat,id=f.id:=⟨_,rfl⟩
   obtain ⟨z,hz⟩:∃z:Nat,z=f.size.toNat:=⟨_,rfl⟩
   have hsz:f.size=(z:Int):=by have:=hfp.size;omega
   obtain ⟨bs,hbs⟩:∃bs,bs=f.blocks:=⟨_,rfl⟩
   obtain ⟨lst,hlst⟩:∃lst,lst=yZ [v,x,n]++yQ (l.take k):=⟨_,rfl⟩
   have hef:encF f=yZ [nm.length]++(nm++(yZ [id,z]++xE bs)):=by
    unfold encF;rw[hnm,hid,hz,hbs];simp only[yZ,List.append_assoc,List.append_nil]
   have HNX:=gI (show yZ [v,x,n]++yQ (l.take (k+1))=lst++(yZ [nm.length]++(nm++(yZ [id,z]++xE bs))) by
    rw[zaR hf,<-List.append_assoc,<-hlst,hef])
   rw[<-hlst,hef] at hbig;rw[<-hlst] at HO;have hid32:id<4294967296:=by rw[hid];exact hfw.id
   have hz63:(z:Int)<=9223372036854775807:=by rw[<-hsz];exact hfw.high
   have HBP:=gI hfp.blocks;have HBW:=gI hfw.blocks;rw[<-hbs] at HBP HBW g4 g7;rw[<-hnm] at g0;rw[<-hid] at g1;rw[hsz] at g2;have HBLN:=gI g4;have HBC:=gI g7;obtain ⟨m1,hm1⟩:∃m1,m1=nm.length:=⟨_,rfl⟩
   have hs1:(ByteArray.mk nm.toArray).size=m1:=by rw[hm1];exact List.size_toArray ..
   rw[<-hm1] at hbig HNX;have HM1:=gI hm1;have HBIG:=gI hbig;have hm40:m1<=1099511627776:=by simp only[List.length_append] at hbig;omega
   have e3:IntKind.u64.wrap (m1:Int)=(m1:Int):=qa (by omega) (by omega);have e4:IntKind.u64.wrap (id:Int)=(id:Int):=qa (by omega) (by omega);have e5:IntKind.u64.wrap (z:Int)=(z:Int):=qa (by omega) (by omega);clear hf hfm hfw hfp hnm hid hz hsz hbs hlst hef hm1 g4 g7 hbig;obtain ⟨wz,hwz⟩:∃wz,wz=wr.alloc (fbox nm id z A2 n2 c2):=⟨_,rfl⟩
   obtain ⟨b,hb⟩:∃b,b=wr.heap.size:=⟨_,rfl⟩
   obtain ⟨w2,hw2⟩:∃w2,w2=wz.alloc (.cells #[.int .u64 (m1:Int)] 106):=⟨_,rfl⟩
   have AP0:=gI (show Ap w wz b (fbox nm id z A2 n2 c2) u3 t lst from by
    rw[hwz,hb];exact ⟨own_below HO.out ((Below.refl _ _).alloc (Nat.le_refl _) _),heap_alloc_new wr _,by simp,HB.out.alloc HB.out.size _⟩)
   have HZB:=gI (show Below wr.heap.size wr wz by rw[hwz];exact (Below.refl _ _).alloc (Nat.le_refl _) _);have AP2:=gI (show Ap w w2 b (fbox nm id z A2 n2 c2) u3 t lst from by rw[hw2];exact AP0.out.past ((Below.refl _ _).alloc (Nat.le_refl _) _));have HC2:=gI (show Cs w2 w2.heap.size (some ⟨wz.heap.size,0,none⟩) (ZV [m1]) by
    rw[hw2];have:=Cs.lit wz #[.int .u64 (m1:Int)] 106
    simpa [ZV] using this)
   have HW2:=gI (show w2=(wr.alloc (fbox nm id z A2 n2 c2)).alloc (.cells #[.int .u64 (m1:Int)] 106) by rw[hw2,hwz]);have HZS:=gI (show wz.heap.size=wr.heap.size+1 by rw[hwz];simp);clear hwz hw2
   go_wp2_with fail
   subst hb;rw[<-HW2.out];rw[HZS.out] at HC2;clear HW2;refine (ZO (some ⟨wr.heap.size+1,0,none⟩) 1 1 [m1] w2 w2.heap.size rfl (by omega) (by simp;omega) HC2.out (Nat.le_refl _)).mono ?_;intro e w3 h3;obtain ⟨A3,n3,c3,rfl,hl3,-,-,hr3,hb3⟩:=h3.open;have AP3:=gI (AP2.out.past hb3);have HB3:=gI (AP3.out.below);have HL3:=gI hl3;have HR3:=gI hr3;clear h3 hl3 hr3 hb3 HC2 AP2 AP0;have HT:=gI AP3.out.len;have hbg:t+n3<=1099511627776:=by
    have h1:=HBIG.out;have h2:=HL3.out;have h3:=HT.out;simp only[List.length_append] at h1;omega
   go_upto_region 6 with (at_builtin;refine zF rfl (.tmp 26) (.tmp 32) 24 rfl w.heap.size 5 i0 _ Tryz.underlying24 hi0 hz0 hz1 hz2 rfl u3 t lst rfl AP3.out.own w3.heap.size A3 n3 c3 (yZ [m1]) rfl HL3.out HR3.out (by omega) HB3.out.size ?_;intro v4 w4 ho4 hg4 _)
   have AP4:=gI (AP3.out.app ho4 hg4);clear ho4 hg4;obtain ⟨q0,-,-,-⟩:=Zp AP4.out.box;have hbg4:t+n3+m1<=1099511627776:=by
    have h1:=HBIG.out;have h2:=HL3.out;have h3:=HT.out;have h4:=HM1.out;simp only[List.length_append] at h1;omega
   have HB4:=gI AP4.out.below
   go_upto_region 7 with (at_builtin;refine Lib.wpList_append_own_string w4 rfl (.tmp 34) (.tmp 36) 24 9 rfl w.heap.size 5 i0 Tryz.underlying24 Tryz.underlying9 hi0 hz0 hz1 hz2 v4 (t+n3) _ rfl AP4.out.own ⟨nm.toArray⟩ rfl (by rw[hs1];unfold maxLen;omega) (by rw[hs1];omega) HB4.out.size ?_;intro v5 w5 ho5 hg5 _)
   rw[hs1,strCells_eq,<-qz] at ho5;have AP5:=gI (AP4.out.app ho5 hg5);clear ho5 hg5 q0 HB4;obtain ⟨-,q1,q2,-⟩:=Zp AP5.out.box;obtain ⟨w6,hw6⟩:∃w6,w6=w5.alloc (.cells #[.int .u64 (id:Int),.int .u64 (z:Int)] 106):=⟨_,rfl⟩
   have AP6:=gI (show Ap w w6 wr.heap.size (fbox nm id z A2 n2 c2) v5 (t+n3+m1) (lst++yZ [m1]++nm) from by rw[hw6];exact AP5.out.past ((Below.refl _ _).alloc (Nat.le_refl _) _));have HC6:=gI (show Cs w6 w6.heap.size (some ⟨w5.heap.size,0,none⟩) (ZV [id,z]) by
    rw[hw6];have:=Cs.lit w5 #[.int .u64 (id:Int),.int .u64 (z:Int)] 106
    simpa [ZV] using this)
   have HW6:=gI hw6;clear hw6
   go_wp2_with fail
   rw[<-HW6.out];clear HW6 q1 q2;refine (ZO (some ⟨w5.heap.size,0,none⟩) 2 2 [id,z] w6 w6.heap.size rfl (by omega) (by simp;omega) HC6.out (Nat.le_refl _)).mono ?_;intro e w7 h7;obtain ⟨A7,n7,c7,rfl,hl7,-,-,hr7,hb7⟩:=h7.open;have AP7:=gI (AP6.out.past hb7);have HB7:=gI AP7.out.below;have HL7:=gI hl7;have HR7:=gI hr7;clear h7 hl7 hr7 hb7 HC6 AP6;have hbg7:t+n3+m1+n7<=1099511627776:=by
    have h1:=HBIG.out;have h2:=HL3.out;have h3:=HT.out;have h4:=HM1.out;have h5:=HL7.out;simp only[List.length_append] at h1;omega
   go_upto_region 8 with (at_builtin;refine zF rfl (.tmp 38) (.tmp 46) 24 rfl w.heap.size 5 i0 _ Tryz.underlying24 hi0 hz0 hz1 hz2 rfl v5 (t+n3+m1) _ rfl AP7.out.own w7.heap.size A7 n7 c7 (yZ [id,z]) rfl HL7.out HR7.out (by omega) HB7.out.size ?_;intro v8 w8 ho8 hg8 _)
   have AP8:=gI (AP7.out.app ho8 hg8);clear ho8 hg8 HB7 hbg hbg4 AP3 AP4 AP5 AP7 HR7 HB3 HR3;obtain ⟨-,-,-,q3⟩:=Zp AP8.out.box;have HB8:=gI AP8.out.below;have HO8:=gI AP8.out.own;obtain ⟨pre,hpre⟩:∃pre,pre=lst++yZ [m1]++nm++yZ [id,z]:=⟨_,rfl⟩
   rw[<-hpre] at HO8;have HNY:=gI (show yZ [v,x,n]++yQ (l.take (k+1))=pre++xE bs by rw[HNX.out,hpre];simp only[List.append_assoc]);have HPB:=gI (show pre.length+(xE bs).length<=1099511627776 by
    have h1:=HBIG.out;rw[hpre];simp only[List.length_append] at h1 ⊢
    omega)
   have hn240:n2<=1099511627776:=by
    have h1:=HPB.out;have h2:=Yk bs;have h3:=HBLN.out;omega
   clear hpre AP8
   go_wp2
   go_loopw [3,51] (fun y i wr'=>∃j t':Nat,j<=n2/\i=.int .i64 (j:Int)/\Hid (wr'.ownsRow w.heap.size 5 1 y t' (cellsOf (pre++xE (bs.take j))))/\Hid (Below w.heap.size w wr')) (fun _ i _=>n2-(intOf i).toNat)
   case atStart=>exact ⟨0,_,Nat.zero_le _,rfl,gI (by simpa [xE] using HO8.out),HB8⟩
   case round=>
    clear HB8 HO8 q3;obtain ⟨j,t',hj,rfl,HOJ,HBJ⟩:=hrel
    by_cases hjl:j<n2
    ·obtain ⟨y,hy⟩:∃y,bs[j]?=some y:=⟨_,List.getElem?_eq_getElem (by rw[HBLN.out];exact hjl)⟩
     have hym:=List.mem_of_getElem? hy;obtain ⟨p,hp⟩:∃p:Nat,p=y.toNat:=⟨_,rfl⟩
     have hyp:y=(p:Int):=by have:=HBP.out y hym;omega
     have hp64:(p:Int)<=9223372036854775807:=by rw[<-hyp];exact (HBW.out y hym).2
     obtain ⟨a2,rfl,hab2,hcz⟩:=(HBC.out.below HBJ.out).int hy;rw[hyp] at hcz;have e6:IntKind.u64.wrap (p:Int)=(p:Int):=qa (by omega) (by omega);have HBX:=gI (show pre++xE (bs.take (j+1))=(pre++xE (bs.take j))++yZ [p] by
      rw[zgC hy,hp];simp only[yZ,List.append_assoc,List.append_nil])
     have hbb:t'+(yZ [p]).length<=1099511627776:=by
      have h1:=HPB.out;have h2:=HOJ.out.1;rw[za,Nat.mul_one] at h2;have h3:(xE (bs.take (j+1))).length<=(xE bs).length:=by
       have e:xE bs=xE (bs.take (j+1))++xE (bs.drop (j+1)):=by rw[<-Yl,List.take_append_drop]
       rw[e,List.length_append];omega
      have h4:=congrArg List.length HBX.out;simp only[List.length_append] at h2 h4;omega
     have HBB:=gI hbb;clear hy hym hp hyp hbb;obtain ⟨wa,hwa⟩:∃wa,wa=wr.alloc (.cells #[.int .u64 (p:Int)] 106):=⟨_,rfl⟩
     have HOA:=gI (show wa.ownsRow w.heap.size 5 1 u3 t' (cellsOf (pre++xE (bs.take j))) from by rw[hwa];exact own_below HOJ.out ((Below.refl _ _).alloc (Nat.le_refl _) _));have HBA:=gI (show Below w.heap.size w wa by rw[hwa];exact HBJ.out.alloc HBJ.out.size _);have HCA:=gI (show Cs wa wa.heap.size (some ⟨wr.heap.size,0,none⟩) (ZV [p]) by
      rw[hwa];have:=Cs.lit wr #[.int .u64 (p:Int)] 106
      simpa [ZV] using this)
     have HWA:=gI hwa;clear hwa HOJ
     go_wp2_with fail
     rw[<-HWA.out];clear HWA;refine (ZO (some ⟨wr.heap.size,0,none⟩) 1 1 [p] wa wa.heap.size rfl (by omega) (by simp;omega) HCA.out (Nat.le_refl _)).mono ?_;intro e w9 h9;obtain ⟨A9,n9,c9,rfl,hl9,-,-,hr9,hb9⟩:=h9.open;have HO9:=gI (own_below HOA.out hb9);have HB9:=gI (HBA.out.trans (hb9.mono HBA.out.size));have HL9:=gI hl9;have HR9:=gI hr9;have hbg9:t'+n9<=1099511627776:=by have:=HBB.out;rw[hl9] at this;exact this
     clear h9 hl9 hr9 hb9 HCA HOA HBA HBJ
     go_upto_region 12 with (at_builtin;refine zF rfl (.tmp 55) (.tmp 59) 24 rfl w.heap.size 5 i0 _ Tryz.underlying24 hi0 hz0 hz1 hz2 rfl u3 t' _ rfl HO9.out w9.heap.size A9 n9 c9 (yZ [p]) rfl HL9.out HR9.out (by omega) HB9.out.size ?_;intro v10 w10 ho10 hg10 _)
     have HB10:=gI (yj HB9.out HO9.out (Nat.le_refl _) HB9.out.size hg10);rw[<-HBX.out] at ho10;have HO10:=gI ho10;clear ho10 hg10 HO9 HB9 HR9
     go_wp2
     go_roundw
     case rel=>exact ⟨j+1,_,by omega,by go_num,HO10,HB10⟩
     case measure=>simp[intOf];omega
    ·have hjn:j=n2:=by omega
     subst hjn;have e:bs.take j=bs:=by rw[<-HBLN.out,List.take_length]
     have HOE:=HOJ;rw[e,<-HNY.out] at HOE;clear HOJ e
     go_wp2
     go_roundw
     case rel=>exact ⟨k+1,t',by omega,by go_num,HOE,HBJ⟩
     case measure=>simp[intOf];omega
  ·have hkn:k=n:=by omega
   subst hkn;have e:l.take k=l:=by rw[<-HL.out,List.take_length]
   have HOE:=HO;rw[e,<-HBY.out] at HOE;clear HO e
   go_wp2
   go_ret
   exact ⟨_,_,rfl,HOE.out,HB.out⟩
end
end
section
section
open Go.RowKit Me Mf Va Fr
def zdT (m:ManD):SecD:=⟨77,body m⟩
def xZ (m:ManD):List UInt8:=encS (zdT m)++List.replicate (2048-(encS (zdT m)).length) 0
theorem Ql (m:ManD):(encS (zdT m)).length=(body m).length+13:=vM _
theorem qR {m:ManD} (h:Fit m):(xZ m).length=2048:=by
 unfold xZ;have:=h.2;rw[List.length_append,List.length_replicate,Ql];omega
def zkR (w:World) (m:ManD) (e:Ending) (w':World):Prop:=
 Below w.heap.size w w'/\((Fit m/\∃v,e=.returned (.tuple #[v,.int .i64 0])/\w'.ownsRow w.heap.size 5 1 v 2048 (cellsOf (xZ m)))\/(¬Fit m/\e=.returned (.tuple #[.slice none 0 0,.int .i64 3])))
structure Small (m:ManD):Prop where
 files:m.files.length<=1073741824
 count:zK m.files<=1073741824
 body:(body m).length<=1099511627776
theorem zff (A:Option Addr) (n c:Nat) (m:ManD) (w:World) (hs:Small m) (h:Zc w w.heap.size A n c m) :
 Calls Tryz.prog 91 #[mval m.version m.next A n c] w (zkR w m):=by
 obtain ⟨i0,hi0,hz0,hz1,hz2⟩:=info_parts yO;have hn:=h.len;have hs1:=hs.files;rw[hn] at hs1;obtain ⟨v,hv⟩:∃v,v=m.version:=⟨_,rfl⟩
 obtain ⟨x,hx⟩:∃x,x=m.next:=⟨_,rfl⟩
 have HV:=gI hv;have HX:=gI hx;rw[<-hv,<-hx];have HS:=gI hs;have HN:=gI hn;obtain ⟨wb,hwb⟩:∃wb,wb=w.alloc (.cells #[.int .u64 (v:Int),.int .u32 (x:Int),.slice A n c] 110):=⟨_,rfl⟩
 have HB0:=gI (show Below w.heap.size w wb by rw[hwb];exact (Below.refl _ _).alloc (Nat.le_refl _) _);have HM0:=gI (h.past HB0.out);have hb0:wb.heap.size=w.heap.size+1:=by rw[hwb];simp
 have p0:wb.cell? ⟨w.heap.size,0,none⟩=some (.int .u64 (v:Int)):=by rw[hwb];simp only[World.cell?,heap_alloc_new];rfl
 have p1:wb.cell? ⟨w.heap.size,1,none⟩=some (.int .u32 (x:Int)):=by rw[hwb];simp only[World.cell?,heap_alloc_new];rfl
 have p2:wb.cell? ⟨w.heap.size,2,none⟩=some (.slice A n c):=by rw[hwb];simp only[World.cell?,heap_alloc_new];rfl
 have HP:=gI (And.intro p0 (And.intro p1 p2));have HBS:=gI hb0;have HWB:=gI hwb;clear h hs hn hv hx hwb hb0 p0 p1 p2
 go_enter Tryz.func91,Tryz.ntmps91
 go_wp2_with fail
 rw[<-HWB.out];clear HWB;refine (zhR A n c m.files wb HN.out (by omega) HM0.out.files).mono ?_;rintro e w1 ⟨b1,rfl,hb1,hB1⟩;have HB1:=gI (HB0.out.trans (hB1.mono HB0.out.size));have hc1:∀j,w1.cell? ⟨w.heap.size,j,none⟩=wb.cell? ⟨w.heap.size,j,none⟩:=fun j=>hB1.cell (p:=⟨w.heap.size,j,none⟩) (by have:=HBS.out;show w.heap.size<wb.heap.size;omega)
 have q0:=(hc1 0).trans HP.out.1;have q1:=(hc1 1).trans HP.out.2.1;have q2:=(hc1 2).trans HP.out.2.2;have HQ:=gI (And.intro q0 (And.intro q1 q2));have HM1:=gI (HM0.out.past hB1);have HS1:=gI (show w.heap.size<w1.heap.size by have:=hB1.size;have:=HBS.out;omega);have HN1:=gI hb1;clear hb1 hB1 hc1 HM0 HB0 HP HBS
 cases b1 with
 |false=>
  clear q0 q1 q2
  go_wp2
  exact bodyPost_ret (v:=.tuple #[.slice none 0 0,.int .i64 3]) (by simp[results,Tryz.results91,go_sem]) rfl ⟨HB1.out,.inr ⟨fun hf=>(by have:=HN1.out.2 hf.1.1;cases this),rfl⟩⟩
 |true=>
  go_wp2_with fail
  refine (zlN v x A n c m w1 HX.out.symm (by omega) HM1.out).mono ?_;rintro e w2 ⟨b2,rfl,hb2,hB2⟩;have HB2:=gI (HB1.out.trans (hB2.mono HB1.out.size));have hc2:∀j,w2.cell? ⟨w.heap.size,j,none⟩=w1.cell? ⟨w.heap.size,j,none⟩:=fun j=>hB2.cell (p:=⟨w.heap.size,j,none⟩) HS1.out
  have r0:=(hc2 0).trans HQ.out.1;have r1:=(hc2 1).trans HQ.out.2.1;have r2:=(hc2 2).trans HQ.out.2.2;have HR:=gI (And.intro r0 (And.intro r1 r2));have HM2:=gI (HM1.out.past hB2);have HS2:=gI (show w.heap.size<w2.heap.size by have:=hB2.size;have:=HS1.out;omega);have HI2:=gI hb2;clear hb2 hB2 hc2 q0 q1 q2 HM1 HB1 HQ HS1
  cases b2 with
  |false=>
   clear r0 r1 r2
   go_wp2
   exact bodyPost_ret (v:=.tuple #[.slice none 0 0,.int .i64 3]) (by simp[results,Tryz.results91,go_sem]) rfl ⟨HB2.out,.inr ⟨fun hf=>(by have:=HI2.out.2 hf.1.2.1;cases this),rfl⟩⟩
  |true=>
   go_wp2_with fail
   refine (zkF A n c m.files w2 HN.out (by omega) HS.out.count HM2.out.wf.files HM2.out.files).mono ?_;rintro e w3 ⟨b3,rfl,hb3,hB3⟩;have HB3:=gI (HB2.out.trans (hB3.mono HB2.out.size));have hc3:∀j,w3.cell? ⟨w.heap.size,j,none⟩=w2.cell? ⟨w.heap.size,j,none⟩:=fun j=>hB3.cell (p:=⟨w.heap.size,j,none⟩) HS2.out
   have s0:=(hc3 0).trans HR.out.1;have s1:=(hc3 1).trans HR.out.2.1;have s2:=(hc3 2).trans HR.out.2.2;have HM3:=gI (HM2.out.past hB3);have HS3:=gI (show w.heap.size<w3.heap.size by have:=hB3.size;have:=HS2.out;omega);have HK3:=gI hb3;clear hb3 hB3 hc3 r0 r1 r2 HM2 HB2 HR HS2
   cases b3 with
   |false=>
    clear s0 s1 s2
    go_wp2
    exact bodyPost_ret (v:=.tuple #[.slice none 0 0,.int .i64 3]) (by simp[results,Tryz.results91,go_sem]) rfl ⟨HB3.out,.inr ⟨fun hf=>(by have:=HK3.out.2 hf.1.2.2;cases this),rfl⟩⟩
   |true=>
    have HG:=gI (show Mf.Good m.next m.files from ⟨HN1.out.1 (by trivial),HI2.out.1 (by trivial),HK3.out.1 (by trivial)⟩);clear HN1 HI2 HK3
    go_wp2_with fail
    rw[HV.out,HX.out];refine (zkE A n c m w3 (zkk HG.out) HS.out.body HM3.out).mono ?_;intro e w4 h4;obtain ⟨A4,n4,c4,rfl,hl4,-,-,hr4,hb4⟩:=h4.open;have HB4:=gI (HB3.out.trans (hb4.mono HB3.out.size));have HL4:=gI hl4;have HR4:=gI hr4;clear h4 hl4 hr4 hb4 s0 s1 s2 HB3 HM3
    by_cases hlong:1048576<n4
    ·go_wp2_with fail
     refine (zit none 0 0 [] 77 A4 n4 c4 w4 rfl (by omega) Rd.empty hlong).mono ?_;rintro e w5 ⟨v5,n5,rfl,-,hb5⟩;have HB5:=gI (HB4.out.trans (hb5.mono HB4.out.size));clear hb5
     go_wp2
     exact bodyPost_ret (v:=.tuple #[.slice none 0 0,.int .i64 3]) (by simp[results,Tryz.results91,go_sem]) rfl ⟨HB5.out,.inr ⟨fun hf=>(by have:=hf.2;have:=HL4.out;omega),rfl⟩⟩
    ·go_wp2_with fail
     refine (zc6 none 0 0 [] A4 n4 c4 (zdT m) w4 rfl (by omega) Rd.empty HL4.out (by omega) HR4.out).mono ?_;intro e w5 h5;rw[List.nil_append] at h5;obtain ⟨A5,n5,c5,rfl,hl5,hc5,-,hr5,hb5⟩:=h5.open;have HB5:=gI (HB4.out.trans (hb5.mono HB4.out.size));have HL5:=gI hl5;have HR5:=gI hr5;have HE5:=gI (show n5=(body m).length+13 by rw[<-hl5,Ql]);clear h5 hl5 hr5 hb5 HB4 HR4
     by_cases hbig:2048<n5
     ·have d1:decide ((2048:Int)<(n5:Int))=true:=by simp;omega
      go_wp2
      exact bodyPost_ret (v:=.tuple #[.slice none 0 0,.int .i64 3]) (by simp[results,Tryz.results91,go_sem]) rfl ⟨HB5.out,.inr ⟨fun hf=>(by have:=hf.2;have:=HE5.out;omega),rfl⟩⟩
     ·have d1:decide ((2048:Int)<(n5:Int))=false:=by simp;omega
      have HFIT:=gI (show Fit m from ⟨HG.out,by have:=HE5.out;omega⟩)
      go_wp2_with (first
       |(refine wpList_make_full w5 rfl _ _ 24 rfl w5.heap.size 5 i0 _ 1 Tryz.underlying24 hi0 hz0 hz1 .i64 .i64 _ _ 2048 rfl rfl rfl rfl (by rw[hz2];omega) (by unfold maxLen;omega) (Nat.le_refl _) ?_
         intro w6 ho6 hg6;rw[zcW] at ho6;have HO6:=gI ho6;have HB6:=gI ((Below.refl w5.heap.size w5).grown hg6 (Nat.le_refl _) (fun k e=>by cases e));clear ho6 hg6)
       |(with_reducible show wpList _ _ _ _ _ _
         refine qc (o:=⟨some 39,_,_,_,_,_⟩) rfl (.tmp 37) (.tmp 38) 24 rfl 5 Tryz.underlying24 (by kernel_rfl) w5.heap.size w5.heap.size 2048 0 2048 2048 _ HO6.out rfl w5.heap.size A5 n5 c5 _ rfl HL5.out (HR5.out.below HB6.out) (by omega) (by omega) w5 HB6.out ?_;intro w7 ho7 hb7;have HO7:=gI ho7;have HB7:=gI hb7;clear ho7 hb7))
      have ho:=HO7.out;have e7:(List.replicate 2048 0).take 0++encS (zdT m)++(List.replicate 2048 (0:UInt8)).drop (0+n5)=xZ m:=by
       unfold xZ;rw[List.take_zero,List.nil_append,List.drop_replicate,HL5.out,Nat.zero_add]
      rw[e7] at ho;exact bodyPost_ret (v:=.tuple #[.slice (some ⟨w5.heap.size,0,none⟩) 2048 2048,.int .i64 0]) (by simp[results,Tryz.results91,go_sem]) rfl
       ⟨HB5.out.trans (HB7.out.mono HB5.out.size),.inl ⟨HFIT.out,_,rfl,zU ho HB5.out.size⟩⟩
end
section
open Go.RowKit Me Mf Va Fr
theorem zfg (A:Option Addr) (n c:Nat) (m:ManD) (w:World) (hs:Small m) (h:Zc w w.heap.size A n c m) :
 Calls Tryz.prog 103 #[mval m.version m.next A n c] w (Bp w (Fit m)):=by
 have HS:=gI hs;obtain ⟨wb,hwb⟩:∃wb,wb=w.alloc (.cells #[.int .u64 (m.version:Int),.int .u32 (m.next:Int),.slice A n c] 110):=⟨_,rfl⟩
 have HB0:=gI (show Below w.heap.size w wb by rw[hwb];exact (Below.refl _ _).alloc (Nat.le_refl _) _);have HM0:=gI (h.past HB0.out);have HWB:=gI hwb;clear h hs hwb
 go_enter Tryz.func103,Tryz.ntmps103
 go_wp2_with fail
 rw[<-HWB.out];clear HWB;refine (zff A n c m wb HS.out HM0.out).mono ?_;rintro e w1 ⟨hb,h1⟩;have HB1:=gI (HB0.out.trans (hb.mono HB0.out.size));rcases h1 with ⟨hf,v,rfl,-⟩|⟨hf,rfl⟩
 ·have HF:=gI hf;clear hf hb
  go_wp2
  go_ret
  exact ⟨true,rfl,⟨fun _=>HF.out,fun _=>rfl⟩,HB1.out⟩
 ·have HF:=gI hf;clear hf hb
  go_wp2
  go_ret
  exact ⟨false,rfl,⟨fun h=>(by cases h),fun h=>absurd h HF.out⟩,HB1.out⟩
theorem ziM:body ql=[0,0,0]:=by
 unfold body ql;simp only[yQ,List.length_nil,List.append_nil];rw[Zq (by decide)];rfl
theorem zbB:Fit ql:=⟨zfo 0,by rw[ziM];decide⟩
end
end
section
open Go.RowKit Me Mf
end
section
section
open Go.RowKit Me Mf Va
def Kp (w:World) (b:Nat) (o:Obj):Prop:=w.heap[b]?=some o/\b<w.heap.size
abbrev mbox (v x:Nat) (A:Option Addr) (n c:Nat):Obj:=.cells #[.int .u64 (v:Int),.int .u32 (x:Int),.slice A n c] 110
theorem Kp.file {w:World} {b:Nat} {nm:List UInt8} {id:Nat} {sz:Int} {A:Option Addr} {n c:Nat} (h:Kp w b (fbox nm id sz A n c)) :
 w.cell? ⟨b,0,none⟩=some (.string ⟨nm.toArray⟩)/\w.cell? ⟨b,1,none⟩=some (.int .u32 (id:Int))/\w.cell? ⟨b,2,none⟩=some (.int .i64 sz)/\w.cell? ⟨b,3,none⟩=some (.slice A n c):=Zp h.1
structure Ow (w wr:World) (v:Value) (t:Nat) (l:List UInt8):Prop where
 own:wr.ownsRow w.heap.size 5 1 v t (cellsOf l)
 below:Below w.heap.size w wr
section
variable {w wr w1:World} {v v':Value} {t t':Nat} {l l':List UInt8}
theorem Ow.len (h:Ow w wr v t l):l.length=t:=by
 have:=h.own.1
 rwa[za,Nat.mul_one] at this
end
end
section
open Go.RowKit Me Mf
end
end
section
open Go.RowKit Me Mf Va Fr
def zmx (w:World) (b:List UInt8) (okv errv:Value) (e:Ending) (w':World):Prop:=
 Below w.heap.size w w'/\((∃m A n c,YG b m/\e=.returned (.tuple #[mval m.version m.next A n c,okv])/\Zc w' w'.heap.size A n c m/\n<=2097153/\ManK (fun k=>k<w.heap.size) A n c m w')\/((∀m,¬YG b m)/\e=.returned (.tuple #[.agg #[.int .u64 0,.int .u32 0,.slice none 0 0],errv])))
theorem ZR:∀l:List zi,zK l<=(yQ l).length
 |[]=>Nat.le_refl _
 |f::l=>by
  have h1:=ZR l;have h2:=(Y0 f).2.2;unfold zK zh at *;simp only[List.flatMap_cons,List.length_append,yQ];omega
theorem ZB {m:ManD} (h:(body m).length<=1048576):Small m:=by
 have h1:=y9 m;have h2:=yI m.files;have h3:=ZR m.files;exact ⟨by omega,by omega,by omega⟩
theorem zjY {b:List UInt8} {s:SecD} {k:Nat} {x:Int} (hs:getS b=(s,k,x)) (h:x≠0\/s.kind≠77):∀m,¬YG b m:=fun m ⟨⟨k',e⟩,_,_⟩=>by
 rw[hs] at e;injection e with e1 e2;injection e2 with _ e2;rcases h with h|h
 ·exact h e2
 ·exact h (by rw[e1])
theorem zkw {l:List UInt8} {x:Int} (h:V8 l x=0):x=0/\l=[]:=by
 unfold V8 at h
 split at h
 ·cases h
 ·rename_i hn
  refine ⟨h,?_⟩
  cases l with
  |nil=>rfl
  |cons a t=>exact absurd ⟨h,by simp⟩ hn
theorem zj8 (A:Option Addr) (n c:Nat) (b:List UInt8) (w:World) (hb:b.length=n) (hc:n<=c) (hc63:c<=9223372036854775807) (hr:Rd w w.heap.size A b) :
 Calls Tryz.prog 86 #[.slice A n c] w (zmx w b (.int .i64 0) (.int .i64 5)):=by
 obtain ⟨s,k,x,hs⟩:∃s k x,getS b=(s,k,x):=⟨_,_,_,rfl⟩
 have HS:=gI hs;have HBB:=gI hb;obtain ⟨H,hH⟩:∃H,H=w.heap.size:=⟨_,rfl⟩
 obtain ⟨wz,hwz⟩:∃wz,wz=w.alloc (.cells #[.int .u64 0,.int .u32 0,.slice none 0 0] 110):=⟨_,rfl⟩
 have HWZ:=gI hwz;have HB0:=gI (show Below w.heap.size w wz by rw[hwz];exact (Below.refl _ _).alloc (Nat.le_refl _) _);have HR0:=gI ((hr.below HB0.out).more HB0.out.size);have RS0:=gI (show Blk wz H [.int .u64 0,.int .u32 0,.slice none 0 0] by rw[hwz,hH];exact Blk.new w [.int .u64 0,.int .u32 0,.slice none 0 0] _);have HHW:=gI hH;have hwH:w.heap.size<=H:=by omega
 clear hs hb hwz hH hr
 go_enter Tryz.func86,Tryz.ntmps86
 go_wp2_with fail
 rw[<-HWZ.out,<-HHW.out];clear HWZ;refine ((zfw A n c b wz HBB.out hc hc63 HR0.out).mono fun _ _ h=>h.plain).mono ?_;rw[HS.out];obtain ⟨q,hq⟩:∃q,q=s.kind.toNat:=⟨_,rfl⟩
 have HQ:=gI hq;rintro e w1 ⟨hb1,A1,n1,c1,he,hl1,hn1,hr1,-⟩;replace he:e=.returned (.tuple #[.agg #[.int .u8 (q:Int),.slice A1 n1 c1],.int .i64 (k:Int),.int .i64 x]):=by rw[hq];exact he
 subst he;clear hq;have HB1:=gI (HB0.out.trans (hb1.mono HB0.out.size));have RS1:=gI (RS0.out.past hb1);have HL1:=gI (show s.body.length=n1 from hl1);have HR1:=gI (show Rd w1 w1.heap.size A1 s.body from hr1);replace RS1:=RS1;clear hb1 hl1 hr1 HR0 HB0 RS0;have HX:=gI (show (x=0/\q=77)\/(x≠0\/q≠77) by omega);rcases HX.out with ⟨hx,hq⟩|hbad
 ·clear HX;subst hx hq
  have HG:=gI (show getS b=(⟨77,s.body⟩,k,0) by rw[HS.out];congr 1;have h1:=HQ.out;have:s.kind=77:=by apply UInt8.toNat.inj;rw[<-h1];rfl
                                                rw[<-this])
  obtain ⟨w2,hw2⟩:∃w2,w2=w1.alloc (.cells #[.int .u8 77,.slice A1 n1 c1] 144):=⟨_,rfl⟩
  have HW2:=gI hw2;have hb2:Below w1.heap.size w1 w2:=by rw[hw2];exact (Below.refl _ _).alloc (Nat.le_refl _) _
  have HB2:=gI (HB1.out.trans (hb2.mono HB1.out.size));have HR2:=gI ((HR1.out.below hb2).more hb2.size);have RS2:=gI (RS1.out.past hb2);clear hb2 hw2
  go_wp2_with fail
  rw[<-HW2.out];clear HW2;refine (zd2 A1 n1 c1 s.body w2 HL1.out (by omega) HR2.out).mono ?_;rintro e w3 ⟨g,rfl,hg2,hg3,hrd,hb3⟩;have HRD:=gI hrd;have HB3:=gI (HB2.out.trans (hb3.mono HB2.out.size));have RS3:=gI (RS2.out.past hb3);have hgw:w.heap.size<=g:=Nat.le_trans HB2.out.size hg2;have hHg:H<g:=Nat.lt_of_lt_of_le (Blk.lt RS2.out) hg2;clear hrd hb3 RS2 HR2 HR1 RS1
  go_wp2_with fail
  refine (zj0 g s.body w3 HRD.out (by rw[HL1.out];omega)).mono ?_;rintro e w4 ⟨m,A2,n2,c2,l',x',rfl,hM,hn2,hrd,hgr,hp,hkey⟩;have HKEY:=gI hkey;have HM4:=gI hM;have HRD4:=gI hrd;have HB4:=gI (show Below w.heap.size w w4 from HB3.out.trans ⟨hgr.os,hgr.tape,hgr.output,hgr.size,fun k hk=>hgr.block k (by have:=HB3.out.size;omega) (by intro e;injection e with e;omega)⟩);have RS4:=gI (Blk.grown RS3.out hgr (by intro e;injection e with e;omega));have HP:=gI hp;have HML:=gI hM.wf;have HI:=gI (zkm HG.out (mn:=18446744073709551615) (ms:=9223372036854775807) (mb:=65535) (by omega) (by omega) (by omega));have hH3:=Blk.lt RS3.out;clear hM hrd hgr hp hkey HRD HB3 RS3;obtain ⟨w5,hw5⟩:∃w5,w5=w4.alloc (.cells #[.int .u64 (m.version:Int),.int .u32 (m.next:Int),.slice A2 n2 c2] 110):=⟨_,rfl⟩
  have HW5:=gI hw5;have hb5:Below w4.heap.size w4 w5:=by rw[hw5];exact (Below.refl _ _).alloc (Nat.le_refl _) _
  have HG5:=gI hb5;have HB5:=gI (HB4.out.trans (hb5.mono HB4.out.size));have HM5:=gI (HM4.out.past hb5);have HRD5:=gI (HRD4.out.past hb5);have RS5:=gI (Blk.past RS4.out hb5);have MB5:=gI (show Blk w5 w4.heap.size [.int .u64 (m.version:Int),.int .u32 (m.next:Int),.slice A2 n2 c2] by rw[hw5];exact Blk.new w4 [.int .u64 (m.version:Int),.int .u32 (m.next:Int),.slice A2 n2 c2] _);obtain ⟨I,hI⟩:∃I,I=w4.heap.size:=⟨_,rfl⟩
  have HI4:=gI hI;rw[<-hI] at MB5;clear hw5 hb5 hI HM4 HRD4 RS4 HB4
  go_wp2_with fail
  rw[<-HW5.out];refine (zlU g l' x' w5 HRD5.out).mono ?_;rintro e w6 ⟨rfl,rfl⟩;obtain ⟨z,hz⟩:∃z,z=V8 l' x':=⟨_,rfl⟩
  rw[<-hz];have HZ:=gI hz;clear HW5 hz
  by_cases hz0:z=0
  ·subst hz0;obtain ⟨e1,e2⟩:=zkw HZ.out.symm;have HP0:=gI (show vT 18446744073709551615 9223372036854775807 65535 s.body=some (m,[]) by
    rcases HP.out with ⟨-,h⟩|⟨h,-⟩
    ·rw[h,e2]
    ·exact absurd e1 h)
   have HSM:=gI (ZB (m:=m) (by have h:=(Qq HP0.out).1;rw[List.append_nil] at h;rw[<-h,HL1.out];exact hn1));clear e1 e2;have i0:=MB5.cell (i:=0) rfl;have i1:=MB5.cell (i:=1) rfl;have i2:=MB5.cell (i:=2) rfl;rw[<-HI4.out]
   go_wp2_with fail
   refine (zfg A2 n2 c2 m w5 HSM.out HM5.out).mono ?_;rintro e w6 ⟨ok,rfl,hok,hb6⟩;have HOK:=gI hok;have HG6:=gI (HG5.out.trans (hb6.mono HG5.out.size));have HB6:=gI (HB5.out.trans (hb6.mono HB5.out.size));have RS6:=gI (Blk.past RS5.out hb6);have HM6:=gI (HM5.out.past hb6);have MB6:=Blk.past MB5 hb6;have i0:=MB6.cell (i:=0) rfl;have i1:=MB6.cell (i:=1) rfl;have i2:=MB6.cell (i:=2) rfl;have h56:=hb6.size;clear hok hb6
   cases ok with
   |true=>
    have HGM:=gI ((HI.out m).2 ⟨HP0.out,HOK.out.1 rfl⟩);clear HOK
    go_wp2_with (first
     |(refine ze rfl 110 _ _ rfl H _ #[.int .u64 (m.version:Int),.int .u32 (m.next:Int),.slice A2 n2 c2] rfl rfl (RS6.out) rfl zP (yt _ _ _ _ _) ?_
       intro w7 hb7 ho7;have HB7:=gI (show Blk w7 H [.int .u64 (m.version:Int),.int .u32 (m.next:Int),.slice A2 n2 c2] from hb7);have HO7:=gI ho7;clear hb7 ho7)
     |fail)
    have r0:=HB7.out.cell (i:=0) rfl;have r1:=HB7.out.cell (i:=1) rfl;have r2:=HB7.out.cell (i:=2) rfl;refine bodyPost_ret (v:=.tuple #[mval m.version m.next A2 n2 c2,.int .i64 0]) (by simp[results,Tryz.results86,go_sem,r0,r1,r2,mval]) rfl ?_;have HK7:=gI ((HKEY.out.past HG6.out).out (HO7.out.more (S':=fun k=>k<w3.heap.size) (fun k _ hk=>by omega)));have hw3:w.heap.size<=w3.heap.size:=by omega
    exact ⟨HB6.out.trans (HO7.out.below (B:=w.heap.size) (fun k _ hk=>by omega) HB6.out.size),.inl ⟨m,A2,n2,c2,HGM.out,rfl,HK7.out.now,hn2,HK7.out.less (fun k _ hk=>by omega)⟩⟩
   |false=>
    have HN:=gI (show ∀m,¬YG b m from fun m0 h=>by
     have h1:=(HI.out m0).1 h;rw[HP0.out] at h1;obtain ⟨h1,h2⟩:=h1;injection h1 with h1;injection h1 with h1 _;subst h1;exact absurd (HOK.out.2 h2) (by decide))
    clear HOK
    go_wp2_with (first
     |(refine ze rfl 110 _ _ rfl H _ #[.int .u64 0,.int .u32 0,.slice none 0 0] rfl rfl (RS6.out) rfl zP (yt _ _ _ _ _) ?_
       intro w7 hb7 ho7;have HB7:=gI (show Blk w7 H [.int .u64 0,.int .u32 0,.slice none 0 0] from hb7);have HO7:=gI ho7;clear hb7 ho7)
     |fail)
    have r0:=HB7.out.cell (i:=0) rfl;have r1:=HB7.out.cell (i:=1) rfl;have r2:=HB7.out.cell (i:=2) rfl;have HBW:=gI (HB6.out);refine bodyPost_ret (v:=.tuple #[.agg #[.int .u64 0,.int .u32 0,.slice none 0 0],.int .i64 5]) (by simp[results,Tryz.results86,go_sem,r0,r1,r2]) rfl ?_;exact ⟨HBW.out.trans (HO7.out.below (B:=w.heap.size) (fun k _ hk=>by omega) HBW.out.size),.inr ⟨HN.out,rfl⟩⟩
  ·have HN:=gI (show ∀m,¬YG b m from fun m0 h=>by
    have h1:=((HI.out m0).1 h).1;rcases HP.out with ⟨e,h2⟩|⟨-,h2⟩
    ·rw[h2] at h1;injection h1 with h1;injection h1 with _ h1;refine hz0 (HZ.out.trans ?_);rw[e,h1];rfl
    ·rw[h2] at h1;cases h1)
   clear HZ
   go_wp2_with (first
    |(refine ze rfl 110 _ _ rfl H _ #[.int .u64 0,.int .u32 0,.slice none 0 0] rfl rfl (RS5.out) rfl zP (yt _ _ _ _ _) ?_
      intro w7 hb7 ho7;have HB7:=gI (show Blk w7 H [.int .u64 0,.int .u32 0,.slice none 0 0] from hb7);have HO7:=gI ho7;clear hb7 ho7)
    |fail)
   have r0:=HB7.out.cell (i:=0) rfl;have r1:=HB7.out.cell (i:=1) rfl;have r2:=HB7.out.cell (i:=2) rfl;have HBW:=gI (HB5.out);refine bodyPost_ret (v:=.tuple #[.agg #[.int .u64 0,.int .u32 0,.slice none 0 0],.int .i64 5]) (by simp[results,Tryz.results86,go_sem,r0,r1,r2]) rfl ?_;exact ⟨HBW.out.trans (HO7.out.below (B:=w.heap.size) (fun k _ hk=>by omega) HBW.out.size),.inr ⟨HN.out,rfl⟩⟩
 ·have HN:=gI (zjY HS.out (hbad.imp id (fun h=>fun e=>h (by rw[HQ.out,e];rfl))));rcases hbad with hx|hq
  ·clear HX
   go_wp2_with (first
    |(refine ze rfl 110 _ _ rfl H _ #[.int .u64 0,.int .u32 0,.slice none 0 0] rfl rfl (RS1.out.alloc _) rfl zP (yt _ _ _ _ _) ?_
      intro w7 hb7 ho7;have HB7:=gI (show Blk w7 H [.int .u64 0,.int .u32 0,.slice none 0 0] from hb7);have HO7:=gI ho7;clear hb7 ho7)
    |fail)
   have r0:=HB7.out.cell (i:=0) rfl;have r1:=HB7.out.cell (i:=1) rfl;have r2:=HB7.out.cell (i:=2) rfl;have HBW:=gI (HB1.out.alloc HB1.out.size (.cells #[.int .u8 (q:Int),.slice A1 n1 c1] 144));refine bodyPost_ret (v:=.tuple #[.agg #[.int .u64 0,.int .u32 0,.slice none 0 0],.int .i64 5]) (by simp[results,Tryz.results86,go_sem,r0,r1,r2]) rfl ?_;exact ⟨HBW.out.trans (HO7.out.below (B:=w.heap.size) (fun k _ hk=>by omega) HBW.out.size),.inr ⟨HN.out,rfl⟩⟩
  ·clear HX
   by_cases hx:x=0
   ·subst hx
    go_wp2_with (first
     |(refine ze rfl 110 _ _ rfl H _ #[.int .u64 0,.int .u32 0,.slice none 0 0] rfl rfl (RS1.out.alloc _) rfl zP (yt _ _ _ _ _) ?_
       intro w7 hb7 ho7;have HB7:=gI (show Blk w7 H [.int .u64 0,.int .u32 0,.slice none 0 0] from hb7);have HO7:=gI ho7;clear hb7 ho7)
     |fail)
    have r0:=HB7.out.cell (i:=0) rfl;have r1:=HB7.out.cell (i:=1) rfl;have r2:=HB7.out.cell (i:=2) rfl;have HBW:=gI (HB1.out.alloc HB1.out.size (.cells #[.int .u8 (q:Int),.slice A1 n1 c1] 144));refine bodyPost_ret (v:=.tuple #[.agg #[.int .u64 0,.int .u32 0,.slice none 0 0],.int .i64 5]) (by simp[results,Tryz.results86,go_sem,r0,r1,r2]) rfl ?_;exact ⟨HBW.out.trans (HO7.out.below (B:=w.heap.size) (fun k _ hk=>by omega) HBW.out.size),.inr ⟨HN.out,rfl⟩⟩
   ·clear hq
    go_wp2_with (first
     |(refine ze rfl 110 _ _ rfl H _ #[.int .u64 0,.int .u32 0,.slice none 0 0] rfl rfl (RS1.out.alloc _) rfl zP (yt _ _ _ _ _) ?_
       intro w7 hb7 ho7;have HB7:=gI (show Blk w7 H [.int .u64 0,.int .u32 0,.slice none 0 0] from hb7);have HO7:=gI ho7;clear hb7 ho7)
     |fail)
    have r0:=HB7.out.cell (i:=0) rfl;have r1:=HB7.out.cell (i:=1) rfl;have r2:=HB7.out.cell (i:=2) rfl;have HBW:=gI (HB1.out.alloc HB1.out.size (.cells #[.int .u8 (q:Int),.slice A1 n1 c1] 144));refine bodyPost_ret (v:=.tuple #[.agg #[.int .u64 0,.int .u32 0,.slice none 0 0],.int .i64 5]) (by simp[results,Tryz.results86,go_sem,r0,r1,r2]) rfl ?_;exact ⟨HBW.out.trans (HO7.out.below (B:=w.heap.size) (fun k _ hk=>by omega) HBW.out.size),.inr ⟨HN.out,rfl⟩⟩
end
section
section
open Go.RowKit Me Mf Va
end
section
open Go.RowKit Me Mf Va Fr
section
variable {W wr wi w1:World} {B g F:Nat} {l l':List UInt8} {x x':Int} {cs:List Value}
end
end
end
end Go.Proofs.YtcdkopbjlakebaaGreatDoor
