/- RunsPlays: any row of acts is answered as the document says, up to where the store is full; for every input. -/
import Derived.Test.YtcdkopbjlakebaaGreatDoorKP50
import Derived.Test.YtcdkopbjlakebaaGreatDoorKP35
namespace Go.Proofs.YtcdkopbjlakebaaGreatDoor
open Go.RowKit Me Mf Rn Tx Go.Shelf Go.Lib Go.ChangeShapes
theorem VW (s:ByteArray) (hs:s.size<=maxLen) (wz rz:Int) (A:Option Addr) (n c:Nat) (acts:List RA) (hl:acts.length=n) (hnc:n<=c) (hc:c<=9223372036854775807) (w:World) (ha:zi1 w w.heap.size A acts) (hL:laidMetH Tryz.prog Vz w) :
 Calls Tryz.prog 3 #[.string s,.int .i64 wz,.int .i64 rz,.slice A n c] w fun e w'=>e=.returned (.bool true)/\Below w.heap.size w w':=by
 have h1:s.data.toList.length<=9223372036854775807:=by
  have h2:s.data.size=s.size:=rfl;rw[Array.length_toList,h2];unfold maxLen at hs;omega
 have:=zdW s.data.toList wz rz A n c acts w h1 hl (by omega) ha (zke hL);rw[zhb] at this;exact this
set_option maxRecDepth 100000 in
theorem QC (os:Os) (started:os.Started) (H:Type) (enc:TypeId×Value->H) :
 ReturnsInHanded {} Tryz.checked os 3 .any (fun w args=>(Rows.runsPlaysSpec.pre enc Tryz.prog Tryz.f3 Rows.runsPlaysRow.domain false w args/\laidMetH Tryz.prog Vz w)/\sizedMet enc Tryz.prog Tryz.f3 (OpenSpec.ofChange Rows.runsPlaysSpec) false w args)
  (Rows.runsPlaysSpec.post enc Tryz.prog Tryz.f3 false true false false):=by
 refine returnsInHanded_of_change_and (C:=Tryz.checked) (X:=fun w _=>laidMetH Tryz.prog Vz w) (fun _ _ _ hh h=>h.of_heap hh) own started (by kernel_rfl) Tryz.func3
  (ChangeSpec.witness_shaped (enc:=enc) (C:=Tryz.checked) (os:=os) (X:=fun w _=>laidMetH Tryz.prog Vz w) false (World.laidAll Tryz.prog os Vz) #[.string ⟨#[]⟩,.int .i64 0,.int .i64 0,.slice none 0 0] 8 (World.laidAll_os _ _ _)
    (zd8 os) (by kernel_rfl) (by kernel_rfl) (by kernel_rfl) (zgm os _)) ?_
 intro W base args ds gs before hval0 hW hc _ hL _;have hval:∀(j:Nat) t v,Tryz.f3.params[j]?=some t->args[j]?=some v->Value.okWide Tryz.prog W .any base t v:=hval0;have hW':=hW;obtain ⟨p,q,hA0,hV,rfl,_,_⟩:=hW;have hA:DataW.TrodAll enc Tryz.prog W 0 (fun _=>true) true Tryz.f3.params.toList args.toList ds p:=hA0;rw[Tryz.params3] at hA hval;obtain ⟨v0,v1,v2,v3,d0,d1,d2,d3,p0,p1,p2,p3,rfl,rfl,rfl,h0,h1,h2,h3⟩:=trodAll_four hA;obtain ⟨x0,rfl,-,-,hx0⟩:=Go.ChangeMaps.open_string Tryz.underlying9 (hval 0 9 v0 rfl rfl) h0;obtain ⟨z1,rfl,-,-,w1⟩:=open_int Tryz.underlying3 (hval 1 3 v1 rfl rfl) h1;obtain ⟨z2,rfl,-,-,w2⟩:=open_int Tryz.underlying3 (hval 2 3 v2 rfl rfl) h2;obtain ⟨A3,n3,c3,l3,rfl,hl3,hn3,hc3,hr3⟩:=zf6 (hval 3 22 v3 rfl rfl) h3;refine (VW x0 hx0 z1 z2 A3 n3 c3 l3 hl3 hn3 hc3 W hr3 hL).mono fun e W' ⟨he,hb⟩=>?_
 subst he;exact ⟨_,rfl,Lw.zhC laidOut (by kernel_rfl) rfl rfl rfl rfl (by kernel_rfl) Tryz.underlying4 hW' hb⟩
set_option maxRecDepth 100000 in
theorem zba:Rows.RunsPlaysSaid:=
 OpenClaim.holds_of_wide 3 Tryz.f3 rfl rfl rfl rfl rfl rfl rfl ⟨rfl,rfl,rfl,rfl,rfl⟩ rfl rfl rfl rfl rfl (by kernel_rfl) Tryz.func3 (by kernel_rfl)
  (of_decide_eq_true (by kernel_rfl)) (by unfold Func.isWrapper;first|(rw[if_pos (by decide +kernel)];kernel_rfl)|(rw[if_neg (by decide +kernel)];exact ⟨rfl,rfl⟩))
  (fun os started H enc _=>QC os started H enc)
set_option maxRecDepth 100000 in
theorem runsPlays_holds:Rows.RunsPlaysCardSaid:=
 Claim7.holds_tied_plain_at .later [] [.data,.data,.data] true (true,"db3e117f07041da1c949e1bd99dc5f458fdcbbdd1828054459f625ed035250fc") true zba (fun _ h=>by cases h) (by kernel_rfl) (fun _ h=>by cases h) runsPlays_row_tie rfl ⟨rfl,rfl⟩ (by kernel_rfl) rfl
  (fun f fn hf hfn=>by
    obtain rfl:f=3:=Option.some.inj ((show Tryz.prog.funcNamed "palmer/palmerlaw13.RunsPlays"=some 3 by kernel_rfl).symm.trans hf) |>.symm
    obtain rfl:fn=Tryz.f3:=(Option.some.inj (Tryz.func3.symm.trans hfn)).symm
    exact ⟨by kernel_rfl,fun j t ht=>by
     rw[Tryz.params3] at ht;have hm:t∈[9,3,3,22]:=by simpa using Array.mem_of_getElem? ht
     have hall:([9,3,3,22].all fun u=> !Tryz.prog.wantsStandIn u)=true:=by kernel_rfl
     exact (show Tryz.prog.wantsStandIn t=false by simpa using List.all_eq_true.1 hall t hm)⟩)
  (by kernel_rfl)
#print axioms runsPlays_holds
end Go.Proofs.YtcdkopbjlakebaaGreatDoor
