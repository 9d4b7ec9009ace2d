/- RunsStops: whoever stops behind some records has met the first ones; what is put meanwhile isn't met; for every input. -/
import Derived.Test.YtcdkopbjlakebaaGreatDoorKS45
import Derived.Test.YtcdkopbjlakebaaGreatDoorKS36
namespace Go.Proofs.YtcdkopbjlakebaaGreatDoor
open Go.RowKit Me Rn Tx Go.Shelf Go.Lib Go.ChangeShapes
theorem runsStops_walk (wz rz:Int) (A:Option Addr) (n c:Nat) (es:List Pc) (hl:es.length=n) (hnc:n≤c) (hc63:c≤9223372036854775807) (kk:Nat) (hkk:kk<256) (Am:Option Addr) (m cm:Nat) (mo:List UInt8) (hm:mo.length=m) (hmc:m≤cm) (hcm:cm≤9223372036854775807) (w:World) (hr:BRows w w.heap.size A es) (hrm:Rd w w.heap.size Am mo) (hL:laidMetH Tryz.prog laidL w) :
 Calls Tryz.prog 5 #[.int .i64 wz,.int .i64 rz,.slice A n c,.int .u8 (kk:Int),.slice Am m cm] w fun e w'=>e=.returned (.bool true)∧Below w.heap.size w w':=
 rstops_walk wz rz A n c es hl (by omega) kk hkk Am m cm mo hm (by omega) w hr hrm (laid_tab hL)
set_option maxRecDepth 100000 in
theorem runsStops_lifted (os:Os) (started:os.Started) (H:Type) (enc:TypeId×Value→H) :
 ReturnsInHanded {} Tryz.checked os 5 .any (fun w args=>(Rows.runsStopsSpec.pre enc Tryz.prog Tryz.f5 Rows.runsStopsRow.domain false w args∧laidMetH Tryz.prog laidL w)∧sizedMet enc Tryz.prog Tryz.f5 (OpenSpec.ofChange Rows.runsStopsSpec) false w args)
  (Rows.runsStopsSpec.post enc Tryz.prog Tryz.f5 false true false false):=by
 refine returnsInHanded_of_change_and (C:=Tryz.checked) (X:=fun w _=>laidMetH Tryz.prog laidL w) (fun _ _ _ hh h=>h.of_heap hh) own started (by kernel_rfl) Tryz.func5
  (ChangeSpec.witness_shaped (enc:=enc) (C:=Tryz.checked) (os:=os) (X:=fun w _=>laidMetH Tryz.prog laidL w) false (World.laidAll Tryz.prog os laidL) #[.int .i64 0,.int .i64 0,.slice none 0 0,.int .u8 0,.slice none 0 0] 8 (World.laidAll_os _ _ _)
    (laid_shaped os) (by kernel_rfl) (by kernel_rfl) (by kernel_rfl) (laid_world os _)) ?_
 intro W base args ds gs before hval0 hW hc _ hL _
 have hval:∀(j:Nat) t v,Tryz.f5.params[j]?=some t→args[j]?=some v→Value.okWide Tryz.prog W .any base t v:=hval0
 have hW':=hW
 obtain ⟨p,q,hA0,hV,rfl,_,_⟩:=hW
 have hA:DataW.TrodAll enc Tryz.prog W 0 (fun _=>true) true Tryz.f5.params.toList args.toList ds p:=hA0
 rw[Tryz.params5] at hA hval
 obtain ⟨v0,v1,v2,v3,v4,d0,d1,d2,d3,d4,p0,p1,p2,p3,p4,rfl,rfl,rfl,h0,h1,h2,h3,h4⟩:=Lw.trodAll_five hA
 obtain ⟨z0,rfl,-,-,w0⟩:=open_int Tryz.underlying3 (hval 0 3 v0 rfl rfl) h0
 obtain ⟨z1,rfl,-,-,w1⟩:=open_int Tryz.underlying3 (hval 1 3 v1 rfl rfl) h1
 obtain ⟨A2,n2,c2,l2,rfl,hl2,hn2,hc2,hr2⟩:=open_brows (hval 2 25 v2 rfl rfl) h2
 obtain ⟨z3,rfl,-,-,w3⟩:=open_int Tryz.underlying5 (hval 3 5 v3 rfl rfl) h3
 have hz3:0≤z3∧z3<256:=by simp[Lit.wf,IntKind.min,IntKind.max,IntKind.bits,IntKind.signed] at w3;omega
 obtain ⟨x3,rfl⟩:∃m:Nat,z3=(m:Int):=⟨z3.toNat,by omega⟩
 obtain ⟨A4,n4,c4,l4,rfl,hl4,hn4,hc4,hr4⟩:=open_bytes Tryz.underlying24 Tryz.underlying5 cells_u8 (hval 4 24 v4 rfl rfl) h4
 refine (runsStops_walk z0 z1 A2 n2 c2 l2 hl2 hn2 hc2 x3 (by omega) A4 n4 c4 l4 hl4 hn4 hc4 W hr2 hr4 hL).mono fun e W' ⟨he,hb⟩=>?_
 subst he
 exact ⟨_,rfl,Lw.post_true laidOut (by kernel_rfl) rfl rfl rfl rfl (by kernel_rfl) Tryz.underlying4 hW' hb⟩
set_option maxRecDepth 100000 in
theorem runsStops_row:Rows.RunsStopsSaid:=
 OpenClaim.holds_of_wide 5 Tryz.f5 rfl rfl rfl rfl rfl rfl rfl ⟨rfl,rfl,rfl,rfl,rfl⟩ rfl rfl rfl rfl rfl (by kernel_rfl) Tryz.func5 (by kernel_rfl)
  (of_decide_eq_true (by kernel_rfl)) (by unfold Func.isWrapper;first|(rw[if_pos (by decide +kernel)];kernel_rfl)|(rw[if_neg (by decide +kernel)];exact ⟨rfl,rfl⟩))
  (fun os started H enc _=>runsStops_lifted os started H enc)
set_option maxRecDepth 100000 in
theorem runsStops_holds:Rows.RunsStopsCardSaid:=
 Claim7.holds_tied_plain_at .later [] [.data,.data,.data] true (true,"db3e117f07041da1c949e1bd99dc5f458fdcbbdd1828054459f625ed035250fc") true runsStops_row (fun _ h=>by cases h) (by kernel_rfl) (fun _ h=>by cases h) runsStops_row_tie rfl ⟨rfl,rfl⟩ (by kernel_rfl) rfl
  (fun f fn hf hfn=>by
    obtain rfl:f=5:=Option.some.inj ((show Tryz.prog.funcNamed "palmer/palmerlaw13.RunsStops"=some 5 by kernel_rfl).symm.trans hf) |>.symm
    obtain rfl:fn=Tryz.f5:=(Option.some.inj (Tryz.func5.symm.trans hfn)).symm
    exact ⟨by kernel_rfl,fun j t ht=>by
     rw[Tryz.params5] at ht
     have hm:t∈[3,3,25,5,24]:=by simpa using Array.mem_of_getElem? ht
     have hall:([3,3,25,5,24].all fun u=> !Tryz.prog.wantsStandIn u)=true:=by kernel_rfl
     exact (show Tryz.prog.wantsStandIn t=false by simpa using List.all_eq_true.1 hall t hm)⟩)
  (by kernel_rfl)
#print axioms runsStops_holds
end Go.Proofs.YtcdkopbjlakebaaGreatDoor
