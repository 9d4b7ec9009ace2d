/- RunsSorts: what comes out is what was put, rising, whatever the room, and wherever it was flushed; for every input. -/
import Derived.Test.YtcdkopbjlakebaaGreatDoorKS45
import Derived.Test.YtcdkopbjlakebaaGreatDoorKS36
namespace Go.Proofs.YtcdkopbjlakebaaGreatDoor
open Go.RowKit Me Rn Tx Go.Shelf Go.Lib Go.ChangeShapes
theorem runsSorts_walk (wz rz:Int) (A:Option Addr) (n c:Nat) (es:List Pc) (hl:es.length=n) (hnc:n≤c) (hc63:c≤9223372036854775807) (A3:Option Addr) (n3 c3:Nat) (bs:List Bool) (hl3:bs.length=n3) (hnc3:n3≤c3) (hc3:c3≤9223372036854775807) (w:World) (hr:BRows w w.heap.size A es) (hr3:Cs w w.heap.size A3 (bs.map Value.bool)) (hL:laidMetH Tryz.prog laidL w) :
 Calls Tryz.prog 4 #[.int .i64 wz,.int .i64 rz,.slice A n c,.slice A3 n3 c3] w fun e w'=>e=.returned (.bool true)∧Below w.heap.size w w':=
 rsorts_walk wz rz A n c es hl (by omega) A3 n3 c3 bs hl3 (by omega) w hr hr3 (laid_tab hL)
set_option maxRecDepth 100000 in
theorem runsSorts_lifted (os:Os) (started:os.Started) (H:Type) (enc:TypeId×Value→H) :
 ReturnsInHanded {} Tryz.checked os 4 .any (fun w args=>(Rows.runsSortsSpec.pre enc Tryz.prog Tryz.f4 Rows.runsSortsRow.domain false w args∧laidMetH Tryz.prog laidL w)∧sizedMet enc Tryz.prog Tryz.f4 (OpenSpec.ofChange Rows.runsSortsSpec) false w args)
  (Rows.runsSortsSpec.post enc Tryz.prog Tryz.f4 false true false false):=by
 refine returnsInHanded_of_change_and (C:=Tryz.checked) (X:=fun w _=>laidMetH Tryz.prog laidL w) (fun _ _ _ hh h=>h.of_heap hh) own started (by kernel_rfl) Tryz.func4
  (ChangeSpec.witness_shaped (enc:=enc) (C:=Tryz.checked) (os:=os) (X:=fun w _=>laidMetH Tryz.prog laidL w) false (World.laidAll Tryz.prog os laidL) #[.int .i64 0,.int .i64 0,.slice none 0 0,.slice none 0 0] 8 (World.laidAll_os _ _ _)
    (laid_shaped os) (by kernel_rfl) (by kernel_rfl) (by kernel_rfl) (laid_world os _)) ?_
 intro W base args ds gs before hval0 hW hc _ hL _
 have hval:∀(j:Nat) t v,Tryz.f4.params[j]?=some t→args[j]?=some v→Value.okWide Tryz.prog W .any base t v:=hval0
 have hW':=hW
 obtain ⟨p,q,hA0,hV,rfl,_,_⟩:=hW
 have hA:DataW.TrodAll enc Tryz.prog W 0 (fun _=>true) true Tryz.f4.params.toList args.toList ds p:=hA0
 rw[Tryz.params4] at hA hval
 obtain ⟨v0,v1,v2,v3,d0,d1,d2,d3,p0,p1,p2,p3,rfl,rfl,rfl,h0,h1,h2,h3⟩:=trodAll_four hA
 obtain ⟨z0,rfl,-,-,w0⟩:=open_int Tryz.underlying3 (hval 0 3 v0 rfl rfl) h0
 obtain ⟨z1,rfl,-,-,w1⟩:=open_int Tryz.underlying3 (hval 1 3 v1 rfl rfl) h1
 obtain ⟨A2,n2,c2,l2,rfl,hl2,hn2,hc2,hr2⟩:=open_brows (hval 2 25 v2 rfl rfl) h2
 obtain ⟨A3,n3,c3,l3,rfl,hl3,hn3,hc3,hr3⟩:=open_flags (hval 3 54 v3 rfl rfl) h3
 refine (runsSorts_walk z0 z1 A2 n2 c2 l2 hl2 hn2 hc2 A3 n3 c3 l3 hl3 hn3 hc3 W hr2 hr3 hL).mono fun e W' ⟨he,hb⟩=>?_
 subst he
 exact ⟨_,rfl,Lw.post_true laidOut (by kernel_rfl) rfl rfl rfl rfl (by kernel_rfl) Tryz.underlying4 hW' hb⟩
set_option maxRecDepth 100000 in
theorem runsSorts_row:Rows.RunsSortsSaid:=
 OpenClaim.holds_of_wide 4 Tryz.f4 rfl rfl rfl rfl rfl rfl rfl ⟨rfl,rfl,rfl,rfl,rfl⟩ rfl rfl rfl rfl rfl (by kernel_rfl) Tryz.func4 (by kernel_rfl)
  (of_decide_eq_true (by kernel_rfl)) (by unfold Func.isWrapper;first|(rw[if_pos (by decide +kernel)];kernel_rfl)|(rw[if_neg (by decide +kernel)];exact ⟨rfl,rfl⟩))
  (fun os started H enc _=>runsSorts_lifted os started H enc)
set_option maxRecDepth 100000 in
theorem runsSorts_holds:Rows.RunsSortsCardSaid:=
 Claim7.holds_tied_plain_at .later [] [.data,.data,.data] true (true,"db3e117f07041da1c949e1bd99dc5f458fdcbbdd1828054459f625ed035250fc") true runsSorts_row (fun _ h=>by cases h) (by kernel_rfl) (fun _ h=>by cases h) runsSorts_row_tie rfl ⟨rfl,rfl⟩ (by kernel_rfl) rfl
  (fun f fn hf hfn=>by
    obtain rfl:f=4:=Option.some.inj ((show Tryz.prog.funcNamed "palmer/palmerlaw13.RunsSorts"=some 4 by kernel_rfl).symm.trans hf) |>.symm
    obtain rfl:fn=Tryz.f4:=(Option.some.inj (Tryz.func4.symm.trans hfn)).symm
    exact ⟨by kernel_rfl,fun j t ht=>by
     rw[Tryz.params4] at ht
     have hm:t∈[3,3,25,54]:=by simpa using Array.mem_of_getElem? ht
     have hall:([3,3,25,54].all fun u=> !Tryz.prog.wantsStandIn u)=true:=by kernel_rfl
     exact (show Tryz.prog.wantsStandIn t=false by simpa using List.all_eq_true.1 hall t hm)⟩)
  (by kernel_rfl)
#print axioms runsSorts_holds
end Go.Proofs.YtcdkopbjlakebaaGreatDoor
