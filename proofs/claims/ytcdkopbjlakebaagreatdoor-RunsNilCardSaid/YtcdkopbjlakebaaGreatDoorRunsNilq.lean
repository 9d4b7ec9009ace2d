/- RunsNil: a sorter that is not there has nothing; on a store that is down what must be written is not; for every input. -/
import Derived.Test.YtcdkopbjlakebaaGreatDoorKR42
import Derived.Test.YtcdkopbjlakebaaGreatDoorKR35
namespace Go.Proofs.YtcdkopbjlakebaaGreatDoor
open Go.RowKit Me Tx Go.Shelf Go.Lib Go.ChangeShapes
theorem runsNil_walk (A:Option Addr) (n c:Nat) (l:List UInt8) (hl:l.length=n) (hnc:n≤c) (hc:c≤9223372036854775807) (w:World) (hr:Rd w w.heap.size A l) (hL:laidMetH Tryz.prog laidL w) :
 Calls Tryz.prog 6 #[.slice A n c] w fun e w'=>e=.returned (.bool true)∧Below w.heap.size w w':=
 rnil_walk A n c l hl (by omega) w hr (laid_tab hL)
set_option maxRecDepth 100000 in
theorem runsNil_lifted (os:Os) (started:os.Started) (H:Type) (enc:TypeId×Value→H) :
 ReturnsInHanded {} Tryz.checked os 6 .any (fun w args=>(Rows.runsNilSpec.pre enc Tryz.prog Tryz.f6 Rows.runsNilRow.domain false w args∧laidMetH Tryz.prog laidL w)∧sizedMet enc Tryz.prog Tryz.f6 (OpenSpec.ofChange Rows.runsNilSpec) false w args)
  (Rows.runsNilSpec.post enc Tryz.prog Tryz.f6 false true false false):=by
 refine returnsInHanded_of_change_and (C:=Tryz.checked) (X:=fun w _=>laidMetH Tryz.prog laidL w) (fun _ _ _ hh h=>h.of_heap hh) own started (by kernel_rfl) Tryz.func6
  (ChangeSpec.witness_shaped (enc:=enc) (C:=Tryz.checked) (os:=os) (X:=fun w _=>laidMetH Tryz.prog laidL w) false (World.laidAll Tryz.prog os laidL) #[.slice none 0 0] 8 (World.laidAll_os _ _ _)
    (laid_shaped os) (by kernel_rfl) (by kernel_rfl) (by kernel_rfl) (laid_world os _)) ?_
 intro W base args ds gs before hval0 hW hc _ hL _
 have hval:∀(j:Nat) t v,Tryz.f6.params[j]?=some t→args[j]?=some v→Value.okWide Tryz.prog W .any base t v:=hval0
 have hW':=hW
 obtain ⟨p,q,hA0,hV,rfl,_,_⟩:=hW
 have hA:DataW.TrodAll enc Tryz.prog W 0 (fun _=>true) true Tryz.f6.params.toList args.toList ds p:=hA0
 rw[Tryz.params6] at hA hval
 obtain ⟨v0,d0,rfl,rfl,h0⟩:=trodAll_one hA
 obtain ⟨A0,n0,c0,l0,rfl,hl0,hn0,hc0,hr0⟩:=open_bytes Tryz.underlying24 Tryz.underlying5 cells_u8 (hval 0 24 v0 rfl rfl) h0
 refine (runsNil_walk A0 n0 c0 l0 hl0 hn0 hc0 W hr0 hL).mono fun e W' ⟨he,hb⟩=>?_
 subst he
 exact ⟨_,rfl,Lw.post_true laidOut (by kernel_rfl) rfl rfl rfl rfl (by kernel_rfl) Tryz.underlying4 hW' hb⟩
set_option maxRecDepth 100000 in
theorem runsNil_row:Rows.RunsNilSaid:=
 OpenClaim.holds_of_wide 6 Tryz.f6 rfl rfl rfl rfl rfl rfl rfl ⟨rfl,rfl,rfl,rfl,rfl⟩ rfl rfl rfl rfl rfl (by kernel_rfl) Tryz.func6 (by kernel_rfl)
  (of_decide_eq_true (by kernel_rfl)) (by unfold Func.isWrapper;first|(rw[if_pos (by decide +kernel)];kernel_rfl)|(rw[if_neg (by decide +kernel)];exact ⟨rfl,rfl⟩))
  (fun os started H enc _=>runsNil_lifted os started H enc)
set_option maxRecDepth 100000 in
theorem runsNil_holds:Rows.RunsNilCardSaid:=
 Claim7.holds_tied_plain_at .later [] [.data,.data,.data] true (true,"db3e117f07041da1c949e1bd99dc5f458fdcbbdd1828054459f625ed035250fc") true runsNil_row (fun _ h=>by cases h) (by kernel_rfl) (fun _ h=>by cases h) runsNil_row_tie rfl ⟨rfl,rfl⟩ (by kernel_rfl) rfl
  (fun f fn hf hfn=>by
    obtain rfl:f=6:=Option.some.inj ((show Tryz.prog.funcNamed "palmer/palmerlaw13.RunsNil"=some 6 by kernel_rfl).symm.trans hf) |>.symm
    obtain rfl:fn=Tryz.f6:=(Option.some.inj (Tryz.func6.symm.trans hfn)).symm
    exact ⟨by kernel_rfl,fun j t ht=>by
     rw[Tryz.params6] at ht
     have hm:t∈[24]:=by simpa using Array.mem_of_getElem? ht
     have hall:([24].all fun u=> !Tryz.prog.wantsStandIn u)=true:=by kernel_rfl
     exact (show Tryz.prog.wantsStandIn t=false by simpa using List.all_eq_true.1 hall t hm)⟩)
  (by kernel_rfl)
#print axioms runsNil_holds
end Go.Proofs.YtcdkopbjlakebaaGreatDoor
