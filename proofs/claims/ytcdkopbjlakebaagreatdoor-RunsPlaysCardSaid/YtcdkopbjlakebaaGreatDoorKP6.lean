/- Texts put together, for a law: ScI. -/
import Derived.Scope
import Derived.WalkMore
import Derived.Test.YtcdkopbjlakebaaGreatDoorKP2
set_option maxRecDepth 100000
set_option maxHeartbeats 8000000
namespace Go.Proofs.YtcdkopbjlakebaaGreatDoor
section
open Go.RowKit
section
variable {F:Fence} {n:Nat} {P:Program} {Q:Exit->Act->World->Prop} {a:Act} {w:World} {b:Frame} {k:List Item} {cs:List Frame}
theorem zdH {c:Code}:step P (lone (b.atR a (.code (.scope c)::k)) cs w)=.next (lone (b.atR a (.code c::.inScope c::k)) cs w):=
 step_lone_go (by simp[stepG,stepG.exec,Frame.atR])
theorem za4 {c:Code}:step P (lone (b.atR a (.inScope c::k)) cs w)=.next (lone (b.atR a k) cs w):=
 step_lone_go (by simp[stepG,stepG.exec,Frame.atR])
theorem zfJ {c:Code} (h:c.wpIn F n P (Exit.noGoto Q) a w):(Code.scope c).wpIn F n P Q a w:=by
 intro b k cs hro hb hr;have h0:(lone (b.atR a (.code (.scope c)::k)) cs w).fenced P F:=fenced_calm hb hr rfl;obtain ⟨e,a₁,w₁,hq,harr⟩:=h b (.inScope c::k) cs hro hb hr;have up:=@ArrivesIn.of_steps _ _ _ _ b (.inScope c::k) cs e a₁ w₁ (.one h0 zdH) harr
 cases e with
 |normal=>exact ⟨.normal,a₁,w₁,hq,StepsIn.trans up (.one (fenced_calm hb hr rfl) za4)⟩
 |exit id=>
  have hx:exitTo id (.inScope c::k)=exitTo id k:=by simp[exitTo]
  exact ⟨.exit id,a₁,w₁,hq,fun k' hk=>up.1 k' (by rw[hx];exact hk),fun hr' hk=>up.2 hr' (by rw[hx];exact hk)⟩
 |goto l=>exact hq.elim
 |ret=>exact ⟨_,a₁,w₁,hq,up⟩
 |panic ch=>exact ⟨_,a₁,w₁,hq,up⟩
 |outgrown=>exact ⟨_,a₁,w₁,hq,up⟩
end
end
end Go.Proofs.YtcdkopbjlakebaaGreatDoor
