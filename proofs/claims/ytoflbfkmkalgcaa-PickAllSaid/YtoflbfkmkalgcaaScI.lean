/- A body that holds a label to which no goto jumps, in a walk inside a fence. -/
import Derived.Scope
import Derived.WalkMore
import Derived.Test.YtoflbfkmkalgcaaGen
namespace Go.Proofs.Ytoflbfkmkalgcaa
open Go.RowKit
section
variable {F : Fence} {n : Nat} {P : Program} {Q : Exit → Act → World → Prop} {a : Act} {w : World} {b : Frame} {k : List Item} {cs : List Frame}
theorem stepR_scope {c : Code} : step P (lone (b.atR a (.code (.scope c) :: k)) cs w) = .next (lone (b.atR a (.code c :: .inScope c :: k)) cs w) :=
  step_lone_go (by simp [stepG, stepG.exec, Frame.atR])
theorem stepR_inScope {c : Code} : step P (lone (b.atR a (.inScope c :: k)) cs w) = .next (lone (b.atR a k) cs w) :=
  step_lone_go (by simp [stepG, stepG.exec, Frame.atR])
theorem wpIn_scope {c : Code} (h : c.wpIn F n P (Exit.noGoto Q) a w) : (Code.scope c).wpIn F n P Q a w := by
  intro b k cs hro hb hr
  have h0 : (lone (b.atR a (.code (.scope c) :: k)) cs w).fenced P F := fenced_calm hb hr rfl
  obtain ⟨e, a₁, w₁, hq, harr⟩ := h b (.inScope c :: k) cs hro hb hr
  have up := @ArrivesIn.of_steps _ _ _ _ b (.inScope c :: k) cs e a₁ w₁ (.one h0 stepR_scope) harr
  cases e with
  | normal => exact ⟨.normal, a₁, w₁, hq, StepsIn.trans up (.one (fenced_calm hb hr rfl) stepR_inScope)⟩
  | exit id =>
    have hx : exitTo id (.inScope c :: k) = exitTo id k := by simp [exitTo]
    exact ⟨.exit id, a₁, w₁, hq, fun k' hk => up.1 k' (by rw [hx]; exact hk), fun hr' hk => up.2 hr' (by rw [hx]; exact hk)⟩
  | goto l => exact hq.elim
  | ret => exact ⟨_, a₁, w₁, hq, up⟩
  | panic ch => exact ⟨_, a₁, w₁, hq, up⟩
  | outgrown => exact ⟨_, a₁, w₁, hq, up⟩
end
end Go.Proofs.Ytoflbfkmkalgcaa
