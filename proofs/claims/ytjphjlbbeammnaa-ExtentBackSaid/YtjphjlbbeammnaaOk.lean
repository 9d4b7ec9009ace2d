/- More operations of a region that draws its order, one by one. -/
import Derived.Test.YtjphjlbbeammnaaPhase
namespace Go.Proofs.Ytjphjlbbeammnaa.Gw
open Go.RowKit

section
variable {P : Program} {o : Oper} {a : Act} {w w' : World} {p : Value → World → Prop}
theorem ok_make {t : TypeId} {l c : Operand} {u v r : Value} (ho : o.op = .makeSlice t l c) (hl : a.eval l = u) (hc : a.eval c = v) (hr : (Instr.makeSlice t u v).run P w = .ok r w') (h : p r w') : OkP P o a w p := by
  unfold OkP execOp
  simp only [ho, hl, hc, Sem.run_bind, hr, Result.andThen_ok, Sem.run_pure]
  exact h
end
end Go.Proofs.Ytjphjlbbeammnaa.Gw
