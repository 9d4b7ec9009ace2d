/- For loops over lines. -/
import Derived.Test.YtbedepnmgnlijaaDoorTxC
namespace Go.Proofs.YtbedepnmgnlijaaDoor
open Go.RowKit Me Tx

theorem cs_out {S : Nat → Prop} {w w' : World} {B : Nat} {A : Option Addr} {vs : List Value} (h : Cs w B A vs) (hB : B ≤ w.heap.size) (ho : Out S w w') (hn : ∀ k, k < B → ¬ S k) : Cs w' B A vs := h.keep fun p hp => ho.cell (by omega) (hn _ hp)
/-- The block of a loop's calls behind it is taken up. -/
theorem out_take {S : Nat → Prop} {w W : World} {D : Nat} (h : Out S w W) (hD : w.heap.size ≤ D) : Out S w (W.putObj D (.deferred none)) := h.trans' (Out.of_grown (S := fun k => k = D) (grownBy_putObj' _ _ _) (fun k e _ => by injection e with e; exact e.symm)) (fun j hj => .inr (by have hj : j = D := hj; omega))

set_option maxRecDepth 100000 in
theorem not_nil (b : Addr) (w : World) : (binOp .eql 57 (.func (.func 32) #[] #[.pointer (some b)]) .nilFunc).run Tryd.prog w = .ok (.bool false) w := by
  first | rfl | (simp [binOp]; done) | (simp [go_sem, binOp]; done)
end Go.Proofs.YtbedepnmgnlijaaDoor
