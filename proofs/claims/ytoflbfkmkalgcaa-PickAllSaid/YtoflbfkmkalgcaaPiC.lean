/- The parts of a cell's draws. -/
import Derived.Test.YtoflbfkmkalgcaaPiB
import Derived.Laws.Rows
namespace Go.Proofs.Ytoflbfkmkalgcaa
open Go.RowKit Me Va Al

set_option maxRecDepth 100000 in
theorem parts_any (i cut oth S f e r : Nat) (w : World) (hi : i ≤ 1000000) (hS : S ≤ 2147483647) (hc : cut ≤ S) (ho : oth < 4294967296) (hf : f = i * S) (he : e = f + cut) (hr : r + cut = S) :
    Calls Try.prog 38 #[.int .i64 (i : Int), .agg #[.int .u64 (cut : Int), .int .u32 (oth : Int)], .int .u64 (S : Int)] w fun v w' => v = .returned (.agg #[.int .i64 (i : Int), .int .u64 (f : Int), .int .u64 (cut : Int), .int .i64 (oth : Int), .int .u64 (e : Int), .int .u64 (r : Int)]) ∧ Below w.heap.size w w' := by
  have e1 : (i : Int) * (S : Int) = (f : Int) := by rw [hf]; exact (Int.natCast_mul _ _).symm
  have v1 : IntKind.u64.wrap (i : Int) = (i : Int) := IntWalk.u64_in _ (by omega)
  have hfm : f ≤ 2147483647000000 := by
    have : i * S ≤ 1000000 * 2147483647 := Nat.mul_le_mul hi hS
    omega
  have e2 : (f : Int) + (cut : Int) = (e : Int) := by omega
  have e3 : (S : Int) - (cut : Int) = (r : Int) := by omega
  have hem : e ≤ 4294967294000000 := by omega
  have hrm : r ≤ 2147483647 := by omega
  clear hf he hr
  go_enter Try.func38, Try.ntmps38
  go_wp2
  have hnew := Go.heap_alloc2_new w (Obj.cells #[.int .u64 (cut : Int), .int .u32 (oth : Int)] 46) (Obj.cells #[.int .i64 (i : Int), .int .u64 (f : Int), .int .u64 (cut : Int), .int .i64 (oth : Int), .int .u64 (e : Int), .int .u64 (r : Int)] 69)
  refine bodyPost_ret (v := .agg #[.int .i64 (i : Int), .int .u64 (f : Int), .int .u64 (cut : Int), .int .i64 (oth : Int), .int .u64 (e : Int), .int .u64 (r : Int)]) ?_ rfl ⟨rfl, ((Below.refl _ _).alloc (Nat.le_refl _) _).alloc (by simp) _⟩
  exact Go.results_cell_row (p := 6) (ty := 69) rfl _ _ (w.heap.size + 1) _ _ _ _ rfl hnew Try.underlying69 rfl (by kernel_rfl)
end Go.Proofs.Ytoflbfkmkalgcaa
