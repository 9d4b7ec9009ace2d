/- What the laws' rows lay, for package edge. -/
import Derived.Test.YtbedepnmgnlijaaDoorTxV
import Derived.Test.YtbedepnmgnlijaaDoorEdA
namespace Go.Proofs.YtbedepnmgnlijaaDoor
open Go.RowKit Me Tx Ed Go.Shelf Go.Lib

theorem least_data : (Rows.laid_palmer_edge_least : DataW Unit) = tabData .u64 [0, 0, 1] := by kernel_rfl
theorem most_data : (Rows.laid_palmer_edge_most : DataW Unit) = tabData .u64 [4294967295, 4294967295, 2147483647] := by kernel_rfl
theorem least_global : Tryd.prog.globalNamed "palmer/edge.least" = some 1 := by kernel_rfl
theorem most_global : Tryd.prog.globalNamed "palmer/edge.most" = some 0 := by kernel_rfl
theorem readG_len : ∀ (ls : List (List UInt8)) (k : Nat) (acc : List EdD), (readG k acc ls).1.length ≤ acc.length + ls.length
  | [], k, acc => by rw [readG_nil]; simp
  | l :: ls, k, acc => by
    by_cases h0 : (oneS l).2.2 = 0
    · cases h1 : (oneS l).2.1 with
      | true =>
        rw [readG_one h0 h1]
        have := readG_len ls (k + 1) (acc ++ [(oneS l).1])
        simp at this ⊢; omega
      | false =>
        rw [readG_no h0 h1]
        have := readG_len ls (k + 1) acc
        simp at this ⊢; omega
    · rw [readG_bad h0]; simp
theorem laid_evs {W : World} (h : laidMetH Tryd.prog laidL W) : Evs W := by
  have he := laid_err h
  have ht := laid_tab h
  rw [laid_plain] at h
  have h5 := h.tail.tail.tail.tail.tail
  have h6 := h5.tail
  rw [least_data] at h5
  rw [most_data] at h6
  have t5 := tabIs_of_head (g := 1) (t := 51) (e := 49) (n := 3) least_global (by kernel_rfl) Tryd.underlying51 Tryd.underlying49 (by kernel_rfl) (by kernel_rfl) h5
  have t6 := tabIs_of_head (g := 0) (t := 51) (e := 49) (n := 3) most_global (by kernel_rfl) Tryd.underlying51 Tryd.underlying49 (by kernel_rfl) (by kernel_rfl) h6
  refine ⟨he, ht, fun i hi => ?_, fun i hi => ?_⟩
  · rw [TabIs.cell t5 least_global i hi]
    obtain rfl | rfl | rfl : i = 0 ∨ i = 1 ∨ i = 2 := by omega
    all_goals rfl
  · rw [TabIs.cell t6 most_global i hi]
    obtain rfl | rfl | rfl : i = 0 ∨ i = 1 ∨ i = 2 := by omega
    all_goals rfl
end Go.Proofs.YtbedepnmgnlijaaDoor
