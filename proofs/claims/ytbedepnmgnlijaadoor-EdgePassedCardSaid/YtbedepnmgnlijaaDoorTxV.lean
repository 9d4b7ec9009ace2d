/- What the laws' rows lay: the powers of ten, the error; a world that bears them. -/
import Derived.Test.YtbedepnmgnlijaaDoorTxS
import Derived.Test.YtbedepnmgnlijaaDoorTie
import Derived.Test.YtbedepnmgnlijaaDoorCards
import Derived.ProofKit
import Derived.OpenShut
import Derived.LaidMore
import Derived.Lay
import Derived.SevenTiedAt
import Derived.Stop.Joined
import Derived.Stop.LaidErr
namespace Go.Proofs.YtbedepnmgnlijaaDoor
open Go.RowKit Me Tx Go.Shelf Go.Lib

/-- What the rows list. -/
abbrev laidL : List (String × DataW Unit) := [("math/bits.deBruijn32tab", Rows.laid_math_bits_deBruijn32tab), ("math/bits.deBruijn64tab", Rows.laid_math_bits_deBruijn64tab), ("internal/strconv.uint64pow10", Rows.laid_internal_strconv_uint64pow10), ("strconv.ErrRange", Rows.laid_strconv_ErrRange), ("strconv.ErrSyntax", Rows.laid_strconv_ErrSyntax), ("palmer/edge.least", Rows.laid_palmer_edge_least), ("palmer/edge.most", Rows.laid_palmer_edge_most)]
theorem pow_data : (Rows.laid_internal_strconv_uint64pow10 : DataW Unit) = tabData .u64 pow10Tab := by kernel_rfl
theorem star_err : "*" ++ "errors.errorString" = "*errors.errorString" := by decide
theorem row_err (u : TypeId) (h : Tryd.prog.typeName? 3 u = some "*errors.errorString") : u = 109 :=
  typeName_ptr_named (nm := "errors.errorString") (by rw [star_err]; kernel_rfl) (by kernel_rfl) (by decide) u (by rw [star_err]; exact h)
theorem laid_plain (W : World) : laidMetH Tryd.prog laidL W = laidMet Tryd.prog laidL W := MakeChecks.laidMetH_plain _ _ _ (by kernel_rfl)
theorem laid_tab {W : World} (h : laidMetH Tryd.prog laidL W) : Tab W := by
  rw [laid_plain] at h
  have h2 := h.tail.tail
  rw [pow_data] at h2
  exact tabIs_of_head (g := 4) (t := 105) (e := 49) (n := 20) tab_global (by kernel_rfl) Tryd.underlying105 Tryd.underlying49 (by kernel_rfl) (by kernel_rfl) h2
theorem laid_err {W : World} (h : laidMetH Tryd.prog laidL W) : ErrCell W := by
  rw [laid_plain] at h
  obtain ⟨a, s, hv, -, -, -⟩ := laid_sentinel (g := 3) (ti := 77) h.tail.tail.tail (by kernel_rfl) (by kernel_rfl) Tryd.underlying77 row_err Tryd.underlying109 Tryd.underlying111 rfl rfl Tryd.underlying9 (by kernel_rfl) (by kernel_rfl)
  refine ⟨_, by simpa using World.var?_cell (show Tryd.prog.globalNamed "strconv.ErrRange" = some 3 by kernel_rfl) hv 0, .inr ⟨_, _, rfl⟩⟩
/-- A world that bears them, whatever the arguments. -/
theorem laid_world (os : Os) (args : Array Value) : laidMetH Tryd.prog laidL ((World.laidAll Tryd.prog os laidL).forCall (fun _ _ => 0) ⟨#[], args, []⟩).memory := by
  rw [laid_plain]; exact laidMet_laidAll _ (by kernel_rfl) (by kernel_rfl)
theorem laid_shaped (os : Os) : (World.laidAll Tryd.prog os laidL).Shaped Tryd.prog := World.shaped_of_ZipB (by kernel_rfl) (by kernel_rfl)
theorem wordsG_len : ∀ (l : List UInt8), (wordsG [] l).length ≤ l.length ∧ ∀ c, (wordsG c l).length ≤ l.length + 1
  | [] => ⟨by simp [wordsG], fun c => by rw [wordsG]; split <;> simp⟩
  | u :: l => by
    obtain ⟨h1, h2⟩ := wordsG_len l
    constructor
    · rw [wordsG]
      split
      · rw [if_pos rfl, List.length_cons]; omega
      · have := h2 ([] ++ [u]); rw [List.length_cons]; omega
    · intro c
      rw [wordsG]
      split
      · split
        · rw [List.length_cons]; omega
        · rw [List.length_cons, List.length_cons]; omega
      · have := h2 (c ++ [u]); rw [List.length_cons]; omega
theorem linesG_len : ∀ (l c : List UInt8), (linesG c l).length ≤ l.length + 1
  | [], c => by rw [linesG]; split <;> simp
  | u :: l, c => by
    rw [linesG]
    split
    · have := linesG_len l []; rw [List.length_cons, List.length_cons]; omega
    · have := linesG_len l (c ++ [u]); rw [List.length_cons]; omega
end Go.Proofs.YtbedepnmgnlijaaDoor
