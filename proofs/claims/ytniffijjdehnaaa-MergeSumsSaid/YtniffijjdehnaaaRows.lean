/-
  No cell of these rows narrows 'for every input' (looked for: loops, veiled, ifaces, maps, wideKeys, modest, calm, conditions, laid).
  DERIVED. THE GIVEN ROWS OF THIS SEAT. 5 by the template 'for every input the law returns true; each argument reads behind the call as it read before'; 0 by the template 'total and deterministic' (their statements: YtniffijjdehnaaaTotals.lean).
  GIVEN WITH THE SEED: the statements are not yours to turn. If you find one false, say at which input.
  Laid BY PROGRAM, IN A SANDBOX (cutbox-rows.mjs): the forced cells as the released guide's own fill.sh prints them over the translation e35a8296cbb15d51… (all of the seat's roots in one cut). By AI agents, Wed Nov 11 2026. No macro, syntax, notation, axiom, sorry.
-/
import Derived.Test.YtniffijjdehnaaaChecked
import GoSem.Claim
import GoSem.ClaimJoined
import GoSem.ClaimMapViews
import Derived.JoinedTies
import Derived.KernelRfl
namespace Go.Proofs.Ytniffijjdehnaaa
/- THE CELL 'sum', in the pinned program and in every row, IS THE sha256 OF THE DUMP (.gsa) THAT YtniffijjdehnaaaProg.lean LOADS. Nothing in Lean hashes anything: it is a label: what it is worth is what the hold of that sum in a sandbox is worth. -/
noncomputable def Try.pinned : Pinned := { name := "ytniffijjdehnaaa", sum := "e35a8296cbb15d51e0232f7f2413bdc9fdd86c20f22cb3fd189d3b5690c0c935", checked := Try.checked }
namespace Rows
def none {H : Type} : Left H := { results := [], args := [] }

/-- 'palmerlaw14.MergeKeys': WHATEVER THE INPUT: true; the input reads as it did. -/
def mergeKeysSpec : ChangeSpec := { name := "mergeKeys", fn := fun _ => fun
  | [d1, d2, d3] => { results := [.lit (.bool true)], args := [d1, d2, d3] }
  | _ => none }
def mergeKeysRow : OpenClaim := { program := "ytniffijjdehnaaa", sum := "e35a8296cbb15d51e0232f7f2413bdc9fdd86c20f22cb3fd189d3b5690c0c935", func := "palmer/palmerlaw14.MergeKeys", spec := "mergeKeys", unfollowed := true, recurses := true, apart := false }
def MergeKeysSaid : Prop := mergeKeysRow.holds Try.pinned (OpenSpec.ofChange mergeKeysSpec)

/-- ITS FALSE NEIGHBOUR: 'it returns false'. Refute it at one input. -/
def mergeKeysWrong : ChangeSpec := { name := "mergeKeys", fn := fun _ => fun
  | [d1, d2, d3] => { results := [.lit (.bool false)], args := [d1, d2, d3] }
  | _ => none }
def MergeKeysWrongFalsely : Prop := mergeKeysRow.holds Try.pinned (OpenSpec.ofChange mergeKeysWrong)

/-- 'palmerlaw14.MergeRows': WHATEVER THE INPUT: true; the input reads as it did. -/
def mergeRowsSpec : ChangeSpec := { name := "mergeRows", fn := fun _ => fun
  | [d] => { results := [.lit (.bool true)], args := [d] }
  | _ => none }
def mergeRowsRow : OpenClaim := { program := "ytniffijjdehnaaa", sum := "e35a8296cbb15d51e0232f7f2413bdc9fdd86c20f22cb3fd189d3b5690c0c935", func := "palmer/palmerlaw14.MergeRows", spec := "mergeRows", unfollowed := true, recurses := true, apart := false }
def MergeRowsSaid : Prop := mergeRowsRow.holds Try.pinned (OpenSpec.ofChange mergeRowsSpec)

/-- ITS FALSE NEIGHBOUR: 'it returns false'. Refute it at one input. -/
def mergeRowsWrong : ChangeSpec := { name := "mergeRows", fn := fun _ => fun
  | [d] => { results := [.lit (.bool false)], args := [d] }
  | _ => none }
def MergeRowsWrongFalsely : Prop := mergeRowsRow.holds Try.pinned (OpenSpec.ofChange mergeRowsWrong)

/-- 'palmerlaw14.MergeEach': WHATEVER THE INPUT: true; the input reads as it did. -/
def mergeEachSpec : ChangeSpec := { name := "mergeEach", fn := fun _ => fun
  | [d1, d2] => { results := [.lit (.bool true)], args := [d1, d2] }
  | _ => none }
def mergeEachRow : OpenClaim := { program := "ytniffijjdehnaaa", sum := "e35a8296cbb15d51e0232f7f2413bdc9fdd86c20f22cb3fd189d3b5690c0c935", func := "palmer/palmerlaw14.MergeEach", spec := "mergeEach", unfollowed := true, recurses := true, apart := false }
def MergeEachSaid : Prop := mergeEachRow.holds Try.pinned (OpenSpec.ofChange mergeEachSpec)

/-- ITS FALSE NEIGHBOUR: 'it returns false'. Refute it at one input. -/
def mergeEachWrong : ChangeSpec := { name := "mergeEach", fn := fun _ => fun
  | [d1, d2] => { results := [.lit (.bool false)], args := [d1, d2] }
  | _ => none }
def MergeEachWrongFalsely : Prop := mergeEachRow.holds Try.pinned (OpenSpec.ofChange mergeEachWrong)

/-- 'palmerlaw14.MergeSums': WHATEVER THE INPUT: true; the input reads as it did. -/
def mergeSumsSpec : ChangeSpec := { name := "mergeSums", fn := fun _ => fun
  | [d] => { results := [.lit (.bool true)], args := [d] }
  | _ => none }
def mergeSumsRow : OpenClaim := { program := "ytniffijjdehnaaa", sum := "e35a8296cbb15d51e0232f7f2413bdc9fdd86c20f22cb3fd189d3b5690c0c935", func := "palmer/palmerlaw14.MergeSums", spec := "mergeSums", unfollowed := true, recurses := true, apart := false }
def MergeSumsSaid : Prop := mergeSumsRow.holds Try.pinned (OpenSpec.ofChange mergeSumsSpec)

/-- ITS FALSE NEIGHBOUR: 'it returns false'. Refute it at one input. -/
def mergeSumsWrong : ChangeSpec := { name := "mergeSums", fn := fun _ => fun
  | [d] => { results := [.lit (.bool false)], args := [d] }
  | _ => none }
def MergeSumsWrongFalsely : Prop := mergeSumsRow.holds Try.pinned (OpenSpec.ofChange mergeSumsWrong)

/-- 'palmerlaw14.MergeSplits': WHATEVER THE INPUT: true; the input reads as it did. -/
def mergeSplitsSpec : ChangeSpec := { name := "mergeSplits", fn := fun _ => fun
  | [d1, d2, d3] => { results := [.lit (.bool true)], args := [d1, d2, d3] }
  | _ => none }
def mergeSplitsRow : OpenClaim := { program := "ytniffijjdehnaaa", sum := "e35a8296cbb15d51e0232f7f2413bdc9fdd86c20f22cb3fd189d3b5690c0c935", func := "palmer/palmerlaw14.MergeSplits", spec := "mergeSplits", unfollowed := true, recurses := true, apart := false }
def MergeSplitsSaid : Prop := mergeSplitsRow.holds Try.pinned (OpenSpec.ofChange mergeSplitsSpec)

/-- ITS FALSE NEIGHBOUR: 'it returns false'. Refute it at one input. -/
def mergeSplitsWrong : ChangeSpec := { name := "mergeSplits", fn := fun _ => fun
  | [d1, d2, d3] => { results := [.lit (.bool false)], args := [d1, d2, d3] }
  | _ => none }
def MergeSplitsWrongFalsely : Prop := mergeSplitsRow.holds Try.pinned (OpenSpec.ofChange mergeSplitsWrong)

/- THE SECOND FORM. 'bulk': how many values and letters a reading holds, each counted each time it is reached (what is shared counts as often as it is met; a slice's spare places count too). A statement '..UptoSaid' is the law's where the arguments, and the package variables that the reading takes, are together of bulk at most 1048576: NARROWER than '..Said'. Prove '..Said' where nothing that the law and all that it calls make is longer than what came in: it says more and counts as full. Else prove '..UptoSaid'. A law counts once. -/
mutual
def uptoBulk {H : Type} : DataW H → Nat
  | .lit (.string bytes) => bytes.length + 1
  | .lit _ => 1
  | .nil => 1
  | .ptr d => uptoBulk d + 1
  | .slice elems spare => uptoBulkAll elems + uptoBulkAll spare + 1
  | .agg parts => uptoBulkAll parts + 1
  | .iface _ d => uptoBulk d + 1
  | .map entries => uptoBulkEntries entries + 1
  | .held _ => 1
def uptoBulkAll {H : Type} : List (DataW H) → Nat
  | [] => 0
  | d :: r => uptoBulk d + uptoBulkAll r
def uptoBulkEntries {H : Type} : List (Lit × DataW H) → Nat
  | [] => 0
  | x :: r => uptoBulkEntry x + uptoBulkEntries r
def uptoBulkEntry {H : Type} : Lit × DataW H → Nat
  | (.string bytes, d) => bytes.length + uptoBulk d + 1
  | (_, d) => uptoBulk d + 1
 end
def uptoSmall : (H : Type) → List (DataW H) → Bool := fun _ ds => decide (uptoBulkAll ds ≤ 1048576)
def OpenSpec.upto (s : _root_.Go.ChangeSpec) : _root_.Go.OpenSpec := { _root_.Go.OpenSpec.ofChange s with cond := some uptoSmall }

/-- 'palmerlaw14.MergeKeys', WHERE WHAT IT READS IS OF BULK AT MOST 1048576: true; the input reads as it did. -/
def mergeKeysUptoRow : OpenClaim := { program := "ytniffijjdehnaaa", sum := "e35a8296cbb15d51e0232f7f2413bdc9fdd86c20f22cb3fd189d3b5690c0c935", func := "palmer/palmerlaw14.MergeKeys", spec := "mergeKeys", unfollowed := true, recurses := true, apart := false, narrowed := true }
def MergeKeysUptoSaid : Prop := mergeKeysUptoRow.holds Try.pinned (OpenSpec.upto mergeKeysSpec)

/-- 'palmerlaw14.MergeRows', WHERE WHAT IT READS IS OF BULK AT MOST 1048576: true; the input reads as it did. -/
def mergeRowsUptoRow : OpenClaim := { program := "ytniffijjdehnaaa", sum := "e35a8296cbb15d51e0232f7f2413bdc9fdd86c20f22cb3fd189d3b5690c0c935", func := "palmer/palmerlaw14.MergeRows", spec := "mergeRows", unfollowed := true, recurses := true, apart := false, narrowed := true }
def MergeRowsUptoSaid : Prop := mergeRowsUptoRow.holds Try.pinned (OpenSpec.upto mergeRowsSpec)

/-- 'palmerlaw14.MergeEach', WHERE WHAT IT READS IS OF BULK AT MOST 1048576: true; the input reads as it did. -/
def mergeEachUptoRow : OpenClaim := { program := "ytniffijjdehnaaa", sum := "e35a8296cbb15d51e0232f7f2413bdc9fdd86c20f22cb3fd189d3b5690c0c935", func := "palmer/palmerlaw14.MergeEach", spec := "mergeEach", unfollowed := true, recurses := true, apart := false, narrowed := true }
def MergeEachUptoSaid : Prop := mergeEachUptoRow.holds Try.pinned (OpenSpec.upto mergeEachSpec)

/-- 'palmerlaw14.MergeSums', WHERE WHAT IT READS IS OF BULK AT MOST 1048576: true; the input reads as it did. -/
def mergeSumsUptoRow : OpenClaim := { program := "ytniffijjdehnaaa", sum := "e35a8296cbb15d51e0232f7f2413bdc9fdd86c20f22cb3fd189d3b5690c0c935", func := "palmer/palmerlaw14.MergeSums", spec := "mergeSums", unfollowed := true, recurses := true, apart := false, narrowed := true }
def MergeSumsUptoSaid : Prop := mergeSumsUptoRow.holds Try.pinned (OpenSpec.upto mergeSumsSpec)

/-- 'palmerlaw14.MergeSplits', WHERE WHAT IT READS IS OF BULK AT MOST 1048576: true; the input reads as it did. -/
def mergeSplitsUptoRow : OpenClaim := { program := "ytniffijjdehnaaa", sum := "e35a8296cbb15d51e0232f7f2413bdc9fdd86c20f22cb3fd189d3b5690c0c935", func := "palmer/palmerlaw14.MergeSplits", spec := "mergeSplits", unfollowed := true, recurses := true, apart := false, narrowed := true }
def MergeSplitsUptoSaid : Prop := mergeSplitsUptoRow.holds Try.pinned (OpenSpec.upto mergeSplitsSpec)

end Rows
end Go.Proofs.Ytniffijjdehnaaa
