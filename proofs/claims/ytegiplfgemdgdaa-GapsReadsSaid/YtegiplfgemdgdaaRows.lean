/-
  No cell of these rows narrows 'for every input' (looked for: loops, veiled, ifaces, maps, wideKeys, modest, calm, conditions, laid).
  DERIVED. THE GIVEN ROWS OF THIS SEAT. 3 by the template 'for every input the law returns true; each argument reads behind the call as it read before'; 0 by the template 'total and deterministic' (their statements: YtegiplfgemdgdaaTotals.lean).
  GIVEN WITH THE SEED: the statements are not yours to turn. If you find one false, say at which input.
  Laid BY PROGRAM, IN A SANDBOX (cutbox-rows.mjs): the forced cells as the released guide's own fill.sh prints them over the translation 3540d3f1e78494ab… (all of the seat's roots in one cut). By AI agents, Wed Nov 11 2026. No macro, syntax, notation, axiom, sorry.
-/
import Derived.Test.YtegiplfgemdgdaaChecked
import GoSem.Claim
import GoSem.ClaimJoined
import GoSem.ClaimMapViews
import Derived.JoinedTies
import Derived.KernelRfl
namespace Go.Proofs.Ytegiplfgemdgdaa
/- THE CELL 'sum', in the pinned program and in every row, IS THE sha256 OF THE DUMP (.gsa) THAT YtegiplfgemdgdaaProg.lean LOADS. Nothing in Lean hashes anything: it is a label: what it is worth is what the hold of that sum in a sandbox is worth. -/
noncomputable def Try.pinned : Pinned := { name := "ytegiplfgemdgdaa", sum := "3540d3f1e78494abc8de9eeb7557a92cfebe47bc267379b533420dd5e449920d", checked := Try.checked }
namespace Rows
def none {H : Type} : Left H := { results := [], args := [] }

/-- 'palmerlaw04.GapsPuts': WHATEVER THE INPUT: true; the input reads as it did. -/
def gapsPutsSpec : ChangeSpec := { name := "gapsPuts", fn := fun _ => fun
  | [d1, d2] => { results := [.lit (.bool true)], args := [d1, d2] }
  | _ => none }
def gapsPutsRow : OpenClaim := { program := "ytegiplfgemdgdaa", sum := "3540d3f1e78494abc8de9eeb7557a92cfebe47bc267379b533420dd5e449920d", func := "palmer/palmerlaw04.GapsPuts", spec := "gapsPuts", recurses := true, apart := false }
def GapsPutsSaid : Prop := gapsPutsRow.holds Try.pinned (OpenSpec.ofChange gapsPutsSpec)

/-- ITS FALSE NEIGHBOUR: 'it returns false'. Refute it at one input. -/
def gapsPutsWrong : ChangeSpec := { name := "gapsPuts", fn := fun _ => fun
  | [d1, d2] => { results := [.lit (.bool false)], args := [d1, d2] }
  | _ => none }
def GapsPutsWrongFalsely : Prop := gapsPutsRow.holds Try.pinned (OpenSpec.ofChange gapsPutsWrong)

/-- 'palmerlaw04.GapsReads': WHATEVER THE INPUT: true; the input reads as it did. -/
def gapsReadsSpec : ChangeSpec := { name := "gapsReads", fn := fun _ => fun
  | [d] => { results := [.lit (.bool true)], args := [d] }
  | _ => none }
def gapsReadsRow : OpenClaim := { program := "ytegiplfgemdgdaa", sum := "3540d3f1e78494abc8de9eeb7557a92cfebe47bc267379b533420dd5e449920d", func := "palmer/palmerlaw04.GapsReads", spec := "gapsReads", apart := false }
def GapsReadsSaid : Prop := gapsReadsRow.holds Try.pinned (OpenSpec.ofChange gapsReadsSpec)

/-- ITS FALSE NEIGHBOUR: 'it returns false'. Refute it at one input. -/
def gapsReadsWrong : ChangeSpec := { name := "gapsReads", fn := fun _ => fun
  | [d] => { results := [.lit (.bool false)], args := [d] }
  | _ => none }
def GapsReadsWrongFalsely : Prop := gapsReadsRow.holds Try.pinned (OpenSpec.ofChange gapsReadsWrong)

/-- 'palmerlaw04.GapsFinds': WHATEVER THE INPUT: true; the input reads as it did. -/
def gapsFindsSpec : ChangeSpec := { name := "gapsFinds", fn := fun _ => fun
  | [d1, d2] => { results := [.lit (.bool true)], args := [d1, d2] }
  | _ => none }
def gapsFindsRow : OpenClaim := { program := "ytegiplfgemdgdaa", sum := "3540d3f1e78494abc8de9eeb7557a92cfebe47bc267379b533420dd5e449920d", func := "palmer/palmerlaw04.GapsFinds", spec := "gapsFinds", unfollowed := true, recurses := true, apart := false }
def GapsFindsSaid : Prop := gapsFindsRow.holds Try.pinned (OpenSpec.ofChange gapsFindsSpec)

/-- ITS FALSE NEIGHBOUR: 'it returns false'. Refute it at one input. -/
def gapsFindsWrong : ChangeSpec := { name := "gapsFinds", fn := fun _ => fun
  | [d1, d2] => { results := [.lit (.bool false)], args := [d1, d2] }
  | _ => none }
def GapsFindsWrongFalsely : Prop := gapsFindsRow.holds Try.pinned (OpenSpec.ofChange gapsFindsWrong)

/- THE SECOND FORM. 'bulk': how many values and letters a reading holds, each counted each time it is reached (what is shared counts as often as it is met; a slice's spare places count too). A statement '..UptoSaid' is the law's where the arguments, and the package variables that the reading takes, are together of bulk at most 1048576: NARROWER than '..Said'. Prove '..Said' where nothing that the law and all that it calls make is longer than what came in: it says more and counts as full. Else prove '..UptoSaid'. A law counts once. -/
mutual
def uptoBulk {H : Type} : DataW H → Nat
  | .lit (.string bytes) => bytes.length + 1
  | .lit _ => 1
  | .nil => 1
  | .ptr d => uptoBulk d + 1
  | .slice elems spare => uptoBulkAll elems + uptoBulkAll spare + 1
  | .agg parts => uptoBulkAll parts + 1
  | .iface _ d => uptoBulk d + 1
  | .map entries => uptoBulkEntries entries + 1
  | .held _ => 1
def uptoBulkAll {H : Type} : List (DataW H) → Nat
  | [] => 0
  | d :: r => uptoBulk d + uptoBulkAll r
def uptoBulkEntries {H : Type} : List (Lit × DataW H) → Nat
  | [] => 0
  | x :: r => uptoBulkEntry x + uptoBulkEntries r
def uptoBulkEntry {H : Type} : Lit × DataW H → Nat
  | (.string bytes, d) => bytes.length + uptoBulk d + 1
  | (_, d) => uptoBulk d + 1
 end
def uptoSmall : (H : Type) → List (DataW H) → Bool := fun _ ds => decide (uptoBulkAll ds ≤ 1048576)
def OpenSpec.upto (s : _root_.Go.ChangeSpec) : _root_.Go.OpenSpec := { _root_.Go.OpenSpec.ofChange s with cond := some uptoSmall }

/-- 'palmerlaw04.GapsPuts', WHERE WHAT IT READS IS OF BULK AT MOST 1048576: true; the input reads as it did. -/
def gapsPutsUptoRow : OpenClaim := { program := "ytegiplfgemdgdaa", sum := "3540d3f1e78494abc8de9eeb7557a92cfebe47bc267379b533420dd5e449920d", func := "palmer/palmerlaw04.GapsPuts", spec := "gapsPuts", recurses := true, apart := false, narrowed := true }
def GapsPutsUptoSaid : Prop := gapsPutsUptoRow.holds Try.pinned (OpenSpec.upto gapsPutsSpec)

/-- 'palmerlaw04.GapsReads', WHERE WHAT IT READS IS OF BULK AT MOST 1048576: true; the input reads as it did. -/
def gapsReadsUptoRow : OpenClaim := { program := "ytegiplfgemdgdaa", sum := "3540d3f1e78494abc8de9eeb7557a92cfebe47bc267379b533420dd5e449920d", func := "palmer/palmerlaw04.GapsReads", spec := "gapsReads", apart := false, narrowed := true }
def GapsReadsUptoSaid : Prop := gapsReadsUptoRow.holds Try.pinned (OpenSpec.upto gapsReadsSpec)

/-- 'palmerlaw04.GapsFinds', WHERE WHAT IT READS IS OF BULK AT MOST 1048576: true; the input reads as it did. -/
def gapsFindsUptoRow : OpenClaim := { program := "ytegiplfgemdgdaa", sum := "3540d3f1e78494abc8de9eeb7557a92cfebe47bc267379b533420dd5e449920d", func := "palmer/palmerlaw04.GapsFinds", spec := "gapsFinds", unfollowed := true, recurses := true, apart := false, narrowed := true }
def GapsFindsUptoSaid : Prop := gapsFindsUptoRow.holds Try.pinned (OpenSpec.upto gapsFindsSpec)

end Rows
end Go.Proofs.Ytegiplfgemdgdaa
