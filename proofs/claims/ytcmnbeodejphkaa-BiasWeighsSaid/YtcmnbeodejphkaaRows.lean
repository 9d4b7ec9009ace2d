/-
  No cell of these rows narrows 'for every input' (looked for: loops, veiled, ifaces, maps, wideKeys, modest, calm, conditions, laid).
  DERIVED. THE GIVEN ROWS OF THIS SEAT. 5 by the template 'for every input the law returns true; each argument reads behind the call as it read before'; 0 by the template 'total and deterministic' (their statements: YtcmnbeodejphkaaTotals.lean).
  GIVEN WITH THE SEED: the statements are not yours to turn. If you find one false, say at which input.
  Laid BY PROGRAM, IN A SANDBOX (cutbox-rows.mjs): the forced cells as the released guide's own fill.sh prints them over the translation c266cef211d3bcd8… (all of the seat's roots in one cut). By AI agents, Wed Nov 11 2026. No macro, syntax, notation, axiom, sorry.
-/
import Derived.Test.YtcmnbeodejphkaaChecked
import GoSem.Claim
import GoSem.ClaimJoined
import GoSem.ClaimMapViews
import Derived.JoinedTies
import Derived.KernelRfl
namespace Go.Proofs.Ytcmnbeodejphkaa
/- THE CELL 'sum', in the pinned program and in every row, IS THE sha256 OF THE DUMP (.gsa) THAT YtcmnbeodejphkaaProg.lean LOADS. Nothing in Lean hashes anything: it is a label: what it is worth is what the hold of that sum in a sandbox is worth. -/
noncomputable def Try.pinned : Pinned := { name := "ytcmnbeodejphkaa", sum := "c266cef211d3bcd89e0e6d2182d6e0b95f7a4867ee95553ddf69f7244612af02", checked := Try.checked }
namespace Rows
def none {H : Type} : Left H := { results := [], args := [] }

/-- 'palmerlaw18.BiasWeighs': WHATEVER THE INPUT: true; the input reads as it did. -/
def biasWeighsSpec : ChangeSpec := { name := "biasWeighs", fn := fun _ => fun
  | [d1, d2, d3, d4] => { results := [.lit (.bool true)], args := [d1, d2, d3, d4] }
  | _ => none }
def biasWeighsRow : OpenClaim := { program := "ytcmnbeodejphkaa", sum := "c266cef211d3bcd89e0e6d2182d6e0b95f7a4867ee95553ddf69f7244612af02", func := "palmer/palmerlaw18.BiasWeighs", spec := "biasWeighs", apart := false }
def BiasWeighsSaid : Prop := biasWeighsRow.holds Try.pinned (OpenSpec.ofChange biasWeighsSpec)

/-- ITS FALSE NEIGHBOUR: 'it returns false'. Refute it at one input. -/
def biasWeighsWrong : ChangeSpec := { name := "biasWeighs", fn := fun _ => fun
  | [d1, d2, d3, d4] => { results := [.lit (.bool false)], args := [d1, d2, d3, d4] }
  | _ => none }
def BiasWeighsWrongFalsely : Prop := biasWeighsRow.holds Try.pinned (OpenSpec.ofChange biasWeighsWrong)

/-- 'palmerlaw18.BiasAccepts': WHATEVER THE INPUT: true; the input reads as it did. -/
def biasAcceptsSpec : ChangeSpec := { name := "biasAccepts", fn := fun _ => fun
  | [d1, d2, d3, d4, d5] => { results := [.lit (.bool true)], args := [d1, d2, d3, d4, d5] }
  | _ => none }
def biasAcceptsRow : OpenClaim := { program := "ytcmnbeodejphkaa", sum := "c266cef211d3bcd89e0e6d2182d6e0b95f7a4867ee95553ddf69f7244612af02", func := "palmer/palmerlaw18.BiasAccepts", spec := "biasAccepts", apart := false }
def BiasAcceptsSaid : Prop := biasAcceptsRow.holds Try.pinned (OpenSpec.ofChange biasAcceptsSpec)

/-- ITS FALSE NEIGHBOUR: 'it returns false'. Refute it at one input. -/
def biasAcceptsWrong : ChangeSpec := { name := "biasAccepts", fn := fun _ => fun
  | [d1, d2, d3, d4, d5] => { results := [.lit (.bool false)], args := [d1, d2, d3, d4, d5] }
  | _ => none }
def BiasAcceptsWrongFalsely : Prop := biasAcceptsRow.holds Try.pinned (OpenSpec.ofChange biasAcceptsWrong)

/-- 'palmerlaw18.BiasCounts': WHATEVER THE INPUT: true; the input reads as it did. -/
def biasCountsSpec : ChangeSpec := { name := "biasCounts", fn := fun _ => fun
  | [d1, d2, d3, d4] => { results := [.lit (.bool true)], args := [d1, d2, d3, d4] }
  | _ => none }
def biasCountsRow : OpenClaim := { program := "ytcmnbeodejphkaa", sum := "c266cef211d3bcd89e0e6d2182d6e0b95f7a4867ee95553ddf69f7244612af02", func := "palmer/palmerlaw18.BiasCounts", spec := "biasCounts", apart := false }
def BiasCountsSaid : Prop := biasCountsRow.holds Try.pinned (OpenSpec.ofChange biasCountsSpec)

/-- ITS FALSE NEIGHBOUR: 'it returns false'. Refute it at one input. -/
def biasCountsWrong : ChangeSpec := { name := "biasCounts", fn := fun _ => fun
  | [d1, d2, d3, d4] => { results := [.lit (.bool false)], args := [d1, d2, d3, d4] }
  | _ => none }
def BiasCountsWrongFalsely : Prop := biasCountsRow.holds Try.pinned (OpenSpec.ofChange biasCountsWrong)

/-- 'palmerlaw18.BiasScales': WHATEVER THE INPUT: true; the input reads as it did. -/
def biasScalesSpec : ChangeSpec := { name := "biasScales", fn := fun _ => fun
  | [d1, d2, d3] => { results := [.lit (.bool true)], args := [d1, d2, d3] }
  | _ => none }
def biasScalesRow : OpenClaim := { program := "ytcmnbeodejphkaa", sum := "c266cef211d3bcd89e0e6d2182d6e0b95f7a4867ee95553ddf69f7244612af02", func := "palmer/palmerlaw18.BiasScales", spec := "biasScales", apart := false }
def BiasScalesSaid : Prop := biasScalesRow.holds Try.pinned (OpenSpec.ofChange biasScalesSpec)

/-- ITS FALSE NEIGHBOUR: 'it returns false'. Refute it at one input. -/
def biasScalesWrong : ChangeSpec := { name := "biasScales", fn := fun _ => fun
  | [d1, d2, d3] => { results := [.lit (.bool false)], args := [d1, d2, d3] }
  | _ => none }
def BiasScalesWrongFalsely : Prop := biasScalesRow.holds Try.pinned (OpenSpec.ofChange biasScalesWrong)

/-- 'palmerlaw18.BiasSure': WHATEVER THE INPUT: true; the input reads as it did. -/
def biasSureSpec : ChangeSpec := { name := "biasSure", fn := fun _ => fun
  | [d1, d2, d3, d4, d5] => { results := [.lit (.bool true)], args := [d1, d2, d3, d4, d5] }
  | _ => none }
def biasSureRow : OpenClaim := { program := "ytcmnbeodejphkaa", sum := "c266cef211d3bcd89e0e6d2182d6e0b95f7a4867ee95553ddf69f7244612af02", func := "palmer/palmerlaw18.BiasSure", spec := "biasSure", apart := false }
def BiasSureSaid : Prop := biasSureRow.holds Try.pinned (OpenSpec.ofChange biasSureSpec)

/-- ITS FALSE NEIGHBOUR: 'it returns false'. Refute it at one input. -/
def biasSureWrong : ChangeSpec := { name := "biasSure", fn := fun _ => fun
  | [d1, d2, d3, d4, d5] => { results := [.lit (.bool false)], args := [d1, d2, d3, d4, d5] }
  | _ => none }
def BiasSureWrongFalsely : Prop := biasSureRow.holds Try.pinned (OpenSpec.ofChange biasSureWrong)

/- THE SECOND FORM. 'bulk': how many values and letters a reading holds, each counted each time it is reached (what is shared counts as often as it is met; a slice's spare places count too). A statement '..UptoSaid' is the law's where the arguments, and the package variables that the reading takes, are together of bulk at most 1048576: NARROWER than '..Said'. Prove '..Said' where nothing that the law and all that it calls make is longer than what came in: it says more and counts as full. Else prove '..UptoSaid'. A law counts once. -/
mutual
def uptoBulk {H : Type} : DataW H → Nat
  | .lit (.string bytes) => bytes.length + 1
  | .lit _ => 1
  | .nil => 1
  | .ptr d => uptoBulk d + 1
  | .slice elems spare => uptoBulkAll elems + uptoBulkAll spare + 1
  | .agg parts => uptoBulkAll parts + 1
  | .iface _ d => uptoBulk d + 1
  | .map entries => uptoBulkEntries entries + 1
  | .held _ => 1
def uptoBulkAll {H : Type} : List (DataW H) → Nat
  | [] => 0
  | d :: r => uptoBulk d + uptoBulkAll r
def uptoBulkEntries {H : Type} : List (Lit × DataW H) → Nat
  | [] => 0
  | x :: r => uptoBulkEntry x + uptoBulkEntries r
def uptoBulkEntry {H : Type} : Lit × DataW H → Nat
  | (.string bytes, d) => bytes.length + uptoBulk d + 1
  | (_, d) => uptoBulk d + 1
 end
def uptoSmall : (H : Type) → List (DataW H) → Bool := fun _ ds => decide (uptoBulkAll ds ≤ 1048576)
def OpenSpec.upto (s : _root_.Go.ChangeSpec) : _root_.Go.OpenSpec := { _root_.Go.OpenSpec.ofChange s with cond := some uptoSmall }

/-- 'palmerlaw18.BiasWeighs', WHERE WHAT IT READS IS OF BULK AT MOST 1048576: true; the input reads as it did. -/
def biasWeighsUptoRow : OpenClaim := { program := "ytcmnbeodejphkaa", sum := "c266cef211d3bcd89e0e6d2182d6e0b95f7a4867ee95553ddf69f7244612af02", func := "palmer/palmerlaw18.BiasWeighs", spec := "biasWeighs", apart := false, narrowed := true }
def BiasWeighsUptoSaid : Prop := biasWeighsUptoRow.holds Try.pinned (OpenSpec.upto biasWeighsSpec)

/-- 'palmerlaw18.BiasAccepts', WHERE WHAT IT READS IS OF BULK AT MOST 1048576: true; the input reads as it did. -/
def biasAcceptsUptoRow : OpenClaim := { program := "ytcmnbeodejphkaa", sum := "c266cef211d3bcd89e0e6d2182d6e0b95f7a4867ee95553ddf69f7244612af02", func := "palmer/palmerlaw18.BiasAccepts", spec := "biasAccepts", apart := false, narrowed := true }
def BiasAcceptsUptoSaid : Prop := biasAcceptsUptoRow.holds Try.pinned (OpenSpec.upto biasAcceptsSpec)

/-- 'palmerlaw18.BiasCounts', WHERE WHAT IT READS IS OF BULK AT MOST 1048576: true; the input reads as it did. -/
def biasCountsUptoRow : OpenClaim := { program := "ytcmnbeodejphkaa", sum := "c266cef211d3bcd89e0e6d2182d6e0b95f7a4867ee95553ddf69f7244612af02", func := "palmer/palmerlaw18.BiasCounts", spec := "biasCounts", apart := false, narrowed := true }
def BiasCountsUptoSaid : Prop := biasCountsUptoRow.holds Try.pinned (OpenSpec.upto biasCountsSpec)

/-- 'palmerlaw18.BiasScales', WHERE WHAT IT READS IS OF BULK AT MOST 1048576: true; the input reads as it did. -/
def biasScalesUptoRow : OpenClaim := { program := "ytcmnbeodejphkaa", sum := "c266cef211d3bcd89e0e6d2182d6e0b95f7a4867ee95553ddf69f7244612af02", func := "palmer/palmerlaw18.BiasScales", spec := "biasScales", apart := false, narrowed := true }
def BiasScalesUptoSaid : Prop := biasScalesUptoRow.holds Try.pinned (OpenSpec.upto biasScalesSpec)

/-- 'palmerlaw18.BiasSure', WHERE WHAT IT READS IS OF BULK AT MOST 1048576: true; the input reads as it did. -/
def biasSureUptoRow : OpenClaim := { program := "ytcmnbeodejphkaa", sum := "c266cef211d3bcd89e0e6d2182d6e0b95f7a4867ee95553ddf69f7244612af02", func := "palmer/palmerlaw18.BiasSure", spec := "biasSure", apart := false, narrowed := true }
def BiasSureUptoSaid : Prop := biasSureUptoRow.holds Try.pinned (OpenSpec.upto biasSureSpec)

end Rows
end Go.Proofs.Ytcmnbeodejphkaa
