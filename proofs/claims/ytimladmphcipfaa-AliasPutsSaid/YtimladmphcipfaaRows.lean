/-
  No cell of these rows narrows 'for every input' (looked for: loops, veiled, ifaces, maps, wideKeys, modest, calm, conditions, laid).
  DERIVED. THE GIVEN ROWS OF THIS SEAT. 5 by the template 'for every input the law returns true; each argument reads behind the call as it read before'; 0 by the template 'total and deterministic' (their statements: YtimladmphcipfaaTotals.lean).
  GIVEN WITH THE SEED: the statements are not yours to turn. If you find one false, say at which input.
  Laid BY PROGRAM, IN A SANDBOX (cutbox-rows.mjs): the forced cells as the released guide's own fill.sh prints them over the translation 06eb8402a99a7155… (all of the seat's roots in one cut). By AI agents, Wed Nov 11 2026. No macro, syntax, notation, axiom, sorry.
-/
import Derived.Test.YtimladmphcipfaaChecked
import GoSem.Claim
import GoSem.ClaimJoined
import GoSem.ClaimMapViews
import Derived.JoinedTies
import Derived.KernelRfl
namespace Go.Proofs.Ytimladmphcipfaa
/- THE CELL 'sum', in the pinned program and in every row, IS THE sha256 OF THE DUMP (.gsa) THAT YtimladmphcipfaaProg.lean LOADS. Nothing in Lean hashes anything: it is a label: what it is worth is what the hold of that sum in a sandbox is worth. -/
noncomputable def Try.pinned : Pinned := { name := "ytimladmphcipfaa", sum := "06eb8402a99a71550c50c4335ac57b22a5b11a205f27cc4288cd99c943433415", checked := Try.checked }
namespace Rows
def none {H : Type} : Left H := { results := [], args := [] }

/-- 'palmerlaw16.AliasBuilds': WHATEVER THE INPUT: true; the input reads as it did. -/
def aliasBuildsSpec : ChangeSpec := { name := "aliasBuilds", fn := fun _ => fun
  | [d] => { results := [.lit (.bool true)], args := [d] }
  | _ => none }
def aliasBuildsRow : OpenClaim := { program := "ytimladmphcipfaa", sum := "06eb8402a99a71550c50c4335ac57b22a5b11a205f27cc4288cd99c943433415", func := "palmer/palmerlaw16.AliasBuilds", spec := "aliasBuilds", apart := false }
def AliasBuildsSaid : Prop := aliasBuildsRow.holds Try.pinned (OpenSpec.ofChange aliasBuildsSpec)

/-- ITS FALSE NEIGHBOUR: 'it returns false'. Refute it at one input. -/
def aliasBuildsWrong : ChangeSpec := { name := "aliasBuilds", fn := fun _ => fun
  | [d] => { results := [.lit (.bool false)], args := [d] }
  | _ => none }
def AliasBuildsWrongFalsely : Prop := aliasBuildsRow.holds Try.pinned (OpenSpec.ofChange aliasBuildsWrong)

/-- 'palmerlaw16.AliasCounts': WHATEVER THE INPUT: true; the input reads as it did. -/
def aliasCountsSpec : ChangeSpec := { name := "aliasCounts", fn := fun _ => fun
  | [d] => { results := [.lit (.bool true)], args := [d] }
  | _ => none }
def aliasCountsRow : OpenClaim := { program := "ytimladmphcipfaa", sum := "06eb8402a99a71550c50c4335ac57b22a5b11a205f27cc4288cd99c943433415", func := "palmer/palmerlaw16.AliasCounts", spec := "aliasCounts", apart := false }
def AliasCountsSaid : Prop := aliasCountsRow.holds Try.pinned (OpenSpec.ofChange aliasCountsSpec)

/-- ITS FALSE NEIGHBOUR: 'it returns false'. Refute it at one input. -/
def aliasCountsWrong : ChangeSpec := { name := "aliasCounts", fn := fun _ => fun
  | [d] => { results := [.lit (.bool false)], args := [d] }
  | _ => none }
def AliasCountsWrongFalsely : Prop := aliasCountsRow.holds Try.pinned (OpenSpec.ofChange aliasCountsWrong)

/-- 'palmerlaw16.AliasOne': WHATEVER THE INPUT: true; the input reads as it did. -/
def aliasOneSpec : ChangeSpec := { name := "aliasOne", fn := fun _ => fun
  | [d] => { results := [.lit (.bool true)], args := [d] }
  | _ => none }
def aliasOneRow : OpenClaim := { program := "ytimladmphcipfaa", sum := "06eb8402a99a71550c50c4335ac57b22a5b11a205f27cc4288cd99c943433415", func := "palmer/palmerlaw16.AliasOne", spec := "aliasOne", apart := false }
def AliasOneSaid : Prop := aliasOneRow.holds Try.pinned (OpenSpec.ofChange aliasOneSpec)

/-- ITS FALSE NEIGHBOUR: 'it returns false'. Refute it at one input. -/
def aliasOneWrong : ChangeSpec := { name := "aliasOne", fn := fun _ => fun
  | [d] => { results := [.lit (.bool false)], args := [d] }
  | _ => none }
def AliasOneWrongFalsely : Prop := aliasOneRow.holds Try.pinned (OpenSpec.ofChange aliasOneWrong)

/-- 'palmerlaw16.AliasMay': WHATEVER THE INPUT: true; the input reads as it did. -/
def aliasMaySpec : ChangeSpec := { name := "aliasMay", fn := fun _ => fun
  | [d1, d2, d3, d4] => { results := [.lit (.bool true)], args := [d1, d2, d3, d4] }
  | _ => none }
def aliasMayRow : OpenClaim := { program := "ytimladmphcipfaa", sum := "06eb8402a99a71550c50c4335ac57b22a5b11a205f27cc4288cd99c943433415", func := "palmer/palmerlaw16.AliasMay", spec := "aliasMay", apart := false }
def AliasMaySaid : Prop := aliasMayRow.holds Try.pinned (OpenSpec.ofChange aliasMaySpec)

/-- ITS FALSE NEIGHBOUR: 'it returns false'. Refute it at one input. -/
def aliasMayWrong : ChangeSpec := { name := "aliasMay", fn := fun _ => fun
  | [d1, d2, d3, d4] => { results := [.lit (.bool false)], args := [d1, d2, d3, d4] }
  | _ => none }
def AliasMayWrongFalsely : Prop := aliasMayRow.holds Try.pinned (OpenSpec.ofChange aliasMayWrong)

/-- 'palmerlaw16.AliasPuts': WHATEVER THE INPUT: true; the input reads as it did. -/
def aliasPutsSpec : ChangeSpec := { name := "aliasPuts", fn := fun _ => fun
  | [d1, d2, d3] => { results := [.lit (.bool true)], args := [d1, d2, d3] }
  | _ => none }
def aliasPutsRow : OpenClaim := { program := "ytimladmphcipfaa", sum := "06eb8402a99a71550c50c4335ac57b22a5b11a205f27cc4288cd99c943433415", func := "palmer/palmerlaw16.AliasPuts", spec := "aliasPuts", recurses := true, apart := false }
def AliasPutsSaid : Prop := aliasPutsRow.holds Try.pinned (OpenSpec.ofChange aliasPutsSpec)

/-- ITS FALSE NEIGHBOUR: 'it returns false'. Refute it at one input. -/
def aliasPutsWrong : ChangeSpec := { name := "aliasPuts", fn := fun _ => fun
  | [d1, d2, d3] => { results := [.lit (.bool false)], args := [d1, d2, d3] }
  | _ => none }
def AliasPutsWrongFalsely : Prop := aliasPutsRow.holds Try.pinned (OpenSpec.ofChange aliasPutsWrong)

/- THE SECOND FORM. 'bulk': how many values and letters a reading holds, each counted each time it is reached (what is shared counts as often as it is met; a slice's spare places count too). A statement '..UptoSaid' is the law's where the arguments, and the package variables that the reading takes, are together of bulk at most 1048576: NARROWER than '..Said'. Prove '..Said' where nothing that the law and all that it calls make is longer than what came in: it says more and counts as full. Else prove '..UptoSaid'. A law counts once. -/
mutual
def uptoBulk {H : Type} : DataW H → Nat
  | .lit (.string bytes) => bytes.length + 1
  | .lit _ => 1
  | .nil => 1
  | .ptr d => uptoBulk d + 1
  | .slice elems spare => uptoBulkAll elems + uptoBulkAll spare + 1
  | .agg parts => uptoBulkAll parts + 1
  | .iface _ d => uptoBulk d + 1
  | .map entries => uptoBulkEntries entries + 1
  | .held _ => 1
def uptoBulkAll {H : Type} : List (DataW H) → Nat
  | [] => 0
  | d :: r => uptoBulk d + uptoBulkAll r
def uptoBulkEntries {H : Type} : List (Lit × DataW H) → Nat
  | [] => 0
  | x :: r => uptoBulkEntry x + uptoBulkEntries r
def uptoBulkEntry {H : Type} : Lit × DataW H → Nat
  | (.string bytes, d) => bytes.length + uptoBulk d + 1
  | (_, d) => uptoBulk d + 1
 end
def uptoSmall : (H : Type) → List (DataW H) → Bool := fun _ ds => decide (uptoBulkAll ds ≤ 1048576)
def OpenSpec.upto (s : _root_.Go.ChangeSpec) : _root_.Go.OpenSpec := { _root_.Go.OpenSpec.ofChange s with cond := some uptoSmall }

/-- 'palmerlaw16.AliasBuilds', WHERE WHAT IT READS IS OF BULK AT MOST 1048576: true; the input reads as it did. -/
def aliasBuildsUptoRow : OpenClaim := { program := "ytimladmphcipfaa", sum := "06eb8402a99a71550c50c4335ac57b22a5b11a205f27cc4288cd99c943433415", func := "palmer/palmerlaw16.AliasBuilds", spec := "aliasBuilds", apart := false, narrowed := true }
def AliasBuildsUptoSaid : Prop := aliasBuildsUptoRow.holds Try.pinned (OpenSpec.upto aliasBuildsSpec)

/-- 'palmerlaw16.AliasCounts', WHERE WHAT IT READS IS OF BULK AT MOST 1048576: true; the input reads as it did. -/
def aliasCountsUptoRow : OpenClaim := { program := "ytimladmphcipfaa", sum := "06eb8402a99a71550c50c4335ac57b22a5b11a205f27cc4288cd99c943433415", func := "palmer/palmerlaw16.AliasCounts", spec := "aliasCounts", apart := false, narrowed := true }
def AliasCountsUptoSaid : Prop := aliasCountsUptoRow.holds Try.pinned (OpenSpec.upto aliasCountsSpec)

/-- 'palmerlaw16.AliasOne', WHERE WHAT IT READS IS OF BULK AT MOST 1048576: true; the input reads as it did. -/
def aliasOneUptoRow : OpenClaim := { program := "ytimladmphcipfaa", sum := "06eb8402a99a71550c50c4335ac57b22a5b11a205f27cc4288cd99c943433415", func := "palmer/palmerlaw16.AliasOne", spec := "aliasOne", apart := false, narrowed := true }
def AliasOneUptoSaid : Prop := aliasOneUptoRow.holds Try.pinned (OpenSpec.upto aliasOneSpec)

/-- 'palmerlaw16.AliasMay', WHERE WHAT IT READS IS OF BULK AT MOST 1048576: true; the input reads as it did. -/
def aliasMayUptoRow : OpenClaim := { program := "ytimladmphcipfaa", sum := "06eb8402a99a71550c50c4335ac57b22a5b11a205f27cc4288cd99c943433415", func := "palmer/palmerlaw16.AliasMay", spec := "aliasMay", apart := false, narrowed := true }
def AliasMayUptoSaid : Prop := aliasMayUptoRow.holds Try.pinned (OpenSpec.upto aliasMaySpec)

/-- 'palmerlaw16.AliasPuts', WHERE WHAT IT READS IS OF BULK AT MOST 1048576: true; the input reads as it did. -/
def aliasPutsUptoRow : OpenClaim := { program := "ytimladmphcipfaa", sum := "06eb8402a99a71550c50c4335ac57b22a5b11a205f27cc4288cd99c943433415", func := "palmer/palmerlaw16.AliasPuts", spec := "aliasPuts", recurses := true, apart := false, narrowed := true }
def AliasPutsUptoSaid : Prop := aliasPutsUptoRow.holds Try.pinned (OpenSpec.upto aliasPutsSpec)

end Rows
end Go.Proofs.Ytimladmphcipfaa
