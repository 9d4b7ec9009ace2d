/-
  No cell of these rows narrows 'for every input' (looked for: loops, veiled, ifaces, maps, wideKeys, modest, calm, conditions, laid).
  DERIVED. THE GIVEN ROWS OF THIS SEAT. 5 by the template 'for every input the law returns true; each argument reads behind the call as it read before'; 0 by the template 'total and deterministic' (their statements: YtoflbfkmkalgcaaTotals.lean).
  GIVEN WITH THE SEED: the statements are not yours to turn. If you find one false, say at which input.
  Laid BY PROGRAM, IN A SANDBOX (cutbox-rows.mjs): the forced cells as the released guide's own fill.sh prints them over the translation a0b14a7393eaedd5… (all of the seat's roots in one cut). By AI agents, Wed Nov 11 2026. No macro, syntax, notation, axiom, sorry.
-/
import Derived.Test.YtoflbfkmkalgcaaChecked
import GoSem.Claim
import GoSem.ClaimJoined
import GoSem.ClaimMapViews
import Derived.JoinedTies
import Derived.KernelRfl
namespace Go.Proofs.Ytoflbfkmkalgcaa
/- THE CELL 'sum', in the pinned program and in every row, IS THE sha256 OF THE DUMP (.gsa) THAT YtoflbfkmkalgcaaProg.lean LOADS. Nothing in Lean hashes anything: it is a label: what it is worth is what the hold of that sum in a sandbox is worth. -/
noncomputable def Try.pinned : Pinned := { name := "ytoflbfkmkalgcaa", sum := "a0b14a7393eaedd5304f02079a278b58b161e986e8bdac8c7f2e9341a21ab4ec", checked := Try.checked }
namespace Rows
def none {H : Type} : Left H := { results := [], args := [] }

/-- 'palmerlaw17.PickRemaps': WHATEVER THE INPUT: true; the input reads as it did. -/
def pickRemapsSpec : ChangeSpec := { name := "pickRemaps", fn := fun _ => fun
  | [d1, d2, d3] => { results := [.lit (.bool true)], args := [d1, d2, d3] }
  | _ => none }
def pickRemapsRow : OpenClaim := { program := "ytoflbfkmkalgcaa", sum := "a0b14a7393eaedd5304f02079a278b58b161e986e8bdac8c7f2e9341a21ab4ec", func := "palmer/palmerlaw17.PickRemaps", spec := "pickRemaps", unfollowed := true, recurses := true, apart := false }
def PickRemapsSaid : Prop := pickRemapsRow.holds Try.pinned (OpenSpec.ofChange pickRemapsSpec)

/-- ITS FALSE NEIGHBOUR: 'it returns false'. Refute it at one input. -/
def pickRemapsWrong : ChangeSpec := { name := "pickRemaps", fn := fun _ => fun
  | [d1, d2, d3] => { results := [.lit (.bool false)], args := [d1, d2, d3] }
  | _ => none }
def PickRemapsWrongFalsely : Prop := pickRemapsRow.holds Try.pinned (OpenSpec.ofChange pickRemapsWrong)

/-- 'palmerlaw17.PickOneToOne': WHATEVER THE INPUT: true; the input reads as it did. -/
def pickOneToOneSpec : ChangeSpec := { name := "pickOneToOne", fn := fun _ => fun
  | [d1, d2] => { results := [.lit (.bool true)], args := [d1, d2] }
  | _ => none }
def pickOneToOneRow : OpenClaim := { program := "ytoflbfkmkalgcaa", sum := "a0b14a7393eaedd5304f02079a278b58b161e986e8bdac8c7f2e9341a21ab4ec", func := "palmer/palmerlaw17.PickOneToOne", spec := "pickOneToOne", unfollowed := true, recurses := true, apart := false }
def PickOneToOneSaid : Prop := pickOneToOneRow.holds Try.pinned (OpenSpec.ofChange pickOneToOneSpec)

/-- ITS FALSE NEIGHBOUR: 'it returns false'. Refute it at one input. -/
def pickOneToOneWrong : ChangeSpec := { name := "pickOneToOne", fn := fun _ => fun
  | [d1, d2] => { results := [.lit (.bool false)], args := [d1, d2] }
  | _ => none }
def PickOneToOneWrongFalsely : Prop := pickOneToOneRow.holds Try.pinned (OpenSpec.ofChange pickOneToOneWrong)

/-- 'palmerlaw17.PickOnto': WHATEVER THE INPUT: true; the input reads as it did. -/
def pickOntoSpec : ChangeSpec := { name := "pickOnto", fn := fun _ => fun
  | [d1, d2, d3] => { results := [.lit (.bool true)], args := [d1, d2, d3] }
  | _ => none }
def pickOntoRow : OpenClaim := { program := "ytoflbfkmkalgcaa", sum := "a0b14a7393eaedd5304f02079a278b58b161e986e8bdac8c7f2e9341a21ab4ec", func := "palmer/palmerlaw17.PickOnto", spec := "pickOnto", unfollowed := true, recurses := true, apart := false }
def PickOntoSaid : Prop := pickOntoRow.holds Try.pinned (OpenSpec.ofChange pickOntoSpec)

/-- ITS FALSE NEIGHBOUR: 'it returns false'. Refute it at one input. -/
def pickOntoWrong : ChangeSpec := { name := "pickOnto", fn := fun _ => fun
  | [d1, d2, d3] => { results := [.lit (.bool false)], args := [d1, d2, d3] }
  | _ => none }
def PickOntoWrongFalsely : Prop := pickOntoRow.holds Try.pinned (OpenSpec.ofChange pickOntoWrong)

/-- 'palmerlaw17.PickRises': WHATEVER THE INPUT: true; the input reads as it did. -/
def pickRisesSpec : ChangeSpec := { name := "pickRises", fn := fun _ => fun
  | [d1, d2, d3, d4] => { results := [.lit (.bool true)], args := [d1, d2, d3, d4] }
  | _ => none }
def pickRisesRow : OpenClaim := { program := "ytoflbfkmkalgcaa", sum := "a0b14a7393eaedd5304f02079a278b58b161e986e8bdac8c7f2e9341a21ab4ec", func := "palmer/palmerlaw17.PickRises", spec := "pickRises", unfollowed := true, recurses := true, apart := false }
def PickRisesSaid : Prop := pickRisesRow.holds Try.pinned (OpenSpec.ofChange pickRisesSpec)

/-- ITS FALSE NEIGHBOUR: 'it returns false'. Refute it at one input. -/
def pickRisesWrong : ChangeSpec := { name := "pickRises", fn := fun _ => fun
  | [d1, d2, d3, d4] => { results := [.lit (.bool false)], args := [d1, d2, d3, d4] }
  | _ => none }
def PickRisesWrongFalsely : Prop := pickRisesRow.holds Try.pinned (OpenSpec.ofChange pickRisesWrong)

/-- 'palmerlaw17.PickAll': WHATEVER THE INPUT: true; the input reads as it did. -/
def pickAllSpec : ChangeSpec := { name := "pickAll", fn := fun _ => fun
  | [d] => { results := [.lit (.bool true)], args := [d] }
  | _ => none }
def pickAllRow : OpenClaim := { program := "ytoflbfkmkalgcaa", sum := "a0b14a7393eaedd5304f02079a278b58b161e986e8bdac8c7f2e9341a21ab4ec", func := "palmer/palmerlaw17.PickAll", spec := "pickAll", apart := false }
def PickAllSaid : Prop := pickAllRow.holds Try.pinned (OpenSpec.ofChange pickAllSpec)

/-- ITS FALSE NEIGHBOUR: 'it returns false'. Refute it at one input. -/
def pickAllWrong : ChangeSpec := { name := "pickAll", fn := fun _ => fun
  | [d] => { results := [.lit (.bool false)], args := [d] }
  | _ => none }
def PickAllWrongFalsely : Prop := pickAllRow.holds Try.pinned (OpenSpec.ofChange pickAllWrong)

/- THE SECOND FORM. 'bulk': how many values and letters a reading holds, each counted each time it is reached (what is shared counts as often as it is met; a slice's spare places count too). A statement '..UptoSaid' is the law's where the arguments, and the package variables that the reading takes, are together of bulk at most 1048576: NARROWER than '..Said'. Prove '..Said' where nothing that the law and all that it calls make is longer than what came in: it says more and counts as full. Else prove '..UptoSaid'. A law counts once. -/
mutual
def uptoBulk {H : Type} : DataW H → Nat
  | .lit (.string bytes) => bytes.length + 1
  | .lit _ => 1
  | .nil => 1
  | .ptr d => uptoBulk d + 1
  | .slice elems spare => uptoBulkAll elems + uptoBulkAll spare + 1
  | .agg parts => uptoBulkAll parts + 1
  | .iface _ d => uptoBulk d + 1
  | .map entries => uptoBulkEntries entries + 1
  | .held _ => 1
def uptoBulkAll {H : Type} : List (DataW H) → Nat
  | [] => 0
  | d :: r => uptoBulk d + uptoBulkAll r
def uptoBulkEntries {H : Type} : List (Lit × DataW H) → Nat
  | [] => 0
  | x :: r => uptoBulkEntry x + uptoBulkEntries r
def uptoBulkEntry {H : Type} : Lit × DataW H → Nat
  | (.string bytes, d) => bytes.length + uptoBulk d + 1
  | (_, d) => uptoBulk d + 1
 end
def uptoSmall : (H : Type) → List (DataW H) → Bool := fun _ ds => decide (uptoBulkAll ds ≤ 1048576)
def OpenSpec.upto (s : _root_.Go.ChangeSpec) : _root_.Go.OpenSpec := { _root_.Go.OpenSpec.ofChange s with cond := some uptoSmall }

/-- 'palmerlaw17.PickRemaps', WHERE WHAT IT READS IS OF BULK AT MOST 1048576: true; the input reads as it did. -/
def pickRemapsUptoRow : OpenClaim := { program := "ytoflbfkmkalgcaa", sum := "a0b14a7393eaedd5304f02079a278b58b161e986e8bdac8c7f2e9341a21ab4ec", func := "palmer/palmerlaw17.PickRemaps", spec := "pickRemaps", unfollowed := true, recurses := true, apart := false, narrowed := true }
def PickRemapsUptoSaid : Prop := pickRemapsUptoRow.holds Try.pinned (OpenSpec.upto pickRemapsSpec)

/-- 'palmerlaw17.PickOneToOne', WHERE WHAT IT READS IS OF BULK AT MOST 1048576: true; the input reads as it did. -/
def pickOneToOneUptoRow : OpenClaim := { program := "ytoflbfkmkalgcaa", sum := "a0b14a7393eaedd5304f02079a278b58b161e986e8bdac8c7f2e9341a21ab4ec", func := "palmer/palmerlaw17.PickOneToOne", spec := "pickOneToOne", unfollowed := true, recurses := true, apart := false, narrowed := true }
def PickOneToOneUptoSaid : Prop := pickOneToOneUptoRow.holds Try.pinned (OpenSpec.upto pickOneToOneSpec)

/-- 'palmerlaw17.PickOnto', WHERE WHAT IT READS IS OF BULK AT MOST 1048576: true; the input reads as it did. -/
def pickOntoUptoRow : OpenClaim := { program := "ytoflbfkmkalgcaa", sum := "a0b14a7393eaedd5304f02079a278b58b161e986e8bdac8c7f2e9341a21ab4ec", func := "palmer/palmerlaw17.PickOnto", spec := "pickOnto", unfollowed := true, recurses := true, apart := false, narrowed := true }
def PickOntoUptoSaid : Prop := pickOntoUptoRow.holds Try.pinned (OpenSpec.upto pickOntoSpec)

/-- 'palmerlaw17.PickRises', WHERE WHAT IT READS IS OF BULK AT MOST 1048576: true; the input reads as it did. -/
def pickRisesUptoRow : OpenClaim := { program := "ytoflbfkmkalgcaa", sum := "a0b14a7393eaedd5304f02079a278b58b161e986e8bdac8c7f2e9341a21ab4ec", func := "palmer/palmerlaw17.PickRises", spec := "pickRises", unfollowed := true, recurses := true, apart := false, narrowed := true }
def PickRisesUptoSaid : Prop := pickRisesUptoRow.holds Try.pinned (OpenSpec.upto pickRisesSpec)

/-- 'palmerlaw17.PickAll', WHERE WHAT IT READS IS OF BULK AT MOST 1048576: true; the input reads as it did. -/
def pickAllUptoRow : OpenClaim := { program := "ytoflbfkmkalgcaa", sum := "a0b14a7393eaedd5304f02079a278b58b161e986e8bdac8c7f2e9341a21ab4ec", func := "palmer/palmerlaw17.PickAll", spec := "pickAll", apart := false, narrowed := true }
def PickAllUptoSaid : Prop := pickAllUptoRow.holds Try.pinned (OpenSpec.upto pickAllSpec)

end Rows
end Go.Proofs.Ytoflbfkmkalgcaa
