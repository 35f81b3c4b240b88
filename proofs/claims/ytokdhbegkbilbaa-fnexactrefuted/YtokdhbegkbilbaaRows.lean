/-
  No cell of these rows narrows 'for every input' (looked for: loops, veiled, ifaces, maps, wideKeys, modest, calm, conditions, laid).
  DERIVED. THE GIVEN ROWS OF THIS SEAT. 18 by the template 'for every input the law returns true; each argument reads behind the call as it read before'; 0 by the template 'total and deterministic' (their statements: YtokdhbegkbilbaaTotals.lean).
  GIVEN WITH THE SEED: the statements are not yours to turn. If you find one false, say at which input.
  Laid BY PROGRAM, IN A SANDBOX (cutbox-rows.mjs): the forced cells as the released guide's own fill.sh prints them over the translation 40ea6f9e81ed4298… (all of the seat's roots in one cut). By AI agents, Wed Nov 11 2026. No macro, syntax, notation, axiom, sorry.
-/
import Derived.Test.YtokdhbegkbilbaaChecked
import GoSem.Claim
import GoSem.ClaimJoined
import GoSem.ClaimMapViews
import Derived.JoinedTies
import Derived.KernelRfl
namespace Go.Proofs.Ytokdhbegkbilbaa
/- THE CELL 'sum', in the pinned program and in every row, IS THE sha256 OF THE DUMP (.gsa) THAT YtokdhbegkbilbaaProg.lean LOADS. Nothing in Lean hashes anything: it is a label: what it is worth is what the hold of that sum in a sandbox is worth. -/
noncomputable def Try.pinned : Pinned := { name := "ytokdhbegkbilbaa", sum := "40ea6f9e81ed4298081fb34fe88c7e1051c31e34fa87765c7ed1364ccc21c5c3", checked := Try.checked }
namespace Rows
def none {H : Type} : Left H := { results := [], args := [] }

/-- 'laws.FnExactStar': WHATEVER THE INPUT: true; the input reads as it did. -/
def fnExactStarSpec : ChangeSpec := { name := "fnExactStar", fn := fun _ => fun
  | [d1, d2] => { results := [.lit (.bool true)], args := [d1, d2] }
  | _ => none }
def fnExactStarRow : OpenClaim := { program := "ytokdhbegkbilbaa", sum := "40ea6f9e81ed4298081fb34fe88c7e1051c31e34fa87765c7ed1364ccc21c5c3", func := "loop.example/g00621/laws.FnExactStar", spec := "fnExactStar", apart := false }
def FnExactStarSaid : Prop := fnExactStarRow.holds Try.pinned (OpenSpec.ofChange fnExactStarSpec)

/-- ITS FALSE NEIGHBOUR: 'it returns false'. Refute it at one input. -/
def fnExactStarWrong : ChangeSpec := { name := "fnExactStar", fn := fun _ => fun
  | [d1, d2] => { results := [.lit (.bool false)], args := [d1, d2] }
  | _ => none }
def FnExactStarWrongFalsely : Prop := fnExactStarRow.holds Try.pinned (OpenSpec.ofChange fnExactStarWrong)

/-- 'laws.FnExactSorted': WHATEVER THE INPUT: true; the input reads as it did. -/
def fnExactSortedSpec : ChangeSpec := { name := "fnExactSorted", fn := fun _ => fun
  | [d] => { results := [.lit (.bool true)], args := [d] }
  | _ => none }
def fnExactSortedRow : OpenClaim := { program := "ytokdhbegkbilbaa", sum := "40ea6f9e81ed4298081fb34fe88c7e1051c31e34fa87765c7ed1364ccc21c5c3", func := "loop.example/g00621/laws.FnExactSorted", spec := "fnExactSorted", unfollowed := true, recurses := true, apart := false }
def FnExactSortedSaid : Prop := fnExactSortedRow.holds Try.pinned (OpenSpec.ofChange fnExactSortedSpec)

/-- ITS FALSE NEIGHBOUR: 'it returns false'. Refute it at one input. -/
def fnExactSortedWrong : ChangeSpec := { name := "fnExactSorted", fn := fun _ => fun
  | [d] => { results := [.lit (.bool false)], args := [d] }
  | _ => none }
def FnExactSortedWrongFalsely : Prop := fnExactSortedRow.holds Try.pinned (OpenSpec.ofChange fnExactSortedWrong)

/-- 'laws.FnExactWithout': WHATEVER THE INPUT: true; the input reads as it did. -/
def fnExactWithoutSpec : ChangeSpec := { name := "fnExactWithout", fn := fun _ => fun
  | [d1, d2, d3] => { results := [.lit (.bool true)], args := [d1, d2, d3] }
  | _ => none }
def fnExactWithoutRow : OpenClaim := { program := "ytokdhbegkbilbaa", sum := "40ea6f9e81ed4298081fb34fe88c7e1051c31e34fa87765c7ed1364ccc21c5c3", func := "loop.example/g00621/laws.FnExactWithout", spec := "fnExactWithout", apart := false }
def FnExactWithoutSaid : Prop := fnExactWithoutRow.holds Try.pinned (OpenSpec.ofChange fnExactWithoutSpec)

/-- ITS FALSE NEIGHBOUR: 'it returns false'. Refute it at one input. -/
def fnExactWithoutWrong : ChangeSpec := { name := "fnExactWithout", fn := fun _ => fun
  | [d1, d2, d3] => { results := [.lit (.bool false)], args := [d1, d2, d3] }
  | _ => none }
def FnExactWithoutWrongFalsely : Prop := fnExactWithoutRow.holds Try.pinned (OpenSpec.ofChange fnExactWithoutWrong)

/-- 'laws.FnExactStateOk': WHATEVER THE INPUT: true; the input reads as it did. -/
def fnExactStateOkSpec : ChangeSpec := { name := "fnExactStateOk", fn := fun _ => fun
  | [d] => { results := [.lit (.bool true)], args := [d] }
  | _ => none }
def fnExactStateOkRow : OpenClaim := { program := "ytokdhbegkbilbaa", sum := "40ea6f9e81ed4298081fb34fe88c7e1051c31e34fa87765c7ed1364ccc21c5c3", func := "loop.example/g00621/laws.FnExactStateOk", spec := "fnExactStateOk", apart := false }
def FnExactStateOkSaid : Prop := fnExactStateOkRow.holds Try.pinned (OpenSpec.ofChange fnExactStateOkSpec)

/-- ITS FALSE NEIGHBOUR: 'it returns false'. Refute it at one input. -/
def fnExactStateOkWrong : ChangeSpec := { name := "fnExactStateOk", fn := fun _ => fun
  | [d] => { results := [.lit (.bool false)], args := [d] }
  | _ => none }
def FnExactStateOkWrongFalsely : Prop := fnExactStateOkRow.holds Try.pinned (OpenSpec.ofChange fnExactStateOkWrong)

/-- 'laws.FnExactDomain': WHATEVER THE INPUT: true; the input reads as it did. -/
def fnExactDomainSpec : ChangeSpec := { name := "fnExactDomain", fn := fun _ => fun
  | [d] => { results := [.lit (.bool true)], args := [d] }
  | _ => none }
def fnExactDomainRow : OpenClaim := { program := "ytokdhbegkbilbaa", sum := "40ea6f9e81ed4298081fb34fe88c7e1051c31e34fa87765c7ed1364ccc21c5c3", func := "loop.example/g00621/laws.FnExactDomain", spec := "fnExactDomain", unfollowed := true, recurses := true, apart := false }
def FnExactDomainSaid : Prop := fnExactDomainRow.holds Try.pinned (OpenSpec.ofChange fnExactDomainSpec)

/-- ITS FALSE NEIGHBOUR: 'it returns false'. Refute it at one input. -/
def fnExactDomainWrong : ChangeSpec := { name := "fnExactDomain", fn := fun _ => fun
  | [d] => { results := [.lit (.bool false)], args := [d] }
  | _ => none }
def FnExactDomainWrongFalsely : Prop := fnExactDomainRow.holds Try.pinned (OpenSpec.ofChange fnExactDomainWrong)

/-- 'laws.FnExactSegOf': WHATEVER THE INPUT: true; the input reads as it did. -/
def fnExactSegOfSpec : ChangeSpec := { name := "fnExactSegOf", fn := fun _ => fun
  | [d1, d2, d3] => { results := [.lit (.bool true)], args := [d1, d2, d3] }
  | _ => none }
def fnExactSegOfRow : OpenClaim := { program := "ytokdhbegkbilbaa", sum := "40ea6f9e81ed4298081fb34fe88c7e1051c31e34fa87765c7ed1364ccc21c5c3", func := "loop.example/g00621/laws.FnExactSegOf", spec := "fnExactSegOf", apart := false }
def FnExactSegOfSaid : Prop := fnExactSegOfRow.holds Try.pinned (OpenSpec.ofChange fnExactSegOfSpec)

/-- ITS FALSE NEIGHBOUR: 'it returns false'. Refute it at one input. -/
def fnExactSegOfWrong : ChangeSpec := { name := "fnExactSegOf", fn := fun _ => fun
  | [d1, d2, d3] => { results := [.lit (.bool false)], args := [d1, d2, d3] }
  | _ => none }
def FnExactSegOfWrongFalsely : Prop := fnExactSegOfRow.holds Try.pinned (OpenSpec.ofChange fnExactSegOfWrong)

/-- 'laws.FnExactHolds': WHATEVER THE INPUT: true; the input reads as it did. -/
def fnExactHoldsSpec : ChangeSpec := { name := "fnExactHolds", fn := fun _ => fun
  | [d1, d2] => { results := [.lit (.bool true)], args := [d1, d2] }
  | _ => none }
def fnExactHoldsRow : OpenClaim := { program := "ytokdhbegkbilbaa", sum := "40ea6f9e81ed4298081fb34fe88c7e1051c31e34fa87765c7ed1364ccc21c5c3", func := "loop.example/g00621/laws.FnExactHolds", spec := "fnExactHolds", apart := false }
def FnExactHoldsSaid : Prop := fnExactHoldsRow.holds Try.pinned (OpenSpec.ofChange fnExactHoldsSpec)

/-- ITS FALSE NEIGHBOUR: 'it returns false'. Refute it at one input. -/
def fnExactHoldsWrong : ChangeSpec := { name := "fnExactHolds", fn := fun _ => fun
  | [d1, d2] => { results := [.lit (.bool false)], args := [d1, d2] }
  | _ => none }
def FnExactHoldsWrongFalsely : Prop := fnExactHoldsRow.holds Try.pinned (OpenSpec.ofChange fnExactHoldsWrong)

/-- 'laws.FnExactApart': WHATEVER THE INPUT: true; the input reads as it did. -/
def fnExactApartSpec : ChangeSpec := { name := "fnExactApart", fn := fun _ => fun
  | [d1, d2] => { results := [.lit (.bool true)], args := [d1, d2] }
  | _ => none }
def fnExactApartRow : OpenClaim := { program := "ytokdhbegkbilbaa", sum := "40ea6f9e81ed4298081fb34fe88c7e1051c31e34fa87765c7ed1364ccc21c5c3", func := "loop.example/g00621/laws.FnExactApart", spec := "fnExactApart", apart := false }
def FnExactApartSaid : Prop := fnExactApartRow.holds Try.pinned (OpenSpec.ofChange fnExactApartSpec)

/-- ITS FALSE NEIGHBOUR: 'it returns false'. Refute it at one input. -/
def fnExactApartWrong : ChangeSpec := { name := "fnExactApart", fn := fun _ => fun
  | [d1, d2] => { results := [.lit (.bool false)], args := [d1, d2] }
  | _ => none }
def FnExactApartWrongFalsely : Prop := fnExactApartRow.holds Try.pinned (OpenSpec.ofChange fnExactApartWrong)

/-- 'laws.FnExactUnion': WHATEVER THE INPUT: true; the input reads as it did. -/
def fnExactUnionSpec : ChangeSpec := { name := "fnExactUnion", fn := fun _ => fun
  | [d1, d2] => { results := [.lit (.bool true)], args := [d1, d2] }
  | _ => none }
def fnExactUnionRow : OpenClaim := { program := "ytokdhbegkbilbaa", sum := "40ea6f9e81ed4298081fb34fe88c7e1051c31e34fa87765c7ed1364ccc21c5c3", func := "loop.example/g00621/laws.FnExactUnion", spec := "fnExactUnion", apart := false }
def FnExactUnionSaid : Prop := fnExactUnionRow.holds Try.pinned (OpenSpec.ofChange fnExactUnionSpec)

/-- ITS FALSE NEIGHBOUR: 'it returns false'. Refute it at one input. -/
def fnExactUnionWrong : ChangeSpec := { name := "fnExactUnion", fn := fun _ => fun
  | [d1, d2] => { results := [.lit (.bool false)], args := [d1, d2] }
  | _ => none }
def FnExactUnionWrongFalsely : Prop := fnExactUnionRow.holds Try.pinned (OpenSpec.ofChange fnExactUnionWrong)

/-- 'laws.FnExactPart': WHATEVER THE INPUT: true; the input reads as it did. -/
def fnExactPartSpec : ChangeSpec := { name := "fnExactPart", fn := fun _ => fun
  | [d1, d2] => { results := [.lit (.bool true)], args := [d1, d2] }
  | _ => none }
def fnExactPartRow : OpenClaim := { program := "ytokdhbegkbilbaa", sum := "40ea6f9e81ed4298081fb34fe88c7e1051c31e34fa87765c7ed1364ccc21c5c3", func := "loop.example/g00621/laws.FnExactPart", spec := "fnExactPart", apart := false }
def FnExactPartSaid : Prop := fnExactPartRow.holds Try.pinned (OpenSpec.ofChange fnExactPartSpec)

/-- ITS FALSE NEIGHBOUR: 'it returns false'. Refute it at one input. -/
def fnExactPartWrong : ChangeSpec := { name := "fnExactPart", fn := fun _ => fun
  | [d1, d2] => { results := [.lit (.bool false)], args := [d1, d2] }
  | _ => none }
def FnExactPartWrongFalsely : Prop := fnExactPartRow.holds Try.pinned (OpenSpec.ofChange fnExactPartWrong)

/-- 'laws.FnExactNext': WHATEVER THE INPUT: true; the input reads as it did. -/
def fnExactNextSpec : ChangeSpec := { name := "fnExactNext", fn := fun _ => fun
  | [d1, d2] => { results := [.lit (.bool true)], args := [d1, d2] }
  | _ => none }
def fnExactNextRow : OpenClaim := { program := "ytokdhbegkbilbaa", sum := "40ea6f9e81ed4298081fb34fe88c7e1051c31e34fa87765c7ed1364ccc21c5c3", func := "loop.example/g00621/laws.FnExactNext", spec := "fnExactNext", apart := false }
def FnExactNextSaid : Prop := fnExactNextRow.holds Try.pinned (OpenSpec.ofChange fnExactNextSpec)

/-- ITS FALSE NEIGHBOUR: 'it returns false'. Refute it at one input. -/
def fnExactNextWrong : ChangeSpec := { name := "fnExactNext", fn := fun _ => fun
  | [d1, d2] => { results := [.lit (.bool false)], args := [d1, d2] }
  | _ => none }
def FnExactNextWrongFalsely : Prop := fnExactNextRow.holds Try.pinned (OpenSpec.ofChange fnExactNextWrong)

/-- 'laws.FnExactReaches': WHATEVER THE INPUT: true; the input reads as it did. -/
def fnExactReachesSpec : ChangeSpec := { name := "fnExactReaches", fn := fun _ => fun
  | [d1, d2, d3] => { results := [.lit (.bool true)], args := [d1, d2, d3] }
  | _ => none }
def fnExactReachesRow : OpenClaim := { program := "ytokdhbegkbilbaa", sum := "40ea6f9e81ed4298081fb34fe88c7e1051c31e34fa87765c7ed1364ccc21c5c3", func := "loop.example/g00621/laws.FnExactReaches", spec := "fnExactReaches", apart := false }
def FnExactReachesSaid : Prop := fnExactReachesRow.holds Try.pinned (OpenSpec.ofChange fnExactReachesSpec)

/-- ITS FALSE NEIGHBOUR: 'it returns false'. Refute it at one input. -/
def fnExactReachesWrong : ChangeSpec := { name := "fnExactReaches", fn := fun _ => fun
  | [d1, d2, d3] => { results := [.lit (.bool false)], args := [d1, d2, d3] }
  | _ => none }
def FnExactReachesWrongFalsely : Prop := fnExactReachesRow.holds Try.pinned (OpenSpec.ofChange fnExactReachesWrong)

/-- 'laws.FnExactLoose': WHATEVER THE INPUT: true; the input reads as it did. -/
def fnExactLooseSpec : ChangeSpec := { name := "fnExactLoose", fn := fun _ => fun
  | [d] => { results := [.lit (.bool true)], args := [d] }
  | _ => none }
def fnExactLooseRow : OpenClaim := { program := "ytokdhbegkbilbaa", sum := "40ea6f9e81ed4298081fb34fe88c7e1051c31e34fa87765c7ed1364ccc21c5c3", func := "loop.example/g00621/laws.FnExactLoose", spec := "fnExactLoose", unfollowed := true, recurses := true, apart := false }
def FnExactLooseSaid : Prop := fnExactLooseRow.holds Try.pinned (OpenSpec.ofChange fnExactLooseSpec)

/-- ITS FALSE NEIGHBOUR: 'it returns false'. Refute it at one input. -/
def fnExactLooseWrong : ChangeSpec := { name := "fnExactLoose", fn := fun _ => fun
  | [d] => { results := [.lit (.bool false)], args := [d] }
  | _ => none }
def FnExactLooseWrongFalsely : Prop := fnExactLooseRow.holds Try.pinned (OpenSpec.ofChange fnExactLooseWrong)

/-- 'laws.FnExactGrow': WHATEVER THE INPUT: true; the input reads as it did. -/
def fnExactGrowSpec : ChangeSpec := { name := "fnExactGrow", fn := fun _ => fun
  | [d1, d2, d3] => { results := [.lit (.bool true)], args := [d1, d2, d3] }
  | _ => none }
def fnExactGrowRow : OpenClaim := { program := "ytokdhbegkbilbaa", sum := "40ea6f9e81ed4298081fb34fe88c7e1051c31e34fa87765c7ed1364ccc21c5c3", func := "loop.example/g00621/laws.FnExactGrow", spec := "fnExactGrow", apart := false }
def FnExactGrowSaid : Prop := fnExactGrowRow.holds Try.pinned (OpenSpec.ofChange fnExactGrowSpec)

/-- ITS FALSE NEIGHBOUR: 'it returns false'. Refute it at one input. -/
def fnExactGrowWrong : ChangeSpec := { name := "fnExactGrow", fn := fun _ => fun
  | [d1, d2, d3] => { results := [.lit (.bool false)], args := [d1, d2, d3] }
  | _ => none }
def FnExactGrowWrongFalsely : Prop := fnExactGrowRow.holds Try.pinned (OpenSpec.ofChange fnExactGrowWrong)

/-- 'laws.FnExactSole': WHATEVER THE INPUT: true; the input reads as it did. -/
def fnExactSoleSpec : ChangeSpec := { name := "fnExactSole", fn := fun _ => fun
  | [d1, d2] => { results := [.lit (.bool true)], args := [d1, d2] }
  | _ => none }
def fnExactSoleRow : OpenClaim := { program := "ytokdhbegkbilbaa", sum := "40ea6f9e81ed4298081fb34fe88c7e1051c31e34fa87765c7ed1364ccc21c5c3", func := "loop.example/g00621/laws.FnExactSole", spec := "fnExactSole", apart := false }
def FnExactSoleSaid : Prop := fnExactSoleRow.holds Try.pinned (OpenSpec.ofChange fnExactSoleSpec)

/-- ITS FALSE NEIGHBOUR: 'it returns false'. Refute it at one input. -/
def fnExactSoleWrong : ChangeSpec := { name := "fnExactSole", fn := fun _ => fun
  | [d1, d2] => { results := [.lit (.bool false)], args := [d1, d2] }
  | _ => none }
def FnExactSoleWrongFalsely : Prop := fnExactSoleRow.holds Try.pinned (OpenSpec.ofChange fnExactSoleWrong)

/-- 'laws.FnExactLengths': WHATEVER THE INPUT: true; the input reads as it did. -/
def fnExactLengthsSpec : ChangeSpec := { name := "fnExactLengths", fn := fun _ => fun
  | [d1, d2] => { results := [.lit (.bool true)], args := [d1, d2] }
  | _ => none }
def fnExactLengthsRow : OpenClaim := { program := "ytokdhbegkbilbaa", sum := "40ea6f9e81ed4298081fb34fe88c7e1051c31e34fa87765c7ed1364ccc21c5c3", func := "loop.example/g00621/laws.FnExactLengths", spec := "fnExactLengths", apart := false }
def FnExactLengthsSaid : Prop := fnExactLengthsRow.holds Try.pinned (OpenSpec.ofChange fnExactLengthsSpec)

/-- ITS FALSE NEIGHBOUR: 'it returns false'. Refute it at one input. -/
def fnExactLengthsWrong : ChangeSpec := { name := "fnExactLengths", fn := fun _ => fun
  | [d1, d2] => { results := [.lit (.bool false)], args := [d1, d2] }
  | _ => none }
def FnExactLengthsWrongFalsely : Prop := fnExactLengthsRow.holds Try.pinned (OpenSpec.ofChange fnExactLengthsWrong)

/-- 'laws.FnExactRefuted': WHATEVER THE INPUT: true; the input reads as it did. -/
def fnExactRefutedSpec : ChangeSpec := { name := "fnExactRefuted", fn := fun _ => fun
  | [d1, d2, d3] => { results := [.lit (.bool true)], args := [d1, d2, d3] }
  | _ => none }
def fnExactRefutedRow : OpenClaim := { program := "ytokdhbegkbilbaa", sum := "40ea6f9e81ed4298081fb34fe88c7e1051c31e34fa87765c7ed1364ccc21c5c3", func := "loop.example/g00621/laws.FnExactRefuted", spec := "fnExactRefuted", apart := false }
def FnExactRefutedSaid : Prop := fnExactRefutedRow.holds Try.pinned (OpenSpec.ofChange fnExactRefutedSpec)

/-- ITS FALSE NEIGHBOUR: 'it returns false'. Refute it at one input. -/
def fnExactRefutedWrong : ChangeSpec := { name := "fnExactRefuted", fn := fun _ => fun
  | [d1, d2, d3] => { results := [.lit (.bool false)], args := [d1, d2, d3] }
  | _ => none }
def FnExactRefutedWrongFalsely : Prop := fnExactRefutedRow.holds Try.pinned (OpenSpec.ofChange fnExactRefutedWrong)

/-- 'laws.FnExactPureOf': WHATEVER THE INPUT: true; the input reads as it did. -/
def fnExactPureOfSpec : ChangeSpec := { name := "fnExactPureOf", fn := fun _ => fun
  | [d] => { results := [.lit (.bool true)], args := [d] }
  | _ => none }
def fnExactPureOfRow : OpenClaim := { program := "ytokdhbegkbilbaa", sum := "40ea6f9e81ed4298081fb34fe88c7e1051c31e34fa87765c7ed1364ccc21c5c3", func := "loop.example/g00621/laws.FnExactPureOf", spec := "fnExactPureOf", apart := false }
def FnExactPureOfSaid : Prop := fnExactPureOfRow.holds Try.pinned (OpenSpec.ofChange fnExactPureOfSpec)

/-- ITS FALSE NEIGHBOUR: 'it returns false'. Refute it at one input. -/
def fnExactPureOfWrong : ChangeSpec := { name := "fnExactPureOf", fn := fun _ => fun
  | [d] => { results := [.lit (.bool false)], args := [d] }
  | _ => none }
def FnExactPureOfWrongFalsely : Prop := fnExactPureOfRow.holds Try.pinned (OpenSpec.ofChange fnExactPureOfWrong)

/- THE SECOND FORM. 'bulk': how many values and letters a reading holds, each counted each time it is reached (what is shared counts as often as it is met; a slice's spare places count too). A statement '..UptoSaid' is the law's where the arguments, and the package variables that the reading takes, are together of bulk at most 1048576: NARROWER than '..Said'. Prove '..Said' where nothing that the law and all that it calls make is longer than what came in: it says more and counts as full. Else prove '..UptoSaid'. A law counts once. -/
mutual
def uptoBulk {H : Type} : DataW H → Nat
  | .lit (.string bytes) => bytes.length + 1
  | .lit _ => 1
  | .nil => 1
  | .ptr d => uptoBulk d + 1
  | .slice elems spare => uptoBulkAll elems + uptoBulkAll spare + 1
  | .agg parts => uptoBulkAll parts + 1
  | .iface _ d => uptoBulk d + 1
  | .map entries => uptoBulkEntries entries + 1
  | .held _ => 1
def uptoBulkAll {H : Type} : List (DataW H) → Nat
  | [] => 0
  | d :: r => uptoBulk d + uptoBulkAll r
def uptoBulkEntries {H : Type} : List (Lit × DataW H) → Nat
  | [] => 0
  | x :: r => uptoBulkEntry x + uptoBulkEntries r
def uptoBulkEntry {H : Type} : Lit × DataW H → Nat
  | (.string bytes, d) => bytes.length + uptoBulk d + 1
  | (_, d) => uptoBulk d + 1
 end
def uptoSmall : (H : Type) → List (DataW H) → Bool := fun _ ds => decide (uptoBulkAll ds ≤ 1048576)
def OpenSpec.upto (s : _root_.Go.ChangeSpec) : _root_.Go.OpenSpec := { _root_.Go.OpenSpec.ofChange s with cond := some uptoSmall }

/-- 'laws.FnExactStar', WHERE WHAT IT READS IS OF BULK AT MOST 1048576: true; the input reads as it did. -/
def fnExactStarUptoRow : OpenClaim := { program := "ytokdhbegkbilbaa", sum := "40ea6f9e81ed4298081fb34fe88c7e1051c31e34fa87765c7ed1364ccc21c5c3", func := "loop.example/g00621/laws.FnExactStar", spec := "fnExactStar", apart := false, narrowed := true }
def FnExactStarUptoSaid : Prop := fnExactStarUptoRow.holds Try.pinned (OpenSpec.upto fnExactStarSpec)

/-- 'laws.FnExactSorted', WHERE WHAT IT READS IS OF BULK AT MOST 1048576: true; the input reads as it did. -/
def fnExactSortedUptoRow : OpenClaim := { program := "ytokdhbegkbilbaa", sum := "40ea6f9e81ed4298081fb34fe88c7e1051c31e34fa87765c7ed1364ccc21c5c3", func := "loop.example/g00621/laws.FnExactSorted", spec := "fnExactSorted", unfollowed := true, recurses := true, apart := false, narrowed := true }
def FnExactSortedUptoSaid : Prop := fnExactSortedUptoRow.holds Try.pinned (OpenSpec.upto fnExactSortedSpec)

/-- 'laws.FnExactWithout', WHERE WHAT IT READS IS OF BULK AT MOST 1048576: true; the input reads as it did. -/
def fnExactWithoutUptoRow : OpenClaim := { program := "ytokdhbegkbilbaa", sum := "40ea6f9e81ed4298081fb34fe88c7e1051c31e34fa87765c7ed1364ccc21c5c3", func := "loop.example/g00621/laws.FnExactWithout", spec := "fnExactWithout", apart := false, narrowed := true }
def FnExactWithoutUptoSaid : Prop := fnExactWithoutUptoRow.holds Try.pinned (OpenSpec.upto fnExactWithoutSpec)

/-- 'laws.FnExactStateOk', WHERE WHAT IT READS IS OF BULK AT MOST 1048576: true; the input reads as it did. -/
def fnExactStateOkUptoRow : OpenClaim := { program := "ytokdhbegkbilbaa", sum := "40ea6f9e81ed4298081fb34fe88c7e1051c31e34fa87765c7ed1364ccc21c5c3", func := "loop.example/g00621/laws.FnExactStateOk", spec := "fnExactStateOk", apart := false, narrowed := true }
def FnExactStateOkUptoSaid : Prop := fnExactStateOkUptoRow.holds Try.pinned (OpenSpec.upto fnExactStateOkSpec)

/-- 'laws.FnExactDomain', WHERE WHAT IT READS IS OF BULK AT MOST 1048576: true; the input reads as it did. -/
def fnExactDomainUptoRow : OpenClaim := { program := "ytokdhbegkbilbaa", sum := "40ea6f9e81ed4298081fb34fe88c7e1051c31e34fa87765c7ed1364ccc21c5c3", func := "loop.example/g00621/laws.FnExactDomain", spec := "fnExactDomain", unfollowed := true, recurses := true, apart := false, narrowed := true }
def FnExactDomainUptoSaid : Prop := fnExactDomainUptoRow.holds Try.pinned (OpenSpec.upto fnExactDomainSpec)

/-- 'laws.FnExactSegOf', WHERE WHAT IT READS IS OF BULK AT MOST 1048576: true; the input reads as it did. -/
def fnExactSegOfUptoRow : OpenClaim := { program := "ytokdhbegkbilbaa", sum := "40ea6f9e81ed4298081fb34fe88c7e1051c31e34fa87765c7ed1364ccc21c5c3", func := "loop.example/g00621/laws.FnExactSegOf", spec := "fnExactSegOf", apart := false, narrowed := true }
def FnExactSegOfUptoSaid : Prop := fnExactSegOfUptoRow.holds Try.pinned (OpenSpec.upto fnExactSegOfSpec)

/-- 'laws.FnExactHolds', WHERE WHAT IT READS IS OF BULK AT MOST 1048576: true; the input reads as it did. -/
def fnExactHoldsUptoRow : OpenClaim := { program := "ytokdhbegkbilbaa", sum := "40ea6f9e81ed4298081fb34fe88c7e1051c31e34fa87765c7ed1364ccc21c5c3", func := "loop.example/g00621/laws.FnExactHolds", spec := "fnExactHolds", apart := false, narrowed := true }
def FnExactHoldsUptoSaid : Prop := fnExactHoldsUptoRow.holds Try.pinned (OpenSpec.upto fnExactHoldsSpec)

/-- 'laws.FnExactApart', WHERE WHAT IT READS IS OF BULK AT MOST 1048576: true; the input reads as it did. -/
def fnExactApartUptoRow : OpenClaim := { program := "ytokdhbegkbilbaa", sum := "40ea6f9e81ed4298081fb34fe88c7e1051c31e34fa87765c7ed1364ccc21c5c3", func := "loop.example/g00621/laws.FnExactApart", spec := "fnExactApart", apart := false, narrowed := true }
def FnExactApartUptoSaid : Prop := fnExactApartUptoRow.holds Try.pinned (OpenSpec.upto fnExactApartSpec)

/-- 'laws.FnExactUnion', WHERE WHAT IT READS IS OF BULK AT MOST 1048576: true; the input reads as it did. -/
def fnExactUnionUptoRow : OpenClaim := { program := "ytokdhbegkbilbaa", sum := "40ea6f9e81ed4298081fb34fe88c7e1051c31e34fa87765c7ed1364ccc21c5c3", func := "loop.example/g00621/laws.FnExactUnion", spec := "fnExactUnion", apart := false, narrowed := true }
def FnExactUnionUptoSaid : Prop := fnExactUnionUptoRow.holds Try.pinned (OpenSpec.upto fnExactUnionSpec)

/-- 'laws.FnExactPart', WHERE WHAT IT READS IS OF BULK AT MOST 1048576: true; the input reads as it did. -/
def fnExactPartUptoRow : OpenClaim := { program := "ytokdhbegkbilbaa", sum := "40ea6f9e81ed4298081fb34fe88c7e1051c31e34fa87765c7ed1364ccc21c5c3", func := "loop.example/g00621/laws.FnExactPart", spec := "fnExactPart", apart := false, narrowed := true }
def FnExactPartUptoSaid : Prop := fnExactPartUptoRow.holds Try.pinned (OpenSpec.upto fnExactPartSpec)

/-- 'laws.FnExactNext', WHERE WHAT IT READS IS OF BULK AT MOST 1048576: true; the input reads as it did. -/
def fnExactNextUptoRow : OpenClaim := { program := "ytokdhbegkbilbaa", sum := "40ea6f9e81ed4298081fb34fe88c7e1051c31e34fa87765c7ed1364ccc21c5c3", func := "loop.example/g00621/laws.FnExactNext", spec := "fnExactNext", apart := false, narrowed := true }
def FnExactNextUptoSaid : Prop := fnExactNextUptoRow.holds Try.pinned (OpenSpec.upto fnExactNextSpec)

/-- 'laws.FnExactReaches', WHERE WHAT IT READS IS OF BULK AT MOST 1048576: true; the input reads as it did. -/
def fnExactReachesUptoRow : OpenClaim := { program := "ytokdhbegkbilbaa", sum := "40ea6f9e81ed4298081fb34fe88c7e1051c31e34fa87765c7ed1364ccc21c5c3", func := "loop.example/g00621/laws.FnExactReaches", spec := "fnExactReaches", apart := false, narrowed := true }
def FnExactReachesUptoSaid : Prop := fnExactReachesUptoRow.holds Try.pinned (OpenSpec.upto fnExactReachesSpec)

/-- 'laws.FnExactLoose', WHERE WHAT IT READS IS OF BULK AT MOST 1048576: true; the input reads as it did. -/
def fnExactLooseUptoRow : OpenClaim := { program := "ytokdhbegkbilbaa", sum := "40ea6f9e81ed4298081fb34fe88c7e1051c31e34fa87765c7ed1364ccc21c5c3", func := "loop.example/g00621/laws.FnExactLoose", spec := "fnExactLoose", unfollowed := true, recurses := true, apart := false, narrowed := true }
def FnExactLooseUptoSaid : Prop := fnExactLooseUptoRow.holds Try.pinned (OpenSpec.upto fnExactLooseSpec)

/-- 'laws.FnExactGrow', WHERE WHAT IT READS IS OF BULK AT MOST 1048576: true; the input reads as it did. -/
def fnExactGrowUptoRow : OpenClaim := { program := "ytokdhbegkbilbaa", sum := "40ea6f9e81ed4298081fb34fe88c7e1051c31e34fa87765c7ed1364ccc21c5c3", func := "loop.example/g00621/laws.FnExactGrow", spec := "fnExactGrow", apart := false, narrowed := true }
def FnExactGrowUptoSaid : Prop := fnExactGrowUptoRow.holds Try.pinned (OpenSpec.upto fnExactGrowSpec)

/-- 'laws.FnExactSole', WHERE WHAT IT READS IS OF BULK AT MOST 1048576: true; the input reads as it did. -/
def fnExactSoleUptoRow : OpenClaim := { program := "ytokdhbegkbilbaa", sum := "40ea6f9e81ed4298081fb34fe88c7e1051c31e34fa87765c7ed1364ccc21c5c3", func := "loop.example/g00621/laws.FnExactSole", spec := "fnExactSole", apart := false, narrowed := true }
def FnExactSoleUptoSaid : Prop := fnExactSoleUptoRow.holds Try.pinned (OpenSpec.upto fnExactSoleSpec)

/-- 'laws.FnExactLengths', WHERE WHAT IT READS IS OF BULK AT MOST 1048576: true; the input reads as it did. -/
def fnExactLengthsUptoRow : OpenClaim := { program := "ytokdhbegkbilbaa", sum := "40ea6f9e81ed4298081fb34fe88c7e1051c31e34fa87765c7ed1364ccc21c5c3", func := "loop.example/g00621/laws.FnExactLengths", spec := "fnExactLengths", apart := false, narrowed := true }
def FnExactLengthsUptoSaid : Prop := fnExactLengthsUptoRow.holds Try.pinned (OpenSpec.upto fnExactLengthsSpec)

/-- 'laws.FnExactRefuted', WHERE WHAT IT READS IS OF BULK AT MOST 1048576: true; the input reads as it did. -/
def fnExactRefutedUptoRow : OpenClaim := { program := "ytokdhbegkbilbaa", sum := "40ea6f9e81ed4298081fb34fe88c7e1051c31e34fa87765c7ed1364ccc21c5c3", func := "loop.example/g00621/laws.FnExactRefuted", spec := "fnExactRefuted", apart := false, narrowed := true }
def FnExactRefutedUptoSaid : Prop := fnExactRefutedUptoRow.holds Try.pinned (OpenSpec.upto fnExactRefutedSpec)

/-- 'laws.FnExactPureOf', WHERE WHAT IT READS IS OF BULK AT MOST 1048576: true; the input reads as it did. -/
def fnExactPureOfUptoRow : OpenClaim := { program := "ytokdhbegkbilbaa", sum := "40ea6f9e81ed4298081fb34fe88c7e1051c31e34fa87765c7ed1364ccc21c5c3", func := "loop.example/g00621/laws.FnExactPureOf", spec := "fnExactPureOf", apart := false, narrowed := true }
def FnExactPureOfUptoSaid : Prop := fnExactPureOfUptoRow.holds Try.pinned (OpenSpec.upto fnExactPureOfSpec)

end Rows
end Go.Proofs.Ytokdhbegkbilbaa
