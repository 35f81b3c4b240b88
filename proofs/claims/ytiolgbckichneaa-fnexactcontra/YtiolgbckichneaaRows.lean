/-
  No cell of these rows narrows 'for every input' (looked for: loops, veiled, ifaces, maps, wideKeys, modest, calm, conditions, laid).
  DERIVED. THE GIVEN ROWS OF THIS SEAT. 13 by the template 'for every input the law returns true; each argument reads behind the call as it read before'; 0 by the template 'total and deterministic' (their statements: YtiolgbckichneaaTotals.lean).
  GIVEN WITH THE SEED: the statements are not yours to turn. If you find one false, say at which input.
  Laid BY PROGRAM, IN A SANDBOX (cutbox-rows.mjs): the forced cells as the released guide's own fill.sh prints them over the translation 9504bcae8c3abaf2… (all of the seat's roots in one cut). By AI agents, Wed Nov 11 2026. No macro, syntax, notation, axiom, sorry.
-/
import Derived.Test.YtiolgbckichneaaChecked
import GoSem.Claim
import GoSem.ClaimJoined
import GoSem.ClaimMapViews
import Derived.JoinedTies
import Derived.KernelRfl
namespace Go.Proofs.Ytiolgbckichneaa
/- THE CELL 'sum', in the pinned program and in every row, IS THE sha256 OF THE DUMP (.gsa) THAT YtiolgbckichneaaProg.lean LOADS. Nothing in Lean hashes anything: it is a label: what it is worth is what the hold of that sum in a sandbox is worth. -/
noncomputable def Try.pinned : Pinned := { name := "ytiolgbckichneaa", sum := "9504bcae8c3abaf2d6e6c1761886c505fb2ac29f1b394be054a8161ae8bb4ede", checked := Try.checked }
namespace Rows
def none {H : Type} : Left H := { results := [], args := [] }

/-- 'laws.FnExactStar': WHATEVER THE INPUT: true; the input reads as it did. -/
def fnExactStarSpec : ChangeSpec := { name := "fnExactStar", fn := fun _ => fun
  | [d1, d2] => { results := [.lit (.bool true)], args := [d1, d2] }
  | _ => none }
def fnExactStarRow : OpenClaim := { program := "ytiolgbckichneaa", sum := "9504bcae8c3abaf2d6e6c1761886c505fb2ac29f1b394be054a8161ae8bb4ede", func := "loop.example/g00621/laws.FnExactStar", spec := "fnExactStar", apart := false }
def FnExactStarSaid : Prop := fnExactStarRow.holds Try.pinned (OpenSpec.ofChange fnExactStarSpec)

/-- ITS FALSE NEIGHBOUR: 'it returns false'. Refute it at one input. -/
def fnExactStarWrong : ChangeSpec := { name := "fnExactStar", fn := fun _ => fun
  | [d1, d2] => { results := [.lit (.bool false)], args := [d1, d2] }
  | _ => none }
def FnExactStarWrongFalsely : Prop := fnExactStarRow.holds Try.pinned (OpenSpec.ofChange fnExactStarWrong)

/-- 'laws.FnExactSorted': WHATEVER THE INPUT: true; the input reads as it did. -/
def fnExactSortedSpec : ChangeSpec := { name := "fnExactSorted", fn := fun _ => fun
  | [d] => { results := [.lit (.bool true)], args := [d] }
  | _ => none }
def fnExactSortedRow : OpenClaim := { program := "ytiolgbckichneaa", sum := "9504bcae8c3abaf2d6e6c1761886c505fb2ac29f1b394be054a8161ae8bb4ede", func := "loop.example/g00621/laws.FnExactSorted", spec := "fnExactSorted", unfollowed := true, recurses := true, apart := false }
def FnExactSortedSaid : Prop := fnExactSortedRow.holds Try.pinned (OpenSpec.ofChange fnExactSortedSpec)

/-- ITS FALSE NEIGHBOUR: 'it returns false'. Refute it at one input. -/
def fnExactSortedWrong : ChangeSpec := { name := "fnExactSorted", fn := fun _ => fun
  | [d] => { results := [.lit (.bool false)], args := [d] }
  | _ => none }
def FnExactSortedWrongFalsely : Prop := fnExactSortedRow.holds Try.pinned (OpenSpec.ofChange fnExactSortedWrong)

/-- 'laws.FnExactWithout': WHATEVER THE INPUT: true; the input reads as it did. -/
def fnExactWithoutSpec : ChangeSpec := { name := "fnExactWithout", fn := fun _ => fun
  | [d1, d2, d3] => { results := [.lit (.bool true)], args := [d1, d2, d3] }
  | _ => none }
def fnExactWithoutRow : OpenClaim := { program := "ytiolgbckichneaa", sum := "9504bcae8c3abaf2d6e6c1761886c505fb2ac29f1b394be054a8161ae8bb4ede", func := "loop.example/g00621/laws.FnExactWithout", spec := "fnExactWithout", apart := false }
def FnExactWithoutSaid : Prop := fnExactWithoutRow.holds Try.pinned (OpenSpec.ofChange fnExactWithoutSpec)

/-- ITS FALSE NEIGHBOUR: 'it returns false'. Refute it at one input. -/
def fnExactWithoutWrong : ChangeSpec := { name := "fnExactWithout", fn := fun _ => fun
  | [d1, d2, d3] => { results := [.lit (.bool false)], args := [d1, d2, d3] }
  | _ => none }
def FnExactWithoutWrongFalsely : Prop := fnExactWithoutRow.holds Try.pinned (OpenSpec.ofChange fnExactWithoutWrong)

/-- 'laws.FnExactClasses': WHATEVER THE INPUT: true; the input reads as it did. -/
def fnExactClassesSpec : ChangeSpec := { name := "fnExactClasses", fn := fun _ => fun
  | [d] => { results := [.lit (.bool true)], args := [d] }
  | _ => none }
def fnExactClassesRow : OpenClaim := { program := "ytiolgbckichneaa", sum := "9504bcae8c3abaf2d6e6c1761886c505fb2ac29f1b394be054a8161ae8bb4ede", func := "loop.example/g00621/laws.FnExactClasses", spec := "fnExactClasses", apart := false }
def FnExactClassesSaid : Prop := fnExactClassesRow.holds Try.pinned (OpenSpec.ofChange fnExactClassesSpec)

/-- ITS FALSE NEIGHBOUR: 'it returns false'. Refute it at one input. -/
def fnExactClassesWrong : ChangeSpec := { name := "fnExactClasses", fn := fun _ => fun
  | [d] => { results := [.lit (.bool false)], args := [d] }
  | _ => none }
def FnExactClassesWrongFalsely : Prop := fnExactClassesRow.holds Try.pinned (OpenSpec.ofChange fnExactClassesWrong)

/-- 'laws.FnExactAlike': WHATEVER THE INPUT: true; the input reads as it did. -/
def fnExactAlikeSpec : ChangeSpec := { name := "fnExactAlike", fn := fun _ => fun
  | [d1, d2, d3] => { results := [.lit (.bool true)], args := [d1, d2, d3] }
  | _ => none }
def fnExactAlikeRow : OpenClaim := { program := "ytiolgbckichneaa", sum := "9504bcae8c3abaf2d6e6c1761886c505fb2ac29f1b394be054a8161ae8bb4ede", func := "loop.example/g00621/laws.FnExactAlike", spec := "fnExactAlike", apart := false }
def FnExactAlikeSaid : Prop := fnExactAlikeRow.holds Try.pinned (OpenSpec.ofChange fnExactAlikeSpec)

/-- ITS FALSE NEIGHBOUR: 'it returns false'. Refute it at one input. -/
def fnExactAlikeWrong : ChangeSpec := { name := "fnExactAlike", fn := fun _ => fun
  | [d1, d2, d3] => { results := [.lit (.bool false)], args := [d1, d2, d3] }
  | _ => none }
def FnExactAlikeWrongFalsely : Prop := fnExactAlikeRow.holds Try.pinned (OpenSpec.ofChange fnExactAlikeWrong)

/-- 'laws.FnExactUnlike': WHATEVER THE INPUT: true; the input reads as it did. -/
def fnExactUnlikeSpec : ChangeSpec := { name := "fnExactUnlike", fn := fun _ => fun
  | [d1, d2, d3] => { results := [.lit (.bool true)], args := [d1, d2, d3] }
  | _ => none }
def fnExactUnlikeRow : OpenClaim := { program := "ytiolgbckichneaa", sum := "9504bcae8c3abaf2d6e6c1761886c505fb2ac29f1b394be054a8161ae8bb4ede", func := "loop.example/g00621/laws.FnExactUnlike", spec := "fnExactUnlike", apart := false }
def FnExactUnlikeSaid : Prop := fnExactUnlikeRow.holds Try.pinned (OpenSpec.ofChange fnExactUnlikeSpec)

/-- ITS FALSE NEIGHBOUR: 'it returns false'. Refute it at one input. -/
def fnExactUnlikeWrong : ChangeSpec := { name := "fnExactUnlike", fn := fun _ => fun
  | [d1, d2, d3] => { results := [.lit (.bool false)], args := [d1, d2, d3] }
  | _ => none }
def FnExactUnlikeWrongFalsely : Prop := fnExactUnlikeRow.holds Try.pinned (OpenSpec.ofChange fnExactUnlikeWrong)

/-- 'laws.FnExactNormal': WHATEVER THE INPUT: true; the input reads as it did. -/
def fnExactNormalSpec : ChangeSpec := { name := "fnExactNormal", fn := fun _ => fun
  | [d] => { results := [.lit (.bool true)], args := [d] }
  | _ => none }
def fnExactNormalRow : OpenClaim := { program := "ytiolgbckichneaa", sum := "9504bcae8c3abaf2d6e6c1761886c505fb2ac29f1b394be054a8161ae8bb4ede", func := "loop.example/g00621/laws.FnExactNormal", spec := "fnExactNormal", apart := false }
def FnExactNormalSaid : Prop := fnExactNormalRow.holds Try.pinned (OpenSpec.ofChange fnExactNormalSpec)

/-- ITS FALSE NEIGHBOUR: 'it returns false'. Refute it at one input. -/
def fnExactNormalWrong : ChangeSpec := { name := "fnExactNormal", fn := fun _ => fun
  | [d] => { results := [.lit (.bool false)], args := [d] }
  | _ => none }
def FnExactNormalWrongFalsely : Prop := fnExactNormalRow.holds Try.pinned (OpenSpec.ofChange fnExactNormalWrong)

/-- 'laws.FnExactHeads': WHATEVER THE INPUT: true; the input reads as it did. -/
def fnExactHeadsSpec : ChangeSpec := { name := "fnExactHeads", fn := fun _ => fun
  | [d] => { results := [.lit (.bool true)], args := [d] }
  | _ => none }
def fnExactHeadsRow : OpenClaim := { program := "ytiolgbckichneaa", sum := "9504bcae8c3abaf2d6e6c1761886c505fb2ac29f1b394be054a8161ae8bb4ede", func := "loop.example/g00621/laws.FnExactHeads", spec := "fnExactHeads", apart := false }
def FnExactHeadsSaid : Prop := fnExactHeadsRow.holds Try.pinned (OpenSpec.ofChange fnExactHeadsSpec)

/-- ITS FALSE NEIGHBOUR: 'it returns false'. Refute it at one input. -/
def fnExactHeadsWrong : ChangeSpec := { name := "fnExactHeads", fn := fun _ => fun
  | [d] => { results := [.lit (.bool false)], args := [d] }
  | _ => none }
def FnExactHeadsWrongFalsely : Prop := fnExactHeadsRow.holds Try.pinned (OpenSpec.ofChange fnExactHeadsWrong)

/-- 'laws.FnExactContra': WHATEVER THE INPUT: true; the input reads as it did. -/
def fnExactContraSpec : ChangeSpec := { name := "fnExactContra", fn := fun _ => fun
  | [d] => { results := [.lit (.bool true)], args := [d] }
  | _ => none }
def fnExactContraRow : OpenClaim := { program := "ytiolgbckichneaa", sum := "9504bcae8c3abaf2d6e6c1761886c505fb2ac29f1b394be054a8161ae8bb4ede", func := "loop.example/g00621/laws.FnExactContra", spec := "fnExactContra", apart := false }
def FnExactContraSaid : Prop := fnExactContraRow.holds Try.pinned (OpenSpec.ofChange fnExactContraSpec)

/-- ITS FALSE NEIGHBOUR: 'it returns false'. Refute it at one input. -/
def fnExactContraWrong : ChangeSpec := { name := "fnExactContra", fn := fun _ => fun
  | [d] => { results := [.lit (.bool false)], args := [d] }
  | _ => none }
def FnExactContraWrongFalsely : Prop := fnExactContraRow.holds Try.pinned (OpenSpec.ofChange fnExactContraWrong)

/-- 'laws.FnExactOpened': WHATEVER THE INPUT: true; the input reads as it did. -/
def fnExactOpenedSpec : ChangeSpec := { name := "fnExactOpened", fn := fun _ => fun
  | [d] => { results := [.lit (.bool true)], args := [d] }
  | _ => none }
def fnExactOpenedRow : OpenClaim := { program := "ytiolgbckichneaa", sum := "9504bcae8c3abaf2d6e6c1761886c505fb2ac29f1b394be054a8161ae8bb4ede", func := "loop.example/g00621/laws.FnExactOpened", spec := "fnExactOpened", apart := false }
def FnExactOpenedSaid : Prop := fnExactOpenedRow.holds Try.pinned (OpenSpec.ofChange fnExactOpenedSpec)

/-- ITS FALSE NEIGHBOUR: 'it returns false'. Refute it at one input. -/
def fnExactOpenedWrong : ChangeSpec := { name := "fnExactOpened", fn := fun _ => fun
  | [d] => { results := [.lit (.bool false)], args := [d] }
  | _ => none }
def FnExactOpenedWrongFalsely : Prop := fnExactOpenedRow.holds Try.pinned (OpenSpec.ofChange fnExactOpenedWrong)

/-- 'laws.FnExactMembers': WHATEVER THE INPUT: true; the input reads as it did. -/
def fnExactMembersSpec : ChangeSpec := { name := "fnExactMembers", fn := fun _ => fun
  | [d1, d2] => { results := [.lit (.bool true)], args := [d1, d2] }
  | _ => none }
def fnExactMembersRow : OpenClaim := { program := "ytiolgbckichneaa", sum := "9504bcae8c3abaf2d6e6c1761886c505fb2ac29f1b394be054a8161ae8bb4ede", func := "loop.example/g00621/laws.FnExactMembers", spec := "fnExactMembers", apart := false }
def FnExactMembersSaid : Prop := fnExactMembersRow.holds Try.pinned (OpenSpec.ofChange fnExactMembersSpec)

/-- ITS FALSE NEIGHBOUR: 'it returns false'. Refute it at one input. -/
def fnExactMembersWrong : ChangeSpec := { name := "fnExactMembers", fn := fun _ => fun
  | [d1, d2] => { results := [.lit (.bool false)], args := [d1, d2] }
  | _ => none }
def FnExactMembersWrongFalsely : Prop := fnExactMembersRow.holds Try.pinned (OpenSpec.ofChange fnExactMembersWrong)

/-- 'laws.FnExactHeadAt': WHATEVER THE INPUT: true; the input reads as it did. -/
def fnExactHeadAtSpec : ChangeSpec := { name := "fnExactHeadAt", fn := fun _ => fun
  | [d1, d2] => { results := [.lit (.bool true)], args := [d1, d2] }
  | _ => none }
def fnExactHeadAtRow : OpenClaim := { program := "ytiolgbckichneaa", sum := "9504bcae8c3abaf2d6e6c1761886c505fb2ac29f1b394be054a8161ae8bb4ede", func := "loop.example/g00621/laws.FnExactHeadAt", spec := "fnExactHeadAt", apart := false }
def FnExactHeadAtSaid : Prop := fnExactHeadAtRow.holds Try.pinned (OpenSpec.ofChange fnExactHeadAtSpec)

/-- ITS FALSE NEIGHBOUR: 'it returns false'. Refute it at one input. -/
def fnExactHeadAtWrong : ChangeSpec := { name := "fnExactHeadAt", fn := fun _ => fun
  | [d1, d2] => { results := [.lit (.bool false)], args := [d1, d2] }
  | _ => none }
def FnExactHeadAtWrongFalsely : Prop := fnExactHeadAtRow.holds Try.pinned (OpenSpec.ofChange fnExactHeadAtWrong)

/-- 'laws.FnExactClassCount': WHATEVER THE INPUT: true; the input reads as it did. -/
def fnExactClassCountSpec : ChangeSpec := { name := "fnExactClassCount", fn := fun _ => fun
  | [d] => { results := [.lit (.bool true)], args := [d] }
  | _ => none }
def fnExactClassCountRow : OpenClaim := { program := "ytiolgbckichneaa", sum := "9504bcae8c3abaf2d6e6c1761886c505fb2ac29f1b394be054a8161ae8bb4ede", func := "loop.example/g00621/laws.FnExactClassCount", spec := "fnExactClassCount", apart := false }
def FnExactClassCountSaid : Prop := fnExactClassCountRow.holds Try.pinned (OpenSpec.ofChange fnExactClassCountSpec)

/-- ITS FALSE NEIGHBOUR: 'it returns false'. Refute it at one input. -/
def fnExactClassCountWrong : ChangeSpec := { name := "fnExactClassCount", fn := fun _ => fun
  | [d] => { results := [.lit (.bool false)], args := [d] }
  | _ => none }
def FnExactClassCountWrongFalsely : Prop := fnExactClassCountRow.holds Try.pinned (OpenSpec.ofChange fnExactClassCountWrong)

/- THE SECOND FORM. 'bulk': how many values and letters a reading holds, each counted each time it is reached (what is shared counts as often as it is met; a slice's spare places count too). A statement '..UptoSaid' is the law's where the arguments, and the package variables that the reading takes, are together of bulk at most 1048576: NARROWER than '..Said'. Prove '..Said' where nothing that the law and all that it calls make is longer than what came in: it says more and counts as full. Else prove '..UptoSaid'. A law counts once. -/
mutual
def uptoBulk {H : Type} : DataW H → Nat
  | .lit (.string bytes) => bytes.length + 1
  | .lit _ => 1
  | .nil => 1
  | .ptr d => uptoBulk d + 1
  | .slice elems spare => uptoBulkAll elems + uptoBulkAll spare + 1
  | .agg parts => uptoBulkAll parts + 1
  | .iface _ d => uptoBulk d + 1
  | .map entries => uptoBulkEntries entries + 1
  | .held _ => 1
def uptoBulkAll {H : Type} : List (DataW H) → Nat
  | [] => 0
  | d :: r => uptoBulk d + uptoBulkAll r
def uptoBulkEntries {H : Type} : List (Lit × DataW H) → Nat
  | [] => 0
  | x :: r => uptoBulkEntry x + uptoBulkEntries r
def uptoBulkEntry {H : Type} : Lit × DataW H → Nat
  | (.string bytes, d) => bytes.length + uptoBulk d + 1
  | (_, d) => uptoBulk d + 1
 end
def uptoSmall : (H : Type) → List (DataW H) → Bool := fun _ ds => decide (uptoBulkAll ds ≤ 1048576)
def OpenSpec.upto (s : _root_.Go.ChangeSpec) : _root_.Go.OpenSpec := { _root_.Go.OpenSpec.ofChange s with cond := some uptoSmall }

/-- 'laws.FnExactStar', WHERE WHAT IT READS IS OF BULK AT MOST 1048576: true; the input reads as it did. -/
def fnExactStarUptoRow : OpenClaim := { program := "ytiolgbckichneaa", sum := "9504bcae8c3abaf2d6e6c1761886c505fb2ac29f1b394be054a8161ae8bb4ede", func := "loop.example/g00621/laws.FnExactStar", spec := "fnExactStar", apart := false, narrowed := true }
def FnExactStarUptoSaid : Prop := fnExactStarUptoRow.holds Try.pinned (OpenSpec.upto fnExactStarSpec)

/-- 'laws.FnExactSorted', WHERE WHAT IT READS IS OF BULK AT MOST 1048576: true; the input reads as it did. -/
def fnExactSortedUptoRow : OpenClaim := { program := "ytiolgbckichneaa", sum := "9504bcae8c3abaf2d6e6c1761886c505fb2ac29f1b394be054a8161ae8bb4ede", func := "loop.example/g00621/laws.FnExactSorted", spec := "fnExactSorted", unfollowed := true, recurses := true, apart := false, narrowed := true }
def FnExactSortedUptoSaid : Prop := fnExactSortedUptoRow.holds Try.pinned (OpenSpec.upto fnExactSortedSpec)

/-- 'laws.FnExactWithout', WHERE WHAT IT READS IS OF BULK AT MOST 1048576: true; the input reads as it did. -/
def fnExactWithoutUptoRow : OpenClaim := { program := "ytiolgbckichneaa", sum := "9504bcae8c3abaf2d6e6c1761886c505fb2ac29f1b394be054a8161ae8bb4ede", func := "loop.example/g00621/laws.FnExactWithout", spec := "fnExactWithout", apart := false, narrowed := true }
def FnExactWithoutUptoSaid : Prop := fnExactWithoutUptoRow.holds Try.pinned (OpenSpec.upto fnExactWithoutSpec)

/-- 'laws.FnExactClasses', WHERE WHAT IT READS IS OF BULK AT MOST 1048576: true; the input reads as it did. -/
def fnExactClassesUptoRow : OpenClaim := { program := "ytiolgbckichneaa", sum := "9504bcae8c3abaf2d6e6c1761886c505fb2ac29f1b394be054a8161ae8bb4ede", func := "loop.example/g00621/laws.FnExactClasses", spec := "fnExactClasses", apart := false, narrowed := true }
def FnExactClassesUptoSaid : Prop := fnExactClassesUptoRow.holds Try.pinned (OpenSpec.upto fnExactClassesSpec)

/-- 'laws.FnExactAlike', WHERE WHAT IT READS IS OF BULK AT MOST 1048576: true; the input reads as it did. -/
def fnExactAlikeUptoRow : OpenClaim := { program := "ytiolgbckichneaa", sum := "9504bcae8c3abaf2d6e6c1761886c505fb2ac29f1b394be054a8161ae8bb4ede", func := "loop.example/g00621/laws.FnExactAlike", spec := "fnExactAlike", apart := false, narrowed := true }
def FnExactAlikeUptoSaid : Prop := fnExactAlikeUptoRow.holds Try.pinned (OpenSpec.upto fnExactAlikeSpec)

/-- 'laws.FnExactUnlike', WHERE WHAT IT READS IS OF BULK AT MOST 1048576: true; the input reads as it did. -/
def fnExactUnlikeUptoRow : OpenClaim := { program := "ytiolgbckichneaa", sum := "9504bcae8c3abaf2d6e6c1761886c505fb2ac29f1b394be054a8161ae8bb4ede", func := "loop.example/g00621/laws.FnExactUnlike", spec := "fnExactUnlike", apart := false, narrowed := true }
def FnExactUnlikeUptoSaid : Prop := fnExactUnlikeUptoRow.holds Try.pinned (OpenSpec.upto fnExactUnlikeSpec)

/-- 'laws.FnExactNormal', WHERE WHAT IT READS IS OF BULK AT MOST 1048576: true; the input reads as it did. -/
def fnExactNormalUptoRow : OpenClaim := { program := "ytiolgbckichneaa", sum := "9504bcae8c3abaf2d6e6c1761886c505fb2ac29f1b394be054a8161ae8bb4ede", func := "loop.example/g00621/laws.FnExactNormal", spec := "fnExactNormal", apart := false, narrowed := true }
def FnExactNormalUptoSaid : Prop := fnExactNormalUptoRow.holds Try.pinned (OpenSpec.upto fnExactNormalSpec)

/-- 'laws.FnExactHeads', WHERE WHAT IT READS IS OF BULK AT MOST 1048576: true; the input reads as it did. -/
def fnExactHeadsUptoRow : OpenClaim := { program := "ytiolgbckichneaa", sum := "9504bcae8c3abaf2d6e6c1761886c505fb2ac29f1b394be054a8161ae8bb4ede", func := "loop.example/g00621/laws.FnExactHeads", spec := "fnExactHeads", apart := false, narrowed := true }
def FnExactHeadsUptoSaid : Prop := fnExactHeadsUptoRow.holds Try.pinned (OpenSpec.upto fnExactHeadsSpec)

/-- 'laws.FnExactContra', WHERE WHAT IT READS IS OF BULK AT MOST 1048576: true; the input reads as it did. -/
def fnExactContraUptoRow : OpenClaim := { program := "ytiolgbckichneaa", sum := "9504bcae8c3abaf2d6e6c1761886c505fb2ac29f1b394be054a8161ae8bb4ede", func := "loop.example/g00621/laws.FnExactContra", spec := "fnExactContra", apart := false, narrowed := true }
def FnExactContraUptoSaid : Prop := fnExactContraUptoRow.holds Try.pinned (OpenSpec.upto fnExactContraSpec)

/-- 'laws.FnExactOpened', WHERE WHAT IT READS IS OF BULK AT MOST 1048576: true; the input reads as it did. -/
def fnExactOpenedUptoRow : OpenClaim := { program := "ytiolgbckichneaa", sum := "9504bcae8c3abaf2d6e6c1761886c505fb2ac29f1b394be054a8161ae8bb4ede", func := "loop.example/g00621/laws.FnExactOpened", spec := "fnExactOpened", apart := false, narrowed := true }
def FnExactOpenedUptoSaid : Prop := fnExactOpenedUptoRow.holds Try.pinned (OpenSpec.upto fnExactOpenedSpec)

/-- 'laws.FnExactMembers', WHERE WHAT IT READS IS OF BULK AT MOST 1048576: true; the input reads as it did. -/
def fnExactMembersUptoRow : OpenClaim := { program := "ytiolgbckichneaa", sum := "9504bcae8c3abaf2d6e6c1761886c505fb2ac29f1b394be054a8161ae8bb4ede", func := "loop.example/g00621/laws.FnExactMembers", spec := "fnExactMembers", apart := false, narrowed := true }
def FnExactMembersUptoSaid : Prop := fnExactMembersUptoRow.holds Try.pinned (OpenSpec.upto fnExactMembersSpec)

/-- 'laws.FnExactHeadAt', WHERE WHAT IT READS IS OF BULK AT MOST 1048576: true; the input reads as it did. -/
def fnExactHeadAtUptoRow : OpenClaim := { program := "ytiolgbckichneaa", sum := "9504bcae8c3abaf2d6e6c1761886c505fb2ac29f1b394be054a8161ae8bb4ede", func := "loop.example/g00621/laws.FnExactHeadAt", spec := "fnExactHeadAt", apart := false, narrowed := true }
def FnExactHeadAtUptoSaid : Prop := fnExactHeadAtUptoRow.holds Try.pinned (OpenSpec.upto fnExactHeadAtSpec)

/-- 'laws.FnExactClassCount', WHERE WHAT IT READS IS OF BULK AT MOST 1048576: true; the input reads as it did. -/
def fnExactClassCountUptoRow : OpenClaim := { program := "ytiolgbckichneaa", sum := "9504bcae8c3abaf2d6e6c1761886c505fb2ac29f1b394be054a8161ae8bb4ede", func := "loop.example/g00621/laws.FnExactClassCount", spec := "fnExactClassCount", apart := false, narrowed := true }
def FnExactClassCountUptoSaid : Prop := fnExactClassCountUptoRow.holds Try.pinned (OpenSpec.upto fnExactClassCountSpec)

end Rows
end Go.Proofs.Ytiolgbckichneaa
