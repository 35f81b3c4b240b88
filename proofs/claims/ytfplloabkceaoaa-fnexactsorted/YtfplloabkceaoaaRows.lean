/-
  No cell of these rows narrows 'for every input' (looked for: loops, veiled, ifaces, maps, wideKeys, modest, calm, conditions, laid).
  DERIVED. THE GIVEN ROWS OF THIS SEAT. 36 by the template 'for every input the law returns true; each argument reads behind the call as it read before'; 0 by the template 'total and deterministic' (their statements: YtfplloabkceaoaaTotals.lean).
  GIVEN WITH THE SEED: the statements are not yours to turn. If you find one false, say at which input.
  Laid BY PROGRAM, IN A SANDBOX (cutbox-rows.mjs): the forced cells as the released guide's own fill.sh prints them over the translation 86f24aed9b791515… (all of the seat's roots in one cut). By AI agents, Wed Nov 11 2026. No macro, syntax, notation, axiom, sorry.
-/
import Derived.Test.YtfplloabkceaoaaChecked
import GoSem.Claim
import GoSem.ClaimJoined
import GoSem.ClaimMapViews
import Derived.JoinedTies
import Derived.KernelRfl
namespace Go.Proofs.Ytfplloabkceaoaa
/- THE CELL 'sum', in the pinned program and in every row, IS THE sha256 OF THE DUMP (.gsa) THAT YtfplloabkceaoaaProg.lean LOADS. Nothing in Lean hashes anything: it is a label: what it is worth is what the hold of that sum in a sandbox is worth. -/
noncomputable def Try.pinned : Pinned := { name := "ytfplloabkceaoaa", sum := "86f24aed9b79151513df433d4ece875924fc46cdeb5bb3883f99319cef019fd2", checked := Try.checked }
namespace Rows
def none {H : Type} : Left H := { results := [], args := [] }

/-- 'laws.FnExactSubst': WHATEVER THE INPUT: true; the input reads as it did. -/
def fnExactSubstSpec : ChangeSpec := { name := "fnExactSubst", fn := fun _ => fun
  | [d1, d2, d3] => { results := [.lit (.bool true)], args := [d1, d2, d3] }
  | _ => none }
def fnExactSubstRow : OpenClaim := { program := "ytfplloabkceaoaa", sum := "86f24aed9b79151513df433d4ece875924fc46cdeb5bb3883f99319cef019fd2", func := "loop.example/g00621/laws.FnExactSubst", spec := "fnExactSubst", apart := false }
def FnExactSubstSaid : Prop := fnExactSubstRow.holds Try.pinned (OpenSpec.ofChange fnExactSubstSpec)

/-- ITS FALSE NEIGHBOUR: 'it returns false'. Refute it at one input. -/
def fnExactSubstWrong : ChangeSpec := { name := "fnExactSubst", fn := fun _ => fun
  | [d1, d2, d3] => { results := [.lit (.bool false)], args := [d1, d2, d3] }
  | _ => none }
def FnExactSubstWrongFalsely : Prop := fnExactSubstRow.holds Try.pinned (OpenSpec.ofChange fnExactSubstWrong)

/-- 'laws.FnExactStar': WHATEVER THE INPUT: true; the input reads as it did. -/
def fnExactStarSpec : ChangeSpec := { name := "fnExactStar", fn := fun _ => fun
  | [d1, d2] => { results := [.lit (.bool true)], args := [d1, d2] }
  | _ => none }
def fnExactStarRow : OpenClaim := { program := "ytfplloabkceaoaa", sum := "86f24aed9b79151513df433d4ece875924fc46cdeb5bb3883f99319cef019fd2", func := "loop.example/g00621/laws.FnExactStar", spec := "fnExactStar", apart := false }
def FnExactStarSaid : Prop := fnExactStarRow.holds Try.pinned (OpenSpec.ofChange fnExactStarSpec)

/-- ITS FALSE NEIGHBOUR: 'it returns false'. Refute it at one input. -/
def fnExactStarWrong : ChangeSpec := { name := "fnExactStar", fn := fun _ => fun
  | [d1, d2] => { results := [.lit (.bool false)], args := [d1, d2] }
  | _ => none }
def FnExactStarWrongFalsely : Prop := fnExactStarRow.holds Try.pinned (OpenSpec.ofChange fnExactStarWrong)

/-- 'laws.FnExactFresh': WHATEVER THE INPUT: true; the input reads as it did. -/
def fnExactFreshSpec : ChangeSpec := { name := "fnExactFresh", fn := fun _ => fun
  | [d] => { results := [.lit (.bool true)], args := [d] }
  | _ => none }
def fnExactFreshRow : OpenClaim := { program := "ytfplloabkceaoaa", sum := "86f24aed9b79151513df433d4ece875924fc46cdeb5bb3883f99319cef019fd2", func := "loop.example/g00621/laws.FnExactFresh", spec := "fnExactFresh", apart := false }
def FnExactFreshSaid : Prop := fnExactFreshRow.holds Try.pinned (OpenSpec.ofChange fnExactFreshSpec)

/-- ITS FALSE NEIGHBOUR: 'it returns false'. Refute it at one input. -/
def fnExactFreshWrong : ChangeSpec := { name := "fnExactFresh", fn := fun _ => fun
  | [d] => { results := [.lit (.bool false)], args := [d] }
  | _ => none }
def FnExactFreshWrongFalsely : Prop := fnExactFreshRow.holds Try.pinned (OpenSpec.ofChange fnExactFreshWrong)

/-- 'laws.FnExactPairsOf': WHATEVER THE INPUT: true; the input reads as it did. -/
def fnExactPairsOfSpec : ChangeSpec := { name := "fnExactPairsOf", fn := fun _ => fun
  | [d1, d2] => { results := [.lit (.bool true)], args := [d1, d2] }
  | _ => none }
def fnExactPairsOfRow : OpenClaim := { program := "ytfplloabkceaoaa", sum := "86f24aed9b79151513df433d4ece875924fc46cdeb5bb3883f99319cef019fd2", func := "loop.example/g00621/laws.FnExactPairsOf", spec := "fnExactPairsOf", apart := false }
def FnExactPairsOfSaid : Prop := fnExactPairsOfRow.holds Try.pinned (OpenSpec.ofChange fnExactPairsOfSpec)

/-- ITS FALSE NEIGHBOUR: 'it returns false'. Refute it at one input. -/
def fnExactPairsOfWrong : ChangeSpec := { name := "fnExactPairsOf", fn := fun _ => fun
  | [d1, d2] => { results := [.lit (.bool false)], args := [d1, d2] }
  | _ => none }
def FnExactPairsOfWrongFalsely : Prop := fnExactPairsOfRow.holds Try.pinned (OpenSpec.ofChange fnExactPairsOfWrong)

/-- 'laws.FnExactSorted': WHATEVER THE INPUT: true; the input reads as it did. -/
def fnExactSortedSpec : ChangeSpec := { name := "fnExactSorted", fn := fun _ => fun
  | [d] => { results := [.lit (.bool true)], args := [d] }
  | _ => none }
def fnExactSortedRow : OpenClaim := { program := "ytfplloabkceaoaa", sum := "86f24aed9b79151513df433d4ece875924fc46cdeb5bb3883f99319cef019fd2", func := "loop.example/g00621/laws.FnExactSorted", spec := "fnExactSorted", unfollowed := true, recurses := true, apart := false }
def FnExactSortedSaid : Prop := fnExactSortedRow.holds Try.pinned (OpenSpec.ofChange fnExactSortedSpec)

/-- ITS FALSE NEIGHBOUR: 'it returns false'. Refute it at one input. -/
def fnExactSortedWrong : ChangeSpec := { name := "fnExactSorted", fn := fun _ => fun
  | [d] => { results := [.lit (.bool false)], args := [d] }
  | _ => none }
def FnExactSortedWrongFalsely : Prop := fnExactSortedRow.holds Try.pinned (OpenSpec.ofChange fnExactSortedWrong)

/-- 'laws.FnExactWithout': WHATEVER THE INPUT: true; the input reads as it did. -/
def fnExactWithoutSpec : ChangeSpec := { name := "fnExactWithout", fn := fun _ => fun
  | [d1, d2, d3] => { results := [.lit (.bool true)], args := [d1, d2, d3] }
  | _ => none }
def fnExactWithoutRow : OpenClaim := { program := "ytfplloabkceaoaa", sum := "86f24aed9b79151513df433d4ece875924fc46cdeb5bb3883f99319cef019fd2", func := "loop.example/g00621/laws.FnExactWithout", spec := "fnExactWithout", apart := false }
def FnExactWithoutSaid : Prop := fnExactWithoutRow.holds Try.pinned (OpenSpec.ofChange fnExactWithoutSpec)

/-- ITS FALSE NEIGHBOUR: 'it returns false'. Refute it at one input. -/
def fnExactWithoutWrong : ChangeSpec := { name := "fnExactWithout", fn := fun _ => fun
  | [d1, d2, d3] => { results := [.lit (.bool false)], args := [d1, d2, d3] }
  | _ => none }
def FnExactWithoutWrongFalsely : Prop := fnExactWithoutRow.holds Try.pinned (OpenSpec.ofChange fnExactWithoutWrong)

/-- 'laws.FnExactClasses': WHATEVER THE INPUT: true; the input reads as it did. -/
def fnExactClassesSpec : ChangeSpec := { name := "fnExactClasses", fn := fun _ => fun
  | [d] => { results := [.lit (.bool true)], args := [d] }
  | _ => none }
def fnExactClassesRow : OpenClaim := { program := "ytfplloabkceaoaa", sum := "86f24aed9b79151513df433d4ece875924fc46cdeb5bb3883f99319cef019fd2", func := "loop.example/g00621/laws.FnExactClasses", spec := "fnExactClasses", apart := false }
def FnExactClassesSaid : Prop := fnExactClassesRow.holds Try.pinned (OpenSpec.ofChange fnExactClassesSpec)

/-- ITS FALSE NEIGHBOUR: 'it returns false'. Refute it at one input. -/
def fnExactClassesWrong : ChangeSpec := { name := "fnExactClasses", fn := fun _ => fun
  | [d] => { results := [.lit (.bool false)], args := [d] }
  | _ => none }
def FnExactClassesWrongFalsely : Prop := fnExactClassesRow.holds Try.pinned (OpenSpec.ofChange fnExactClassesWrong)

/-- 'laws.FnExactAlike': WHATEVER THE INPUT: true; the input reads as it did. -/
def fnExactAlikeSpec : ChangeSpec := { name := "fnExactAlike", fn := fun _ => fun
  | [d1, d2, d3] => { results := [.lit (.bool true)], args := [d1, d2, d3] }
  | _ => none }
def fnExactAlikeRow : OpenClaim := { program := "ytfplloabkceaoaa", sum := "86f24aed9b79151513df433d4ece875924fc46cdeb5bb3883f99319cef019fd2", func := "loop.example/g00621/laws.FnExactAlike", spec := "fnExactAlike", apart := false }
def FnExactAlikeSaid : Prop := fnExactAlikeRow.holds Try.pinned (OpenSpec.ofChange fnExactAlikeSpec)

/-- ITS FALSE NEIGHBOUR: 'it returns false'. Refute it at one input. -/
def fnExactAlikeWrong : ChangeSpec := { name := "fnExactAlike", fn := fun _ => fun
  | [d1, d2, d3] => { results := [.lit (.bool false)], args := [d1, d2, d3] }
  | _ => none }
def FnExactAlikeWrongFalsely : Prop := fnExactAlikeRow.holds Try.pinned (OpenSpec.ofChange fnExactAlikeWrong)

/-- 'laws.FnExactUnlike': WHATEVER THE INPUT: true; the input reads as it did. -/
def fnExactUnlikeSpec : ChangeSpec := { name := "fnExactUnlike", fn := fun _ => fun
  | [d1, d2, d3] => { results := [.lit (.bool true)], args := [d1, d2, d3] }
  | _ => none }
def fnExactUnlikeRow : OpenClaim := { program := "ytfplloabkceaoaa", sum := "86f24aed9b79151513df433d4ece875924fc46cdeb5bb3883f99319cef019fd2", func := "loop.example/g00621/laws.FnExactUnlike", spec := "fnExactUnlike", apart := false }
def FnExactUnlikeSaid : Prop := fnExactUnlikeRow.holds Try.pinned (OpenSpec.ofChange fnExactUnlikeSpec)

/-- ITS FALSE NEIGHBOUR: 'it returns false'. Refute it at one input. -/
def fnExactUnlikeWrong : ChangeSpec := { name := "fnExactUnlike", fn := fun _ => fun
  | [d1, d2, d3] => { results := [.lit (.bool false)], args := [d1, d2, d3] }
  | _ => none }
def FnExactUnlikeWrongFalsely : Prop := fnExactUnlikeRow.holds Try.pinned (OpenSpec.ofChange fnExactUnlikeWrong)

/-- 'laws.FnExactNormal': WHATEVER THE INPUT: true; the input reads as it did. -/
def fnExactNormalSpec : ChangeSpec := { name := "fnExactNormal", fn := fun _ => fun
  | [d] => { results := [.lit (.bool true)], args := [d] }
  | _ => none }
def fnExactNormalRow : OpenClaim := { program := "ytfplloabkceaoaa", sum := "86f24aed9b79151513df433d4ece875924fc46cdeb5bb3883f99319cef019fd2", func := "loop.example/g00621/laws.FnExactNormal", spec := "fnExactNormal", apart := false }
def FnExactNormalSaid : Prop := fnExactNormalRow.holds Try.pinned (OpenSpec.ofChange fnExactNormalSpec)

/-- ITS FALSE NEIGHBOUR: 'it returns false'. Refute it at one input. -/
def fnExactNormalWrong : ChangeSpec := { name := "fnExactNormal", fn := fun _ => fun
  | [d] => { results := [.lit (.bool false)], args := [d] }
  | _ => none }
def FnExactNormalWrongFalsely : Prop := fnExactNormalRow.holds Try.pinned (OpenSpec.ofChange fnExactNormalWrong)

/-- 'laws.FnExactHeads': WHATEVER THE INPUT: true; the input reads as it did. -/
def fnExactHeadsSpec : ChangeSpec := { name := "fnExactHeads", fn := fun _ => fun
  | [d] => { results := [.lit (.bool true)], args := [d] }
  | _ => none }
def fnExactHeadsRow : OpenClaim := { program := "ytfplloabkceaoaa", sum := "86f24aed9b79151513df433d4ece875924fc46cdeb5bb3883f99319cef019fd2", func := "loop.example/g00621/laws.FnExactHeads", spec := "fnExactHeads", apart := false }
def FnExactHeadsSaid : Prop := fnExactHeadsRow.holds Try.pinned (OpenSpec.ofChange fnExactHeadsSpec)

/-- ITS FALSE NEIGHBOUR: 'it returns false'. Refute it at one input. -/
def fnExactHeadsWrong : ChangeSpec := { name := "fnExactHeads", fn := fun _ => fun
  | [d] => { results := [.lit (.bool false)], args := [d] }
  | _ => none }
def FnExactHeadsWrongFalsely : Prop := fnExactHeadsRow.holds Try.pinned (OpenSpec.ofChange fnExactHeadsWrong)

/-- 'laws.FnExactContra': WHATEVER THE INPUT: true; the input reads as it did. -/
def fnExactContraSpec : ChangeSpec := { name := "fnExactContra", fn := fun _ => fun
  | [d] => { results := [.lit (.bool true)], args := [d] }
  | _ => none }
def fnExactContraRow : OpenClaim := { program := "ytfplloabkceaoaa", sum := "86f24aed9b79151513df433d4ece875924fc46cdeb5bb3883f99319cef019fd2", func := "loop.example/g00621/laws.FnExactContra", spec := "fnExactContra", apart := false }
def FnExactContraSaid : Prop := fnExactContraRow.holds Try.pinned (OpenSpec.ofChange fnExactContraSpec)

/-- ITS FALSE NEIGHBOUR: 'it returns false'. Refute it at one input. -/
def fnExactContraWrong : ChangeSpec := { name := "fnExactContra", fn := fun _ => fun
  | [d] => { results := [.lit (.bool false)], args := [d] }
  | _ => none }
def FnExactContraWrongFalsely : Prop := fnExactContraRow.holds Try.pinned (OpenSpec.ofChange fnExactContraWrong)

/-- 'laws.FnExactOpened': WHATEVER THE INPUT: true; the input reads as it did. -/
def fnExactOpenedSpec : ChangeSpec := { name := "fnExactOpened", fn := fun _ => fun
  | [d] => { results := [.lit (.bool true)], args := [d] }
  | _ => none }
def fnExactOpenedRow : OpenClaim := { program := "ytfplloabkceaoaa", sum := "86f24aed9b79151513df433d4ece875924fc46cdeb5bb3883f99319cef019fd2", func := "loop.example/g00621/laws.FnExactOpened", spec := "fnExactOpened", apart := false }
def FnExactOpenedSaid : Prop := fnExactOpenedRow.holds Try.pinned (OpenSpec.ofChange fnExactOpenedSpec)

/-- ITS FALSE NEIGHBOUR: 'it returns false'. Refute it at one input. -/
def fnExactOpenedWrong : ChangeSpec := { name := "fnExactOpened", fn := fun _ => fun
  | [d] => { results := [.lit (.bool false)], args := [d] }
  | _ => none }
def FnExactOpenedWrongFalsely : Prop := fnExactOpenedRow.holds Try.pinned (OpenSpec.ofChange fnExactOpenedWrong)

/-- 'laws.FnExactMembers': WHATEVER THE INPUT: true; the input reads as it did. -/
def fnExactMembersSpec : ChangeSpec := { name := "fnExactMembers", fn := fun _ => fun
  | [d1, d2] => { results := [.lit (.bool true)], args := [d1, d2] }
  | _ => none }
def fnExactMembersRow : OpenClaim := { program := "ytfplloabkceaoaa", sum := "86f24aed9b79151513df433d4ece875924fc46cdeb5bb3883f99319cef019fd2", func := "loop.example/g00621/laws.FnExactMembers", spec := "fnExactMembers", apart := false }
def FnExactMembersSaid : Prop := fnExactMembersRow.holds Try.pinned (OpenSpec.ofChange fnExactMembersSpec)

/-- ITS FALSE NEIGHBOUR: 'it returns false'. Refute it at one input. -/
def fnExactMembersWrong : ChangeSpec := { name := "fnExactMembers", fn := fun _ => fun
  | [d1, d2] => { results := [.lit (.bool false)], args := [d1, d2] }
  | _ => none }
def FnExactMembersWrongFalsely : Prop := fnExactMembersRow.holds Try.pinned (OpenSpec.ofChange fnExactMembersWrong)

/-- 'laws.FnExactHeadAt': WHATEVER THE INPUT: true; the input reads as it did. -/
def fnExactHeadAtSpec : ChangeSpec := { name := "fnExactHeadAt", fn := fun _ => fun
  | [d1, d2] => { results := [.lit (.bool true)], args := [d1, d2] }
  | _ => none }
def fnExactHeadAtRow : OpenClaim := { program := "ytfplloabkceaoaa", sum := "86f24aed9b79151513df433d4ece875924fc46cdeb5bb3883f99319cef019fd2", func := "loop.example/g00621/laws.FnExactHeadAt", spec := "fnExactHeadAt", apart := false }
def FnExactHeadAtSaid : Prop := fnExactHeadAtRow.holds Try.pinned (OpenSpec.ofChange fnExactHeadAtSpec)

/-- ITS FALSE NEIGHBOUR: 'it returns false'. Refute it at one input. -/
def fnExactHeadAtWrong : ChangeSpec := { name := "fnExactHeadAt", fn := fun _ => fun
  | [d1, d2] => { results := [.lit (.bool false)], args := [d1, d2] }
  | _ => none }
def FnExactHeadAtWrongFalsely : Prop := fnExactHeadAtRow.holds Try.pinned (OpenSpec.ofChange fnExactHeadAtWrong)

/-- 'laws.FnExactClassCount': WHATEVER THE INPUT: true; the input reads as it did. -/
def fnExactClassCountSpec : ChangeSpec := { name := "fnExactClassCount", fn := fun _ => fun
  | [d] => { results := [.lit (.bool true)], args := [d] }
  | _ => none }
def fnExactClassCountRow : OpenClaim := { program := "ytfplloabkceaoaa", sum := "86f24aed9b79151513df433d4ece875924fc46cdeb5bb3883f99319cef019fd2", func := "loop.example/g00621/laws.FnExactClassCount", spec := "fnExactClassCount", apart := false }
def FnExactClassCountSaid : Prop := fnExactClassCountRow.holds Try.pinned (OpenSpec.ofChange fnExactClassCountSpec)

/-- ITS FALSE NEIGHBOUR: 'it returns false'. Refute it at one input. -/
def fnExactClassCountWrong : ChangeSpec := { name := "fnExactClassCount", fn := fun _ => fun
  | [d] => { results := [.lit (.bool false)], args := [d] }
  | _ => none }
def FnExactClassCountWrongFalsely : Prop := fnExactClassCountRow.holds Try.pinned (OpenSpec.ofChange fnExactClassCountWrong)

/-- 'laws.FnExactCases': WHATEVER THE INPUT: true; the input reads as it did. -/
def fnExactCasesSpec : ChangeSpec := { name := "fnExactCases", fn := fun _ => fun
  | [d] => { results := [.lit (.bool true)], args := [d] }
  | _ => none }
def fnExactCasesRow : OpenClaim := { program := "ytfplloabkceaoaa", sum := "86f24aed9b79151513df433d4ece875924fc46cdeb5bb3883f99319cef019fd2", func := "loop.example/g00621/laws.FnExactCases", spec := "fnExactCases", unfollowed := true, recurses := true, apart := false }
def FnExactCasesSaid : Prop := fnExactCasesRow.holds Try.pinned (OpenSpec.ofChange fnExactCasesSpec)

/-- ITS FALSE NEIGHBOUR: 'it returns false'. Refute it at one input. -/
def fnExactCasesWrong : ChangeSpec := { name := "fnExactCases", fn := fun _ => fun
  | [d] => { results := [.lit (.bool false)], args := [d] }
  | _ => none }
def FnExactCasesWrongFalsely : Prop := fnExactCasesRow.holds Try.pinned (OpenSpec.ofChange fnExactCasesWrong)

/-- 'laws.FnExactPossible': WHATEVER THE INPUT: true; the input reads as it did. -/
def fnExactPossibleSpec : ChangeSpec := { name := "fnExactPossible", fn := fun _ => fun
  | [d] => { results := [.lit (.bool true)], args := [d] }
  | _ => none }
def fnExactPossibleRow : OpenClaim := { program := "ytfplloabkceaoaa", sum := "86f24aed9b79151513df433d4ece875924fc46cdeb5bb3883f99319cef019fd2", func := "loop.example/g00621/laws.FnExactPossible", spec := "fnExactPossible", unfollowed := true, recurses := true, apart := false }
def FnExactPossibleSaid : Prop := fnExactPossibleRow.holds Try.pinned (OpenSpec.ofChange fnExactPossibleSpec)

/-- ITS FALSE NEIGHBOUR: 'it returns false'. Refute it at one input. -/
def fnExactPossibleWrong : ChangeSpec := { name := "fnExactPossible", fn := fun _ => fun
  | [d] => { results := [.lit (.bool false)], args := [d] }
  | _ => none }
def FnExactPossibleWrongFalsely : Prop := fnExactPossibleRow.holds Try.pinned (OpenSpec.ofChange fnExactPossibleWrong)

/-- 'laws.FnExactUnfold': WHATEVER THE INPUT: true; the input reads as it did. -/
def fnExactUnfoldSpec : ChangeSpec := { name := "fnExactUnfold", fn := fun _ => fun
  | [d1, d2] => { results := [.lit (.bool true)], args := [d1, d2] }
  | _ => none }
def fnExactUnfoldRow : OpenClaim := { program := "ytfplloabkceaoaa", sum := "86f24aed9b79151513df433d4ece875924fc46cdeb5bb3883f99319cef019fd2", func := "loop.example/g00621/laws.FnExactUnfold", spec := "fnExactUnfold", apart := false }
def FnExactUnfoldSaid : Prop := fnExactUnfoldRow.holds Try.pinned (OpenSpec.ofChange fnExactUnfoldSpec)

/-- ITS FALSE NEIGHBOUR: 'it returns false'. Refute it at one input. -/
def fnExactUnfoldWrong : ChangeSpec := { name := "fnExactUnfold", fn := fun _ => fun
  | [d1, d2] => { results := [.lit (.bool false)], args := [d1, d2] }
  | _ => none }
def FnExactUnfoldWrongFalsely : Prop := fnExactUnfoldRow.holds Try.pinned (OpenSpec.ofChange fnExactUnfoldWrong)

/-- 'laws.FnExactFold': WHATEVER THE INPUT: true; the input reads as it did. -/
def fnExactFoldSpec : ChangeSpec := { name := "fnExactFold", fn := fun _ => fun
  | [d1, d2, d3] => { results := [.lit (.bool true)], args := [d1, d2, d3] }
  | _ => none }
def fnExactFoldRow : OpenClaim := { program := "ytfplloabkceaoaa", sum := "86f24aed9b79151513df433d4ece875924fc46cdeb5bb3883f99319cef019fd2", func := "loop.example/g00621/laws.FnExactFold", spec := "fnExactFold", apart := false }
def FnExactFoldSaid : Prop := fnExactFoldRow.holds Try.pinned (OpenSpec.ofChange fnExactFoldSpec)

/-- ITS FALSE NEIGHBOUR: 'it returns false'. Refute it at one input. -/
def fnExactFoldWrong : ChangeSpec := { name := "fnExactFold", fn := fun _ => fun
  | [d1, d2, d3] => { results := [.lit (.bool false)], args := [d1, d2, d3] }
  | _ => none }
def FnExactFoldWrongFalsely : Prop := fnExactFoldRow.holds Try.pinned (OpenSpec.ofChange fnExactFoldWrong)

/-- 'laws.FnExactCountCases': WHATEVER THE INPUT: true; the input reads as it did. -/
def fnExactCountCasesSpec : ChangeSpec := { name := "fnExactCountCases", fn := fun _ => fun
  | [d] => { results := [.lit (.bool true)], args := [d] }
  | _ => none }
def fnExactCountCasesRow : OpenClaim := { program := "ytfplloabkceaoaa", sum := "86f24aed9b79151513df433d4ece875924fc46cdeb5bb3883f99319cef019fd2", func := "loop.example/g00621/laws.FnExactCountCases", spec := "fnExactCountCases", unfollowed := true, recurses := true, apart := false }
def FnExactCountCasesSaid : Prop := fnExactCountCasesRow.holds Try.pinned (OpenSpec.ofChange fnExactCountCasesSpec)

/-- ITS FALSE NEIGHBOUR: 'it returns false'. Refute it at one input. -/
def fnExactCountCasesWrong : ChangeSpec := { name := "fnExactCountCases", fn := fun _ => fun
  | [d] => { results := [.lit (.bool false)], args := [d] }
  | _ => none }
def FnExactCountCasesWrongFalsely : Prop := fnExactCountCasesRow.holds Try.pinned (OpenSpec.ofChange fnExactCountCasesWrong)

/-- 'laws.FnExactSplit': WHATEVER THE INPUT: true; the input reads as it did. -/
def fnExactSplitSpec : ChangeSpec := { name := "fnExactSplit", fn := fun _ => fun
  | [d1, d2] => { results := [.lit (.bool true)], args := [d1, d2] }
  | _ => none }
def fnExactSplitRow : OpenClaim := { program := "ytfplloabkceaoaa", sum := "86f24aed9b79151513df433d4ece875924fc46cdeb5bb3883f99319cef019fd2", func := "loop.example/g00621/laws.FnExactSplit", spec := "fnExactSplit", apart := false }
def FnExactSplitSaid : Prop := fnExactSplitRow.holds Try.pinned (OpenSpec.ofChange fnExactSplitSpec)

/-- ITS FALSE NEIGHBOUR: 'it returns false'. Refute it at one input. -/
def fnExactSplitWrong : ChangeSpec := { name := "fnExactSplit", fn := fun _ => fun
  | [d1, d2] => { results := [.lit (.bool false)], args := [d1, d2] }
  | _ => none }
def FnExactSplitWrongFalsely : Prop := fnExactSplitRow.holds Try.pinned (OpenSpec.ofChange fnExactSplitWrong)

/-- 'laws.FnExactMatch': WHATEVER THE INPUT: true; the input reads as it did. -/
def fnExactMatchSpec : ChangeSpec := { name := "fnExactMatch", fn := fun _ => fun
  | [d1, d2] => { results := [.lit (.bool true)], args := [d1, d2] }
  | _ => none }
def fnExactMatchRow : OpenClaim := { program := "ytfplloabkceaoaa", sum := "86f24aed9b79151513df433d4ece875924fc46cdeb5bb3883f99319cef019fd2", func := "loop.example/g00621/laws.FnExactMatch", spec := "fnExactMatch", unfollowed := true, recurses := true, apart := false }
def FnExactMatchSaid : Prop := fnExactMatchRow.holds Try.pinned (OpenSpec.ofChange fnExactMatchSpec)

/-- ITS FALSE NEIGHBOUR: 'it returns false'. Refute it at one input. -/
def fnExactMatchWrong : ChangeSpec := { name := "fnExactMatch", fn := fun _ => fun
  | [d1, d2] => { results := [.lit (.bool false)], args := [d1, d2] }
  | _ => none }
def FnExactMatchWrongFalsely : Prop := fnExactMatchRow.holds Try.pinned (OpenSpec.ofChange fnExactMatchWrong)

/-- 'laws.FnExactEntails': WHATEVER THE INPUT: true; the input reads as it did. -/
def fnExactEntailsSpec : ChangeSpec := { name := "fnExactEntails", fn := fun _ => fun
  | [d1, d2] => { results := [.lit (.bool true)], args := [d1, d2] }
  | _ => none }
def fnExactEntailsRow : OpenClaim := { program := "ytfplloabkceaoaa", sum := "86f24aed9b79151513df433d4ece875924fc46cdeb5bb3883f99319cef019fd2", func := "loop.example/g00621/laws.FnExactEntails", spec := "fnExactEntails", unfollowed := true, recurses := true, apart := false }
def FnExactEntailsSaid : Prop := fnExactEntailsRow.holds Try.pinned (OpenSpec.ofChange fnExactEntailsSpec)

/-- ITS FALSE NEIGHBOUR: 'it returns false'. Refute it at one input. -/
def fnExactEntailsWrong : ChangeSpec := { name := "fnExactEntails", fn := fun _ => fun
  | [d1, d2] => { results := [.lit (.bool false)], args := [d1, d2] }
  | _ => none }
def FnExactEntailsWrongFalsely : Prop := fnExactEntailsRow.holds Try.pinned (OpenSpec.ofChange fnExactEntailsWrong)

/-- 'laws.FnExactFrames': WHATEVER THE INPUT: true; the input reads as it did. -/
def fnExactFramesSpec : ChangeSpec := { name := "fnExactFrames", fn := fun _ => fun
  | [d1, d2] => { results := [.lit (.bool true)], args := [d1, d2] }
  | _ => none }
def fnExactFramesRow : OpenClaim := { program := "ytfplloabkceaoaa", sum := "86f24aed9b79151513df433d4ece875924fc46cdeb5bb3883f99319cef019fd2", func := "loop.example/g00621/laws.FnExactFrames", spec := "fnExactFrames", unfollowed := true, recurses := true, apart := false }
def FnExactFramesSaid : Prop := fnExactFramesRow.holds Try.pinned (OpenSpec.ofChange fnExactFramesSpec)

/-- ITS FALSE NEIGHBOUR: 'it returns false'. Refute it at one input. -/
def fnExactFramesWrong : ChangeSpec := { name := "fnExactFrames", fn := fun _ => fun
  | [d1, d2] => { results := [.lit (.bool false)], args := [d1, d2] }
  | _ => none }
def FnExactFramesWrongFalsely : Prop := fnExactFramesRow.holds Try.pinned (OpenSpec.ofChange fnExactFramesWrong)

/-- 'laws.FnExactSame': WHATEVER THE INPUT: true; the input reads as it did. -/
def fnExactSameSpec : ChangeSpec := { name := "fnExactSame", fn := fun _ => fun
  | [d1, d2] => { results := [.lit (.bool true)], args := [d1, d2] }
  | _ => none }
def fnExactSameRow : OpenClaim := { program := "ytfplloabkceaoaa", sum := "86f24aed9b79151513df433d4ece875924fc46cdeb5bb3883f99319cef019fd2", func := "loop.example/g00621/laws.FnExactSame", spec := "fnExactSame", unfollowed := true, recurses := true, apart := false }
def FnExactSameSaid : Prop := fnExactSameRow.holds Try.pinned (OpenSpec.ofChange fnExactSameSpec)

/-- ITS FALSE NEIGHBOUR: 'it returns false'. Refute it at one input. -/
def fnExactSameWrong : ChangeSpec := { name := "fnExactSame", fn := fun _ => fun
  | [d1, d2] => { results := [.lit (.bool false)], args := [d1, d2] }
  | _ => none }
def FnExactSameWrongFalsely : Prop := fnExactSameRow.holds Try.pinned (OpenSpec.ofChange fnExactSameWrong)

/-- 'laws.FnExactPureOf': WHATEVER THE INPUT: true; the input reads as it did. -/
def fnExactPureOfSpec : ChangeSpec := { name := "fnExactPureOf", fn := fun _ => fun
  | [d] => { results := [.lit (.bool true)], args := [d] }
  | _ => none }
def fnExactPureOfRow : OpenClaim := { program := "ytfplloabkceaoaa", sum := "86f24aed9b79151513df433d4ece875924fc46cdeb5bb3883f99319cef019fd2", func := "loop.example/g00621/laws.FnExactPureOf", spec := "fnExactPureOf", apart := false }
def FnExactPureOfSaid : Prop := fnExactPureOfRow.holds Try.pinned (OpenSpec.ofChange fnExactPureOfSpec)

/-- ITS FALSE NEIGHBOUR: 'it returns false'. Refute it at one input. -/
def fnExactPureOfWrong : ChangeSpec := { name := "fnExactPureOf", fn := fun _ => fun
  | [d] => { results := [.lit (.bool false)], args := [d] }
  | _ => none }
def FnExactPureOfWrongFalsely : Prop := fnExactPureOfRow.holds Try.pinned (OpenSpec.ofChange fnExactPureOfWrong)

/-- 'laws.FnExactPureFollows': WHATEVER THE INPUT: true; the input reads as it did. -/
def fnExactPureFollowsSpec : ChangeSpec := { name := "fnExactPureFollows", fn := fun _ => fun
  | [d1, d2] => { results := [.lit (.bool true)], args := [d1, d2] }
  | _ => none }
def fnExactPureFollowsRow : OpenClaim := { program := "ytfplloabkceaoaa", sum := "86f24aed9b79151513df433d4ece875924fc46cdeb5bb3883f99319cef019fd2", func := "loop.example/g00621/laws.FnExactPureFollows", spec := "fnExactPureFollows", unfollowed := true, recurses := true, apart := false }
def FnExactPureFollowsSaid : Prop := fnExactPureFollowsRow.holds Try.pinned (OpenSpec.ofChange fnExactPureFollowsSpec)

/-- ITS FALSE NEIGHBOUR: 'it returns false'. Refute it at one input. -/
def fnExactPureFollowsWrong : ChangeSpec := { name := "fnExactPureFollows", fn := fun _ => fun
  | [d1, d2] => { results := [.lit (.bool false)], args := [d1, d2] }
  | _ => none }
def FnExactPureFollowsWrongFalsely : Prop := fnExactPureFollowsRow.holds Try.pinned (OpenSpec.ofChange fnExactPureFollowsWrong)

/-- 'laws.FnExactTakeCell': WHATEVER THE INPUT: true; the input reads as it did. -/
def fnExactTakeCellSpec : ChangeSpec := { name := "fnExactTakeCell", fn := fun _ => fun
  | [d1, d2] => { results := [.lit (.bool true)], args := [d1, d2] }
  | _ => none }
def fnExactTakeCellRow : OpenClaim := { program := "ytfplloabkceaoaa", sum := "86f24aed9b79151513df433d4ece875924fc46cdeb5bb3883f99319cef019fd2", func := "loop.example/g00621/laws.FnExactTakeCell", spec := "fnExactTakeCell", unfollowed := true, recurses := true, apart := false }
def FnExactTakeCellSaid : Prop := fnExactTakeCellRow.holds Try.pinned (OpenSpec.ofChange fnExactTakeCellSpec)

/-- ITS FALSE NEIGHBOUR: 'it returns false'. Refute it at one input. -/
def fnExactTakeCellWrong : ChangeSpec := { name := "fnExactTakeCell", fn := fun _ => fun
  | [d1, d2] => { results := [.lit (.bool false)], args := [d1, d2] }
  | _ => none }
def FnExactTakeCellWrongFalsely : Prop := fnExactTakeCellRow.holds Try.pinned (OpenSpec.ofChange fnExactTakeCellWrong)

/-- 'laws.FnExactTakeSeg': WHATEVER THE INPUT: true; the input reads as it did. -/
def fnExactTakeSegSpec : ChangeSpec := { name := "fnExactTakeSeg", fn := fun _ => fun
  | [d1, d2] => { results := [.lit (.bool true)], args := [d1, d2] }
  | _ => none }
def fnExactTakeSegRow : OpenClaim := { program := "ytfplloabkceaoaa", sum := "86f24aed9b79151513df433d4ece875924fc46cdeb5bb3883f99319cef019fd2", func := "loop.example/g00621/laws.FnExactTakeSeg", spec := "fnExactTakeSeg", unfollowed := true, recurses := true, apart := false }
def FnExactTakeSegSaid : Prop := fnExactTakeSegRow.holds Try.pinned (OpenSpec.ofChange fnExactTakeSegSpec)

/-- ITS FALSE NEIGHBOUR: 'it returns false'. Refute it at one input. -/
def fnExactTakeSegWrong : ChangeSpec := { name := "fnExactTakeSeg", fn := fun _ => fun
  | [d1, d2] => { results := [.lit (.bool false)], args := [d1, d2] }
  | _ => none }
def FnExactTakeSegWrongFalsely : Prop := fnExactTakeSegRow.holds Try.pinned (OpenSpec.ofChange fnExactTakeSegWrong)

/-- 'laws.FnExactWeaker': WHATEVER THE INPUT: true; the input reads as it did. -/
def fnExactWeakerSpec : ChangeSpec := { name := "fnExactWeaker", fn := fun _ => fun
  | [d1, d2] => { results := [.lit (.bool true)], args := [d1, d2] }
  | _ => none }
def fnExactWeakerRow : OpenClaim := { program := "ytfplloabkceaoaa", sum := "86f24aed9b79151513df433d4ece875924fc46cdeb5bb3883f99319cef019fd2", func := "loop.example/g00621/laws.FnExactWeaker", spec := "fnExactWeaker", unfollowed := true, recurses := true, apart := false }
def FnExactWeakerSaid : Prop := fnExactWeakerRow.holds Try.pinned (OpenSpec.ofChange fnExactWeakerSpec)

/-- ITS FALSE NEIGHBOUR: 'it returns false'. Refute it at one input. -/
def fnExactWeakerWrong : ChangeSpec := { name := "fnExactWeaker", fn := fun _ => fun
  | [d1, d2] => { results := [.lit (.bool false)], args := [d1, d2] }
  | _ => none }
def FnExactWeakerWrongFalsely : Prop := fnExactWeakerRow.holds Try.pinned (OpenSpec.ofChange fnExactWeakerWrong)

/-- 'laws.FnExactTidy': WHATEVER THE INPUT: true; the input reads as it did. -/
def fnExactTidySpec : ChangeSpec := { name := "fnExactTidy", fn := fun _ => fun
  | [d] => { results := [.lit (.bool true)], args := [d] }
  | _ => none }
def fnExactTidyRow : OpenClaim := { program := "ytfplloabkceaoaa", sum := "86f24aed9b79151513df433d4ece875924fc46cdeb5bb3883f99319cef019fd2", func := "loop.example/g00621/laws.FnExactTidy", spec := "fnExactTidy", unfollowed := true, recurses := true, apart := false }
def FnExactTidySaid : Prop := fnExactTidyRow.holds Try.pinned (OpenSpec.ofChange fnExactTidySpec)

/-- ITS FALSE NEIGHBOUR: 'it returns false'. Refute it at one input. -/
def fnExactTidyWrong : ChangeSpec := { name := "fnExactTidy", fn := fun _ => fun
  | [d] => { results := [.lit (.bool false)], args := [d] }
  | _ => none }
def FnExactTidyWrongFalsely : Prop := fnExactTidyRow.holds Try.pinned (OpenSpec.ofChange fnExactTidyWrong)

/-- 'laws.FnExactExpose': WHATEVER THE INPUT: true; the input reads as it did. -/
def fnExactExposeSpec : ChangeSpec := { name := "fnExactExpose", fn := fun _ => fun
  | [d1, d2] => { results := [.lit (.bool true)], args := [d1, d2] }
  | _ => none }
def fnExactExposeRow : OpenClaim := { program := "ytfplloabkceaoaa", sum := "86f24aed9b79151513df433d4ece875924fc46cdeb5bb3883f99319cef019fd2", func := "loop.example/g00621/laws.FnExactExpose", spec := "fnExactExpose", apart := false }
def FnExactExposeSaid : Prop := fnExactExposeRow.holds Try.pinned (OpenSpec.ofChange fnExactExposeSpec)

/-- ITS FALSE NEIGHBOUR: 'it returns false'. Refute it at one input. -/
def fnExactExposeWrong : ChangeSpec := { name := "fnExactExpose", fn := fun _ => fun
  | [d1, d2] => { results := [.lit (.bool false)], args := [d1, d2] }
  | _ => none }
def FnExactExposeWrongFalsely : Prop := fnExactExposeRow.holds Try.pinned (OpenSpec.ofChange fnExactExposeWrong)

/-- 'laws.FnExactAssume': WHATEVER THE INPUT: true; the input reads as it did. -/
def fnExactAssumeSpec : ChangeSpec := { name := "fnExactAssume", fn := fun _ => fun
  | [d1, d2, d3, d4] => { results := [.lit (.bool true)], args := [d1, d2, d3, d4] }
  | _ => none }
def fnExactAssumeRow : OpenClaim := { program := "ytfplloabkceaoaa", sum := "86f24aed9b79151513df433d4ece875924fc46cdeb5bb3883f99319cef019fd2", func := "loop.example/g00621/laws.FnExactAssume", spec := "fnExactAssume", unfollowed := true, recurses := true, apart := false }
def FnExactAssumeSaid : Prop := fnExactAssumeRow.holds Try.pinned (OpenSpec.ofChange fnExactAssumeSpec)

/-- ITS FALSE NEIGHBOUR: 'it returns false'. Refute it at one input. -/
def fnExactAssumeWrong : ChangeSpec := { name := "fnExactAssume", fn := fun _ => fun
  | [d1, d2, d3, d4] => { results := [.lit (.bool false)], args := [d1, d2, d3, d4] }
  | _ => none }
def FnExactAssumeWrongFalsely : Prop := fnExactAssumeRow.holds Try.pinned (OpenSpec.ofChange fnExactAssumeWrong)

/-- 'laws.FnExactPut': WHATEVER THE INPUT: true; the input reads as it did. -/
def fnExactPutSpec : ChangeSpec := { name := "fnExactPut", fn := fun _ => fun
  | [d1, d2] => { results := [.lit (.bool true)], args := [d1, d2] }
  | _ => none }
def fnExactPutRow : OpenClaim := { program := "ytfplloabkceaoaa", sum := "86f24aed9b79151513df433d4ece875924fc46cdeb5bb3883f99319cef019fd2", func := "loop.example/g00621/laws.FnExactPut", spec := "fnExactPut", unfollowed := true, recurses := true, apart := false }
def FnExactPutSaid : Prop := fnExactPutRow.holds Try.pinned (OpenSpec.ofChange fnExactPutSpec)

/-- ITS FALSE NEIGHBOUR: 'it returns false'. Refute it at one input. -/
def fnExactPutWrong : ChangeSpec := { name := "fnExactPut", fn := fun _ => fun
  | [d1, d2] => { results := [.lit (.bool false)], args := [d1, d2] }
  | _ => none }
def FnExactPutWrongFalsely : Prop := fnExactPutRow.holds Try.pinned (OpenSpec.ofChange fnExactPutWrong)

/-- 'laws.FnExactAlways': WHATEVER THE INPUT: true; the input reads as it did. -/
def fnExactAlwaysSpec : ChangeSpec := { name := "fnExactAlways", fn := fun _ => fun
  | [d1, d2] => { results := [.lit (.bool true)], args := [d1, d2] }
  | _ => none }
def fnExactAlwaysRow : OpenClaim := { program := "ytfplloabkceaoaa", sum := "86f24aed9b79151513df433d4ece875924fc46cdeb5bb3883f99319cef019fd2", func := "loop.example/g00621/laws.FnExactAlways", spec := "fnExactAlways", unfollowed := true, recurses := true, apart := false }
def FnExactAlwaysSaid : Prop := fnExactAlwaysRow.holds Try.pinned (OpenSpec.ofChange fnExactAlwaysSpec)

/-- ITS FALSE NEIGHBOUR: 'it returns false'. Refute it at one input. -/
def fnExactAlwaysWrong : ChangeSpec := { name := "fnExactAlways", fn := fun _ => fun
  | [d1, d2] => { results := [.lit (.bool false)], args := [d1, d2] }
  | _ => none }
def FnExactAlwaysWrongFalsely : Prop := fnExactAlwaysRow.holds Try.pinned (OpenSpec.ofChange fnExactAlwaysWrong)

/- THE SECOND FORM. 'bulk': how many values and letters a reading holds, each counted each time it is reached (what is shared counts as often as it is met; a slice's spare places count too). A statement '..UptoSaid' is the law's where the arguments, and the package variables that the reading takes, are together of bulk at most 1048576: NARROWER than '..Said'. Prove '..Said' where nothing that the law and all that it calls make is longer than what came in: it says more and counts as full. Else prove '..UptoSaid'. A law counts once. -/
mutual
def uptoBulk {H : Type} : DataW H → Nat
  | .lit (.string bytes) => bytes.length + 1
  | .lit _ => 1
  | .nil => 1
  | .ptr d => uptoBulk d + 1
  | .slice elems spare => uptoBulkAll elems + uptoBulkAll spare + 1
  | .agg parts => uptoBulkAll parts + 1
  | .iface _ d => uptoBulk d + 1
  | .map entries => uptoBulkEntries entries + 1
  | .held _ => 1
def uptoBulkAll {H : Type} : List (DataW H) → Nat
  | [] => 0
  | d :: r => uptoBulk d + uptoBulkAll r
def uptoBulkEntries {H : Type} : List (Lit × DataW H) → Nat
  | [] => 0
  | x :: r => uptoBulkEntry x + uptoBulkEntries r
def uptoBulkEntry {H : Type} : Lit × DataW H → Nat
  | (.string bytes, d) => bytes.length + uptoBulk d + 1
  | (_, d) => uptoBulk d + 1
 end
def uptoSmall : (H : Type) → List (DataW H) → Bool := fun _ ds => decide (uptoBulkAll ds ≤ 1048576)
def OpenSpec.upto (s : _root_.Go.ChangeSpec) : _root_.Go.OpenSpec := { _root_.Go.OpenSpec.ofChange s with cond := some uptoSmall }

/-- 'laws.FnExactSubst', WHERE WHAT IT READS IS OF BULK AT MOST 1048576: true; the input reads as it did. -/
def fnExactSubstUptoRow : OpenClaim := { program := "ytfplloabkceaoaa", sum := "86f24aed9b79151513df433d4ece875924fc46cdeb5bb3883f99319cef019fd2", func := "loop.example/g00621/laws.FnExactSubst", spec := "fnExactSubst", apart := false, narrowed := true }
def FnExactSubstUptoSaid : Prop := fnExactSubstUptoRow.holds Try.pinned (OpenSpec.upto fnExactSubstSpec)

/-- 'laws.FnExactStar', WHERE WHAT IT READS IS OF BULK AT MOST 1048576: true; the input reads as it did. -/
def fnExactStarUptoRow : OpenClaim := { program := "ytfplloabkceaoaa", sum := "86f24aed9b79151513df433d4ece875924fc46cdeb5bb3883f99319cef019fd2", func := "loop.example/g00621/laws.FnExactStar", spec := "fnExactStar", apart := false, narrowed := true }
def FnExactStarUptoSaid : Prop := fnExactStarUptoRow.holds Try.pinned (OpenSpec.upto fnExactStarSpec)

/-- 'laws.FnExactFresh', WHERE WHAT IT READS IS OF BULK AT MOST 1048576: true; the input reads as it did. -/
def fnExactFreshUptoRow : OpenClaim := { program := "ytfplloabkceaoaa", sum := "86f24aed9b79151513df433d4ece875924fc46cdeb5bb3883f99319cef019fd2", func := "loop.example/g00621/laws.FnExactFresh", spec := "fnExactFresh", apart := false, narrowed := true }
def FnExactFreshUptoSaid : Prop := fnExactFreshUptoRow.holds Try.pinned (OpenSpec.upto fnExactFreshSpec)

/-- 'laws.FnExactPairsOf', WHERE WHAT IT READS IS OF BULK AT MOST 1048576: true; the input reads as it did. -/
def fnExactPairsOfUptoRow : OpenClaim := { program := "ytfplloabkceaoaa", sum := "86f24aed9b79151513df433d4ece875924fc46cdeb5bb3883f99319cef019fd2", func := "loop.example/g00621/laws.FnExactPairsOf", spec := "fnExactPairsOf", apart := false, narrowed := true }
def FnExactPairsOfUptoSaid : Prop := fnExactPairsOfUptoRow.holds Try.pinned (OpenSpec.upto fnExactPairsOfSpec)

/-- 'laws.FnExactSorted', WHERE WHAT IT READS IS OF BULK AT MOST 1048576: true; the input reads as it did. -/
def fnExactSortedUptoRow : OpenClaim := { program := "ytfplloabkceaoaa", sum := "86f24aed9b79151513df433d4ece875924fc46cdeb5bb3883f99319cef019fd2", func := "loop.example/g00621/laws.FnExactSorted", spec := "fnExactSorted", unfollowed := true, recurses := true, apart := false, narrowed := true }
def FnExactSortedUptoSaid : Prop := fnExactSortedUptoRow.holds Try.pinned (OpenSpec.upto fnExactSortedSpec)

/-- 'laws.FnExactWithout', WHERE WHAT IT READS IS OF BULK AT MOST 1048576: true; the input reads as it did. -/
def fnExactWithoutUptoRow : OpenClaim := { program := "ytfplloabkceaoaa", sum := "86f24aed9b79151513df433d4ece875924fc46cdeb5bb3883f99319cef019fd2", func := "loop.example/g00621/laws.FnExactWithout", spec := "fnExactWithout", apart := false, narrowed := true }
def FnExactWithoutUptoSaid : Prop := fnExactWithoutUptoRow.holds Try.pinned (OpenSpec.upto fnExactWithoutSpec)

/-- 'laws.FnExactClasses', WHERE WHAT IT READS IS OF BULK AT MOST 1048576: true; the input reads as it did. -/
def fnExactClassesUptoRow : OpenClaim := { program := "ytfplloabkceaoaa", sum := "86f24aed9b79151513df433d4ece875924fc46cdeb5bb3883f99319cef019fd2", func := "loop.example/g00621/laws.FnExactClasses", spec := "fnExactClasses", apart := false, narrowed := true }
def FnExactClassesUptoSaid : Prop := fnExactClassesUptoRow.holds Try.pinned (OpenSpec.upto fnExactClassesSpec)

/-- 'laws.FnExactAlike', WHERE WHAT IT READS IS OF BULK AT MOST 1048576: true; the input reads as it did. -/
def fnExactAlikeUptoRow : OpenClaim := { program := "ytfplloabkceaoaa", sum := "86f24aed9b79151513df433d4ece875924fc46cdeb5bb3883f99319cef019fd2", func := "loop.example/g00621/laws.FnExactAlike", spec := "fnExactAlike", apart := false, narrowed := true }
def FnExactAlikeUptoSaid : Prop := fnExactAlikeUptoRow.holds Try.pinned (OpenSpec.upto fnExactAlikeSpec)

/-- 'laws.FnExactUnlike', WHERE WHAT IT READS IS OF BULK AT MOST 1048576: true; the input reads as it did. -/
def fnExactUnlikeUptoRow : OpenClaim := { program := "ytfplloabkceaoaa", sum := "86f24aed9b79151513df433d4ece875924fc46cdeb5bb3883f99319cef019fd2", func := "loop.example/g00621/laws.FnExactUnlike", spec := "fnExactUnlike", apart := false, narrowed := true }
def FnExactUnlikeUptoSaid : Prop := fnExactUnlikeUptoRow.holds Try.pinned (OpenSpec.upto fnExactUnlikeSpec)

/-- 'laws.FnExactNormal', WHERE WHAT IT READS IS OF BULK AT MOST 1048576: true; the input reads as it did. -/
def fnExactNormalUptoRow : OpenClaim := { program := "ytfplloabkceaoaa", sum := "86f24aed9b79151513df433d4ece875924fc46cdeb5bb3883f99319cef019fd2", func := "loop.example/g00621/laws.FnExactNormal", spec := "fnExactNormal", apart := false, narrowed := true }
def FnExactNormalUptoSaid : Prop := fnExactNormalUptoRow.holds Try.pinned (OpenSpec.upto fnExactNormalSpec)

/-- 'laws.FnExactHeads', WHERE WHAT IT READS IS OF BULK AT MOST 1048576: true; the input reads as it did. -/
def fnExactHeadsUptoRow : OpenClaim := { program := "ytfplloabkceaoaa", sum := "86f24aed9b79151513df433d4ece875924fc46cdeb5bb3883f99319cef019fd2", func := "loop.example/g00621/laws.FnExactHeads", spec := "fnExactHeads", apart := false, narrowed := true }
def FnExactHeadsUptoSaid : Prop := fnExactHeadsUptoRow.holds Try.pinned (OpenSpec.upto fnExactHeadsSpec)

/-- 'laws.FnExactContra', WHERE WHAT IT READS IS OF BULK AT MOST 1048576: true; the input reads as it did. -/
def fnExactContraUptoRow : OpenClaim := { program := "ytfplloabkceaoaa", sum := "86f24aed9b79151513df433d4ece875924fc46cdeb5bb3883f99319cef019fd2", func := "loop.example/g00621/laws.FnExactContra", spec := "fnExactContra", apart := false, narrowed := true }
def FnExactContraUptoSaid : Prop := fnExactContraUptoRow.holds Try.pinned (OpenSpec.upto fnExactContraSpec)

/-- 'laws.FnExactOpened', WHERE WHAT IT READS IS OF BULK AT MOST 1048576: true; the input reads as it did. -/
def fnExactOpenedUptoRow : OpenClaim := { program := "ytfplloabkceaoaa", sum := "86f24aed9b79151513df433d4ece875924fc46cdeb5bb3883f99319cef019fd2", func := "loop.example/g00621/laws.FnExactOpened", spec := "fnExactOpened", apart := false, narrowed := true }
def FnExactOpenedUptoSaid : Prop := fnExactOpenedUptoRow.holds Try.pinned (OpenSpec.upto fnExactOpenedSpec)

/-- 'laws.FnExactMembers', WHERE WHAT IT READS IS OF BULK AT MOST 1048576: true; the input reads as it did. -/
def fnExactMembersUptoRow : OpenClaim := { program := "ytfplloabkceaoaa", sum := "86f24aed9b79151513df433d4ece875924fc46cdeb5bb3883f99319cef019fd2", func := "loop.example/g00621/laws.FnExactMembers", spec := "fnExactMembers", apart := false, narrowed := true }
def FnExactMembersUptoSaid : Prop := fnExactMembersUptoRow.holds Try.pinned (OpenSpec.upto fnExactMembersSpec)

/-- 'laws.FnExactHeadAt', WHERE WHAT IT READS IS OF BULK AT MOST 1048576: true; the input reads as it did. -/
def fnExactHeadAtUptoRow : OpenClaim := { program := "ytfplloabkceaoaa", sum := "86f24aed9b79151513df433d4ece875924fc46cdeb5bb3883f99319cef019fd2", func := "loop.example/g00621/laws.FnExactHeadAt", spec := "fnExactHeadAt", apart := false, narrowed := true }
def FnExactHeadAtUptoSaid : Prop := fnExactHeadAtUptoRow.holds Try.pinned (OpenSpec.upto fnExactHeadAtSpec)

/-- 'laws.FnExactClassCount', WHERE WHAT IT READS IS OF BULK AT MOST 1048576: true; the input reads as it did. -/
def fnExactClassCountUptoRow : OpenClaim := { program := "ytfplloabkceaoaa", sum := "86f24aed9b79151513df433d4ece875924fc46cdeb5bb3883f99319cef019fd2", func := "loop.example/g00621/laws.FnExactClassCount", spec := "fnExactClassCount", apart := false, narrowed := true }
def FnExactClassCountUptoSaid : Prop := fnExactClassCountUptoRow.holds Try.pinned (OpenSpec.upto fnExactClassCountSpec)

/-- 'laws.FnExactCases', WHERE WHAT IT READS IS OF BULK AT MOST 1048576: true; the input reads as it did. -/
def fnExactCasesUptoRow : OpenClaim := { program := "ytfplloabkceaoaa", sum := "86f24aed9b79151513df433d4ece875924fc46cdeb5bb3883f99319cef019fd2", func := "loop.example/g00621/laws.FnExactCases", spec := "fnExactCases", unfollowed := true, recurses := true, apart := false, narrowed := true }
def FnExactCasesUptoSaid : Prop := fnExactCasesUptoRow.holds Try.pinned (OpenSpec.upto fnExactCasesSpec)

/-- 'laws.FnExactPossible', WHERE WHAT IT READS IS OF BULK AT MOST 1048576: true; the input reads as it did. -/
def fnExactPossibleUptoRow : OpenClaim := { program := "ytfplloabkceaoaa", sum := "86f24aed9b79151513df433d4ece875924fc46cdeb5bb3883f99319cef019fd2", func := "loop.example/g00621/laws.FnExactPossible", spec := "fnExactPossible", unfollowed := true, recurses := true, apart := false, narrowed := true }
def FnExactPossibleUptoSaid : Prop := fnExactPossibleUptoRow.holds Try.pinned (OpenSpec.upto fnExactPossibleSpec)

/-- 'laws.FnExactUnfold', WHERE WHAT IT READS IS OF BULK AT MOST 1048576: true; the input reads as it did. -/
def fnExactUnfoldUptoRow : OpenClaim := { program := "ytfplloabkceaoaa", sum := "86f24aed9b79151513df433d4ece875924fc46cdeb5bb3883f99319cef019fd2", func := "loop.example/g00621/laws.FnExactUnfold", spec := "fnExactUnfold", apart := false, narrowed := true }
def FnExactUnfoldUptoSaid : Prop := fnExactUnfoldUptoRow.holds Try.pinned (OpenSpec.upto fnExactUnfoldSpec)

/-- 'laws.FnExactFold', WHERE WHAT IT READS IS OF BULK AT MOST 1048576: true; the input reads as it did. -/
def fnExactFoldUptoRow : OpenClaim := { program := "ytfplloabkceaoaa", sum := "86f24aed9b79151513df433d4ece875924fc46cdeb5bb3883f99319cef019fd2", func := "loop.example/g00621/laws.FnExactFold", spec := "fnExactFold", apart := false, narrowed := true }
def FnExactFoldUptoSaid : Prop := fnExactFoldUptoRow.holds Try.pinned (OpenSpec.upto fnExactFoldSpec)

/-- 'laws.FnExactCountCases', WHERE WHAT IT READS IS OF BULK AT MOST 1048576: true; the input reads as it did. -/
def fnExactCountCasesUptoRow : OpenClaim := { program := "ytfplloabkceaoaa", sum := "86f24aed9b79151513df433d4ece875924fc46cdeb5bb3883f99319cef019fd2", func := "loop.example/g00621/laws.FnExactCountCases", spec := "fnExactCountCases", unfollowed := true, recurses := true, apart := false, narrowed := true }
def FnExactCountCasesUptoSaid : Prop := fnExactCountCasesUptoRow.holds Try.pinned (OpenSpec.upto fnExactCountCasesSpec)

/-- 'laws.FnExactSplit', WHERE WHAT IT READS IS OF BULK AT MOST 1048576: true; the input reads as it did. -/
def fnExactSplitUptoRow : OpenClaim := { program := "ytfplloabkceaoaa", sum := "86f24aed9b79151513df433d4ece875924fc46cdeb5bb3883f99319cef019fd2", func := "loop.example/g00621/laws.FnExactSplit", spec := "fnExactSplit", apart := false, narrowed := true }
def FnExactSplitUptoSaid : Prop := fnExactSplitUptoRow.holds Try.pinned (OpenSpec.upto fnExactSplitSpec)

/-- 'laws.FnExactMatch', WHERE WHAT IT READS IS OF BULK AT MOST 1048576: true; the input reads as it did. -/
def fnExactMatchUptoRow : OpenClaim := { program := "ytfplloabkceaoaa", sum := "86f24aed9b79151513df433d4ece875924fc46cdeb5bb3883f99319cef019fd2", func := "loop.example/g00621/laws.FnExactMatch", spec := "fnExactMatch", unfollowed := true, recurses := true, apart := false, narrowed := true }
def FnExactMatchUptoSaid : Prop := fnExactMatchUptoRow.holds Try.pinned (OpenSpec.upto fnExactMatchSpec)

/-- 'laws.FnExactEntails', WHERE WHAT IT READS IS OF BULK AT MOST 1048576: true; the input reads as it did. -/
def fnExactEntailsUptoRow : OpenClaim := { program := "ytfplloabkceaoaa", sum := "86f24aed9b79151513df433d4ece875924fc46cdeb5bb3883f99319cef019fd2", func := "loop.example/g00621/laws.FnExactEntails", spec := "fnExactEntails", unfollowed := true, recurses := true, apart := false, narrowed := true }
def FnExactEntailsUptoSaid : Prop := fnExactEntailsUptoRow.holds Try.pinned (OpenSpec.upto fnExactEntailsSpec)

/-- 'laws.FnExactFrames', WHERE WHAT IT READS IS OF BULK AT MOST 1048576: true; the input reads as it did. -/
def fnExactFramesUptoRow : OpenClaim := { program := "ytfplloabkceaoaa", sum := "86f24aed9b79151513df433d4ece875924fc46cdeb5bb3883f99319cef019fd2", func := "loop.example/g00621/laws.FnExactFrames", spec := "fnExactFrames", unfollowed := true, recurses := true, apart := false, narrowed := true }
def FnExactFramesUptoSaid : Prop := fnExactFramesUptoRow.holds Try.pinned (OpenSpec.upto fnExactFramesSpec)

/-- 'laws.FnExactSame', WHERE WHAT IT READS IS OF BULK AT MOST 1048576: true; the input reads as it did. -/
def fnExactSameUptoRow : OpenClaim := { program := "ytfplloabkceaoaa", sum := "86f24aed9b79151513df433d4ece875924fc46cdeb5bb3883f99319cef019fd2", func := "loop.example/g00621/laws.FnExactSame", spec := "fnExactSame", unfollowed := true, recurses := true, apart := false, narrowed := true }
def FnExactSameUptoSaid : Prop := fnExactSameUptoRow.holds Try.pinned (OpenSpec.upto fnExactSameSpec)

/-- 'laws.FnExactPureOf', WHERE WHAT IT READS IS OF BULK AT MOST 1048576: true; the input reads as it did. -/
def fnExactPureOfUptoRow : OpenClaim := { program := "ytfplloabkceaoaa", sum := "86f24aed9b79151513df433d4ece875924fc46cdeb5bb3883f99319cef019fd2", func := "loop.example/g00621/laws.FnExactPureOf", spec := "fnExactPureOf", apart := false, narrowed := true }
def FnExactPureOfUptoSaid : Prop := fnExactPureOfUptoRow.holds Try.pinned (OpenSpec.upto fnExactPureOfSpec)

/-- 'laws.FnExactPureFollows', WHERE WHAT IT READS IS OF BULK AT MOST 1048576: true; the input reads as it did. -/
def fnExactPureFollowsUptoRow : OpenClaim := { program := "ytfplloabkceaoaa", sum := "86f24aed9b79151513df433d4ece875924fc46cdeb5bb3883f99319cef019fd2", func := "loop.example/g00621/laws.FnExactPureFollows", spec := "fnExactPureFollows", unfollowed := true, recurses := true, apart := false, narrowed := true }
def FnExactPureFollowsUptoSaid : Prop := fnExactPureFollowsUptoRow.holds Try.pinned (OpenSpec.upto fnExactPureFollowsSpec)

/-- 'laws.FnExactTakeCell', WHERE WHAT IT READS IS OF BULK AT MOST 1048576: true; the input reads as it did. -/
def fnExactTakeCellUptoRow : OpenClaim := { program := "ytfplloabkceaoaa", sum := "86f24aed9b79151513df433d4ece875924fc46cdeb5bb3883f99319cef019fd2", func := "loop.example/g00621/laws.FnExactTakeCell", spec := "fnExactTakeCell", unfollowed := true, recurses := true, apart := false, narrowed := true }
def FnExactTakeCellUptoSaid : Prop := fnExactTakeCellUptoRow.holds Try.pinned (OpenSpec.upto fnExactTakeCellSpec)

/-- 'laws.FnExactTakeSeg', WHERE WHAT IT READS IS OF BULK AT MOST 1048576: true; the input reads as it did. -/
def fnExactTakeSegUptoRow : OpenClaim := { program := "ytfplloabkceaoaa", sum := "86f24aed9b79151513df433d4ece875924fc46cdeb5bb3883f99319cef019fd2", func := "loop.example/g00621/laws.FnExactTakeSeg", spec := "fnExactTakeSeg", unfollowed := true, recurses := true, apart := false, narrowed := true }
def FnExactTakeSegUptoSaid : Prop := fnExactTakeSegUptoRow.holds Try.pinned (OpenSpec.upto fnExactTakeSegSpec)

/-- 'laws.FnExactWeaker', WHERE WHAT IT READS IS OF BULK AT MOST 1048576: true; the input reads as it did. -/
def fnExactWeakerUptoRow : OpenClaim := { program := "ytfplloabkceaoaa", sum := "86f24aed9b79151513df433d4ece875924fc46cdeb5bb3883f99319cef019fd2", func := "loop.example/g00621/laws.FnExactWeaker", spec := "fnExactWeaker", unfollowed := true, recurses := true, apart := false, narrowed := true }
def FnExactWeakerUptoSaid : Prop := fnExactWeakerUptoRow.holds Try.pinned (OpenSpec.upto fnExactWeakerSpec)

/-- 'laws.FnExactTidy', WHERE WHAT IT READS IS OF BULK AT MOST 1048576: true; the input reads as it did. -/
def fnExactTidyUptoRow : OpenClaim := { program := "ytfplloabkceaoaa", sum := "86f24aed9b79151513df433d4ece875924fc46cdeb5bb3883f99319cef019fd2", func := "loop.example/g00621/laws.FnExactTidy", spec := "fnExactTidy", unfollowed := true, recurses := true, apart := false, narrowed := true }
def FnExactTidyUptoSaid : Prop := fnExactTidyUptoRow.holds Try.pinned (OpenSpec.upto fnExactTidySpec)

/-- 'laws.FnExactExpose', WHERE WHAT IT READS IS OF BULK AT MOST 1048576: true; the input reads as it did. -/
def fnExactExposeUptoRow : OpenClaim := { program := "ytfplloabkceaoaa", sum := "86f24aed9b79151513df433d4ece875924fc46cdeb5bb3883f99319cef019fd2", func := "loop.example/g00621/laws.FnExactExpose", spec := "fnExactExpose", apart := false, narrowed := true }
def FnExactExposeUptoSaid : Prop := fnExactExposeUptoRow.holds Try.pinned (OpenSpec.upto fnExactExposeSpec)

/-- 'laws.FnExactAssume', WHERE WHAT IT READS IS OF BULK AT MOST 1048576: true; the input reads as it did. -/
def fnExactAssumeUptoRow : OpenClaim := { program := "ytfplloabkceaoaa", sum := "86f24aed9b79151513df433d4ece875924fc46cdeb5bb3883f99319cef019fd2", func := "loop.example/g00621/laws.FnExactAssume", spec := "fnExactAssume", unfollowed := true, recurses := true, apart := false, narrowed := true }
def FnExactAssumeUptoSaid : Prop := fnExactAssumeUptoRow.holds Try.pinned (OpenSpec.upto fnExactAssumeSpec)

/-- 'laws.FnExactPut', WHERE WHAT IT READS IS OF BULK AT MOST 1048576: true; the input reads as it did. -/
def fnExactPutUptoRow : OpenClaim := { program := "ytfplloabkceaoaa", sum := "86f24aed9b79151513df433d4ece875924fc46cdeb5bb3883f99319cef019fd2", func := "loop.example/g00621/laws.FnExactPut", spec := "fnExactPut", unfollowed := true, recurses := true, apart := false, narrowed := true }
def FnExactPutUptoSaid : Prop := fnExactPutUptoRow.holds Try.pinned (OpenSpec.upto fnExactPutSpec)

/-- 'laws.FnExactAlways', WHERE WHAT IT READS IS OF BULK AT MOST 1048576: true; the input reads as it did. -/
def fnExactAlwaysUptoRow : OpenClaim := { program := "ytfplloabkceaoaa", sum := "86f24aed9b79151513df433d4ece875924fc46cdeb5bb3883f99319cef019fd2", func := "loop.example/g00621/laws.FnExactAlways", spec := "fnExactAlways", unfollowed := true, recurses := true, apart := false, narrowed := true }
def FnExactAlwaysUptoSaid : Prop := fnExactAlwaysUptoRow.holds Try.pinned (OpenSpec.upto fnExactAlwaysSpec)

end Rows
end Go.Proofs.Ytfplloabkceaoaa
