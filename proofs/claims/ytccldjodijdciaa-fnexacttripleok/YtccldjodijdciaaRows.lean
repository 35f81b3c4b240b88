/-
  NARROWER THAN 'FOR EVERY INPUT', by the rows' own cells (each row's printed sentence says how): FnExactCmdOk: loops · FnExactProgOk: loops · FnExactSize: loops · FnExactChanges: loops · FnExactStep: loops · FnExactRun: loops · FnExactDeep: loops · FnExactIsPlain: loops · FnExactLoops: loops · FnExactMentions: loops · FnExactSeq: loops · FnExactGuard: loops · FnExactTripleOk: loops.
  DERIVED. THE GIVEN ROWS OF THIS SEAT. 19 by the template 'for every input the law returns true; each argument reads behind the call as it read before'; 0 by the template 'total and deterministic' (their statements: YtccldjodijdciaaTotals.lean).
  GIVEN WITH THE SEED: the statements are not yours to turn. If you find one false, say at which input.
  Laid BY PROGRAM, IN A SANDBOX (cutbox-rows.mjs): the forced cells as the released guide's own fill.sh prints them over the translation c2b949d950707aa4… (all of the seat's roots in one cut). By AI agents, Wed Nov 11 2026. No macro, syntax, notation, axiom, sorry.
-/
import Derived.Test.YtccldjodijdciaaChecked
import GoSem.Claim
import GoSem.ClaimJoined
import GoSem.ClaimMapViews
import Derived.JoinedTies
import Derived.KernelRfl
namespace Go.Proofs.Ytccldjodijdciaa
/- THE CELL 'sum', in the pinned program and in every row, IS THE sha256 OF THE DUMP (.gsa) THAT YtccldjodijdciaaProg.lean LOADS. Nothing in Lean hashes anything: it is a label: what it is worth is what the hold of that sum in a sandbox is worth. -/
noncomputable def Try.pinned : Pinned := { name := "ytccldjodijdciaa", sum := "c2b949d950707aa4cd6b8aad28d6d4197a91d5484fc36210522de5eba25d522d", checked := Try.checked }
namespace Rows
def none {H : Type} : Left H := { results := [], args := [] }

/-- 'laws.FnExactTermsOf': WHATEVER THE INPUT: true; the input reads as it did. -/
def fnExactTermsOfSpec : ChangeSpec := { name := "fnExactTermsOf", fn := fun _ => fun
  | [d] => { results := [.lit (.bool true)], args := [d] }
  | _ => none }
def fnExactTermsOfRow : OpenClaim := { program := "ytccldjodijdciaa", sum := "c2b949d950707aa4cd6b8aad28d6d4197a91d5484fc36210522de5eba25d522d", func := "loop.example/g00621/laws.FnExactTermsOf", spec := "fnExactTermsOf", apart := false }
def FnExactTermsOfSaid : Prop := fnExactTermsOfRow.holds Try.pinned (OpenSpec.ofChange fnExactTermsOfSpec)

/-- ITS FALSE NEIGHBOUR: 'it returns false'. Refute it at one input. -/
def fnExactTermsOfWrong : ChangeSpec := { name := "fnExactTermsOf", fn := fun _ => fun
  | [d] => { results := [.lit (.bool false)], args := [d] }
  | _ => none }
def FnExactTermsOfWrongFalsely : Prop := fnExactTermsOfRow.holds Try.pinned (OpenSpec.ofChange fnExactTermsOfWrong)

/-- 'laws.FnExactPlain': WHATEVER THE INPUT: true; the input reads as it did. -/
def fnExactPlainSpec : ChangeSpec := { name := "fnExactPlain", fn := fun _ => fun
  | [d] => { results := [.lit (.bool true)], args := [d] }
  | _ => none }
def fnExactPlainRow : OpenClaim := { program := "ytccldjodijdciaa", sum := "c2b949d950707aa4cd6b8aad28d6d4197a91d5484fc36210522de5eba25d522d", func := "loop.example/g00621/laws.FnExactPlain", spec := "fnExactPlain", apart := false }
def FnExactPlainSaid : Prop := fnExactPlainRow.holds Try.pinned (OpenSpec.ofChange fnExactPlainSpec)

/-- ITS FALSE NEIGHBOUR: 'it returns false'. Refute it at one input. -/
def fnExactPlainWrong : ChangeSpec := { name := "fnExactPlain", fn := fun _ => fun
  | [d] => { results := [.lit (.bool false)], args := [d] }
  | _ => none }
def FnExactPlainWrongFalsely : Prop := fnExactPlainRow.holds Try.pinned (OpenSpec.ofChange fnExactPlainWrong)

/-- 'laws.FnExactSizeOf': WHATEVER THE INPUT: true; the input reads as it did. -/
def fnExactSizeOfSpec : ChangeSpec := { name := "fnExactSizeOf", fn := fun _ => fun
  | [d] => { results := [.lit (.bool true)], args := [d] }
  | _ => none }
def fnExactSizeOfRow : OpenClaim := { program := "ytccldjodijdciaa", sum := "c2b949d950707aa4cd6b8aad28d6d4197a91d5484fc36210522de5eba25d522d", func := "loop.example/g00621/laws.FnExactSizeOf", spec := "fnExactSizeOf", apart := false }
def FnExactSizeOfSaid : Prop := fnExactSizeOfRow.holds Try.pinned (OpenSpec.ofChange fnExactSizeOfSpec)

/-- ITS FALSE NEIGHBOUR: 'it returns false'. Refute it at one input. -/
def fnExactSizeOfWrong : ChangeSpec := { name := "fnExactSizeOf", fn := fun _ => fun
  | [d] => { results := [.lit (.bool false)], args := [d] }
  | _ => none }
def FnExactSizeOfWrongFalsely : Prop := fnExactSizeOfRow.holds Try.pinned (OpenSpec.ofChange fnExactSizeOfWrong)

/-- 'laws.FnExactStateOk': WHATEVER THE INPUT: true; the input reads as it did. -/
def fnExactStateOkSpec : ChangeSpec := { name := "fnExactStateOk", fn := fun _ => fun
  | [d] => { results := [.lit (.bool true)], args := [d] }
  | _ => none }
def fnExactStateOkRow : OpenClaim := { program := "ytccldjodijdciaa", sum := "c2b949d950707aa4cd6b8aad28d6d4197a91d5484fc36210522de5eba25d522d", func := "loop.example/g00621/laws.FnExactStateOk", spec := "fnExactStateOk", apart := false }
def FnExactStateOkSaid : Prop := fnExactStateOkRow.holds Try.pinned (OpenSpec.ofChange fnExactStateOkSpec)

/-- ITS FALSE NEIGHBOUR: 'it returns false'. Refute it at one input. -/
def fnExactStateOkWrong : ChangeSpec := { name := "fnExactStateOk", fn := fun _ => fun
  | [d] => { results := [.lit (.bool false)], args := [d] }
  | _ => none }
def FnExactStateOkWrongFalsely : Prop := fnExactStateOkRow.holds Try.pinned (OpenSpec.ofChange fnExactStateOkWrong)

/-- 'laws.FnExactDomain': WHATEVER THE INPUT: true; the input reads as it did. -/
def fnExactDomainSpec : ChangeSpec := { name := "fnExactDomain", fn := fun _ => fun
  | [d] => { results := [.lit (.bool true)], args := [d] }
  | _ => none }
def fnExactDomainRow : OpenClaim := { program := "ytccldjodijdciaa", sum := "c2b949d950707aa4cd6b8aad28d6d4197a91d5484fc36210522de5eba25d522d", func := "loop.example/g00621/laws.FnExactDomain", spec := "fnExactDomain", unfollowed := true, recurses := true, apart := false }
def FnExactDomainSaid : Prop := fnExactDomainRow.holds Try.pinned (OpenSpec.ofChange fnExactDomainSpec)

/-- ITS FALSE NEIGHBOUR: 'it returns false'. Refute it at one input. -/
def fnExactDomainWrong : ChangeSpec := { name := "fnExactDomain", fn := fun _ => fun
  | [d] => { results := [.lit (.bool false)], args := [d] }
  | _ => none }
def FnExactDomainWrongFalsely : Prop := fnExactDomainRow.holds Try.pinned (OpenSpec.ofChange fnExactDomainWrong)

/-- 'laws.FnExactNext': WHATEVER THE INPUT: true; the input reads as it did. -/
def fnExactNextSpec : ChangeSpec := { name := "fnExactNext", fn := fun _ => fun
  | [d1, d2] => { results := [.lit (.bool true)], args := [d1, d2] }
  | _ => none }
def fnExactNextRow : OpenClaim := { program := "ytccldjodijdciaa", sum := "c2b949d950707aa4cd6b8aad28d6d4197a91d5484fc36210522de5eba25d522d", func := "loop.example/g00621/laws.FnExactNext", spec := "fnExactNext", apart := false }
def FnExactNextSaid : Prop := fnExactNextRow.holds Try.pinned (OpenSpec.ofChange fnExactNextSpec)

/-- ITS FALSE NEIGHBOUR: 'it returns false'. Refute it at one input. -/
def fnExactNextWrong : ChangeSpec := { name := "fnExactNext", fn := fun _ => fun
  | [d1, d2] => { results := [.lit (.bool false)], args := [d1, d2] }
  | _ => none }
def FnExactNextWrongFalsely : Prop := fnExactNextRow.holds Try.pinned (OpenSpec.ofChange fnExactNextWrong)

/-- 'laws.FnExactCmdOk': WHATEVER THE INPUT: true; the input reads as it did. -/
def fnExactCmdOkSpec : ChangeSpec := { name := "fnExactCmdOk", fn := fun _ => fun
  | [d] => { results := [.lit (.bool true)], args := [d] }
  | _ => none }
def fnExactCmdOkRow : OpenClaim := { program := "ytccldjodijdciaa", sum := "c2b949d950707aa4cd6b8aad28d6d4197a91d5484fc36210522de5eba25d522d", func := "loop.example/g00621/laws.FnExactCmdOk", spec := "fnExactCmdOk", recurses := true, loops := true, apart := false }
def FnExactCmdOkSaid : Prop := fnExactCmdOkRow.holds Try.pinned (OpenSpec.ofChange fnExactCmdOkSpec)

/-- ITS FALSE NEIGHBOUR: 'it returns false'. Refute it at one input. -/
def fnExactCmdOkWrong : ChangeSpec := { name := "fnExactCmdOk", fn := fun _ => fun
  | [d] => { results := [.lit (.bool false)], args := [d] }
  | _ => none }
def FnExactCmdOkWrongFalsely : Prop := fnExactCmdOkRow.holds Try.pinned (OpenSpec.ofChange fnExactCmdOkWrong)

/-- 'laws.FnExactProgOk': WHATEVER THE INPUT: true; the input reads as it did. -/
def fnExactProgOkSpec : ChangeSpec := { name := "fnExactProgOk", fn := fun _ => fun
  | [d] => { results := [.lit (.bool true)], args := [d] }
  | _ => none }
def fnExactProgOkRow : OpenClaim := { program := "ytccldjodijdciaa", sum := "c2b949d950707aa4cd6b8aad28d6d4197a91d5484fc36210522de5eba25d522d", func := "loop.example/g00621/laws.FnExactProgOk", spec := "fnExactProgOk", recurses := true, loops := true, apart := false }
def FnExactProgOkSaid : Prop := fnExactProgOkRow.holds Try.pinned (OpenSpec.ofChange fnExactProgOkSpec)

/-- ITS FALSE NEIGHBOUR: 'it returns false'. Refute it at one input. -/
def fnExactProgOkWrong : ChangeSpec := { name := "fnExactProgOk", fn := fun _ => fun
  | [d] => { results := [.lit (.bool false)], args := [d] }
  | _ => none }
def FnExactProgOkWrongFalsely : Prop := fnExactProgOkRow.holds Try.pinned (OpenSpec.ofChange fnExactProgOkWrong)

/-- 'laws.FnExactSize': WHATEVER THE INPUT: true; the input reads as it did. -/
def fnExactSizeSpec : ChangeSpec := { name := "fnExactSize", fn := fun _ => fun
  | [d] => { results := [.lit (.bool true)], args := [d] }
  | _ => none }
def fnExactSizeRow : OpenClaim := { program := "ytccldjodijdciaa", sum := "c2b949d950707aa4cd6b8aad28d6d4197a91d5484fc36210522de5eba25d522d", func := "loop.example/g00621/laws.FnExactSize", spec := "fnExactSize", recurses := true, loops := true, apart := false }
def FnExactSizeSaid : Prop := fnExactSizeRow.holds Try.pinned (OpenSpec.ofChange fnExactSizeSpec)

/-- ITS FALSE NEIGHBOUR: 'it returns false'. Refute it at one input. -/
def fnExactSizeWrong : ChangeSpec := { name := "fnExactSize", fn := fun _ => fun
  | [d] => { results := [.lit (.bool false)], args := [d] }
  | _ => none }
def FnExactSizeWrongFalsely : Prop := fnExactSizeRow.holds Try.pinned (OpenSpec.ofChange fnExactSizeWrong)

/-- 'laws.FnExactChanges': WHATEVER THE INPUT: true; the input reads as it did. -/
def fnExactChangesSpec : ChangeSpec := { name := "fnExactChanges", fn := fun _ => fun
  | [d] => { results := [.lit (.bool true)], args := [d] }
  | _ => none }
def fnExactChangesRow : OpenClaim := { program := "ytccldjodijdciaa", sum := "c2b949d950707aa4cd6b8aad28d6d4197a91d5484fc36210522de5eba25d522d", func := "loop.example/g00621/laws.FnExactChanges", spec := "fnExactChanges", unfollowed := true, recurses := true, loops := true, apart := false }
def FnExactChangesSaid : Prop := fnExactChangesRow.holds Try.pinned (OpenSpec.ofChange fnExactChangesSpec)

/-- ITS FALSE NEIGHBOUR: 'it returns false'. Refute it at one input. -/
def fnExactChangesWrong : ChangeSpec := { name := "fnExactChanges", fn := fun _ => fun
  | [d] => { results := [.lit (.bool false)], args := [d] }
  | _ => none }
def FnExactChangesWrongFalsely : Prop := fnExactChangesRow.holds Try.pinned (OpenSpec.ofChange fnExactChangesWrong)

/-- 'laws.FnExactStep': WHATEVER THE INPUT: true; the input reads as it did. -/
def fnExactStepSpec : ChangeSpec := { name := "fnExactStep", fn := fun _ => fun
  | [d1, d2, d3] => { results := [.lit (.bool true)], args := [d1, d2, d3] }
  | _ => none }
def fnExactStepRow : OpenClaim := { program := "ytccldjodijdciaa", sum := "c2b949d950707aa4cd6b8aad28d6d4197a91d5484fc36210522de5eba25d522d", func := "loop.example/g00621/laws.FnExactStep", spec := "fnExactStep", unfollowed := true, recurses := true, loops := true, apart := false }
def FnExactStepSaid : Prop := fnExactStepRow.holds Try.pinned (OpenSpec.ofChange fnExactStepSpec)

/-- ITS FALSE NEIGHBOUR: 'it returns false'. Refute it at one input. -/
def fnExactStepWrong : ChangeSpec := { name := "fnExactStep", fn := fun _ => fun
  | [d1, d2, d3] => { results := [.lit (.bool false)], args := [d1, d2, d3] }
  | _ => none }
def FnExactStepWrongFalsely : Prop := fnExactStepRow.holds Try.pinned (OpenSpec.ofChange fnExactStepWrong)

/-- 'laws.FnExactRun': WHATEVER THE INPUT: true; the input reads as it did. -/
def fnExactRunSpec : ChangeSpec := { name := "fnExactRun", fn := fun _ => fun
  | [d1, d2, d3, d4] => { results := [.lit (.bool true)], args := [d1, d2, d3, d4] }
  | _ => none }
def fnExactRunRow : OpenClaim := { program := "ytccldjodijdciaa", sum := "c2b949d950707aa4cd6b8aad28d6d4197a91d5484fc36210522de5eba25d522d", func := "loop.example/g00621/laws.FnExactRun", spec := "fnExactRun", unfollowed := true, recurses := true, loops := true, apart := false }
def FnExactRunSaid : Prop := fnExactRunRow.holds Try.pinned (OpenSpec.ofChange fnExactRunSpec)

/-- ITS FALSE NEIGHBOUR: 'it returns false'. Refute it at one input. -/
def fnExactRunWrong : ChangeSpec := { name := "fnExactRun", fn := fun _ => fun
  | [d1, d2, d3, d4] => { results := [.lit (.bool false)], args := [d1, d2, d3, d4] }
  | _ => none }
def FnExactRunWrongFalsely : Prop := fnExactRunRow.holds Try.pinned (OpenSpec.ofChange fnExactRunWrong)

/-- 'laws.FnExactDeep': WHATEVER THE INPUT: true; the input reads as it did. -/
def fnExactDeepSpec : ChangeSpec := { name := "fnExactDeep", fn := fun _ => fun
  | [d] => { results := [.lit (.bool true)], args := [d] }
  | _ => none }
def fnExactDeepRow : OpenClaim := { program := "ytccldjodijdciaa", sum := "c2b949d950707aa4cd6b8aad28d6d4197a91d5484fc36210522de5eba25d522d", func := "loop.example/g00621/laws.FnExactDeep", spec := "fnExactDeep", recurses := true, loops := true, apart := false }
def FnExactDeepSaid : Prop := fnExactDeepRow.holds Try.pinned (OpenSpec.ofChange fnExactDeepSpec)

/-- ITS FALSE NEIGHBOUR: 'it returns false'. Refute it at one input. -/
def fnExactDeepWrong : ChangeSpec := { name := "fnExactDeep", fn := fun _ => fun
  | [d] => { results := [.lit (.bool false)], args := [d] }
  | _ => none }
def FnExactDeepWrongFalsely : Prop := fnExactDeepRow.holds Try.pinned (OpenSpec.ofChange fnExactDeepWrong)

/-- 'laws.FnExactIsPlain': WHATEVER THE INPUT: true; the input reads as it did. -/
def fnExactIsPlainSpec : ChangeSpec := { name := "fnExactIsPlain", fn := fun _ => fun
  | [d] => { results := [.lit (.bool true)], args := [d] }
  | _ => none }
def fnExactIsPlainRow : OpenClaim := { program := "ytccldjodijdciaa", sum := "c2b949d950707aa4cd6b8aad28d6d4197a91d5484fc36210522de5eba25d522d", func := "loop.example/g00621/laws.FnExactIsPlain", spec := "fnExactIsPlain", unfollowed := true, recurses := true, loops := true, apart := false }
def FnExactIsPlainSaid : Prop := fnExactIsPlainRow.holds Try.pinned (OpenSpec.ofChange fnExactIsPlainSpec)

/-- ITS FALSE NEIGHBOUR: 'it returns false'. Refute it at one input. -/
def fnExactIsPlainWrong : ChangeSpec := { name := "fnExactIsPlain", fn := fun _ => fun
  | [d] => { results := [.lit (.bool false)], args := [d] }
  | _ => none }
def FnExactIsPlainWrongFalsely : Prop := fnExactIsPlainRow.holds Try.pinned (OpenSpec.ofChange fnExactIsPlainWrong)

/-- 'laws.FnExactLoops': WHATEVER THE INPUT: true; the input reads as it did. -/
def fnExactLoopsSpec : ChangeSpec := { name := "fnExactLoops", fn := fun _ => fun
  | [d] => { results := [.lit (.bool true)], args := [d] }
  | _ => none }
def fnExactLoopsRow : OpenClaim := { program := "ytccldjodijdciaa", sum := "c2b949d950707aa4cd6b8aad28d6d4197a91d5484fc36210522de5eba25d522d", func := "loop.example/g00621/laws.FnExactLoops", spec := "fnExactLoops", recurses := true, loops := true, apart := false }
def FnExactLoopsSaid : Prop := fnExactLoopsRow.holds Try.pinned (OpenSpec.ofChange fnExactLoopsSpec)

/-- ITS FALSE NEIGHBOUR: 'it returns false'. Refute it at one input. -/
def fnExactLoopsWrong : ChangeSpec := { name := "fnExactLoops", fn := fun _ => fun
  | [d] => { results := [.lit (.bool false)], args := [d] }
  | _ => none }
def FnExactLoopsWrongFalsely : Prop := fnExactLoopsRow.holds Try.pinned (OpenSpec.ofChange fnExactLoopsWrong)

/-- 'laws.FnExactMentions': WHATEVER THE INPUT: true; the input reads as it did. -/
def fnExactMentionsSpec : ChangeSpec := { name := "fnExactMentions", fn := fun _ => fun
  | [d] => { results := [.lit (.bool true)], args := [d] }
  | _ => none }
def fnExactMentionsRow : OpenClaim := { program := "ytccldjodijdciaa", sum := "c2b949d950707aa4cd6b8aad28d6d4197a91d5484fc36210522de5eba25d522d", func := "loop.example/g00621/laws.FnExactMentions", spec := "fnExactMentions", unfollowed := true, recurses := true, loops := true, apart := false }
def FnExactMentionsSaid : Prop := fnExactMentionsRow.holds Try.pinned (OpenSpec.ofChange fnExactMentionsSpec)

/-- ITS FALSE NEIGHBOUR: 'it returns false'. Refute it at one input. -/
def fnExactMentionsWrong : ChangeSpec := { name := "fnExactMentions", fn := fun _ => fun
  | [d] => { results := [.lit (.bool false)], args := [d] }
  | _ => none }
def FnExactMentionsWrongFalsely : Prop := fnExactMentionsRow.holds Try.pinned (OpenSpec.ofChange fnExactMentionsWrong)

/-- 'laws.FnExactSeq': WHATEVER THE INPUT: true; the input reads as it did. -/
def fnExactSeqSpec : ChangeSpec := { name := "fnExactSeq", fn := fun _ => fun
  | [d1, d2] => { results := [.lit (.bool true)], args := [d1, d2] }
  | _ => none }
def fnExactSeqRow : OpenClaim := { program := "ytccldjodijdciaa", sum := "c2b949d950707aa4cd6b8aad28d6d4197a91d5484fc36210522de5eba25d522d", func := "loop.example/g00621/laws.FnExactSeq", spec := "fnExactSeq", recurses := true, loops := true, apart := false }
def FnExactSeqSaid : Prop := fnExactSeqRow.holds Try.pinned (OpenSpec.ofChange fnExactSeqSpec)

/-- ITS FALSE NEIGHBOUR: 'it returns false'. Refute it at one input. -/
def fnExactSeqWrong : ChangeSpec := { name := "fnExactSeq", fn := fun _ => fun
  | [d1, d2] => { results := [.lit (.bool false)], args := [d1, d2] }
  | _ => none }
def FnExactSeqWrongFalsely : Prop := fnExactSeqRow.holds Try.pinned (OpenSpec.ofChange fnExactSeqWrong)

/-- 'laws.FnExactGuard': WHATEVER THE INPUT: true; the input reads as it did. -/
def fnExactGuardSpec : ChangeSpec := { name := "fnExactGuard", fn := fun _ => fun
  | [d1, d2] => { results := [.lit (.bool true)], args := [d1, d2] }
  | _ => none }
def fnExactGuardRow : OpenClaim := { program := "ytccldjodijdciaa", sum := "c2b949d950707aa4cd6b8aad28d6d4197a91d5484fc36210522de5eba25d522d", func := "loop.example/g00621/laws.FnExactGuard", spec := "fnExactGuard", recurses := true, loops := true, apart := false }
def FnExactGuardSaid : Prop := fnExactGuardRow.holds Try.pinned (OpenSpec.ofChange fnExactGuardSpec)

/-- ITS FALSE NEIGHBOUR: 'it returns false'. Refute it at one input. -/
def fnExactGuardWrong : ChangeSpec := { name := "fnExactGuard", fn := fun _ => fun
  | [d1, d2] => { results := [.lit (.bool false)], args := [d1, d2] }
  | _ => none }
def FnExactGuardWrongFalsely : Prop := fnExactGuardRow.holds Try.pinned (OpenSpec.ofChange fnExactGuardWrong)

/-- 'laws.FnExactTripleOk': WHATEVER THE INPUT: true; the input reads as it did. -/
def fnExactTripleOkSpec : ChangeSpec := { name := "fnExactTripleOk", fn := fun _ => fun
  | [d] => { results := [.lit (.bool true)], args := [d] }
  | _ => none }
def fnExactTripleOkRow : OpenClaim := { program := "ytccldjodijdciaa", sum := "c2b949d950707aa4cd6b8aad28d6d4197a91d5484fc36210522de5eba25d522d", func := "loop.example/g00621/laws.FnExactTripleOk", spec := "fnExactTripleOk", recurses := true, loops := true, apart := false }
def FnExactTripleOkSaid : Prop := fnExactTripleOkRow.holds Try.pinned (OpenSpec.ofChange fnExactTripleOkSpec)

/-- ITS FALSE NEIGHBOUR: 'it returns false'. Refute it at one input. -/
def fnExactTripleOkWrong : ChangeSpec := { name := "fnExactTripleOk", fn := fun _ => fun
  | [d] => { results := [.lit (.bool false)], args := [d] }
  | _ => none }
def FnExactTripleOkWrongFalsely : Prop := fnExactTripleOkRow.holds Try.pinned (OpenSpec.ofChange fnExactTripleOkWrong)

/- THE SECOND FORM. 'bulk': how many values and letters a reading holds, each counted each time it is reached (what is shared counts as often as it is met; a slice's spare places count too). A statement '..UptoSaid' is the law's where the arguments, and the package variables that the reading takes, are together of bulk at most 1048576: NARROWER than '..Said'. Prove '..Said' where nothing that the law and all that it calls make is longer than what came in: it says more and counts as full. Else prove '..UptoSaid'. A law counts once. -/
mutual
def uptoBulk {H : Type} : DataW H → Nat
  | .lit (.string bytes) => bytes.length + 1
  | .lit _ => 1
  | .nil => 1
  | .ptr d => uptoBulk d + 1
  | .slice elems spare => uptoBulkAll elems + uptoBulkAll spare + 1
  | .agg parts => uptoBulkAll parts + 1
  | .iface _ d => uptoBulk d + 1
  | .map entries => uptoBulkEntries entries + 1
  | .held _ => 1
def uptoBulkAll {H : Type} : List (DataW H) → Nat
  | [] => 0
  | d :: r => uptoBulk d + uptoBulkAll r
def uptoBulkEntries {H : Type} : List (Lit × DataW H) → Nat
  | [] => 0
  | x :: r => uptoBulkEntry x + uptoBulkEntries r
def uptoBulkEntry {H : Type} : Lit × DataW H → Nat
  | (.string bytes, d) => bytes.length + uptoBulk d + 1
  | (_, d) => uptoBulk d + 1
 end
def uptoSmall : (H : Type) → List (DataW H) → Bool := fun _ ds => decide (uptoBulkAll ds ≤ 1048576)
def OpenSpec.upto (s : _root_.Go.ChangeSpec) : _root_.Go.OpenSpec := { _root_.Go.OpenSpec.ofChange s with cond := some uptoSmall }

/-- 'laws.FnExactTermsOf', WHERE WHAT IT READS IS OF BULK AT MOST 1048576: true; the input reads as it did. -/
def fnExactTermsOfUptoRow : OpenClaim := { program := "ytccldjodijdciaa", sum := "c2b949d950707aa4cd6b8aad28d6d4197a91d5484fc36210522de5eba25d522d", func := "loop.example/g00621/laws.FnExactTermsOf", spec := "fnExactTermsOf", apart := false, narrowed := true }
def FnExactTermsOfUptoSaid : Prop := fnExactTermsOfUptoRow.holds Try.pinned (OpenSpec.upto fnExactTermsOfSpec)

/-- 'laws.FnExactPlain', WHERE WHAT IT READS IS OF BULK AT MOST 1048576: true; the input reads as it did. -/
def fnExactPlainUptoRow : OpenClaim := { program := "ytccldjodijdciaa", sum := "c2b949d950707aa4cd6b8aad28d6d4197a91d5484fc36210522de5eba25d522d", func := "loop.example/g00621/laws.FnExactPlain", spec := "fnExactPlain", apart := false, narrowed := true }
def FnExactPlainUptoSaid : Prop := fnExactPlainUptoRow.holds Try.pinned (OpenSpec.upto fnExactPlainSpec)

/-- 'laws.FnExactSizeOf', WHERE WHAT IT READS IS OF BULK AT MOST 1048576: true; the input reads as it did. -/
def fnExactSizeOfUptoRow : OpenClaim := { program := "ytccldjodijdciaa", sum := "c2b949d950707aa4cd6b8aad28d6d4197a91d5484fc36210522de5eba25d522d", func := "loop.example/g00621/laws.FnExactSizeOf", spec := "fnExactSizeOf", apart := false, narrowed := true }
def FnExactSizeOfUptoSaid : Prop := fnExactSizeOfUptoRow.holds Try.pinned (OpenSpec.upto fnExactSizeOfSpec)

/-- 'laws.FnExactStateOk', WHERE WHAT IT READS IS OF BULK AT MOST 1048576: true; the input reads as it did. -/
def fnExactStateOkUptoRow : OpenClaim := { program := "ytccldjodijdciaa", sum := "c2b949d950707aa4cd6b8aad28d6d4197a91d5484fc36210522de5eba25d522d", func := "loop.example/g00621/laws.FnExactStateOk", spec := "fnExactStateOk", apart := false, narrowed := true }
def FnExactStateOkUptoSaid : Prop := fnExactStateOkUptoRow.holds Try.pinned (OpenSpec.upto fnExactStateOkSpec)

/-- 'laws.FnExactDomain', WHERE WHAT IT READS IS OF BULK AT MOST 1048576: true; the input reads as it did. -/
def fnExactDomainUptoRow : OpenClaim := { program := "ytccldjodijdciaa", sum := "c2b949d950707aa4cd6b8aad28d6d4197a91d5484fc36210522de5eba25d522d", func := "loop.example/g00621/laws.FnExactDomain", spec := "fnExactDomain", unfollowed := true, recurses := true, apart := false, narrowed := true }
def FnExactDomainUptoSaid : Prop := fnExactDomainUptoRow.holds Try.pinned (OpenSpec.upto fnExactDomainSpec)

/-- 'laws.FnExactNext', WHERE WHAT IT READS IS OF BULK AT MOST 1048576: true; the input reads as it did. -/
def fnExactNextUptoRow : OpenClaim := { program := "ytccldjodijdciaa", sum := "c2b949d950707aa4cd6b8aad28d6d4197a91d5484fc36210522de5eba25d522d", func := "loop.example/g00621/laws.FnExactNext", spec := "fnExactNext", apart := false, narrowed := true }
def FnExactNextUptoSaid : Prop := fnExactNextUptoRow.holds Try.pinned (OpenSpec.upto fnExactNextSpec)

/-- 'laws.FnExactCmdOk', WHERE WHAT IT READS IS OF BULK AT MOST 1048576: true; the input reads as it did. -/
def fnExactCmdOkUptoRow : OpenClaim := { program := "ytccldjodijdciaa", sum := "c2b949d950707aa4cd6b8aad28d6d4197a91d5484fc36210522de5eba25d522d", func := "loop.example/g00621/laws.FnExactCmdOk", spec := "fnExactCmdOk", recurses := true, loops := true, apart := false, narrowed := true }
def FnExactCmdOkUptoSaid : Prop := fnExactCmdOkUptoRow.holds Try.pinned (OpenSpec.upto fnExactCmdOkSpec)

/-- 'laws.FnExactProgOk', WHERE WHAT IT READS IS OF BULK AT MOST 1048576: true; the input reads as it did. -/
def fnExactProgOkUptoRow : OpenClaim := { program := "ytccldjodijdciaa", sum := "c2b949d950707aa4cd6b8aad28d6d4197a91d5484fc36210522de5eba25d522d", func := "loop.example/g00621/laws.FnExactProgOk", spec := "fnExactProgOk", recurses := true, loops := true, apart := false, narrowed := true }
def FnExactProgOkUptoSaid : Prop := fnExactProgOkUptoRow.holds Try.pinned (OpenSpec.upto fnExactProgOkSpec)

/-- 'laws.FnExactSize', WHERE WHAT IT READS IS OF BULK AT MOST 1048576: true; the input reads as it did. -/
def fnExactSizeUptoRow : OpenClaim := { program := "ytccldjodijdciaa", sum := "c2b949d950707aa4cd6b8aad28d6d4197a91d5484fc36210522de5eba25d522d", func := "loop.example/g00621/laws.FnExactSize", spec := "fnExactSize", recurses := true, loops := true, apart := false, narrowed := true }
def FnExactSizeUptoSaid : Prop := fnExactSizeUptoRow.holds Try.pinned (OpenSpec.upto fnExactSizeSpec)

/-- 'laws.FnExactChanges', WHERE WHAT IT READS IS OF BULK AT MOST 1048576: true; the input reads as it did. -/
def fnExactChangesUptoRow : OpenClaim := { program := "ytccldjodijdciaa", sum := "c2b949d950707aa4cd6b8aad28d6d4197a91d5484fc36210522de5eba25d522d", func := "loop.example/g00621/laws.FnExactChanges", spec := "fnExactChanges", unfollowed := true, recurses := true, loops := true, apart := false, narrowed := true }
def FnExactChangesUptoSaid : Prop := fnExactChangesUptoRow.holds Try.pinned (OpenSpec.upto fnExactChangesSpec)

/-- 'laws.FnExactStep', WHERE WHAT IT READS IS OF BULK AT MOST 1048576: true; the input reads as it did. -/
def fnExactStepUptoRow : OpenClaim := { program := "ytccldjodijdciaa", sum := "c2b949d950707aa4cd6b8aad28d6d4197a91d5484fc36210522de5eba25d522d", func := "loop.example/g00621/laws.FnExactStep", spec := "fnExactStep", unfollowed := true, recurses := true, loops := true, apart := false, narrowed := true }
def FnExactStepUptoSaid : Prop := fnExactStepUptoRow.holds Try.pinned (OpenSpec.upto fnExactStepSpec)

/-- 'laws.FnExactRun', WHERE WHAT IT READS IS OF BULK AT MOST 1048576: true; the input reads as it did. -/
def fnExactRunUptoRow : OpenClaim := { program := "ytccldjodijdciaa", sum := "c2b949d950707aa4cd6b8aad28d6d4197a91d5484fc36210522de5eba25d522d", func := "loop.example/g00621/laws.FnExactRun", spec := "fnExactRun", unfollowed := true, recurses := true, loops := true, apart := false, narrowed := true }
def FnExactRunUptoSaid : Prop := fnExactRunUptoRow.holds Try.pinned (OpenSpec.upto fnExactRunSpec)

/-- 'laws.FnExactDeep', WHERE WHAT IT READS IS OF BULK AT MOST 1048576: true; the input reads as it did. -/
def fnExactDeepUptoRow : OpenClaim := { program := "ytccldjodijdciaa", sum := "c2b949d950707aa4cd6b8aad28d6d4197a91d5484fc36210522de5eba25d522d", func := "loop.example/g00621/laws.FnExactDeep", spec := "fnExactDeep", recurses := true, loops := true, apart := false, narrowed := true }
def FnExactDeepUptoSaid : Prop := fnExactDeepUptoRow.holds Try.pinned (OpenSpec.upto fnExactDeepSpec)

/-- 'laws.FnExactIsPlain', WHERE WHAT IT READS IS OF BULK AT MOST 1048576: true; the input reads as it did. -/
def fnExactIsPlainUptoRow : OpenClaim := { program := "ytccldjodijdciaa", sum := "c2b949d950707aa4cd6b8aad28d6d4197a91d5484fc36210522de5eba25d522d", func := "loop.example/g00621/laws.FnExactIsPlain", spec := "fnExactIsPlain", unfollowed := true, recurses := true, loops := true, apart := false, narrowed := true }
def FnExactIsPlainUptoSaid : Prop := fnExactIsPlainUptoRow.holds Try.pinned (OpenSpec.upto fnExactIsPlainSpec)

/-- 'laws.FnExactLoops', WHERE WHAT IT READS IS OF BULK AT MOST 1048576: true; the input reads as it did. -/
def fnExactLoopsUptoRow : OpenClaim := { program := "ytccldjodijdciaa", sum := "c2b949d950707aa4cd6b8aad28d6d4197a91d5484fc36210522de5eba25d522d", func := "loop.example/g00621/laws.FnExactLoops", spec := "fnExactLoops", recurses := true, loops := true, apart := false, narrowed := true }
def FnExactLoopsUptoSaid : Prop := fnExactLoopsUptoRow.holds Try.pinned (OpenSpec.upto fnExactLoopsSpec)

/-- 'laws.FnExactMentions', WHERE WHAT IT READS IS OF BULK AT MOST 1048576: true; the input reads as it did. -/
def fnExactMentionsUptoRow : OpenClaim := { program := "ytccldjodijdciaa", sum := "c2b949d950707aa4cd6b8aad28d6d4197a91d5484fc36210522de5eba25d522d", func := "loop.example/g00621/laws.FnExactMentions", spec := "fnExactMentions", unfollowed := true, recurses := true, loops := true, apart := false, narrowed := true }
def FnExactMentionsUptoSaid : Prop := fnExactMentionsUptoRow.holds Try.pinned (OpenSpec.upto fnExactMentionsSpec)

/-- 'laws.FnExactSeq', WHERE WHAT IT READS IS OF BULK AT MOST 1048576: true; the input reads as it did. -/
def fnExactSeqUptoRow : OpenClaim := { program := "ytccldjodijdciaa", sum := "c2b949d950707aa4cd6b8aad28d6d4197a91d5484fc36210522de5eba25d522d", func := "loop.example/g00621/laws.FnExactSeq", spec := "fnExactSeq", recurses := true, loops := true, apart := false, narrowed := true }
def FnExactSeqUptoSaid : Prop := fnExactSeqUptoRow.holds Try.pinned (OpenSpec.upto fnExactSeqSpec)

/-- 'laws.FnExactGuard', WHERE WHAT IT READS IS OF BULK AT MOST 1048576: true; the input reads as it did. -/
def fnExactGuardUptoRow : OpenClaim := { program := "ytccldjodijdciaa", sum := "c2b949d950707aa4cd6b8aad28d6d4197a91d5484fc36210522de5eba25d522d", func := "loop.example/g00621/laws.FnExactGuard", spec := "fnExactGuard", recurses := true, loops := true, apart := false, narrowed := true }
def FnExactGuardUptoSaid : Prop := fnExactGuardUptoRow.holds Try.pinned (OpenSpec.upto fnExactGuardSpec)

/-- 'laws.FnExactTripleOk', WHERE WHAT IT READS IS OF BULK AT MOST 1048576: true; the input reads as it did. -/
def fnExactTripleOkUptoRow : OpenClaim := { program := "ytccldjodijdciaa", sum := "c2b949d950707aa4cd6b8aad28d6d4197a91d5484fc36210522de5eba25d522d", func := "loop.example/g00621/laws.FnExactTripleOk", spec := "fnExactTripleOk", recurses := true, loops := true, apart := false, narrowed := true }
def FnExactTripleOkUptoSaid : Prop := fnExactTripleOkUptoRow.holds Try.pinned (OpenSpec.upto fnExactTripleOkSpec)

end Rows
end Go.Proofs.Ytccldjodijdciaa
