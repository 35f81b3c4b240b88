/-
  NARROWER THAN 'FOR EVERY INPUT', by the rows' own cells (each row's printed sentence says how): FnExactVerdictText: laid · FnExactCountOf: laid · FnExactAllHold: laid.
  DERIVED. THE GIVEN ROWS OF THIS SEAT. 3 by the template 'for every input the law returns true; each argument reads behind the call as it read before'; 0 by the template 'total and deterministic' (their statements: YtccldjodijdciaaDoorTotals.lean).
  GIVEN WITH THE SEED: the statements are not yours to turn. If you find one false, say at which input.
  Laid BY PROGRAM, IN A SANDBOX (cutbox-rows.mjs): the forced cells as the released guide's own fill.sh prints them over the translation 6323a67390d161f7… (all of the seat's roots in one cut). By AI agents, Wed Nov 11 2026. No macro, syntax, notation, axiom, sorry.
-/
import Derived.Test.YtccldjodijdciaaDoorChecked
import GoSem.Claim
import GoSem.ClaimJoined
import GoSem.ClaimMapViews
import Derived.JoinedTies
import Derived.KernelRfl
namespace Go.Proofs.YtccldjodijdciaaDoor
/- THE CELL 'sum', in the pinned program and in every row, IS THE sha256 OF THE DUMP (.gsa) THAT YtccldjodijdciaaDoorProg.lean LOADS. Nothing in Lean hashes anything: it is a label: what it is worth is what the hold of that sum in a sandbox is worth. -/
noncomputable def Tryd.pinned : Pinned := { name := "ytccldjodijdciaadoor", sum := "6323a67390d161f71a7166c5fd25ec706401f7eda2252d231f561aa1a305d0b3", checked := Tryd.checked }
namespace Rows
def none {H : Type} : Left H := { results := [], args := [] }

/- WHAT THE LISTED PACKAGE-LEVEL VARIABLES READ AS WHEN THE CALL BEGINS. Each datum BY PROGRAM (the guide's laid-datum.mjs) off the statement by which the dump's own 'gosem.cut.vars' lays the variable. In a bare row this is a premise. The card (YtccldjodijdciaaDoorCards.lean) ties it to the program's text. -/
def laid_loop_example_g00621_impl_verdictWords {H : Type} : DataW H := .agg [.lit (.string [104, 111, 108, 100, 115]), .lit (.string [102, 97, 117, 108, 116]), .lit (.string [112, 111, 115, 116]), .lit (.string [105, 110, 118, 97, 114, 105, 97, 110, 116]), .lit (.string [103, 97, 118, 101, 32, 117, 112])]

/-- 'laws.FnExactVerdictText': WHATEVER THE INPUT: true; the input reads as it did. -/
def fnExactVerdictTextSpec : ChangeSpec := { name := "fnExactVerdictText", vars := ["loop.example/g00621/impl.verdictWords"], fn := fun _ => fun
  | [d, g1] => { results := [.lit (.bool true)], args := [d], vars := [g1] }
  | _ => none }
def fnExactVerdictTextRow : OpenClaim := { program := "ytccldjodijdciaadoor", sum := "6323a67390d161f71a7166c5fd25ec706401f7eda2252d231f561aa1a305d0b3", func := "loop.example/g00621/laws.FnExactVerdictText", spec := "fnExactVerdictText", named := ["loop.example/g00621/impl.verdictWords"], apart := false, laid := [("loop.example/g00621/impl.verdictWords", laid_loop_example_g00621_impl_verdictWords)] }
def FnExactVerdictTextSaid : Prop := fnExactVerdictTextRow.holds Tryd.pinned (OpenSpec.ofChange fnExactVerdictTextSpec)

/-- ITS FALSE NEIGHBOUR: 'it returns false'. Refute it at one input. -/
def fnExactVerdictTextWrong : ChangeSpec := { name := "fnExactVerdictText", vars := ["loop.example/g00621/impl.verdictWords"], fn := fun _ => fun
  | [d, g1] => { results := [.lit (.bool false)], args := [d], vars := [g1] }
  | _ => none }
def FnExactVerdictTextWrongFalsely : Prop := fnExactVerdictTextRow.holds Tryd.pinned (OpenSpec.ofChange fnExactVerdictTextWrong)

/-- 'laws.FnExactCountOf': WHATEVER THE INPUT: true; the input reads as it did. -/
def fnExactCountOfSpec : ChangeSpec := { name := "fnExactCountOf", vars := ["loop.example/g00621/impl.verdictWords"], fn := fun _ => fun
  | [d1, d2, g1] => { results := [.lit (.bool true)], args := [d1, d2], vars := [g1] }
  | _ => none }
def fnExactCountOfRow : OpenClaim := { program := "ytccldjodijdciaadoor", sum := "6323a67390d161f71a7166c5fd25ec706401f7eda2252d231f561aa1a305d0b3", func := "loop.example/g00621/laws.FnExactCountOf", spec := "fnExactCountOf", inPlace := ["internal/bytealg.IndexByte", "internal/bytealg.Index"], named := ["loop.example/g00621/impl.verdictWords", "internal/bytealg.MaxLen"], apart := false, laid := [("loop.example/g00621/impl.verdictWords", laid_loop_example_g00621_impl_verdictWords)] }
def FnExactCountOfSaid : Prop := fnExactCountOfRow.holds Tryd.pinned (OpenSpec.ofChange fnExactCountOfSpec)

/-- ITS FALSE NEIGHBOUR: 'it returns false'. Refute it at one input. -/
def fnExactCountOfWrong : ChangeSpec := { name := "fnExactCountOf", vars := ["loop.example/g00621/impl.verdictWords"], fn := fun _ => fun
  | [d1, d2, g1] => { results := [.lit (.bool false)], args := [d1, d2], vars := [g1] }
  | _ => none }
def FnExactCountOfWrongFalsely : Prop := fnExactCountOfRow.holds Tryd.pinned (OpenSpec.ofChange fnExactCountOfWrong)

/-- 'laws.FnExactAllHold': WHATEVER THE INPUT: true; the input reads as it did. -/
def fnExactAllHoldSpec : ChangeSpec := { name := "fnExactAllHold", vars := ["loop.example/g00621/impl.verdictWords"], fn := fun _ => fun
  | [d, g1] => { results := [.lit (.bool true)], args := [d], vars := [g1] }
  | _ => none }
def fnExactAllHoldRow : OpenClaim := { program := "ytccldjodijdciaadoor", sum := "6323a67390d161f71a7166c5fd25ec706401f7eda2252d231f561aa1a305d0b3", func := "loop.example/g00621/laws.FnExactAllHold", spec := "fnExactAllHold", inPlace := ["internal/bytealg.IndexByte", "internal/bytealg.Index"], named := ["loop.example/g00621/impl.verdictWords", "internal/bytealg.MaxLen"], apart := false, laid := [("loop.example/g00621/impl.verdictWords", laid_loop_example_g00621_impl_verdictWords)] }
def FnExactAllHoldSaid : Prop := fnExactAllHoldRow.holds Tryd.pinned (OpenSpec.ofChange fnExactAllHoldSpec)

/-- ITS FALSE NEIGHBOUR: 'it returns false'. Refute it at one input. -/
def fnExactAllHoldWrong : ChangeSpec := { name := "fnExactAllHold", vars := ["loop.example/g00621/impl.verdictWords"], fn := fun _ => fun
  | [d, g1] => { results := [.lit (.bool false)], args := [d], vars := [g1] }
  | _ => none }
def FnExactAllHoldWrongFalsely : Prop := fnExactAllHoldRow.holds Tryd.pinned (OpenSpec.ofChange fnExactAllHoldWrong)

/- THE SECOND FORM. 'bulk': how many values and letters a reading holds, each counted each time it is reached (what is shared counts as often as it is met; a slice's spare places count too). A statement '..UptoSaid' is the law's where the arguments, and the package variables that the reading takes, are together of bulk at most 1048576: NARROWER than '..Said'. Prove '..Said' where nothing that the law and all that it calls make is longer than what came in: it says more and counts as full. Else prove '..UptoSaid'. A law counts once. -/
mutual
def uptoBulk {H : Type} : DataW H → Nat
  | .lit (.string bytes) => bytes.length + 1
  | .lit _ => 1
  | .nil => 1
  | .ptr d => uptoBulk d + 1
  | .slice elems spare => uptoBulkAll elems + uptoBulkAll spare + 1
  | .agg parts => uptoBulkAll parts + 1
  | .iface _ d => uptoBulk d + 1
  | .map entries => uptoBulkEntries entries + 1
  | .held _ => 1
def uptoBulkAll {H : Type} : List (DataW H) → Nat
  | [] => 0
  | d :: r => uptoBulk d + uptoBulkAll r
def uptoBulkEntries {H : Type} : List (Lit × DataW H) → Nat
  | [] => 0
  | x :: r => uptoBulkEntry x + uptoBulkEntries r
def uptoBulkEntry {H : Type} : Lit × DataW H → Nat
  | (.string bytes, d) => bytes.length + uptoBulk d + 1
  | (_, d) => uptoBulk d + 1
 end
def uptoSmall : (H : Type) → List (DataW H) → Bool := fun _ ds => decide (uptoBulkAll ds ≤ 1048576)
def OpenSpec.upto (s : _root_.Go.ChangeSpec) : _root_.Go.OpenSpec := { _root_.Go.OpenSpec.ofChange s with cond := some uptoSmall }

/-- 'laws.FnExactVerdictText', WHERE WHAT IT READS IS OF BULK AT MOST 1048576: true; the input reads as it did. -/
def fnExactVerdictTextUptoRow : OpenClaim := { program := "ytccldjodijdciaadoor", sum := "6323a67390d161f71a7166c5fd25ec706401f7eda2252d231f561aa1a305d0b3", func := "loop.example/g00621/laws.FnExactVerdictText", spec := "fnExactVerdictText", named := ["loop.example/g00621/impl.verdictWords"], apart := false, laid := [("loop.example/g00621/impl.verdictWords", laid_loop_example_g00621_impl_verdictWords)], narrowed := true }
def FnExactVerdictTextUptoSaid : Prop := fnExactVerdictTextUptoRow.holds Tryd.pinned (OpenSpec.upto fnExactVerdictTextSpec)

/-- 'laws.FnExactCountOf', WHERE WHAT IT READS IS OF BULK AT MOST 1048576: true; the input reads as it did. -/
def fnExactCountOfUptoRow : OpenClaim := { program := "ytccldjodijdciaadoor", sum := "6323a67390d161f71a7166c5fd25ec706401f7eda2252d231f561aa1a305d0b3", func := "loop.example/g00621/laws.FnExactCountOf", spec := "fnExactCountOf", inPlace := ["internal/bytealg.IndexByte", "internal/bytealg.Index"], named := ["loop.example/g00621/impl.verdictWords", "internal/bytealg.MaxLen"], apart := false, laid := [("loop.example/g00621/impl.verdictWords", laid_loop_example_g00621_impl_verdictWords)], narrowed := true }
def FnExactCountOfUptoSaid : Prop := fnExactCountOfUptoRow.holds Tryd.pinned (OpenSpec.upto fnExactCountOfSpec)

/-- 'laws.FnExactAllHold', WHERE WHAT IT READS IS OF BULK AT MOST 1048576: true; the input reads as it did. -/
def fnExactAllHoldUptoRow : OpenClaim := { program := "ytccldjodijdciaadoor", sum := "6323a67390d161f71a7166c5fd25ec706401f7eda2252d231f561aa1a305d0b3", func := "loop.example/g00621/laws.FnExactAllHold", spec := "fnExactAllHold", inPlace := ["internal/bytealg.IndexByte", "internal/bytealg.Index"], named := ["loop.example/g00621/impl.verdictWords", "internal/bytealg.MaxLen"], apart := false, laid := [("loop.example/g00621/impl.verdictWords", laid_loop_example_g00621_impl_verdictWords)], narrowed := true }
def FnExactAllHoldUptoSaid : Prop := fnExactAllHoldUptoRow.holds Tryd.pinned (OpenSpec.upto fnExactAllHoldSpec)

end Rows
end Go.Proofs.YtccldjodijdciaaDoor
