/-
  NARROWER THAN 'FOR EVERY INPUT', by the rows' own cells (each row's printed sentence says how): SubTells: laid · SubMay: laid · SubChanges: laid · SubBlocks: laid.
  DERIVED. THE GIVEN ROWS OF THIS SEAT. 4 by the template 'for every input the law returns true; each argument reads behind the call as it read before'; 0 by the template 'total and deterministic' (their statements: YtocibmjiailbgaaDoorTotals.lean).
  GIVEN WITH THE SEED: the statements are not yours to turn. If you find one false, say at which input.
  Laid BY PROGRAM, IN A SANDBOX (cutbox-rows.mjs): the forced cells as the released guide's own fill.sh prints them over the translation 8dc049babec6d3df… (all of the seat's roots in one cut). By AI agents, Wed Nov 11 2026. No macro, syntax, notation, axiom, sorry.
-/
import Derived.Test.YtocibmjiailbgaaDoorChecked
import GoSem.Claim
import GoSem.ClaimJoined
import GoSem.ClaimMapViews
import Derived.JoinedTies
import Derived.KernelRfl
namespace Go.Proofs.YtocibmjiailbgaaDoor
/- THE CELL 'sum', in the pinned program and in every row, IS THE sha256 OF THE DUMP (.gsa) THAT YtocibmjiailbgaaDoorProg.lean LOADS. Nothing in Lean hashes anything: it is a label: what it is worth is what the hold of that sum in a sandbox is worth. -/
noncomputable def Tryd.pinned : Pinned := { name := "ytocibmjiailbgaadoor", sum := "8dc049babec6d3dff3464852e68fd6774e8d9b5bb2bea4995517626770f62fbe", checked := Tryd.checked }
namespace Rows
def none {H : Type} : Left H := { results := [], args := [] }

/- WHAT THE LISTED PACKAGE-LEVEL VARIABLES READ AS WHEN THE CALL BEGINS. Each datum BY PROGRAM (the guide's laid-datum.mjs) off the statement by which the dump's own 'gosem.cut.vars' lays the variable. In a bare row this is a premise. The card (YtocibmjiailbgaaDoorCards.lean) ties it to the program's text. -/
def laid_nightjar_sub_steps {H : Type} : DataW H := .agg [.agg [.lit (.int .i64 1), .lit (.int .i64 (-1)), .lit (.int .i64 (-1)), .lit (.int .i64 (-1)), .lit (.int .i64 (-1)), .lit (.int .i64 4), .lit (.int .i64 (-1))], .agg [.lit (.int .i64 (-1)), .lit (.int .i64 0), .lit (.int .i64 2), .lit (.int .i64 3), .lit (.int .i64 (-1)), .lit (.int .i64 4), .lit (.int .i64 (-1))], .agg [.lit (.int .i64 (-1)), .lit (.int .i64 0), .lit (.int .i64 (-1)), .lit (.int .i64 (-1)), .lit (.int .i64 0), .lit (.int .i64 4), .lit (.int .i64 (-1))], .agg [.lit (.int .i64 1), .lit (.int .i64 0), .lit (.int .i64 (-1)), .lit (.int .i64 (-1)), .lit (.int .i64 (-1)), .lit (.int .i64 4), .lit (.int .i64 (-1))], .agg [.lit (.int .i64 (-1)), .lit (.int .i64 (-1)), .lit (.int .i64 (-1)), .lit (.int .i64 (-1)), .lit (.int .i64 (-1)), .lit (.int .i64 (-1)), .lit (.int .i64 0)]]
def laid_nightjar_sub_names {H : Type} : DataW H := .agg [.lit (.string [110, 111, 110, 101]), .lit (.string [97, 115, 107, 101, 100]), .lit (.string [109, 97, 121]), .lit (.string [100, 101, 110, 105, 101, 100]), .lit (.string [98, 108, 111, 99, 107, 101, 100])]

/-- 'nightjarlaw16.SubTells': WHATEVER THE INPUT: true; the input reads as it did. -/
def subTellsSpec : ChangeSpec := { name := "subTells", fn := fun _ => fun
  | [d1, d2] => { results := [.lit (.bool true)], args := [d1, d2] }
  | _ => none }
def subTellsRow : OpenClaim := { program := "ytocibmjiailbgaadoor", sum := "8dc049babec6d3dff3464852e68fd6774e8d9b5bb2bea4995517626770f62fbe", func := "nightjar/nightjarlaw16.SubTells", spec := "subTells", named := ["nightjar/sub.steps", "nightjar/sub.names"], apart := false, laid := [("nightjar/sub.steps", laid_nightjar_sub_steps), ("nightjar/sub.names", laid_nightjar_sub_names)] }
def SubTellsSaid : Prop := subTellsRow.holds Tryd.pinned (OpenSpec.ofChange subTellsSpec)

/-- ITS FALSE NEIGHBOUR: 'it returns false'. Refute it at one input. -/
def subTellsWrong : ChangeSpec := { name := "subTells", fn := fun _ => fun
  | [d1, d2] => { results := [.lit (.bool false)], args := [d1, d2] }
  | _ => none }
def SubTellsWrongFalsely : Prop := subTellsRow.holds Tryd.pinned (OpenSpec.ofChange subTellsWrong)

/-- 'nightjarlaw16.SubMay': WHATEVER THE INPUT: true; the input reads as it did. -/
def subMaySpec : ChangeSpec := { name := "subMay", fn := fun _ => fun
  | [d] => { results := [.lit (.bool true)], args := [d] }
  | _ => none }
def subMayRow : OpenClaim := { program := "ytocibmjiailbgaadoor", sum := "8dc049babec6d3dff3464852e68fd6774e8d9b5bb2bea4995517626770f62fbe", func := "nightjar/nightjarlaw16.SubMay", spec := "subMay", named := ["nightjar/sub.steps", "nightjar/sub.names"], apart := false, laid := [("nightjar/sub.steps", laid_nightjar_sub_steps), ("nightjar/sub.names", laid_nightjar_sub_names)] }
def SubMaySaid : Prop := subMayRow.holds Tryd.pinned (OpenSpec.ofChange subMaySpec)

/-- ITS FALSE NEIGHBOUR: 'it returns false'. Refute it at one input. -/
def subMayWrong : ChangeSpec := { name := "subMay", fn := fun _ => fun
  | [d] => { results := [.lit (.bool false)], args := [d] }
  | _ => none }
def SubMayWrongFalsely : Prop := subMayRow.holds Tryd.pinned (OpenSpec.ofChange subMayWrong)

/-- 'nightjarlaw16.SubChanges': WHATEVER THE INPUT: true; the input reads as it did. -/
def subChangesSpec : ChangeSpec := { name := "subChanges", fn := fun _ => fun
  | [d1, d2] => { results := [.lit (.bool true)], args := [d1, d2] }
  | _ => none }
def subChangesRow : OpenClaim := { program := "ytocibmjiailbgaadoor", sum := "8dc049babec6d3dff3464852e68fd6774e8d9b5bb2bea4995517626770f62fbe", func := "nightjar/nightjarlaw16.SubChanges", spec := "subChanges", named := ["nightjar/sub.steps", "nightjar/sub.names"], apart := false, laid := [("nightjar/sub.steps", laid_nightjar_sub_steps), ("nightjar/sub.names", laid_nightjar_sub_names)] }
def SubChangesSaid : Prop := subChangesRow.holds Tryd.pinned (OpenSpec.ofChange subChangesSpec)

/-- ITS FALSE NEIGHBOUR: 'it returns false'. Refute it at one input. -/
def subChangesWrong : ChangeSpec := { name := "subChanges", fn := fun _ => fun
  | [d1, d2] => { results := [.lit (.bool false)], args := [d1, d2] }
  | _ => none }
def SubChangesWrongFalsely : Prop := subChangesRow.holds Tryd.pinned (OpenSpec.ofChange subChangesWrong)

/-- 'nightjarlaw16.SubBlocks': WHATEVER THE INPUT: true; the input reads as it did. -/
def subBlocksSpec : ChangeSpec := { name := "subBlocks", fn := fun _ => fun
  | [d1, d2] => { results := [.lit (.bool true)], args := [d1, d2] }
  | _ => none }
def subBlocksRow : OpenClaim := { program := "ytocibmjiailbgaadoor", sum := "8dc049babec6d3dff3464852e68fd6774e8d9b5bb2bea4995517626770f62fbe", func := "nightjar/nightjarlaw16.SubBlocks", spec := "subBlocks", named := ["nightjar/sub.steps", "nightjar/sub.names"], apart := false, laid := [("nightjar/sub.steps", laid_nightjar_sub_steps), ("nightjar/sub.names", laid_nightjar_sub_names)] }
def SubBlocksSaid : Prop := subBlocksRow.holds Tryd.pinned (OpenSpec.ofChange subBlocksSpec)

/-- ITS FALSE NEIGHBOUR: 'it returns false'. Refute it at one input. -/
def subBlocksWrong : ChangeSpec := { name := "subBlocks", fn := fun _ => fun
  | [d1, d2] => { results := [.lit (.bool false)], args := [d1, d2] }
  | _ => none }
def SubBlocksWrongFalsely : Prop := subBlocksRow.holds Tryd.pinned (OpenSpec.ofChange subBlocksWrong)

/- THE SECOND FORM. 'bulk': how many values and letters a reading holds, each counted each time it is reached (what is shared counts as often as it is met; a slice's spare places count too). A statement '..UptoSaid' is the law's where the arguments, and the package variables that the reading takes, are together of bulk at most 1048576: NARROWER than '..Said'. Prove '..Said' where nothing that the law and all that it calls make is longer than what came in: it says more and counts as full. Else prove '..UptoSaid'. A law counts once. -/
mutual
def uptoBulk {H : Type} : DataW H → Nat
  | .lit (.string bytes) => bytes.length + 1
  | .lit _ => 1
  | .nil => 1
  | .ptr d => uptoBulk d + 1
  | .slice elems spare => uptoBulkAll elems + uptoBulkAll spare + 1
  | .agg parts => uptoBulkAll parts + 1
  | .iface _ d => uptoBulk d + 1
  | .map entries => uptoBulkEntries entries + 1
  | .held _ => 1
def uptoBulkAll {H : Type} : List (DataW H) → Nat
  | [] => 0
  | d :: r => uptoBulk d + uptoBulkAll r
def uptoBulkEntries {H : Type} : List (Lit × DataW H) → Nat
  | [] => 0
  | x :: r => uptoBulkEntry x + uptoBulkEntries r
def uptoBulkEntry {H : Type} : Lit × DataW H → Nat
  | (.string bytes, d) => bytes.length + uptoBulk d + 1
  | (_, d) => uptoBulk d + 1
 end
def uptoSmall : (H : Type) → List (DataW H) → Bool := fun _ ds => decide (uptoBulkAll ds ≤ 1048576)
def OpenSpec.upto (s : _root_.Go.ChangeSpec) : _root_.Go.OpenSpec := { _root_.Go.OpenSpec.ofChange s with cond := some uptoSmall }

/-- 'nightjarlaw16.SubTells', WHERE WHAT IT READS IS OF BULK AT MOST 1048576: true; the input reads as it did. -/
def subTellsUptoRow : OpenClaim := { program := "ytocibmjiailbgaadoor", sum := "8dc049babec6d3dff3464852e68fd6774e8d9b5bb2bea4995517626770f62fbe", func := "nightjar/nightjarlaw16.SubTells", spec := "subTells", named := ["nightjar/sub.steps", "nightjar/sub.names"], apart := false, laid := [("nightjar/sub.steps", laid_nightjar_sub_steps), ("nightjar/sub.names", laid_nightjar_sub_names)], narrowed := true }
def SubTellsUptoSaid : Prop := subTellsUptoRow.holds Tryd.pinned (OpenSpec.upto subTellsSpec)

/-- 'nightjarlaw16.SubMay', WHERE WHAT IT READS IS OF BULK AT MOST 1048576: true; the input reads as it did. -/
def subMayUptoRow : OpenClaim := { program := "ytocibmjiailbgaadoor", sum := "8dc049babec6d3dff3464852e68fd6774e8d9b5bb2bea4995517626770f62fbe", func := "nightjar/nightjarlaw16.SubMay", spec := "subMay", named := ["nightjar/sub.steps", "nightjar/sub.names"], apart := false, laid := [("nightjar/sub.steps", laid_nightjar_sub_steps), ("nightjar/sub.names", laid_nightjar_sub_names)], narrowed := true }
def SubMayUptoSaid : Prop := subMayUptoRow.holds Tryd.pinned (OpenSpec.upto subMaySpec)

/-- 'nightjarlaw16.SubChanges', WHERE WHAT IT READS IS OF BULK AT MOST 1048576: true; the input reads as it did. -/
def subChangesUptoRow : OpenClaim := { program := "ytocibmjiailbgaadoor", sum := "8dc049babec6d3dff3464852e68fd6774e8d9b5bb2bea4995517626770f62fbe", func := "nightjar/nightjarlaw16.SubChanges", spec := "subChanges", named := ["nightjar/sub.steps", "nightjar/sub.names"], apart := false, laid := [("nightjar/sub.steps", laid_nightjar_sub_steps), ("nightjar/sub.names", laid_nightjar_sub_names)], narrowed := true }
def SubChangesUptoSaid : Prop := subChangesUptoRow.holds Tryd.pinned (OpenSpec.upto subChangesSpec)

/-- 'nightjarlaw16.SubBlocks', WHERE WHAT IT READS IS OF BULK AT MOST 1048576: true; the input reads as it did. -/
def subBlocksUptoRow : OpenClaim := { program := "ytocibmjiailbgaadoor", sum := "8dc049babec6d3dff3464852e68fd6774e8d9b5bb2bea4995517626770f62fbe", func := "nightjar/nightjarlaw16.SubBlocks", spec := "subBlocks", named := ["nightjar/sub.steps", "nightjar/sub.names"], apart := false, laid := [("nightjar/sub.steps", laid_nightjar_sub_steps), ("nightjar/sub.names", laid_nightjar_sub_names)], narrowed := true }
def SubBlocksUptoSaid : Prop := subBlocksUptoRow.holds Tryd.pinned (OpenSpec.upto subBlocksSpec)

end Rows
end Go.Proofs.YtocibmjiailbgaaDoor
