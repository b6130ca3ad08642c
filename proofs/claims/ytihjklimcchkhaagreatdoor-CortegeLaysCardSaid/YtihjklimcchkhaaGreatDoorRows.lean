/-
  NARROWER THAN 'FOR EVERY INPUT', by the rows' own cells (each row's printed sentence says how): RiteKeeps: laid · RiteBounds: laid · RiteFrees: laid · RiteLeaves: laid · RiteScans: laid · PileEmpty: laid · PileTurns: laid · CortegeLays: laid · CortegePasses: laid.
  DERIVED. THE GIVEN ROWS OF THIS SEAT. 9 by the template 'for every input the law returns true; each argument reads behind the call as it read before'; 0 by the template 'total and deterministic' (their statements: YtihjklimcchkhaaGreatDoorTotals.lean).
  GIVEN WITH THE SEED: the statements are not yours to turn. If you find one false, say at which input.
  Laid BY PROGRAM, IN A SANDBOX (cutbox-rows.mjs): the forced cells as the released guide's own fill.sh prints them over the translation b0dafa69fad0ef19… (all of the seat's roots in one cut). By AI agents, Wed Nov 11 2026. No macro, syntax, notation, axiom, sorry.
-/
import Derived.Test.YtihjklimcchkhaaGreatDoorChecked
import GoSem.Claim
import GoSem.ClaimJoined
import GoSem.ClaimMapViews
import Derived.JoinedTies
import Derived.KernelRfl
namespace Go.Proofs.YtihjklimcchkhaaGreatDoor
/- THE CELL 'sum', in the pinned program and in every row, IS THE sha256 OF THE DUMP (.gsa) THAT YtihjklimcchkhaaGreatDoorProg.lean LOADS. Nothing in Lean hashes anything: it is a label: what it is worth is what the hold of that sum in a sandbox is worth. -/
noncomputable def Tryz.pinned : Pinned := { name := "ytihjklimcchkhaagreatdoor", sum := "b0dafa69fad0ef198a989d1917c83615fb710d74694731faf2be16be3bd1db2f", checked := Tryz.checked }
namespace Rows
def none {H : Type} : Left H := { results := [], args := [] }

/- WHAT THE LISTED PACKAGE-LEVEL VARIABLES READ AS WHEN THE CALL BEGINS. Each datum BY PROGRAM (the guide's laid-datum.mjs) off the statement by which the dump's own 'gosem.cut.vars' lays the variable. In a bare row this is a premise. The card (YtihjklimcchkhaaGreatDoorCards.lean) ties it to the program's text. -/
def laid_errors_errorType {H : Type} : DataW H := .iface "internal/reflectlite.rtype" (.agg [.ptr (.lit (.string [101, 114, 114, 111, 114]))])
def laid_sexton_api_ErrArg {H : Type} : DataW H := .iface "*errors.errorString" (.ptr (.agg [.lit (.string [97, 110, 32, 97, 114, 103, 117, 109, 101, 110, 116, 32, 116, 104, 97, 116, 32, 99, 97, 110, 39, 116, 32, 98, 101])]))
def laid_sexton_api_ErrNil {H : Type} : DataW H := .iface "*errors.errorString" (.ptr (.agg [.lit (.string [97, 32, 110, 105, 108, 32, 116, 104, 105, 110, 103])]))
def laid_sexton_api_ErrState {H : Type} : DataW H := .iface "*errors.errorString" (.ptr (.agg [.lit (.string [110, 111, 116, 32, 110, 111, 119])]))
def laid_sexton_api_ErrFreed {H : Type} : DataW H := .iface "*errors.errorString" (.ptr (.agg [.lit (.string [97, 32, 115, 108, 111, 116, 32, 116, 104, 97, 116, 32, 105, 115, 32, 102, 114, 101, 101])]))
def laid_sexton_api_ErrStale {H : Type} : DataW H := .iface "*errors.errorString" (.ptr (.agg [.lit (.string [97, 32, 115, 108, 111, 116, 32, 116, 104, 97, 116, 32, 105, 115, 32, 97, 110, 111, 116, 104, 101, 114, 32, 111, 110, 101, 32, 110, 111, 119])]))
def laid_sexton_api_ErrTwice {H : Type} : DataW H := .iface "*errors.errorString" (.ptr (.agg [.lit (.string [100, 111, 110, 101, 32, 97, 108, 114, 101, 97, 100, 121])]))
def laid_sexton_api_ErrLeft {H : Type} : DataW H := .iface "*errors.errorString" (.ptr (.agg [.lit (.string [97, 32, 102, 114, 101, 101, 32, 115, 108, 111, 116, 32, 116, 104, 97, 116, 32, 99, 97, 110, 32, 98, 101, 32, 114, 101, 97, 99, 104, 101, 100])]))
def laid_sexton_api_ErrFull {H : Type} : DataW H := .iface "*errors.errorString" (.ptr (.agg [.lit (.string [110, 111, 32, 114, 111, 111, 109])]))

/-- 'sextonlaw06.RiteKeeps': WHATEVER THE INPUT: true; the input reads as it did. -/
def riteKeepsSpec : ChangeSpec := { name := "riteKeeps", fn := fun _ => fun
  | [d1, d2] => { results := [.lit (.bool true)], args := [d1, d2] }
  | _ => none }
def riteKeepsRow : OpenClaim := { program := "ytihjklimcchkhaagreatdoor", sum := "b0dafa69fad0ef198a989d1917c83615fb710d74694731faf2be16be3bd1db2f", func := "sexton/sextonlaw06.RiteKeeps", spec := "riteKeeps", inPlace := ["internal/reflectlite.TypeOf", "internal/reflectlite.ValueOf", "(internal/reflectlite.Value).Type", "(internal/reflectlite.Value).IsNil", "(internal/reflectlite.Value).Elem", "(internal/reflectlite.Value).Set"], unfollowed := true, recurses := true, named := ["sexton/api.ErrArg", "sexton/api.ErrNil", "sexton/api.ErrState", "sexton/api.ErrTwice", "sexton/api.ErrFreed", "sexton/api.ErrStale", "errors.errorType"], apart := false, laid := [("errors.errorType", laid_errors_errorType), ("sexton/api.ErrArg", laid_sexton_api_ErrArg), ("sexton/api.ErrNil", laid_sexton_api_ErrNil), ("sexton/api.ErrState", laid_sexton_api_ErrState), ("sexton/api.ErrFreed", laid_sexton_api_ErrFreed), ("sexton/api.ErrStale", laid_sexton_api_ErrStale), ("sexton/api.ErrTwice", laid_sexton_api_ErrTwice)] }
def RiteKeepsSaid : Prop := riteKeepsRow.holds Tryz.pinned (OpenSpec.ofChange riteKeepsSpec)

/-- ITS FALSE NEIGHBOUR: 'it returns false'. Refute it at one input. -/
def riteKeepsWrong : ChangeSpec := { name := "riteKeeps", fn := fun _ => fun
  | [d1, d2] => { results := [.lit (.bool false)], args := [d1, d2] }
  | _ => none }
def RiteKeepsWrongFalsely : Prop := riteKeepsRow.holds Tryz.pinned (OpenSpec.ofChange riteKeepsWrong)

/-- 'sextonlaw06.RiteBounds': WHATEVER THE INPUT: true; the input reads as it did. -/
def riteBoundsSpec : ChangeSpec := { name := "riteBounds", fn := fun _ => fun
  | [d1, d2] => { results := [.lit (.bool true)], args := [d1, d2] }
  | _ => none }
def riteBoundsRow : OpenClaim := { program := "ytihjklimcchkhaagreatdoor", sum := "b0dafa69fad0ef198a989d1917c83615fb710d74694731faf2be16be3bd1db2f", func := "sexton/sextonlaw06.RiteBounds", spec := "riteBounds", inPlace := ["internal/reflectlite.TypeOf"], unfollowed := true, recurses := true, named := ["sexton/api.ErrArg", "sexton/api.ErrNil", "sexton/api.ErrState", "sexton/api.ErrTwice", "sexton/api.ErrFreed", "sexton/api.ErrStale"], apart := false, laid := [("sexton/api.ErrArg", laid_sexton_api_ErrArg), ("sexton/api.ErrNil", laid_sexton_api_ErrNil), ("sexton/api.ErrState", laid_sexton_api_ErrState), ("sexton/api.ErrFreed", laid_sexton_api_ErrFreed), ("sexton/api.ErrStale", laid_sexton_api_ErrStale), ("sexton/api.ErrTwice", laid_sexton_api_ErrTwice)] }
def RiteBoundsSaid : Prop := riteBoundsRow.holds Tryz.pinned (OpenSpec.ofChange riteBoundsSpec)

/-- ITS FALSE NEIGHBOUR: 'it returns false'. Refute it at one input. -/
def riteBoundsWrong : ChangeSpec := { name := "riteBounds", fn := fun _ => fun
  | [d1, d2] => { results := [.lit (.bool false)], args := [d1, d2] }
  | _ => none }
def RiteBoundsWrongFalsely : Prop := riteBoundsRow.holds Tryz.pinned (OpenSpec.ofChange riteBoundsWrong)

/-- 'sextonlaw06.RiteFrees': WHATEVER THE INPUT: true; the input reads as it did. -/
def riteFreesSpec : ChangeSpec := { name := "riteFrees", fn := fun _ => fun
  | [d1, d2] => { results := [.lit (.bool true)], args := [d1, d2] }
  | _ => none }
def riteFreesRow : OpenClaim := { program := "ytihjklimcchkhaagreatdoor", sum := "b0dafa69fad0ef198a989d1917c83615fb710d74694731faf2be16be3bd1db2f", func := "sexton/sextonlaw06.RiteFrees", spec := "riteFrees", inPlace := ["internal/reflectlite.TypeOf", "internal/reflectlite.ValueOf", "(internal/reflectlite.Value).Type", "(internal/reflectlite.Value).IsNil", "(internal/reflectlite.Value).Elem", "(internal/reflectlite.Value).Set"], unfollowed := true, recurses := true, named := ["sexton/api.ErrArg", "sexton/api.ErrNil", "sexton/api.ErrState", "sexton/api.ErrTwice", "sexton/api.ErrFreed", "sexton/api.ErrStale", "errors.errorType"], apart := false, laid := [("errors.errorType", laid_errors_errorType), ("sexton/api.ErrArg", laid_sexton_api_ErrArg), ("sexton/api.ErrNil", laid_sexton_api_ErrNil), ("sexton/api.ErrState", laid_sexton_api_ErrState), ("sexton/api.ErrFreed", laid_sexton_api_ErrFreed), ("sexton/api.ErrStale", laid_sexton_api_ErrStale), ("sexton/api.ErrTwice", laid_sexton_api_ErrTwice)] }
def RiteFreesSaid : Prop := riteFreesRow.holds Tryz.pinned (OpenSpec.ofChange riteFreesSpec)

/-- ITS FALSE NEIGHBOUR: 'it returns false'. Refute it at one input. -/
def riteFreesWrong : ChangeSpec := { name := "riteFrees", fn := fun _ => fun
  | [d1, d2] => { results := [.lit (.bool false)], args := [d1, d2] }
  | _ => none }
def RiteFreesWrongFalsely : Prop := riteFreesRow.holds Tryz.pinned (OpenSpec.ofChange riteFreesWrong)

/-- 'sextonlaw06.RiteLeaves': WHATEVER THE INPUT: true; the input reads as it did. -/
def riteLeavesSpec : ChangeSpec := { name := "riteLeaves", fn := fun _ => fun
  | [d1, d2] => { results := [.lit (.bool true)], args := [d1, d2] }
  | _ => none }
def riteLeavesRow : OpenClaim := { program := "ytihjklimcchkhaagreatdoor", sum := "b0dafa69fad0ef198a989d1917c83615fb710d74694731faf2be16be3bd1db2f", func := "sexton/sextonlaw06.RiteLeaves", spec := "riteLeaves", inPlace := ["internal/reflectlite.TypeOf"], unfollowed := true, recurses := true, named := ["sexton/api.ErrArg", "sexton/api.ErrNil", "sexton/api.ErrState", "sexton/api.ErrTwice", "sexton/api.ErrFreed", "sexton/api.ErrStale"], apart := false, laid := [("sexton/api.ErrArg", laid_sexton_api_ErrArg), ("sexton/api.ErrNil", laid_sexton_api_ErrNil), ("sexton/api.ErrState", laid_sexton_api_ErrState), ("sexton/api.ErrFreed", laid_sexton_api_ErrFreed), ("sexton/api.ErrStale", laid_sexton_api_ErrStale), ("sexton/api.ErrTwice", laid_sexton_api_ErrTwice)] }
def RiteLeavesSaid : Prop := riteLeavesRow.holds Tryz.pinned (OpenSpec.ofChange riteLeavesSpec)

/-- ITS FALSE NEIGHBOUR: 'it returns false'. Refute it at one input. -/
def riteLeavesWrong : ChangeSpec := { name := "riteLeaves", fn := fun _ => fun
  | [d1, d2] => { results := [.lit (.bool false)], args := [d1, d2] }
  | _ => none }
def RiteLeavesWrongFalsely : Prop := riteLeavesRow.holds Tryz.pinned (OpenSpec.ofChange riteLeavesWrong)

/-- 'sextonlaw06.RiteScans': WHATEVER THE INPUT: true; the input reads as it did. -/
def riteScansSpec : ChangeSpec := { name := "riteScans", fn := fun _ => fun
  | [d1, d2] => { results := [.lit (.bool true)], args := [d1, d2] }
  | _ => none }
def riteScansRow : OpenClaim := { program := "ytihjklimcchkhaagreatdoor", sum := "b0dafa69fad0ef198a989d1917c83615fb710d74694731faf2be16be3bd1db2f", func := "sexton/sextonlaw06.RiteScans", spec := "riteScans", inPlace := ["internal/reflectlite.TypeOf", "internal/reflectlite.ValueOf", "(internal/reflectlite.Value).Type", "(internal/reflectlite.Value).IsNil", "(internal/reflectlite.Value).Elem", "(internal/reflectlite.Value).Set"], unfollowed := true, recurses := true, named := ["sexton/api.ErrArg", "sexton/api.ErrNil", "sexton/api.ErrState", "sexton/api.ErrTwice", "sexton/api.ErrFreed", "sexton/api.ErrStale", "errors.errorType"], apart := false, laid := [("errors.errorType", laid_errors_errorType), ("sexton/api.ErrArg", laid_sexton_api_ErrArg), ("sexton/api.ErrNil", laid_sexton_api_ErrNil), ("sexton/api.ErrState", laid_sexton_api_ErrState), ("sexton/api.ErrFreed", laid_sexton_api_ErrFreed), ("sexton/api.ErrStale", laid_sexton_api_ErrStale), ("sexton/api.ErrTwice", laid_sexton_api_ErrTwice)] }
def RiteScansSaid : Prop := riteScansRow.holds Tryz.pinned (OpenSpec.ofChange riteScansSpec)

/-- ITS FALSE NEIGHBOUR: 'it returns false'. Refute it at one input. -/
def riteScansWrong : ChangeSpec := { name := "riteScans", fn := fun _ => fun
  | [d1, d2] => { results := [.lit (.bool false)], args := [d1, d2] }
  | _ => none }
def RiteScansWrongFalsely : Prop := riteScansRow.holds Tryz.pinned (OpenSpec.ofChange riteScansWrong)

/-- 'sextonlaw07.PileEmpty': WHATEVER THE INPUT: true; the input reads as it did. -/
def pileEmptySpec : ChangeSpec := { name := "pileEmpty", fn := fun _ => fun
  | [d1, d2, d3] => { results := [.lit (.bool true)], args := [d1, d2, d3] }
  | _ => none }
def pileEmptyRow : OpenClaim := { program := "ytihjklimcchkhaagreatdoor", sum := "b0dafa69fad0ef198a989d1917c83615fb710d74694731faf2be16be3bd1db2f", func := "sexton/sextonlaw07.PileEmpty", spec := "pileEmpty", inPlace := ["internal/reflectlite.TypeOf", "internal/reflectlite.ValueOf", "(internal/reflectlite.Value).Type", "(internal/reflectlite.Value).IsNil", "(internal/reflectlite.Value).Elem", "(internal/reflectlite.Value).Set"], unfollowed := true, recurses := true, named := ["sexton/api.ErrArg", "sexton/api.ErrNil", "sexton/api.ErrTwice", "sexton/api.ErrFreed", "sexton/api.ErrStale", "sexton/api.ErrState", "errors.errorType", "sexton/api.ErrLeft"], apart := false, laid := [("errors.errorType", laid_errors_errorType), ("sexton/api.ErrArg", laid_sexton_api_ErrArg), ("sexton/api.ErrNil", laid_sexton_api_ErrNil), ("sexton/api.ErrState", laid_sexton_api_ErrState), ("sexton/api.ErrFreed", laid_sexton_api_ErrFreed), ("sexton/api.ErrStale", laid_sexton_api_ErrStale), ("sexton/api.ErrTwice", laid_sexton_api_ErrTwice), ("sexton/api.ErrLeft", laid_sexton_api_ErrLeft)] }
def PileEmptySaid : Prop := pileEmptyRow.holds Tryz.pinned (OpenSpec.ofChange pileEmptySpec)

/-- ITS FALSE NEIGHBOUR: 'it returns false'. Refute it at one input. -/
def pileEmptyWrong : ChangeSpec := { name := "pileEmpty", fn := fun _ => fun
  | [d1, d2, d3] => { results := [.lit (.bool false)], args := [d1, d2, d3] }
  | _ => none }
def PileEmptyWrongFalsely : Prop := pileEmptyRow.holds Tryz.pinned (OpenSpec.ofChange pileEmptyWrong)

/-- 'sextonlaw07.PileTurns': WHATEVER THE INPUT: true; the input reads as it did. -/
def pileTurnsSpec : ChangeSpec := { name := "pileTurns", fn := fun _ => fun
  | [d1, d2] => { results := [.lit (.bool true)], args := [d1, d2] }
  | _ => none }
def pileTurnsRow : OpenClaim := { program := "ytihjklimcchkhaagreatdoor", sum := "b0dafa69fad0ef198a989d1917c83615fb710d74694731faf2be16be3bd1db2f", func := "sexton/sextonlaw07.PileTurns", spec := "pileTurns", inPlace := ["internal/reflectlite.TypeOf", "internal/reflectlite.ValueOf", "(internal/reflectlite.Value).Type", "(internal/reflectlite.Value).IsNil", "(internal/reflectlite.Value).Elem", "(internal/reflectlite.Value).Set"], unfollowed := true, recurses := true, named := ["sexton/api.ErrArg", "sexton/api.ErrNil", "sexton/api.ErrTwice", "sexton/api.ErrFreed", "sexton/api.ErrStale", "sexton/api.ErrState", "errors.errorType"], apart := false, laid := [("errors.errorType", laid_errors_errorType), ("sexton/api.ErrArg", laid_sexton_api_ErrArg), ("sexton/api.ErrNil", laid_sexton_api_ErrNil), ("sexton/api.ErrState", laid_sexton_api_ErrState), ("sexton/api.ErrFreed", laid_sexton_api_ErrFreed), ("sexton/api.ErrStale", laid_sexton_api_ErrStale), ("sexton/api.ErrTwice", laid_sexton_api_ErrTwice)] }
def PileTurnsSaid : Prop := pileTurnsRow.holds Tryz.pinned (OpenSpec.ofChange pileTurnsSpec)

/-- ITS FALSE NEIGHBOUR: 'it returns false'. Refute it at one input. -/
def pileTurnsWrong : ChangeSpec := { name := "pileTurns", fn := fun _ => fun
  | [d1, d2] => { results := [.lit (.bool false)], args := [d1, d2] }
  | _ => none }
def PileTurnsWrongFalsely : Prop := pileTurnsRow.holds Tryz.pinned (OpenSpec.ofChange pileTurnsWrong)

/-- 'sextonlaw08.CortegeLays': WHATEVER THE INPUT: true; the input reads as it did. -/
def cortegeLaysSpec : ChangeSpec := { name := "cortegeLays", fn := fun _ => fun
  | [d1, d2] => { results := [.lit (.bool true)], args := [d1, d2] }
  | _ => none }
def cortegeLaysRow : OpenClaim := { program := "ytihjklimcchkhaagreatdoor", sum := "b0dafa69fad0ef198a989d1917c83615fb710d74694731faf2be16be3bd1db2f", func := "sexton/sextonlaw08.CortegeLays", spec := "cortegeLays", inPlace := ["internal/reflectlite.TypeOf"], unfollowed := true, recurses := true, named := ["sexton/api.ErrArg", "sexton/api.ErrNil", "sexton/api.ErrFull", "sexton/api.ErrFreed", "sexton/api.ErrStale", "sexton/api.ErrTwice", "sexton/api.ErrLeft", "sexton/api.ErrState"], apart := false, laid := [("sexton/api.ErrArg", laid_sexton_api_ErrArg), ("sexton/api.ErrNil", laid_sexton_api_ErrNil), ("sexton/api.ErrFull", laid_sexton_api_ErrFull), ("sexton/api.ErrState", laid_sexton_api_ErrState), ("sexton/api.ErrFreed", laid_sexton_api_ErrFreed), ("sexton/api.ErrStale", laid_sexton_api_ErrStale), ("sexton/api.ErrTwice", laid_sexton_api_ErrTwice), ("sexton/api.ErrLeft", laid_sexton_api_ErrLeft)] }
def CortegeLaysSaid : Prop := cortegeLaysRow.holds Tryz.pinned (OpenSpec.ofChange cortegeLaysSpec)

/-- ITS FALSE NEIGHBOUR: 'it returns false'. Refute it at one input. -/
def cortegeLaysWrong : ChangeSpec := { name := "cortegeLays", fn := fun _ => fun
  | [d1, d2] => { results := [.lit (.bool false)], args := [d1, d2] }
  | _ => none }
def CortegeLaysWrongFalsely : Prop := cortegeLaysRow.holds Tryz.pinned (OpenSpec.ofChange cortegeLaysWrong)

/-- 'sextonlaw08.CortegePasses': WHATEVER THE INPUT: true; the input reads as it did. -/
def cortegePassesSpec : ChangeSpec := { name := "cortegePasses", fn := fun _ => fun
  | [d1, d2, d3] => { results := [.lit (.bool true)], args := [d1, d2, d3] }
  | _ => none }
def cortegePassesRow : OpenClaim := { program := "ytihjklimcchkhaagreatdoor", sum := "b0dafa69fad0ef198a989d1917c83615fb710d74694731faf2be16be3bd1db2f", func := "sexton/sextonlaw08.CortegePasses", spec := "cortegePasses", inPlace := ["internal/reflectlite.TypeOf", "internal/reflectlite.ValueOf", "(internal/reflectlite.Value).Type", "(internal/reflectlite.Value).IsNil", "(internal/reflectlite.Value).Elem", "(internal/reflectlite.Value).Set"], unfollowed := true, recurses := true, named := ["sexton/api.ErrArg", "sexton/api.ErrNil", "sexton/api.ErrTwice", "sexton/api.ErrFreed", "sexton/api.ErrStale", "sexton/api.ErrFull", "sexton/api.ErrState", "errors.errorType", "sexton/api.ErrLeft"], apart := false, laid := [("errors.errorType", laid_errors_errorType), ("sexton/api.ErrArg", laid_sexton_api_ErrArg), ("sexton/api.ErrNil", laid_sexton_api_ErrNil), ("sexton/api.ErrFull", laid_sexton_api_ErrFull), ("sexton/api.ErrState", laid_sexton_api_ErrState), ("sexton/api.ErrFreed", laid_sexton_api_ErrFreed), ("sexton/api.ErrStale", laid_sexton_api_ErrStale), ("sexton/api.ErrTwice", laid_sexton_api_ErrTwice), ("sexton/api.ErrLeft", laid_sexton_api_ErrLeft)] }
def CortegePassesSaid : Prop := cortegePassesRow.holds Tryz.pinned (OpenSpec.ofChange cortegePassesSpec)

/-- ITS FALSE NEIGHBOUR: 'it returns false'. Refute it at one input. -/
def cortegePassesWrong : ChangeSpec := { name := "cortegePasses", fn := fun _ => fun
  | [d1, d2, d3] => { results := [.lit (.bool false)], args := [d1, d2, d3] }
  | _ => none }
def CortegePassesWrongFalsely : Prop := cortegePassesRow.holds Tryz.pinned (OpenSpec.ofChange cortegePassesWrong)

/- THE SECOND FORM. 'bulk': how many values and letters a reading holds, each counted each time it is reached (what is shared counts as often as it is met; a slice's spare places count too). A statement '..UptoSaid' is the law's where the arguments, and the package variables that the reading takes, are together of bulk at most 1048576: NARROWER than '..Said'. Prove '..Said' where nothing that the law and all that it calls make is longer than what came in: it says more and counts as full. Else prove '..UptoSaid'. A law counts once. -/
mutual
def uptoBulk {H : Type} : DataW H → Nat
  | .lit (.string bytes) => bytes.length + 1
  | .lit _ => 1
  | .nil => 1
  | .ptr d => uptoBulk d + 1
  | .slice elems spare => uptoBulkAll elems + uptoBulkAll spare + 1
  | .agg parts => uptoBulkAll parts + 1
  | .iface _ d => uptoBulk d + 1
  | .map entries => uptoBulkEntries entries + 1
  | .held _ => 1
def uptoBulkAll {H : Type} : List (DataW H) → Nat
  | [] => 0
  | d :: r => uptoBulk d + uptoBulkAll r
def uptoBulkEntries {H : Type} : List (Lit × DataW H) → Nat
  | [] => 0
  | x :: r => uptoBulkEntry x + uptoBulkEntries r
def uptoBulkEntry {H : Type} : Lit × DataW H → Nat
  | (.string bytes, d) => bytes.length + uptoBulk d + 1
  | (_, d) => uptoBulk d + 1
 end
def uptoSmall : (H : Type) → List (DataW H) → Bool := fun _ ds => decide (uptoBulkAll ds ≤ 1048576)
def OpenSpec.upto (s : _root_.Go.ChangeSpec) : _root_.Go.OpenSpec := { _root_.Go.OpenSpec.ofChange s with cond := some uptoSmall }

/-- 'sextonlaw06.RiteKeeps', WHERE WHAT IT READS IS OF BULK AT MOST 1048576: true; the input reads as it did. -/
def riteKeepsUptoRow : OpenClaim := { program := "ytihjklimcchkhaagreatdoor", sum := "b0dafa69fad0ef198a989d1917c83615fb710d74694731faf2be16be3bd1db2f", func := "sexton/sextonlaw06.RiteKeeps", spec := "riteKeeps", inPlace := ["internal/reflectlite.TypeOf", "internal/reflectlite.ValueOf", "(internal/reflectlite.Value).Type", "(internal/reflectlite.Value).IsNil", "(internal/reflectlite.Value).Elem", "(internal/reflectlite.Value).Set"], unfollowed := true, recurses := true, named := ["sexton/api.ErrArg", "sexton/api.ErrNil", "sexton/api.ErrState", "sexton/api.ErrTwice", "sexton/api.ErrFreed", "sexton/api.ErrStale", "errors.errorType"], apart := false, laid := [("errors.errorType", laid_errors_errorType), ("sexton/api.ErrArg", laid_sexton_api_ErrArg), ("sexton/api.ErrNil", laid_sexton_api_ErrNil), ("sexton/api.ErrState", laid_sexton_api_ErrState), ("sexton/api.ErrFreed", laid_sexton_api_ErrFreed), ("sexton/api.ErrStale", laid_sexton_api_ErrStale), ("sexton/api.ErrTwice", laid_sexton_api_ErrTwice)], narrowed := true }
def RiteKeepsUptoSaid : Prop := riteKeepsUptoRow.holds Tryz.pinned (OpenSpec.upto riteKeepsSpec)

/-- 'sextonlaw06.RiteBounds', WHERE WHAT IT READS IS OF BULK AT MOST 1048576: true; the input reads as it did. -/
def riteBoundsUptoRow : OpenClaim := { program := "ytihjklimcchkhaagreatdoor", sum := "b0dafa69fad0ef198a989d1917c83615fb710d74694731faf2be16be3bd1db2f", func := "sexton/sextonlaw06.RiteBounds", spec := "riteBounds", inPlace := ["internal/reflectlite.TypeOf"], unfollowed := true, recurses := true, named := ["sexton/api.ErrArg", "sexton/api.ErrNil", "sexton/api.ErrState", "sexton/api.ErrTwice", "sexton/api.ErrFreed", "sexton/api.ErrStale"], apart := false, laid := [("sexton/api.ErrArg", laid_sexton_api_ErrArg), ("sexton/api.ErrNil", laid_sexton_api_ErrNil), ("sexton/api.ErrState", laid_sexton_api_ErrState), ("sexton/api.ErrFreed", laid_sexton_api_ErrFreed), ("sexton/api.ErrStale", laid_sexton_api_ErrStale), ("sexton/api.ErrTwice", laid_sexton_api_ErrTwice)], narrowed := true }
def RiteBoundsUptoSaid : Prop := riteBoundsUptoRow.holds Tryz.pinned (OpenSpec.upto riteBoundsSpec)

/-- 'sextonlaw06.RiteFrees', WHERE WHAT IT READS IS OF BULK AT MOST 1048576: true; the input reads as it did. -/
def riteFreesUptoRow : OpenClaim := { program := "ytihjklimcchkhaagreatdoor", sum := "b0dafa69fad0ef198a989d1917c83615fb710d74694731faf2be16be3bd1db2f", func := "sexton/sextonlaw06.RiteFrees", spec := "riteFrees", inPlace := ["internal/reflectlite.TypeOf", "internal/reflectlite.ValueOf", "(internal/reflectlite.Value).Type", "(internal/reflectlite.Value).IsNil", "(internal/reflectlite.Value).Elem", "(internal/reflectlite.Value).Set"], unfollowed := true, recurses := true, named := ["sexton/api.ErrArg", "sexton/api.ErrNil", "sexton/api.ErrState", "sexton/api.ErrTwice", "sexton/api.ErrFreed", "sexton/api.ErrStale", "errors.errorType"], apart := false, laid := [("errors.errorType", laid_errors_errorType), ("sexton/api.ErrArg", laid_sexton_api_ErrArg), ("sexton/api.ErrNil", laid_sexton_api_ErrNil), ("sexton/api.ErrState", laid_sexton_api_ErrState), ("sexton/api.ErrFreed", laid_sexton_api_ErrFreed), ("sexton/api.ErrStale", laid_sexton_api_ErrStale), ("sexton/api.ErrTwice", laid_sexton_api_ErrTwice)], narrowed := true }
def RiteFreesUptoSaid : Prop := riteFreesUptoRow.holds Tryz.pinned (OpenSpec.upto riteFreesSpec)

/-- 'sextonlaw06.RiteLeaves', WHERE WHAT IT READS IS OF BULK AT MOST 1048576: true; the input reads as it did. -/
def riteLeavesUptoRow : OpenClaim := { program := "ytihjklimcchkhaagreatdoor", sum := "b0dafa69fad0ef198a989d1917c83615fb710d74694731faf2be16be3bd1db2f", func := "sexton/sextonlaw06.RiteLeaves", spec := "riteLeaves", inPlace := ["internal/reflectlite.TypeOf"], unfollowed := true, recurses := true, named := ["sexton/api.ErrArg", "sexton/api.ErrNil", "sexton/api.ErrState", "sexton/api.ErrTwice", "sexton/api.ErrFreed", "sexton/api.ErrStale"], apart := false, laid := [("sexton/api.ErrArg", laid_sexton_api_ErrArg), ("sexton/api.ErrNil", laid_sexton_api_ErrNil), ("sexton/api.ErrState", laid_sexton_api_ErrState), ("sexton/api.ErrFreed", laid_sexton_api_ErrFreed), ("sexton/api.ErrStale", laid_sexton_api_ErrStale), ("sexton/api.ErrTwice", laid_sexton_api_ErrTwice)], narrowed := true }
def RiteLeavesUptoSaid : Prop := riteLeavesUptoRow.holds Tryz.pinned (OpenSpec.upto riteLeavesSpec)

/-- 'sextonlaw06.RiteScans', WHERE WHAT IT READS IS OF BULK AT MOST 1048576: true; the input reads as it did. -/
def riteScansUptoRow : OpenClaim := { program := "ytihjklimcchkhaagreatdoor", sum := "b0dafa69fad0ef198a989d1917c83615fb710d74694731faf2be16be3bd1db2f", func := "sexton/sextonlaw06.RiteScans", spec := "riteScans", inPlace := ["internal/reflectlite.TypeOf", "internal/reflectlite.ValueOf", "(internal/reflectlite.Value).Type", "(internal/reflectlite.Value).IsNil", "(internal/reflectlite.Value).Elem", "(internal/reflectlite.Value).Set"], unfollowed := true, recurses := true, named := ["sexton/api.ErrArg", "sexton/api.ErrNil", "sexton/api.ErrState", "sexton/api.ErrTwice", "sexton/api.ErrFreed", "sexton/api.ErrStale", "errors.errorType"], apart := false, laid := [("errors.errorType", laid_errors_errorType), ("sexton/api.ErrArg", laid_sexton_api_ErrArg), ("sexton/api.ErrNil", laid_sexton_api_ErrNil), ("sexton/api.ErrState", laid_sexton_api_ErrState), ("sexton/api.ErrFreed", laid_sexton_api_ErrFreed), ("sexton/api.ErrStale", laid_sexton_api_ErrStale), ("sexton/api.ErrTwice", laid_sexton_api_ErrTwice)], narrowed := true }
def RiteScansUptoSaid : Prop := riteScansUptoRow.holds Tryz.pinned (OpenSpec.upto riteScansSpec)

/-- 'sextonlaw07.PileEmpty', WHERE WHAT IT READS IS OF BULK AT MOST 1048576: true; the input reads as it did. -/
def pileEmptyUptoRow : OpenClaim := { program := "ytihjklimcchkhaagreatdoor", sum := "b0dafa69fad0ef198a989d1917c83615fb710d74694731faf2be16be3bd1db2f", func := "sexton/sextonlaw07.PileEmpty", spec := "pileEmpty", inPlace := ["internal/reflectlite.TypeOf", "internal/reflectlite.ValueOf", "(internal/reflectlite.Value).Type", "(internal/reflectlite.Value).IsNil", "(internal/reflectlite.Value).Elem", "(internal/reflectlite.Value).Set"], unfollowed := true, recurses := true, named := ["sexton/api.ErrArg", "sexton/api.ErrNil", "sexton/api.ErrTwice", "sexton/api.ErrFreed", "sexton/api.ErrStale", "sexton/api.ErrState", "errors.errorType", "sexton/api.ErrLeft"], apart := false, laid := [("errors.errorType", laid_errors_errorType), ("sexton/api.ErrArg", laid_sexton_api_ErrArg), ("sexton/api.ErrNil", laid_sexton_api_ErrNil), ("sexton/api.ErrState", laid_sexton_api_ErrState), ("sexton/api.ErrFreed", laid_sexton_api_ErrFreed), ("sexton/api.ErrStale", laid_sexton_api_ErrStale), ("sexton/api.ErrTwice", laid_sexton_api_ErrTwice), ("sexton/api.ErrLeft", laid_sexton_api_ErrLeft)], narrowed := true }
def PileEmptyUptoSaid : Prop := pileEmptyUptoRow.holds Tryz.pinned (OpenSpec.upto pileEmptySpec)

/-- 'sextonlaw07.PileTurns', WHERE WHAT IT READS IS OF BULK AT MOST 1048576: true; the input reads as it did. -/
def pileTurnsUptoRow : OpenClaim := { program := "ytihjklimcchkhaagreatdoor", sum := "b0dafa69fad0ef198a989d1917c83615fb710d74694731faf2be16be3bd1db2f", func := "sexton/sextonlaw07.PileTurns", spec := "pileTurns", inPlace := ["internal/reflectlite.TypeOf", "internal/reflectlite.ValueOf", "(internal/reflectlite.Value).Type", "(internal/reflectlite.Value).IsNil", "(internal/reflectlite.Value).Elem", "(internal/reflectlite.Value).Set"], unfollowed := true, recurses := true, named := ["sexton/api.ErrArg", "sexton/api.ErrNil", "sexton/api.ErrTwice", "sexton/api.ErrFreed", "sexton/api.ErrStale", "sexton/api.ErrState", "errors.errorType"], apart := false, laid := [("errors.errorType", laid_errors_errorType), ("sexton/api.ErrArg", laid_sexton_api_ErrArg), ("sexton/api.ErrNil", laid_sexton_api_ErrNil), ("sexton/api.ErrState", laid_sexton_api_ErrState), ("sexton/api.ErrFreed", laid_sexton_api_ErrFreed), ("sexton/api.ErrStale", laid_sexton_api_ErrStale), ("sexton/api.ErrTwice", laid_sexton_api_ErrTwice)], narrowed := true }
def PileTurnsUptoSaid : Prop := pileTurnsUptoRow.holds Tryz.pinned (OpenSpec.upto pileTurnsSpec)

/-- 'sextonlaw08.CortegeLays', WHERE WHAT IT READS IS OF BULK AT MOST 1048576: true; the input reads as it did. -/
def cortegeLaysUptoRow : OpenClaim := { program := "ytihjklimcchkhaagreatdoor", sum := "b0dafa69fad0ef198a989d1917c83615fb710d74694731faf2be16be3bd1db2f", func := "sexton/sextonlaw08.CortegeLays", spec := "cortegeLays", inPlace := ["internal/reflectlite.TypeOf"], unfollowed := true, recurses := true, named := ["sexton/api.ErrArg", "sexton/api.ErrNil", "sexton/api.ErrFull", "sexton/api.ErrFreed", "sexton/api.ErrStale", "sexton/api.ErrTwice", "sexton/api.ErrLeft", "sexton/api.ErrState"], apart := false, laid := [("sexton/api.ErrArg", laid_sexton_api_ErrArg), ("sexton/api.ErrNil", laid_sexton_api_ErrNil), ("sexton/api.ErrFull", laid_sexton_api_ErrFull), ("sexton/api.ErrState", laid_sexton_api_ErrState), ("sexton/api.ErrFreed", laid_sexton_api_ErrFreed), ("sexton/api.ErrStale", laid_sexton_api_ErrStale), ("sexton/api.ErrTwice", laid_sexton_api_ErrTwice), ("sexton/api.ErrLeft", laid_sexton_api_ErrLeft)], narrowed := true }
def CortegeLaysUptoSaid : Prop := cortegeLaysUptoRow.holds Tryz.pinned (OpenSpec.upto cortegeLaysSpec)

/-- 'sextonlaw08.CortegePasses', WHERE WHAT IT READS IS OF BULK AT MOST 1048576: true; the input reads as it did. -/
def cortegePassesUptoRow : OpenClaim := { program := "ytihjklimcchkhaagreatdoor", sum := "b0dafa69fad0ef198a989d1917c83615fb710d74694731faf2be16be3bd1db2f", func := "sexton/sextonlaw08.CortegePasses", spec := "cortegePasses", inPlace := ["internal/reflectlite.TypeOf", "internal/reflectlite.ValueOf", "(internal/reflectlite.Value).Type", "(internal/reflectlite.Value).IsNil", "(internal/reflectlite.Value).Elem", "(internal/reflectlite.Value).Set"], unfollowed := true, recurses := true, named := ["sexton/api.ErrArg", "sexton/api.ErrNil", "sexton/api.ErrTwice", "sexton/api.ErrFreed", "sexton/api.ErrStale", "sexton/api.ErrFull", "sexton/api.ErrState", "errors.errorType", "sexton/api.ErrLeft"], apart := false, laid := [("errors.errorType", laid_errors_errorType), ("sexton/api.ErrArg", laid_sexton_api_ErrArg), ("sexton/api.ErrNil", laid_sexton_api_ErrNil), ("sexton/api.ErrFull", laid_sexton_api_ErrFull), ("sexton/api.ErrState", laid_sexton_api_ErrState), ("sexton/api.ErrFreed", laid_sexton_api_ErrFreed), ("sexton/api.ErrStale", laid_sexton_api_ErrStale), ("sexton/api.ErrTwice", laid_sexton_api_ErrTwice), ("sexton/api.ErrLeft", laid_sexton_api_ErrLeft)], narrowed := true }
def CortegePassesUptoSaid : Prop := cortegePassesUptoRow.holds Tryz.pinned (OpenSpec.upto cortegePassesSpec)

end Rows
end Go.Proofs.YtihjklimcchkhaaGreatDoor
