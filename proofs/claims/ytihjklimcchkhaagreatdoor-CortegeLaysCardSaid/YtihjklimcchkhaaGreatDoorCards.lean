/-
  DERIVED. GIVEN WITH THE SEED: THE CARDS: each row of YtihjklimcchkhaaGreatDoorRows.lean that lists a variable, with what it lists TIED to the program's text (the seventh form; the later family's looks); each row that meets fmt, with fmt's text TOLD by the authors' own Lean function (tested against real Go, not proved from fmt's source: count such statements apart). THE CARD IS WHAT COUNTS. Prove the row's statement (the work); the ties are given (YtihjklimcchkhaaGreatDoorTie.lean); close each card by the builder's one call (the guide's Derived/Test/ToyasCard.lean, 'card_holds'). Laid BY PROGRAM, IN A SANDBOX (cutbox-door.mjs). By AI agents, Wed Nov 11 2026. No macro, syntax, notation, axiom, sorry.
-/
import Derived.Test.YtihjklimcchkhaaGreatDoorRows
import GoSem.ClaimSeven
namespace Go.Proofs.YtihjklimcchkhaaGreatDoor
namespace Rows

/-- THE TIED CARD OF 'sextonlaw06.RiteKeeps'. -/
def riteKeepsCard : Claim7 := { stood := { row := riteKeepsRow, standIns := [], harness := (true, "3e5a150c0445e65c842e5ce1fba410a6e3198c6140ba250ff87929fc9e304bb4"), looks := true }, kinds := [], alts := [], laidByText := true, laidKinds := [.handle, .sentinel, .sentinel, .sentinel, .sentinel, .sentinel, .sentinel], laidTests := true, laidLooks := .later }
def RiteKeepsCardSaid : Prop := Claim7.holds Tryz.pinned (.plain (OpenSpec.ofChange riteKeepsSpec)) riteKeepsCard

/-- THE TIED CARD OF 'sextonlaw06.RiteBounds'. -/
def riteBoundsCard : Claim7 := { stood := { row := riteBoundsRow, standIns := [], harness := (true, "3e5a150c0445e65c842e5ce1fba410a6e3198c6140ba250ff87929fc9e304bb4"), looks := true }, kinds := [], alts := [], laidByText := true, laidKinds := [.sentinel, .sentinel, .sentinel, .sentinel, .sentinel, .sentinel], laidTests := true, laidLooks := .later }
def RiteBoundsCardSaid : Prop := Claim7.holds Tryz.pinned (.plain (OpenSpec.ofChange riteBoundsSpec)) riteBoundsCard

/-- THE TIED CARD OF 'sextonlaw06.RiteFrees'. -/
def riteFreesCard : Claim7 := { stood := { row := riteFreesRow, standIns := [], harness := (true, "3e5a150c0445e65c842e5ce1fba410a6e3198c6140ba250ff87929fc9e304bb4"), looks := true }, kinds := [], alts := [], laidByText := true, laidKinds := [.handle, .sentinel, .sentinel, .sentinel, .sentinel, .sentinel, .sentinel], laidTests := true, laidLooks := .later }
def RiteFreesCardSaid : Prop := Claim7.holds Tryz.pinned (.plain (OpenSpec.ofChange riteFreesSpec)) riteFreesCard

/-- THE TIED CARD OF 'sextonlaw06.RiteLeaves'. -/
def riteLeavesCard : Claim7 := { stood := { row := riteLeavesRow, standIns := [], harness := (true, "3e5a150c0445e65c842e5ce1fba410a6e3198c6140ba250ff87929fc9e304bb4"), looks := true }, kinds := [], alts := [], laidByText := true, laidKinds := [.sentinel, .sentinel, .sentinel, .sentinel, .sentinel, .sentinel], laidTests := true, laidLooks := .later }
def RiteLeavesCardSaid : Prop := Claim7.holds Tryz.pinned (.plain (OpenSpec.ofChange riteLeavesSpec)) riteLeavesCard

/-- THE TIED CARD OF 'sextonlaw06.RiteScans'. -/
def riteScansCard : Claim7 := { stood := { row := riteScansRow, standIns := [], harness := (true, "3e5a150c0445e65c842e5ce1fba410a6e3198c6140ba250ff87929fc9e304bb4"), looks := true }, kinds := [], alts := [], laidByText := true, laidKinds := [.handle, .sentinel, .sentinel, .sentinel, .sentinel, .sentinel, .sentinel], laidTests := true, laidLooks := .later }
def RiteScansCardSaid : Prop := Claim7.holds Tryz.pinned (.plain (OpenSpec.ofChange riteScansSpec)) riteScansCard

/-- THE TIED CARD OF 'sextonlaw07.PileEmpty'. -/
def pileEmptyCard : Claim7 := { stood := { row := pileEmptyRow, standIns := [], harness := (true, "3e5a150c0445e65c842e5ce1fba410a6e3198c6140ba250ff87929fc9e304bb4"), looks := true }, kinds := [], alts := [], laidByText := true, laidKinds := [.handle, .sentinel, .sentinel, .sentinel, .sentinel, .sentinel, .sentinel, .sentinel], laidTests := true, laidLooks := .later }
def PileEmptyCardSaid : Prop := Claim7.holds Tryz.pinned (.plain (OpenSpec.ofChange pileEmptySpec)) pileEmptyCard

/-- THE TIED CARD OF 'sextonlaw07.PileTurns'. -/
def pileTurnsCard : Claim7 := { stood := { row := pileTurnsRow, standIns := [], harness := (true, "3e5a150c0445e65c842e5ce1fba410a6e3198c6140ba250ff87929fc9e304bb4"), looks := true }, kinds := [], alts := [], laidByText := true, laidKinds := [.handle, .sentinel, .sentinel, .sentinel, .sentinel, .sentinel, .sentinel], laidTests := true, laidLooks := .later }
def PileTurnsCardSaid : Prop := Claim7.holds Tryz.pinned (.plain (OpenSpec.ofChange pileTurnsSpec)) pileTurnsCard

/-- THE TIED CARD OF 'sextonlaw08.CortegeLays'. -/
def cortegeLaysCard : Claim7 := { stood := { row := cortegeLaysRow, standIns := [], harness := (true, "3e5a150c0445e65c842e5ce1fba410a6e3198c6140ba250ff87929fc9e304bb4"), looks := true }, kinds := [], alts := [], laidByText := true, laidKinds := [.sentinel, .sentinel, .sentinel, .sentinel, .sentinel, .sentinel, .sentinel, .sentinel], laidTests := true, laidLooks := .later }
def CortegeLaysCardSaid : Prop := Claim7.holds Tryz.pinned (.plain (OpenSpec.ofChange cortegeLaysSpec)) cortegeLaysCard

/-- THE TIED CARD OF 'sextonlaw08.CortegePasses'. -/
def cortegePassesCard : Claim7 := { stood := { row := cortegePassesRow, standIns := [], harness := (true, "3e5a150c0445e65c842e5ce1fba410a6e3198c6140ba250ff87929fc9e304bb4"), looks := true }, kinds := [], alts := [], laidByText := true, laidKinds := [.handle, .sentinel, .sentinel, .sentinel, .sentinel, .sentinel, .sentinel, .sentinel, .sentinel], laidTests := true, laidLooks := .later }
def CortegePassesCardSaid : Prop := Claim7.holds Tryz.pinned (.plain (OpenSpec.ofChange cortegePassesSpec)) cortegePassesCard

/-- THE SECOND FORM's CARD OF 'sextonlaw06.RiteKeeps'. -/
def riteKeepsUptoCard : Claim7 := { stood := { row := riteKeepsUptoRow, standIns := [], harness := (true, "3e5a150c0445e65c842e5ce1fba410a6e3198c6140ba250ff87929fc9e304bb4"), looks := true }, kinds := [], alts := [], laidByText := true, laidKinds := [.handle, .sentinel, .sentinel, .sentinel, .sentinel, .sentinel, .sentinel], laidTests := true, laidLooks := .later }
def RiteKeepsUptoCardSaid : Prop := Claim7.holds Tryz.pinned (.plain (OpenSpec.upto riteKeepsSpec)) riteKeepsUptoCard

/-- THE SECOND FORM's CARD OF 'sextonlaw06.RiteBounds'. -/
def riteBoundsUptoCard : Claim7 := { stood := { row := riteBoundsUptoRow, standIns := [], harness := (true, "3e5a150c0445e65c842e5ce1fba410a6e3198c6140ba250ff87929fc9e304bb4"), looks := true }, kinds := [], alts := [], laidByText := true, laidKinds := [.sentinel, .sentinel, .sentinel, .sentinel, .sentinel, .sentinel], laidTests := true, laidLooks := .later }
def RiteBoundsUptoCardSaid : Prop := Claim7.holds Tryz.pinned (.plain (OpenSpec.upto riteBoundsSpec)) riteBoundsUptoCard

/-- THE SECOND FORM's CARD OF 'sextonlaw06.RiteFrees'. -/
def riteFreesUptoCard : Claim7 := { stood := { row := riteFreesUptoRow, standIns := [], harness := (true, "3e5a150c0445e65c842e5ce1fba410a6e3198c6140ba250ff87929fc9e304bb4"), looks := true }, kinds := [], alts := [], laidByText := true, laidKinds := [.handle, .sentinel, .sentinel, .sentinel, .sentinel, .sentinel, .sentinel], laidTests := true, laidLooks := .later }
def RiteFreesUptoCardSaid : Prop := Claim7.holds Tryz.pinned (.plain (OpenSpec.upto riteFreesSpec)) riteFreesUptoCard

/-- THE SECOND FORM's CARD OF 'sextonlaw06.RiteLeaves'. -/
def riteLeavesUptoCard : Claim7 := { stood := { row := riteLeavesUptoRow, standIns := [], harness := (true, "3e5a150c0445e65c842e5ce1fba410a6e3198c6140ba250ff87929fc9e304bb4"), looks := true }, kinds := [], alts := [], laidByText := true, laidKinds := [.sentinel, .sentinel, .sentinel, .sentinel, .sentinel, .sentinel], laidTests := true, laidLooks := .later }
def RiteLeavesUptoCardSaid : Prop := Claim7.holds Tryz.pinned (.plain (OpenSpec.upto riteLeavesSpec)) riteLeavesUptoCard

/-- THE SECOND FORM's CARD OF 'sextonlaw06.RiteScans'. -/
def riteScansUptoCard : Claim7 := { stood := { row := riteScansUptoRow, standIns := [], harness := (true, "3e5a150c0445e65c842e5ce1fba410a6e3198c6140ba250ff87929fc9e304bb4"), looks := true }, kinds := [], alts := [], laidByText := true, laidKinds := [.handle, .sentinel, .sentinel, .sentinel, .sentinel, .sentinel, .sentinel], laidTests := true, laidLooks := .later }
def RiteScansUptoCardSaid : Prop := Claim7.holds Tryz.pinned (.plain (OpenSpec.upto riteScansSpec)) riteScansUptoCard

/-- THE SECOND FORM's CARD OF 'sextonlaw07.PileEmpty'. -/
def pileEmptyUptoCard : Claim7 := { stood := { row := pileEmptyUptoRow, standIns := [], harness := (true, "3e5a150c0445e65c842e5ce1fba410a6e3198c6140ba250ff87929fc9e304bb4"), looks := true }, kinds := [], alts := [], laidByText := true, laidKinds := [.handle, .sentinel, .sentinel, .sentinel, .sentinel, .sentinel, .sentinel, .sentinel], laidTests := true, laidLooks := .later }
def PileEmptyUptoCardSaid : Prop := Claim7.holds Tryz.pinned (.plain (OpenSpec.upto pileEmptySpec)) pileEmptyUptoCard

/-- THE SECOND FORM's CARD OF 'sextonlaw07.PileTurns'. -/
def pileTurnsUptoCard : Claim7 := { stood := { row := pileTurnsUptoRow, standIns := [], harness := (true, "3e5a150c0445e65c842e5ce1fba410a6e3198c6140ba250ff87929fc9e304bb4"), looks := true }, kinds := [], alts := [], laidByText := true, laidKinds := [.handle, .sentinel, .sentinel, .sentinel, .sentinel, .sentinel, .sentinel], laidTests := true, laidLooks := .later }
def PileTurnsUptoCardSaid : Prop := Claim7.holds Tryz.pinned (.plain (OpenSpec.upto pileTurnsSpec)) pileTurnsUptoCard

/-- THE SECOND FORM's CARD OF 'sextonlaw08.CortegeLays'. -/
def cortegeLaysUptoCard : Claim7 := { stood := { row := cortegeLaysUptoRow, standIns := [], harness := (true, "3e5a150c0445e65c842e5ce1fba410a6e3198c6140ba250ff87929fc9e304bb4"), looks := true }, kinds := [], alts := [], laidByText := true, laidKinds := [.sentinel, .sentinel, .sentinel, .sentinel, .sentinel, .sentinel, .sentinel, .sentinel], laidTests := true, laidLooks := .later }
def CortegeLaysUptoCardSaid : Prop := Claim7.holds Tryz.pinned (.plain (OpenSpec.upto cortegeLaysSpec)) cortegeLaysUptoCard

/-- THE SECOND FORM's CARD OF 'sextonlaw08.CortegePasses'. -/
def cortegePassesUptoCard : Claim7 := { stood := { row := cortegePassesUptoRow, standIns := [], harness := (true, "3e5a150c0445e65c842e5ce1fba410a6e3198c6140ba250ff87929fc9e304bb4"), looks := true }, kinds := [], alts := [], laidByText := true, laidKinds := [.handle, .sentinel, .sentinel, .sentinel, .sentinel, .sentinel, .sentinel, .sentinel, .sentinel], laidTests := true, laidLooks := .later }
def CortegePassesUptoCardSaid : Prop := Claim7.holds Tryz.pinned (.plain (OpenSpec.upto cortegePassesSpec)) cortegePassesUptoCard
end Rows
end Go.Proofs.YtihjklimcchkhaaGreatDoor
