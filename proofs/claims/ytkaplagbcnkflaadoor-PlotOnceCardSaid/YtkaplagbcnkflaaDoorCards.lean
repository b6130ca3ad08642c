/-
  DERIVED. GIVEN WITH THE SEED: THE CARDS: each row of YtkaplagbcnkflaaDoorRows.lean that lists a variable, with what it lists TIED to the program's text (the seventh form; the later family's looks); each row that meets fmt, with fmt's text TOLD by the authors' own Lean function (tested against real Go, not proved from fmt's source: count such statements apart). THE CARD IS WHAT COUNTS. Prove the row's statement (the work); the ties are given (YtkaplagbcnkflaaDoorTie.lean); close each card by the builder's one call (the guide's Derived/Test/ToyasCard.lean, 'card_holds'). Laid BY PROGRAM, IN A SANDBOX (cutbox-door.mjs). By AI agents, Wed Nov 11 2026. No macro, syntax, notation, axiom, sorry.
-/
import Derived.Test.YtkaplagbcnkflaaDoorRows
import GoSem.ClaimSeven
namespace Go.Proofs.YtkaplagbcnkflaaDoor
namespace Rows

/-- THE TIED CARD OF 'sextonlaw03.PlotOnce'. -/
def plotOnceCard : Claim7 := { stood := { row := plotOnceRow, standIns := [], harness := (true, "7d3870d23c887873de98960e8ca9aeda5213c3421b12660a73c7685e3e1517b6"), looks := true }, kinds := [], alts := [], laidByText := true, laidKinds := [.handle, .sentinel, .sentinel, .sentinel, .sentinel, .sentinel], laidTests := true, laidLooks := .later }
def PlotOnceCardSaid : Prop := Claim7.holds Tryd.pinned (.plain (OpenSpec.ofChange plotOnceSpec)) plotOnceCard

/-- THE TIED CARD OF 'sextonlaw03.PlotStays'. -/
def plotStaysCard : Claim7 := { stood := { row := plotStaysRow, standIns := [], harness := (true, "7d3870d23c887873de98960e8ca9aeda5213c3421b12660a73c7685e3e1517b6"), looks := true }, kinds := [], alts := [], laidByText := true, laidKinds := [.handle, .sentinel, .sentinel, .sentinel, .sentinel, .sentinel], laidTests := true, laidLooks := .later }
def PlotStaysCardSaid : Prop := Claim7.holds Tryd.pinned (.plain (OpenSpec.ofChange plotStaysSpec)) plotStaysCard

/-- THE TIED CARD OF 'sextonlaw03.PlotRow'. -/
def plotRowCard : Claim7 := { stood := { row := plotRowRow, standIns := [], harness := (true, "7d3870d23c887873de98960e8ca9aeda5213c3421b12660a73c7685e3e1517b6"), looks := true }, kinds := [], alts := [], laidByText := true, laidKinds := [.handle, .sentinel, .sentinel, .sentinel, .sentinel, .sentinel], laidTests := true, laidLooks := .later }
def PlotRowCardSaid : Prop := Claim7.holds Tryd.pinned (.plain (OpenSpec.ofChange plotRowSpec)) plotRowCard

/-- THE TIED CARD OF 'sextonlaw03.PlotReborn'. -/
def plotRebornCard : Claim7 := { stood := { row := plotRebornRow, standIns := [], harness := (true, "7d3870d23c887873de98960e8ca9aeda5213c3421b12660a73c7685e3e1517b6"), looks := true }, kinds := [], alts := [], laidByText := true, laidKinds := [.handle, .sentinel, .sentinel, .sentinel, .sentinel, .sentinel], laidTests := true, laidLooks := .later }
def PlotRebornCardSaid : Prop := Claim7.holds Tryd.pinned (.plain (OpenSpec.ofChange plotRebornSpec)) plotRebornCard

/-- THE SECOND FORM's CARD OF 'sextonlaw03.PlotOnce'. -/
def plotOnceUptoCard : Claim7 := { stood := { row := plotOnceUptoRow, standIns := [], harness := (true, "7d3870d23c887873de98960e8ca9aeda5213c3421b12660a73c7685e3e1517b6"), looks := true }, kinds := [], alts := [], laidByText := true, laidKinds := [.handle, .sentinel, .sentinel, .sentinel, .sentinel, .sentinel], laidTests := true, laidLooks := .later }
def PlotOnceUptoCardSaid : Prop := Claim7.holds Tryd.pinned (.plain (OpenSpec.upto plotOnceSpec)) plotOnceUptoCard

/-- THE SECOND FORM's CARD OF 'sextonlaw03.PlotStays'. -/
def plotStaysUptoCard : Claim7 := { stood := { row := plotStaysUptoRow, standIns := [], harness := (true, "7d3870d23c887873de98960e8ca9aeda5213c3421b12660a73c7685e3e1517b6"), looks := true }, kinds := [], alts := [], laidByText := true, laidKinds := [.handle, .sentinel, .sentinel, .sentinel, .sentinel, .sentinel], laidTests := true, laidLooks := .later }
def PlotStaysUptoCardSaid : Prop := Claim7.holds Tryd.pinned (.plain (OpenSpec.upto plotStaysSpec)) plotStaysUptoCard

/-- THE SECOND FORM's CARD OF 'sextonlaw03.PlotRow'. -/
def plotRowUptoCard : Claim7 := { stood := { row := plotRowUptoRow, standIns := [], harness := (true, "7d3870d23c887873de98960e8ca9aeda5213c3421b12660a73c7685e3e1517b6"), looks := true }, kinds := [], alts := [], laidByText := true, laidKinds := [.handle, .sentinel, .sentinel, .sentinel, .sentinel, .sentinel], laidTests := true, laidLooks := .later }
def PlotRowUptoCardSaid : Prop := Claim7.holds Tryd.pinned (.plain (OpenSpec.upto plotRowSpec)) plotRowUptoCard

/-- THE SECOND FORM's CARD OF 'sextonlaw03.PlotReborn'. -/
def plotRebornUptoCard : Claim7 := { stood := { row := plotRebornUptoRow, standIns := [], harness := (true, "7d3870d23c887873de98960e8ca9aeda5213c3421b12660a73c7685e3e1517b6"), looks := true }, kinds := [], alts := [], laidByText := true, laidKinds := [.handle, .sentinel, .sentinel, .sentinel, .sentinel, .sentinel], laidTests := true, laidLooks := .later }
def PlotRebornUptoCardSaid : Prop := Claim7.holds Tryd.pinned (.plain (OpenSpec.upto plotRebornSpec)) plotRebornUptoCard
end Rows
end Go.Proofs.YtkaplagbcnkflaaDoor
