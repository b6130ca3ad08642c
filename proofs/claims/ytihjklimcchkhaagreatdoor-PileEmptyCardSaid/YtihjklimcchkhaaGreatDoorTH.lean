/- What the listed variables give; the world that is shown. A template (fill.py). -/
/- What the listed variables give, of pile's laws; the world that is shown. A template (fill.py). -/
import Derived.Test.YtihjklimcchkhaaGreatDoorBase
import Derived.Test.YtihjklimcchkhaaGreatDoorFA
import Derived.Deep.Slices
import Derived.Deep.Fields
namespace Go.Proofs.YtihjklimcchkhaaGreatDoor
open Go.RowKit Go.WideShapes Go.ChangeShapes Go.ChangeAt Go.WideMaps Go.WideElems Go.Joins Go.Deep

def LF : List (String × DataW Unit) := [("sexton/api.ErrArg", Rows.laid_sexton_api_ErrArg), ("sexton/api.ErrNil", Rows.laid_sexton_api_ErrNil), ("sexton/api.ErrState", Rows.laid_sexton_api_ErrState), ("sexton/api.ErrFreed", Rows.laid_sexton_api_ErrFreed), ("sexton/api.ErrStale", Rows.laid_sexton_api_ErrStale), ("sexton/api.ErrTwice", Rows.laid_sexton_api_ErrTwice)]
def LH : List (String × DataW Unit) := ("errors.errorType", Rows.laid_errors_errorType) :: LF
theorem size_of {W : World} (h : W.ShapedOpen Tryz.prog) : 9 ≤ W.heap.size := by
  have h0 : (((begin Tryz.prog (fun _ _ => 0) default).world.heap[9 - 1]?).bind Obj.row?).isSome = true := by kernel_rfl
  obtain ⟨⟨zero, t⟩, hz⟩ := Option.isSome_iff_exists.1 h0
  have hq : Tryz.prog.globals.size = 9 := by kernel_rfl
  have hg : 9 - 1 < Tryz.prog.globals.size := by rw [hq]; decide
  obtain ⟨cs, hh, _⟩ := h.1 (9 - 1) zero t hg hz
  rcases Nat.lt_or_ge (9 - 1) W.heap.size with hlt | hge
  · omega
  · rw [Array.getElem?_eq_none hge] at hh; cases hh
theorem env_of {W : World} (hL : laidMet Tryz.prog LF W) (hs : W.ShapedOpen Tryz.prog) : ∃ E, Env W E := by
  obtain ⟨a1, h1⟩ := sent_cell (g := 0) hL (by kernel_rfl) (by kernel_rfl)
  obtain ⟨a2, h2⟩ := sent_cell (g := 1) hL.tail (by kernel_rfl) (by kernel_rfl)
  obtain ⟨a3, h3⟩ := sent_cell (g := 3) hL.tail.tail.tail (by kernel_rfl) (by kernel_rfl)
  obtain ⟨a4, h4⟩ := sent_cell (g := 6) hL.tail.tail.tail.tail (by kernel_rfl) (by kernel_rfl)
  obtain ⟨a5, h5⟩ := sent_cell (g := 7) hL.tail.tail.tail.tail.tail (by kernel_rfl) (by kernel_rfl)
  exact ⟨fun | .arg => a1 | .nil => a2 | .freed => a3 | .stale => a4 | .twice => a5, ⟨h1, h4, h2, h3, h5, size_of hs⟩⟩
theorem envF {W : World} (h : laidMetH Tryz.prog LF W) (hs : W.ShapedOpen Tryz.prog) : ∃ E, Env W E := by
  rw [MakeChecks.laidMetH_plain _ _ _ (by kernel_rfl)] at h
  exact env_of h hs
theorem envH {W : World} (h : laidMetH Tryz.prog LH W) (hs : W.ShapedOpen Tryz.prog) : ∃ E, Env W E := by
  have h' : laidMet Tryz.prog LF W ∧ handlesMet Tryz.prog [("errors.errorType", Rows.laid_errors_errorType)] W := h
  exact env_of h'.1 hs
/-- The heap that the door's own run leaves meets the condition. -/
theorem doorF_met (os : Os) (args : Array Value) : laidMetH Tryz.prog LF ((World.doorLaid Tryz.prog 400 os).forCall (fun _ _ => 0) ⟨#[], args, []⟩).memory := by
  rw [MakeChecks.laidMetH_plain _ _ _ (by kernel_rfl)]
  exact laidMet_of_run' 8 (by kernel_rfl) (by kernel_rfl)
theorem doorH_met (os : Os) (args : Array Value) : laidMetH Tryz.prog LH ((World.doorLaid Tryz.prog 400 os).forCall (fun _ _ => 0) ⟨#[], args, []⟩).memory :=
  laidMetH_of_parts3 (fuel := 8) (laidMet_of_run' 8 (by kernel_rfl) (by kernel_rfl)) (by kernel_rfl) (by kernel_rfl)
theorem door_shaped (os : Os) (args : Array Value) : ((World.doorLaid Tryz.prog 400 os).forCall (fun _ _ => 0) ⟨#[], args, []⟩).Shaped Tryz.prog := World.shaped_of_RefB (by kernel_rfl) (by kernel_rfl)
end Go.Proofs.YtihjklimcchkhaaGreatDoor

namespace Go.Proofs.YtihjklimcchkhaaGreatDoor
open Go.RowKit Go.WideShapes Go.ChangeShapes Go.ChangeAt Go.WideMaps Go.WideElems Go.Joins Go.Deep
def LPs : List (String × DataW Unit) := [("sexton/api.ErrArg", Rows.laid_sexton_api_ErrArg), ("sexton/api.ErrNil", Rows.laid_sexton_api_ErrNil), ("sexton/api.ErrState", Rows.laid_sexton_api_ErrState), ("sexton/api.ErrFreed", Rows.laid_sexton_api_ErrFreed), ("sexton/api.ErrStale", Rows.laid_sexton_api_ErrStale), ("sexton/api.ErrTwice", Rows.laid_sexton_api_ErrTwice), ("sexton/api.ErrLeft", Rows.laid_sexton_api_ErrLeft)]
def LP : List (String × DataW Unit) := ("errors.errorType", Rows.laid_errors_errorType) :: LPs
theorem env_ofP {W : World} (hL : laidMet Tryz.prog LPs W) (hs : W.ShapedOpen Tryz.prog) : ∃ E, Env W E := by
  obtain ⟨a1, h1⟩ := sent_cell (g := 0) hL (by kernel_rfl) (by kernel_rfl)
  obtain ⟨a2, h2⟩ := sent_cell (g := 1) hL.tail (by kernel_rfl) (by kernel_rfl)
  obtain ⟨a3, h3⟩ := sent_cell (g := 3) hL.tail.tail.tail (by kernel_rfl) (by kernel_rfl)
  obtain ⟨a4, h4⟩ := sent_cell (g := 6) hL.tail.tail.tail.tail (by kernel_rfl) (by kernel_rfl)
  obtain ⟨a5, h5⟩ := sent_cell (g := 7) hL.tail.tail.tail.tail.tail (by kernel_rfl) (by kernel_rfl)
  exact ⟨fun | .arg => a1 | .nil => a2 | .freed => a3 | .stale => a4 | .twice => a5, ⟨h1, h4, h2, h3, h5, size_of hs⟩⟩
theorem envP {W : World} (h : laidMetH Tryz.prog LP W) (hs : W.ShapedOpen Tryz.prog) : ∃ E, Env W E := by
  have h' : laidMet Tryz.prog LPs W ∧ handlesMet Tryz.prog [("errors.errorType", Rows.laid_errors_errorType)] W := h
  exact env_ofP h'.1 hs
/-- The heap that the door's own run leaves meets the condition. -/
theorem doorP_met (os : Os) (args : Array Value) : laidMetH Tryz.prog LP ((World.doorLaid Tryz.prog 400 os).forCall (fun _ _ => 0) ⟨#[], args, []⟩).memory :=
  laidMetH_of_parts3 (fuel := 8) (laidMet_of_run' 8 (by kernel_rfl) (by kernel_rfl)) (by kernel_rfl) (by kernel_rfl)
end Go.Proofs.YtihjklimcchkhaaGreatDoor
