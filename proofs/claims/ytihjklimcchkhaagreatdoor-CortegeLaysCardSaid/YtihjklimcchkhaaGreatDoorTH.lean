/- What the listed variables give; the world that is shown. A template (fill.py). -/
/- What the listed variables give, of pile's laws; the world that is shown. A template (fill.py). -/
/- What the listed variables give, of cortege's laws; the world that is shown. A template (fill.py). -/
import Derived.Test.YtihjklimcchkhaaGreatDoorBase
import Derived.Test.YtihjklimcchkhaaGreatDoorFA
import Derived.Deep.Slices
import Derived.Deep.Fields
import Derived.Test.YtihjklimcchkhaaGreatDoorQR
namespace Go.Proofs.YtihjklimcchkhaaGreatDoor
open Go.RowKit Go.WideShapes Go.ChangeShapes Go.ChangeAt Go.WideMaps Go.WideElems Go.Joins Go.Deep

theorem size_of {W : World} (h : W.ShapedOpen Tryz.prog) : 9 ≤ W.heap.size := by
  have h0 : (((begin Tryz.prog (fun _ _ => 0) default).world.heap[9 - 1]?).bind Obj.row?).isSome = true := by kernel_rfl
  obtain ⟨⟨zero, t⟩, hz⟩ := Option.isSome_iff_exists.1 h0
  have hq : Tryz.prog.globals.size = 9 := by kernel_rfl
  have hg : 9 - 1 < Tryz.prog.globals.size := by rw [hq]; decide
  obtain ⟨cs, hh, _⟩ := h.1 (9 - 1) zero t hg hz
  rcases Nat.lt_or_ge (9 - 1) W.heap.size with hlt | hge
  · omega
  · rw [Array.getElem?_eq_none hge] at hh; cases hh
theorem door_shaped (os : Os) (args : Array Value) : ((World.doorLaid Tryz.prog 400 os).forCall (fun _ _ => 0) ⟨#[], args, []⟩).Shaped Tryz.prog := World.shaped_of_RefB (by kernel_rfl) (by kernel_rfl)
end Go.Proofs.YtihjklimcchkhaaGreatDoor

namespace Go.Proofs.YtihjklimcchkhaaGreatDoor
open Go.RowKit Go.WideShapes Go.ChangeShapes Go.ChangeAt Go.WideMaps Go.WideElems Go.Joins Go.Deep
end Go.Proofs.YtihjklimcchkhaaGreatDoor

namespace Go.Proofs.YtihjklimcchkhaaGreatDoor.Cq
open Go.RowKit Go.WideShapes Go.ChangeShapes Go.ChangeAt Go.WideMaps Go.WideElems Go.Joins Go.Deep
def LY : List (String × DataW Unit) := [("sexton/api.ErrArg", Rows.laid_sexton_api_ErrArg), ("sexton/api.ErrNil", Rows.laid_sexton_api_ErrNil), ("sexton/api.ErrFull", Rows.laid_sexton_api_ErrFull), ("sexton/api.ErrState", Rows.laid_sexton_api_ErrState), ("sexton/api.ErrFreed", Rows.laid_sexton_api_ErrFreed), ("sexton/api.ErrStale", Rows.laid_sexton_api_ErrStale), ("sexton/api.ErrTwice", Rows.laid_sexton_api_ErrTwice), ("sexton/api.ErrLeft", Rows.laid_sexton_api_ErrLeft)]
theorem envY {W : World} (h : laidMetH Tryz.prog LY W) (hs : W.ShapedOpen Tryz.prog) : ∃ E a, Env W E ∧ HasFull W a := by
  rw [MakeChecks.laidMetH_plain _ _ _ (by kernel_rfl)] at h
  obtain ⟨a1, h1⟩ := sent_cell (g := 0) h (by kernel_rfl) (by kernel_rfl)
  obtain ⟨a2, h2⟩ := sent_cell (g := 1) h.tail (by kernel_rfl) (by kernel_rfl)
  obtain ⟨a6, h6⟩ := sent_cell (g := 5) h.tail.tail (by kernel_rfl) (by kernel_rfl)
  obtain ⟨a3, h3⟩ := sent_cell (g := 3) h.tail.tail.tail.tail (by kernel_rfl) (by kernel_rfl)
  obtain ⟨a4, h4⟩ := sent_cell (g := 6) h.tail.tail.tail.tail.tail (by kernel_rfl) (by kernel_rfl)
  obtain ⟨a5, h5⟩ := sent_cell (g := 7) h.tail.tail.tail.tail.tail.tail (by kernel_rfl) (by kernel_rfl)
  exact ⟨fun | .arg => a1 | .nil => a2 | .freed => a3 | .stale => a4 | .twice => a5, a6, ⟨h1, h4, h2, h3, h5, size_of hs⟩, h6⟩
/-- The heap that the door's own run leaves meets the condition. -/
theorem doorY_met (os : Os) (args : Array Value) : laidMetH Tryz.prog LY ((World.doorLaid Tryz.prog 400 os).forCall (fun _ _ => 0) ⟨#[], args, []⟩).memory := by
  rw [MakeChecks.laidMetH_plain _ _ _ (by kernel_rfl)]
  exact laidMet_of_run' 8 (by kernel_rfl) (by kernel_rfl)
end Go.Proofs.YtihjklimcchkhaaGreatDoor.Cq
