/- Arguments that are addresses, spans, arrays of three ints; what the listed sentinels give. A template (fill.py). -/
import Derived.Test.YtnjlodgdedodgaaDoorBase
import Derived.Test.YtnjlodgdedodgaaDoorBoard
import Derived.Laws.IdiomArrays
namespace Go.Proofs.YtnjlodgdedodgaaDoor
open Go.RowKit Go.WideShapes Go.ChangeShapes Go.ChangeAt Go.WideMaps Go.WideElems Go.Joins

section
variable {H : Type} {enc : TypeId × Value → H}
theorem okWide_array {P : Program} {W : World} {r : Reach} {b : Nat} {t e : TypeId} {n : Nat} {v : Value} (ht : P.underlying t = some (.array n e)) (h : Value.okWide P W r b t v) : ∃ cs, v = .agg cs ∧ cs.size = P.cellsOf t := by
  simp only [Value.okWide, ht] at h
  obtain ⟨cs, h1, h2, _⟩ := h
  exact ⟨cs, h1, h2⟩
set_option maxRecDepth 100000 in
/-- An argument of type api.Addr. -/
theorem addr_of {W : World} {v : Value} {d : DataW H} {p : List MemPlace} {b : Nat} (hv : Value.okWide Tryd.prog W .any b 23 v) (h : DataW.Trod enc Tryd.prog W 0 (fun _ => true) true 23 v d p) :
    ∃ s g f : Int, v = .agg #[.int .i64 s, .int .i64 g, .int .i64 f] := by
  obtain ⟨cs, rfl, hsz⟩ := okWide_struct Tryd.underlying23 hv
  have hC : Tryd.prog.cellsOf 23 = 3 := by kernel_rfl
  obtain ⟨l⟩ := cs
  match l, hsz.trans hC with
  | [c0, c1, c2], _ =>
    obtain ⟨fuel, hf⟩ := h
    obtain ⟨xs, n, _, hx, _, hlen, hg⟩ := DataW.trod_struct Tryd.underlying23 hf
    have e3 : Tryd.prog.cellsOf 3 = 1 := cells3
    have g0 := hg 0 _ rfl
    have g1 := hg 1 _ rfl
    have g2 := hg 2 _ rfl
    match xs, hlen with
    | [y0, y1, y2], _ =>
      obtain ⟨s, rfl⟩ := one_int (v := c0) (by simpa [Value.cells, e3] using g0)
      obtain ⟨g, rfl⟩ := one_int (v := c1) (by simpa [Value.cells, e3] using g1)
      obtain ⟨f, rfl⟩ := one_int (v := c2) (by simpa [Value.cells, e3] using g2)
      exact ⟨s, g, f, rfl⟩
set_option maxRecDepth 100000 in
/-- An argument of type api.Span. -/
theorem span_of {W : World} {v : Value} {d : DataW H} {p : List MemPlace} {b : Nat} (hv : Value.okWide Tryd.prog W .any b 48 v) (h : DataW.Trod enc Tryd.prog W 0 (fun _ => true) true 48 v d p) :
    ∃ (b : Bool) (l h : Int), v = .agg #[.bool b, .int .i64 l, .int .i64 h] := by
  obtain ⟨cs, rfl, hsz⟩ := okWide_struct Tryd.underlying48 hv
  have hC : Tryd.prog.cellsOf 48 = 3 := by kernel_rfl
  obtain ⟨l⟩ := cs
  match l, hsz.trans hC with
  | [c0, c1, c2], _ =>
    obtain ⟨fuel, hf⟩ := h
    obtain ⟨xs, n, _, hx, _, hlen, hg⟩ := DataW.trod_struct Tryd.underlying48 hf
    have e3 : Tryd.prog.cellsOf 3 = 1 := cells3
    have e4 : Tryd.prog.cellsOf 4 = 1 := by kernel_rfl
    have g0 := hg 0 _ rfl
    have g1 := hg 1 _ rfl
    have g2 := hg 2 _ rfl
    match xs, hlen with
    | [y0, y1, y2], _ =>
      obtain ⟨s, rfl⟩ := one_bool (v := c0) (by simpa [Value.cells, e4] using g0)
      obtain ⟨g, rfl⟩ := one_int (v := c1) (by simpa [Value.cells, e3] using g1)
      obtain ⟨f, rfl⟩ := one_int (v := c2) (by simpa [Value.cells, e3] using g2)
      exact ⟨s, g, f, rfl⟩
set_option maxRecDepth 100000 in
/-- An argument of type [3]int. -/
theorem arr_of {W : World} {v : Value} {d : DataW H} {p : List MemPlace} {b : Nat} (hv : Value.okWide Tryd.prog W .any b 43 v) (h : DataW.Trod enc Tryd.prog W 0 (fun _ => true) true 43 v d p) :
    ∃ a0 a1 a2 : Int, v = .agg #[.int .i64 a0, .int .i64 a1, .int .i64 a2] := by
  have ht : Tryd.prog.underlying 43 = some (.array 3 3) := by kernel_rfl
  obtain ⟨cs, rfl, hsz⟩ := okWide_array ht hv
  have hC : Tryd.prog.cellsOf 43 = 3 := by kernel_rfl
  obtain ⟨l⟩ := cs
  match l, hsz.trans hC with
  | [c0, c1, c2], _ =>
    obtain ⟨fuel, hf⟩ := h
    obtain ⟨y0, y1, y2, n, _, g0, g1, g2⟩ := trod_array3 ht cells3 (by simpa [Value.cells] using hf)
    obtain ⟨s, rfl⟩ := one_int (v := c0) g0
    obtain ⟨g, rfl⟩ := one_int (v := c1) g1
    obtain ⟨f, rfl⟩ := one_int (v := c2) g2
    exact ⟨s, g, f, rfl⟩
end

/-! ### what the listed variables give -/
def LA : List (String × DataW Unit) := [("sexton/api.ErrArg", Rows.laid_sexton_api_ErrArg)]
def LB : List (String × DataW Unit) := [("sexton/api.ErrArg", Rows.laid_sexton_api_ErrArg), ("sexton/api.ErrNone", Rows.laid_sexton_api_ErrNone)]
theorem envA {W : World} (h : laidMetH Tryd.prog LA W) : ∃ a, HasArg W a := by
  rw [MakeChecks.laidMetH_plain _ _ _ (by kernel_rfl)] at h
  exact sent_cell (g := 1) h (by kernel_rfl) (by kernel_rfl)
theorem envB {W : World} (h : laidMetH Tryd.prog LB W) : ∃ a b, HasArg W a ∧ HasNone W b := by
  rw [MakeChecks.laidMetH_plain _ _ _ (by kernel_rfl)] at h
  obtain ⟨a, ha⟩ := sent_cell (g := 1) h (by kernel_rfl) (by kernel_rfl)
  obtain ⟨b, hb⟩ := sent_cell (g := 0) h.tail (by kernel_rfl) (by kernel_rfl)
  exact ⟨a, b, ha, hb⟩
/-- The heap that the door's own run leaves meets the condition. -/
theorem doorA_met (os : Os) (args : Array Value) : laidMetH Tryd.prog LA ((World.doorLaid Tryd.prog 400 os).forCall (fun _ _ => 0) ⟨#[], args, []⟩).memory := by
  rw [MakeChecks.laidMetH_plain _ _ _ (by kernel_rfl)]
  exact laidMet_of_run' 8 (by kernel_rfl) (by kernel_rfl)
theorem doorB_met (os : Os) (args : Array Value) : laidMetH Tryd.prog LB ((World.doorLaid Tryd.prog 400 os).forCall (fun _ _ => 0) ⟨#[], args, []⟩).memory := by
  rw [MakeChecks.laidMetH_plain _ _ _ (by kernel_rfl)]
  exact laidMet_of_run' 8 (by kernel_rfl) (by kernel_rfl)
theorem door_shaped (os : Os) (args : Array Value) : ((World.doorLaid Tryd.prog 400 os).forCall (fun _ _ => 0) ⟨#[], args, []⟩).Shaped Tryd.prog := World.shaped_of_RefB (by kernel_rfl) (by kernel_rfl)
end Go.Proofs.YtnjlodgdedodgaaDoor
