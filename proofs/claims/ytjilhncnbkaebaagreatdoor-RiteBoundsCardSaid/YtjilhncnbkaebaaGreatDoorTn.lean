/- Arguments that are arrays of ints. A template (fill.py). -/
import Derived.Test.YtjilhncnbkaebaaGreatDoorTh
import Derived.Laws.IdiomArrays
namespace Go.Proofs.YtjilhncnbkaebaaGreatDoor
open Go.RowKit Go.WideShapes Go.ChangeShapes Go.ChangeAt Go.WideMaps Go.WideElems Go.Joins
section
variable {H : Type} {enc : TypeId × Value → H}
theorem okWide_array {P : Program} {W : World} {r : Reach} {b : Nat} {t e : TypeId} {n : Nat} {v : Value} (ht : P.underlying t = some (.array n e)) (h : Value.okWide P W r b t v) : ∃ cs, v = .agg cs ∧ cs.size = P.cellsOf t := by
  simp only [Value.okWide, ht] at h
  obtain ⟨cs, h1, h2, _⟩ := h
  exact ⟨cs, h1, h2⟩
set_option maxRecDepth 100000 in
/-- An argument of type [3]int. -/
theorem arr_of {W : World} {v : Value} {d : DataW H} {p : List MemPlace} {b : Nat} (hv : Value.okWide Tryz.prog W .any b 41 v) (h : DataW.Trod enc Tryz.prog W 0 (fun _ => true) true 41 v d p) :
    ∃ a0 a1 a2 : Int, v = .agg #[.int .i64 a0, .int .i64 a1, .int .i64 a2] := by
  have ht : Tryz.prog.underlying 41 = some (.array 3 3) := by kernel_rfl
  obtain ⟨cs, rfl, hsz⟩ := okWide_array ht hv
  have hC : Tryz.prog.cellsOf 41 = 3 := by kernel_rfl
  obtain ⟨l⟩ := cs
  match l, hsz.trans hC with
  | [c0, c1, c2], _ =>
    obtain ⟨fuel, hf⟩ := h
    obtain ⟨y0, y1, y2, n, _, g0, g1, g2⟩ := trod_array3 ht cells3 (by simpa [Value.cells] using hf)
    obtain ⟨s, rfl⟩ := one_int (v := c0) g0
    obtain ⟨g, rfl⟩ := one_int (v := c1) g1
    obtain ⟨f, rfl⟩ := one_int (v := c2) g2
    exact ⟨s, g, f, rfl⟩
set_option maxRecDepth 100000 in
/-- An argument of type [4]int. -/
theorem arr4_of {W : World} {v : Value} {d : DataW H} {p : List MemPlace} {b : Nat} (hv : Value.okWide Tryz.prog W .any b 22 v) (h : DataW.Trod enc Tryz.prog W 0 (fun _ => true) true 22 v d p) :
    ∃ a0 a1 a2 a3 : Int, v = .agg #[.int .i64 a0, .int .i64 a1, .int .i64 a2, .int .i64 a3] := by
  have ht : Tryz.prog.underlying 22 = some (.array 4 3) := by kernel_rfl
  obtain ⟨cs, rfl, hsz⟩ := okWide_array ht hv
  have hC : Tryz.prog.cellsOf 22 = 4 := by kernel_rfl
  obtain ⟨l⟩ := cs
  match l, hsz.trans hC with
  | [c0, c1, c2, c3], _ =>
    obtain ⟨fuel, hf⟩ := h
    obtain ⟨y0, y1, y2, y3, n, _, g0, g1, g2, g3⟩ := trod_array4 ht cells3 (by simpa [Value.cells] using hf)
    obtain ⟨s, rfl⟩ := one_int (v := c0) g0
    obtain ⟨g, rfl⟩ := one_int (v := c1) g1
    obtain ⟨f, rfl⟩ := one_int (v := c2) g2
    obtain ⟨i, rfl⟩ := one_int (v := c3) g3
    exact ⟨s, g, f, i, rfl⟩
end
end Go.Proofs.YtjilhncnbkaebaaGreatDoor
