/- board: below, cell, Cells, Era, Root, Keep, Span, Where; an address's ==. A template (fill.py). -/
import Derived.Test.YtihjklimcchkhaaGreatDoorBlk
import Derived.Laws.StructEq
import Derived.Deep.QuietTactic
import Derived.BigQuiet
import Derived.Lib.Hide
import Derived.Outline
namespace Go.Proofs.YtihjklimcchkhaaGreatDoor.Bd
open Go.RowKit Go.Extern.Stop Go.Stop Go.Extern Go.Sort

/-- An address as a value. -/
def ad (s g f : Int) : Value := .agg #[.int .i64 s, .int .i64 g, .int .i64 f]
/-- The variable that holds ErrArg, and the one that holds ErrNone. -/
def HasArg (w : World) (a : Addr) : Prop := w.cell? ⟨0, 0, none⟩ = some (.iface 260 (.pointer (some a)))
theorem cell_keep {w w' : World} {p : Addr} {v : Value} (h : w.cell? p = some v) (hb : Below w.heap.size w w') : w'.cell? p = some v := by rw [hb.cell (lt_of_cell h)]; exact h

/-! ### an address's == -/
/-! ### the small functions -/
theorem below_any (n m : Int) (w : World) : Calls Tryz.prog 57 #[.int .i64 n, .int .i64 m] w fun e w' => e = .returned (.bool (decide (0 ≤ n) && decide (n < m))) ∧ w = w' := by
  by_cases h1 : 0 ≤ n
  · by_cases h2 : n < m
    · have k1 : decide (0 ≤ n) = true := by simpa using h1
      have k2 : decide (n < m) = true := by simpa using h2
      rw [k1, k2]
      go_enter Tryz.func57, Tryz.ntmps57
      go_wp2
      go_ret
      exact ⟨rfl, rfl⟩
    · have k1 : decide (0 ≤ n) = true := by simpa using h1
      have k2 : decide (n < m) = false := by simpa using h2
      rw [k1, k2]
      go_enter Tryz.func57, Tryz.ntmps57
      go_wp2
      go_ret
      exact ⟨rfl, rfl⟩
  · have k1 : decide (0 ≤ n) = false := by simpa using h1
    rw [k1]
    go_enter Tryz.func57, Tryz.ntmps57
    go_wp2
    go_ret
    exact ⟨rfl, rfl⟩
theorem below_yes (n m : Int) (h : 0 ≤ n ∧ n < m) (w : World) : Calls Tryz.prog 57 #[.int .i64 n, .int .i64 m] w fun e w' => e = .returned (.bool true) ∧ w = w' := by
  have := below_any n m w
  have k : (decide (0 ≤ n) && decide (n < m)) = true := by simpa using h
  rwa [k] at this
theorem cell_any (n : Int) (w : World) : Calls Tryz.prog 58 #[.int .i64 n] w fun e w' => e = .returned (ad 0 0 n) ∧ Below w.heap.size w w' := by
  go_enter Tryz.func58, Tryz.ntmps58
  go_wp2
  exact bodyPost_ret (v := ad 0 0 n) (by simp [ad, results, Tryz.results58, go_sem]) rfl ⟨rfl, (Below.refl _ _).alloc (Nat.le_refl _) _⟩
theorem Cells_any (w : World) : Calls Tryz.prog 39 #[] w fun e w' => e = .returned (.int .i64 85) ∧ w = w' := by
  go_enter Tryz.func39, Tryz.ntmps39
  go_wp2
  go_ret
  exact ⟨rfl, rfl⟩
/-- A new box of three cells, behind a call that lays blocks. -/
theorem box3 {w w1 : World} {t : TypeId} {v0 v1 v2 : Value} (hb : Below (w.alloc (.cells #[v0, v1, v2] t)).heap.size (w.alloc (.cells #[v0, v1, v2] t)) w1) :
    (w1.cell? ⟨w.heap.size, 0, none⟩ = some v0 ∧ w1.cell? ⟨w.heap.size, 1, none⟩ = some v1 ∧ w1.cell? ⟨w.heap.size, 2, none⟩ = some v2) ∧
    (w1.frozen? ⟨w.heap.size, 0, none⟩ = false ∧ w1.frozen? ⟨w.heap.size, 1, none⟩ = false ∧ w1.frozen? ⟨w.heap.size, 2, none⟩ = false) ∧ w.heap.size < w1.heap.size ∧ Below w.heap.size w w1 :=
  have h : BlkW w1 w.heap.size t #[v0, v1, v2] := (BlkW.new w t _).below hb
  ⟨⟨h.cell 0, h.cell 1, h.cell 2⟩, ⟨h.frozen 0, h.frozen 1, h.frozen 2⟩, h.lt, below_trans (below_alloc (Below.refl _ _) _) hb⟩
theorem set3 {w w1 : World} (h : Below w.heap.size w w1) (u0 u1 u2 : Value) : Below w.heap.size w (((w1.setCell ⟨w.heap.size, 0, none⟩ u0).setCell ⟨w.heap.size, 1, none⟩ u1).setCell ⟨w.heap.size, 2, none⟩ u2) :=
  below_set (below_set (below_set h _ _ _ (Nat.le_refl _)) _ _ _ (Nat.le_refl _)) _ _ _ (Nat.le_refl _)
theorem Era_any (w : World) : Calls Tryz.prog 48 #[] w fun e w' => e = .returned (ad 0 0 24) ∧ Below w.heap.size w w' := by
  go_enter Tryz.func48, Tryz.ntmps48
  go_wp2_with fail
  refine (cell_any 24 _).mono ?_
  rintro e w1 ⟨rfl, hb⟩
  obtain ⟨⟨c0, c1, c2⟩, ⟨f0, f1, f2⟩, hz, hB⟩ := box3 hb
  have HB := Lib.hid hB
  clear hb hB
  unfold ad
  go_wp2
  exact bodyPost_ret (v := ad 0 0 24) (by simp [ad, results, Tryz.results48, go_sem, c0, c1, c2]) rfl ⟨rfl, set3 HB.out _ _ _⟩

/-! ### Root, Keep, Span -/
/-- There is such a place. -/
def Yes (n : Int) (w : World) (e : Ending) (w' : World) : Prop := e = .returned (.tuple #[ad 0 0 n, .nilIface]) ∧ Below w.heap.size w w'
theorem Root_yes (n : Int) (h : 0 ≤ n ∧ n < 24) (w : World) : Calls Tryz.prog 19 #[.int .i64 n] w (Yes (n) w) := by
  have hy0 := below_yes n 24 ⟨by omega, by omega⟩
  have ha : wrap64 n = n := IntWalk.wrap64_in _ ⟨by omega, by omega⟩
  clear h
  go_enter Tryz.func19, Tryz.ntmps19
  go_wp2_with fail
  refine (hy0 _).mono ?_
  rintro e w1 ⟨rfl, rfl⟩
  go_wp2_with fail
  refine (cell_any _ _).mono ?_
  rintro e w1 ⟨rfl, hb⟩
  obtain ⟨⟨c0, c1, c2⟩, ⟨f0, f1, f2⟩, hz, hB⟩ := box3 hb
  have HB := Lib.hid hB
  clear hb hB
  unfold ad
  go_wp2
  exact bodyPost_ret (v := .tuple #[ad 0 0 (n), .nilIface]) (by simp [ad, results, Tryz.results19, go_sem, c0, c1, c2]) rfl ⟨rfl, set3 HB.out _ _ _⟩
theorem Keep_yes (t n : Int) (h : (0 ≤ t ∧ t < 6) ∧ (0 ≤ n ∧ n < 9)) (w : World) : Calls Tryz.prog 24 #[.int .i64 t, .int .i64 n] w (Yes (25 + t * 9 + n) w) := by
  have hy0 := below_yes t 6 ⟨by omega, by omega⟩
  have hy1 := below_yes n 9 ⟨by omega, by omega⟩
  have ha : wrap64 (wrap64 (25 + wrap64 (t * 9)) + n) = 25 + t * 9 + n := by
    rw [IntWalk.wrap64_in (t * 9) ⟨by omega, by omega⟩, IntWalk.wrap64_in (25 + t * 9) ⟨by omega, by omega⟩, IntWalk.wrap64_in _ ⟨by omega, by omega⟩]
  clear h
  go_enter Tryz.func24, Tryz.ntmps24
  go_wp2_with fail
  refine (hy0 _).mono ?_
  rintro e w1 ⟨rfl, rfl⟩
  go_wp2_with fail
  refine (hy1 _).mono ?_
  rintro e w1 ⟨rfl, rfl⟩
  go_wp2_with fail
  refine (cell_any _ _).mono ?_
  rintro e w1 ⟨rfl, hb⟩
  obtain ⟨⟨c0, c1, c2⟩, ⟨f0, f1, f2⟩, hz, hB⟩ := box3 hb
  have HB := Lib.hid hB
  clear hb hB
  unfold ad
  go_wp2
  exact bodyPost_ret (v := .tuple #[ad 0 0 (25 + t * 9 + n), .nilIface]) (by simp [ad, results, Tryz.results24, go_sem, c0, c1, c2]) rfl ⟨rfl, set3 HB.out _ _ _⟩
theorem Span_yes (t : Int) (h : 0 ≤ t ∧ t < 6) (w : World) : Calls Tryz.prog 23 #[.int .i64 t] w (Yes (79 + t) w) := by
  have hy0 := below_yes t 6 ⟨by omega, by omega⟩
  have ha : wrap64 (79 + t) = 79 + t := IntWalk.wrap64_in _ ⟨by omega, by omega⟩
  clear h
  go_enter Tryz.func23, Tryz.ntmps23
  go_wp2_with fail
  refine (hy0 _).mono ?_
  rintro e w1 ⟨rfl, rfl⟩
  go_wp2_with fail
  refine (cell_any _ _).mono ?_
  rintro e w1 ⟨rfl, hb⟩
  obtain ⟨⟨c0, c1, c2⟩, ⟨f0, f1, f2⟩, hz, hB⟩ := box3 hb
  have HB := Lib.hid hB
  clear hb hB
  unfold ad
  go_wp2
  exact bodyPost_ret (v := .tuple #[ad 0 0 (79 + t), .nilIface]) (by simp [ad, results, Tryz.results23, go_sem, c0, c1, c2]) rfl ⟨rfl, set3 HB.out _ _ _⟩
end Go.Proofs.YtihjklimcchkhaaGreatDoor.Bd
