/- board: below, cell, Cells, Era, Root, Keep, Span, Where; an address's ==. A template (fill.py). -/
import Derived.Test.YtihjklimcchkhaaGreatDoorBlk
import Derived.Laws.StructEq
import Derived.Deep.QuietTactic
import Derived.BigQuiet
import Derived.Lib.Hide
import Derived.Outline
namespace Go.Proofs.YtihjklimcchkhaaGreatDoor.Bd
open Go.RowKit Go.Extern.Stop Go.Stop Go.Extern Go.Sort

/-- An address as a value. -/
def ad (s g f : Int) : Value := .agg #[.int .i64 s, .int .i64 g, .int .i64 f]
/-- The variable that holds ErrArg, and the one that holds ErrNone. -/
def HasArg (w : World) (a : Addr) : Prop := w.cell? ⟨0, 0, none⟩ = some (.iface 260 (.pointer (some a)))
theorem cell_keep {w w' : World} {p : Addr} {v : Value} (h : w.cell? p = some v) (hb : Below w.heap.size w w') : w'.cell? p = some v := by rw [hb.cell (lt_of_cell h)]; exact h

/-! ### an address's == -/
theorem aHeld : Tryz.prog.stoodInHeld 47 = false := by kernel_rfl
theorem aGuard : Tryz.prog.eqGuardType Tryz.prog.depth 47 = false := by kernel_rfl
theorem aT : Tryz.prog.underlying 47 = some (.struct (Tryz.prog.fieldsOf 47)) := by kernel_rfl
theorem aF : (Tryz.prog.fieldsOf 47).toList = [{ name := "Slot", type := 3, offset := 0, embedded := false, tag := "", pkgPath := "", byteOffset := 0 },
        { name := "Gen", type := 3, offset := 1, embedded := false, tag := "", pkgPath := "", byteOffset := 8 },
        { name := "Field", type := 3, offset := 2, embedded := false, tag := "", pkgPath := "", byteOffset := 16 }] := by kernel_rfl
/-- Whether two addresses are equal. -/
def adB (s g f s' g' f' : Int) : Bool := s == s' && g == g' && f == f'
theorem adEqIn (s g f s' g' f' : Int) (w : World) : (Op.equalIn 10000 47 (.agg #[.int .i64 s, .int .i64 g, .int .i64 f]) (.agg #[.int .i64 s', .int .i64 g', .int .i64 f'])).run Tryz.prog w = .ok (adB s g f s' g' f') w := by
  rw [run_equalIn_agg _ _ _ _ _ aT aHeld, aF]
  have e1 : ∀ (x y : Int) (w : World), (Op.equalIn 9999 3 (.int .i64 x) (.int .i64 y)).run Tryz.prog w = .ok (x == y) w := fun x y w => run_equalIn_int w 9998 3 .i64 .i64 x y Tryz.underlying3
  simp only [Op.eqFields]
  simp [go_sem, e1]
  unfold adB
  (repeat' split) <;> simp_all
theorem ad_eq (s g f s' g' f' : Int) (w : World) : (binOp .eql 47 (.agg #[.int .i64 s, .int .i64 g, .int .i64 f]) (.agg #[.int .i64 s', .int .i64 g', .int .i64 f'])).run Tryz.prog w = .ok (.bool (adB s g f s' g' f')) w := by
  rw [run_eql_struct, adEqIn]; rfl
theorem ad_ne (s g f s' g' f' : Int) (w : World) : (binOp .neq 47 (.agg #[.int .i64 s, .int .i64 g, .int .i64 f]) (.agg #[.int .i64 s', .int .i64 g', .int .i64 f'])).run Tryz.prog w = .ok (.bool (!(adB s g f s' g' f'))) w := by
  rw [run_neq_struct, adEqIn]; rfl
theorem adB_refl (s g f : Int) : adB s g f s g f = true := by simp [adB]

/-! ### the small functions -/
theorem below_any (n m : Int) (w : World) : Calls Tryz.prog 57 #[.int .i64 n, .int .i64 m] w fun e w' => e = .returned (.bool (decide (0 ≤ n) && decide (n < m))) ∧ w = w' := by
  by_cases h1 : 0 ≤ n
  · by_cases h2 : n < m
    · have k1 : decide (0 ≤ n) = true := by simpa using h1
      have k2 : decide (n < m) = true := by simpa using h2
      rw [k1, k2]
      go_enter Tryz.func57, Tryz.ntmps57
      go_wp2
      go_ret
      exact ⟨rfl, rfl⟩
    · have k1 : decide (0 ≤ n) = true := by simpa using h1
      have k2 : decide (n < m) = false := by simpa using h2
      rw [k1, k2]
      go_enter Tryz.func57, Tryz.ntmps57
      go_wp2
      go_ret
      exact ⟨rfl, rfl⟩
  · have k1 : decide (0 ≤ n) = false := by simpa using h1
    rw [k1]
    go_enter Tryz.func57, Tryz.ntmps57
    go_wp2
    go_ret
    exact ⟨rfl, rfl⟩
theorem below_yes (n m : Int) (h : 0 ≤ n ∧ n < m) (w : World) : Calls Tryz.prog 57 #[.int .i64 n, .int .i64 m] w fun e w' => e = .returned (.bool true) ∧ w = w' := by
  have := below_any n m w
  have k : (decide (0 ≤ n) && decide (n < m)) = true := by simpa using h
  rwa [k] at this
theorem below_no (n m : Int) (h : ¬ (0 ≤ n ∧ n < m)) (w : World) : Calls Tryz.prog 57 #[.int .i64 n, .int .i64 m] w fun e w' => e = .returned (.bool false) ∧ w = w' := by
  have := below_any n m w
  have k : (decide (0 ≤ n) && decide (n < m)) = false := by simpa using h
  rwa [k] at this
theorem cell_any (n : Int) (w : World) : Calls Tryz.prog 58 #[.int .i64 n] w fun e w' => e = .returned (ad 0 0 n) ∧ Below w.heap.size w w' := by
  go_enter Tryz.func58, Tryz.ntmps58
  go_wp2
  exact bodyPost_ret (v := ad 0 0 n) (by simp [ad, results, Tryz.results58, go_sem]) rfl ⟨rfl, (Below.refl _ _).alloc (Nat.le_refl _) _⟩
theorem Cells_any (w : World) : Calls Tryz.prog 39 #[] w fun e w' => e = .returned (.int .i64 85) ∧ w = w' := by
  go_enter Tryz.func39, Tryz.ntmps39
  go_wp2
  go_ret
  exact ⟨rfl, rfl⟩
/-- A new box of three cells, behind a call that lays blocks. -/
theorem box3 {w w1 : World} {t : TypeId} {v0 v1 v2 : Value} (hb : Below (w.alloc (.cells #[v0, v1, v2] t)).heap.size (w.alloc (.cells #[v0, v1, v2] t)) w1) :
    (w1.cell? ⟨w.heap.size, 0, none⟩ = some v0 ∧ w1.cell? ⟨w.heap.size, 1, none⟩ = some v1 ∧ w1.cell? ⟨w.heap.size, 2, none⟩ = some v2) ∧
    (w1.frozen? ⟨w.heap.size, 0, none⟩ = false ∧ w1.frozen? ⟨w.heap.size, 1, none⟩ = false ∧ w1.frozen? ⟨w.heap.size, 2, none⟩ = false) ∧ w.heap.size < w1.heap.size ∧ Below w.heap.size w w1 :=
  have h : BlkW w1 w.heap.size t #[v0, v1, v2] := (BlkW.new w t _).below hb
  ⟨⟨h.cell 0, h.cell 1, h.cell 2⟩, ⟨h.frozen 0, h.frozen 1, h.frozen 2⟩, h.lt, below_trans (below_alloc (Below.refl _ _) _) hb⟩
theorem set3 {w w1 : World} (h : Below w.heap.size w w1) (u0 u1 u2 : Value) : Below w.heap.size w (((w1.setCell ⟨w.heap.size, 0, none⟩ u0).setCell ⟨w.heap.size, 1, none⟩ u1).setCell ⟨w.heap.size, 2, none⟩ u2) :=
  below_set (below_set (below_set h _ _ _ (Nat.le_refl _)) _ _ _ (Nat.le_refl _)) _ _ _ (Nat.le_refl _)
theorem Era_any (w : World) : Calls Tryz.prog 48 #[] w fun e w' => e = .returned (ad 0 0 24) ∧ Below w.heap.size w w' := by
  go_enter Tryz.func48, Tryz.ntmps48
  go_wp2_with fail
  refine (cell_any 24 _).mono ?_
  rintro e w1 ⟨rfl, hb⟩
  obtain ⟨⟨c0, c1, c2⟩, ⟨f0, f1, f2⟩, hz, hB⟩ := box3 hb
  have HB := Lib.hid hB
  clear hb hB
  unfold ad
  go_wp2
  exact bodyPost_ret (v := ad 0 0 24) (by simp [ad, results, Tryz.results48, go_sem, c0, c1, c2]) rfl ⟨rfl, set3 HB.out _ _ _⟩

/-! ### Root, Keep, Span -/
/-- There is such a place. -/
def Yes (n : Int) (w : World) (e : Ending) (w' : World) : Prop := e = .returned (.tuple #[ad 0 0 n, .nilIface]) ∧ Below w.heap.size w w'
/-- There is none: the zero address and the error at a. -/
def No (a : Addr) (w : World) (e : Ending) (w' : World) : Prop := ∃ u, e = .returned (.tuple #[ad 0 0 0, u]) ∧ Ch w' (.iface 260 (.pointer (some a))) [4] u ∧ Below w.heap.size w w'
theorem ch_at {W : World} {t : Value} {b : Nat} {p : Int} (h : BlkW W b 161 #[.int .i64 p, t]) : Ch W t [p] (.iface 158 (.pointer (some ⟨b, 0, none⟩))) :=
  Chain.woe h.lt (h.cell 0) (h.cell 1) h (Chain.base _)
theorem no_end (w : World) (v0 v1 v2 e : Value) (t : TypeId) :
    Ch ((w.alloc (.cells #[v0, v1, v2] t)).alloc (.cells #[.int .i64 4, e] 161)) e [4] (.iface 158 (.pointer (some ⟨w.heap.size + 1, 0, none⟩))) ∧
    Below w.heap.size w ((w.alloc (.cells #[v0, v1, v2] t)).alloc (.cells #[.int .i64 4, e] 161)) :=
  ⟨ch_at (blk2 w #[v0, v1, v2] #[.int .i64 4, e] t 161).2, below_alloc (below_alloc (Below.refl _ _) _) _⟩
theorem Root_yes (n : Int) (h : 0 ≤ n ∧ n < 24) (w : World) : Calls Tryz.prog 19 #[.int .i64 n] w (Yes (n) w) := by
  have hy0 := below_yes n 24 ⟨by omega, by omega⟩
  have ha : wrap64 n = n := IntWalk.wrap64_in _ ⟨by omega, by omega⟩
  clear h
  go_enter Tryz.func19, Tryz.ntmps19
  go_wp2_with fail
  refine (hy0 _).mono ?_
  rintro e w1 ⟨rfl, rfl⟩
  go_wp2_with fail
  refine (cell_any _ _).mono ?_
  rintro e w1 ⟨rfl, hb⟩
  obtain ⟨⟨c0, c1, c2⟩, ⟨f0, f1, f2⟩, hz, hB⟩ := box3 hb
  have HB := Lib.hid hB
  clear hb hB
  unfold ad
  go_wp2
  exact bodyPost_ret (v := .tuple #[ad 0 0 (n), .nilIface]) (by simp [ad, results, Tryz.results19, go_sem, c0, c1, c2]) rfl ⟨rfl, set3 HB.out _ _ _⟩
theorem Root_no (n : Int) (h : ¬ (0 ≤ n ∧ n < 24)) (a : Addr) (w : World) (L : HasArg w a) : Calls Tryz.prog 19 #[.int .i64 n] w (No a w) := by
  have hy0 := below_no n 24 (by omega)
  unfold HasArg at L
  have hz := lt_of_cell L
  clear h
  go_enter Tryz.func19, Tryz.ntmps19
  go_wp2_with fail
  refine (hy0 _).mono ?_
  rintro e w1 ⟨rfl, rfl⟩
  go_wp2_with fail
  refine (At_some 4 _ _ _).mono ?_
  rintro e w1 ⟨rfl, rfl⟩
  simp only [World.size_alloc]
  go_wp2
  exact bodyPost_ret (v := .tuple #[ad 0 0 0, .iface 158 (.pointer (some ⟨w.heap.size + 1, 0, none⟩))]) (by simp [ad, results, Tryz.results19, go_sem]) rfl ⟨_, rfl, no_end _ _ _ _ _ _⟩
theorem Keep_yes (t n : Int) (h : (0 ≤ t ∧ t < 6) ∧ (0 ≤ n ∧ n < 9)) (w : World) : Calls Tryz.prog 24 #[.int .i64 t, .int .i64 n] w (Yes (25 + t * 9 + n) w) := by
  have hy0 := below_yes t 6 ⟨by omega, by omega⟩
  have hy1 := below_yes n 9 ⟨by omega, by omega⟩
  have ha : wrap64 (wrap64 (25 + wrap64 (t * 9)) + n) = 25 + t * 9 + n := by
    rw [IntWalk.wrap64_in (t * 9) ⟨by omega, by omega⟩, IntWalk.wrap64_in (25 + t * 9) ⟨by omega, by omega⟩, IntWalk.wrap64_in _ ⟨by omega, by omega⟩]
  clear h
  go_enter Tryz.func24, Tryz.ntmps24
  go_wp2_with fail
  refine (hy0 _).mono ?_
  rintro e w1 ⟨rfl, rfl⟩
  go_wp2_with fail
  refine (hy1 _).mono ?_
  rintro e w1 ⟨rfl, rfl⟩
  go_wp2_with fail
  refine (cell_any _ _).mono ?_
  rintro e w1 ⟨rfl, hb⟩
  obtain ⟨⟨c0, c1, c2⟩, ⟨f0, f1, f2⟩, hz, hB⟩ := box3 hb
  have HB := Lib.hid hB
  clear hb hB
  unfold ad
  go_wp2
  exact bodyPost_ret (v := .tuple #[ad 0 0 (25 + t * 9 + n), .nilIface]) (by simp [ad, results, Tryz.results24, go_sem, c0, c1, c2]) rfl ⟨rfl, set3 HB.out _ _ _⟩
theorem Keep_no1 (t n : Int) (h : ¬ (0 ≤ t ∧ t < 6)) (a : Addr) (w : World) (L : HasArg w a) : Calls Tryz.prog 24 #[.int .i64 t, .int .i64 n] w (No a w) := by
  have hy0 := below_no t 6 (by omega)
  unfold HasArg at L
  have hz := lt_of_cell L
  clear h
  go_enter Tryz.func24, Tryz.ntmps24
  go_wp2_with fail
  refine (hy0 _).mono ?_
  rintro e w1 ⟨rfl, rfl⟩
  go_wp2_with fail
  refine (At_some 4 _ _ _).mono ?_
  rintro e w1 ⟨rfl, rfl⟩
  simp only [World.size_alloc]
  go_wp2
  exact bodyPost_ret (v := .tuple #[ad 0 0 0, .iface 158 (.pointer (some ⟨w.heap.size + 1, 0, none⟩))]) (by simp [ad, results, Tryz.results24, go_sem]) rfl ⟨_, rfl, no_end _ _ _ _ _ _⟩
theorem Keep_no2 (t n : Int) (h : (0 ≤ t ∧ t < 6) ∧ ¬ (0 ≤ n ∧ n < 9)) (a : Addr) (w : World) (L : HasArg w a) : Calls Tryz.prog 24 #[.int .i64 t, .int .i64 n] w (No a w) := by
  have hy0 := below_yes t 6 (by omega)
  have hy1 := below_no n 9 (by omega)
  unfold HasArg at L
  have hz := lt_of_cell L
  clear h
  go_enter Tryz.func24, Tryz.ntmps24
  go_wp2_with fail
  refine (hy0 _).mono ?_
  rintro e w1 ⟨rfl, rfl⟩
  go_wp2_with fail
  refine (hy1 _).mono ?_
  rintro e w1 ⟨rfl, rfl⟩
  go_wp2_with fail
  refine (At_some 4 _ _ _).mono ?_
  rintro e w1 ⟨rfl, rfl⟩
  simp only [World.size_alloc]
  go_wp2
  exact bodyPost_ret (v := .tuple #[ad 0 0 0, .iface 158 (.pointer (some ⟨w.heap.size + 1, 0, none⟩))]) (by simp [ad, results, Tryz.results24, go_sem]) rfl ⟨_, rfl, no_end _ _ _ _ _ _⟩
theorem Span_yes (t : Int) (h : 0 ≤ t ∧ t < 6) (w : World) : Calls Tryz.prog 23 #[.int .i64 t] w (Yes (79 + t) w) := by
  have hy0 := below_yes t 6 ⟨by omega, by omega⟩
  have ha : wrap64 (79 + t) = 79 + t := IntWalk.wrap64_in _ ⟨by omega, by omega⟩
  clear h
  go_enter Tryz.func23, Tryz.ntmps23
  go_wp2_with fail
  refine (hy0 _).mono ?_
  rintro e w1 ⟨rfl, rfl⟩
  go_wp2_with fail
  refine (cell_any _ _).mono ?_
  rintro e w1 ⟨rfl, hb⟩
  obtain ⟨⟨c0, c1, c2⟩, ⟨f0, f1, f2⟩, hz, hB⟩ := box3 hb
  have HB := Lib.hid hB
  clear hb hB
  unfold ad
  go_wp2
  exact bodyPost_ret (v := .tuple #[ad 0 0 (79 + t), .nilIface]) (by simp [ad, results, Tryz.results23, go_sem, c0, c1, c2]) rfl ⟨rfl, set3 HB.out _ _ _⟩
theorem Span_no (t : Int) (h : ¬ (0 ≤ t ∧ t < 6)) (a : Addr) (w : World) (L : HasArg w a) : Calls Tryz.prog 23 #[.int .i64 t] w (No a w) := by
  have hy0 := below_no t 6 (by omega)
  unfold HasArg at L
  have hz := lt_of_cell L
  clear h
  go_enter Tryz.func23, Tryz.ntmps23
  go_wp2_with fail
  refine (hy0 _).mono ?_
  rintro e w1 ⟨rfl, rfl⟩
  go_wp2_with fail
  refine (At_some 4 _ _ _).mono ?_
  rintro e w1 ⟨rfl, rfl⟩
  simp only [World.size_alloc]
  go_wp2
  exact bodyPost_ret (v := .tuple #[ad 0 0 0, .iface 158 (.pointer (some ⟨w.heap.size + 1, 0, none⟩))]) (by simp [ad, results, Tryz.results23, go_sem]) rfl ⟨_, rfl, no_end _ _ _ _ _ _⟩

theorem cell_re {W : World} (n : Int) (d : Nat) (os : Array Obj) : Calls Tryz.prog 58 #[.int .i64 n] (grow (redrawn W d) os) fun e w'' => e = .returned (ad 0 0 n) ∧ ∃ p : Regrown, w'' = grow (redrawn W p.d) p.os :=
  Calls.regrown_of (cell_any n _)
theorem below_re {W : World} {n m : Int} {r : Bool} (h : ∀ w, Calls Tryz.prog 57 #[.int .i64 n, .int .i64 m] w fun e w' => e = .returned (.bool r) ∧ w = w') (d : Nat) (os : Array Obj) :
    Calls Tryz.prog 57 #[.int .i64 n, .int .i64 m] (grow (redrawn W d) os) fun e w'' => e = .returned (.bool r) ∧ ∃ p : Regrown, w'' = grow (redrawn W p.d) p.os :=
  Calls.regrown_of ((h _).mono fun e w' ⟨he, hw⟩ => ⟨he, by rw [hw]; exact Below.refl _ _⟩)
theorem re3 {w : World} {g : Nat} {t : TypeId} {v0 v1 v2 : Value} (h : BlkW w g t #[v0, v1, v2]) :
    (∀ d os, (grow (redrawn w d) os).cell? ⟨g, 0, none⟩ = some v0) ∧ (∀ d os, (grow (redrawn w d) os).cell? ⟨g, 1, none⟩ = some v1) ∧ (∀ d os, (grow (redrawn w d) os).cell? ⟨g, 2, none⟩ = some v2) :=
  ⟨cell_regrown (h.cell 0), cell_regrown (h.cell 1), cell_regrown (h.cell 2)⟩
end Go.Proofs.YtihjklimcchkhaaGreatDoor.Bd
