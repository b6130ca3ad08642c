/- board, for a seat that has its roots alone: below, cell, Root; an address's ==. A template (fill.py; made by program out of XBd). -/
import Derived.Test.YtihjklimcchkhaaDoorBlk
import Derived.Laws.StructEq
import Derived.Deep.QuietTactic
import Derived.BigQuiet
import Derived.Lib.Hide
import Derived.Outline
namespace Go.Proofs.YtihjklimcchkhaaDoor.Bd
open Go.RowKit Go.Extern.Stop Go.Stop Go.Extern Go.Sort

/-- An address as a value. -/
def ad (s g f : Int) : Value := .agg #[.int .i64 s, .int .i64 g, .int .i64 f]
/-- The variable that holds ErrArg, and the one that holds ErrNone. -/
def HasArg (w : World) (a : Addr) : Prop := w.cell? ⟨0, 0, none⟩ = some (.iface 93 (.pointer (some a)))
theorem cell_keep {w w' : World} {p : Addr} {v : Value} (h : w.cell? p = some v) (hb : Below w.heap.size w w') : w'.cell? p = some v := by rw [hb.cell (lt_of_cell h)]; exact h

/-! ### an address's == -/
theorem aHeld : Tryd.prog.stoodInHeld 35 = false := by kernel_rfl
theorem aGuard : Tryd.prog.eqGuardType Tryd.prog.depth 35 = false := by kernel_rfl
theorem aT : Tryd.prog.underlying 35 = some (.struct (Tryd.prog.fieldsOf 35)) := by kernel_rfl
theorem aF : (Tryd.prog.fieldsOf 35).toList = [{ name := "Slot", type := 3, offset := 0, embedded := false, tag := "", pkgPath := "", byteOffset := 0 },
        { name := "Gen", type := 3, offset := 1, embedded := false, tag := "", pkgPath := "", byteOffset := 8 },
        { name := "Field", type := 3, offset := 2, embedded := false, tag := "", pkgPath := "", byteOffset := 16 }] := by kernel_rfl
/-- Whether two addresses are equal. -/
def adB (s g f s' g' f' : Int) : Bool := s == s' && g == g' && f == f'
theorem adEqIn (s g f s' g' f' : Int) (w : World) : (Op.equalIn 10000 35 (.agg #[.int .i64 s, .int .i64 g, .int .i64 f]) (.agg #[.int .i64 s', .int .i64 g', .int .i64 f'])).run Tryd.prog w = .ok (adB s g f s' g' f') w := by
  rw [run_equalIn_agg _ _ _ _ _ aT aHeld, aF]
  have e1 : ∀ (x y : Int) (w : World), (Op.equalIn 9999 3 (.int .i64 x) (.int .i64 y)).run Tryd.prog w = .ok (x == y) w := fun x y w => run_equalIn_int w 9998 3 .i64 .i64 x y Tryd.underlying3
  simp only [Op.eqFields]
  simp [go_sem, e1]
  unfold adB
  (repeat' split) <;> simp_all
theorem ad_eq (s g f s' g' f' : Int) (w : World) : (binOp .eql 35 (.agg #[.int .i64 s, .int .i64 g, .int .i64 f]) (.agg #[.int .i64 s', .int .i64 g', .int .i64 f'])).run Tryd.prog w = .ok (.bool (adB s g f s' g' f')) w := by
  rw [run_eql_struct, adEqIn]; rfl
theorem ad_ne (s g f s' g' f' : Int) (w : World) : (binOp .neq 35 (.agg #[.int .i64 s, .int .i64 g, .int .i64 f]) (.agg #[.int .i64 s', .int .i64 g', .int .i64 f'])).run Tryd.prog w = .ok (.bool (!(adB s g f s' g' f'))) w := by
  rw [run_neq_struct, adEqIn]; rfl
theorem adB_refl (s g f : Int) : adB s g f s g f = true := by simp [adB]

/-! ### the small functions -/
theorem below_any (n m : Int) (w : World) : Calls Tryd.prog 43 #[.int .i64 n, .int .i64 m] w fun e w' => e = .returned (.bool (decide (0 ≤ n) && decide (n < m))) ∧ w = w' := by
  by_cases h1 : 0 ≤ n
  · by_cases h2 : n < m
    · have k1 : decide (0 ≤ n) = true := by simpa using h1
      have k2 : decide (n < m) = true := by simpa using h2
      rw [k1, k2]
      go_enter Tryd.func43, Tryd.ntmps43
      go_wp2
      go_ret
      exact ⟨rfl, rfl⟩
    · have k1 : decide (0 ≤ n) = true := by simpa using h1
      have k2 : decide (n < m) = false := by simpa using h2
      rw [k1, k2]
      go_enter Tryd.func43, Tryd.ntmps43
      go_wp2
      go_ret
      exact ⟨rfl, rfl⟩
  · have k1 : decide (0 ≤ n) = false := by simpa using h1
    rw [k1]
    go_enter Tryd.func43, Tryd.ntmps43
    go_wp2
    go_ret
    exact ⟨rfl, rfl⟩
theorem below_yes (n m : Int) (h : 0 ≤ n ∧ n < m) (w : World) : Calls Tryd.prog 43 #[.int .i64 n, .int .i64 m] w fun e w' => e = .returned (.bool true) ∧ w = w' := by
  have := below_any n m w
  have k : (decide (0 ≤ n) && decide (n < m)) = true := by simpa using h
  rwa [k] at this
theorem below_no (n m : Int) (h : ¬ (0 ≤ n ∧ n < m)) (w : World) : Calls Tryd.prog 43 #[.int .i64 n, .int .i64 m] w fun e w' => e = .returned (.bool false) ∧ w = w' := by
  have := below_any n m w
  have k : (decide (0 ≤ n) && decide (n < m)) = false := by simpa using h
  rwa [k] at this
theorem cell_any (n : Int) (w : World) : Calls Tryd.prog 44 #[.int .i64 n] w fun e w' => e = .returned (ad 0 0 n) ∧ Below w.heap.size w w' := by
  go_enter Tryd.func44, Tryd.ntmps44
  go_wp2
  exact bodyPost_ret (v := ad 0 0 n) (by simp [ad, results, Tryd.results44, go_sem]) rfl ⟨rfl, (Below.refl _ _).alloc (Nat.le_refl _) _⟩
/-- A new box of three cells, behind a call that lays blocks. -/
theorem box3 {w w1 : World} {t : TypeId} {v0 v1 v2 : Value} (hb : Below (w.alloc (.cells #[v0, v1, v2] t)).heap.size (w.alloc (.cells #[v0, v1, v2] t)) w1) :
    (w1.cell? ⟨w.heap.size, 0, none⟩ = some v0 ∧ w1.cell? ⟨w.heap.size, 1, none⟩ = some v1 ∧ w1.cell? ⟨w.heap.size, 2, none⟩ = some v2) ∧
    (w1.frozen? ⟨w.heap.size, 0, none⟩ = false ∧ w1.frozen? ⟨w.heap.size, 1, none⟩ = false ∧ w1.frozen? ⟨w.heap.size, 2, none⟩ = false) ∧ w.heap.size < w1.heap.size ∧ Below w.heap.size w w1 :=
  have h : BlkW w1 w.heap.size t #[v0, v1, v2] := (BlkW.new w t _).below hb
  ⟨⟨h.cell 0, h.cell 1, h.cell 2⟩, ⟨h.frozen 0, h.frozen 1, h.frozen 2⟩, h.lt, below_trans (below_alloc (Below.refl _ _) _) hb⟩
theorem set3 {w w1 : World} (h : Below w.heap.size w w1) (u0 u1 u2 : Value) : Below w.heap.size w (((w1.setCell ⟨w.heap.size, 0, none⟩ u0).setCell ⟨w.heap.size, 1, none⟩ u1).setCell ⟨w.heap.size, 2, none⟩ u2) :=
  below_set (below_set (below_set h _ _ _ (Nat.le_refl _)) _ _ _ (Nat.le_refl _)) _ _ _ (Nat.le_refl _)
/-! ### Root, Keep, Span -/
/-- There is such a place. -/
def Yes (n : Int) (w : World) (e : Ending) (w' : World) : Prop := e = .returned (.tuple #[ad 0 0 n, .nilIface]) ∧ Below w.heap.size w w'
/-- There is none: the zero address and the error at a. -/
def No (a : Addr) (w : World) (e : Ending) (w' : World) : Prop := ∃ u, e = .returned (.tuple #[ad 0 0 0, u]) ∧ Ch w' (.iface 93 (.pointer (some a))) [4] u ∧ Below w.heap.size w w'
theorem ch_at {W : World} {t : Value} {b : Nat} {p : Int} (h : BlkW W b 61 #[.int .i64 p, t]) : Ch W t [p] (.iface 59 (.pointer (some ⟨b, 0, none⟩))) :=
  Chain.woe h.lt (h.cell 0) (h.cell 1) h (Chain.base _)
theorem no_end (w : World) (v0 v1 v2 e : Value) (t : TypeId) :
    Ch ((w.alloc (.cells #[v0, v1, v2] t)).alloc (.cells #[.int .i64 4, e] 61)) e [4] (.iface 59 (.pointer (some ⟨w.heap.size + 1, 0, none⟩))) ∧
    Below w.heap.size w ((w.alloc (.cells #[v0, v1, v2] t)).alloc (.cells #[.int .i64 4, e] 61)) :=
  ⟨ch_at (blk2 w #[v0, v1, v2] #[.int .i64 4, e] t 61).2, below_alloc (below_alloc (Below.refl _ _) _) _⟩
theorem Root_yes (n : Int) (h : 0 ≤ n ∧ n < 24) (w : World) : Calls Tryd.prog 37 #[.int .i64 n] w (Yes (n) w) := by
  have hy0 := below_yes n 24 ⟨by omega, by omega⟩
  have ha : wrap64 n = n := IntWalk.wrap64_in _ ⟨by omega, by omega⟩
  clear h
  go_enter Tryd.func37, Tryd.ntmps37
  go_wp2_with fail
  refine (hy0 _).mono ?_
  rintro e w1 ⟨rfl, rfl⟩
  go_wp2_with fail
  refine (cell_any _ _).mono ?_
  rintro e w1 ⟨rfl, hb⟩
  obtain ⟨⟨c0, c1, c2⟩, ⟨f0, f1, f2⟩, hz, hB⟩ := box3 hb
  have HB := Lib.hid hB
  clear hb hB
  unfold ad
  go_wp2
  exact bodyPost_ret (v := .tuple #[ad 0 0 (n), .nilIface]) (by simp [ad, results, Tryd.results37, go_sem, c0, c1, c2]) rfl ⟨rfl, set3 HB.out _ _ _⟩
end Go.Proofs.YtihjklimcchkhaaDoor.Bd
