/- The document's examples on the board (awake). A template (fill.py). -/
import Derived.Test.YtnjlodgdedodgaaDoorBoard
namespace Go.Proofs.YtnjlodgdedodgaaDoor
open Go.RowKit Go.Extern.Stop Go.Stop Go.Extern Go.Sort

theorem Is_same {w : World} {a : Addr} {ps : List Int} {v : Value} (h : Ch w (.iface 77 (.pointer (some a))) ps v) :
    Calls Tryd.prog 18 #[v, .iface 77 (.pointer (some a))] w fun e w' => e = .returned (.bool true) ∧ w = w' := by
  have := (IsC.chain h (fun hne => absurd rfl hne)).Is
  simpa using this
theorem Is_re {W : World} {a : Addr} {ps : List Int} {v : Value} (h : Ch W (.iface 77 (.pointer (some a))) ps v) (d : Nat) (os : Array Obj) :
    Calls Tryd.prog 18 #[v, .iface 77 (.pointer (some a))] (grow (redrawn W d) os) fun e w'' => e = .returned (.bool true) ∧ ∃ p : Regrown, w'' = grow (redrawn W p.d) p.os :=
  Calls.regrown_of ((Is_same (h.keep (below_regrown W d os))).mono fun e w' ⟨he, hw⟩ => ⟨he, by rw [hw]; exact Below.refl _ _⟩)
theorem Era_re {W : World} (d : Nat) (os : Array Obj) : Calls Tryd.prog 20 #[] (grow (redrawn W d) os) fun e w'' => e = .returned (ad 0 0 24) ∧ ∃ p : Regrown, w'' = grow (redrawn W p.d) p.os :=
  Calls.regrown_of (Era_any _)
theorem Cells_re {W : World} (d : Nat) (os : Array Obj) : Calls Tryd.prog 19 #[] (grow (redrawn W d) os) fun e w'' => e = .returned (.int .i64 85) ∧ ∃ p : Regrown, w'' = grow (redrawn W p.d) p.os :=
  Calls.regrown_of ((Cells_any _).mono fun e w' ⟨he, hw⟩ => ⟨he, by rw [hw]; exact Below.refl _ _⟩)

set_option maxRecDepth 100000 in
set_option maxHeartbeats 1000000 in
theorem awake_true (a : Addr) (w : World) (L : HasArg w a) : Calls Tryd.prog 8 #[] w (True1 w) := by
  have HL := Lib.hid L
  clear L
  go_enter Tryd.func8, Tryd.ntmps8
  go_wp2_with fail
  refine (Root_yes 3 (by decide) _).mono ?_
  rintro e w1 ⟨rfl, hb⟩
  have B1 := Lib.hid (below_alloc hb (.cells #[.int .i64 0, .int .i64 0, .int .i64 3] 23))
  have X1 := Lib.hid (BlkW.new w1 23 #[.int .i64 0, .int .i64 0, .int .i64 3])
  clear hb
  unfold ad
  go_wp2_with fail
  refine (Keep_yes 1 0 (by decide) _).mono ?_
  rintro e w2 ⟨rfl, hb⟩
  have B2 := Lib.hid (below_alloc (below_trans B1.out hb) (.cells #[.int .i64 0, .int .i64 0, .int .i64 34] 23))
  have X1 := Lib.hid ((X1.out.below hb).alloc (.cells #[.int .i64 0, .int .i64 0, .int .i64 34] 23))
  have X2 := Lib.hid (BlkW.new w2 23 #[.int .i64 0, .int .i64 0, .int .i64 34])
  clear hb B1
  unfold ad
  rw [show (25 + 1 * 9 + 0 : Int) = 34 from rfl]
  go_wp2_with fail
  refine (Span_yes 5 (by decide) _).mono ?_
  rintro e w3 ⟨rfl, hb⟩
  have B3 := Lib.hid (below_alloc (below_trans B2.out hb) (.cells #[.int .i64 0, .int .i64 0, .int .i64 84] 23))
  have X1 := Lib.hid ((X1.out.below hb).alloc (.cells #[.int .i64 0, .int .i64 0, .int .i64 84] 23))
  have X2 := Lib.hid ((X2.out.below hb).alloc (.cells #[.int .i64 0, .int .i64 0, .int .i64 84] 23))
  have X3 := Lib.hid (BlkW.new w3 23 #[.int .i64 0, .int .i64 0, .int .i64 84])
  clear hb B2
  unfold ad
  rw [show (79 + 5 : Int) = 84 from rfl]
  go_wp2_with fail
  refine (Root_no 24 (by decide) a _ (cell_keep HL.out B3.out)).mono ?_
  rintro e w4 ⟨u, rfl, hc, hb⟩
  have B4 := Lib.hid (below_alloc (below_trans B3.out hb) (.cells #[.int .i64 0, .int .i64 0, .int .i64 0] 23))
  have X1 := (X1.out.below hb).alloc (.cells #[.int .i64 0, .int .i64 0, .int .i64 0] 23)
  have X2 := (X2.out.below hb).alloc (.cells #[.int .i64 0, .int .i64 0, .int .i64 0] 23)
  have X3 := (X3.out.below hb).alloc (.cells #[.int .i64 0, .int .i64 0, .int .i64 0] 23)
  have HC := Lib.hid (hc.keep (below_alloc (Below.refl w4.heap.size w4) (.cells #[.int .i64 0, .int .i64 0, .int .i64 0] 23)))
  have A4 := cell_keep HL.out B4.out
  clear hb hc B3 HL
  unfold ad
  generalize w1.heap.size = n1 at X1 ⊢
  generalize w2.heap.size = n2 at X2 ⊢
  generalize w3.heap.size = n3 at X3 ⊢
  go_wp2_with fail
  refine (Cells_any _).mono ?_
  rintro e w5 ⟨rfl, rfl⟩
  have q1 := ad_eq
  have q2 := aHeld
  have q3 := aGuard
  obtain ⟨x0, x1, x2⟩ : _ ∧ _ ∧ _ := ⟨X1.cell 0, X1.cell 1, X1.cell 2⟩
  simp only [List.getElem?_toArray, List.getElem?_cons_succ, List.getElem?_cons_zero] at x0 x1 x2
  have z1 := X1.lt
  clear X1
  go_wp2_with fail
  refine (Era_any _).mono ?_
  rintro e w6 ⟨rfl, hb⟩
  have B6 := Lib.hid (below_trans B4.out hb)
  have HC := Lib.hid (HC.out.keep hb)
  have A6 := cell_keep A4 hb
  have X2 := X2.below hb
  have X3 := X3.below hb
  clear x0 x1 x2 z1 hb B4 A4
  obtain ⟨x0, x1, x2⟩ : _ ∧ _ ∧ _ := ⟨X2.cell 0, X2.cell 1, X2.cell 2⟩
  obtain ⟨y0, y1, y2⟩ : _ ∧ _ ∧ _ := ⟨X3.cell 0, X3.cell 1, X3.cell 2⟩
  simp only [List.getElem?_toArray, List.getElem?_cons_succ, List.getElem?_cons_zero] at x0 x1 x2 y0 y1 y2
  have z2 := X2.lt
  have z3 := X3.lt
  have z4 := lt_of_cell A6
  clear X2 X3
  unfold ad
  go_wp2_with fail
  refine (Is_same HC.out).mono ?_
  rintro e w7 ⟨rfl, rfl⟩
  go_wp2
  go_ret
  exact ⟨rfl, B6.out⟩
end Go.Proofs.YtnjlodgdedodgaaDoor
