/- board: below, cell, Cells, Era, Root, Keep, Span, Where; an address's ==. A template (fill.py). -/
import Derived.Test.YtnjlodgdedodgaaDoorBlk
import Derived.Laws.StructEq
import Derived.Deep.QuietTactic
import Derived.BigQuiet
import Derived.Lib.Hide
import Derived.Outline
namespace Go.Proofs.YtnjlodgdedodgaaDoor
open Go.RowKit Go.Extern.Stop Go.Stop Go.Extern Go.Sort

/-- An address as a value. -/
def ad (s g f : Int) : Value := .agg #[.int .i64 s, .int .i64 g, .int .i64 f]
/-- The variable that holds ErrArg, and the one that holds ErrNone. -/
def HasArg (w : World) (a : Addr) : Prop := w.cell? ⟨1, 0, none⟩ = some (.iface 77 (.pointer (some a)))
def HasNone (w : World) (a : Addr) : Prop := w.cell? ⟨0, 0, none⟩ = some (.iface 77 (.pointer (some a)))
theorem cell_keep {w w' : World} {p : Addr} {v : Value} (h : w.cell? p = some v) (hb : Below w.heap.size w w') : w'.cell? p = some v := by rw [hb.cell (lt_of_cell h)]; exact h

/-! ### an address's == -/
theorem aHeld : Tryd.prog.stoodInHeld 23 = false := by kernel_rfl
theorem aGuard : Tryd.prog.eqGuardType Tryd.prog.depth 23 = false := by kernel_rfl
theorem aT : Tryd.prog.underlying 23 = some (.struct (Tryd.prog.fieldsOf 23)) := by kernel_rfl
theorem aF : (Tryd.prog.fieldsOf 23).toList = [{ name := "Slot", type := 3, offset := 0, embedded := false, tag := "", pkgPath := "", byteOffset := 0 },
        { name := "Gen", type := 3, offset := 1, embedded := false, tag := "", pkgPath := "", byteOffset := 8 },
        { name := "Field", type := 3, offset := 2, embedded := false, tag := "", pkgPath := "", byteOffset := 16 }] := by kernel_rfl
/-- Whether two addresses are equal. -/
def adB (s g f s' g' f' : Int) : Bool := s == s' && g == g' && f == f'
theorem adEqIn (s g f s' g' f' : Int) (w : World) : (Op.equalIn 10000 23 (.agg #[.int .i64 s, .int .i64 g, .int .i64 f]) (.agg #[.int .i64 s', .int .i64 g', .int .i64 f'])).run Tryd.prog w = .ok (adB s g f s' g' f') w := by
  rw [run_equalIn_agg _ _ _ _ _ aT aHeld, aF]
  have e1 : ∀ (x y : Int) (w : World), (Op.equalIn 9999 3 (.int .i64 x) (.int .i64 y)).run Tryd.prog w = .ok (x == y) w := fun x y w => run_equalIn_int w 9998 3 .i64 .i64 x y Tryd.underlying3
  simp only [Op.eqFields]
  simp [go_sem, e1]
  unfold adB
  (repeat' split) <;> simp_all
theorem ad_eq (s g f s' g' f' : Int) (w : World) : (binOp .eql 23 (.agg #[.int .i64 s, .int .i64 g, .int .i64 f]) (.agg #[.int .i64 s', .int .i64 g', .int .i64 f'])).run Tryd.prog w = .ok (.bool (adB s g f s' g' f')) w := by
  rw [run_eql_struct, adEqIn]; rfl
theorem ad_ne (s g f s' g' f' : Int) (w : World) : (binOp .neq 23 (.agg #[.int .i64 s, .int .i64 g, .int .i64 f]) (.agg #[.int .i64 s', .int .i64 g', .int .i64 f'])).run Tryd.prog w = .ok (.bool (!(adB s g f s' g' f'))) w := by
  rw [run_neq_struct, adEqIn]; rfl
theorem adB_refl (s g f : Int) : adB s g f s g f = true := by simp [adB]

/-! ### the small functions -/
theorem below_any (n m : Int) (w : World) : Calls Tryd.prog 25 #[.int .i64 n, .int .i64 m] w fun e w' => e = .returned (.bool (decide (0 ≤ n) && decide (n < m))) ∧ w = w' := by
  by_cases h1 : 0 ≤ n
  · by_cases h2 : n < m
    · have k1 : decide (0 ≤ n) = true := by simpa using h1
      have k2 : decide (n < m) = true := by simpa using h2
      rw [k1, k2]
      go_enter Tryd.func25, Tryd.ntmps25
      go_wp2
      go_ret
      exact ⟨rfl, rfl⟩
    · have k1 : decide (0 ≤ n) = true := by simpa using h1
      have k2 : decide (n < m) = false := by simpa using h2
      rw [k1, k2]
      go_enter Tryd.func25, Tryd.ntmps25
      go_wp2
      go_ret
      exact ⟨rfl, rfl⟩
  · have k1 : decide (0 ≤ n) = false := by simpa using h1
    rw [k1]
    go_enter Tryd.func25, Tryd.ntmps25
    go_wp2
    go_ret
    exact ⟨rfl, rfl⟩
theorem below_yes (n m : Int) (h : 0 ≤ n ∧ n < m) (w : World) : Calls Tryd.prog 25 #[.int .i64 n, .int .i64 m] w fun e w' => e = .returned (.bool true) ∧ w = w' := by
  have := below_any n m w
  have k : (decide (0 ≤ n) && decide (n < m)) = true := by simpa using h
  rwa [k] at this
theorem below_no (n m : Int) (h : ¬ (0 ≤ n ∧ n < m)) (w : World) : Calls Tryd.prog 25 #[.int .i64 n, .int .i64 m] w fun e w' => e = .returned (.bool false) ∧ w = w' := by
  have := below_any n m w
  have k : (decide (0 ≤ n) && decide (n < m)) = false := by simpa using h
  rwa [k] at this
theorem cell_any (n : Int) (w : World) : Calls Tryd.prog 27 #[.int .i64 n] w fun e w' => e = .returned (ad 0 0 n) ∧ Below w.heap.size w w' := by
  go_enter Tryd.func27, Tryd.ntmps27
  go_wp2
  exact bodyPost_ret (v := ad 0 0 n) (by simp [ad, results, Tryd.results27, go_sem]) rfl ⟨rfl, (Below.refl _ _).alloc (Nat.le_refl _) _⟩
theorem Cells_any (w : World) : Calls Tryd.prog 19 #[] w fun e w' => e = .returned (.int .i64 85) ∧ w = w' := by
  go_enter Tryd.func19, Tryd.ntmps19
  go_wp2
  go_ret
  exact ⟨rfl, rfl⟩
/-- A new box of three cells, behind a call that lays blocks. -/
theorem box3 {w w1 : World} {t : TypeId} {v0 v1 v2 : Value} (hb : Below (w.alloc (.cells #[v0, v1, v2] t)).heap.size (w.alloc (.cells #[v0, v1, v2] t)) w1) :
    (w1.cell? ⟨w.heap.size, 0, none⟩ = some v0 ∧ w1.cell? ⟨w.heap.size, 1, none⟩ = some v1 ∧ w1.cell? ⟨w.heap.size, 2, none⟩ = some v2) ∧
    (w1.frozen? ⟨w.heap.size, 0, none⟩ = false ∧ w1.frozen? ⟨w.heap.size, 1, none⟩ = false ∧ w1.frozen? ⟨w.heap.size, 2, none⟩ = false) ∧ w.heap.size < w1.heap.size ∧ Below w.heap.size w w1 :=
  have h : BlkW w1 w.heap.size t #[v0, v1, v2] := (BlkW.new w t _).below hb
  ⟨⟨h.cell 0, h.cell 1, h.cell 2⟩, ⟨h.frozen 0, h.frozen 1, h.frozen 2⟩, h.lt, below_trans (below_alloc (Below.refl _ _) _) hb⟩
theorem set3 {w w1 : World} (h : Below w.heap.size w w1) (u0 u1 u2 : Value) : Below w.heap.size w (((w1.setCell ⟨w.heap.size, 0, none⟩ u0).setCell ⟨w.heap.size, 1, none⟩ u1).setCell ⟨w.heap.size, 2, none⟩ u2) :=
  below_set (below_set (below_set h _ _ _ (Nat.le_refl _)) _ _ _ (Nat.le_refl _)) _ _ _ (Nat.le_refl _)
theorem Era_any (w : World) : Calls Tryd.prog 20 #[] w fun e w' => e = .returned (ad 0 0 24) ∧ Below w.heap.size w w' := by
  go_enter Tryd.func20, Tryd.ntmps20
  go_wp2_with fail
  refine (cell_any 24 _).mono ?_
  rintro e w1 ⟨rfl, hb⟩
  obtain ⟨⟨c0, c1, c2⟩, ⟨f0, f1, f2⟩, hz, hB⟩ := box3 hb
  have HB := Lib.hid hB
  clear hb hB
  unfold ad
  go_wp2
  exact bodyPost_ret (v := ad 0 0 24) (by simp [ad, results, Tryd.results20, go_sem, c0, c1, c2]) rfl ⟨rfl, set3 HB.out _ _ _⟩

/-! ### Root, Keep, Span -/
/-- There is such a place. -/
def Yes (n : Int) (w : World) (e : Ending) (w' : World) : Prop := e = .returned (.tuple #[ad 0 0 n, .nilIface]) ∧ Below w.heap.size w w'
/-- There is none: the zero address and the error at a. -/
def No (a : Addr) (w : World) (e : Ending) (w' : World) : Prop := ∃ u, e = .returned (.tuple #[ad 0 0 0, u]) ∧ Ch w' (.iface 77 (.pointer (some a))) [4] u ∧ Below w.heap.size w w'
theorem ch_at {W : World} {t : Value} {b : Nat} {p : Int} (h : BlkW W b 65 #[.int .i64 p, t]) : Ch W t [p] (.iface 63 (.pointer (some ⟨b, 0, none⟩))) :=
  Chain.woe h.lt (h.cell 0) (h.cell 1) h (Chain.base _)
theorem no_end (w : World) (v0 v1 v2 e : Value) (t : TypeId) :
    Ch ((w.alloc (.cells #[v0, v1, v2] t)).alloc (.cells #[.int .i64 4, e] 65)) e [4] (.iface 63 (.pointer (some ⟨w.heap.size + 1, 0, none⟩))) ∧
    Below w.heap.size w ((w.alloc (.cells #[v0, v1, v2] t)).alloc (.cells #[.int .i64 4, e] 65)) :=
  ⟨ch_at (blk2 w #[v0, v1, v2] #[.int .i64 4, e] t 65).2, below_alloc (below_alloc (Below.refl _ _) _) _⟩
theorem Root_yes (n : Int) (h : 0 ≤ n ∧ n < 24) (w : World) : Calls Tryd.prog 9 #[.int .i64 n] w (Yes (n) w) := by
  have hy0 := below_yes n 24 ⟨by omega, by omega⟩
  have ha : wrap64 n = n := IntWalk.wrap64_in _ ⟨by omega, by omega⟩
  clear h
  go_enter Tryd.func9, Tryd.ntmps9
  go_wp2_with fail
  refine (hy0 _).mono ?_
  rintro e w1 ⟨rfl, rfl⟩
  go_wp2_with fail
  refine (cell_any _ _).mono ?_
  rintro e w1 ⟨rfl, hb⟩
  obtain ⟨⟨c0, c1, c2⟩, ⟨f0, f1, f2⟩, hz, hB⟩ := box3 hb
  have HB := Lib.hid hB
  clear hb hB
  unfold ad
  go_wp2
  exact bodyPost_ret (v := .tuple #[ad 0 0 (n), .nilIface]) (by simp [ad, results, Tryd.results9, go_sem, c0, c1, c2]) rfl ⟨rfl, set3 HB.out _ _ _⟩
theorem Root_no (n : Int) (h : ¬ (0 ≤ n ∧ n < 24)) (a : Addr) (w : World) (L : HasArg w a) : Calls Tryd.prog 9 #[.int .i64 n] w (No a w) := by
  have hy0 := below_no n 24 (by omega)
  unfold HasArg at L
  have hz := lt_of_cell L
  clear h
  go_enter Tryd.func9, Tryd.ntmps9
  go_wp2_with fail
  refine (hy0 _).mono ?_
  rintro e w1 ⟨rfl, rfl⟩
  go_wp2_with fail
  refine (At_some 4 _ _ _).mono ?_
  rintro e w1 ⟨rfl, rfl⟩
  simp only [World.size_alloc]
  go_wp2
  exact bodyPost_ret (v := .tuple #[ad 0 0 0, .iface 63 (.pointer (some ⟨w.heap.size + 1, 0, none⟩))]) (by simp [ad, results, Tryd.results9, go_sem]) rfl ⟨_, rfl, no_end _ _ _ _ _ _⟩
theorem Keep_yes (t n : Int) (h : (0 ≤ t ∧ t < 6) ∧ (0 ≤ n ∧ n < 9)) (w : World) : Calls Tryd.prog 10 #[.int .i64 t, .int .i64 n] w (Yes (25 + t * 9 + n) w) := by
  have hy0 := below_yes t 6 ⟨by omega, by omega⟩
  have hy1 := below_yes n 9 ⟨by omega, by omega⟩
  have ha : wrap64 (wrap64 (25 + wrap64 (t * 9)) + n) = 25 + t * 9 + n := by
    rw [IntWalk.wrap64_in (t * 9) ⟨by omega, by omega⟩, IntWalk.wrap64_in (25 + t * 9) ⟨by omega, by omega⟩, IntWalk.wrap64_in _ ⟨by omega, by omega⟩]
  clear h
  go_enter Tryd.func10, Tryd.ntmps10
  go_wp2_with fail
  refine (hy0 _).mono ?_
  rintro e w1 ⟨rfl, rfl⟩
  go_wp2_with fail
  refine (hy1 _).mono ?_
  rintro e w1 ⟨rfl, rfl⟩
  go_wp2_with fail
  refine (cell_any _ _).mono ?_
  rintro e w1 ⟨rfl, hb⟩
  obtain ⟨⟨c0, c1, c2⟩, ⟨f0, f1, f2⟩, hz, hB⟩ := box3 hb
  have HB := Lib.hid hB
  clear hb hB
  unfold ad
  go_wp2
  exact bodyPost_ret (v := .tuple #[ad 0 0 (25 + t * 9 + n), .nilIface]) (by simp [ad, results, Tryd.results10, go_sem, c0, c1, c2]) rfl ⟨rfl, set3 HB.out _ _ _⟩
theorem Keep_no1 (t n : Int) (h : ¬ (0 ≤ t ∧ t < 6)) (a : Addr) (w : World) (L : HasArg w a) : Calls Tryd.prog 10 #[.int .i64 t, .int .i64 n] w (No a w) := by
  have hy0 := below_no t 6 (by omega)
  unfold HasArg at L
  have hz := lt_of_cell L
  clear h
  go_enter Tryd.func10, Tryd.ntmps10
  go_wp2_with fail
  refine (hy0 _).mono ?_
  rintro e w1 ⟨rfl, rfl⟩
  go_wp2_with fail
  refine (At_some 4 _ _ _).mono ?_
  rintro e w1 ⟨rfl, rfl⟩
  simp only [World.size_alloc]
  go_wp2
  exact bodyPost_ret (v := .tuple #[ad 0 0 0, .iface 63 (.pointer (some ⟨w.heap.size + 1, 0, none⟩))]) (by simp [ad, results, Tryd.results10, go_sem]) rfl ⟨_, rfl, no_end _ _ _ _ _ _⟩
theorem Keep_no2 (t n : Int) (h : (0 ≤ t ∧ t < 6) ∧ ¬ (0 ≤ n ∧ n < 9)) (a : Addr) (w : World) (L : HasArg w a) : Calls Tryd.prog 10 #[.int .i64 t, .int .i64 n] w (No a w) := by
  have hy0 := below_yes t 6 (by omega)
  have hy1 := below_no n 9 (by omega)
  unfold HasArg at L
  have hz := lt_of_cell L
  clear h
  go_enter Tryd.func10, Tryd.ntmps10
  go_wp2_with fail
  refine (hy0 _).mono ?_
  rintro e w1 ⟨rfl, rfl⟩
  go_wp2_with fail
  refine (hy1 _).mono ?_
  rintro e w1 ⟨rfl, rfl⟩
  go_wp2_with fail
  refine (At_some 4 _ _ _).mono ?_
  rintro e w1 ⟨rfl, rfl⟩
  simp only [World.size_alloc]
  go_wp2
  exact bodyPost_ret (v := .tuple #[ad 0 0 0, .iface 63 (.pointer (some ⟨w.heap.size + 1, 0, none⟩))]) (by simp [ad, results, Tryd.results10, go_sem]) rfl ⟨_, rfl, no_end _ _ _ _ _ _⟩
theorem Span_yes (t : Int) (h : 0 ≤ t ∧ t < 6) (w : World) : Calls Tryd.prog 11 #[.int .i64 t] w (Yes (79 + t) w) := by
  have hy0 := below_yes t 6 ⟨by omega, by omega⟩
  have ha : wrap64 (79 + t) = 79 + t := IntWalk.wrap64_in _ ⟨by omega, by omega⟩
  clear h
  go_enter Tryd.func11, Tryd.ntmps11
  go_wp2_with fail
  refine (hy0 _).mono ?_
  rintro e w1 ⟨rfl, rfl⟩
  go_wp2_with fail
  refine (cell_any _ _).mono ?_
  rintro e w1 ⟨rfl, hb⟩
  obtain ⟨⟨c0, c1, c2⟩, ⟨f0, f1, f2⟩, hz, hB⟩ := box3 hb
  have HB := Lib.hid hB
  clear hb hB
  unfold ad
  go_wp2
  exact bodyPost_ret (v := .tuple #[ad 0 0 (79 + t), .nilIface]) (by simp [ad, results, Tryd.results11, go_sem, c0, c1, c2]) rfl ⟨rfl, set3 HB.out _ _ _⟩
theorem Span_no (t : Int) (h : ¬ (0 ≤ t ∧ t < 6)) (a : Addr) (w : World) (L : HasArg w a) : Calls Tryd.prog 11 #[.int .i64 t] w (No a w) := by
  have hy0 := below_no t 6 (by omega)
  unfold HasArg at L
  have hz := lt_of_cell L
  clear h
  go_enter Tryd.func11, Tryd.ntmps11
  go_wp2_with fail
  refine (hy0 _).mono ?_
  rintro e w1 ⟨rfl, rfl⟩
  go_wp2_with fail
  refine (At_some 4 _ _ _).mono ?_
  rintro e w1 ⟨rfl, rfl⟩
  simp only [World.size_alloc]
  go_wp2
  exact bodyPost_ret (v := .tuple #[ad 0 0 0, .iface 63 (.pointer (some ⟨w.heap.size + 1, 0, none⟩))]) (by simp [ad, results, Tryd.results11, go_sem]) rfl ⟨_, rfl, no_end _ _ _ _ _ _⟩

/-! ### Where -/
def sRoot : ByteArray := ⟨#[114, 111, 111, 116]⟩
def sEra : ByteArray := ⟨#[101, 114, 97]⟩
def sKeep : ByteArray := ⟨#[107, 101, 101, 112]⟩
def sSpan : ByteArray := ⟨#[115, 112, 97, 110]⟩
/-- What the board's cell f is. -/
def Wh (k : ByteArray) (t n : Int) (w : World) (e : Ending) (w' : World) : Prop := e = .returned (.tuple #[.string k, .int .i64 t, .int .i64 n, .nilIface]) ∧ Below w.heap.size w w'
theorem cell_re {W : World} (n : Int) (d : Nat) (os : Array Obj) : Calls Tryd.prog 27 #[.int .i64 n] (grow (redrawn W d) os) fun e w'' => e = .returned (ad 0 0 n) ∧ ∃ p : Regrown, w'' = grow (redrawn W p.d) p.os :=
  Calls.regrown_of (cell_any n _)
theorem below_re {W : World} {n m : Int} {r : Bool} (h : ∀ w, Calls Tryd.prog 25 #[.int .i64 n, .int .i64 m] w fun e w' => e = .returned (.bool r) ∧ w = w') (d : Nat) (os : Array Obj) :
    Calls Tryd.prog 25 #[.int .i64 n, .int .i64 m] (grow (redrawn W d) os) fun e w'' => e = .returned (.bool r) ∧ ∃ p : Regrown, w'' = grow (redrawn W p.d) p.os :=
  Calls.regrown_of ((h _).mono fun e w' ⟨he, hw⟩ => ⟨he, by rw [hw]; exact Below.refl _ _⟩)
theorem re3 {w : World} {g : Nat} {t : TypeId} {v0 v1 v2 : Value} (h : BlkW w g t #[v0, v1, v2]) :
    (∀ d os, (grow (redrawn w d) os).cell? ⟨g, 0, none⟩ = some v0) ∧ (∀ d os, (grow (redrawn w d) os).cell? ⟨g, 1, none⟩ = some v1) ∧ (∀ d os, (grow (redrawn w d) os).cell? ⟨g, 2, none⟩ = some v2) :=
  ⟨cell_regrown (h.cell 0), cell_regrown (h.cell 1), cell_regrown (h.cell 2)⟩
set_option maxRecDepth 20000 in
theorem Where_root (f : Int) (h : 0 ≤ f ∧ f < 24) (w : World) : Calls Tryd.prog 12 #[ad 0 0 f] w (Wh sRoot (0) (f) w) := by
  have hy := below_yes f 85 ⟨by omega, by omega⟩
  have q1 : ∀ w, (binOp .neq 23 (.agg #[.int .i64 0, .int .i64 0, .int .i64 f]) (.agg #[.int .i64 0, .int .i64 0, .int .i64 f])).run Tryd.prog w = .ok (.bool false) w := fun w => by rw [ad_ne, adB_refl]; rfl
  have q2 := aHeld
  have q3 := aGuard
  have k1 : f < 24 := by omega
  have ha : wrap64 f = f := IntWalk.wrap64_in _ ⟨by omega, by omega⟩
  clear h
  unfold ad
  go_enter Tryd.func12, Tryd.ntmps12
  go_wp2_with fail
  have HB := Lib.hid (below_alloc (Below.refl w.heap.size w) (.cells #[.int .i64 0, .int .i64 0, .int .i64 f] 23))
  have HX := Lib.hid (BlkW.new w 23 #[.int .i64 0, .int .i64 0, .int .i64 f])
  generalize w.alloc (.cells #[.int .i64 0, .int .i64 0, .int .i64 f] 23) = W at HB HX ⊢
  obtain ⟨r0, r1, r2⟩ := re3 HX.out
  have c1 := Lib.hid (cell_re (W := W) f)
  unfold ad at c1
  have c2 := Lib.hid (below_re (W := W) hy)
  clear hy
  refine wp_region_quiet_below (by kernel_rfl) (by kernel_rfl) ?_
  repeat (go_big_quiet_step ((first | with_reducible exact c1.out _ _ | with_reducible exact c2.out _ _)))
  refine wpQuiet_nil ?_
  intro _ hw'
  obtain ⟨⟨dq, osq⟩, hw''⟩ := hw'
  subst hw''
  have HE := Lib.hid (below_trans HB.out (below_regrown W dq osq))
  go_wp2
  exact bodyPost_ret (v := .tuple #[.string sRoot, .int .i64 (0), .int .i64 (f), .nilIface]) (by simp [sRoot, results, Tryd.results12, go_sem, ha]) rfl ⟨rfl, HE.out⟩
set_option maxRecDepth 20000 in
theorem Where_era (f : Int) (h : f = 24) (w : World) : Calls Tryd.prog 12 #[ad 0 0 f] w (Wh sEra (0) (0) w) := by
  have hy := below_yes f 85 ⟨by omega, by omega⟩
  have q1 : ∀ w, (binOp .neq 23 (.agg #[.int .i64 0, .int .i64 0, .int .i64 f]) (.agg #[.int .i64 0, .int .i64 0, .int .i64 f])).run Tryd.prog w = .ok (.bool false) w := fun w => by rw [ad_ne, adB_refl]; rfl
  have q2 := aHeld
  have q3 := aGuard
  have k1 : decide (f < 24) = false := decide_eq_false (by omega)
  have k2 : f < 25 := by omega
  clear h
  unfold ad
  go_enter Tryd.func12, Tryd.ntmps12
  go_wp2_with fail
  have HB := Lib.hid (below_alloc (Below.refl w.heap.size w) (.cells #[.int .i64 0, .int .i64 0, .int .i64 f] 23))
  have HX := Lib.hid (BlkW.new w 23 #[.int .i64 0, .int .i64 0, .int .i64 f])
  generalize w.alloc (.cells #[.int .i64 0, .int .i64 0, .int .i64 f] 23) = W at HB HX ⊢
  obtain ⟨r0, r1, r2⟩ := re3 HX.out
  have c1 := Lib.hid (cell_re (W := W) f)
  unfold ad at c1
  have c2 := Lib.hid (below_re (W := W) hy)
  clear hy
  refine wp_region_quiet_below (by kernel_rfl) (by kernel_rfl) ?_
  repeat (go_big_quiet_step ((first | with_reducible exact c1.out _ _ | with_reducible exact c2.out _ _)))
  refine wpQuiet_nil ?_
  intro _ hw'
  obtain ⟨⟨dq, osq⟩, hw''⟩ := hw'
  subst hw''
  have HE := Lib.hid (below_trans HB.out (below_regrown W dq osq))
  go_wp2
  exact bodyPost_ret (v := .tuple #[.string sEra, .int .i64 (0), .int .i64 (0), .nilIface]) (by simp [sEra, results, Tryd.results12, go_sem]) rfl ⟨rfl, HE.out⟩
set_option maxRecDepth 20000 in
theorem Where_keep (f : Int) (h : 25 ≤ f ∧ f < 79) (w : World) : Calls Tryd.prog 12 #[ad 0 0 f] w (Wh sKeep ((f - 25) / 9) ((f - 25) % 9) w) := by
  have hy := below_yes f 85 ⟨by omega, by omega⟩
  have q1 : ∀ w, (binOp .neq 23 (.agg #[.int .i64 0, .int .i64 0, .int .i64 f]) (.agg #[.int .i64 0, .int .i64 0, .int .i64 f])).run Tryd.prog w = .ok (.bool false) w := fun w => by rw [ad_ne, adB_refl]; rfl
  have q2 := aHeld
  have q3 := aGuard
  have k1 : decide (f < 24) = false := decide_eq_false (by omega)
  have k2 : decide (f < 25) = false := decide_eq_false (by omega)
  have k3 : f < 79 := by omega
  have HK := Lib.hid h
  clear h
  unfold ad
  go_enter Tryd.func12, Tryd.ntmps12
  go_wp2_with fail
  have HB := Lib.hid (below_alloc (Below.refl w.heap.size w) (.cells #[.int .i64 0, .int .i64 0, .int .i64 f] 23))
  have HX := Lib.hid (BlkW.new w 23 #[.int .i64 0, .int .i64 0, .int .i64 f])
  generalize w.alloc (.cells #[.int .i64 0, .int .i64 0, .int .i64 f] 23) = W at HB HX ⊢
  obtain ⟨r0, r1, r2⟩ := re3 HX.out
  have c1 := Lib.hid (cell_re (W := W) f)
  unfold ad at c1
  have c2 := Lib.hid (below_re (W := W) hy)
  clear hy
  refine wp_region_quiet_below (by kernel_rfl) (by kernel_rfl) ?_
  repeat (go_big_quiet_step ((first | with_reducible exact c1.out _ _ | with_reducible exact c2.out _ _)))
  refine wpQuiet_nil ?_
  intro _ hw'
  obtain ⟨⟨dq, osq⟩, hw''⟩ := hw'
  subst hw''
  have HE := Lib.hid (below_trans HB.out (below_regrown W dq osq))
  go_wp2
  have hk := HK.out
  have ha : wrap64 (f - 25) = f - 25 := IntWalk.wrap64_in _ ⟨by omega, by omega⟩
  have hq : wrap64 ((f - 25).tdiv 9) = (f - 25) / 9 := by rw [Int.tdiv_eq_ediv_of_nonneg (by omega)]; exact IntWalk.wrap64_in _ ⟨by omega, by omega⟩
  have hr : (f - 25).tmod 9 = (f - 25) % 9 := Int.tmod_eq_emod_of_nonneg (by omega)
  exact bodyPost_ret (v := .tuple #[.string sKeep, .int .i64 ((f - 25) / 9), .int .i64 ((f - 25) % 9), .nilIface]) (by simp [sKeep, results, Tryd.results12, go_sem, ha, hq, hr]) rfl ⟨rfl, HE.out⟩
set_option maxRecDepth 20000 in
theorem Where_span (f : Int) (h : 79 ≤ f ∧ f < 85) (w : World) : Calls Tryd.prog 12 #[ad 0 0 f] w (Wh sSpan (f - 79) (0) w) := by
  have hy := below_yes f 85 ⟨by omega, by omega⟩
  have q1 : ∀ w, (binOp .neq 23 (.agg #[.int .i64 0, .int .i64 0, .int .i64 f]) (.agg #[.int .i64 0, .int .i64 0, .int .i64 f])).run Tryd.prog w = .ok (.bool false) w := fun w => by rw [ad_ne, adB_refl]; rfl
  have q2 := aHeld
  have q3 := aGuard
  have k1 : decide (f < 24) = false := decide_eq_false (by omega)
  have k2 : decide (f < 25) = false := decide_eq_false (by omega)
  have k3 : decide (f < 79) = false := decide_eq_false (by omega)
  have ha : wrap64 (f - 79) = f - 79 := IntWalk.wrap64_in _ ⟨by omega, by omega⟩
  clear h
  unfold ad
  go_enter Tryd.func12, Tryd.ntmps12
  go_wp2_with fail
  have HB := Lib.hid (below_alloc (Below.refl w.heap.size w) (.cells #[.int .i64 0, .int .i64 0, .int .i64 f] 23))
  have HX := Lib.hid (BlkW.new w 23 #[.int .i64 0, .int .i64 0, .int .i64 f])
  generalize w.alloc (.cells #[.int .i64 0, .int .i64 0, .int .i64 f] 23) = W at HB HX ⊢
  obtain ⟨r0, r1, r2⟩ := re3 HX.out
  have c1 := Lib.hid (cell_re (W := W) f)
  unfold ad at c1
  have c2 := Lib.hid (below_re (W := W) hy)
  clear hy
  refine wp_region_quiet_below (by kernel_rfl) (by kernel_rfl) ?_
  repeat (go_big_quiet_step ((first | with_reducible exact c1.out _ _ | with_reducible exact c2.out _ _)))
  refine wpQuiet_nil ?_
  intro _ hw'
  obtain ⟨⟨dq, osq⟩, hw''⟩ := hw'
  subst hw''
  have HE := Lib.hid (below_trans HB.out (below_regrown W dq osq))
  go_wp2
  exact bodyPost_ret (v := .tuple #[.string sSpan, .int .i64 (f - 79), .int .i64 (0), .nilIface]) (by simp [sSpan, results, Tryd.results12, go_sem, ha]) rfl ⟨rfl, HE.out⟩
/-- It is no cell of the board. -/
def WhNo (a : Addr) (w : World) (e : Ending) (w' : World) : Prop := ∃ u, e = .returned (.tuple #[.string ⟨#[]⟩, .int .i64 0, .int .i64 0, u]) ∧ Ch w' (.iface 77 (.pointer (some a))) [4] u ∧ Below w.heap.size w w'
set_option maxRecDepth 20000 in
theorem Where_no1 (s g f : Int) (h : ¬ (s = 0 ∧ g = 0)) (a : Addr) (w : World) (L : HasNone w a) : Calls Tryd.prog 12 #[ad s g f] w (WhNo a w) := by
  have q1 : ∀ w, (binOp .neq 23 (.agg #[.int .i64 s, .int .i64 g, .int .i64 f]) (.agg #[.int .i64 0, .int .i64 0, .int .i64 f])).run Tryd.prog w = .ok (.bool true) w := fun w => by
    rw [ad_ne]
    have : adB s g f 0 0 f = false := by simp [adB]; omega
    rw [this]; rfl
  have q2 := aHeld
  have q3 := aGuard
  clear h
  have HL := Lib.hid L
  clear L
  unfold ad
  go_enter Tryd.func12, Tryd.ntmps12
  go_wp2_with fail
  have HB := Lib.hid (below_alloc (Below.refl w.heap.size w) (.cells #[.int .i64 s, .int .i64 g, .int .i64 f] 23))
  have HX := Lib.hid (BlkW.new w 23 #[.int .i64 s, .int .i64 g, .int .i64 f])
  generalize w.alloc (.cells #[.int .i64 s, .int .i64 g, .int .i64 f] 23) = W at HB HX ⊢
  obtain ⟨r0, r1, r2⟩ := re3 HX.out
  have c1 := Lib.hid (cell_re (W := W) f)
  unfold ad at c1
  refine wp_region_quiet_below (by kernel_rfl) (by kernel_rfl) ?_
  repeat (go_big_quiet_step ((first | with_reducible exact c1.out _ _)))
  refine wpQuiet_nil ?_
  intro _ hw'
  obtain ⟨⟨dq, osq⟩, hw''⟩ := hw'
  subst hw''
  have HE := Lib.hid (below_trans HB.out (below_regrown W dq osq))
  have L2 := cell_keep HL.out HE.out
  have hz2 := lt_of_cell L2
  clear r0 r1 r2 HX
  generalize grow (redrawn W dq) osq = V at HE L2 hz2 ⊢
  go_wp2_with fail
  refine (At_ch 4 Ch.base).mono ?_
  rintro e w1 ⟨u, rfl, hc, hb⟩
  have HC := Lib.hid hc
  have HF := Lib.hid (below_trans HE.out hb)
  clear hc hb
  go_wp2
  exact bodyPost_ret (v := .tuple #[.string ⟨#[]⟩, .int .i64 0, .int .i64 0, u]) (by simp [results, Tryd.results12, go_sem]) rfl ⟨u, rfl, HC.out, HF.out⟩
set_option maxRecDepth 20000 in
theorem Where_no2 (s g f : Int) (h : (s = 0 ∧ g = 0) ∧ ¬ (0 ≤ f ∧ f < 85)) (a : Addr) (w : World) (L : HasNone w a) : Calls Tryd.prog 12 #[ad s g f] w (WhNo a w) := by
  have hy := below_no f 85 h.2
  have q1 : ∀ w, (binOp .neq 23 (.agg #[.int .i64 s, .int .i64 g, .int .i64 f]) (.agg #[.int .i64 0, .int .i64 0, .int .i64 f])).run Tryd.prog w = .ok (.bool false) w := fun w => by
    rw [ad_ne]
    have : adB s g f 0 0 f = true := by simp [adB]; omega
    rw [this]; rfl
  have q2 := aHeld
  have q3 := aGuard
  clear h
  have HL := Lib.hid L
  clear L
  unfold ad
  go_enter Tryd.func12, Tryd.ntmps12
  go_wp2_with fail
  have HB := Lib.hid (below_alloc (Below.refl w.heap.size w) (.cells #[.int .i64 s, .int .i64 g, .int .i64 f] 23))
  have HX := Lib.hid (BlkW.new w 23 #[.int .i64 s, .int .i64 g, .int .i64 f])
  generalize w.alloc (.cells #[.int .i64 s, .int .i64 g, .int .i64 f] 23) = W at HB HX ⊢
  obtain ⟨r0, r1, r2⟩ := re3 HX.out
  have c1 := Lib.hid (cell_re (W := W) f)
  unfold ad at c1
  have c2 := Lib.hid (below_re (W := W) hy)
  clear hy
  refine wp_region_quiet_below (by kernel_rfl) (by kernel_rfl) ?_
  repeat (go_big_quiet_step ((first | with_reducible exact c1.out _ _ | with_reducible exact c2.out _ _)))
  refine wpQuiet_nil ?_
  intro _ hw'
  obtain ⟨⟨dq, osq⟩, hw''⟩ := hw'
  subst hw''
  have HE := Lib.hid (below_trans HB.out (below_regrown W dq osq))
  have L2 := cell_keep HL.out HE.out
  have hz2 := lt_of_cell L2
  clear r0 r1 r2 HX
  generalize grow (redrawn W dq) osq = V at HE L2 hz2 ⊢
  go_wp2_with fail
  refine (At_ch 4 Ch.base).mono ?_
  rintro e w1 ⟨u, rfl, hc, hb⟩
  have HC := Lib.hid hc
  have HF := Lib.hid (below_trans HE.out hb)
  clear hc hb
  go_wp2
  exact bodyPost_ret (v := .tuple #[.string ⟨#[]⟩, .int .i64 0, .int .i64 0, u]) (by simp [results, Tryd.results12, go_sem]) rfl ⟨u, rfl, HC.out, HF.out⟩
end Go.Proofs.YtnjlodgdedodgaaDoor
