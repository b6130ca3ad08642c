/- board: spans and their words (can, Say, Hear); the walk of BoardHears. A template (fill.py). -/
import Derived.Test.YtnjlodgdedodgaaDoorBawake
namespace Go.Proofs.YtnjlodgdedodgaaDoor
open Go.RowKit Go.Extern.Stop Go.Stop Go.Extern Go.Sort

/-! ### == of spans and of words -/
def sp (b : Bool) (l h : Int) : Value := .agg #[.bool b, .int .i64 l, .int .i64 h]
def wv (s g t n : Int) (m : Bool) : Value := .agg #[.int .i64 s, .int .i64 g, .int .i64 t, .int .i64 n, .bool m]
theorem sHeld : Tryd.prog.stoodInHeld 48 = false := by kernel_rfl
theorem sGuard : Tryd.prog.eqGuardType Tryd.prog.depth 48 = false := by kernel_rfl
theorem sT : Tryd.prog.underlying 48 = some (.struct (Tryd.prog.fieldsOf 48)) := by kernel_rfl
theorem sF : (Tryd.prog.fieldsOf 48).toList = [{ name := "Is", type := 4, offset := 0, embedded := false, tag := "", pkgPath := "", byteOffset := 0 },
        { name := "Low", type := 3, offset := 1, embedded := false, tag := "", pkgPath := "", byteOffset := 8 },
        { name := "High", type := 3, offset := 2, embedded := false, tag := "", pkgPath := "", byteOffset := 16 }] := by kernel_rfl
def spB (b : Bool) (l h : Int) (b' : Bool) (l' h' : Int) : Bool := b == b' && l == l' && h == h'
theorem spEqIn (b : Bool) (l h : Int) (b' : Bool) (l' h' : Int) (w : World) : (Op.equalIn 10000 48 (.agg #[.bool b, .int .i64 l, .int .i64 h]) (.agg #[.bool b', .int .i64 l', .int .i64 h'])).run Tryd.prog w = .ok (spB b l h b' l' h') w := by
  rw [run_equalIn_agg _ _ _ _ _ sT sHeld, sF]
  have e1 : ∀ (x y : Int) (w : World), (Op.equalIn 9999 3 (.int .i64 x) (.int .i64 y)).run Tryd.prog w = .ok (x == y) w := fun x y w => run_equalIn_int w 9998 3 .i64 .i64 x y Tryd.underlying3
  have e2 : ∀ (x y : Bool) (w : World), (Op.equalIn 9999 4 (.bool x) (.bool y)).run Tryd.prog w = .ok (x == y) w := fun x y w => run_equalIn_bool' w 9998 4 x y Tryd.underlying4
  simp only [Op.eqFields]
  simp [go_sem, e1, e2]
  unfold spB
  (repeat' split) <;> simp_all
theorem sp_eq (b : Bool) (l h : Int) (b' : Bool) (l' h' : Int) (w : World) : (binOp .eql 48 (.agg #[.bool b, .int .i64 l, .int .i64 h]) (.agg #[.bool b', .int .i64 l', .int .i64 h'])).run Tryd.prog w = .ok (.bool (spB b l h b' l' h')) w := by
  rw [run_eql_struct, spEqIn]; rfl
theorem wHeld : Tryd.prog.stoodInHeld 50 = false := by kernel_rfl
theorem wGuard : Tryd.prog.eqGuardType Tryd.prog.depth 50 = false := by kernel_rfl
theorem wT : Tryd.prog.underlying 50 = some (.struct (Tryd.prog.fieldsOf 50)) := by kernel_rfl
theorem wF : (Tryd.prog.fieldsOf 50).toList = [{ name := "Slot", type := 3, offset := 0, embedded := false, tag := "", pkgPath := "", byteOffset := 0 },
        { name := "Gen", type := 3, offset := 1, embedded := false, tag := "", pkgPath := "", byteOffset := 8 },
        { name := "Tag", type := 3, offset := 2, embedded := false, tag := "", pkgPath := "", byteOffset := 16 },
        { name := "Num", type := 3, offset := 3, embedded := false, tag := "", pkgPath := "", byteOffset := 24 },
        { name := "Mark", type := 4, offset := 4, embedded := false, tag := "", pkgPath := "", byteOffset := 32 }] := by kernel_rfl
def wdB (s g t n : Int) (m : Bool) (s' g' t' n' : Int) (m' : Bool) : Bool := s == s' && g == g' && t == t' && n == n' && m == m'
theorem wdEqIn (s g t n : Int) (m : Bool) (s' g' t' n' : Int) (m' : Bool) (w : World) :
    (Op.equalIn 10000 50 (.agg #[.int .i64 s, .int .i64 g, .int .i64 t, .int .i64 n, .bool m]) (.agg #[.int .i64 s', .int .i64 g', .int .i64 t', .int .i64 n', .bool m'])).run Tryd.prog w = .ok (wdB s g t n m s' g' t' n' m') w := by
  rw [run_equalIn_agg _ _ _ _ _ wT wHeld, wF]
  have e1 : ∀ (x y : Int) (w : World), (Op.equalIn 9999 3 (.int .i64 x) (.int .i64 y)).run Tryd.prog w = .ok (x == y) w := fun x y w => run_equalIn_int w 9998 3 .i64 .i64 x y Tryd.underlying3
  have e2 : ∀ (x y : Bool) (w : World), (Op.equalIn 9999 4 (.bool x) (.bool y)).run Tryd.prog w = .ok (x == y) w := fun x y w => run_equalIn_bool' w 9998 4 x y Tryd.underlying4
  simp only [Op.eqFields]
  simp [go_sem, e1, e2]
  unfold wdB
  (repeat' split) <;> simp_all
theorem wd_eq (s g t n : Int) (m : Bool) (s' g' t' n' : Int) (m' : Bool) (w : World) :
    (binOp .eql 50 (.agg #[.int .i64 s, .int .i64 g, .int .i64 t, .int .i64 n, .bool m]) (.agg #[.int .i64 s', .int .i64 g', .int .i64 t', .int .i64 n', .bool m'])).run Tryd.prog w = .ok (.bool (wdB s g t n m s' g' t' n' m')) w := by
  rw [run_eql_struct, wdEqIn]; rfl
theorem wd_sp (b : Bool) (l h : Int) (b' : Bool) (l' h' : Int) : wdB 0 0 h l b 0 0 h' l' b' = spB b l h b' l' h' := by
  rw [Bool.eq_iff_iff]
  simp only [wdB, spB, Bool.and_eq_true, beq_iff_eq, true_and]
  constructor
  · rintro ⟨⟨h1, h2⟩, h3⟩; exact ⟨⟨h3, h2⟩, h1⟩
  · rintro ⟨⟨h3, h2⟩, h1⟩; exact ⟨⟨h1, h2⟩, h3⟩

/-! ### can -/
/-- There can be such a span. -/
def Can (b : Bool) (l h : Int) : Prop := if b then 0 ≤ l ∧ l ≤ h ∧ h ≤ 1099511627776 else l = 0 ∧ h = 0
def canB (b : Bool) (l h : Int) : Bool := if b then decide (0 ≤ l) && decide (l ≤ h) && decide (h ≤ 1099511627776) else (l == 0 && h == 0)
theorem canB_iff (b : Bool) (l h : Int) : canB b l h = true ↔ Can b l h := by
  unfold canB Can; cases b <;> simp [and_assoc]
set_option maxRecDepth 20000 in
theorem can_any (b : Bool) (l h : Int) (w : World) : Calls Tryd.prog 31 #[sp b l h] w fun e w' => e = .returned (.bool (canB b l h)) ∧ Below w.heap.size w w' := by
  unfold sp
  cases b with
  | false =>
    have q1 : ∀ w, (binOp .eql 48 (.agg #[.bool false, .int .i64 l, .int .i64 h]) (.agg #[.bool false, .int .i64 0, .int .i64 0])).run Tryd.prog w = .ok (.bool (canB false l h)) w := fun w => by rw [sp_eq]; simp [spB, canB]
    have q2 := sHeld
    have q3 := sGuard
    go_enter Tryd.func31, Tryd.ntmps31
    go_wp2
    go_ret
    exact ⟨rfl, below_alloc (Below.refl _ _) _⟩
  | true =>
    unfold canB
    simp only [if_true]
    rcases Bool.eq_false_or_eq_true (decide (0 ≤ l)) with k1 | k1
    · rcases Bool.eq_false_or_eq_true (decide (l ≤ h)) with k2 | k2
      · rcases Bool.eq_false_or_eq_true (decide (h ≤ 1099511627776)) with k3 | k3
        all_goals
          rw [k1, k2, k3]
          go_enter Tryd.func31, Tryd.ntmps31
          go_wp2
          go_ret
          exact ⟨rfl, below_alloc (Below.refl _ _) _⟩
      · rw [k1, k2]
        go_enter Tryd.func31, Tryd.ntmps31
        go_wp2
        go_ret
        exact ⟨rfl, below_alloc (Below.refl _ _) _⟩
    · rw [k1]
      go_enter Tryd.func31, Tryd.ntmps31
      go_wp2
      go_ret
      exact ⟨rfl, below_alloc (Below.refl _ _) _⟩

/-! ### Say, Hear -/
/-- A box of five cells that is the call's own, behind a call that lays blocks. -/
theorem box5' {w W w1 : World} {g : Nat} {t : TypeId} {v0 v1 v2 v3 v4 : Value} (h : BlkW W g t #[v0, v1, v2, v3, v4]) (hg : w.heap.size ≤ g) (hW : Below w.heap.size w W) (hb : Below W.heap.size W w1) :
    (w1.cell? ⟨g, 0, none⟩ = some v0 ∧ w1.cell? ⟨g, 1, none⟩ = some v1 ∧ w1.cell? ⟨g, 2, none⟩ = some v2 ∧ w1.cell? ⟨g, 3, none⟩ = some v3 ∧ w1.cell? ⟨g, 4, none⟩ = some v4) ∧
    (w1.frozen? ⟨g, 0, none⟩ = false ∧ w1.frozen? ⟨g, 1, none⟩ = false ∧ w1.frozen? ⟨g, 2, none⟩ = false ∧ w1.frozen? ⟨g, 3, none⟩ = false ∧ w1.frozen? ⟨g, 4, none⟩ = false) ∧ g < w1.heap.size ∧
    ∀ u0 u1 u2 u3 u4, Below w.heap.size w (((((w1.setCell ⟨g, 0, none⟩ u0).setCell ⟨g, 1, none⟩ u1).setCell ⟨g, 2, none⟩ u2).setCell ⟨g, 3, none⟩ u3).setCell ⟨g, 4, none⟩ u4) :=
  have k : BlkW w1 g t #[v0, v1, v2, v3, v4] := h.below hb
  ⟨⟨k.cell 0, k.cell 1, k.cell 2, k.cell 3, k.cell 4⟩, ⟨k.frozen 0, k.frozen 1, k.frozen 2, k.frozen 3, k.frozen 4⟩, k.lt,
    fun _ _ _ _ _ => below_set (below_set (below_set (below_set (below_set (below_trans hW hb) _ _ _ hg) _ _ _ hg) _ _ _ hg) _ _ _ hg) _ _ _ hg⟩
set_option maxRecDepth 20000 in
theorem Say_no (b : Bool) (l h : Int) (hc : canB b l h = false) (a : Addr) (w : World) (L : HasArg w a) :
    Calls Tryd.prog 23 #[sp b l h] w fun e w' => ∃ T x, e = .returned (.tuple #[wv 0 0 0 0 false, .iface T x]) ∧ Below w.heap.size w w' := by
  have HL := Lib.hid L
  clear L
  have hq := can_any b l h
  rw [hc] at hq
  have HQ := Lib.hid hq
  clear hq
  obtain ⟨-, X2⟩ := blk2 w #[.bool b, .int .i64 l, .int .i64 h] #[.int .i64 0, .int .i64 0, .int .i64 0, .int .i64 0, .bool false] 48 50
  have HX := Lib.hid X2
  clear X2
  have HB := Lib.hid (below_alloc (below_alloc (Below.refl w.heap.size w) (.cells #[.bool b, .int .i64 l, .int .i64 h] 48)) (.cells #[.int .i64 0, .int .i64 0, .int .i64 0, .int .i64 0, .bool false] 50))
  unfold sp at HQ ⊢
  unfold wv
  go_enter Tryd.func23, Tryd.ntmps23
  go_wp2_with fail
  refine (HQ.out _).mono ?_
  rintro e w1 ⟨rfl, hb⟩
  have HX := Lib.hid (HX.out.below hb)
  have HB := Lib.hid (below_trans HB.out hb)
  have L1 := cell_keep HL.out HB.out
  have hz1 := lt_of_cell L1
  clear hb HQ
  go_wp2_with fail
  refine (At_ch 4 Ch.base).mono ?_
  rintro e w2 ⟨u, rfl, hch, hb⟩
  obtain ⟨T, x, rfl⟩ := hch.shape
  obtain ⟨⟨c0, c1, c2, c3, c4⟩, ⟨f0, f1, f2, f3, f4⟩, hz, hB⟩ := box5' HX.out (Nat.le_succ _) HB.out hb
  have HE := Lib.hid hB
  clear hB hb HX HB hch L1 hz1
  go_wp2
  exact bodyPost_ret (v := .tuple #[.agg #[.int .i64 0, .int .i64 0, .int .i64 0, .int .i64 0, .bool false], .iface T x]) (by simp [results, Tryd.results23, go_sem, c0, c1, c2, c3, c4]) rfl ⟨T, x, rfl, HE.out _ _ _ _ _⟩
set_option maxRecDepth 20000 in
theorem Say_yes (b : Bool) (l h : Int) (hc : canB b l h = true) (w : World) :
    Calls Tryd.prog 23 #[sp b l h] w fun e w' => e = .returned (.tuple #[wv 0 0 h l b, .nilIface]) ∧ Below w.heap.size w w' := by
  have hq := can_any b l h
  rw [hc] at hq
  have HQ := Lib.hid hq
  clear hq
  have HC := (canB_iff b l h).1 hc
  clear hc
  obtain ⟨X1, X2⟩ := blk2 w #[.bool b, .int .i64 l, .int .i64 h] #[.int .i64 0, .int .i64 0, .int .i64 0, .int .i64 0, .bool false] 48 50
  have HX := Lib.hid X2
  have HY := Lib.hid X1
  clear X1 X2
  have HB := Lib.hid (below_alloc (below_alloc (Below.refl w.heap.size w) (.cells #[.bool b, .int .i64 l, .int .i64 h] 48)) (.cells #[.int .i64 0, .int .i64 0, .int .i64 0, .int .i64 0, .bool false] 50))
  unfold sp at HQ ⊢
  unfold wv
  unfold Can at HC
  cases b with
  | false =>
    simp only [Bool.false_eq_true, if_false] at HC
    obtain ⟨rfl, rfl⟩ := HC
    go_enter Tryd.func23, Tryd.ntmps23
    go_wp2_with fail
    refine (HQ.out _).mono ?_
    rintro e w1 ⟨rfl, hb⟩
    obtain ⟨⟨c0, c1, c2, c3, c4⟩, ⟨f0, f1, f2, f3, f4⟩, hz, hB⟩ := box5' HX.out (Nat.le_succ _) HB.out hb
    have HE := Lib.hid hB
    have HY := HY.out.below hb
    obtain ⟨d0, d1, d2⟩ : _ ∧ _ ∧ _ := ⟨HY.cell 0, HY.cell 1, HY.cell 2⟩
    simp only [List.getElem?_toArray, List.getElem?_cons_succ, List.getElem?_cons_zero] at d0 d1 d2
    have z1 := HY.lt
    clear hB hb HX HB HY
    go_wp2
    exact bodyPost_ret (v := .tuple #[.agg #[.int .i64 0, .int .i64 0, .int .i64 0, .int .i64 0, .bool false], .nilIface]) (by simp [results, Tryd.results23, go_sem, c0, c1, c2, c3, c4]) rfl ⟨rfl, HE.out _ _ _ _ _⟩
  | true =>
    clear HC
    go_enter Tryd.func23, Tryd.ntmps23
    go_wp2_with fail
    refine (HQ.out _).mono ?_
    rintro e w1 ⟨rfl, hb⟩
    obtain ⟨⟨c0, c1, c2, c3, c4⟩, ⟨f0, f1, f2, f3, f4⟩, hz, hB⟩ := box5' HX.out (Nat.le_succ _) HB.out hb
    have HE := Lib.hid hB
    have HY := HY.out.below hb
    obtain ⟨d0, d1, d2⟩ : _ ∧ _ ∧ _ := ⟨HY.cell 0, HY.cell 1, HY.cell 2⟩
    simp only [List.getElem?_toArray, List.getElem?_cons_succ, List.getElem?_cons_zero] at d0 d1 d2
    have z1 := HY.lt
    clear hB hb HX HB HY
    go_wp2
    exact bodyPost_ret (v := .tuple #[.agg #[.int .i64 0, .int .i64 0, .int .i64 h, .int .i64 l, .bool true], .nilIface]) (by simp [results, Tryd.results23, go_sem, c0, c1, c2, c3, c4]) rfl ⟨rfl, HE.out _ _ _ _ _⟩
theorem Hear_any (s g t n : Int) (m : Bool) (w : World) :
    Calls Tryd.prog 24 #[wv s g t n m] w fun e w' => e = .returned (if m then sp true n t else sp false 0 0) ∧ Below w.heap.size w w' := by
  unfold wv sp
  cases m with
  | false =>
    go_enter Tryd.func24, Tryd.ntmps24
    go_wp2
    exact bodyPost_ret (v := .agg #[.bool false, .int .i64 0, .int .i64 0]) (by simp [results, Tryd.results24, go_sem]) rfl ⟨rfl, below_alloc (below_alloc (Below.refl _ _) _) _⟩
  | true =>
    go_enter Tryd.func24, Tryd.ntmps24
    go_wp2
    exact bodyPost_ret (v := .agg #[.bool true, .int .i64 n, .int .i64 t]) (by simp [results, Tryd.results24, go_sem]) rfl ⟨rfl, below_alloc (below_alloc (Below.refl _ _) _) _⟩
theorem Hear_said (b : Bool) (l h : Int) (hc : canB b l h = true) (w : World) :
    Calls Tryd.prog 24 #[wv 0 0 h l b] w fun e w' => e = .returned (sp b l h) ∧ Below w.heap.size w w' := by
  have HC := (canB_iff b l h).1 hc
  unfold Can at HC
  cases b with
  | false =>
    simp only [Bool.false_eq_true, if_false] at HC
    obtain ⟨rfl, rfl⟩ := HC
    simpa using Hear_any 0 0 0 0 false w
  | true => simpa using Hear_any 0 0 h l true w
theorem Hear_re {W : World} {b : Bool} {l h : Int} (hc : canB b l h = true) (d : Nat) (os : Array Obj) :
    Calls Tryd.prog 24 #[wv 0 0 h l b] (grow (redrawn W d) os) fun e w'' => e = .returned (sp b l h) ∧ ∃ p : Regrown, w'' = grow (redrawn W p.d) p.os :=
  Calls.regrown_of (Hear_said b l h hc _)

theorem re5' {w : World} {g : Nat} {t : TypeId} {v0 v1 v2 v3 v4 : Value} (h : BlkW w g t #[v0, v1, v2, v3, v4]) :
    (∀ d os, (grow (redrawn w d) os).cell? ⟨g, 0, none⟩ = some v0) ∧ (∀ d os, (grow (redrawn w d) os).cell? ⟨g, 1, none⟩ = some v1) ∧ (∀ d os, (grow (redrawn w d) os).cell? ⟨g, 2, none⟩ = some v2) ∧
    (∀ d os, (grow (redrawn w d) os).cell? ⟨g, 3, none⟩ = some v3) ∧ (∀ d os, (grow (redrawn w d) os).cell? ⟨g, 4, none⟩ = some v4) :=
  ⟨cell_regrown (h.cell 0), cell_regrown (h.cell 1), cell_regrown (h.cell 2), cell_regrown (h.cell 3), cell_regrown (h.cell 4)⟩
theorem spB_refl (b : Bool) (l h : Int) : spB b l h b l h = true := by simp [spB]
/-- What Say answers, as two cases. -/
def SayQ (c : Bool) (b : Bool) (l h : Int) (w : World) (e : Ending) (w' : World) : Prop :=
  match c with
  | true => e = .returned (.tuple #[wv 0 0 h l b, .nilIface]) ∧ Below w.heap.size w w'
  | false => ∃ T x, e = .returned (.tuple #[wv 0 0 0 0 false, .iface T x]) ∧ Below w.heap.size w w'
theorem Say_any (b : Bool) (l h : Int) (a : Addr) (w : World) (L : HasArg w a) : Calls Tryd.prog 23 #[sp b l h] w (SayQ (canB b l h) b l h w) := by
  rcases hc : canB b l h with _ | _
  · exact Say_no b l h hc a w L
  · exact Say_yes b l h hc w

set_option maxRecDepth 100000 in
set_option maxHeartbeats 2000000 in
theorem hears_any (b : Bool) (l h : Int) (b' : Bool) (l' h' : Int) (a : Addr) (w : World) (L : HasArg w a) : Calls Tryd.prog 6 #[sp b l h, sp b' l' h'] w (True1 w) := by
  have HL := Lib.hid L
  clear L
  obtain ⟨x, hx⟩ : ∃ x, canB b l h = x := ⟨_, rfl⟩
  obtain ⟨y, hy⟩ : ∃ y, canB b' l' h' = y := ⟨_, rfl⟩
  have HP := Lib.hid (fun W L => Say_any b l h a W L)
  have HQ := Lib.hid (fun W L => Say_any b' l' h' a W L)
  rw [hx] at HP
  rw [hy] at HQ
  have HXX := Lib.hid hx
  clear hx hy
  obtain ⟨X1, X2⟩ := blk2 w #[.bool b, .int .i64 l, .int .i64 h] #[.bool b', .int .i64 l', .int .i64 h'] 48 48
  have HB := Lib.hid (below_alloc (below_alloc (Below.refl w.heap.size w) (.cells #[.bool b, .int .i64 l, .int .i64 h] 48)) (.cells #[.bool b', .int .i64 l', .int .i64 h'] 48))
  have HX1 := Lib.hid X1
  have HX2 := Lib.hid X2
  clear X1 X2
  unfold sp at HP HQ ⊢
  go_enter Tryd.func6, Tryd.ntmps6
  go_wp2_with fail
  refine (awake_true a _ (cell_keep HL.out HB.out)).mono ?_
  rintro e w1 ⟨rfl, hb⟩
  have HX1 := Lib.hid (HX1.out.below hb)
  have HX2 := Lib.hid (HX2.out.below hb)
  have HB := Lib.hid (below_trans HB.out hb)
  clear hb
  obtain ⟨c0, c1, c2⟩ : _ ∧ _ ∧ _ := ⟨HX1.out.cell 0, HX1.out.cell 1, HX1.out.cell 2⟩
  simp only [List.getElem?_toArray, List.getElem?_cons_succ, List.getElem?_cons_zero] at c0 c1 c2
  have z1 := HX1.out.lt
  go_wp2_with fail
  refine (HP.out _ (cell_keep HL.out HB.out)).mono ?_
  rintro e w2 hq
  clear c0 c1 c2 z1 HP
  cases x with
  | false =>
    obtain ⟨T, u, rfl, hb⟩ := hq
    have HX2 := Lib.hid (HX2.out.below (below_alloc hb (.cells #[.int .i64 0, .int .i64 0, .int .i64 0, .int .i64 0, .bool false] 50)))
    have HX3 := Lib.hid (BlkW.new w2 50 #[.int .i64 0, .int .i64 0, .int .i64 0, .int .i64 0, .bool false])
    have HB := Lib.hid (below_trans HB.out (below_alloc hb (.cells #[.int .i64 0, .int .i64 0, .int .i64 0, .int .i64 0, .bool false] 50)))
    clear hb HX1
    obtain ⟨c0, c1, c2⟩ : _ ∧ _ ∧ _ := ⟨HX2.out.cell 0, HX2.out.cell 1, HX2.out.cell 2⟩
    simp only [List.getElem?_toArray, List.getElem?_cons_succ, List.getElem?_cons_zero] at c0 c1 c2
    have z1 := HX2.out.lt
    unfold wv
    go_wp2_with fail
    refine (HQ.out _ (cell_keep HL.out HB.out)).mono ?_
    rintro e w3 hq
    clear c0 c1 c2 z1 HQ HX2
    have q1 : ∀ w, (binOp .eql 50 (.agg #[.int .i64 0, .int .i64 0, .int .i64 0, .int .i64 0, .bool false]) (.agg #[.int .i64 0, .int .i64 0, .int .i64 0, .int .i64 0, .bool false])).run Tryd.prog w = .ok (.bool true) w := fun w => by rw [wd_eq]; rfl
    have q2 := wHeld
    have q3 := wGuard
    generalize w2.heap.size = n2 at HX3 ⊢
    cases y with
    | false =>
      obtain ⟨T', u', rfl, hb⟩ := hq
      have HX3 := HX3.out.below hb
      have HB := Lib.hid (below_alloc (below_trans HB.out hb) (.cells #[.int .i64 0, .int .i64 0, .int .i64 0, .int .i64 0, .bool false] 50))
      clear hb
      obtain ⟨c0, c1, c2, c3, c4⟩ : _ ∧ _ ∧ _ ∧ _ ∧ _ := ⟨HX3.cell 0, HX3.cell 1, HX3.cell 2, HX3.cell 3, HX3.cell 4⟩
      simp only [List.getElem?_toArray, List.getElem?_cons_succ, List.getElem?_cons_zero] at c0 c1 c2 c3 c4
      have z1 := HX3.lt
      clear HX3
      unfold wv
      go_wp2
      go_ret
      exact ⟨rfl, HB.out⟩
    | true =>
      obtain ⟨rfl, hb⟩ := hq
      have HX3 := HX3.out.below hb
      have HB := Lib.hid (below_alloc (below_trans HB.out hb) (.cells #[.int .i64 0, .int .i64 0, .int .i64 h', .int .i64 l', .bool b'] 50))
      clear hb
      obtain ⟨c0, c1, c2, c3, c4⟩ : _ ∧ _ ∧ _ ∧ _ ∧ _ := ⟨HX3.cell 0, HX3.cell 1, HX3.cell 2, HX3.cell 3, HX3.cell 4⟩
      simp only [List.getElem?_toArray, List.getElem?_cons_succ, List.getElem?_cons_zero] at c0 c1 c2 c3 c4
      have z1 := HX3.lt
      clear HX3
      unfold wv
      go_wp2
      go_ret
      exact ⟨rfl, HB.out⟩
  | true =>
    obtain ⟨rfl, hb⟩ := hq
    have HX1 := Lib.hid (HX1.out.below (below_alloc hb (.cells #[.int .i64 0, .int .i64 0, .int .i64 h, .int .i64 l, .bool b] 50)))
    have HX2 := Lib.hid (HX2.out.below (below_alloc hb (.cells #[.int .i64 0, .int .i64 0, .int .i64 h, .int .i64 l, .bool b] 50)))
    have HX3 := Lib.hid (BlkW.new w2 50 #[.int .i64 0, .int .i64 0, .int .i64 h, .int .i64 l, .bool b])
    have HB := Lib.hid (below_trans HB.out (below_alloc hb (.cells #[.int .i64 0, .int .i64 0, .int .i64 h, .int .i64 l, .bool b] 50)))
    clear hb
    obtain ⟨c0, c1, c2⟩ : _ ∧ _ ∧ _ := ⟨HX2.out.cell 0, HX2.out.cell 1, HX2.out.cell 2⟩
    simp only [List.getElem?_toArray, List.getElem?_cons_succ, List.getElem?_cons_zero] at c0 c1 c2
    have z1 := HX2.out.lt
    unfold wv
    go_wp2_with fail
    refine (HQ.out _ (cell_keep HL.out HB.out)).mono ?_
    rintro e w3 hq
    clear c0 c1 c2 z1 HQ
    generalize w2.heap.size = n2 at HX3 ⊢
    have q1 : ∀ w, (binOp .eql 48 (.agg #[.bool b, .int .i64 l, .int .i64 h]) (.agg #[.bool b, .int .i64 l, .int .i64 h])).run Tryd.prog w = .ok (.bool true) w := fun w => by rw [sp_eq, spB_refl]
    have q3 := sHeld
    have q4 := sGuard
    cases y with
    | false =>
      obtain ⟨T', u', rfl, hb⟩ := hq
      have HX1 := Lib.hid (HX1.out.below (below_alloc hb (.cells #[.int .i64 0, .int .i64 0, .int .i64 0, .int .i64 0, .bool false] 50)))
      have HX3 := Lib.hid (HX3.out.below (below_alloc hb (.cells #[.int .i64 0, .int .i64 0, .int .i64 0, .int .i64 0, .bool false] 50)))
      have HB := Lib.hid (below_trans HB.out (below_alloc hb (.cells #[.int .i64 0, .int .i64 0, .int .i64 0, .int .i64 0, .bool false] 50)))
      clear hb
      unfold wv
      go_wp2_with fail
      generalize w3.heap.size = n3 at ⊢
      generalize w3.alloc (.cells #[.int .i64 0, .int .i64 0, .int .i64 0, .int .i64 0, .bool false] 50) = W at HX1 HX3 HB ⊢
      have HH := Lib.hid (fun d os => Hear_re (W := W) HXX.out d os)
      unfold sp wv at HH
      obtain ⟨r0, r1, r2⟩ := re3 HX1.out
      obtain ⟨t0, t1, t2, t3, t4⟩ := re5' HX3.out
      refine wp_region_quiet_below (by kernel_rfl) (by kernel_rfl) ?_
      repeat (go_big_quiet_step ((first | with_reducible exact HH.out _ _)))
      refine wpQuiet_nil ?_
      intro _ hw'
      obtain ⟨⟨dq, osq⟩, hw''⟩ := hw'
      subst hw''
      have HE := Lib.hid (below_trans HB.out (below_regrown W dq osq))
      clear r0 r1 r2 t0 t1 t2 t3 t4 
      go_wp2
      go_ret
      exact ⟨rfl, HE.out⟩
    | true =>
      obtain ⟨rfl, hb⟩ := hq
      have HX1 := Lib.hid (HX1.out.below (below_alloc hb (.cells #[.int .i64 0, .int .i64 0, .int .i64 h', .int .i64 l', .bool b'] 50)))
      have HX2 := Lib.hid (HX2.out.below (below_alloc hb (.cells #[.int .i64 0, .int .i64 0, .int .i64 h', .int .i64 l', .bool b'] 50)))
      have HX3 := Lib.hid (HX3.out.below (below_alloc hb (.cells #[.int .i64 0, .int .i64 0, .int .i64 h', .int .i64 l', .bool b'] 50)))
      have HX4 := Lib.hid (BlkW.new w3 50 #[.int .i64 0, .int .i64 0, .int .i64 h', .int .i64 l', .bool b'])
      have HB := Lib.hid (below_trans HB.out (below_alloc hb (.cells #[.int .i64 0, .int .i64 0, .int .i64 h', .int .i64 l', .bool b'] 50)))
      clear hb
      unfold wv
      go_wp2_with fail
      generalize w3.heap.size = n3 at HX4 ⊢
      generalize w3.alloc (.cells #[.int .i64 0, .int .i64 0, .int .i64 h', .int .i64 l', .bool b'] 50) = W at HX1 HX2 HX3 HX4 HB ⊢
      have HH := Lib.hid (fun d os => Hear_re (W := W) HXX.out d os)
      unfold sp wv at HH
      obtain ⟨p, hp⟩ : ∃ p, spB b l h b' l' h' = p := ⟨_, rfl⟩
      have q5 : ∀ w, (binOp .eql 48 (.agg #[.bool b, .int .i64 l, .int .i64 h]) (.agg #[.bool b', .int .i64 l', .int .i64 h'])).run Tryd.prog w = .ok (.bool p) w := fun w => by rw [sp_eq, hp]
      have q6 : ∀ w, (binOp .eql 50 (.agg #[.int .i64 0, .int .i64 0, .int .i64 h, .int .i64 l, .bool b]) (.agg #[.int .i64 0, .int .i64 0, .int .i64 h', .int .i64 l', .bool b'])).run Tryd.prog w = .ok (.bool p) w := fun w => by rw [wd_eq, wd_sp, hp]
      have q7 := wHeld
      have q8 := wGuard
      obtain ⟨r0, r1, r2⟩ := re3 HX1.out
      obtain ⟨s0, s1, s2⟩ := re3 HX2.out
      obtain ⟨t0, t1, t2, t3, t4⟩ := re5' HX3.out
      obtain ⟨u0, u1, u2, u3, u4⟩ := re5' HX4.out
      clear hp HX1 HX2 HX3 HX4
      cases p
      all_goals
        refine wp_region_quiet_below (by kernel_rfl) (by kernel_rfl) ?_
        repeat (go_big_quiet_step ((first | with_reducible exact HH.out _ _)))
        refine wpQuiet_nil ?_
        intro _ hw'
        obtain ⟨⟨dq, osq⟩, hw''⟩ := hw'
        subst hw''
        have HE := Lib.hid (below_trans HB.out (below_regrown W dq osq))
        clear r0 r1 r2 t0 t1 t2 t3 t4 s0 s1 s2 u0 u1 u2 u3 u4
        go_wp2
        go_ret
        exact ⟨rfl, HE.out⟩
end Go.Proofs.YtnjlodgdedodgaaDoor
