/- board: spans and their words (can, Say, Hear), for rite. A template (fill.py). -/
import Derived.Test.YtihjklimcchkhaaGreatDoorBd
namespace Go.Proofs.YtihjklimcchkhaaGreatDoor.Bd
open Go.RowKit Go.Extern.Stop Go.Stop Go.Extern Go.Sort

/-! ### == of spans and of words -/
def sp (b : Bool) (l h : Int) : Value := .agg #[.bool b, .int .i64 l, .int .i64 h]
def wv (s g t n : Int) (m : Bool) : Value := .agg #[.int .i64 s, .int .i64 g, .int .i64 t, .int .i64 n, .bool m]
theorem sHeld : Tryz.prog.stoodInHeld 124 = false := by kernel_rfl
theorem sGuard : Tryz.prog.eqGuardType Tryz.prog.depth 124 = false := by kernel_rfl
theorem sT : Tryz.prog.underlying 124 = some (.struct (Tryz.prog.fieldsOf 124)) := by kernel_rfl
theorem sF : (Tryz.prog.fieldsOf 124).toList = [{ name := "Is", type := 4, offset := 0, embedded := false, tag := "", pkgPath := "", byteOffset := 0 },
        { name := "Low", type := 3, offset := 1, embedded := false, tag := "", pkgPath := "", byteOffset := 8 },
        { name := "High", type := 3, offset := 2, embedded := false, tag := "", pkgPath := "", byteOffset := 16 }] := by kernel_rfl
def spB (b : Bool) (l h : Int) (b' : Bool) (l' h' : Int) : Bool := b == b' && l == l' && h == h'
theorem spEqIn (b : Bool) (l h : Int) (b' : Bool) (l' h' : Int) (w : World) : (Op.equalIn 10000 124 (.agg #[.bool b, .int .i64 l, .int .i64 h]) (.agg #[.bool b', .int .i64 l', .int .i64 h'])).run Tryz.prog w = .ok (spB b l h b' l' h') w := by
  rw [run_equalIn_agg _ _ _ _ _ sT sHeld, sF]
  have e1 : ∀ (x y : Int) (w : World), (Op.equalIn 9999 3 (.int .i64 x) (.int .i64 y)).run Tryz.prog w = .ok (x == y) w := fun x y w => run_equalIn_int w 9998 3 .i64 .i64 x y Tryz.underlying3
  have e2 : ∀ (x y : Bool) (w : World), (Op.equalIn 9999 4 (.bool x) (.bool y)).run Tryz.prog w = .ok (x == y) w := fun x y w => run_equalIn_bool' w 9998 4 x y Tryz.underlying4
  simp only [Op.eqFields]
  simp [go_sem, e1, e2]
  unfold spB
  (repeat' split) <;> simp_all
theorem sp_eq (b : Bool) (l h : Int) (b' : Bool) (l' h' : Int) (w : World) : (binOp .eql 124 (.agg #[.bool b, .int .i64 l, .int .i64 h]) (.agg #[.bool b', .int .i64 l', .int .i64 h'])).run Tryz.prog w = .ok (.bool (spB b l h b' l' h')) w := by
  rw [run_eql_struct, spEqIn]; rfl
theorem wHeld : Tryz.prog.stoodInHeld 34 = false := by kernel_rfl
theorem wGuard : Tryz.prog.eqGuardType Tryz.prog.depth 34 = false := by kernel_rfl
theorem wT : Tryz.prog.underlying 34 = some (.struct (Tryz.prog.fieldsOf 34)) := by kernel_rfl
theorem wF : (Tryz.prog.fieldsOf 34).toList = [{ name := "Slot", type := 3, offset := 0, embedded := false, tag := "", pkgPath := "", byteOffset := 0 },
        { name := "Gen", type := 3, offset := 1, embedded := false, tag := "", pkgPath := "", byteOffset := 8 },
        { name := "Tag", type := 3, offset := 2, embedded := false, tag := "", pkgPath := "", byteOffset := 16 },
        { name := "Num", type := 3, offset := 3, embedded := false, tag := "", pkgPath := "", byteOffset := 24 },
        { name := "Mark", type := 4, offset := 4, embedded := false, tag := "", pkgPath := "", byteOffset := 32 }] := by kernel_rfl
def wdB (s g t n : Int) (m : Bool) (s' g' t' n' : Int) (m' : Bool) : Bool := s == s' && g == g' && t == t' && n == n' && m == m'
theorem wdEqIn (s g t n : Int) (m : Bool) (s' g' t' n' : Int) (m' : Bool) (w : World) :
    (Op.equalIn 10000 34 (.agg #[.int .i64 s, .int .i64 g, .int .i64 t, .int .i64 n, .bool m]) (.agg #[.int .i64 s', .int .i64 g', .int .i64 t', .int .i64 n', .bool m'])).run Tryz.prog w = .ok (wdB s g t n m s' g' t' n' m') w := by
  rw [run_equalIn_agg _ _ _ _ _ wT wHeld, wF]
  have e1 : ∀ (x y : Int) (w : World), (Op.equalIn 9999 3 (.int .i64 x) (.int .i64 y)).run Tryz.prog w = .ok (x == y) w := fun x y w => run_equalIn_int w 9998 3 .i64 .i64 x y Tryz.underlying3
  have e2 : ∀ (x y : Bool) (w : World), (Op.equalIn 9999 4 (.bool x) (.bool y)).run Tryz.prog w = .ok (x == y) w := fun x y w => run_equalIn_bool' w 9998 4 x y Tryz.underlying4
  simp only [Op.eqFields]
  simp [go_sem, e1, e2]
  unfold wdB
  (repeat' split) <;> simp_all
theorem wd_eq (s g t n : Int) (m : Bool) (s' g' t' n' : Int) (m' : Bool) (w : World) :
    (binOp .eql 34 (.agg #[.int .i64 s, .int .i64 g, .int .i64 t, .int .i64 n, .bool m]) (.agg #[.int .i64 s', .int .i64 g', .int .i64 t', .int .i64 n', .bool m'])).run Tryz.prog w = .ok (.bool (wdB s g t n m s' g' t' n' m')) w := by
  rw [run_eql_struct, wdEqIn]; rfl
theorem wd_sp (b : Bool) (l h : Int) (b' : Bool) (l' h' : Int) : wdB 0 0 h l b 0 0 h' l' b' = spB b l h b' l' h' := by
  rw [Bool.eq_iff_iff]
  simp only [wdB, spB, Bool.and_eq_true, beq_iff_eq, true_and]
  constructor
  · rintro ⟨⟨h1, h2⟩, h3⟩; exact ⟨⟨h3, h2⟩, h1⟩
  · rintro ⟨⟨h3, h2⟩, h1⟩; exact ⟨⟨h1, h2⟩, h3⟩

/-! ### can -/
/-- There can be such a span. -/
def Can (b : Bool) (l h : Int) : Prop := if b then 0 ≤ l ∧ l ≤ h ∧ h ≤ 1099511627776 else l = 0 ∧ h = 0
def canB (b : Bool) (l h : Int) : Bool := if b then decide (0 ≤ l) && decide (l ≤ h) && decide (h ≤ 1099511627776) else (l == 0 && h == 0)
theorem canB_iff (b : Bool) (l h : Int) : canB b l h = true ↔ Can b l h := by
  unfold canB Can; cases b <;> simp [and_assoc]
set_option maxRecDepth 20000 in
theorem can_any (b : Bool) (l h : Int) (w : World) : Calls Tryz.prog 182 #[sp b l h] w fun e w' => e = .returned (.bool (canB b l h)) ∧ Below w.heap.size w w' := by
  unfold sp
  cases b with
  | false =>
    have q1 : ∀ w, (binOp .eql 124 (.agg #[.bool false, .int .i64 l, .int .i64 h]) (.agg #[.bool false, .int .i64 0, .int .i64 0])).run Tryz.prog w = .ok (.bool (canB false l h)) w := fun w => by rw [sp_eq]; simp [spB, canB]
    have q2 := sHeld
    have q3 := sGuard
    go_enter Tryz.func182, Tryz.ntmps182
    go_wp2
    go_ret
    exact ⟨rfl, below_alloc (Below.refl _ _) _⟩
  | true =>
    unfold canB
    simp only [if_true]
    rcases Bool.eq_false_or_eq_true (decide (0 ≤ l)) with k1 | k1
    · rcases Bool.eq_false_or_eq_true (decide (l ≤ h)) with k2 | k2
      · rcases Bool.eq_false_or_eq_true (decide (h ≤ 1099511627776)) with k3 | k3
        all_goals
          rw [k1, k2, k3]
          go_enter Tryz.func182, Tryz.ntmps182
          go_wp2
          go_ret
          exact ⟨rfl, below_alloc (Below.refl _ _) _⟩
      · rw [k1, k2]
        go_enter Tryz.func182, Tryz.ntmps182
        go_wp2
        go_ret
        exact ⟨rfl, below_alloc (Below.refl _ _) _⟩
    · rw [k1]
      go_enter Tryz.func182, Tryz.ntmps182
      go_wp2
      go_ret
      exact ⟨rfl, below_alloc (Below.refl _ _) _⟩

/-! ### Say, Hear -/
/-- A box of five cells that is the call's own, behind a call that lays blocks. -/
theorem box5' {w W w1 : World} {g : Nat} {t : TypeId} {v0 v1 v2 v3 v4 : Value} (h : BlkW W g t #[v0, v1, v2, v3, v4]) (hg : w.heap.size ≤ g) (hW : Below w.heap.size w W) (hb : Below W.heap.size W w1) :
    (w1.cell? ⟨g, 0, none⟩ = some v0 ∧ w1.cell? ⟨g, 1, none⟩ = some v1 ∧ w1.cell? ⟨g, 2, none⟩ = some v2 ∧ w1.cell? ⟨g, 3, none⟩ = some v3 ∧ w1.cell? ⟨g, 4, none⟩ = some v4) ∧
    (w1.frozen? ⟨g, 0, none⟩ = false ∧ w1.frozen? ⟨g, 1, none⟩ = false ∧ w1.frozen? ⟨g, 2, none⟩ = false ∧ w1.frozen? ⟨g, 3, none⟩ = false ∧ w1.frozen? ⟨g, 4, none⟩ = false) ∧ g < w1.heap.size ∧
    ∀ u0 u1 u2 u3 u4, Below w.heap.size w (((((w1.setCell ⟨g, 0, none⟩ u0).setCell ⟨g, 1, none⟩ u1).setCell ⟨g, 2, none⟩ u2).setCell ⟨g, 3, none⟩ u3).setCell ⟨g, 4, none⟩ u4) :=
  have k : BlkW w1 g t #[v0, v1, v2, v3, v4] := h.below hb
  ⟨⟨k.cell 0, k.cell 1, k.cell 2, k.cell 3, k.cell 4⟩, ⟨k.frozen 0, k.frozen 1, k.frozen 2, k.frozen 3, k.frozen 4⟩, k.lt,
    fun _ _ _ _ _ => below_set (below_set (below_set (below_set (below_set (below_trans hW hb) _ _ _ hg) _ _ _ hg) _ _ _ hg) _ _ _ hg) _ _ _ hg⟩
set_option maxRecDepth 20000 in
theorem Say_no (b : Bool) (l h : Int) (hc : canB b l h = false) (a : Addr) (w : World) (L : HasArg w a) :
    Calls Tryz.prog 172 #[sp b l h] w fun e w' => ∃ T x, e = .returned (.tuple #[wv 0 0 0 0 false, .iface T x]) ∧ Below w.heap.size w w' := by
  have HL := Lib.hid L
  clear L
  have hq := can_any b l h
  rw [hc] at hq
  have HQ := Lib.hid hq
  clear hq
  obtain ⟨-, X2⟩ := blk2 w #[.bool b, .int .i64 l, .int .i64 h] #[.int .i64 0, .int .i64 0, .int .i64 0, .int .i64 0, .bool false] 124 34
  have HX := Lib.hid X2
  clear X2
  have HB := Lib.hid (below_alloc (below_alloc (Below.refl w.heap.size w) (.cells #[.bool b, .int .i64 l, .int .i64 h] 124)) (.cells #[.int .i64 0, .int .i64 0, .int .i64 0, .int .i64 0, .bool false] 34))
  unfold sp at HQ ⊢
  unfold wv
  go_enter Tryz.func172, Tryz.ntmps172
  go_wp2_with fail
  refine (HQ.out _).mono ?_
  rintro e w1 ⟨rfl, hb⟩
  have HX := Lib.hid (HX.out.below hb)
  have HB := Lib.hid (below_trans HB.out hb)
  have L1 := cell_keep HL.out HB.out
  have hz1 := lt_of_cell L1
  clear hb HQ
  go_wp2_with fail
  refine (At_ch 4 Ch.base).mono ?_
  rintro e w2 ⟨u, rfl, hch, hb⟩
  obtain ⟨T, x, rfl⟩ := hch.shape
  obtain ⟨⟨c0, c1, c2, c3, c4⟩, ⟨f0, f1, f2, f3, f4⟩, hz, hB⟩ := box5' HX.out (Nat.le_succ _) HB.out hb
  have HE := Lib.hid hB
  clear hB hb HX HB hch L1 hz1
  go_wp2
  exact bodyPost_ret (v := .tuple #[.agg #[.int .i64 0, .int .i64 0, .int .i64 0, .int .i64 0, .bool false], .iface T x]) (by simp [results, Tryz.results172, go_sem, c0, c1, c2, c3, c4]) rfl ⟨T, x, rfl, HE.out _ _ _ _ _⟩
set_option maxRecDepth 20000 in
theorem Say_yes (b : Bool) (l h : Int) (hc : canB b l h = true) (w : World) :
    Calls Tryz.prog 172 #[sp b l h] w fun e w' => e = .returned (.tuple #[wv 0 0 h l b, .nilIface]) ∧ Below w.heap.size w w' := by
  have hq := can_any b l h
  rw [hc] at hq
  have HQ := Lib.hid hq
  clear hq
  have HC := (canB_iff b l h).1 hc
  clear hc
  obtain ⟨X1, X2⟩ := blk2 w #[.bool b, .int .i64 l, .int .i64 h] #[.int .i64 0, .int .i64 0, .int .i64 0, .int .i64 0, .bool false] 124 34
  have HX := Lib.hid X2
  have HY := Lib.hid X1
  clear X1 X2
  have HB := Lib.hid (below_alloc (below_alloc (Below.refl w.heap.size w) (.cells #[.bool b, .int .i64 l, .int .i64 h] 124)) (.cells #[.int .i64 0, .int .i64 0, .int .i64 0, .int .i64 0, .bool false] 34))
  unfold sp at HQ ⊢
  unfold wv
  unfold Can at HC
  cases b with
  | false =>
    simp only [Bool.false_eq_true, if_false] at HC
    obtain ⟨rfl, rfl⟩ := HC
    go_enter Tryz.func172, Tryz.ntmps172
    go_wp2_with fail
    refine (HQ.out _).mono ?_
    rintro e w1 ⟨rfl, hb⟩
    obtain ⟨⟨c0, c1, c2, c3, c4⟩, ⟨f0, f1, f2, f3, f4⟩, hz, hB⟩ := box5' HX.out (Nat.le_succ _) HB.out hb
    have HE := Lib.hid hB
    have HY := HY.out.below hb
    obtain ⟨d0, d1, d2⟩ : _ ∧ _ ∧ _ := ⟨HY.cell 0, HY.cell 1, HY.cell 2⟩
    simp only [List.getElem?_toArray, List.getElem?_cons_succ, List.getElem?_cons_zero] at d0 d1 d2
    have z1 := HY.lt
    clear hB hb HX HB HY
    go_wp2
    exact bodyPost_ret (v := .tuple #[.agg #[.int .i64 0, .int .i64 0, .int .i64 0, .int .i64 0, .bool false], .nilIface]) (by simp [results, Tryz.results172, go_sem, c0, c1, c2, c3, c4]) rfl ⟨rfl, HE.out _ _ _ _ _⟩
  | true =>
    clear HC
    go_enter Tryz.func172, Tryz.ntmps172
    go_wp2_with fail
    refine (HQ.out _).mono ?_
    rintro e w1 ⟨rfl, hb⟩
    obtain ⟨⟨c0, c1, c2, c3, c4⟩, ⟨f0, f1, f2, f3, f4⟩, hz, hB⟩ := box5' HX.out (Nat.le_succ _) HB.out hb
    have HE := Lib.hid hB
    have HY := HY.out.below hb
    obtain ⟨d0, d1, d2⟩ : _ ∧ _ ∧ _ := ⟨HY.cell 0, HY.cell 1, HY.cell 2⟩
    simp only [List.getElem?_toArray, List.getElem?_cons_succ, List.getElem?_cons_zero] at d0 d1 d2
    have z1 := HY.lt
    clear hB hb HX HB HY
    go_wp2
    exact bodyPost_ret (v := .tuple #[.agg #[.int .i64 0, .int .i64 0, .int .i64 h, .int .i64 l, .bool true], .nilIface]) (by simp [results, Tryz.results172, go_sem, c0, c1, c2, c3, c4]) rfl ⟨rfl, HE.out _ _ _ _ _⟩
theorem Hear_any (s g t n : Int) (m : Bool) (w : World) :
    Calls Tryz.prog 161 #[wv s g t n m] w fun e w' => e = .returned (if m then sp true n t else sp false 0 0) ∧ Below w.heap.size w w' := by
  unfold wv sp
  cases m with
  | false =>
    go_enter Tryz.func161, Tryz.ntmps161
    go_wp2
    exact bodyPost_ret (v := .agg #[.bool false, .int .i64 0, .int .i64 0]) (by simp [results, Tryz.results161, go_sem]) rfl ⟨rfl, below_alloc (below_alloc (Below.refl _ _) _) _⟩
  | true =>
    go_enter Tryz.func161, Tryz.ntmps161
    go_wp2
    exact bodyPost_ret (v := .agg #[.bool true, .int .i64 n, .int .i64 t]) (by simp [results, Tryz.results161, go_sem]) rfl ⟨rfl, below_alloc (below_alloc (Below.refl _ _) _) _⟩
end Go.Proofs.YtihjklimcchkhaaGreatDoor.Bd
