/- board: spans and their words (can, Say, Hear), for rite. A template (fill.py). -/
/- rite: spans that are announced. A template (fill.py). -/
/- rite: enter by spans; leave of a span; keep by Eras, Interval and the others. A template (made by gen_XUb.py). -/
/- rite: the clock that is turned; what was heard as numbers and as spans. A template (fill.py). -/
/- rite: what may be freed, by Eras, Interval, Epochs. A template (made by gen_XUd.py). -/
import Derived.Test.YtihjklimcchkhaaGreatDoorBd
import Derived.Test.YtihjklimcchkhaaGreatDoorRN
namespace Go.Proofs.YtihjklimcchkhaaGreatDoor.Bd
open Go.RowKit Go.Extern.Stop Go.Stop Go.Extern Go.Sort

/-! ### == of spans and of words -/
def sp (b : Bool) (l h : Int) : Value := .agg #[.bool b, .int .i64 l, .int .i64 h]
def wv (s g t n : Int) (m : Bool) : Value := .agg #[.int .i64 s, .int .i64 g, .int .i64 t, .int .i64 n, .bool m]
theorem sHeld : Tryz.prog.stoodInHeld 124 = false := by kernel_rfl
theorem sGuard : Tryz.prog.eqGuardType Tryz.prog.depth 124 = false := by kernel_rfl
theorem sT : Tryz.prog.underlying 124 = some (.struct (Tryz.prog.fieldsOf 124)) := by kernel_rfl
theorem sF : (Tryz.prog.fieldsOf 124).toList = [{ name := "Is", type := 4, offset := 0, embedded := false, tag := "", pkgPath := "", byteOffset := 0 },
        { name := "Low", type := 3, offset := 1, embedded := false, tag := "", pkgPath := "", byteOffset := 8 },
        { name := "High", type := 3, offset := 2, embedded := false, tag := "", pkgPath := "", byteOffset := 16 }] := by kernel_rfl
def spB (b : Bool) (l h : Int) (b' : Bool) (l' h' : Int) : Bool := b == b' && l == l' && h == h'
theorem spEqIn (b : Bool) (l h : Int) (b' : Bool) (l' h' : Int) (w : World) : (Op.equalIn 10000 124 (.agg #[.bool b, .int .i64 l, .int .i64 h]) (.agg #[.bool b', .int .i64 l', .int .i64 h'])).run Tryz.prog w = .ok (spB b l h b' l' h') w := by
  rw [run_equalIn_agg _ _ _ _ _ sT sHeld, sF]
  have e1 : ∀ (x y : Int) (w : World), (Op.equalIn 9999 3 (.int .i64 x) (.int .i64 y)).run Tryz.prog w = .ok (x == y) w := fun x y w => run_equalIn_int w 9998 3 .i64 .i64 x y Tryz.underlying3
  have e2 : ∀ (x y : Bool) (w : World), (Op.equalIn 9999 4 (.bool x) (.bool y)).run Tryz.prog w = .ok (x == y) w := fun x y w => run_equalIn_bool' w 9998 4 x y Tryz.underlying4
  simp only [Op.eqFields]
  simp [go_sem, e1, e2]
  unfold spB
  (repeat' split) <;> simp_all
theorem sp_eq (b : Bool) (l h : Int) (b' : Bool) (l' h' : Int) (w : World) : (binOp .eql 124 (.agg #[.bool b, .int .i64 l, .int .i64 h]) (.agg #[.bool b', .int .i64 l', .int .i64 h'])).run Tryz.prog w = .ok (.bool (spB b l h b' l' h')) w := by
  rw [run_eql_struct, spEqIn]; rfl
/-! ### can -/
/-- There can be such a span. -/
def Can (b : Bool) (l h : Int) : Prop := if b then 0 ≤ l ∧ l ≤ h ∧ h ≤ 1099511627776 else l = 0 ∧ h = 0
def canB (b : Bool) (l h : Int) : Bool := if b then decide (0 ≤ l) && decide (l ≤ h) && decide (h ≤ 1099511627776) else (l == 0 && h == 0)
theorem canB_iff (b : Bool) (l h : Int) : canB b l h = true ↔ Can b l h := by
  unfold canB Can; cases b <;> simp [and_assoc]
set_option maxRecDepth 20000 in
theorem can_any (b : Bool) (l h : Int) (w : World) : Calls Tryz.prog 182 #[sp b l h] w fun e w' => e = .returned (.bool (canB b l h)) ∧ Below w.heap.size w w' := by
  unfold sp
  cases b with
  | false =>
    have q1 : ∀ w, (binOp .eql 124 (.agg #[.bool false, .int .i64 l, .int .i64 h]) (.agg #[.bool false, .int .i64 0, .int .i64 0])).run Tryz.prog w = .ok (.bool (canB false l h)) w := fun w => by rw [sp_eq]; simp [spB, canB]
    have q2 := sHeld
    have q3 := sGuard
    go_enter Tryz.func182, Tryz.ntmps182
    go_wp2
    go_ret
    exact ⟨rfl, below_alloc (Below.refl _ _) _⟩
  | true =>
    unfold canB
    simp only [if_true]
    rcases Bool.eq_false_or_eq_true (decide (0 ≤ l)) with k1 | k1
    · rcases Bool.eq_false_or_eq_true (decide (l ≤ h)) with k2 | k2
      · rcases Bool.eq_false_or_eq_true (decide (h ≤ 1099511627776)) with k3 | k3
        all_goals
          rw [k1, k2, k3]
          go_enter Tryz.func182, Tryz.ntmps182
          go_wp2
          go_ret
          exact ⟨rfl, below_alloc (Below.refl _ _) _⟩
      · rw [k1, k2]
        go_enter Tryz.func182, Tryz.ntmps182
        go_wp2
        go_ret
        exact ⟨rfl, below_alloc (Below.refl _ _) _⟩
    · rw [k1]
      go_enter Tryz.func182, Tryz.ntmps182
      go_wp2
      go_ret
      exact ⟨rfl, below_alloc (Below.refl _ _) _⟩

/-! ### Say, Hear -/
/-- A box of five cells that is the call's own, behind a call that lays blocks. -/
theorem box5' {w W w1 : World} {g : Nat} {t : TypeId} {v0 v1 v2 v3 v4 : Value} (h : BlkW W g t #[v0, v1, v2, v3, v4]) (hg : w.heap.size ≤ g) (hW : Below w.heap.size w W) (hb : Below W.heap.size W w1) :
    (w1.cell? ⟨g, 0, none⟩ = some v0 ∧ w1.cell? ⟨g, 1, none⟩ = some v1 ∧ w1.cell? ⟨g, 2, none⟩ = some v2 ∧ w1.cell? ⟨g, 3, none⟩ = some v3 ∧ w1.cell? ⟨g, 4, none⟩ = some v4) ∧
    (w1.frozen? ⟨g, 0, none⟩ = false ∧ w1.frozen? ⟨g, 1, none⟩ = false ∧ w1.frozen? ⟨g, 2, none⟩ = false ∧ w1.frozen? ⟨g, 3, none⟩ = false ∧ w1.frozen? ⟨g, 4, none⟩ = false) ∧ g < w1.heap.size ∧
    ∀ u0 u1 u2 u3 u4, Below w.heap.size w (((((w1.setCell ⟨g, 0, none⟩ u0).setCell ⟨g, 1, none⟩ u1).setCell ⟨g, 2, none⟩ u2).setCell ⟨g, 3, none⟩ u3).setCell ⟨g, 4, none⟩ u4) :=
  have k : BlkW w1 g t #[v0, v1, v2, v3, v4] := h.below hb
  ⟨⟨k.cell 0, k.cell 1, k.cell 2, k.cell 3, k.cell 4⟩, ⟨k.frozen 0, k.frozen 1, k.frozen 2, k.frozen 3, k.frozen 4⟩, k.lt,
    fun _ _ _ _ _ => below_set (below_set (below_set (below_set (below_set (below_trans hW hb) _ _ _ hg) _ _ _ hg) _ _ _ hg) _ _ _ hg) _ _ _ hg⟩
set_option maxRecDepth 20000 in
theorem Say_yes (b : Bool) (l h : Int) (hc : canB b l h = true) (w : World) :
    Calls Tryz.prog 172 #[sp b l h] w fun e w' => e = .returned (.tuple #[wv 0 0 h l b, .nilIface]) ∧ Below w.heap.size w w' := by
  have hq := can_any b l h
  rw [hc] at hq
  have HQ := Lib.hid hq
  clear hq
  have HC := (canB_iff b l h).1 hc
  clear hc
  obtain ⟨X1, X2⟩ := blk2 w #[.bool b, .int .i64 l, .int .i64 h] #[.int .i64 0, .int .i64 0, .int .i64 0, .int .i64 0, .bool false] 124 34
  have HX := Lib.hid X2
  have HY := Lib.hid X1
  clear X1 X2
  have HB := Lib.hid (below_alloc (below_alloc (Below.refl w.heap.size w) (.cells #[.bool b, .int .i64 l, .int .i64 h] 124)) (.cells #[.int .i64 0, .int .i64 0, .int .i64 0, .int .i64 0, .bool false] 34))
  unfold sp at HQ ⊢
  unfold wv
  unfold Can at HC
  cases b with
  | false =>
    simp only [Bool.false_eq_true, if_false] at HC
    obtain ⟨rfl, rfl⟩ := HC
    go_enter Tryz.func172, Tryz.ntmps172
    go_wp2_with fail
    refine (HQ.out _).mono ?_
    rintro e w1 ⟨rfl, hb⟩
    obtain ⟨⟨c0, c1, c2, c3, c4⟩, ⟨f0, f1, f2, f3, f4⟩, hz, hB⟩ := box5' HX.out (Nat.le_succ _) HB.out hb
    have HE := Lib.hid hB
    have HY := HY.out.below hb
    obtain ⟨d0, d1, d2⟩ : _ ∧ _ ∧ _ := ⟨HY.cell 0, HY.cell 1, HY.cell 2⟩
    simp only [List.getElem?_toArray, List.getElem?_cons_succ, List.getElem?_cons_zero] at d0 d1 d2
    have z1 := HY.lt
    clear hB hb HX HB HY
    go_wp2
    exact bodyPost_ret (v := .tuple #[.agg #[.int .i64 0, .int .i64 0, .int .i64 0, .int .i64 0, .bool false], .nilIface]) (by simp [results, Tryz.results172, go_sem, c0, c1, c2, c3, c4]) rfl ⟨rfl, HE.out _ _ _ _ _⟩
  | true =>
    clear HC
    go_enter Tryz.func172, Tryz.ntmps172
    go_wp2_with fail
    refine (HQ.out _).mono ?_
    rintro e w1 ⟨rfl, hb⟩
    obtain ⟨⟨c0, c1, c2, c3, c4⟩, ⟨f0, f1, f2, f3, f4⟩, hz, hB⟩ := box5' HX.out (Nat.le_succ _) HB.out hb
    have HE := Lib.hid hB
    have HY := HY.out.below hb
    obtain ⟨d0, d1, d2⟩ : _ ∧ _ ∧ _ := ⟨HY.cell 0, HY.cell 1, HY.cell 2⟩
    simp only [List.getElem?_toArray, List.getElem?_cons_succ, List.getElem?_cons_zero] at d0 d1 d2
    have z1 := HY.lt
    clear hB hb HX HB HY
    go_wp2
    exact bodyPost_ret (v := .tuple #[.agg #[.int .i64 0, .int .i64 0, .int .i64 h, .int .i64 l, .bool true], .nilIface]) (by simp [results, Tryz.results172, go_sem, c0, c1, c2, c3, c4]) rfl ⟨rfl, HE.out _ _ _ _ _⟩
theorem Hear_any (s g t n : Int) (m : Bool) (w : World) :
    Calls Tryz.prog 161 #[wv s g t n m] w fun e w' => e = .returned (if m then sp true n t else sp false 0 0) ∧ Below w.heap.size w w' := by
  unfold wv sp
  cases m with
  | false =>
    go_enter Tryz.func161, Tryz.ntmps161
    go_wp2
    exact bodyPost_ret (v := .agg #[.bool false, .int .i64 0, .int .i64 0]) (by simp [results, Tryz.results161, go_sem]) rfl ⟨rfl, below_alloc (below_alloc (Below.refl _ _) _) _⟩
  | true =>
    go_enter Tryz.func161, Tryz.ntmps161
    go_wp2
    exact bodyPost_ret (v := .agg #[.bool true, .int .i64 n, .int .i64 t]) (by simp [results, Tryz.results161, go_sem]) rfl ⟨rfl, below_alloc (below_alloc (Below.refl _ _) _) _⟩
end Go.Proofs.YtihjklimcchkhaaGreatDoor.Bd

namespace Go.Proofs.YtihjklimcchkhaaGreatDoor
open Go.RowKit Go.Extern.Stop Go.Stop Go.Extern Go.Sort
/-- A span that the board can say. -/
def Sp.fine (s : Sp) : Prop := Bd.canB s.is s.low s.high = true
theorem Sp.fine_zs : zs.fine := rfl
theorem Sp.word_is (s : Sp) (hs : s.fine) : s.word = ⟨0, 0, s.high, s.low, s.is⟩ := by
  obtain ⟨b, l, h⟩ := s
  cases b with
  | true => rfl
  | false =>
    have : (l == 0 && h == 0) = true := hs
    simp at this
    obtain ⟨rfl, rfl⟩ := this
    rfl
theorem infoWd5 : (Tryz.prog.info? 34).map (·.size) = some 5 := by kernel_rfl
theorem load5 {W : World} {q : Nat} {d : Wd} (h : BlkW W q 34 (wc d).toArray) : (loadVar 34 ⟨q, 0, none⟩).run Tryz.prog W = .ok (wv d) W := by
  have hr : W.rangeAt q 0 (wc d) := fun j v hv => by rw [Nat.zero_add]; exact (BlkW.cell h j).trans (by rw [List.getElem?_toArray]; exact hv)
  exact run_loadVar_mid W q 0 34 (wc d) _ hr Tryz.underlying34 rfl infoWd5
/-- A word that a function answers from a box. -/
theorem results_cell5 {fn : Func} {a : Tmp} (h : fn.results = #[.cell a 34]) (tmps : Array Value) {q : Nat} {w : World} {d : Wd} (ht : tmps.getD a undef = .pointer (some ⟨q, 0, none⟩)) (hb : BlkW w q 34 (wc d).toArray) : (results fn tmps).run Tryz.prog w = .ok (wv d) w := by
  have hl := load5 hb
  have e : tmps[a]?.getD undef = .pointer (some ⟨q, 0, none⟩) := by rw [← ht]; simp
  simp [results, h, e, asAddr, hl]
set_option maxRecDepth 100000 in
set_option maxHeartbeats 1000000 in
theorem wordOf_is (b : Bool) (l h : Int) (hs : (⟨b, l, h⟩ : Sp).fine) (w : World) :
    Calls Tryz.prog 155 #[.agg #[.bool b, .int .i64 l, .int .i64 h]] w fun e w' => e = .returned (.agg #[.int .i64 0, .int .i64 0, .int .i64 h, .int .i64 l, .bool b]) ∧ Below w.heap.size w w' := by
  have HS := Lib.hid (fun w => Bd.Say_yes b l h hs w)
  clear hs
  go_enter Tryz.func155, Tryz.ntmps155
  go_wp2_with fail
  refine (HS.out _).mono ?_
  rintro e w1 ⟨rfl, hb⟩
  have X := Lib.hid (BlkW.new (w.alloc (.cells #[.bool b, .int .i64 l, .int .i64 h] 124)) 34 #[.int .i64 0, .int .i64 0, .int .i64 0, .int .i64 0, .bool false])
  rw [World.size_alloc] at X
  obtain ⟨⟨c0, c1, c2, c3, c4⟩, ⟨f0, f1, f2, f3, f4⟩, hz, hB⟩ := Bd.box5' X.out (Nat.le_succ _) (below_alloc (below_alloc (Below.refl _ _) _) _) hb
  have X1 := ((((((X.out.below hb).set 0 (.int .i64 0)).set 1 (.int .i64 0)).set 2 (.int .i64 h)).set 3 (.int .i64 l)).set 4 (.bool b)).alloc (.cells #[.int .i64 0, .int .i64 0, .int .i64 h, .int .i64 l, .bool b] 34)
  have X2 : Hid (BlkW _ (w.heap.size + 1) 34 (wc ⟨0, 0, h, l, b⟩).toArray) := Lib.hid X1
  have HE := Lib.hid (show Below w.heap.size w _ from (hB (.int .i64 0) (.int .i64 0) (.int .i64 h) (.int .i64 l) (.bool b)).alloc (hB (.int .i64 0) (.int .i64 0) (.int .i64 h) (.int .i64 l) (.bool b)).size (.cells #[.int .i64 0, .int .i64 0, .int .i64 h, .int .i64 l, .bool b] 34))
  clear hB hb X X1 HS
  unfold Bd.wv
  go_wp2
  exact bodyPost_ret (v := wv ⟨0, 0, h, l, b⟩) (results_cell5 Tryz.results155 _ (by rfl) X2.out) rfl ⟨rfl, HE.out⟩
def setSpan (m : Rt) (s : Sp) : Rt := { m with span := s }
section
variable {w : World} {r : Nat} {sv fv nv : Value} {m : Rt}
theorem RtAt.setSpan (h : RtAt w r sv fv nv m) (s : Sp) : RtAt (w.setCells r 102 [.bool s.is, .int .i64 s.low, .int .i64 s.high]) r sv fv nv (setSpan m s) := h.puts 102 _ (by kernel_rfl)
set_option maxRecDepth 100000 in
set_option maxHeartbeats 1000000 in
theorem saySpan_any (h : RtAt w r sv fv nv m) (hm : m.me < 6) (s : Sp) (hs : s.fine) :
    Calls Tryz.prog 114 #[.pointer (some ⟨r, 0, none⟩), .agg #[.bool s.is, .int .i64 s.low, .int .i64 s.high]] w (Leaf w r sv fv nv (m.saySpan s)) := by
  have h1 := h.below (below_alloc (Below.refl _ _) (.cells #[.bool s.is, .int .i64 s.low, .int .i64 s.high] 124))
  have HO := Lib.hid (Only.of_below (r := r) (below_alloc (Below.refl w.heap.size w) (.cells #[.bool s.is, .int .i64 s.low, .int .i64 s.high] 124)))
  have HX := Lib.hid (BlkW.new w 124 #[.bool s.is, .int .i64 s.low, .int .i64 s.high])
  have hz := BlkW.lt h1
  have HR := Lib.hid h1
  have HS := Lib.hid hs
  clear h h1 hs
  go_enter Tryz.func114, Tryz.ntmps114
  go_upto_region 1 with fail
  generalize w.alloc (.cells #[.bool s.is, .int .i64 s.low, .int .i64 s.high] 124) = W at HR HX HO hz ⊢
  have hX := HX.out
  have hzx := BlkW.lt hX
  have hrx : w.heap.size ≠ r := fun e => BlkW.ne_ hX HR.out (by decide) e
  obtain ⟨b0, b1, b2⟩ : _ ∧ _ ∧ _ := ⟨hX.cell 0, hX.cell 1, hX.cell 2⟩
  simp only [List.getElem?_toArray, List.getElem?_cons_succ, List.getElem?_cons_zero] at b0 b1 b2
  obtain ⟨k0, k1, k2⟩ := HR.out.span3
  have fz : ∀ o, W.frozen? ⟨r, o, none⟩ = false := HR.out.frozen
  clear hX HX
  generalize w.heap.size = g at *
  go_upto_region 2 with fail
  have R1 : RtAt (((W.setCell ⟨r, 102, none⟩ (.bool s.is)).setCell ⟨r, 103, none⟩ (.int .i64 s.low)).setCell ⟨r, 104, none⟩ (.int .i64 s.high)) r sv fv nv (setSpan m s) := HR.out.setSpan s
  have O1 : Only r W (((W.setCell ⟨r, 102, none⟩ (.bool s.is)).setCell ⟨r, 103, none⟩ (.int .i64 s.low)).setCell ⟨r, 104, none⟩ (.int .i64 s.high)) := Only.sets 102 [.bool s.is, .int .i64 s.low, .int .i64 s.high]
  have c0 := O1.cell hzx hrx b0
  have c1 := O1.cell hzx hrx b1
  have c2 := O1.cell hzx hrx b2
  have hz1 := Only.lt O1 hzx
  have HO1 := Lib.hid (HO.out.trans O1)
  clear b0 b1 b2 k0 k1 k2 fz HR HO O1
  generalize ((W.setCell ⟨r, 102, none⟩ (.bool s.is)).setCell ⟨r, 103, none⟩ (.int .i64 s.low)).setCell ⟨r, 104, none⟩ (.int .i64 s.high) = W1 at R1 c0 c1 c2 hz1 HO1 ⊢
  have cm := R1.fix.2.1
  have hz2 := BlkW.lt R1
  have HR := Lib.hid R1
  clear R1 hz hzx
  go_wp2_with fail
  refine (span_is m.me hm _).mono ?_
  rintro e w2 ⟨rfl, hb⟩
  have HR2 := Lib.hid (HR.out.below hb)
  have HO2 := Lib.hid (HO1.out.trans (Only.of_below hb))
  have k0 := Only.cell (Only.of_below (r := r) hb) hz1 hrx c0
  have k1 := Only.cell (Only.of_below (r := r) hb) hz1 hrx c1
  have k2 := Only.cell (Only.of_below (r := r) hb) hz1 hrx c2
  have hz3 := Only.lt (Only.of_below (r := r) hb) hz1
  clear hb c0 c1 c2 cm hz1 hz2 HR HO1
  go_upto_region 3 with fail
  have hD := (HR2.out.below (below_alloc (Below.refl _ _) (.cells #[.int .i64 0, .int .i64 0, .int .i64 ((spanAt m.me : Nat) : Int)] 47))).drew
  have hA := BlkW.new w2 47 #[.int .i64 0, .int .i64 0, .int .i64 ((spanAt m.me : Nat) : Int)]
  obtain ⟨a0, a1, a2⟩ : _ ∧ _ ∧ _ := ⟨hA.cell 0, hA.cell 1, hA.cell 2⟩
  simp only [List.getElem?_toArray, List.getElem?_cons_succ, List.getElem?_cons_zero] at a0 a1 a2
  have za := hA.lt
  have hra : w2.heap.size ≠ r := fun e => BlkW.ne_ hA hD (by decide) e
  have d0 := Only.cell (Only.of_below (r := r) (below_alloc (Below.refl w2.heap.size w2) (.cells #[.int .i64 0, .int .i64 0, .int .i64 ((spanAt m.me : Nat) : Int)] 47))) hz3 hrx k0
  have d1 := Only.cell (Only.of_below (r := r) (below_alloc (Below.refl w2.heap.size w2) (.cells #[.int .i64 0, .int .i64 0, .int .i64 ((spanAt m.me : Nat) : Int)] 47))) hz3 hrx k1
  have d2 := Only.cell (Only.of_below (r := r) (below_alloc (Below.refl w2.heap.size w2) (.cells #[.int .i64 0, .int .i64 0, .int .i64 ((spanAt m.me : Nat) : Int)] 47))) hz3 hrx k2
  have HD := Lib.hid hD
  have HO3 := Lib.hid (HO2.out.trans ((Only.of_below (r := r) (below_alloc (Below.refl w2.heap.size w2) (.cells #[.int .i64 0, .int .i64 0, .int .i64 ((spanAt m.me : Nat) : Int)] 47))).trans Only.drew))
  have zg : g < (w2.alloc (.cells #[.int .i64 0, .int .i64 0, .int .i64 ((spanAt m.me : Nat) : Int)] 47)).heap.size := Nat.lt_of_lt_of_le hz3 (by rw [World.size_alloc]; omega)
  clear hD hA k0 k1 k2 hz3 HR2 HO2
  generalize w2.alloc (.cells #[.int .i64 0, .int .i64 0, .int .i64 ((spanAt m.me : Nat) : Int)] 47) = W3 at *
  generalize w2.heap.size = ga at *
  go_region_held3 (fun w' => w'.cell? ⟨ga, 0, none⟩ = some (.int .i64 0) ∧ w'.cell? ⟨ga, 1, none⟩ = some (.int .i64 0) ∧ w'.cell? ⟨ga, 2, none⟩ = some (.int .i64 ((spanAt m.me : Nat) : Int)) ∧ w'.cell? ⟨g, 0, none⟩ = some (.bool s.is) ∧ w'.cell? ⟨g, 1, none⟩ = some (.int .i64 s.low) ∧ w'.cell? ⟨g, 2, none⟩ = some (.int .i64 s.high))
    (first | go_keep | (have q := Only.of_below (r := r) hb; exact ⟨q.cell za hra a0, q.cell za hra a1, q.cell za hra a2, q.cell zg hrx d0, q.cell zg hrx d1, q.cell zg hrx d2⟩) | (have q := Only.trans (Only.of_below (r := r) hb) h2.out; exact ⟨q.cell za hra a0, q.cell za hra a1, q.cell za hra a2, q.cell zg hrx d0, q.cell zg hrx d1, q.cell zg hrx d2⟩))
    (first
    | (go_at_call 155; refine (wordOf_is s.is s.low s.high HS.out _).mono ?_; rintro e w4 ⟨rfl, hb⟩; have HA := Lib.hid (announce_any (HD.out.below hb) ((spanAt m.me : Nat) : Int) ⟨0, 0, s.high, s.low, s.is⟩))
    | (go_at_call 154; refine HA.out.mono ?_; rintro e w5 ⟨rfl, h1, h2⟩))
  all_goals
    go_end0
    have e1 : (setSpan m s).ask ⟨2, 0, 0, ((spanAt m.me : Nat) : Int), zw, ⟨0, 0, s.high, s.low, s.is⟩⟩ 2 = m.saySpan s := by
      unfold Rt.saySpan
      rw [Sp.word_is s HS.out]
      rfl
    rw [e1] at h1
    exact ⟨rfl, h1, Lib.hid (HO3.out.trans ((Only.of_below hb).trans h2.out))⟩
end
end Go.Proofs.YtihjklimcchkhaaGreatDoor

namespace Go.Proofs.YtihjklimcchkhaaGreatDoor
open Go.RowKit Go.Extern.Stop Go.Stop Go.Extern Go.Sort
section
variable {w : World} {r : Nat} {sv fv nv : Value} {m : Rt}
set_option maxRecDepth 100000 in
set_option maxHeartbeats 1000000 in
theorem enter_clock (h : RtAt w r sv fv nv m) (x : Wd × Bool) (hd : m.st.done = 0) (hs : m.saysSpan = true) :
    Calls Tryz.prog 86 #[.pointer (some ⟨r, 0, none⟩), rpv x] w (Leaf w r sv fv nv (m.loadClock 4)) := by
  have h1 := h.below (below_alloc (Below.refl _ _) (.cells #[.int .i64 x.1.slot, .int .i64 x.1.gen, .int .i64 x.1.tag, .int .i64 x.1.num, .bool x.1.mark, .bool x.2] 63))
  have HX := Lib.hid (box_rep w x)
  have HO := Lib.hid (Only.of_below (r := r) (below_alloc (Below.refl w.heap.size w) (.cells #[.int .i64 x.1.slot, .int .i64 x.1.gen, .int .i64 x.1.tag, .int .i64 x.1.num, .bool x.1.mark, .bool x.2] 63)))
  have HR := Lib.hid h1
  clear h h1
  unfold rpv
  go_enter Tryz.func86, Tryz.ntmps86
  go_upto_region 1 with fail
  generalize w.alloc (.cells #[.int .i64 x.1.slot, .int .i64 x.1.gen, .int .i64 x.1.tag, .int .i64 x.1.num, .bool x.1.mark, .bool x.2] 63) = W at HR HX HO ⊢
  have hX := HX.out
  have hzx := BlkW.lt hX
  have hrx : w.heap.size ≠ r := fun e => BlkW.ne_ hX HR.out (by decide) e
  obtain ⟨b0, b1, b2, b3, b4, b5⟩ := rep6 hX
  have hz := BlkW.lt HR.out
  have cd := HR.out.done
  have ce := HR.out.fix.1
  clear hX HX
  generalize w.heap.size = g at hzx hrx b0 b1 b2 b3 b4 b5 ⊢
  rw [hd] at cd
  clear hd
  go_wp2_with fail
  refine (saysSpan_any HR.out).mono ?_
  rintro e w1 ⟨rfl, rfl⟩
  rw [hs]
  go_wp2_with fail
  refine (loadClock_any HR.out 4).mono ?_
  rintro e w3 ⟨rfl, h1, h2⟩
  go_wp2
  first
    | go_end0
    | refine bodyPost_ret (results_none rfl _ _ _) rfl ?_
  exact ⟨rfl, h1, Lib.hid (HO.out.trans h2.out)⟩
set_option maxRecDepth 100000 in
set_option maxHeartbeats 1000000 in
theorem enter_say (h : RtAt w r sv fv nv m) (x : Wd × Bool) (hd : m.st.done = 4) (hm : m.me < 6) (hs : (⟨true, x.1.num, x.1.num⟩ : Sp).fine) :
    Calls Tryz.prog 86 #[.pointer (some ⟨r, 0, none⟩), rpv x] w (Leaf w r sv fv nv (m.saySpan ⟨true, x.1.num, x.1.num⟩)) := by
  have h1 := h.below (below_alloc (Below.refl _ _) (.cells #[.int .i64 x.1.slot, .int .i64 x.1.gen, .int .i64 x.1.tag, .int .i64 x.1.num, .bool x.1.mark, .bool x.2] 63))
  have HX := Lib.hid (box_rep w x)
  have HO := Lib.hid (Only.of_below (r := r) (below_alloc (Below.refl w.heap.size w) (.cells #[.int .i64 x.1.slot, .int .i64 x.1.gen, .int .i64 x.1.tag, .int .i64 x.1.num, .bool x.1.mark, .bool x.2] 63)))
  have HR := Lib.hid h1
  clear h h1
  unfold rpv
  go_enter Tryz.func86, Tryz.ntmps86
  go_upto_region 1 with fail
  generalize w.alloc (.cells #[.int .i64 x.1.slot, .int .i64 x.1.gen, .int .i64 x.1.tag, .int .i64 x.1.num, .bool x.1.mark, .bool x.2] 63) = W at HR HX HO ⊢
  have hX := HX.out
  have hzx := BlkW.lt hX
  have hrx : w.heap.size ≠ r := fun e => BlkW.ne_ hX HR.out (by decide) e
  obtain ⟨b0, b1, b2, b3, b4, b5⟩ := rep6 hX
  have hz := BlkW.lt HR.out
  have cd := HR.out.done
  have ce := HR.out.fix.1
  clear hX HX
  generalize w.heap.size = g at hzx hrx b0 b1 b2 b3 b4 b5 ⊢
  rw [hd] at cd
  clear hd
  go_wp2_with fail
  refine (saySpan_any HR.out hm ⟨true, x.1.num, x.1.num⟩ hs).mono ?_
  rintro e w3 ⟨rfl, h1, h2⟩
  go_wp2
  first
    | go_end0
    | refine bodyPost_ret (results_none rfl _ _ _) rfl ?_
  exact ⟨rfl, h1, Lib.hid (HO.out.trans h2.out)⟩
set_option maxRecDepth 100000 in
set_option maxHeartbeats 1000000 in
theorem enter_end (h : RtAt w r sv fv nv m) (x : Wd × Bool) (hd : m.st.done = 2) :
    Calls Tryz.prog 86 #[.pointer (some ⟨r, 0, none⟩), rpv x] w (Leaf w r nilS nilS nv m.ok) := by
  have h1 := h.below (below_alloc (Below.refl _ _) (.cells #[.int .i64 x.1.slot, .int .i64 x.1.gen, .int .i64 x.1.tag, .int .i64 x.1.num, .bool x.1.mark, .bool x.2] 63))
  have HX := Lib.hid (box_rep w x)
  have HO := Lib.hid (Only.of_below (r := r) (below_alloc (Below.refl w.heap.size w) (.cells #[.int .i64 x.1.slot, .int .i64 x.1.gen, .int .i64 x.1.tag, .int .i64 x.1.num, .bool x.1.mark, .bool x.2] 63)))
  have HR := Lib.hid h1
  clear h h1
  unfold rpv
  go_enter Tryz.func86, Tryz.ntmps86
  go_upto_region 1 with fail
  generalize w.alloc (.cells #[.int .i64 x.1.slot, .int .i64 x.1.gen, .int .i64 x.1.tag, .int .i64 x.1.num, .bool x.1.mark, .bool x.2] 63) = W at HR HX HO ⊢
  have hX := HX.out
  have hzx := BlkW.lt hX
  have hrx : w.heap.size ≠ r := fun e => BlkW.ne_ hX HR.out (by decide) e
  obtain ⟨b0, b1, b2, b3, b4, b5⟩ := rep6 hX
  have hz := BlkW.lt HR.out
  have cd := HR.out.done
  have ce := HR.out.fix.1
  clear hX HX
  generalize w.heap.size = g at hzx hrx b0 b1 b2 b3 b4 b5 ⊢
  rw [hd] at cd
  clear hd
  go_wp2_with fail
  refine (succeed_any HR.out).mono ?_
  rintro e w3 ⟨rfl, h1, h2⟩
  go_wp2
  first
    | go_end0
    | refine bodyPost_ret (results_none rfl _ _ _) rfl ?_
  exact ⟨rfl, h1, Lib.hid (HO.out.trans h2.out)⟩
set_option maxRecDepth 100000 in
set_option maxHeartbeats 1000000 in
theorem leave_span (h : RtAt w r sv fv nv m) (hm : m.me < 6) (hf : firstKept m.kept 0 9 = none) (hs : m.span ≠ zs) :
    Calls Tryz.prog 87 #[.pointer (some ⟨r, 0, none⟩)] w (Leaf w r sv fv nv (m.saySpan zs)) := by
  have HR := Lib.hid h
  have HF := Lib.hid hf
  have C := Lib.hid (Sv.idxW 116 #[] nz w _ (keptL m.kept) h.keptRow (Nat.le_of_ble_eq_true rfl) (tells_nz w))
  have k1 := sHeld
  have k2 := sGuard
  have k3 := sp_ne
  have e1 : spB m.span.is m.span.low m.span.high false 0 0 = false := by
    have := spB_iff m.span zs
    rw [decide_eq_false hs] at this
    exact this
  clear h hf hs
  go_enter Tryz.func87, Tryz.ntmps87
  go_wp2_with fail
  refine C.out.mono ?_
  rintro e w1 ⟨i, rfl, hi, hj, hb⟩
  have HB := Lib.hid hb.out
  have hi0 : ¬ (0 : Int) ≤ i := fun h0 => by
    obtain ⟨j, hlt, e1, e2, e3⟩ := hj h0
    have := fk_some _ j hlt e2 e3
    rw [HF.out] at this
    cases this.1
  have HR1 := Lib.hid (HR.out.below HB.out)
  obtain ⟨s0, s1, s2⟩ := HR1.out.span3
  clear hi hj hb C HR
  go_wp2_with fail
  refine (saySpan_any HR1.out hm zs Sp.fine_zs).mono ?_
  rintro e w3 ⟨rfl, h1, h2⟩
  go_wp2
  first
    | go_end0
    | refine bodyPost_ret (results_none rfl _ _ _) rfl ?_
  exact ⟨rfl, h1, Lib.hid ((Only.of_below HB.out).trans h2.out)⟩
set_option maxRecDepth 100000 in
set_option maxHeartbeats 1000000 in
theorem keep_else (h : RtAt w r sv fv nv m) (he : m.eng = 1 ∨ m.eng = 4) (n : Nat) (hi : m.st.call.i = (n : Int)) (now : Int) :
    Calls Tryz.prog 122 #[.pointer (some ⟨r, 0, none⟩), .int .i64 now] w (Leaf w r nilS nilS nv (m.end_ (m.st.seen, true))) := by
  have HR := Lib.hid h
  have ce := h.fix.1
  have ci := h.callI.1
  obtain ⟨s0, s1, s2, s3, s4⟩ := h.seen5
  have hz := BlkW.lt h
  rw [hi] at ci
  clear h hi
  rcases he with he | he
  all_goals
    rw [he] at ce
    clear he
    go_enter Tryz.func122, Tryz.ntmps122
  all_goals
    have HA := Lib.hid (end_any HR.out.drew (m.st.seen, true))
    go_upto_region 12 with fail
    go_region_with (first | (go_at_call 118; refine HA.out.mono ?_; rintro e w3 ⟨rfl, h1, h2⟩))
    all_goals
      go_wp2
      first
        | go_end0
        | refine bodyPost_ret (results_none rfl _ _ _) rfl ?_
      exact ⟨rfl, h1, Lib.hid (Only.drew.trans h2.out)⟩
set_option maxRecDepth 100000 in
set_option maxHeartbeats 1000000 in
theorem keep_eras_same (h : RtAt w r sv fv nv m) (n : Nat) (hn : n < 9) (hi : m.st.call.i = (n : Int)) (now : Int) (he : m.eng = 3) (h1 : m.kept n ≠ zw) (h2 : (m.kept n).num = now) :
    Calls Tryz.prog 122 #[.pointer (some ⟨r, 0, none⟩), .int .i64 now] w (Leaf w r nilS nilS nv (m.end_ (m.st.seen, true))) := by
  have HR := Lib.hid h
  have ce := h.fix.1
  have ci := h.callI.1
  obtain ⟨s0, s1, s2, s3, s4⟩ := h.seen5
  have hz := BlkW.lt h
  rw [hi] at ci
  rw [he] at ce
  have hi1 : (0 : Int) ≤ (n : Int) := by omega
  have hi2 : (n : Int) < 9 := by omega
  obtain ⟨q0, q1, q2, q3, q4⟩ := h.keep9 hn
  have k1 := noHeld
  have k2 := noGuard
  have k3 := eq23
  have eb := eqB_iff (m.kept n) zw
  rw [decide_eq_false h1] at eb
  unfold zw at eb
  dsimp only at eb
  have h2b : ((m.kept n).num != now) = false := by simp [h2]
  clear h1 h2 he
  clear h hi
  go_enter Tryz.func122, Tryz.ntmps122
  go_upto_region 12 with fail
  all_goals
    have HA := Lib.hid (end_any HR.out.drew (m.st.seen, true))
    go_region_with (first | (go_at_call 118; refine HA.out.mono ?_; rintro e w3 ⟨rfl, h1, h2⟩))
    all_goals
      go_wp2
      first
        | go_end0
        | refine bodyPost_ret (results_none rfl _ _ _) rfl ?_
      exact ⟨rfl, h1, Lib.hid (Only.drew.trans h2.out)⟩
set_option maxRecDepth 100000 in
set_option maxHeartbeats 1000000 in
theorem keep_eras_say (h : RtAt w r sv fv nv m) (n : Nat) (hn : n < 9) (hi : m.st.call.i = (n : Int)) (now : Int) (he : m.eng = 3) (hm : m.me < 6) (h1 : m.kept n ≠ zw) (h2 : (m.kept n).num ≠ now) :
    Calls Tryz.prog 122 #[.pointer (some ⟨r, 0, none⟩), .int .i64 now] w (Leaf w r sv fv nv (m.say n (nw now))) := by
  have HR := Lib.hid h
  have ce := h.fix.1
  have ci := h.callI.1
  obtain ⟨s0, s1, s2, s3, s4⟩ := h.seen5
  have hz := BlkW.lt h
  rw [hi] at ci
  rw [he] at ce
  have hi1 : (0 : Int) ≤ (n : Int) := by omega
  have hi2 : (n : Int) < 9 := by omega
  obtain ⟨q0, q1, q2, q3, q4⟩ := h.keep9 hn
  have k1 := noHeld
  have k2 := noGuard
  have k3 := eq23
  have eb := eqB_iff (m.kept n) zw
  rw [decide_eq_false h1] at eb
  unfold zw at eb
  dsimp only at eb
  have h2b : ((m.kept n).num != now) = true := by simp [h2]
  clear h1 h2 he
  clear h hi
  go_enter Tryz.func122, Tryz.ntmps122
  go_wp2_with fail
  refine (Num_is now _).mono ?_
  rintro e w1 ⟨rfl, hb⟩
  have HR1 := Lib.hid (HR.out.below hb)
  have HO1 := Lib.hid (Only.of_below (r := r) hb)
  go_wp2_with fail
  refine (say_any HR1.out hm n hn (nw now)).mono ?_
  rintro e w3 ⟨rfl, h1, h2⟩
  go_wp2
  first
    | go_end0
    | refine bodyPost_ret (results_none rfl _ _ _) rfl ?_
  exact ⟨rfl, h1, Lib.hid (HO1.out.trans h2.out)⟩
set_option maxRecDepth 100000 in
set_option maxHeartbeats 1000000 in
theorem keep_eras_first (h : RtAt w r sv fv nv m) (n : Nat) (hn : n < 9) (hi : m.st.call.i = (n : Int)) (now : Int) (he : m.eng = 3) (hm : m.me < 6) (h1 : m.kept n = zw) :
    Calls Tryz.prog 122 #[.pointer (some ⟨r, 0, none⟩), .int .i64 now] w (Leaf w r sv fv nv (m.say n (nw now))) := by
  have HR := Lib.hid h
  have ce := h.fix.1
  have ci := h.callI.1
  obtain ⟨s0, s1, s2, s3, s4⟩ := h.seen5
  have hz := BlkW.lt h
  rw [hi] at ci
  rw [he] at ce
  have hi1 : (0 : Int) ≤ (n : Int) := by omega
  have hi2 : (n : Int) < 9 := by omega
  obtain ⟨q0, q1, q2, q3, q4⟩ := h.keep9 hn
  have k1 := noHeld
  have k2 := noGuard
  have k3 := eq23
  have eb := eqB_iff (m.kept n) zw
  rw [decide_eq_true h1] at eb
  unfold zw at eb
  dsimp only at eb
  clear h1 he
  clear h hi
  go_enter Tryz.func122, Tryz.ntmps122
  go_wp2_with fail
  refine (Num_is now _).mono ?_
  rintro e w1 ⟨rfl, hb⟩
  have HR1 := Lib.hid (HR.out.below hb)
  have HO1 := Lib.hid (Only.of_below (r := r) hb)
  go_wp2_with fail
  refine (say_any HR1.out hm n hn (nw now)).mono ?_
  rintro e w3 ⟨rfl, h1, h2⟩
  go_wp2
  first
    | go_end0
    | refine bodyPost_ret (results_none rfl _ _ _) rfl ?_
  exact ⟨rfl, h1, Lib.hid (HO1.out.trans h2.out)⟩
set_option maxRecDepth 100000 in
set_option maxHeartbeats 1000000 in
theorem upTo_is (l h now : Int) (w : World) : Calls Tryz.prog 156 #[.agg #[.bool true, .int .i64 l, .int .i64 h], .int .i64 now] w fun e w' => e = .returned (.agg #[.bool true, .int .i64 l, .int .i64 now]) ∧ Below w.heap.size w w' := by
  go_enter Tryz.func156, Tryz.ntmps156
  go_wp2
  exact bodyPost_ret (v := .agg #[.bool true, .int .i64 l, .int .i64 now]) (by simp [results, Tryz.results156, go_sem]) rfl ⟨rfl, below_alloc (below_alloc (Below.refl _ _) _) _⟩
set_option maxRecDepth 100000 in
set_option maxHeartbeats 1000000 in
theorem keep_int_same (h : RtAt w r sv fv nv m) (n : Nat) (hn : n < 9) (hi : m.st.call.i = (n : Int)) (now : Int) (he : m.eng = 5) (h1 : m.span.is = true) (h2 : m.span.high = now) :
    Calls Tryz.prog 122 #[.pointer (some ⟨r, 0, none⟩), .int .i64 now] w (Leaf w r nilS nilS nv (m.end_ (m.st.seen, true))) := by
  have HR := Lib.hid h
  have ce := h.fix.1
  have ci := h.callI.1
  obtain ⟨s0, s1, s2, s3, s4⟩ := h.seen5
  have hz := BlkW.lt h
  rw [hi] at ci
  rw [he] at ce
  have hi1 : (0 : Int) ≤ (n : Int) := by omega
  have hi2 : (n : Int) < 9 := by omega
  obtain ⟨q0, q1, q2⟩ := h.span3
  have h2b : (m.span.high != now) = false := by simp [h2]
  rw [h1] at q0
  clear h1 h2 he
  clear h hi
  go_enter Tryz.func122, Tryz.ntmps122
  go_upto_region 12 with fail
  all_goals
    have HA := Lib.hid (end_any HR.out.drew (m.st.seen, true))
    go_region_with (first | (go_at_call 118; refine HA.out.mono ?_; rintro e w3 ⟨rfl, h1, h2⟩))
    all_goals
      go_wp2
      first
        | go_end0
        | refine bodyPost_ret (results_none rfl _ _ _) rfl ?_
      exact ⟨rfl, h1, Lib.hid (Only.drew.trans h2.out)⟩
set_option maxRecDepth 100000 in
set_option maxHeartbeats 1000000 in
theorem keep_int_say (h : RtAt w r sv fv nv m) (n : Nat) (hn : n < 9) (hi : m.st.call.i = (n : Int)) (now : Int) (he : m.eng = 5) (hm : m.me < 6) (h1 : m.span.is = true) (h2 : m.span.high ≠ now) (hs : (⟨true, m.span.low, now⟩ : Sp).fine) :
    Calls Tryz.prog 122 #[.pointer (some ⟨r, 0, none⟩), .int .i64 now] w (Leaf w r sv fv nv (m.saySpan ⟨true, m.span.low, now⟩)) := by
  have HR := Lib.hid h
  have ce := h.fix.1
  have ci := h.callI.1
  obtain ⟨s0, s1, s2, s3, s4⟩ := h.seen5
  have hz := BlkW.lt h
  rw [hi] at ci
  rw [he] at ce
  have hi1 : (0 : Int) ≤ (n : Int) := by omega
  have hi2 : (n : Int) < 9 := by omega
  obtain ⟨q0, q1, q2⟩ := h.span3
  have h2b : (m.span.high != now) = true := by simp [h2]
  rw [h1] at q0
  have HS := Lib.hid hs
  clear h1 h2 he hs
  clear h hi
  go_enter Tryz.func122, Tryz.ntmps122
  go_wp2_with fail
  refine (upTo_is m.span.low m.span.high now _).mono ?_
  rintro e w1 ⟨rfl, hb⟩
  have HR1 := Lib.hid (HR.out.below hb)
  have HO1 := Lib.hid (Only.of_below (r := r) hb)
  go_wp2_with fail
  refine (saySpan_any HR1.out hm ⟨true, m.span.low, now⟩ HS.out).mono ?_
  rintro e w3 ⟨rfl, h1, h2⟩
  go_wp2
  first
    | go_end0
    | refine bodyPost_ret (results_none rfl _ _ _) rfl ?_
  exact ⟨rfl, h1, Lib.hid (HO1.out.trans h2.out)⟩
end
end Go.Proofs.YtihjklimcchkhaaGreatDoor

namespace Go.Proofs.YtihjklimcchkhaaGreatDoor
open Go.RowKit Go.Extern.Stop Go.Stop Go.Extern Go.Sort
section
variable {w : World} {r : Nat} {sv fv nv : Value} {m : Rt}
theorem Count_is (d : Wd) (h1 : wrap64 (d.tag + 1) = d.tag + 1) (h2 : wrap64 (d.num + 1) = d.num + 1) (w : World) :
    Calls Tryz.prog 157 #[.agg #[.int .i64 d.slot, .int .i64 d.gen, .int .i64 d.tag, .int .i64 d.num, .bool d.mark], .int .i64 1] w fun e w' => e = .returned (.agg #[.int .i64 0, .int .i64 0, .int .i64 (d.tag + 1), .int .i64 (d.num + 1), .bool false]) ∧ Below w.heap.size w w' := by
  have := Count_any d.slot d.gen d.tag d.num d.mark 1 w
  rw [h1, h2] at this
  exact this
theorem clock5_ask {a : Ac} {d : Int} (h : RtAt w r sv fv nv (m.ask a d)) : w.cell? ⟨r, 45, none⟩ = some (.int .i64 m.st.clock.slot) ∧ w.cell? ⟨r, 46, none⟩ = some (.int .i64 m.st.clock.gen) ∧ w.cell? ⟨r, 47, none⟩ = some (.int .i64 m.st.clock.tag) ∧ w.cell? ⟨r, 48, none⟩ = some (.int .i64 m.st.clock.num) ∧ w.cell? ⟨r, 49, none⟩ = some (.bool m.st.clock.mark) := h.clock5
theorem Era_is (w : World) : Calls Tryz.prog 48 #[] w fun e w' => e = .returned (.agg #[.int .i64 0, .int .i64 0, .int .i64 24]) ∧ Below w.heap.size w w' := Bd.Era_any w
set_option maxRecDepth 100000 in
set_option maxHeartbeats 1000000 in
theorem turn_any (h : RtAt w r sv fv nv m) (h1 : wrap64 (m.st.clock.tag + 1) = m.st.clock.tag + 1) (h2 : wrap64 (m.st.clock.num + 1) = m.st.clock.num + 1) :
    Calls Tryz.prog 124 #[.pointer (some ⟨r, 0, none⟩)] w (Leaf w r sv fv nv m.turn) := by
  have HR := Lib.hid h.drew
  obtain ⟨q0, q1, q2, q3, q4⟩ := h.drew.clock5
  have p := h.clock5
  have hz := BlkW.lt h.drew
  have HC := Lib.hid (Count_is m.st.clock h1 h2)
  clear h h1 h2
  go_enter Tryz.func124, Tryz.ntmps124
  go_upto_region 0 with fail
  go_region_held3 (fun w' => w'.cell? ⟨r, 45, none⟩ = some (.int .i64 m.st.clock.slot) ∧ w'.cell? ⟨r, 46, none⟩ = some (.int .i64 m.st.clock.gen) ∧ w'.cell? ⟨r, 47, none⟩ = some (.int .i64 m.st.clock.tag) ∧ w'.cell? ⟨r, 48, none⟩ = some (.int .i64 m.st.clock.num) ∧ w'.cell? ⟨r, 49, none⟩ = some (.bool m.st.clock.mark))
    (first | go_keep | exact clock5_ask g1.out | exact ((HR.out.below hb2).below hb3).clock5 | exact (HR.out.below hb2).clock5)
    (first
    | (go_at_call 48; refine (Era_is _).mono ?_; rintro e w2 ⟨rfl, hb2⟩)
    | (go_at_call 157; refine (HC.out _).mono ?_; rintro e w3 ⟨rfl, hb3⟩; have HA := Lib.hid (ask_any ((HR.out.below hb2).below hb3) ⟨3, 0, 0, 24, m.st.clock, m.st.clock.count 1⟩ 5))
    | (go_at_call 119; refine HA.out.mono ?_; rintro e w4 ⟨rfl, g1, g2⟩))
  all_goals
    first
      | go_end0
      | refine bodyPost_ret (results_none rfl _ _ _) rfl ?_
    exact ⟨rfl, g1, Lib.hid (Only.drew.trans ((Only.of_below hb2).trans ((Only.of_below hb3).trans g2.out)))⟩
theorem infoInt : (Tryz.prog.info? 3).map (fun i => (i.zero, i.size, i.bytes)) = some (some (.int .i64 0), 1, 8) := by kernel_rfl
def NumRel (W : World) (xs : List Wd) (va vi : Value) (wr : World) : Prop :=
  ∃ k : Nat, k ≤ xs.length ∧ vi = .int .i64 (k : Int) ∧ wr.ownsRow W.heap.size 3 1 va k (Sv.flat Sv.ic ((xs.map fun d => d.num).take k)) ∧ Below W.heap.size W wr
set_option maxRecDepth 100000 in
set_option maxHeartbeats 1000000 in
theorem nums_is (v : Value) (xs : List Wd) (W : World) (hv : Sv.RowC Sv.wc 5 W v xs) (hl : xs.length ≤ 200) :
    Calls Tryz.prog 164 #[v] W fun e w' => ∃ u, e = .returned u ∧ Hid (Sv.RowC Sv.ic 1 w' u (xs.map fun d => d.num)) ∧ Hid (Below W.heap.size W w') := by
  have HV := Lib.hid hv
  obtain ⟨ao, cp, rfl⟩ := hv.slice
  obtain ⟨i0, hi0, hz0, hz01, hz02⟩ := info_parts infoInt
  have HL := Lib.hid hl
  have hl2 : (xs.length : Int) ≤ 200 := by omega
  clear hv hl
  go_enter Tryz.func164, Tryz.ntmps164
  go_wp2
  go_loopw [3, 8] (fun va vi wr => NumRel W xs va vi wr) (fun _ vi _ => xs.length - (intOf vi).toNat)
  case atStart => exact ⟨0, Nat.zero_le _, rfl, World.ownsRow_nil W _ _ _, Below.refl _ _⟩
  case round =>
    obtain ⟨k, hkl, rfl, hoa, hbel⟩ := hrel
    obtain ⟨wo, rfl⟩ : ∃ wo : World, wo = wr := ⟨_, rfl⟩
    have HB := Lib.hid hbel
    have OA := Lib.hid hoa
    clear hbel hoa
    by_cases hlt : k < xs.length
    · rcases HV.out with ⟨_, e⟩ | ⟨b, off, cap', e, hbx, hcap, hcell⟩
      · subst e; exact absurd hlt (Nat.not_lt_zero _)
      · injection e with e1 e2 e3
        subst e1
        have hc := Sv.rangeAt_block (hcell k hlt) (HB.out.block b hbx)
        obtain ⟨d, hd⟩ : ∃ d, d = xs[k] := ⟨_, rfl⟩
        have HT := Lib.hid (show (xs.map fun d => d.num).take (k + 1) = (xs.map fun d => d.num).take k ++ [d.num] by rw [List.take_succ_eq_append_getElem (by rw [List.length_map]; exact hlt), List.getElem_map, hd])
        rw [← hd] at hc
        obtain ⟨q0, q1, q2, q3, q4⟩ := Sv.wc_cells hc
        clear hc hcell hd e2 e3
        have j1 : (k : Int) < xs.length := by omega
        have hsz := HB.out.size
        go_wp2_with (at_builtin; refine wpList_append_own_at _ rfl _ _ 23 rfl W.heap.size 3 i0 (.int .i64 0) 1 8 Tryz.underlying23 hi0 hz0 hz01 hz02 rfl (by decide) u3 _ _ (by rfl) ((OA.out.alloc _).alloc _) ⟨wo.heap.size + 1, 0, none⟩ 1 1 [.int .i64 d.num] (by rfl) rfl ?c1 ?c2 ?c3 ?c4 ?c5 ?_)
        case c1 =>
          have := cell_one_new (wo.alloc (.cells #[.int .i64 d.slot, .int .i64 d.gen, .int .i64 d.tag, .int .i64 d.num, .bool d.mark] 34)) (.int .i64 d.num) 3
          rw [World.size_alloc] at this
          exact this
        case c2 => intro u hu; simp at hu; subst hu; rfl
        case c3 => simp [maxLen]; omega
        case c4 => have := HL.out; omega
        case c5 => simp only [World.size_alloc]; omega
        intro v' w6 hown' hgrow _ _
        have O6 := Lib.hid (show w6.ownsRow W.heap.size 3 1 v' (k + 1) (Sv.flat Sv.ic ((xs.map fun d => d.num).take (k + 1))) from by
          rw [HT.out, Sv.flat_snoc]
          exact hown')
        have B6 := Lib.hid ((below_alloc (below_alloc HB.out (.cells #[.int .i64 d.slot, .int .i64 d.gen, .int .i64 d.tag, .int .i64 d.num, .bool d.mark] 34)) (.cells #[.int .i64 d.num] 3)).grown hgrow (by simp only [World.size_alloc]; omega) (fun q e => (OA.out.lt q e).1))
        clear hown' hgrow OA HB q0 q1 q2 q3 q4
        go_wp2
        refine ⟨⟨k + 1, by omega, by go_num, O6.out, B6.out⟩, by simp [intOf]; omega⟩
    · obtain rfl : k = xs.length := by omega
      have hfin : Hid (Sv.RowC Sv.ic 1 wo u3 (xs.map fun d => d.num)) := Lib.hid (by
        have := OA.out
        rw [List.take_of_length_le (by rw [List.length_map]; exact Nat.le_refl _)] at this
        exact Sv.own_row (c := Sv.ic) (k := 1) (xs := (xs.map fun d => d.num)) (fun _ => rfl) (by rw [List.length_map]; exact this))
      go_wp2
      go_ret
      exact ⟨_, rfl, hfin, HB⟩
theorem infoSpan : (Tryz.prog.info? 124).map (fun i => (i.zero, i.size, i.bytes)) = some (some (.agg #[.bool false, .int .i64 0, .int .i64 0]), 3, 24) := by kernel_rfl
def SpnRel (W : World) (xs : List Wd) (va vi : Value) (wr : World) : Prop :=
  ∃ k : Nat, k ≤ xs.length ∧ vi = .int .i64 (k : Int) ∧ wr.ownsRow W.heap.size 124 3 va k (Sv.flat Sv.sc ((xs.map Wd.hear).take k)) ∧ Below W.heap.size W wr
theorem Hear_is (d : Wd) (w : World) : Calls Tryz.prog 161 #[.agg #[.int .i64 d.slot, .int .i64 d.gen, .int .i64 d.tag, .int .i64 d.num, .bool d.mark]] w fun e w' => e = .returned (.agg #[.bool d.hear.is, .int .i64 d.hear.low, .int .i64 d.hear.high]) ∧ Below w.heap.size w w' := by
  have := Bd.Hear_any d.slot d.gen d.tag d.num d.mark w
  unfold Wd.hear
  cases hm : d.mark with
  | true => rw [hm] at this; exact this
  | false => rw [hm] at this; exact this
set_option maxRecDepth 100000 in
set_option maxHeartbeats 1000000 in
theorem spans_is (v : Value) (xs : List Wd) (W : World) (hv : Sv.RowC Sv.wc 5 W v xs) (hl : xs.length ≤ 200) :
    Calls Tryz.prog 127 #[v] W fun e w' => ∃ u, e = .returned u ∧ Hid (Sv.RowC Sv.sc 3 w' u (xs.map Wd.hear)) ∧ Hid (Below W.heap.size W w') := by
  have HV := Lib.hid hv
  obtain ⟨ao, cp, rfl⟩ := hv.slice
  obtain ⟨i0, hi0, hz0, hz01, hz02⟩ := info_parts infoSpan
  have HL := Lib.hid hl
  have hl2 : (xs.length : Int) ≤ 200 := by omega
  clear hv hl
  go_enter Tryz.func127, Tryz.ntmps127
  go_wp2
  go_loopw [3, 8] (fun va vi wr => SpnRel W xs va vi wr) (fun _ vi _ => xs.length - (intOf vi).toNat)
  case atStart => exact ⟨0, Nat.zero_le _, rfl, World.ownsRow_nil W _ _ _, Below.refl _ _⟩
  case round =>
    obtain ⟨k, hkl, rfl, hoa, hbel⟩ := hrel
    obtain ⟨wo, rfl⟩ : ∃ wo : World, wo = wr := ⟨_, rfl⟩
    have HB := Lib.hid hbel
    have OA := Lib.hid hoa
    clear hbel hoa
    by_cases hlt : k < xs.length
    · rcases HV.out with ⟨_, e⟩ | ⟨b, off, cap', e, hbx, hcap, hcell⟩
      · subst e; exact absurd hlt (Nat.not_lt_zero _)
      · injection e with e1 e2 e3
        subst e1
        have hc := Sv.rangeAt_block (hcell k hlt) (HB.out.block b hbx)
        obtain ⟨d, hd⟩ : ∃ d, d = xs[k] := ⟨_, rfl⟩
        have HT := Lib.hid (show (xs.map Wd.hear).take (k + 1) = (xs.map Wd.hear).take k ++ [d.hear] by rw [List.take_succ_eq_append_getElem (by rw [List.length_map]; exact hlt), List.getElem_map, hd])
        rw [← hd] at hc
        obtain ⟨q0, q1, q2, q3, q4⟩ := Sv.wc_cells hc
        clear hc hcell hd e2 e3
        have j1 : (k : Int) < xs.length := by omega
        have hsz := HB.out.size
        go_wp2_with fail
        refine (Hear_is d _).mono ?_
        rintro e w1 ⟨rfl, hb⟩
        have B1 := Lib.hid (below_trans (below_alloc HB.out (.cells #[.int .i64 d.slot, .int .i64 d.gen, .int .i64 d.tag, .int .i64 d.num, .bool d.mark] 34)) hb)
        have OA1 := Lib.hid (Sv.own_block (OA.out.alloc (.cells #[.int .i64 d.slot, .int .i64 d.gen, .int .i64 d.tag, .int .i64 d.num, .bool d.mark] 34)) (fun g e => hb.block g ((OA.out.alloc _).lt g e).2))
        have hsz1 := B1.out.size
        obtain ⟨sp, hsp⟩ : ∃ sp, sp = d.hear := ⟨_, rfl⟩
        rw [← hsp] at HT ⊢
        clear hsp OA HB hb
        go_wp2_with (at_builtin; refine wpList_append_own_at _ rfl _ _ 201 rfl W.heap.size 124 i0 _ 3 24 Tryz.underlying201 hi0 hz0 hz01 hz02 rfl (by decide) u3 _ _ (by rfl) (OA1.out.alloc _) ⟨w1.heap.size, 0, none⟩ 1 1 [.bool sp.is, .int .i64 sp.low, .int .i64 sp.high] (by rfl) rfl ?c1 ?c2 ?c3 ?c4 ?c5 ?_)
        case c1 =>
          intro j u h
          rw [Addr.add_mid, Nat.zero_add, (BlkW.new w1 124 _).cell j]
          simpa using h
        case c2 => intro u hu; simp at hu; rcases hu with rfl | rfl | rfl <;> rfl
        case c3 => simp [maxLen]; omega
        case c4 => have := HL.out; omega
        case c5 => rw [World.size_alloc]; omega
        intro v' w6 hown' hgrow _ _
        have O6 := Lib.hid (show w6.ownsRow W.heap.size 124 3 v' (k + 1) (Sv.flat Sv.sc ((xs.map Wd.hear).take (k + 1))) from by
          rw [HT.out, Sv.flat_snoc]
          exact hown')
        have B6 := Lib.hid ((below_alloc B1.out (.cells #[.bool sp.is, .int .i64 sp.low, .int .i64 sp.high] 124)).grown hgrow (by rw [World.size_alloc]; omega) (fun q e => (OA1.out.lt q e).1))
        clear hown' hgrow OA1 B1 q0 q1 q2 q3 q4
        go_wp2
        refine ⟨⟨k + 1, by omega, by go_num, O6.out, B6.out⟩, by simp [intOf]; omega⟩
    · obtain rfl : k = xs.length := by omega
      have hfin : Hid (Sv.RowC Sv.sc 3 wo u3 (xs.map Wd.hear)) := Lib.hid (by
        have := OA.out
        rw [List.take_of_length_le (by rw [List.length_map]; exact Nat.le_refl _)] at this
        exact Sv.own_row (c := Sv.sc) (k := 3) (xs := (xs.map Wd.hear)) (fun _ => rfl) (by rw [List.length_map]; exact this))
      go_wp2
      go_ret
      exact ⟨_, rfl, hfin, HB⟩
end
end Go.Proofs.YtihjklimcchkhaaGreatDoor

namespace Go.Proofs.YtihjklimcchkhaaGreatDoor
open Go.RowKit Go.Extern.Stop Go.Stop Go.Extern Go.Sort
section
variable {w w' : World} {B r : Nat} {sv fv nv : Value} {m : Rt} {K : Nat → Prop}
theorem keepsE (he : m.eng = 3) (now : Int) : m.keeps now = Sv.eraP (m.st.said.map fun d => d.num) := by
  funext n
  unfold Rt.keeps Sv.eraP
  rw [if_neg (by rw [he]; decide), if_pos he, List.any_map]
  congr 1
  funext d
  show eraK d.num n = Sv.eraK d.num n
  unfold eraK Sv.eraK
  simp [Bool.and_assoc]
theorem keepsI (he : m.eng = 5) (now : Int) : m.keeps now = Sv.spanP (m.st.said.map Wd.hear) := by
  funext n
  unfold Rt.keeps Sv.spanP
  rw [if_neg (by rw [he]; decide), if_neg (by rw [he]; decide), if_neg (by rw [he]; decide), if_pos he, List.any_map]
  congr 1
  funext d
  show spanK d.hear n = Sv.spanK d.hear n
  unfold spanK Sv.spanK
  simp [Bool.and_assoc]
theorem keepsP (he : m.eng = 4) (now : Int) (hn : 0 ≤ now ∧ now ≤ 1000000000000000) : m.keeps now = Sv.epochK now := by
  funext n
  unfold Rt.keeps
  rw [if_neg (by rw [he]; decide), if_neg (by rw [he]; decide), if_pos he]
  unfold epochK Sv.epochK
  rw [decide_eq_false (by omega : ¬ now < -9223372036854775806), IntWalk.wrap64_in _ ⟨by omega, by omega⟩]
  rfl
set_option maxRecDepth 100000 in
set_option maxHeartbeats 2000000 in
theorem loose_eras (h : RiteP w B r sv fv nv m K) (he : m.eng = 3) (hl : m.notes.length ≤ 200) (hk : m.st.said.length ≤ 200) (now : Int) :
    Calls Tryz.prog 128 #[.pointer (some ⟨r, 0, none⟩), .int .i64 now] w fun e w' => ∃ a, e = .returned a ∧ Hid (Sv.OwnN w' w.heap.size a (m.loose now)) ∧ Hid (Below w.heap.size w w') := by
  have HP := Lib.hid h
  have c53 := h.at_.fix.1
  rw [he] at c53
  have c50 := h.at_.rows.1
  have c105 := h.at_.n105
  have hz := BlkW.lt h.at_
  have HN := Lib.hid (Sv.own_row Sv.nc_len (show w.drew.ownsRow B 74 7 nv m.notes.length (Sv.flat Sv.nc m.notes) from h.notes))
  have HNU := Lib.hid (nums_is sv m.st.said w.drew (Sv.own_row Sv.wc_len (show w.drew.ownsRow B 34 5 sv m.st.said.length (Sv.flat Sv.wc m.st.said) from h.said)) hk)
  have HE := Lib.hid (keepsE he now)
  clear h
  go_enter Tryz.func128, Tryz.ntmps128
  go_upto_region 6 with fail
  go_region_held3 (fun w' => w'.cell? ⟨r, 50, none⟩ = some sv ∧ w'.cell? ⟨r, 105, none⟩ = some nv)
    (first | go_keep | (have hq := hb2.out; have hq2 := hb.out; exact ⟨keep_cell hq2 (keep_cell hq c50), keep_cell hq2 (keep_cell hq c105)⟩) | (have hq := hb2.out; exact ⟨keep_cell hq c50, keep_cell hq c105⟩))
    (first
    | (go_at_call 164; refine HNU.out.mono ?_; rintro e w2 ⟨u, rfl, hu, hb2⟩; have HC := Lib.hid (Sv.Eras_any nv u m.notes (m.st.said.map fun d => d.num) w2 (HN.out.keep hb2.out) hu.out hl (by rw [List.length_map]; exact hk)))
    | (go_at_call 163; refine HC.out.mono ?_; rintro e w3 ⟨a, b, rfl, ra, rb, hb⟩))
  all_goals
    obtain ⟨aa, ca, ea⟩ := Sv.own_slice ra.out
    subst ea
    go_wp2
    go_ret
    refine ⟨_, rfl, Lib.hid ?_, Lib.hid ((show Below w.heap.size w w.drew from (Below.refl _ _).drew).trans (below_trans (W := w.drew) hb2.out hb.out))⟩
    unfold Rt.loose
    rw [HE.out]
    exact Sv.own_low ra.out hb2.out.size
set_option maxRecDepth 100000 in
set_option maxHeartbeats 2000000 in
theorem loose_int (h : RiteP w B r sv fv nv m K) (he : m.eng = 5) (hl : m.notes.length ≤ 200) (hk : m.st.said.length ≤ 200) (now : Int) :
    Calls Tryz.prog 128 #[.pointer (some ⟨r, 0, none⟩), .int .i64 now] w fun e w' => ∃ a, e = .returned a ∧ Hid (Sv.OwnN w' w.heap.size a (m.loose now)) ∧ Hid (Below w.heap.size w w') := by
  have HP := Lib.hid h
  have c53 := h.at_.fix.1
  rw [he] at c53
  have c50 := h.at_.rows.1
  have c105 := h.at_.n105
  have hz := BlkW.lt h.at_
  have HN := Lib.hid (Sv.own_row Sv.nc_len (show w.drew.ownsRow B 74 7 nv m.notes.length (Sv.flat Sv.nc m.notes) from h.notes))
  have HNU := Lib.hid (spans_is sv m.st.said w.drew (Sv.own_row Sv.wc_len (show w.drew.ownsRow B 34 5 sv m.st.said.length (Sv.flat Sv.wc m.st.said) from h.said)) hk)
  have HE := Lib.hid (keepsI he now)
  clear h
  go_enter Tryz.func128, Tryz.ntmps128
  go_upto_region 10 with fail
  go_region_held3 (fun w' => w'.cell? ⟨r, 50, none⟩ = some sv ∧ w'.cell? ⟨r, 105, none⟩ = some nv)
    (first | go_keep | (have hq := hb2.out; have hq2 := hb.out; exact ⟨keep_cell hq2 (keep_cell hq c50), keep_cell hq2 (keep_cell hq c105)⟩) | (have hq := hb2.out; exact ⟨keep_cell hq c50, keep_cell hq c105⟩))
    (first
    | (go_at_call 127; refine HNU.out.mono ?_; rintro e w2 ⟨u, rfl, hu, hb2⟩; have HC := Lib.hid (Sv.Spans_any nv u m.notes (m.st.said.map Wd.hear) w2 (HN.out.keep hb2.out) hu.out hl (by rw [List.length_map]; exact hk)))
    | (go_at_call 166; refine HC.out.mono ?_; rintro e w3 ⟨a, b, rfl, ra, rb, hb⟩))
  all_goals
    obtain ⟨aa, ca, ea⟩ := Sv.own_slice ra.out
    subst ea
    go_wp2
    go_ret
    refine ⟨_, rfl, Lib.hid ?_, Lib.hid ((show Below w.heap.size w w.drew from (Below.refl _ _).drew).trans (below_trans (W := w.drew) hb2.out hb.out))⟩
    unfold Rt.loose
    rw [HE.out]
    exact Sv.own_low ra.out hb2.out.size
set_option maxRecDepth 100000 in
set_option maxHeartbeats 2000000 in
theorem loose_epochs (h : RiteP w B r sv fv nv m K) (he : m.eng = 4) (hl : m.notes.length ≤ 200) (now : Int) (hn : 0 ≤ now ∧ now ≤ 1000000000000000) :
    Calls Tryz.prog 128 #[.pointer (some ⟨r, 0, none⟩), .int .i64 now] w fun e w' => ∃ a, e = .returned a ∧ Hid (Sv.OwnN w' w.heap.size a (m.loose now)) ∧ Hid (Below w.heap.size w w') := by
  have HP := Lib.hid h
  have c53 := h.at_.fix.1
  rw [he] at c53
  have c105 := h.at_.n105
  have hz := BlkW.lt h.at_
  have HC := Lib.hid (Sv.Epochs_any nv now m.notes w (Sv.own_row Sv.nc_len h.notes) hl)
  have HE := Lib.hid (keepsP he now hn)
  clear h hn
  go_enter Tryz.func128, Tryz.ntmps128
  go_wp2_with fail
  refine HC.out.mono ?_
  rintro e w3 ⟨a, b, rfl, ra, rb, hb⟩
  obtain ⟨aa, ca, ea⟩ := Sv.own_slice ra.out
  subst ea
  go_wp2
  go_ret
  refine ⟨_, rfl, ?_, hb⟩
  unfold Rt.loose
  rw [HE.out]
  exact ra
end
end Go.Proofs.YtihjklimcchkhaaGreatDoor
