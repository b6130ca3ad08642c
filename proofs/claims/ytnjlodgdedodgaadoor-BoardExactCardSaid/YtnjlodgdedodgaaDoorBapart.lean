/- The walk of BoardApart. A template (fill.py). -/
import Derived.Test.YtnjlodgdedodgaaDoorBonce
import Derived.ChangeKeysEq
namespace Go.Proofs.YtnjlodgdedodgaaDoor
open Go.RowKit Go.Extern.Stop Go.Stop Go.Extern Go.Sort

/-! ### an array's == -/
def ar (a b c : Int) : Value := .agg #[.int .i64 a, .int .i64 b, .int .i64 c]
theorem rT : Tryd.prog.underlying 43 = some (.array 3 3) := by kernel_rfl
theorem rHeld : Tryd.prog.stoodInHeld 43 = false := by kernel_rfl
theorem rGuard : Tryd.prog.eqGuardType Tryd.prog.depth 43 = false := by kernel_rfl
theorem rC : Tryd.prog.cellsOf 3 = 1 := by kernel_rfl
theorem arEqIn (a b c a' b' c' : Int) (w : World) : (Op.equalIn 10000 43 (.agg #[.int .i64 a, .int .i64 b, .int .i64 c]) (.agg #[.int .i64 a', .int .i64 b', .int .i64 c'])).run Tryd.prog w = .ok (adB a b c a' b' c') w := by
  have hi : ∃ i, Tryd.prog.info? 3 = some i := by
    have h : (Tryd.prog.info? 3).isSome = true := by kernel_rfl
    exact Option.isSome_iff_exists.1 h
  obtain ⟨i, hi⟩ := hi
  rw [run_equalIn_array _ _ _ _ rT hi, rC]
  have e1 : ∀ (x y : Int) (w : World), (Op.equalIn 9999 3 (.int .i64 x) (.int .i64 y)).run Tryd.prog w = .ok (x == y) w := fun x y w => run_equalIn_int w 9998 3 .i64 .i64 x y Tryd.underlying3
  have e2 : List.range 3 = [0, 1, 2] := rfl
  rw [e2]
  simp only [Op.eqItems]
  simp [go_sem, e1]
  unfold adB
  (repeat' split) <;> simp_all
theorem ar_eq (a b c a' b' c' : Int) (w : World) : (binOp .eql 43 (.agg #[.int .i64 a, .int .i64 b, .int .i64 c]) (.agg #[.int .i64 a', .int .i64 b', .int .i64 c'])).run Tryd.prog w = .ok (.bool (adB a b c a' b' c')) w := by
  rw [run_eql_struct, arEqIn]; rfl

theorem Keep_no (t n : Int) (h : ¬ ((0 ≤ t ∧ t < 6) ∧ (0 ≤ n ∧ n < 9))) (a : Addr) (w : World) (L : HasArg w a) : Calls Tryd.prog 10 #[.int .i64 t, .int .i64 n] w (No a w) := by
  by_cases ht : 0 ≤ t ∧ t < 6
  · exact Keep_no2 t n ⟨ht, fun hn => h ⟨ht, hn⟩⟩ a w L
  · exact Keep_no1 t n ht a w L
/-! ### things and their places, as plain data -/
def pl (k t n : Int) : Option Int :=
  if k = 0 then (if 0 ≤ n ∧ n < 24 then some n else none)
  else if k = 1 then (if (0 ≤ t ∧ t < 6) ∧ (0 ≤ n ∧ n < 9) then some (25 + t * 9 + n) else none)
  else if k = 2 then (if 0 ≤ t ∧ t < 6 then some (79 + t) else none) else some 24
def nm (k t n : Int) : Int × Int × Int := if k = 0 then (0, 0, n) else if k = 1 then (1, t, n) else if k = 2 then (2, t, 0) else (3, 0, 0)
theorem pl_nm {k t n k' t' n' f f' : Int} (h : pl k t n = some f) (h' : pl k' t' n' = some f') : f = f' ↔ nm k t n = nm k' t' n' := by
  unfold pl at h h'
  unfold nm
  (repeat' split at h) <;> (repeat' split at h') <;> simp_all <;> omega

/-- Where a thing is, or an error. -/
def PlQ (o : Option Int) (w : World) (e : Ending) (w' : World) : Prop :=
  match o with
  | some f => Yes f w e w'
  | none => ∃ T x, e = .returned (.tuple #[ad 0 0 0, .iface T x]) ∧ Below w.heap.size w w'
theorem mod_u (n : Int) (m : Int) (hm : 0 < m ∧ m < 1000) : ∃ f : Int, 0 ≤ f ∧ f < m ∧ (IntKind.u64.wrap n).tmod m = f := by
  have h0 : 0 ≤ IntKind.u64.wrap n := by
    have e1 : ((2 : Int) ^ IntKind.u64.bits) = 18446744073709551616 := by decide
    unfold IntKind.wrap
    simp only [e1]
    have : IntKind.u64.signed = false := rfl
    simp only [this]
    simp
    omega
  exact ⟨_, Int.tmod_nonneg _ h0, Int.tmod_lt_of_pos _ hm.1, rfl⟩
/-- A new box of three cells amid others, behind a call that lays blocks. -/
theorem box3' {w W w1 : World} {g : Nat} {t : TypeId} {v0 v1 v2 : Value} (h : BlkW W g t #[v0, v1, v2]) (hg : w.heap.size ≤ g) (hW : Below w.heap.size w W) (hb : Below W.heap.size W w1) :
    (w1.cell? ⟨g, 0, none⟩ = some v0 ∧ w1.cell? ⟨g, 1, none⟩ = some v1 ∧ w1.cell? ⟨g, 2, none⟩ = some v2) ∧
    (w1.frozen? ⟨g, 0, none⟩ = false ∧ w1.frozen? ⟨g, 1, none⟩ = false ∧ w1.frozen? ⟨g, 2, none⟩ = false) ∧ g < w1.heap.size ∧
    ∀ u0 u1 u2, Below w.heap.size w (((w1.setCell ⟨g, 0, none⟩ u0).setCell ⟨g, 1, none⟩ u1).setCell ⟨g, 2, none⟩ u2) :=
  have k : BlkW w1 g t #[v0, v1, v2] := h.below hb
  ⟨⟨k.cell 0, k.cell 1, k.cell 2⟩, ⟨k.frozen 0, k.frozen 1, k.frozen 2⟩, k.lt, fun _ _ _ => below_set (below_set (below_set (below_trans hW hb) _ _ _ hg) _ _ _ hg) _ _ _ hg⟩
theorem name_0 (a0 a1 a2 : Int) (h : (IntKind.u64.wrap a0).tmod 4 = 0) (w : World) : Calls Tryd.prog 22 #[ar a0 a1 a2] w fun e w' => e = .returned (ar 0 0 a2) ∧ Below w.heap.size w w' := by
  unfold ar
  go_enter Tryd.func22, Tryd.ntmps22
  go_wp2
  exact bodyPost_ret (v := ar 0 0 a2) (by simp [ar, results, Tryd.results22, go_sem]) rfl ⟨rfl, below_alloc (below_alloc (Below.refl _ _) _) _⟩
theorem name_1 (a0 a1 a2 : Int) (h : (IntKind.u64.wrap a0).tmod 4 = 1) (w : World) : Calls Tryd.prog 22 #[ar a0 a1 a2] w fun e w' => e = .returned (ar 1 a1 a2) ∧ Below w.heap.size w w' := by
  unfold ar
  go_enter Tryd.func22, Tryd.ntmps22
  go_wp2
  exact bodyPost_ret (v := ar 1 a1 a2) (by simp [ar, results, Tryd.results22, go_sem]) rfl ⟨rfl, below_alloc (below_alloc (Below.refl _ _) _) _⟩
theorem name_2 (a0 a1 a2 : Int) (h : (IntKind.u64.wrap a0).tmod 4 = 2) (w : World) : Calls Tryd.prog 22 #[ar a0 a1 a2] w fun e w' => e = .returned (ar 2 a1 0) ∧ Below w.heap.size w w' := by
  unfold ar
  go_enter Tryd.func22, Tryd.ntmps22
  go_wp2
  exact bodyPost_ret (v := ar 2 a1 0) (by simp [ar, results, Tryd.results22, go_sem]) rfl ⟨rfl, below_alloc (below_alloc (Below.refl _ _) _) _⟩
theorem name_3 (a0 a1 a2 : Int) (h : (IntKind.u64.wrap a0).tmod 4 = 3) (w : World) : Calls Tryd.prog 22 #[ar a0 a1 a2] w fun e w' => e = .returned (ar 3 0 0) ∧ Below w.heap.size w w' := by
  unfold ar
  go_enter Tryd.func22, Tryd.ntmps22
  go_wp2
  exact bodyPost_ret (v := ar 3 0 0) (by simp [ar, results, Tryd.results22, go_sem]) rfl ⟨rfl, below_alloc (below_alloc (Below.refl _ _) _) _⟩
theorem place_0yes (a0 a1 a2 : Int) (h : (IntKind.u64.wrap a0).tmod 4 = 0) (hh : 0 ≤ a2 ∧ a2 < 24) (w : World) : Calls Tryd.prog 21 #[ar a0 a1 a2] w (PlQ (some (a2)) w) := by
  have HH := Lib.hid hh
  clear hh
  unfold ar PlQ
  obtain ⟨-, X2⟩ := blk2 w #[.int .i64 a0, .int .i64 a1, .int .i64 a2] #[.int .i64 0, .int .i64 0, .int .i64 0] 43 23
  have HX := Lib.hid X2
  clear X2
  have HB := Lib.hid (below_alloc (below_alloc (Below.refl w.heap.size w) (.cells #[.int .i64 a0, .int .i64 a1, .int .i64 a2] 43)) (.cells #[.int .i64 0, .int .i64 0, .int .i64 0] 23))
  go_enter Tryd.func21, Tryd.ntmps21
  go_wp2_with fail
  refine (Root_yes a2 HH.out _).mono ?_
  rintro e w1 ⟨rfl, hb⟩
  obtain ⟨⟨c0, c1, c2⟩, ⟨f0, f1, f2⟩, hz, hB⟩ := box3' HX.out (Nat.le_succ _) HB.out hb
  have HE := Lib.hid hB
  clear hB hb HX HB
  unfold ad
  go_wp2
  exact bodyPost_ret (v := .tuple #[ad 0 0 (a2), .nilIface]) (by simp [ad, results, Tryd.results21, go_sem, c0, c1, c2]) rfl ⟨rfl, HE.out _ _ _⟩
theorem place_0no (a0 a1 a2 : Int) (h : (IntKind.u64.wrap a0).tmod 4 = 0) (hh : ¬ (0 ≤ a2 ∧ a2 < 24)) (w : World) (a : Addr) (L : HasArg w a) : Calls Tryd.prog 21 #[ar a0 a1 a2] w (PlQ none w) := by
  have HL := Lib.hid L
  clear L
  have HH := Lib.hid hh
  clear hh
  unfold ar PlQ
  obtain ⟨-, X2⟩ := blk2 w #[.int .i64 a0, .int .i64 a1, .int .i64 a2] #[.int .i64 0, .int .i64 0, .int .i64 0] 43 23
  have HX := Lib.hid X2
  clear X2
  have HB := Lib.hid (below_alloc (below_alloc (Below.refl w.heap.size w) (.cells #[.int .i64 a0, .int .i64 a1, .int .i64 a2] 43)) (.cells #[.int .i64 0, .int .i64 0, .int .i64 0] 23))
  go_enter Tryd.func21, Tryd.ntmps21
  go_wp2_with fail
  refine (Root_no a2 HH.out a _ (cell_keep HL.out HB.out)).mono ?_
  rintro e w1 ⟨u, rfl, hc, hb⟩
  obtain ⟨T, x, rfl⟩ := hc.shape
  obtain ⟨⟨c0, c1, c2⟩, ⟨f0, f1, f2⟩, hz, hB⟩ := box3' HX.out (Nat.le_succ _) HB.out hb
  have HE := Lib.hid hB
  clear hB hb HX HB hc
  unfold ad
  go_wp2
  exact bodyPost_ret (v := .tuple #[ad 0 0 0, .iface T x]) (by simp [ad, results, Tryd.results21, go_sem, c0, c1, c2]) rfl ⟨T, x, rfl, HE.out _ _ _⟩
theorem place_1yes (a0 a1 a2 : Int) (h : (IntKind.u64.wrap a0).tmod 4 = 1) (hh : (0 ≤ a1 ∧ a1 < 6) ∧ (0 ≤ a2 ∧ a2 < 9)) (w : World) : Calls Tryd.prog 21 #[ar a0 a1 a2] w (PlQ (some (25 + a1 * 9 + a2)) w) := by
  have HH := Lib.hid hh
  clear hh
  unfold ar PlQ
  obtain ⟨-, X2⟩ := blk2 w #[.int .i64 a0, .int .i64 a1, .int .i64 a2] #[.int .i64 0, .int .i64 0, .int .i64 0] 43 23
  have HX := Lib.hid X2
  clear X2
  have HB := Lib.hid (below_alloc (below_alloc (Below.refl w.heap.size w) (.cells #[.int .i64 a0, .int .i64 a1, .int .i64 a2] 43)) (.cells #[.int .i64 0, .int .i64 0, .int .i64 0] 23))
  go_enter Tryd.func21, Tryd.ntmps21
  go_wp2_with fail
  refine (Keep_yes a1 a2 HH.out _).mono ?_
  rintro e w1 ⟨rfl, hb⟩
  obtain ⟨⟨c0, c1, c2⟩, ⟨f0, f1, f2⟩, hz, hB⟩ := box3' HX.out (Nat.le_succ _) HB.out hb
  have HE := Lib.hid hB
  clear hB hb HX HB
  unfold ad
  go_wp2
  exact bodyPost_ret (v := .tuple #[ad 0 0 (25 + a1 * 9 + a2), .nilIface]) (by simp [ad, results, Tryd.results21, go_sem, c0, c1, c2]) rfl ⟨rfl, HE.out _ _ _⟩
theorem place_1no (a0 a1 a2 : Int) (h : (IntKind.u64.wrap a0).tmod 4 = 1) (hh : ¬ ((0 ≤ a1 ∧ a1 < 6) ∧ (0 ≤ a2 ∧ a2 < 9))) (w : World) (a : Addr) (L : HasArg w a) : Calls Tryd.prog 21 #[ar a0 a1 a2] w (PlQ none w) := by
  have HL := Lib.hid L
  clear L
  have HH := Lib.hid hh
  clear hh
  unfold ar PlQ
  obtain ⟨-, X2⟩ := blk2 w #[.int .i64 a0, .int .i64 a1, .int .i64 a2] #[.int .i64 0, .int .i64 0, .int .i64 0] 43 23
  have HX := Lib.hid X2
  clear X2
  have HB := Lib.hid (below_alloc (below_alloc (Below.refl w.heap.size w) (.cells #[.int .i64 a0, .int .i64 a1, .int .i64 a2] 43)) (.cells #[.int .i64 0, .int .i64 0, .int .i64 0] 23))
  go_enter Tryd.func21, Tryd.ntmps21
  go_wp2_with fail
  refine (Keep_no a1 a2 HH.out a _ (cell_keep HL.out HB.out)).mono ?_
  rintro e w1 ⟨u, rfl, hc, hb⟩
  obtain ⟨T, x, rfl⟩ := hc.shape
  obtain ⟨⟨c0, c1, c2⟩, ⟨f0, f1, f2⟩, hz, hB⟩ := box3' HX.out (Nat.le_succ _) HB.out hb
  have HE := Lib.hid hB
  clear hB hb HX HB hc
  unfold ad
  go_wp2
  exact bodyPost_ret (v := .tuple #[ad 0 0 0, .iface T x]) (by simp [ad, results, Tryd.results21, go_sem, c0, c1, c2]) rfl ⟨T, x, rfl, HE.out _ _ _⟩
theorem place_2yes (a0 a1 a2 : Int) (h : (IntKind.u64.wrap a0).tmod 4 = 2) (hh : 0 ≤ a1 ∧ a1 < 6) (w : World) : Calls Tryd.prog 21 #[ar a0 a1 a2] w (PlQ (some (79 + a1)) w) := by
  have HH := Lib.hid hh
  clear hh
  unfold ar PlQ
  obtain ⟨-, X2⟩ := blk2 w #[.int .i64 a0, .int .i64 a1, .int .i64 a2] #[.int .i64 0, .int .i64 0, .int .i64 0] 43 23
  have HX := Lib.hid X2
  clear X2
  have HB := Lib.hid (below_alloc (below_alloc (Below.refl w.heap.size w) (.cells #[.int .i64 a0, .int .i64 a1, .int .i64 a2] 43)) (.cells #[.int .i64 0, .int .i64 0, .int .i64 0] 23))
  go_enter Tryd.func21, Tryd.ntmps21
  go_wp2_with fail
  refine (Span_yes a1 HH.out _).mono ?_
  rintro e w1 ⟨rfl, hb⟩
  obtain ⟨⟨c0, c1, c2⟩, ⟨f0, f1, f2⟩, hz, hB⟩ := box3' HX.out (Nat.le_succ _) HB.out hb
  have HE := Lib.hid hB
  clear hB hb HX HB
  unfold ad
  go_wp2
  exact bodyPost_ret (v := .tuple #[ad 0 0 (79 + a1), .nilIface]) (by simp [ad, results, Tryd.results21, go_sem, c0, c1, c2]) rfl ⟨rfl, HE.out _ _ _⟩
theorem place_2no (a0 a1 a2 : Int) (h : (IntKind.u64.wrap a0).tmod 4 = 2) (hh : ¬ (0 ≤ a1 ∧ a1 < 6)) (w : World) (a : Addr) (L : HasArg w a) : Calls Tryd.prog 21 #[ar a0 a1 a2] w (PlQ none w) := by
  have HL := Lib.hid L
  clear L
  have HH := Lib.hid hh
  clear hh
  unfold ar PlQ
  obtain ⟨-, X2⟩ := blk2 w #[.int .i64 a0, .int .i64 a1, .int .i64 a2] #[.int .i64 0, .int .i64 0, .int .i64 0] 43 23
  have HX := Lib.hid X2
  clear X2
  have HB := Lib.hid (below_alloc (below_alloc (Below.refl w.heap.size w) (.cells #[.int .i64 a0, .int .i64 a1, .int .i64 a2] 43)) (.cells #[.int .i64 0, .int .i64 0, .int .i64 0] 23))
  go_enter Tryd.func21, Tryd.ntmps21
  go_wp2_with fail
  refine (Span_no a1 HH.out a _ (cell_keep HL.out HB.out)).mono ?_
  rintro e w1 ⟨u, rfl, hc, hb⟩
  obtain ⟨T, x, rfl⟩ := hc.shape
  obtain ⟨⟨c0, c1, c2⟩, ⟨f0, f1, f2⟩, hz, hB⟩ := box3' HX.out (Nat.le_succ _) HB.out hb
  have HE := Lib.hid hB
  clear hB hb HX HB hc
  unfold ad
  go_wp2
  exact bodyPost_ret (v := .tuple #[ad 0 0 0, .iface T x]) (by simp [ad, results, Tryd.results21, go_sem, c0, c1, c2]) rfl ⟨T, x, rfl, HE.out _ _ _⟩
theorem place_3yes (a0 a1 a2 : Int) (h : (IntKind.u64.wrap a0).tmod 4 = 3) (w : World) : Calls Tryd.prog 21 #[ar a0 a1 a2] w (PlQ (some (24)) w) := by
  unfold ar PlQ
  obtain ⟨-, X2⟩ := blk2 w #[.int .i64 a0, .int .i64 a1, .int .i64 a2] #[.int .i64 0, .int .i64 0, .int .i64 0] 43 23
  have HX := Lib.hid X2
  clear X2
  have HB := Lib.hid (below_alloc (below_alloc (Below.refl w.heap.size w) (.cells #[.int .i64 a0, .int .i64 a1, .int .i64 a2] 43)) (.cells #[.int .i64 0, .int .i64 0, .int .i64 0] 23))
  go_enter Tryd.func21, Tryd.ntmps21
  go_wp2_with fail
  refine (Era_any _).mono ?_
  rintro e w1 ⟨rfl, hb⟩
  obtain ⟨⟨c0, c1, c2⟩, ⟨f0, f1, f2⟩, hz, hB⟩ := box3' HX.out (Nat.le_succ _) HB.out hb
  have HE := Lib.hid hB
  clear hB hb HX HB
  unfold ad
  go_wp2
  exact bodyPost_ret (v := .tuple #[ad 0 0 (24), .nilIface]) (by simp [ad, results, Tryd.results21, go_sem, c0, c1, c2]) rfl ⟨rfl, HE.out _ _ _⟩
theorem place_any (k a0 a1 a2 : Int) (hk : 0 ≤ k ∧ k < 4) (h : (IntKind.u64.wrap a0).tmod 4 = k) (a : Addr) (w : World) (L : HasArg w a) : Calls Tryd.prog 21 #[ar a0 a1 a2] w (PlQ (pl k a1 a2) w) := by
  have hk4 : k = 0 ∨ k = 1 ∨ k = 2 ∨ k = 3 := by omega
  rcases hk4 with rfl | rfl | rfl | rfl
  · by_cases hh : 0 ≤ a2 ∧ a2 < 24
    · have e : pl 0 a1 a2 = some a2 := by simp [pl, hh]
      rw [e]; exact place_0yes a0 a1 a2 h hh w
    · have e : pl 0 a1 a2 = none := by simp [pl]; omega
      rw [e]; exact place_0no a0 a1 a2 h hh w a L
  · by_cases hh : (0 ≤ a1 ∧ a1 < 6) ∧ (0 ≤ a2 ∧ a2 < 9)
    · have e : pl 1 a1 a2 = some (25 + a1 * 9 + a2) := by simp [pl, hh]
      rw [e]; exact place_1yes a0 a1 a2 h hh w
    · have e : pl 1 a1 a2 = none := by simp [pl]; omega
      rw [e]; exact place_1no a0 a1 a2 h hh w a L
  · by_cases hh : 0 ≤ a1 ∧ a1 < 6
    · have e : pl 2 a1 a2 = some (79 + a1) := by simp [pl, hh]
      rw [e]; exact place_2yes a0 a1 a2 h hh w
    · have e : pl 2 a1 a2 = none := by simp [pl]; omega
      rw [e]; exact place_2no a0 a1 a2 h hh w a L
  · have e : pl 3 a1 a2 = some 24 := by simp [pl]
    rw [e]; exact place_3yes a0 a1 a2 h w
theorem name_any (k a0 a1 a2 : Int) (hk : 0 ≤ k ∧ k < 4) (h : (IntKind.u64.wrap a0).tmod 4 = k) (w : World) : Calls Tryd.prog 22 #[ar a0 a1 a2] w fun e w' => e = .returned (ar (nm k a1 a2).1 (nm k a1 a2).2.1 (nm k a1 a2).2.2) ∧ Below w.heap.size w w' := by
  have hk4 : k = 0 ∨ k = 1 ∨ k = 2 ∨ k = 3 := by omega
  rcases hk4 with rfl | rfl | rfl | rfl
  · exact name_0 a0 a1 a2 h w
  · exact name_1 a0 a1 a2 h w
  · exact name_2 a0 a1 a2 h w
  · exact name_3 a0 a1 a2 h w

theorem name_re {W : World} {k a0 a1 a2 x y z : Int} (hk : 0 ≤ k ∧ k < 4) (h : (IntKind.u64.wrap a0).tmod 4 = k) (e : nm k a1 a2 = (x, y, z)) (d : Nat) (os : Array Obj) :
    Calls Tryd.prog 22 #[ar a0 a1 a2] (grow (redrawn W d) os) fun e w'' => e = .returned (ar x y z) ∧ ∃ p : Regrown, w'' = grow (redrawn W p.d) p.os :=
  Calls.regrown_of ((name_any k a0 a1 a2 hk h _).mono fun e' w' ⟨he, hb⟩ => ⟨by rw [he, e], hb⟩)

set_option maxRecDepth 100000 in
set_option maxHeartbeats 1000000 in
theorem apart_any (a0 a1 a2 b0 b1 b2 : Int) (a : Addr) (w : World) (L : HasArg w a) : Calls Tryd.prog 5 #[ar a0 a1 a2, ar b0 b1 b2] w (True1 w) := by
  have HL := Lib.hid L
  clear L
  obtain ⟨k, k0, k1, hk⟩ := mod_u a0 4 (by decide)
  obtain ⟨l, l0, l1, hl⟩ := mod_u b0 4 (by decide)
  have HP := Lib.hid (fun W L => place_any k a0 a1 a2 ⟨k0, k1⟩ hk a W L)
  have HQ := Lib.hid (fun W L => place_any l b0 b1 b2 ⟨l0, l1⟩ hl a W L)
  obtain ⟨x, hx⟩ : ∃ x, pl k a1 a2 = x := ⟨_, rfl⟩
  obtain ⟨y, hy⟩ : ∃ y, pl l b1 b2 = y := ⟨_, rfl⟩
  rw [hx] at HP
  rw [hy] at HQ
  have KK := Lib.hid (And.intro k0 k1)
  have KL := Lib.hid (And.intro l0 l1)
  have HK := Lib.hid hk
  have HLL := Lib.hid hl
  have HXY := Lib.hid (And.intro hx hy)
  clear k0 k1 l0 l1 hk hl hx hy
  obtain ⟨X1, X2⟩ := blk2 w #[.int .i64 a0, .int .i64 a1, .int .i64 a2] #[.int .i64 b0, .int .i64 b1, .int .i64 b2] 43 43
  have HB := Lib.hid (below_alloc (below_alloc (Below.refl w.heap.size w) (.cells #[.int .i64 a0, .int .i64 a1, .int .i64 a2] 43)) (.cells #[.int .i64 b0, .int .i64 b1, .int .i64 b2] 43))
  have HX1 := Lib.hid X1
  have HX2 := Lib.hid X2
  clear X1 X2
  unfold ar at HP HQ ⊢
  go_enter Tryd.func5, Tryd.ntmps5
  go_wp2_with fail
  refine (awake_true a _ (cell_keep HL.out HB.out)).mono ?_
  rintro e w1 ⟨rfl, hb⟩
  have HX1 := Lib.hid (HX1.out.below hb)
  have HX2 := Lib.hid (HX2.out.below hb)
  have HB := Lib.hid (below_trans HB.out hb)
  clear hb
  obtain ⟨c0, c1, c2⟩ : _ ∧ _ ∧ _ := ⟨HX1.out.cell 0, HX1.out.cell 1, HX1.out.cell 2⟩
  simp only [List.getElem?_toArray, List.getElem?_cons_succ, List.getElem?_cons_zero] at c0 c1 c2
  have z1 := HX1.out.lt
  go_wp2_with fail
  refine (HP.out _ (cell_keep HL.out HB.out)).mono ?_
  rintro e w2 hq
  clear c0 c1 c2 z1 HP
  cases x with
  | none =>
    obtain ⟨T, u, rfl, hb⟩ := hq
    have HX2 := HX2.out.below (below_alloc hb (.cells #[.int .i64 0, .int .i64 0, .int .i64 0] 23))
    have HB := Lib.hid (below_trans HB.out (below_alloc hb (.cells #[.int .i64 0, .int .i64 0, .int .i64 0] 23)))
    clear hb HX1
    obtain ⟨c0, c1, c2⟩ : _ ∧ _ ∧ _ := ⟨HX2.cell 0, HX2.cell 1, HX2.cell 2⟩
    simp only [List.getElem?_toArray, List.getElem?_cons_succ, List.getElem?_cons_zero] at c0 c1 c2
    have z1 := HX2.lt
    clear HX2
    unfold ad
    go_wp2_with fail
    refine (HQ.out _ (cell_keep HL.out HB.out)).mono ?_
    rintro e w3 hq
    clear c0 c1 c2 z1 HQ
    cases y with
    | none =>
      obtain ⟨T', u', rfl, hb⟩ := hq
      have HB := Lib.hid (below_alloc (below_trans HB.out hb) (.cells #[.int .i64 0, .int .i64 0, .int .i64 0] 23))
      clear hb
      unfold ad
      go_wp2
      go_ret
      exact ⟨rfl, HB.out⟩
    | some g =>
      obtain ⟨rfl, hb⟩ := hq
      have HB := Lib.hid (below_alloc (below_trans HB.out hb) (.cells #[.int .i64 0, .int .i64 0, .int .i64 g] 23))
      clear hb
      unfold ad
      go_wp2
      go_ret
      exact ⟨rfl, HB.out⟩
  | some f =>
    obtain ⟨rfl, hb⟩ := hq
    have HX1 := Lib.hid (HX1.out.below (below_alloc hb (.cells #[.int .i64 0, .int .i64 0, .int .i64 f] 23)))
    have HX2 := Lib.hid (HX2.out.below (below_alloc hb (.cells #[.int .i64 0, .int .i64 0, .int .i64 f] 23)))
    have HX3 := Lib.hid (BlkW.new w2 23 #[.int .i64 0, .int .i64 0, .int .i64 f])
    have HB := Lib.hid (below_trans HB.out (below_alloc hb (.cells #[.int .i64 0, .int .i64 0, .int .i64 f] 23)))
    clear hb
    obtain ⟨c0, c1, c2⟩ : _ ∧ _ ∧ _ := ⟨HX2.out.cell 0, HX2.out.cell 1, HX2.out.cell 2⟩
    simp only [List.getElem?_toArray, List.getElem?_cons_succ, List.getElem?_cons_zero] at c0 c1 c2
    have z1 := HX2.out.lt
    unfold ad
    go_wp2_with fail
    refine (HQ.out _ (cell_keep HL.out HB.out)).mono ?_
    rintro e w3 hq
    clear c0 c1 c2 z1 HQ
    cases y with
    | none =>
      obtain ⟨T', u', rfl, hb⟩ := hq
      have HB := Lib.hid (below_alloc (below_trans HB.out hb) (.cells #[.int .i64 0, .int .i64 0, .int .i64 0] 23))
      clear hb HX1 HX2 HX3
      unfold ad
      go_wp2
      go_ret
      exact ⟨rfl, HB.out⟩
    | some g =>
      obtain ⟨rfl, hb⟩ := hq
      have HX1 := Lib.hid (HX1.out.below (below_alloc hb (.cells #[.int .i64 0, .int .i64 0, .int .i64 g] 23)))
      have HX2 := Lib.hid (HX2.out.below (below_alloc hb (.cells #[.int .i64 0, .int .i64 0, .int .i64 g] 23)))
      have HX3 := Lib.hid (HX3.out.below (below_alloc hb (.cells #[.int .i64 0, .int .i64 0, .int .i64 g] 23)))
      have HX4 := Lib.hid (BlkW.new w3 23 #[.int .i64 0, .int .i64 0, .int .i64 g])
      have HB := Lib.hid (below_trans HB.out (below_alloc hb (.cells #[.int .i64 0, .int .i64 0, .int .i64 g] 23)))
      clear hb
      unfold ad
      generalize w2.heap.size = n2 at HX3 ⊢
      go_wp2_with fail
      generalize w3.heap.size = n3 at HX4 ⊢
      generalize w3.alloc (.cells #[.int .i64 0, .int .i64 0, .int .i64 g] 23) = W at HX1 HX2 HX3 HX4 HB ⊢
      obtain ⟨m0, m1, m2, hm⟩ : ∃ m0 m1 m2, nm k a1 a2 = (m0, m1, m2) := ⟨_, _, _, rfl⟩
      obtain ⟨n0, n1, n2', hn⟩ : ∃ n0 n1 n2, nm l b1 b2 = (n0, n1, n2) := ⟨_, _, _, rfl⟩
      have he := pl_nm HXY.out.1 HXY.out.2
      rw [hm, hn] at he
      have HN1 := Lib.hid (fun d os => name_re (W := W) KK.out HK.out hm d os)
      have HN2 := Lib.hid (fun d os => name_re (W := W) KL.out HLL.out hn d os)
      unfold ar at HN1 HN2
      obtain ⟨p, hp⟩ : ∃ p, adB 0 0 f 0 0 g = p := ⟨_, rfl⟩
      have hp2 : adB m0 m1 m2 n0 n1 n2' = p := by
        rw [← hp, Bool.eq_iff_iff]
        simp only [adB, Bool.and_eq_true, beq_iff_eq, true_and, and_true]
        rw [he]
        simp [and_assoc]
      have q1 : ∀ w, (binOp .eql 23 (.agg #[.int .i64 0, .int .i64 0, .int .i64 f]) (.agg #[.int .i64 0, .int .i64 0, .int .i64 g])).run Tryd.prog w = .ok (.bool p) w := fun w => by rw [ad_eq, hp]
      have q2 : ∀ w, (binOp .eql 43 (.agg #[.int .i64 m0, .int .i64 m1, .int .i64 m2]) (.agg #[.int .i64 n0, .int .i64 n1, .int .i64 n2'])).run Tryd.prog w = .ok (.bool p) w := fun w => by rw [ar_eq, hp2]
      have q3 := aHeld
      have q4 := aGuard
      have q5 := rHeld
      have q6 := rGuard
      obtain ⟨r0, r1, r2⟩ := re3 HX1.out
      obtain ⟨s0, s1, s2⟩ := re3 HX2.out
      obtain ⟨t0, t1, t2⟩ := re3 HX3.out
      obtain ⟨u0, u1, u2⟩ := re3 HX4.out
      clear hp hp2 he hm hn HX1 HX2 HX3 HX4
      cases p
      all_goals
        refine wp_region_quiet_below (by kernel_rfl) (by kernel_rfl) ?_
        repeat (go_big_quiet_step ((first | with_reducible exact HN1.out _ _ | with_reducible exact HN2.out _ _)))
        refine wpQuiet_nil ?_
        intro _ hw'
        obtain ⟨⟨dq, osq⟩, hw''⟩ := hw'
        subst hw''
        have HE := Lib.hid (below_trans HB.out (below_regrown W dq osq))
        clear r0 r1 r2 s0 s1 s2 t0 t1 t2 u0 u1 u2
        go_wp2
        go_ret
        exact ⟨rfl, HE.out⟩
end Go.Proofs.YtnjlodgdedodgaaDoor
