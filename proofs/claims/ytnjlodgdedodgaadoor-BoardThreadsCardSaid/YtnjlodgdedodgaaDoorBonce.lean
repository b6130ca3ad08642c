/- The walk of BoardOnce. A template (fill.py). -/
import Derived.Test.YtnjlodgdedodgaaDoorBawake
namespace Go.Proofs.YtnjlodgdedodgaaDoor
open Go.RowKit Go.Extern.Stop Go.Stop Go.Extern Go.Sort

theorem mod_in (n : Int) (m : Int) (hm : 0 < m ∧ m < 1000) : ∃ f : Int, 0 ≤ f ∧ f < m ∧ wrap64 ((IntKind.u64.wrap n).tmod m) = f := by
  have h0 : 0 ≤ IntKind.u64.wrap n := by
    have e1 : ((2 : Int) ^ IntKind.u64.bits) = 18446744073709551616 := by decide
    unfold IntKind.wrap
    simp only [e1]
    have : IntKind.u64.signed = false := rfl
    simp only [this]
    simp
    omega
  have h1 : 0 ≤ (IntKind.u64.wrap n).tmod m := Int.tmod_nonneg _ h0
  have h2 : (IntKind.u64.wrap n).tmod m < m := Int.tmod_lt_of_pos _ hm.1
  exact ⟨_, h1, h2, IntWalk.wrap64_in _ ⟨by omega, by omega⟩⟩
set_option maxRecDepth 100000 in
set_option maxHeartbeats 1000000 in
theorem once_root (n f : Int) (hf : 0 ≤ f ∧ f < 24) (hn : wrap64 ((IntKind.u64.wrap n).tmod 85) = f) (a : Addr) (w : World) (L : HasArg w a) : Calls Tryd.prog 4 #[.int .i64 n] w (True1 w) := by
  have HL := Lib.hid L
  have HF := Lib.hid hf
  clear L hf
  go_enter Tryd.func4, Tryd.ntmps4
  go_wp2_with fail
  refine (awake_true a _ HL.out).mono ?_
  rintro e w1 ⟨rfl, hb⟩
  have B1 := Lib.hid hb
  clear hb HL
  go_wp2_with fail
  refine (Cells_any _).mono ?_
  rintro e w5 ⟨rfl, rfl⟩
  go_wp2_with fail
  rw [hn]
  refine (Where_root f HF.out _).mono ?_
  rintro e w2 ⟨rfl, hb⟩
  have B2 := Lib.hid (below_trans B1.out hb)
  clear hb B1 hn
  unfold sRoot
  go_wp2_with fail
  refine (Era_any _).mono ?_
  rintro e w3 ⟨rfl, hb⟩
  have B3 := Lib.hid (below_alloc (below_trans B2.out hb) (.cells #[.int .i64 0, .int .i64 0, .int .i64 24] 23))
  have hsz := B2.out.size
  have hsz3 := hb.size
  have X := Lib.hid (BlkW.new w3 23 #[.int .i64 0, .int .i64 0, .int .i64 24])
  clear hb B2
  unfold ad
  go_wp2_with fail
  refine (Root_yes f HF.out _).mono ?_
  rintro e w4 ⟨rfl, hb⟩
  have hX := X.out.below hb
  have hB := below_trans B3.out hb
  
  unfold ad
  obtain ⟨x0, x1, x2⟩ : _ ∧ _ ∧ _ := ⟨hX.cell 0, hX.cell 1, hX.cell 2⟩
  obtain ⟨f0, f1, f2⟩ : _ ∧ _ ∧ _ := ⟨hX.frozen 0, hX.frozen 1, hX.frozen 2⟩
  simp only [List.getElem?_toArray, List.getElem?_cons_succ, List.getElem?_cons_zero] at x0 x1 x2
  have z1 := hX.lt
  have B4 := Lib.hid hB
  have hle : w.heap.size ≤ w3.heap.size := Nat.le_trans hsz hsz3
  have B5 := Lib.hid (below_set (below_set (below_set hB w3.heap.size 0 (.int .i64 0) hle) w3.heap.size 1 (.int .i64 0) hle) w3.heap.size 2 (.int .i64 f) hle)
  have q1 : ∀ w, (binOp .eql 23 (.agg #[.int .i64 0, .int .i64 0, .int .i64 f]) (.agg #[.int .i64 0, .int .i64 0, .int .i64 f])).run Tryd.prog w = .ok (.bool true) w := fun w => by rw [ad_eq, adB_refl]
  have q2 := aHeld
  have q3 := aGuard
  clear hX hB hb X B3
  go_wp2
  go_ret
  exact ⟨rfl, B5.out⟩
set_option maxRecDepth 100000 in
set_option maxHeartbeats 1000000 in
theorem once_keep (n f : Int) (hf : 25 ≤ f ∧ f < 79) (hn : wrap64 ((IntKind.u64.wrap n).tmod 85) = f) (a : Addr) (w : World) (L : HasArg w a) : Calls Tryd.prog 4 #[.int .i64 n] w (True1 w) := by
  have HL := Lib.hid L
  have HF := Lib.hid hf
  clear L hf
  go_enter Tryd.func4, Tryd.ntmps4
  go_wp2_with fail
  refine (awake_true a _ HL.out).mono ?_
  rintro e w1 ⟨rfl, hb⟩
  have B1 := Lib.hid hb
  clear hb HL
  go_wp2_with fail
  refine (Cells_any _).mono ?_
  rintro e w5 ⟨rfl, rfl⟩
  go_wp2_with fail
  rw [hn]
  refine (Where_keep f HF.out _).mono ?_
  rintro e w2 ⟨rfl, hb⟩
  have B2 := Lib.hid (below_trans B1.out hb)
  clear hb B1 hn
  unfold sKeep
  go_wp2_with fail
  refine (Era_any _).mono ?_
  rintro e w3 ⟨rfl, hb⟩
  have B3 := Lib.hid (below_alloc (below_trans B2.out hb) (.cells #[.int .i64 0, .int .i64 0, .int .i64 24] 23))
  have hsz := B2.out.size
  have hsz3 := hb.size
  have X := Lib.hid (BlkW.new w3 23 #[.int .i64 0, .int .i64 0, .int .i64 24])
  clear hb B2
  unfold ad
  go_wp2_with fail
  refine (Keep_yes ((f - 25) / 9) ((f - 25) % 9) (by have := HF.out; omega) _).mono ?_
  rintro e w4 ⟨rfl, hb⟩
  have hX := X.out.below hb
  have hB := below_trans B3.out hb
  rw [show 25 + (f - 25) / 9 * 9 + (f - 25) % 9 = f by omega]
  unfold ad
  obtain ⟨x0, x1, x2⟩ : _ ∧ _ ∧ _ := ⟨hX.cell 0, hX.cell 1, hX.cell 2⟩
  obtain ⟨f0, f1, f2⟩ : _ ∧ _ ∧ _ := ⟨hX.frozen 0, hX.frozen 1, hX.frozen 2⟩
  simp only [List.getElem?_toArray, List.getElem?_cons_succ, List.getElem?_cons_zero] at x0 x1 x2
  have z1 := hX.lt
  have B4 := Lib.hid hB
  have hle : w.heap.size ≤ w3.heap.size := Nat.le_trans hsz hsz3
  have B5 := Lib.hid (below_set (below_set (below_set hB w3.heap.size 0 (.int .i64 0) hle) w3.heap.size 1 (.int .i64 0) hle) w3.heap.size 2 (.int .i64 f) hle)
  have q1 : ∀ w, (binOp .eql 23 (.agg #[.int .i64 0, .int .i64 0, .int .i64 f]) (.agg #[.int .i64 0, .int .i64 0, .int .i64 f])).run Tryd.prog w = .ok (.bool true) w := fun w => by rw [ad_eq, adB_refl]
  have q2 := aHeld
  have q3 := aGuard
  clear hX hB hb X B3
  go_wp2
  go_ret
  exact ⟨rfl, B5.out⟩
set_option maxRecDepth 100000 in
set_option maxHeartbeats 1000000 in
theorem once_span (n f : Int) (hf : 79 ≤ f ∧ f < 85) (hn : wrap64 ((IntKind.u64.wrap n).tmod 85) = f) (a : Addr) (w : World) (L : HasArg w a) : Calls Tryd.prog 4 #[.int .i64 n] w (True1 w) := by
  have HL := Lib.hid L
  have HF := Lib.hid hf
  clear L hf
  go_enter Tryd.func4, Tryd.ntmps4
  go_wp2_with fail
  refine (awake_true a _ HL.out).mono ?_
  rintro e w1 ⟨rfl, hb⟩
  have B1 := Lib.hid hb
  clear hb HL
  go_wp2_with fail
  refine (Cells_any _).mono ?_
  rintro e w5 ⟨rfl, rfl⟩
  go_wp2_with fail
  rw [hn]
  refine (Where_span f HF.out _).mono ?_
  rintro e w2 ⟨rfl, hb⟩
  have B2 := Lib.hid (below_trans B1.out hb)
  clear hb B1 hn
  unfold sSpan
  go_wp2_with fail
  refine (Era_any _).mono ?_
  rintro e w3 ⟨rfl, hb⟩
  have B3 := Lib.hid (below_alloc (below_trans B2.out hb) (.cells #[.int .i64 0, .int .i64 0, .int .i64 24] 23))
  have hsz := B2.out.size
  have hsz3 := hb.size
  have X := Lib.hid (BlkW.new w3 23 #[.int .i64 0, .int .i64 0, .int .i64 24])
  clear hb B2
  unfold ad
  go_wp2_with fail
  refine (Span_yes (f - 79) (by have := HF.out; omega) _).mono ?_
  rintro e w4 ⟨rfl, hb⟩
  have hX := X.out.below hb
  have hB := below_trans B3.out hb
  rw [show 79 + (f - 79) = f by omega]
  unfold ad
  obtain ⟨x0, x1, x2⟩ : _ ∧ _ ∧ _ := ⟨hX.cell 0, hX.cell 1, hX.cell 2⟩
  obtain ⟨f0, f1, f2⟩ : _ ∧ _ ∧ _ := ⟨hX.frozen 0, hX.frozen 1, hX.frozen 2⟩
  simp only [List.getElem?_toArray, List.getElem?_cons_succ, List.getElem?_cons_zero] at x0 x1 x2
  have z1 := hX.lt
  have B4 := Lib.hid hB
  have hle : w.heap.size ≤ w3.heap.size := Nat.le_trans hsz hsz3
  have B5 := Lib.hid (below_set (below_set (below_set hB w3.heap.size 0 (.int .i64 0) hle) w3.heap.size 1 (.int .i64 0) hle) w3.heap.size 2 (.int .i64 f) hle)
  have q1 : ∀ w, (binOp .eql 23 (.agg #[.int .i64 0, .int .i64 0, .int .i64 f]) (.agg #[.int .i64 0, .int .i64 0, .int .i64 f])).run Tryd.prog w = .ok (.bool true) w := fun w => by rw [ad_eq, adB_refl]
  have q2 := aHeld
  have q3 := aGuard
  clear hX hB hb X B3
  go_wp2
  go_ret
  exact ⟨rfl, B5.out⟩
set_option maxRecDepth 100000 in
set_option maxHeartbeats 1000000 in
theorem once_era (n f : Int) (hf : f = 24) (hn : wrap64 ((IntKind.u64.wrap n).tmod 85) = f) (a : Addr) (w : World) (L : HasArg w a) : Calls Tryd.prog 4 #[.int .i64 n] w (True1 w) := by
  have HL := Lib.hid L
  have HF := Lib.hid hf
  clear L hf
  go_enter Tryd.func4, Tryd.ntmps4
  go_wp2_with fail
  refine (awake_true a _ HL.out).mono ?_
  rintro e w1 ⟨rfl, hb⟩
  have B1 := Lib.hid hb
  clear hb HL
  go_wp2_with fail
  refine (Cells_any _).mono ?_
  rintro e w5 ⟨rfl, rfl⟩
  go_wp2_with fail
  rw [hn]
  refine (Where_era f HF.out _).mono ?_
  rintro e w2 ⟨rfl, hb⟩
  have B2 := Lib.hid (below_trans B1.out hb)
  clear hb B1 hn
  unfold sEra
  go_wp2_with fail
  refine (Era_any _).mono ?_
  rintro e w3 ⟨rfl, hb⟩
  have B3 := Lib.hid (below_alloc (below_trans B2.out hb) (.cells #[.int .i64 0, .int .i64 0, .int .i64 24] 23))
  have hsz := B2.out.size
  have hsz3 := hb.size
  have X := Lib.hid (BlkW.new w3 23 #[.int .i64 0, .int .i64 0, .int .i64 24])
  clear hb B2
  unfold ad
  obtain ⟨x0, x1, x2⟩ : _ ∧ _ ∧ _ := ⟨X.out.cell 0, X.out.cell 1, X.out.cell 2⟩
  simp only [List.getElem?_toArray, List.getElem?_cons_succ, List.getElem?_cons_zero] at x0 x1 x2
  have z1 := X.out.lt
  have hf := HF.out
  subst hf
  have q1 : ∀ w, (binOp .eql 23 (.agg #[.int .i64 0, .int .i64 0, .int .i64 24]) (.agg #[.int .i64 0, .int .i64 0, .int .i64 24])).run Tryd.prog w = .ok (.bool true) w := fun w => by rw [ad_eq, adB_refl]
  have q2 := aHeld
  have q3 := aGuard
  clear X
  go_wp2
  go_ret
  exact ⟨rfl, B3.out⟩
theorem once_any (n : Int) (a : Addr) (w : World) (L : HasArg w a) : Calls Tryd.prog 4 #[.int .i64 n] w (True1 w) := by
  obtain ⟨f, h1, h2, h3⟩ := mod_in n 85 (by decide)
  rcases Int.lt_or_le f 24 with h | h
  · exact once_root n f ⟨h1, h⟩ h3 a w L
  · rcases Int.lt_or_le f 25 with h' | h'
    · exact once_era n f (by omega) h3 a w L
    · rcases Int.lt_or_le f 79 with h'' | h''
      · exact once_keep n f ⟨h', h''⟩ h3 a w L
      · exact once_span n f ⟨h'', h2⟩ h3 a w L
end Go.Proofs.YtnjlodgdedodgaaDoor
