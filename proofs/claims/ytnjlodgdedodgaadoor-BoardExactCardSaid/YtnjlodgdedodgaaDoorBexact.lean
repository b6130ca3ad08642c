/- The walk of BoardExact. A template (fill.py). -/
import Derived.Test.YtnjlodgdedodgaaDoorBref
namespace Go.Proofs.YtnjlodgdedodgaaDoor
open Go.RowKit Go.Extern.Stop Go.Stop Go.Extern Go.Sort

/-- What is answered where the reference answers r: the place, or an error. -/
def Ans (a : Addr) (w : World) (f : Int) (E : Value) (r : Int) : Prop := (E = .nilIface ∧ r = f ∧ 0 ≤ f) ∨ (f = 0 ∧ r = -1 ∧ Ch w (.iface 77 (.pointer (some a))) [4] E)
theorem Ans.keep {a : Addr} {w w' : World} {f : Int} {E : Value} {r : Int} (h : Ans a w f E r) (hb : Below w.heap.size w w') : Ans a w' f E r := by
  rcases h with h | ⟨h1, h2, h3⟩
  · exact .inl h
  · exact .inr ⟨h1, h2, h3.keep hb⟩
def AnsQ (a : Addr) (r : Int) (w : World) (e : Ending) (w' : World) : Prop := ∃ f E, e = .returned (.tuple #[ad 0 0 f, E]) ∧ Ans a w' f E r ∧ Below w.heap.size w w'
theorem ansq_yes {a : Addr} {w w' : World} {e : Ending} {f : Int} (h : Yes f w e w') (hf : 0 ≤ f) : AnsQ a f w e w' := ⟨f, .nilIface, h.1, .inl ⟨rfl, rfl, hf⟩, h.2⟩
theorem ansq_no {a : Addr} {w w' : World} {e : Ending} (h : No a w e w') : AnsQ a (-1) w e w' := by
  obtain ⟨u, h1, h2, h3⟩ := h
  exact ⟨0, u, h1, .inr ⟨rfl, rfl, h2⟩, h3⟩
def rootV (n : Int) : Int := if 0 ≤ n ∧ n < 24 then n else -1
def keepV (t n : Int) : Int := if (0 ≤ t ∧ t < 6) ∧ (0 ≤ n ∧ n < 9) then 25 + t * 9 + n else -1
def spanV (t : Int) : Int := if 0 ≤ t ∧ t < 6 then 79 + t else -1
theorem Root_ans (n : Int) (a : Addr) (w : World) (L : HasArg w a) : Calls Tryd.prog 9 #[.int .i64 n] w (AnsQ a (rootV n) w) := by
  unfold rootV
  split
  · next h => exact (Root_yes n h w).mono fun e w' q => ansq_yes q h.1
  · next h => exact (Root_no n h a w L).mono fun e w' q => ansq_no q
theorem Keep_ans (t n : Int) (a : Addr) (w : World) (L : HasArg w a) : Calls Tryd.prog 10 #[.int .i64 t, .int .i64 n] w (AnsQ a (keepV t n) w) := by
  unfold keepV
  split
  · next h => exact (Keep_yes t n h w).mono fun e w' q => ansq_yes q (by omega)
  · next h => exact (Keep_no t n h a w L).mono fun e w' q => ansq_no q
theorem Span_ans (t : Int) (a : Addr) (w : World) (L : HasArg w a) : Calls Tryd.prog 11 #[.int .i64 t] w (AnsQ a (spanV t) w) := by
  unfold spanV
  split
  · next h => exact (Span_yes t h w).mono fun e w' q => ansq_yes q (by omega)
  · next h => exact (Span_no t h a w L).mono fun e w' q => ansq_no q
theorem rRoot_any (n : Int) (w : World) : Calls Tryd.prog 15 #[.int .i64 n] w fun e w' => e = .returned (.int .i64 (rootV n)) ∧ w = w' := by
  unfold rootV
  split
  · next h => exact rRoot_yes n h w
  · next h => exact rRoot_no n h w
theorem rKeep_any (t n : Int) (w : World) : Calls Tryd.prog 16 #[.int .i64 t, .int .i64 n] w fun e w' => e = .returned (.int .i64 (keepV t n)) ∧ w = w' := by
  unfold keepV
  split
  · next h => exact rKeep_yes t n h w
  · next h =>
    by_cases ht : 0 ≤ t ∧ t < 6
    · exact rKeep_no2 t n ⟨ht, fun hn => h ⟨ht, hn⟩⟩ w
    · exact rKeep_no1 t n ht w
theorem rSpan_any (t : Int) (w : World) : Calls Tryd.prog 17 #[.int .i64 t] w fun e w' => e = .returned (.int .i64 (spanV t)) ∧ w = w' := by
  unfold spanV
  split
  · next h => exact rSpan_yes t h w
  · next h => exact rSpan_no t h w

/-! ### right -/
set_option maxRecDepth 20000 in
theorem right_ans {a : Addr} {f r : Int} {E : Value} (w : World) (h : Ans a w f E r) (L : HasArg w a) : Calls Tryd.prog 14 #[ad 0 0 f, E, .int .i64 r] w fun e w' => e = .returned (.bool true) ∧ Below w.heap.size w w' := by
  have q1 := ad_eq
  have q2 := aHeld
  have q3 := aGuard
  have HR := Lib.hid (adB_refl 0 0 f)
  unfold ad
  rcases h with ⟨rfl, rfl, hf⟩ | ⟨rfl, rfl, hc⟩
  · have q4 : ∀ w, (binOp .eql 23 (.agg #[.int .i64 0, .int .i64 0, .int .i64 r]) (.agg #[.int .i64 0, .int .i64 0, .int .i64 r])).run Tryd.prog w = .ok (.bool true) w := fun w => by rw [ad_eq, adB_refl]
    have k1 : decide (r < 0) = false := decide_eq_false (by omega)
    clear hf q1 HR L
    go_enter Tryd.func14, Tryd.ntmps14
    go_wp2
    go_ret
    exact ⟨rfl, below_alloc (Below.refl _ _) _⟩
  · have q4 : ∀ w, (binOp .eql 23 (.agg #[.int .i64 0, .int .i64 0, .int .i64 0]) (.agg #[.int .i64 0, .int .i64 0, .int .i64 0])).run Tryd.prog w = .ok (.bool true) w := fun w => by rw [ad_eq, adB_refl]
    have HC := Lib.hid (hc.keep (below_alloc (Below.refl w.heap.size w) (.cells #[.int .i64 0, .int .i64 0, .int .i64 0] 23)))
    unfold HasArg at L
    have hz := lt_of_cell L
    clear hc q1 HR
    go_enter Tryd.func14, Tryd.ntmps14
    go_wp2_with fail
    refine (Is_same HC.out).mono ?_
    rintro e w1 ⟨rfl, rfl⟩
    go_wp2
    go_ret
    exact ⟨rfl, below_alloc (Below.refl _ _) _⟩
theorem right_re {W : World} {a : Addr} {f r : Int} {E : Value} (h : Ans a W f E r) (L : HasArg W a) (d : Nat) (os : Array Obj) :
    Calls Tryd.prog 14 #[ad 0 0 f, E, .int .i64 r] (grow (redrawn W d) os) fun e w'' => e = .returned (.bool true) ∧ ∃ p : Regrown, w'' = grow (redrawn W p.d) p.os :=
  Calls.regrown_of (right_ans _ (h.keep (below_regrown W d os)) (cell_keep L (below_regrown W d os)))
theorem read_re {W : World} {f : FuncId} {args : Array Value} {v : Value} (h : ∀ w, Calls Tryd.prog f args w fun e w' => e = .returned v ∧ w = w') (d : Nat) (os : Array Obj) :
    Calls Tryd.prog f args (grow (redrawn W d) os) fun e w'' => e = .returned v ∧ ∃ p : Regrown, w'' = grow (redrawn W p.d) p.os :=
  Calls.regrown_of ((h _).mono fun e w' ⟨he, hw⟩ => ⟨he, by rw [hw]; exact Below.refl _ _⟩)
theorem Where_not (s g f : Int) (h : ¬ (s = 0 ∧ g = 0) ∨ ((s = 0 ∧ g = 0) ∧ ¬ (0 ≤ f ∧ f < 85))) (a : Addr) (w : World) (L : HasNone w a) : Calls Tryd.prog 12 #[ad s g f] w (WhNo a w) := by
  rcases h with h | h
  · exact Where_no1 s g f h a w L
  · exact Where_no2 s g f h a w L

set_option maxRecDepth 100000 in
set_option maxHeartbeats 2000000 in
theorem exact_root (t n f : Int) (hh : 0 ≤ f ∧ f < 24) (a b : Addr) (w : World) (L : HasArg w a) (N : HasNone w b) : Calls Tryd.prog 3 #[.int .i64 t, .int .i64 n, ad 0 0 f] w (True1 w) := by
  have HL := Lib.hid L
  have HN := Lib.hid N
  have HH := Lib.hid hh
  clear L N hh
  have HB := Lib.hid (below_alloc (Below.refl w.heap.size w) (.cells #[.int .i64 0, .int .i64 0, .int .i64 f] 23))
  have HX := Lib.hid (BlkW.new w 23 #[.int .i64 0, .int .i64 0, .int .i64 f])
  unfold ad
  go_enter Tryd.func3, Tryd.ntmps3
  go_wp2_with fail
  refine (awake_true a _ (cell_keep HL.out HB.out)).mono ?_
  rintro e w1 ⟨rfl, hb⟩
  have HX := Lib.hid (HX.out.below hb)
  have HB := Lib.hid (below_trans HB.out hb)
  clear hb
  go_wp2_with fail
  refine (Root_ans n a _ (cell_keep HL.out HB.out)).mono ?_
  rintro e w2 ⟨f1, E1, rfl, h1, hb⟩
  have hb1 := below_alloc (Below.refl w2.heap.size w2) (.cells #[.int .i64 0, .int .i64 0, .int .i64 f1] 23)
  have hb := below_trans hb hb1
  have A1 := Lib.hid (h1.keep hb1)
  have X1 := Lib.hid (BlkW.new w2 23 #[.int .i64 0, .int .i64 0, .int .i64 f1])
  have HX := Lib.hid (HX.out.below hb)
  have HB := Lib.hid (below_trans HB.out hb)
  clear hb hb1 h1
  unfold ad
  go_wp2_with fail
  refine (Keep_ans t n a _ (cell_keep HL.out HB.out)).mono ?_
  rintro e w3 ⟨f2, E2, rfl, h1, hb⟩
  have hb1 := below_alloc (Below.refl w3.heap.size w3) (.cells #[.int .i64 0, .int .i64 0, .int .i64 f2] 23)
  have hb := below_trans hb hb1
  have A2 := Lib.hid (h1.keep hb1)
  have A1 := Lib.hid (A1.out.keep hb)
  have X1 := Lib.hid (X1.out.below hb)
  have X2 := Lib.hid (BlkW.new w3 23 #[.int .i64 0, .int .i64 0, .int .i64 f2])
  have HX := Lib.hid (HX.out.below hb)
  have HB := Lib.hid (below_trans HB.out hb)
  clear hb hb1 h1
  unfold ad
  go_wp2_with fail
  refine (Span_ans t a _ (cell_keep HL.out HB.out)).mono ?_
  rintro e w4 ⟨f3, E3, rfl, h1, hb⟩
  have hb1 := below_alloc (Below.refl w4.heap.size w4) (.cells #[.int .i64 0, .int .i64 0, .int .i64 f3] 23)
  have hb := below_trans hb hb1
  have A3 := Lib.hid (h1.keep hb1)
  have A1 := Lib.hid (A1.out.keep hb)
  have A2 := Lib.hid (A2.out.keep hb)
  have X1 := Lib.hid (X1.out.below hb)
  have X2 := Lib.hid (X2.out.below hb)
  have X3 := Lib.hid (BlkW.new w4 23 #[.int .i64 0, .int .i64 0, .int .i64 f3])
  have HX := Lib.hid (HX.out.below hb)
  have HB := Lib.hid (below_trans HB.out hb)
  clear hb hb1 h1
  generalize w2.heap.size = n2 at X1 ⊢
  generalize w3.heap.size = n3 at X2 ⊢
  obtain ⟨c0, c1, c2⟩ : _ ∧ _ ∧ _ := ⟨HX.out.cell 0, HX.out.cell 1, HX.out.cell 2⟩
  simp only [List.getElem?_toArray, List.getElem?_cons_succ, List.getElem?_cons_zero] at c0 c1 c2
  have z1 := HX.out.lt
  unfold ad
  go_wp2_with fail
  generalize w4.heap.size = n4 at X3 ⊢
  generalize w4.alloc (.cells #[.int .i64 0, .int .i64 0, .int .i64 f3] 23) = W4 at A1 A2 A3 X1 X2 X3 HX HB c0 c1 c2 z1 ⊢
  refine (Where_root f HH.out _).mono ?_
  rintro e w5 ⟨rfl, hb⟩
  have A1 := Lib.hid (A1.out.keep hb)
  have A2 := Lib.hid (A2.out.keep hb)
  have A3 := Lib.hid (A3.out.keep hb)
  have X1 := Lib.hid (X1.out.below hb)
  have X2 := Lib.hid (X2.out.below hb)
  have X3 := Lib.hid (X3.out.below hb)
  have HX := Lib.hid (HX.out.below hb)
  have HB := Lib.hid (below_trans HB.out hb)
  clear hb c0 c1 c2 z1
  obtain ⟨c0, c1, c2⟩ : _ ∧ _ ∧ _ := ⟨HX.out.cell 0, HX.out.cell 1, HX.out.cell 2⟩
  simp only [List.getElem?_toArray, List.getElem?_cons_succ, List.getElem?_cons_zero] at c0 c1 c2
  have z1 := HX.out.lt
  unfold sRoot
  go_wp2_with fail
  refine (rWhere_root f HH.out _).mono ?_
  rintro e w6 ⟨rfl, hb⟩
  have A1 := Lib.hid (A1.out.keep hb)
  have A2 := Lib.hid (A2.out.keep hb)
  have A3 := Lib.hid (A3.out.keep hb)
  have X1 := Lib.hid (X1.out.below hb)
  have X2 := Lib.hid (X2.out.below hb)
  have X3 := Lib.hid (X3.out.below hb)
  have HB := Lib.hid (below_trans HB.out hb)
  clear hb c0 c1 c2 z1 HX
  unfold sRoot
  go_wp2_with fail
  have L6 := cell_keep HL.out HB.out
  have C1 := Lib.hid (fun d os => right_re A1.out L6 d os)
  have C2 := Lib.hid (fun d os => right_re A2.out L6 d os)
  have C3 := Lib.hid (fun d os => right_re A3.out L6 d os)
  have D1 := Lib.hid (fun d os => read_re (W := w6) (rRoot_any n) d os)
  have D2 := Lib.hid (fun d os => read_re (W := w6) (rKeep_any t n) d os)
  have D3 := Lib.hid (fun d os => read_re (W := w6) (rSpan_any t) d os)
  unfold ad at C1 C2 C3
  obtain ⟨r0, r1, r2⟩ := re3 X1.out
  obtain ⟨s0, s1, s2⟩ := re3 X2.out
  obtain ⟨t0, t1, t2⟩ := re3 X3.out
  clear X1 X2 X3 A1 A2 A3 L6 HL HN
  refine wp_region_quiet_below (by kernel_rfl) (by kernel_rfl) ?_
  repeat (go_big_quiet_step ((first | with_reducible exact C1.out _ _ | with_reducible exact C2.out _ _ | with_reducible exact C3.out _ _ | with_reducible exact D1.out _ _ | with_reducible exact D2.out _ _ | with_reducible exact D3.out _ _)))
  refine wpQuiet_nil ?_
  intro _ hw'
  obtain ⟨⟨dq, osq⟩, hw''⟩ := hw'
  subst hw''
  have HE := Lib.hid (below_trans HB.out (below_regrown w6 dq osq))
  clear r0 r1 r2 s0 s1 s2 t0 t1 t2
  go_wp2
  go_ret
  exact ⟨rfl, HE.out⟩

set_option maxRecDepth 100000 in
set_option maxHeartbeats 2000000 in
theorem exact_era (t n f : Int) (hh : f = 24) (a b : Addr) (w : World) (L : HasArg w a) (N : HasNone w b) : Calls Tryd.prog 3 #[.int .i64 t, .int .i64 n, ad 0 0 f] w (True1 w) := by
  have HL := Lib.hid L
  have HN := Lib.hid N
  have HH := Lib.hid hh
  clear L N hh
  have HB := Lib.hid (below_alloc (Below.refl w.heap.size w) (.cells #[.int .i64 0, .int .i64 0, .int .i64 f] 23))
  have HX := Lib.hid (BlkW.new w 23 #[.int .i64 0, .int .i64 0, .int .i64 f])
  unfold ad
  go_enter Tryd.func3, Tryd.ntmps3
  go_wp2_with fail
  refine (awake_true a _ (cell_keep HL.out HB.out)).mono ?_
  rintro e w1 ⟨rfl, hb⟩
  have HX := Lib.hid (HX.out.below hb)
  have HB := Lib.hid (below_trans HB.out hb)
  clear hb
  go_wp2_with fail
  refine (Root_ans n a _ (cell_keep HL.out HB.out)).mono ?_
  rintro e w2 ⟨f1, E1, rfl, h1, hb⟩
  have hb1 := below_alloc (Below.refl w2.heap.size w2) (.cells #[.int .i64 0, .int .i64 0, .int .i64 f1] 23)
  have hb := below_trans hb hb1
  have A1 := Lib.hid (h1.keep hb1)
  have X1 := Lib.hid (BlkW.new w2 23 #[.int .i64 0, .int .i64 0, .int .i64 f1])
  have HX := Lib.hid (HX.out.below hb)
  have HB := Lib.hid (below_trans HB.out hb)
  clear hb hb1 h1
  unfold ad
  go_wp2_with fail
  refine (Keep_ans t n a _ (cell_keep HL.out HB.out)).mono ?_
  rintro e w3 ⟨f2, E2, rfl, h1, hb⟩
  have hb1 := below_alloc (Below.refl w3.heap.size w3) (.cells #[.int .i64 0, .int .i64 0, .int .i64 f2] 23)
  have hb := below_trans hb hb1
  have A2 := Lib.hid (h1.keep hb1)
  have A1 := Lib.hid (A1.out.keep hb)
  have X1 := Lib.hid (X1.out.below hb)
  have X2 := Lib.hid (BlkW.new w3 23 #[.int .i64 0, .int .i64 0, .int .i64 f2])
  have HX := Lib.hid (HX.out.below hb)
  have HB := Lib.hid (below_trans HB.out hb)
  clear hb hb1 h1
  unfold ad
  go_wp2_with fail
  refine (Span_ans t a _ (cell_keep HL.out HB.out)).mono ?_
  rintro e w4 ⟨f3, E3, rfl, h1, hb⟩
  have hb1 := below_alloc (Below.refl w4.heap.size w4) (.cells #[.int .i64 0, .int .i64 0, .int .i64 f3] 23)
  have hb := below_trans hb hb1
  have A3 := Lib.hid (h1.keep hb1)
  have A1 := Lib.hid (A1.out.keep hb)
  have A2 := Lib.hid (A2.out.keep hb)
  have X1 := Lib.hid (X1.out.below hb)
  have X2 := Lib.hid (X2.out.below hb)
  have X3 := Lib.hid (BlkW.new w4 23 #[.int .i64 0, .int .i64 0, .int .i64 f3])
  have HX := Lib.hid (HX.out.below hb)
  have HB := Lib.hid (below_trans HB.out hb)
  clear hb hb1 h1
  generalize w2.heap.size = n2 at X1 ⊢
  generalize w3.heap.size = n3 at X2 ⊢
  obtain ⟨c0, c1, c2⟩ : _ ∧ _ ∧ _ := ⟨HX.out.cell 0, HX.out.cell 1, HX.out.cell 2⟩
  simp only [List.getElem?_toArray, List.getElem?_cons_succ, List.getElem?_cons_zero] at c0 c1 c2
  have z1 := HX.out.lt
  unfold ad
  go_wp2_with fail
  generalize w4.heap.size = n4 at X3 ⊢
  generalize w4.alloc (.cells #[.int .i64 0, .int .i64 0, .int .i64 f3] 23) = W4 at A1 A2 A3 X1 X2 X3 HX HB c0 c1 c2 z1 ⊢
  refine (Where_era f HH.out _).mono ?_
  rintro e w5 ⟨rfl, hb⟩
  have A1 := Lib.hid (A1.out.keep hb)
  have A2 := Lib.hid (A2.out.keep hb)
  have A3 := Lib.hid (A3.out.keep hb)
  have X1 := Lib.hid (X1.out.below hb)
  have X2 := Lib.hid (X2.out.below hb)
  have X3 := Lib.hid (X3.out.below hb)
  have HX := Lib.hid (HX.out.below hb)
  have HB := Lib.hid (below_trans HB.out hb)
  clear hb c0 c1 c2 z1
  obtain ⟨c0, c1, c2⟩ : _ ∧ _ ∧ _ := ⟨HX.out.cell 0, HX.out.cell 1, HX.out.cell 2⟩
  simp only [List.getElem?_toArray, List.getElem?_cons_succ, List.getElem?_cons_zero] at c0 c1 c2
  have z1 := HX.out.lt
  unfold sEra
  go_wp2_with fail
  refine (rWhere_era f HH.out _).mono ?_
  rintro e w6 ⟨rfl, hb⟩
  have A1 := Lib.hid (A1.out.keep hb)
  have A2 := Lib.hid (A2.out.keep hb)
  have A3 := Lib.hid (A3.out.keep hb)
  have X1 := Lib.hid (X1.out.below hb)
  have X2 := Lib.hid (X2.out.below hb)
  have X3 := Lib.hid (X3.out.below hb)
  have HB := Lib.hid (below_trans HB.out hb)
  clear hb c0 c1 c2 z1 HX
  unfold sEra
  go_wp2_with fail
  have L6 := cell_keep HL.out HB.out
  have C1 := Lib.hid (fun d os => right_re A1.out L6 d os)
  have C2 := Lib.hid (fun d os => right_re A2.out L6 d os)
  have C3 := Lib.hid (fun d os => right_re A3.out L6 d os)
  have D1 := Lib.hid (fun d os => read_re (W := w6) (rRoot_any n) d os)
  have D2 := Lib.hid (fun d os => read_re (W := w6) (rKeep_any t n) d os)
  have D3 := Lib.hid (fun d os => read_re (W := w6) (rSpan_any t) d os)
  unfold ad at C1 C2 C3
  obtain ⟨r0, r1, r2⟩ := re3 X1.out
  obtain ⟨s0, s1, s2⟩ := re3 X2.out
  obtain ⟨t0, t1, t2⟩ := re3 X3.out
  clear X1 X2 X3 A1 A2 A3 L6 HL HN
  refine wp_region_quiet_below (by kernel_rfl) (by kernel_rfl) ?_
  repeat (go_big_quiet_step ((first | with_reducible exact C1.out _ _ | with_reducible exact C2.out _ _ | with_reducible exact C3.out _ _ | with_reducible exact D1.out _ _ | with_reducible exact D2.out _ _ | with_reducible exact D3.out _ _)))
  refine wpQuiet_nil ?_
  intro _ hw'
  obtain ⟨⟨dq, osq⟩, hw''⟩ := hw'
  subst hw''
  have HE := Lib.hid (below_trans HB.out (below_regrown w6 dq osq))
  clear r0 r1 r2 s0 s1 s2 t0 t1 t2
  go_wp2
  go_ret
  exact ⟨rfl, HE.out⟩

set_option maxRecDepth 100000 in
set_option maxHeartbeats 2000000 in
theorem exact_keep (t n f : Int) (hh : 25 ≤ f ∧ f < 79) (a b : Addr) (w : World) (L : HasArg w a) (N : HasNone w b) : Calls Tryd.prog 3 #[.int .i64 t, .int .i64 n, ad 0 0 f] w (True1 w) := by
  have HL := Lib.hid L
  have HN := Lib.hid N
  have HH := Lib.hid hh
  clear L N hh
  have HB := Lib.hid (below_alloc (Below.refl w.heap.size w) (.cells #[.int .i64 0, .int .i64 0, .int .i64 f] 23))
  have HX := Lib.hid (BlkW.new w 23 #[.int .i64 0, .int .i64 0, .int .i64 f])
  unfold ad
  go_enter Tryd.func3, Tryd.ntmps3
  go_wp2_with fail
  refine (awake_true a _ (cell_keep HL.out HB.out)).mono ?_
  rintro e w1 ⟨rfl, hb⟩
  have HX := Lib.hid (HX.out.below hb)
  have HB := Lib.hid (below_trans HB.out hb)
  clear hb
  go_wp2_with fail
  refine (Root_ans n a _ (cell_keep HL.out HB.out)).mono ?_
  rintro e w2 ⟨f1, E1, rfl, h1, hb⟩
  have hb1 := below_alloc (Below.refl w2.heap.size w2) (.cells #[.int .i64 0, .int .i64 0, .int .i64 f1] 23)
  have hb := below_trans hb hb1
  have A1 := Lib.hid (h1.keep hb1)
  have X1 := Lib.hid (BlkW.new w2 23 #[.int .i64 0, .int .i64 0, .int .i64 f1])
  have HX := Lib.hid (HX.out.below hb)
  have HB := Lib.hid (below_trans HB.out hb)
  clear hb hb1 h1
  unfold ad
  go_wp2_with fail
  refine (Keep_ans t n a _ (cell_keep HL.out HB.out)).mono ?_
  rintro e w3 ⟨f2, E2, rfl, h1, hb⟩
  have hb1 := below_alloc (Below.refl w3.heap.size w3) (.cells #[.int .i64 0, .int .i64 0, .int .i64 f2] 23)
  have hb := below_trans hb hb1
  have A2 := Lib.hid (h1.keep hb1)
  have A1 := Lib.hid (A1.out.keep hb)
  have X1 := Lib.hid (X1.out.below hb)
  have X2 := Lib.hid (BlkW.new w3 23 #[.int .i64 0, .int .i64 0, .int .i64 f2])
  have HX := Lib.hid (HX.out.below hb)
  have HB := Lib.hid (below_trans HB.out hb)
  clear hb hb1 h1
  unfold ad
  go_wp2_with fail
  refine (Span_ans t a _ (cell_keep HL.out HB.out)).mono ?_
  rintro e w4 ⟨f3, E3, rfl, h1, hb⟩
  have hb1 := below_alloc (Below.refl w4.heap.size w4) (.cells #[.int .i64 0, .int .i64 0, .int .i64 f3] 23)
  have hb := below_trans hb hb1
  have A3 := Lib.hid (h1.keep hb1)
  have A1 := Lib.hid (A1.out.keep hb)
  have A2 := Lib.hid (A2.out.keep hb)
  have X1 := Lib.hid (X1.out.below hb)
  have X2 := Lib.hid (X2.out.below hb)
  have X3 := Lib.hid (BlkW.new w4 23 #[.int .i64 0, .int .i64 0, .int .i64 f3])
  have HX := Lib.hid (HX.out.below hb)
  have HB := Lib.hid (below_trans HB.out hb)
  clear hb hb1 h1
  generalize w2.heap.size = n2 at X1 ⊢
  generalize w3.heap.size = n3 at X2 ⊢
  obtain ⟨c0, c1, c2⟩ : _ ∧ _ ∧ _ := ⟨HX.out.cell 0, HX.out.cell 1, HX.out.cell 2⟩
  simp only [List.getElem?_toArray, List.getElem?_cons_succ, List.getElem?_cons_zero] at c0 c1 c2
  have z1 := HX.out.lt
  unfold ad
  go_wp2_with fail
  generalize w4.heap.size = n4 at X3 ⊢
  generalize w4.alloc (.cells #[.int .i64 0, .int .i64 0, .int .i64 f3] 23) = W4 at A1 A2 A3 X1 X2 X3 HX HB c0 c1 c2 z1 ⊢
  refine (Where_keep f HH.out _).mono ?_
  rintro e w5 ⟨rfl, hb⟩
  have A1 := Lib.hid (A1.out.keep hb)
  have A2 := Lib.hid (A2.out.keep hb)
  have A3 := Lib.hid (A3.out.keep hb)
  have X1 := Lib.hid (X1.out.below hb)
  have X2 := Lib.hid (X2.out.below hb)
  have X3 := Lib.hid (X3.out.below hb)
  have HX := Lib.hid (HX.out.below hb)
  have HB := Lib.hid (below_trans HB.out hb)
  clear hb c0 c1 c2 z1
  obtain ⟨c0, c1, c2⟩ : _ ∧ _ ∧ _ := ⟨HX.out.cell 0, HX.out.cell 1, HX.out.cell 2⟩
  simp only [List.getElem?_toArray, List.getElem?_cons_succ, List.getElem?_cons_zero] at c0 c1 c2
  have z1 := HX.out.lt
  unfold sKeep
  go_wp2_with fail
  refine (rWhere_keep f HH.out _).mono ?_
  rintro e w6 ⟨rfl, hb⟩
  have A1 := Lib.hid (A1.out.keep hb)
  have A2 := Lib.hid (A2.out.keep hb)
  have A3 := Lib.hid (A3.out.keep hb)
  have X1 := Lib.hid (X1.out.below hb)
  have X2 := Lib.hid (X2.out.below hb)
  have X3 := Lib.hid (X3.out.below hb)
  have HB := Lib.hid (below_trans HB.out hb)
  clear hb c0 c1 c2 z1 HX
  unfold sKeep
  go_wp2_with fail
  have L6 := cell_keep HL.out HB.out
  have C1 := Lib.hid (fun d os => right_re A1.out L6 d os)
  have C2 := Lib.hid (fun d os => right_re A2.out L6 d os)
  have C3 := Lib.hid (fun d os => right_re A3.out L6 d os)
  have D1 := Lib.hid (fun d os => read_re (W := w6) (rRoot_any n) d os)
  have D2 := Lib.hid (fun d os => read_re (W := w6) (rKeep_any t n) d os)
  have D3 := Lib.hid (fun d os => read_re (W := w6) (rSpan_any t) d os)
  unfold ad at C1 C2 C3
  obtain ⟨r0, r1, r2⟩ := re3 X1.out
  obtain ⟨s0, s1, s2⟩ := re3 X2.out
  obtain ⟨t0, t1, t2⟩ := re3 X3.out
  clear X1 X2 X3 A1 A2 A3 L6 HL HN
  refine wp_region_quiet_below (by kernel_rfl) (by kernel_rfl) ?_
  repeat (go_big_quiet_step ((first | with_reducible exact C1.out _ _ | with_reducible exact C2.out _ _ | with_reducible exact C3.out _ _ | with_reducible exact D1.out _ _ | with_reducible exact D2.out _ _ | with_reducible exact D3.out _ _)))
  refine wpQuiet_nil ?_
  intro _ hw'
  obtain ⟨⟨dq, osq⟩, hw''⟩ := hw'
  subst hw''
  have HE := Lib.hid (below_trans HB.out (below_regrown w6 dq osq))
  clear r0 r1 r2 s0 s1 s2 t0 t1 t2
  go_wp2
  go_ret
  exact ⟨rfl, HE.out⟩

set_option maxRecDepth 100000 in
set_option maxHeartbeats 2000000 in
theorem exact_span (t n f : Int) (hh : 79 ≤ f ∧ f < 85) (a b : Addr) (w : World) (L : HasArg w a) (N : HasNone w b) : Calls Tryd.prog 3 #[.int .i64 t, .int .i64 n, ad 0 0 f] w (True1 w) := by
  have HL := Lib.hid L
  have HN := Lib.hid N
  have HH := Lib.hid hh
  clear L N hh
  have HB := Lib.hid (below_alloc (Below.refl w.heap.size w) (.cells #[.int .i64 0, .int .i64 0, .int .i64 f] 23))
  have HX := Lib.hid (BlkW.new w 23 #[.int .i64 0, .int .i64 0, .int .i64 f])
  unfold ad
  go_enter Tryd.func3, Tryd.ntmps3
  go_wp2_with fail
  refine (awake_true a _ (cell_keep HL.out HB.out)).mono ?_
  rintro e w1 ⟨rfl, hb⟩
  have HX := Lib.hid (HX.out.below hb)
  have HB := Lib.hid (below_trans HB.out hb)
  clear hb
  go_wp2_with fail
  refine (Root_ans n a _ (cell_keep HL.out HB.out)).mono ?_
  rintro e w2 ⟨f1, E1, rfl, h1, hb⟩
  have hb1 := below_alloc (Below.refl w2.heap.size w2) (.cells #[.int .i64 0, .int .i64 0, .int .i64 f1] 23)
  have hb := below_trans hb hb1
  have A1 := Lib.hid (h1.keep hb1)
  have X1 := Lib.hid (BlkW.new w2 23 #[.int .i64 0, .int .i64 0, .int .i64 f1])
  have HX := Lib.hid (HX.out.below hb)
  have HB := Lib.hid (below_trans HB.out hb)
  clear hb hb1 h1
  unfold ad
  go_wp2_with fail
  refine (Keep_ans t n a _ (cell_keep HL.out HB.out)).mono ?_
  rintro e w3 ⟨f2, E2, rfl, h1, hb⟩
  have hb1 := below_alloc (Below.refl w3.heap.size w3) (.cells #[.int .i64 0, .int .i64 0, .int .i64 f2] 23)
  have hb := below_trans hb hb1
  have A2 := Lib.hid (h1.keep hb1)
  have A1 := Lib.hid (A1.out.keep hb)
  have X1 := Lib.hid (X1.out.below hb)
  have X2 := Lib.hid (BlkW.new w3 23 #[.int .i64 0, .int .i64 0, .int .i64 f2])
  have HX := Lib.hid (HX.out.below hb)
  have HB := Lib.hid (below_trans HB.out hb)
  clear hb hb1 h1
  unfold ad
  go_wp2_with fail
  refine (Span_ans t a _ (cell_keep HL.out HB.out)).mono ?_
  rintro e w4 ⟨f3, E3, rfl, h1, hb⟩
  have hb1 := below_alloc (Below.refl w4.heap.size w4) (.cells #[.int .i64 0, .int .i64 0, .int .i64 f3] 23)
  have hb := below_trans hb hb1
  have A3 := Lib.hid (h1.keep hb1)
  have A1 := Lib.hid (A1.out.keep hb)
  have A2 := Lib.hid (A2.out.keep hb)
  have X1 := Lib.hid (X1.out.below hb)
  have X2 := Lib.hid (X2.out.below hb)
  have X3 := Lib.hid (BlkW.new w4 23 #[.int .i64 0, .int .i64 0, .int .i64 f3])
  have HX := Lib.hid (HX.out.below hb)
  have HB := Lib.hid (below_trans HB.out hb)
  clear hb hb1 h1
  generalize w2.heap.size = n2 at X1 ⊢
  generalize w3.heap.size = n3 at X2 ⊢
  obtain ⟨c0, c1, c2⟩ : _ ∧ _ ∧ _ := ⟨HX.out.cell 0, HX.out.cell 1, HX.out.cell 2⟩
  simp only [List.getElem?_toArray, List.getElem?_cons_succ, List.getElem?_cons_zero] at c0 c1 c2
  have z1 := HX.out.lt
  unfold ad
  go_wp2_with fail
  generalize w4.heap.size = n4 at X3 ⊢
  generalize w4.alloc (.cells #[.int .i64 0, .int .i64 0, .int .i64 f3] 23) = W4 at A1 A2 A3 X1 X2 X3 HX HB c0 c1 c2 z1 ⊢
  refine (Where_span f HH.out _).mono ?_
  rintro e w5 ⟨rfl, hb⟩
  have A1 := Lib.hid (A1.out.keep hb)
  have A2 := Lib.hid (A2.out.keep hb)
  have A3 := Lib.hid (A3.out.keep hb)
  have X1 := Lib.hid (X1.out.below hb)
  have X2 := Lib.hid (X2.out.below hb)
  have X3 := Lib.hid (X3.out.below hb)
  have HX := Lib.hid (HX.out.below hb)
  have HB := Lib.hid (below_trans HB.out hb)
  clear hb c0 c1 c2 z1
  obtain ⟨c0, c1, c2⟩ : _ ∧ _ ∧ _ := ⟨HX.out.cell 0, HX.out.cell 1, HX.out.cell 2⟩
  simp only [List.getElem?_toArray, List.getElem?_cons_succ, List.getElem?_cons_zero] at c0 c1 c2
  have z1 := HX.out.lt
  unfold sSpan
  go_wp2_with fail
  refine (rWhere_span f HH.out _).mono ?_
  rintro e w6 ⟨rfl, hb⟩
  have A1 := Lib.hid (A1.out.keep hb)
  have A2 := Lib.hid (A2.out.keep hb)
  have A3 := Lib.hid (A3.out.keep hb)
  have X1 := Lib.hid (X1.out.below hb)
  have X2 := Lib.hid (X2.out.below hb)
  have X3 := Lib.hid (X3.out.below hb)
  have HB := Lib.hid (below_trans HB.out hb)
  clear hb c0 c1 c2 z1 HX
  unfold sSpan
  go_wp2_with fail
  have L6 := cell_keep HL.out HB.out
  have C1 := Lib.hid (fun d os => right_re A1.out L6 d os)
  have C2 := Lib.hid (fun d os => right_re A2.out L6 d os)
  have C3 := Lib.hid (fun d os => right_re A3.out L6 d os)
  have D1 := Lib.hid (fun d os => read_re (W := w6) (rRoot_any n) d os)
  have D2 := Lib.hid (fun d os => read_re (W := w6) (rKeep_any t n) d os)
  have D3 := Lib.hid (fun d os => read_re (W := w6) (rSpan_any t) d os)
  unfold ad at C1 C2 C3
  obtain ⟨r0, r1, r2⟩ := re3 X1.out
  obtain ⟨s0, s1, s2⟩ := re3 X2.out
  obtain ⟨t0, t1, t2⟩ := re3 X3.out
  clear X1 X2 X3 A1 A2 A3 L6 HL HN
  refine wp_region_quiet_below (by kernel_rfl) (by kernel_rfl) ?_
  repeat (go_big_quiet_step ((first | with_reducible exact C1.out _ _ | with_reducible exact C2.out _ _ | with_reducible exact C3.out _ _ | with_reducible exact D1.out _ _ | with_reducible exact D2.out _ _ | with_reducible exact D3.out _ _)))
  refine wpQuiet_nil ?_
  intro _ hw'
  obtain ⟨⟨dq, osq⟩, hw''⟩ := hw'
  subst hw''
  have HE := Lib.hid (below_trans HB.out (below_regrown w6 dq osq))
  clear r0 r1 r2 s0 s1 s2 t0 t1 t2
  go_wp2
  go_ret
  exact ⟨rfl, HE.out⟩

set_option maxRecDepth 100000 in
set_option maxHeartbeats 2000000 in
theorem exact_no (t n s g f : Int) (hh : ¬ (s = 0 ∧ g = 0) ∨ ((s = 0 ∧ g = 0) ∧ ¬ (0 ≤ f ∧ f < 85))) (a b : Addr) (w : World) (L : HasArg w a) (N : HasNone w b) : Calls Tryd.prog 3 #[.int .i64 t, .int .i64 n, ad s g f] w (True1 w) := by
  have HL := Lib.hid L
  have HN := Lib.hid N
  have HH := Lib.hid hh
  clear L N hh
  have HB := Lib.hid (below_alloc (Below.refl w.heap.size w) (.cells #[.int .i64 s, .int .i64 g, .int .i64 f] 23))
  have HX := Lib.hid (BlkW.new w 23 #[.int .i64 s, .int .i64 g, .int .i64 f])
  unfold ad
  go_enter Tryd.func3, Tryd.ntmps3
  go_wp2_with fail
  refine (awake_true a _ (cell_keep HL.out HB.out)).mono ?_
  rintro e w1 ⟨rfl, hb⟩
  have HX := Lib.hid (HX.out.below hb)
  have HB := Lib.hid (below_trans HB.out hb)
  clear hb
  go_wp2_with fail
  refine (Root_ans n a _ (cell_keep HL.out HB.out)).mono ?_
  rintro e w2 ⟨f1, E1, rfl, h1, hb⟩
  have hb1 := below_alloc (Below.refl w2.heap.size w2) (.cells #[.int .i64 0, .int .i64 0, .int .i64 f1] 23)
  have hb := below_trans hb hb1
  have A1 := Lib.hid (h1.keep hb1)
  have X1 := Lib.hid (BlkW.new w2 23 #[.int .i64 0, .int .i64 0, .int .i64 f1])
  have HX := Lib.hid (HX.out.below hb)
  have HB := Lib.hid (below_trans HB.out hb)
  clear hb hb1 h1
  unfold ad
  go_wp2_with fail
  refine (Keep_ans t n a _ (cell_keep HL.out HB.out)).mono ?_
  rintro e w3 ⟨f2, E2, rfl, h1, hb⟩
  have hb1 := below_alloc (Below.refl w3.heap.size w3) (.cells #[.int .i64 0, .int .i64 0, .int .i64 f2] 23)
  have hb := below_trans hb hb1
  have A2 := Lib.hid (h1.keep hb1)
  have A1 := Lib.hid (A1.out.keep hb)
  have X1 := Lib.hid (X1.out.below hb)
  have X2 := Lib.hid (BlkW.new w3 23 #[.int .i64 0, .int .i64 0, .int .i64 f2])
  have HX := Lib.hid (HX.out.below hb)
  have HB := Lib.hid (below_trans HB.out hb)
  clear hb hb1 h1
  unfold ad
  go_wp2_with fail
  refine (Span_ans t a _ (cell_keep HL.out HB.out)).mono ?_
  rintro e w4 ⟨f3, E3, rfl, h1, hb⟩
  have hb1 := below_alloc (Below.refl w4.heap.size w4) (.cells #[.int .i64 0, .int .i64 0, .int .i64 f3] 23)
  have hb := below_trans hb hb1
  have A3 := Lib.hid (h1.keep hb1)
  have A1 := Lib.hid (A1.out.keep hb)
  have A2 := Lib.hid (A2.out.keep hb)
  have X1 := Lib.hid (X1.out.below hb)
  have X2 := Lib.hid (X2.out.below hb)
  have X3 := Lib.hid (BlkW.new w4 23 #[.int .i64 0, .int .i64 0, .int .i64 f3])
  have HX := Lib.hid (HX.out.below hb)
  have HB := Lib.hid (below_trans HB.out hb)
  clear hb hb1 h1
  generalize w2.heap.size = n2 at X1 ⊢
  generalize w3.heap.size = n3 at X2 ⊢
  obtain ⟨c0, c1, c2⟩ : _ ∧ _ ∧ _ := ⟨HX.out.cell 0, HX.out.cell 1, HX.out.cell 2⟩
  simp only [List.getElem?_toArray, List.getElem?_cons_succ, List.getElem?_cons_zero] at c0 c1 c2
  have z1 := HX.out.lt
  unfold ad
  go_wp2_with fail
  generalize w4.heap.size = n4 at X3 ⊢
  generalize w4.alloc (.cells #[.int .i64 0, .int .i64 0, .int .i64 f3] 23) = W4 at A1 A2 A3 X1 X2 X3 HX HB c0 c1 c2 z1 ⊢
  refine (Where_not s g f HH.out b _ (cell_keep HN.out HB.out)).mono ?_
  rintro e w5 ⟨u, rfl, hch, hb⟩
  obtain ⟨T, x, rfl⟩ := hch.shape
  have HC := Lib.hid hch
  clear hch
  have A1 := Lib.hid (A1.out.keep hb)
  have A2 := Lib.hid (A2.out.keep hb)
  have A3 := Lib.hid (A3.out.keep hb)
  have X1 := Lib.hid (X1.out.below hb)
  have X2 := Lib.hid (X2.out.below hb)
  have X3 := Lib.hid (X3.out.below hb)
  have HX := Lib.hid (HX.out.below hb)
  have HB := Lib.hid (below_trans HB.out hb)
  clear hb c0 c1 c2 z1
  obtain ⟨c0, c1, c2⟩ : _ ∧ _ ∧ _ := ⟨HX.out.cell 0, HX.out.cell 1, HX.out.cell 2⟩
  simp only [List.getElem?_toArray, List.getElem?_cons_succ, List.getElem?_cons_zero] at c0 c1 c2
  have z1 := HX.out.lt
  go_wp2_with fail
  refine (rWhere_no s g f HH.out _).mono ?_
  rintro e w6 ⟨rfl, hb⟩
  have A1 := Lib.hid (A1.out.keep hb)
  have A2 := Lib.hid (A2.out.keep hb)
  have A3 := Lib.hid (A3.out.keep hb)
  have X1 := Lib.hid (X1.out.below hb)
  have X2 := Lib.hid (X2.out.below hb)
  have X3 := Lib.hid (X3.out.below hb)
  have HB := Lib.hid (below_trans HB.out hb)
  have HC := Lib.hid (HC.out.keep hb)
  clear hb c0 c1 c2 z1 HX
  go_wp2_with fail
  have L6 := cell_keep HL.out HB.out
  have C1 := Lib.hid (fun d os => right_re A1.out L6 d os)
  have C2 := Lib.hid (fun d os => right_re A2.out L6 d os)
  have C3 := Lib.hid (fun d os => right_re A3.out L6 d os)
  have D1 := Lib.hid (fun d os => read_re (W := w6) (rRoot_any n) d os)
  have D2 := Lib.hid (fun d os => read_re (W := w6) (rKeep_any t n) d os)
  have D3 := Lib.hid (fun d os => read_re (W := w6) (rSpan_any t) d os)
  unfold ad at C1 C2 C3
  have C4 := Lib.hid (fun d os => Is_re HC.out d os)
  have r9 := cell_regrown (cell_keep HN.out HB.out)
  obtain ⟨r0, r1, r2⟩ := re3 X1.out
  obtain ⟨s0, s1, s2⟩ := re3 X2.out
  obtain ⟨t0, t1, t2⟩ := re3 X3.out
  clear X1 X2 X3 A1 A2 A3 L6 HL HN HC
  refine wp_region_quiet_below (by kernel_rfl) (by kernel_rfl) ?_
  repeat (go_big_quiet_step ((first | with_reducible exact C1.out _ _ | with_reducible exact C2.out _ _ | with_reducible exact C3.out _ _ | with_reducible exact D1.out _ _ | with_reducible exact D2.out _ _ | with_reducible exact D3.out _ _ | with_reducible exact C4.out _ _)))
  refine wpQuiet_nil ?_
  intro _ hw'
  obtain ⟨⟨dq, osq⟩, hw''⟩ := hw'
  subst hw''
  have HE := Lib.hid (below_trans HB.out (below_regrown w6 dq osq))
  clear r0 r1 r2 s0 s1 s2 t0 t1 t2 r9
  go_wp2
  go_ret
  exact ⟨rfl, HE.out⟩

theorem exact_any (t n s g f : Int) (a b : Addr) (w : World) (L : HasArg w a) (N : HasNone w b) : Calls Tryd.prog 3 #[.int .i64 t, .int .i64 n, ad s g f] w (True1 w) := by
  by_cases h : (s = 0 ∧ g = 0) ∧ (0 ≤ f ∧ f < 85)
  · obtain ⟨⟨rfl, rfl⟩, h0, h1⟩ := h
    rcases Int.lt_or_le f 24 with h | h
    · exact exact_root t n f ⟨h0, h⟩ a b w L N
    · rcases Int.lt_or_le f 25 with h' | h'
      · exact exact_era t n f (by omega) a b w L N
      · rcases Int.lt_or_le f 79 with h'' | h''
        · exact exact_keep t n f ⟨h', h''⟩ a b w L N
        · exact exact_span t n f ⟨h'', h1⟩ a b w L N
  · exact exact_no t n s g f (by by_cases h' : s = 0 ∧ g = 0
                                 · exact .inr ⟨h', fun q => h ⟨h', q⟩⟩
                                 · exact .inl h') a b w L N
end Go.Proofs.YtnjlodgdedodgaaDoor
