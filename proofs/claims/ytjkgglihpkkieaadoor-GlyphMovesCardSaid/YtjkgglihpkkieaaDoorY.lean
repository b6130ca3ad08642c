/- The walk of GlyphMoves. -/
import Derived.Test.YtjkgglihpkkieaaDoorX
namespace Go.Proofs.YtjkgglihpkkieaaDoor
open Go.RowKit Go.Extern.Stop Go.Stop Go.Extern Go.Sort

/-! ### GlyphMoves -/
theorem up_ne (t : Int) : wrap64 (t + 1) ≠ t := by
  intro h
  unfold wrap64 at h
  omega
theorem Ref_re {w : World} (s g t n : Int) (m : Bool) (d : Nat) (os : Array Obj) :
    Calls Tryd.prog 19 #[.agg #[.int .i64 s, .int .i64 g, .int .i64 t, .int .i64 n, .bool m]] (grow (redrawn w d) os) fun e w'' => e = .returned (.agg #[.int .i64 s, .int .i64 g, .int .i64 0, .int .i64 0, .bool false]) ∧ ∃ p : Regrown, w'' = grow (redrawn w p.d) p.os :=
  Calls.regrown_of (Ref_any s g t n m _)
theorem To_re {w : World} (s g t n : Int) (m : Bool) (s' g' t' n' : Int) (m' : Bool) (d : Nat) (os : Array Obj) :
    Calls Tryd.prog 15 #[.agg #[.int .i64 s, .int .i64 g, .int .i64 t, .int .i64 n, .bool m], .agg #[.int .i64 s', .int .i64 g', .int .i64 t', .int .i64 n', .bool m']] (grow (redrawn w d) os) fun e w'' => e = .returned (.agg #[.int .i64 s', .int .i64 g', .int .i64 (wrap64 (t + 1)), .int .i64 0, .bool false]) ∧ ∃ p : Regrown, w'' = grow (redrawn w p.d) p.os :=
  Calls.regrown_of (To_any s g t n m s' g' t' n' m' _)
theorem blk2 (w : World) (c1 c2 : Array Value) (t1 t2 : TypeId) :
    BlkW ((w.alloc (.cells c1 t1)).alloc (.cells c2 t2)) w.heap.size t1 c1 ∧ BlkW ((w.alloc (.cells c1 t1)).alloc (.cells c2 t2)) (w.heap.size + 1) t2 c2 := by
  have h2 := BlkW.new (w.alloc (.cells c1 t1)) t2 c2
  simp only [World.size_alloc] at h2
  exact ⟨(BlkW.new w t1 c1).alloc _, h2⟩
theorem cell5 {w : World} {g : Nat} {v0 v1 v2 v3 v4 : Value} (h : BlkW w g 23 #[v0, v1, v2, v3, v4]) :
    w.cell? ⟨g, 0, none⟩ = some v0 ∧ w.cell? ⟨g, 1, none⟩ = some v1 ∧ w.cell? ⟨g, 2, none⟩ = some v2 ∧ w.cell? ⟨g, 3, none⟩ = some v3 ∧ w.cell? ⟨g, 4, none⟩ = some v4 :=
  ⟨h.cell 0, h.cell 1, h.cell 2, h.cell 3, h.cell 4⟩

set_option maxRecDepth 100000 in
set_option maxHeartbeats 2000000 in
theorem moves_any (a b : Addr) (s g t n : Int) (m : Bool) (s1 g1 t1 n1 : Int) (m1 : Bool) (k : Int) (w : World) (L : Env w a b) :
    Calls Tryd.prog 5 #[.agg #[.int .i64 s, .int .i64 g, .int .i64 t, .int .i64 n, .bool m], .agg #[.int .i64 s1, .int .i64 g1, .int .i64 t1, .int .i64 n1, .bool m1], .int .i64 k] w (True1 w) := by
  have HL := Lib.hid L
  have AW := Lib.hid (awake_true a b)
  clear L
  go_enter Tryd.func5, Tryd.ntmps5
  go_wp2_with fail
  refine (AW.out _ (HL.out.keep (below_alloc (below_alloc (Below.refl _ _) _) _))).mono ?_
  rintro e w1 ⟨rfl, hb⟩
  obtain ⟨b1, b2⟩ := blk2 w #[.int .i64 s, .int .i64 g, .int .i64 t, .int .i64 n, .bool m] #[.int .i64 s1, .int .i64 g1, .int .i64 t1, .int .i64 n1, .bool m1] 23 23
  have HA := Lib.hid (b1.below hb)
  have HR := Lib.hid (b2.below hb)
  have HB1 := Lib.hid (below_trans (below_alloc (below_alloc (Below.refl _ _) _) _) hb)
  clear hb b1 b2
  obtain ⟨a0, a1, a2, a3, a4⟩ := cell5 HA.out
  obtain ⟨c0, c1, c2, c3, c4⟩ := cell5 HR.out
  go_wp2_with fail
  refine (To_any _ _ _ _ _ _ _ _ _ _ _).mono ?_
  rintro e w2 ⟨rfl, hb⟩
  clear a0 a1 a2 a3 a4 c0 c1 c2 c3 c4
  have HA2 := Lib.hid ((HA.out.below hb).alloc (.cells #[.int .i64 s1, .int .i64 g1, .int .i64 (wrap64 (t + 1)), .int .i64 0, .bool false] 23))
  have HR2 := Lib.hid ((HR.out.below hb).alloc (.cells #[.int .i64 s1, .int .i64 g1, .int .i64 (wrap64 (t + 1)), .int .i64 0, .bool false] 23))
  have HT2 := Lib.hid (BlkW.new w2 23 #[.int .i64 s1, .int .i64 g1, .int .i64 (wrap64 (t + 1)), .int .i64 0, .bool false])
  have HB2 := Lib.hid (below_alloc (below_trans HB1.out hb) (.cells #[.int .i64 s1, .int .i64 g1, .int .i64 (wrap64 (t + 1)), .int .i64 0, .bool false] 23))
  clear hb
  obtain ⟨a0, a1, a2, a3, a4⟩ := cell5 HA2.out
  go_wp2_with fail
  refine (Marked_any _ _ _ _ _ _).mono ?_
  rintro e w3 ⟨rfl, hb⟩
  clear a0 a1 a2 a3 a4
  have HA3 := Lib.hid ((HA2.out.below hb).alloc (.cells #[.int .i64 s, .int .i64 g, .int .i64 (wrap64 (t + 1)), .int .i64 n, .bool true] 23))
  have HR3 := Lib.hid ((HR2.out.below hb).alloc (.cells #[.int .i64 s, .int .i64 g, .int .i64 (wrap64 (t + 1)), .int .i64 n, .bool true] 23))
  have HT3 := Lib.hid ((HT2.out.below hb).alloc (.cells #[.int .i64 s, .int .i64 g, .int .i64 (wrap64 (t + 1)), .int .i64 n, .bool true] 23))
  have HM3 := Lib.hid (BlkW.new w3 23 #[.int .i64 s, .int .i64 g, .int .i64 (wrap64 (t + 1)), .int .i64 n, .bool true])
  have HB3 := Lib.hid (below_alloc (below_trans HB2.out hb) (.cells #[.int .i64 s, .int .i64 g, .int .i64 (wrap64 (t + 1)), .int .i64 n, .bool true] 23))
  clear hb
  obtain ⟨a0, a1, a2, a3, a4⟩ := cell5 HA3.out
  go_wp2_with fail
  refine (Count_any _ _ _ _ _ _ _).mono ?_
  rintro e w4 ⟨rfl, hb⟩
  clear a0 a1 a2 a3 a4
  have HA4 := Lib.hid ((HA3.out.below hb).alloc (.cells #[.int .i64 0, .int .i64 0, .int .i64 (wrap64 (t + 1)), .int .i64 (wrap64 (n + k)), .bool false] 23))
  have HR4 := Lib.hid ((HR3.out.below hb).alloc (.cells #[.int .i64 0, .int .i64 0, .int .i64 (wrap64 (t + 1)), .int .i64 (wrap64 (n + k)), .bool false] 23))
  have HT4 := Lib.hid ((HT3.out.below hb).alloc (.cells #[.int .i64 0, .int .i64 0, .int .i64 (wrap64 (t + 1)), .int .i64 (wrap64 (n + k)), .bool false] 23))
  have HM4 := Lib.hid ((HM3.out.below hb).alloc (.cells #[.int .i64 0, .int .i64 0, .int .i64 (wrap64 (t + 1)), .int .i64 (wrap64 (n + k)), .bool false] 23))
  have HC4 := Lib.hid (BlkW.new w4 23 #[.int .i64 0, .int .i64 0, .int .i64 (wrap64 (t + 1)), .int .i64 (wrap64 (n + k)), .bool false])
  have HF := Lib.hid (below_alloc (below_trans HB3.out hb) (.cells #[.int .i64 0, .int .i64 0, .int .i64 (wrap64 (t + 1)), .int .i64 (wrap64 (n + k)), .bool false] 23))
  clear hb HA HR HB1 HA2 HR2 HT2 HB2 HA3 HR3 HT3 HM3 HB3 HL AW
  go_wp2_with fail
  generalize w4.alloc (.cells #[.int .i64 0, .int .i64 0, .int .i64 (wrap64 (t + 1)), .int .i64 (wrap64 (n + k)), .bool false] 23) = W at HA4 HR4 HT4 HM4 HC4 HF ⊢
  have u1 := up_ne t
  have u2 := up_ne (wrap64 (t + 1))
  generalize hu : wrap64 (t + 1) = u at *
  generalize hv : wrap64 (u + 1) = v at *
  clear hu
  obtain ⟨rA0, rA1, rA2, rA3, rA4⟩ := re5 HA4.out
  obtain ⟨rR0, rR1, rR2, rR3, rR4⟩ := re5 HR4.out
  obtain ⟨rT0, rT1, rT2, rT3, rT4⟩ := re5 HT4.out
  obtain ⟨rM0, rM1, rM2, rM3, rM4⟩ := re5 HM4.out
  obtain ⟨rC0, rC1, rC2, rC3, rC4⟩ := re5 HC4.out
  have cTA := Lib.hid (Same_re (w := W) s1 g1 u 0 false s g t n m false (sameB_tag u1))
  have cMA := Lib.hid (Same_re (w := W) s g u n true s g t n m false (sameB_tag u1))
  have cCA := Lib.hid (Same_re (w := W) 0 0 u (wrap64 (n + k)) false s g t n m false (sameB_tag u1))
  have cVT := Lib.hid (Same_re (w := W) s1 g1 v 0 false s1 g1 u 0 false false (sameB_tag u2))
  have fT := Lib.hid (Ref_re (w := W) s1 g1 u 0 false)
  have fR := Lib.hid (Ref_re (w := W) s1 g1 t1 n1 m1)
  have fM := Lib.hid (Ref_re (w := W) s g u n true)
  have fA := Lib.hid (Ref_re (w := W) s g t n m)
  have tV := Lib.hid (To_re (w := W) s1 g1 u 0 false s1 g1 t1 n1 m1)
  rw [hv] at tV
  clear HA4 HR4 HT4 HM4 HC4 hv u1 u2
  have q1 : ∀ w, (binOp .eql 23 (.agg #[.int .i64 s1, .int .i64 g1, .int .i64 0, .int .i64 0, .bool false]) (.agg #[.int .i64 s1, .int .i64 g1, .int .i64 0, .int .i64 0, .bool false])).run Tryd.prog w = .ok (.bool true) w := fun w => by rw [eq23]; simp [eqB]
  have q2 : ∀ w, (binOp .eql 23 (.agg #[.int .i64 s, .int .i64 g, .int .i64 0, .int .i64 0, .bool false]) (.agg #[.int .i64 s, .int .i64 g, .int .i64 0, .int .i64 0, .bool false])).run Tryd.prog w = .ok (.bool true) w := fun w => by rw [eq23]; simp [eqB]
  have q3 := noHeld
  have q4 := noGuard
  refine wp_region_quiet_below (by kernel_rfl) (by kernel_rfl) ?_
  repeat (go_big_quiet_step ((first | with_reducible exact cTA.out _ _ | with_reducible exact cMA.out _ _ | with_reducible exact cCA.out _ _ | with_reducible exact cVT.out _ _ | with_reducible exact fT.out _ _ | with_reducible exact fR.out _ _ | with_reducible exact fM.out _ _ | with_reducible exact fA.out _ _ | with_reducible exact tV.out _ _)))
  refine wpQuiet_nil ?_
  intro _ hw'
  obtain ⟨⟨dq, osq⟩, hw''⟩ := hw'
  subst hw''
  clear rA0 rA1 rA2 rA3 rA4 rR0 rR1 rR2 rR3 rR4 rT0 rT1 rT2 rT3 rT4 rM0 rM1 rM2 rM3 rM4 rC0 rC1 rC2 rC3 rC4
  go_wp2
  go_ret
  exact ⟨rfl, below_trans HF.out (below_regrown W dq osq)⟩
end Go.Proofs.YtjkgglihpkkieaaDoor
