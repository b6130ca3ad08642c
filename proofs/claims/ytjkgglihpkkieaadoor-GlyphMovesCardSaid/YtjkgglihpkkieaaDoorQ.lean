/- The walk of GlyphBack. -/
import Derived.Test.YtjkgglihpkkieaaDoorY
namespace Go.Proofs.YtjkgglihpkkieaaDoor
open Go.RowKit Go.Extern.Stop Go.Stop Go.Extern Go.Sort

/-! ### GlyphBack -/
theorem Good_re {w : World} (s g t n : Int) (m : Bool) (r : Bool) (hr : goodB s g t n = r) (d : Nat) (os : Array Obj) :
    Calls Tryd.prog 14 #[.agg #[.int .i64 s, .int .i64 g, .int .i64 t, .int .i64 n, .bool m]] (grow (redrawn w d) os) fun e w'' => e = .returned (.bool r) ∧ ∃ p : Regrown, w'' = grow (redrawn w p.d) p.os :=
  Calls.regrown_of ((Good_any s g t n m _).mono fun e w' ⟨he, hb⟩ => ⟨by rw [he, hr], hb⟩)
theorem txtB_eq (a b : Wd) : ((txtB a).toList == (txtB b).toList) = decide (a = b) := by
  rw [Bool.eq_iff_iff, beq_iff_eq, decide_eq_true_eq, ByteArray.toList_eq, ByteArray.toList_eq]
  exact ⟨fun h => txt_inj h, fun h => by rw [h]⟩
theorem good_of {s g t n : Int} (m : Bool) (h : goodB s g t n = true) : (Wd.mk s g t n m).Good := by
  have h2 := goodB_iff (Wd.mk s g t n m)
  rw [show goodB (Wd.mk s g t n m).slot (Wd.mk s g t n m).gen (Wd.mk s g t n m).tag (Wd.mk s g t n m).num = true from h] at h2
  exact of_decide_eq_true h2.symm

set_option maxRecDepth 100000 in
set_option maxHeartbeats 2000000 in
theorem back_long (a b : Addr) (s g t n : Int) (m : Bool) (s1 g1 t1 n1 : Int) (m1 : Bool) (st : ByteArray) (w : World) (L : Env w a b) (hl : 1024 < st.size) : Calls Tryd.prog 4 #[.agg #[.int .i64 s, .int .i64 g, .int .i64 t, .int .i64 n, .bool m], .agg #[.int .i64 s1, .int .i64 g1, .int .i64 t1, .int .i64 n1, .bool m1], .string st] w (True1 w) := by
  have HL := Lib.hid L
  have AW := Lib.hid (awake_true a b)
  have h1 : (1024 : Int) < st.size := by omega
  clear L
  go_enter Tryd.func4, Tryd.ntmps4
  go_wp2_with fail
  refine (AW.out _ (HL.out.keep (below_alloc (below_alloc (Below.refl _ _) _) _))).mono ?_
  rintro e w1 ⟨rfl, hb⟩
  have HW1 := Lib.hid (below_trans (below_alloc (below_alloc (Below.refl _ _) _) _) hb)
  clear hb
  go_wp2
  go_ret
  exact ⟨rfl, HW1.out⟩
set_option maxRecDepth 100000 in
set_option maxHeartbeats 2000000 in
theorem back_gge_yes (a b : Addr) (s g t n : Int) (m : Bool) (s1 g1 t1 n1 : Int) (m1 : Bool) (st : ByteArray) (w : World) (L : Env w a b) (hl : st.size ≤ 1024) (hga : goodB s g t n = true) (hgb : goodB s1 g1 t1 n1 = true) (hq : decide ((Wd.mk s g t n m) = (Wd.mk s1 g1 t1 n1 m1)) = true) (d : Wd) (hd : d.Good) (hst : txtB d = st) : Calls Tryd.prog 4 #[.agg #[.int .i64 s, .int .i64 g, .int .i64 t, .int .i64 n, .bool m], .agg #[.int .i64 s1, .int .i64 g1, .int .i64 t1, .int .i64 n1, .bool m1], .string st] w (True1 w) := by
  subst hst
  have k3 : ((txtB d).toList == (txtB d).toList) = true := by simp
  have HL := Lib.hid L
  have AW := Lib.hid (awake_true a b)
  have h1 : ((txtB d).size : Int) ≤ 1024 := by omega
  have HGB' := Lib.hid hga
  have HD := Lib.hid hd
  have HGA := Lib.hid (good_of m hga)
  have HGB := Lib.hid (good_of m1 hgb)
  have k1 : ((txtB (Wd.mk s g t n m)).toList == (txtB (Wd.mk s1 g1 t1 n1 m1)).toList) = true := by rw [txtB_eq]; exact hq
  have k2 : ∀ w, (binOp .eql 23 (.agg #[.int .i64 s, .int .i64 g, .int .i64 t, .int .i64 n, .bool m]) (.agg #[.int .i64 s1, .int .i64 g1, .int .i64 t1, .int .i64 n1, .bool m1])).run Tryd.prog w = .ok (.bool true) w := fun w => by
    rw [eq23]
    have := eqB_iff (Wd.mk s g t n m) (Wd.mk s1 g1 t1 n1 m1)
    rw [hq] at this
    rw [show eqB s g t n m s1 g1 t1 n1 m1 = true from this]
  have k4 : ∀ w, (binOp .neq 23 (.agg #[.int .i64 s, .int .i64 g, .int .i64 t, .int .i64 n, .bool m]) (.agg #[.int .i64 s, .int .i64 g, .int .i64 t, .int .i64 n, .bool m])).run Tryd.prog w = .ok (.bool false) w := fun w => by rw [ne23]; simp [eqB]
  have q2 := noHeld
  have q3 := noGuard
  clear L hl hga hgb hd hq
  have PA := Lib.hid (Pack_good (Wd.mk s g t n m) HGA.out a b)
  have PB := Lib.hid (Pack_good (Wd.mk s1 g1 t1 n1 m1) HGB.out a b)
  have UA := Lib.hid (Unpack_yes (Wd.mk s g t n m) HGA.out a b)
  have US := Lib.hid (Unpack_yes d HD.out a b)
  have PD := Lib.hid (Pack_good d HD.out a b)
  go_enter Tryd.func4, Tryd.ntmps4
  go_wp2_with fail
  refine (AW.out _ (HL.out.keep (below_alloc (below_alloc (Below.refl _ _) _) _))).mono ?_
  rintro e w1 ⟨rfl, hb⟩
  obtain ⟨b1, b2⟩ := blk2 w #[.int .i64 s, .int .i64 g, .int .i64 t, .int .i64 n, .bool m] #[.int .i64 s1, .int .i64 g1, .int .i64 t1, .int .i64 n1, .bool m1] 23 23
  have HA1 := Lib.hid (b1.below hb)
  have HB1 := Lib.hid (b2.below hb)
  have HW1 := Lib.hid (below_trans (below_alloc (below_alloc (Below.refl _ _) _) _) hb)
  clear hb b1 b2
  obtain ⟨a0, a1, a2, a3, a4⟩ := cell5 HA1.out
  go_wp2_with fail
  refine (PA.out _ (HL.out.keep HW1.out)).mono ?_
  rintro e w2 ⟨rfl, hb⟩
  clear a0 a1 a2 a3 a4
  have HA2 := Lib.hid (HA1.out.below hb)
  have HB2 := Lib.hid (HB1.out.below hb)
  have HW2 := Lib.hid (below_trans HW1.out hb)
  clear hb
  obtain ⟨a0, a1, a2, a3, a4⟩ := cell5 HB2.out
  go_wp2_with fail
  refine (PB.out _ (HL.out.keep HW2.out)).mono ?_
  rintro e w3 ⟨rfl, hb⟩
  clear a0 a1 a2 a3 a4
  have HA3 := Lib.hid (HA2.out.below hb)
  have HB3 := Lib.hid (HB2.out.below hb)
  have HW3 := Lib.hid (below_trans HW2.out hb)
  clear hb
  obtain ⟨rA0, rA1, rA2, rA3, rA4⟩ := re5 HA3.out
  obtain ⟨rB0, rB1, rB2, rB3, rB4⟩ := re5 HB3.out
  have cG := Lib.hid (Good_re (w := w3) s g t n m true HGB'.out)
  go_wp2_with fail
  refine wp_region_quiet_below (by kernel_rfl) (by kernel_rfl) ?_
  repeat (go_big_quiet_step ((with_reducible exact cG.out _ _)))
  refine wpQuiet_nil ?_
  intro _ hw'
  obtain ⟨⟨dq, osq⟩, hw''⟩ := hw'
  subst hw''
  clear rA0 rA1 rA2 rA3 rA4 rB0 rB1 rB2 rB3 rB4 cG
  have hbq := below_regrown w3 dq osq
  have HA4 := Lib.hid (HA3.out.below hbq)
  have HW4 := Lib.hid (below_trans HW3.out hbq)
  clear hbq
  generalize grow (redrawn w3 dq) osq = w4 at HA4 HW4 ⊢
  go_wp2_with fail
  refine (UA.out _ (HL.out.keep HW4.out)).mono ?_
  rintro e w5 ⟨rfl, hb⟩
  have HA5 := Lib.hid ((HA4.out.below hb).alloc (.cells #[.int .i64 s, .int .i64 g, .int .i64 t, .int .i64 n, .bool m] 23))
  have HW5 := Lib.hid (below_trans HW4.out hb)
  obtain ⟨a0, a1, a2, a3, a4⟩ := cell5 (HA4.out.below hb)
  have hz5 := (HA4.out.below hb).lt
  clear hb
  go_wp2_with fail
  refine (US.out _ (HL.out.keep (Lib.hid (below_alloc HW5.out _)).out)).mono ?_
  rintro e w6 ⟨rfl, hb⟩
  have HW6 := Lib.hid (below_trans (Lib.hid (below_alloc HW5.out _)).out hb)
  clear hb
  go_wp2_with fail
  refine (PD.out _ (HL.out.keep (below_alloc HW6.out _))).mono ?_
  rintro e w7 ⟨rfl, hb⟩
  have HW7 := Lib.hid (below_trans (below_alloc HW6.out _) hb)
  clear hb
  go_wp2
  go_ret
  exact ⟨rfl, HW7.out⟩
set_option maxRecDepth 100000 in
set_option maxHeartbeats 2000000 in
theorem back_gge_no (a b : Addr) (s g t n : Int) (m : Bool) (s1 g1 t1 n1 : Int) (m1 : Bool) (st : ByteArray) (w : World) (L : Env w a b) (hl : st.size ≤ 1024) (hga : goodB s g t n = true) (hgb : goodB s1 g1 t1 n1 = true) (hq : decide ((Wd.mk s g t n m) = (Wd.mk s1 g1 t1 n1 m1)) = true) (hd : ∀ d : Wd, d.Good → txtB d ≠ st) : Calls Tryd.prog 4 #[.agg #[.int .i64 s, .int .i64 g, .int .i64 t, .int .i64 n, .bool m], .agg #[.int .i64 s1, .int .i64 g1, .int .i64 t1, .int .i64 n1, .bool m1], .string st] w (True1 w) := by
  have HL := Lib.hid L
  have AW := Lib.hid (awake_true a b)
  have h1 : (st.size : Int) ≤ 1024 := by omega
  have HGB' := Lib.hid hga
  have HD := Lib.hid hd
  have HGA := Lib.hid (good_of m hga)
  have HGB := Lib.hid (good_of m1 hgb)
  have k1 : ((txtB (Wd.mk s g t n m)).toList == (txtB (Wd.mk s1 g1 t1 n1 m1)).toList) = true := by rw [txtB_eq]; exact hq
  have k2 : ∀ w, (binOp .eql 23 (.agg #[.int .i64 s, .int .i64 g, .int .i64 t, .int .i64 n, .bool m]) (.agg #[.int .i64 s1, .int .i64 g1, .int .i64 t1, .int .i64 n1, .bool m1])).run Tryd.prog w = .ok (.bool true) w := fun w => by
    rw [eq23]
    have := eqB_iff (Wd.mk s g t n m) (Wd.mk s1 g1 t1 n1 m1)
    rw [hq] at this
    rw [show eqB s g t n m s1 g1 t1 n1 m1 = true from this]
  have k4 : ∀ w, (binOp .neq 23 (.agg #[.int .i64 s, .int .i64 g, .int .i64 t, .int .i64 n, .bool m]) (.agg #[.int .i64 s, .int .i64 g, .int .i64 t, .int .i64 n, .bool m])).run Tryd.prog w = .ok (.bool false) w := fun w => by rw [ne23]; simp [eqB]
  have k5 : ∀ w, (binOp .eql 23 (.agg #[.int .i64 0, .int .i64 0, .int .i64 0, .int .i64 0, .bool false]) (.agg #[.int .i64 0, .int .i64 0, .int .i64 0, .int .i64 0, .bool false])).run Tryd.prog w = .ok (.bool true) w := fun w => by rw [eq23]; rfl
  have q2 := noHeld
  have q3 := noGuard
  clear L hl hga hgb hd hq
  have PA := Lib.hid (Pack_good (Wd.mk s g t n m) HGA.out a b)
  have PB := Lib.hid (Pack_good (Wd.mk s1 g1 t1 n1 m1) HGB.out a b)
  have UA := Lib.hid (Unpack_yes (Wd.mk s g t n m) HGA.out a b)
  have US := Lib.hid (Unpack_no st HD.out a b)
  go_enter Tryd.func4, Tryd.ntmps4
  go_wp2_with fail
  refine (AW.out _ (HL.out.keep (below_alloc (below_alloc (Below.refl _ _) _) _))).mono ?_
  rintro e w1 ⟨rfl, hb⟩
  obtain ⟨b1, b2⟩ := blk2 w #[.int .i64 s, .int .i64 g, .int .i64 t, .int .i64 n, .bool m] #[.int .i64 s1, .int .i64 g1, .int .i64 t1, .int .i64 n1, .bool m1] 23 23
  have HA1 := Lib.hid (b1.below hb)
  have HB1 := Lib.hid (b2.below hb)
  have HW1 := Lib.hid (below_trans (below_alloc (below_alloc (Below.refl _ _) _) _) hb)
  clear hb b1 b2
  obtain ⟨a0, a1, a2, a3, a4⟩ := cell5 HA1.out
  go_wp2_with fail
  refine (PA.out _ (HL.out.keep HW1.out)).mono ?_
  rintro e w2 ⟨rfl, hb⟩
  clear a0 a1 a2 a3 a4
  have HA2 := Lib.hid (HA1.out.below hb)
  have HB2 := Lib.hid (HB1.out.below hb)
  have HW2 := Lib.hid (below_trans HW1.out hb)
  clear hb
  obtain ⟨a0, a1, a2, a3, a4⟩ := cell5 HB2.out
  go_wp2_with fail
  refine (PB.out _ (HL.out.keep HW2.out)).mono ?_
  rintro e w3 ⟨rfl, hb⟩
  clear a0 a1 a2 a3 a4
  have HA3 := Lib.hid (HA2.out.below hb)
  have HB3 := Lib.hid (HB2.out.below hb)
  have HW3 := Lib.hid (below_trans HW2.out hb)
  clear hb
  obtain ⟨rA0, rA1, rA2, rA3, rA4⟩ := re5 HA3.out
  obtain ⟨rB0, rB1, rB2, rB3, rB4⟩ := re5 HB3.out
  have cG := Lib.hid (Good_re (w := w3) s g t n m true HGB'.out)
  go_wp2_with fail
  refine wp_region_quiet_below (by kernel_rfl) (by kernel_rfl) ?_
  repeat (go_big_quiet_step ((with_reducible exact cG.out _ _)))
  refine wpQuiet_nil ?_
  intro _ hw'
  obtain ⟨⟨dq, osq⟩, hw''⟩ := hw'
  subst hw''
  clear rA0 rA1 rA2 rA3 rA4 rB0 rB1 rB2 rB3 rB4 cG
  have hbq := below_regrown w3 dq osq
  have HA4 := Lib.hid (HA3.out.below hbq)
  have HW4 := Lib.hid (below_trans HW3.out hbq)
  clear hbq
  generalize grow (redrawn w3 dq) osq = w4 at HA4 HW4 ⊢
  go_wp2_with fail
  refine (UA.out _ (HL.out.keep HW4.out)).mono ?_
  rintro e w5 ⟨rfl, hb⟩
  have HA5 := Lib.hid ((HA4.out.below hb).alloc (.cells #[.int .i64 s, .int .i64 g, .int .i64 t, .int .i64 n, .bool m] 23))
  have HW5 := Lib.hid (below_trans HW4.out hb)
  obtain ⟨a0, a1, a2, a3, a4⟩ := cell5 (HA4.out.below hb)
  have hz5 := (HA4.out.below hb).lt
  clear hb
  go_wp2_with fail
  refine (US.out _ (HL.out.keep (Lib.hid (below_alloc HW5.out _)).out)).mono ?_
  rintro e w6 ⟨u6, rfl, hch, hb⟩
  obtain ⟨T6, x6, rfl⟩ := hch.shape
  clear hch
  have HW6 := Lib.hid (below_trans (Lib.hid (below_alloc HW5.out _)).out hb)
  clear hb
  go_wp2
  go_ret
  exact ⟨rfl, below_alloc HW6.out _⟩
set_option maxRecDepth 100000 in
set_option maxHeartbeats 2000000 in
theorem back_ggn_yes (a b : Addr) (s g t n : Int) (m : Bool) (s1 g1 t1 n1 : Int) (m1 : Bool) (st : ByteArray) (w : World) (L : Env w a b) (hl : st.size ≤ 1024) (hga : goodB s g t n = true) (hgb : goodB s1 g1 t1 n1 = true) (hq : decide ((Wd.mk s g t n m) = (Wd.mk s1 g1 t1 n1 m1)) = false) (d : Wd) (hd : d.Good) (hst : txtB d = st) : Calls Tryd.prog 4 #[.agg #[.int .i64 s, .int .i64 g, .int .i64 t, .int .i64 n, .bool m], .agg #[.int .i64 s1, .int .i64 g1, .int .i64 t1, .int .i64 n1, .bool m1], .string st] w (True1 w) := by
  subst hst
  have k3 : ((txtB d).toList == (txtB d).toList) = true := by simp
  have HL := Lib.hid L
  have AW := Lib.hid (awake_true a b)
  have h1 : ((txtB d).size : Int) ≤ 1024 := by omega
  have HGB' := Lib.hid hga
  have HD := Lib.hid hd
  have HGA := Lib.hid (good_of m hga)
  have HGB := Lib.hid (good_of m1 hgb)
  have k1 : ((txtB (Wd.mk s g t n m)).toList == (txtB (Wd.mk s1 g1 t1 n1 m1)).toList) = false := by rw [txtB_eq]; exact hq
  have k2 : ∀ w, (binOp .eql 23 (.agg #[.int .i64 s, .int .i64 g, .int .i64 t, .int .i64 n, .bool m]) (.agg #[.int .i64 s1, .int .i64 g1, .int .i64 t1, .int .i64 n1, .bool m1])).run Tryd.prog w = .ok (.bool false) w := fun w => by
    rw [eq23]
    have := eqB_iff (Wd.mk s g t n m) (Wd.mk s1 g1 t1 n1 m1)
    rw [hq] at this
    rw [show eqB s g t n m s1 g1 t1 n1 m1 = false from this]
  have k4 : ∀ w, (binOp .neq 23 (.agg #[.int .i64 s, .int .i64 g, .int .i64 t, .int .i64 n, .bool m]) (.agg #[.int .i64 s, .int .i64 g, .int .i64 t, .int .i64 n, .bool m])).run Tryd.prog w = .ok (.bool false) w := fun w => by rw [ne23]; simp [eqB]
  have q2 := noHeld
  have q3 := noGuard
  clear L hl hga hgb hd hq
  have PA := Lib.hid (Pack_good (Wd.mk s g t n m) HGA.out a b)
  have PB := Lib.hid (Pack_good (Wd.mk s1 g1 t1 n1 m1) HGB.out a b)
  have UA := Lib.hid (Unpack_yes (Wd.mk s g t n m) HGA.out a b)
  have US := Lib.hid (Unpack_yes d HD.out a b)
  have PD := Lib.hid (Pack_good d HD.out a b)
  go_enter Tryd.func4, Tryd.ntmps4
  go_wp2_with fail
  refine (AW.out _ (HL.out.keep (below_alloc (below_alloc (Below.refl _ _) _) _))).mono ?_
  rintro e w1 ⟨rfl, hb⟩
  obtain ⟨b1, b2⟩ := blk2 w #[.int .i64 s, .int .i64 g, .int .i64 t, .int .i64 n, .bool m] #[.int .i64 s1, .int .i64 g1, .int .i64 t1, .int .i64 n1, .bool m1] 23 23
  have HA1 := Lib.hid (b1.below hb)
  have HB1 := Lib.hid (b2.below hb)
  have HW1 := Lib.hid (below_trans (below_alloc (below_alloc (Below.refl _ _) _) _) hb)
  clear hb b1 b2
  obtain ⟨a0, a1, a2, a3, a4⟩ := cell5 HA1.out
  go_wp2_with fail
  refine (PA.out _ (HL.out.keep HW1.out)).mono ?_
  rintro e w2 ⟨rfl, hb⟩
  clear a0 a1 a2 a3 a4
  have HA2 := Lib.hid (HA1.out.below hb)
  have HB2 := Lib.hid (HB1.out.below hb)
  have HW2 := Lib.hid (below_trans HW1.out hb)
  clear hb
  obtain ⟨a0, a1, a2, a3, a4⟩ := cell5 HB2.out
  go_wp2_with fail
  refine (PB.out _ (HL.out.keep HW2.out)).mono ?_
  rintro e w3 ⟨rfl, hb⟩
  clear a0 a1 a2 a3 a4
  have HA3 := Lib.hid (HA2.out.below hb)
  have HB3 := Lib.hid (HB2.out.below hb)
  have HW3 := Lib.hid (below_trans HW2.out hb)
  clear hb
  obtain ⟨rA0, rA1, rA2, rA3, rA4⟩ := re5 HA3.out
  obtain ⟨rB0, rB1, rB2, rB3, rB4⟩ := re5 HB3.out
  have cG := Lib.hid (Good_re (w := w3) s g t n m true HGB'.out)
  go_wp2_with fail
  refine wp_region_quiet_below (by kernel_rfl) (by kernel_rfl) ?_
  repeat (go_big_quiet_step ((with_reducible exact cG.out _ _)))
  refine wpQuiet_nil ?_
  intro _ hw'
  obtain ⟨⟨dq, osq⟩, hw''⟩ := hw'
  subst hw''
  clear rA0 rA1 rA2 rA3 rA4 rB0 rB1 rB2 rB3 rB4 cG
  have hbq := below_regrown w3 dq osq
  have HA4 := Lib.hid (HA3.out.below hbq)
  have HW4 := Lib.hid (below_trans HW3.out hbq)
  clear hbq
  generalize grow (redrawn w3 dq) osq = w4 at HA4 HW4 ⊢
  go_wp2_with fail
  refine (UA.out _ (HL.out.keep HW4.out)).mono ?_
  rintro e w5 ⟨rfl, hb⟩
  have HA5 := Lib.hid ((HA4.out.below hb).alloc (.cells #[.int .i64 s, .int .i64 g, .int .i64 t, .int .i64 n, .bool m] 23))
  have HW5 := Lib.hid (below_trans HW4.out hb)
  obtain ⟨a0, a1, a2, a3, a4⟩ := cell5 (HA4.out.below hb)
  have hz5 := (HA4.out.below hb).lt
  clear hb
  go_wp2_with fail
  refine (US.out _ (HL.out.keep (Lib.hid (below_alloc HW5.out _)).out)).mono ?_
  rintro e w6 ⟨rfl, hb⟩
  have HW6 := Lib.hid (below_trans (Lib.hid (below_alloc HW5.out _)).out hb)
  clear hb
  go_wp2_with fail
  refine (PD.out _ (HL.out.keep (below_alloc HW6.out _))).mono ?_
  rintro e w7 ⟨rfl, hb⟩
  have HW7 := Lib.hid (below_trans (below_alloc HW6.out _) hb)
  clear hb
  go_wp2
  go_ret
  exact ⟨rfl, HW7.out⟩
set_option maxRecDepth 100000 in
set_option maxHeartbeats 2000000 in
theorem back_ggn_no (a b : Addr) (s g t n : Int) (m : Bool) (s1 g1 t1 n1 : Int) (m1 : Bool) (st : ByteArray) (w : World) (L : Env w a b) (hl : st.size ≤ 1024) (hga : goodB s g t n = true) (hgb : goodB s1 g1 t1 n1 = true) (hq : decide ((Wd.mk s g t n m) = (Wd.mk s1 g1 t1 n1 m1)) = false) (hd : ∀ d : Wd, d.Good → txtB d ≠ st) : Calls Tryd.prog 4 #[.agg #[.int .i64 s, .int .i64 g, .int .i64 t, .int .i64 n, .bool m], .agg #[.int .i64 s1, .int .i64 g1, .int .i64 t1, .int .i64 n1, .bool m1], .string st] w (True1 w) := by
  have HL := Lib.hid L
  have AW := Lib.hid (awake_true a b)
  have h1 : (st.size : Int) ≤ 1024 := by omega
  have HGB' := Lib.hid hga
  have HD := Lib.hid hd
  have HGA := Lib.hid (good_of m hga)
  have HGB := Lib.hid (good_of m1 hgb)
  have k1 : ((txtB (Wd.mk s g t n m)).toList == (txtB (Wd.mk s1 g1 t1 n1 m1)).toList) = false := by rw [txtB_eq]; exact hq
  have k2 : ∀ w, (binOp .eql 23 (.agg #[.int .i64 s, .int .i64 g, .int .i64 t, .int .i64 n, .bool m]) (.agg #[.int .i64 s1, .int .i64 g1, .int .i64 t1, .int .i64 n1, .bool m1])).run Tryd.prog w = .ok (.bool false) w := fun w => by
    rw [eq23]
    have := eqB_iff (Wd.mk s g t n m) (Wd.mk s1 g1 t1 n1 m1)
    rw [hq] at this
    rw [show eqB s g t n m s1 g1 t1 n1 m1 = false from this]
  have k4 : ∀ w, (binOp .neq 23 (.agg #[.int .i64 s, .int .i64 g, .int .i64 t, .int .i64 n, .bool m]) (.agg #[.int .i64 s, .int .i64 g, .int .i64 t, .int .i64 n, .bool m])).run Tryd.prog w = .ok (.bool false) w := fun w => by rw [ne23]; simp [eqB]
  have k5 : ∀ w, (binOp .eql 23 (.agg #[.int .i64 0, .int .i64 0, .int .i64 0, .int .i64 0, .bool false]) (.agg #[.int .i64 0, .int .i64 0, .int .i64 0, .int .i64 0, .bool false])).run Tryd.prog w = .ok (.bool true) w := fun w => by rw [eq23]; rfl
  have q2 := noHeld
  have q3 := noGuard
  clear L hl hga hgb hd hq
  have PA := Lib.hid (Pack_good (Wd.mk s g t n m) HGA.out a b)
  have PB := Lib.hid (Pack_good (Wd.mk s1 g1 t1 n1 m1) HGB.out a b)
  have UA := Lib.hid (Unpack_yes (Wd.mk s g t n m) HGA.out a b)
  have US := Lib.hid (Unpack_no st HD.out a b)
  go_enter Tryd.func4, Tryd.ntmps4
  go_wp2_with fail
  refine (AW.out _ (HL.out.keep (below_alloc (below_alloc (Below.refl _ _) _) _))).mono ?_
  rintro e w1 ⟨rfl, hb⟩
  obtain ⟨b1, b2⟩ := blk2 w #[.int .i64 s, .int .i64 g, .int .i64 t, .int .i64 n, .bool m] #[.int .i64 s1, .int .i64 g1, .int .i64 t1, .int .i64 n1, .bool m1] 23 23
  have HA1 := Lib.hid (b1.below hb)
  have HB1 := Lib.hid (b2.below hb)
  have HW1 := Lib.hid (below_trans (below_alloc (below_alloc (Below.refl _ _) _) _) hb)
  clear hb b1 b2
  obtain ⟨a0, a1, a2, a3, a4⟩ := cell5 HA1.out
  go_wp2_with fail
  refine (PA.out _ (HL.out.keep HW1.out)).mono ?_
  rintro e w2 ⟨rfl, hb⟩
  clear a0 a1 a2 a3 a4
  have HA2 := Lib.hid (HA1.out.below hb)
  have HB2 := Lib.hid (HB1.out.below hb)
  have HW2 := Lib.hid (below_trans HW1.out hb)
  clear hb
  obtain ⟨a0, a1, a2, a3, a4⟩ := cell5 HB2.out
  go_wp2_with fail
  refine (PB.out _ (HL.out.keep HW2.out)).mono ?_
  rintro e w3 ⟨rfl, hb⟩
  clear a0 a1 a2 a3 a4
  have HA3 := Lib.hid (HA2.out.below hb)
  have HB3 := Lib.hid (HB2.out.below hb)
  have HW3 := Lib.hid (below_trans HW2.out hb)
  clear hb
  obtain ⟨rA0, rA1, rA2, rA3, rA4⟩ := re5 HA3.out
  obtain ⟨rB0, rB1, rB2, rB3, rB4⟩ := re5 HB3.out
  have cG := Lib.hid (Good_re (w := w3) s g t n m true HGB'.out)
  go_wp2_with fail
  refine wp_region_quiet_below (by kernel_rfl) (by kernel_rfl) ?_
  repeat (go_big_quiet_step ((with_reducible exact cG.out _ _)))
  refine wpQuiet_nil ?_
  intro _ hw'
  obtain ⟨⟨dq, osq⟩, hw''⟩ := hw'
  subst hw''
  clear rA0 rA1 rA2 rA3 rA4 rB0 rB1 rB2 rB3 rB4 cG
  have hbq := below_regrown w3 dq osq
  have HA4 := Lib.hid (HA3.out.below hbq)
  have HW4 := Lib.hid (below_trans HW3.out hbq)
  clear hbq
  generalize grow (redrawn w3 dq) osq = w4 at HA4 HW4 ⊢
  go_wp2_with fail
  refine (UA.out _ (HL.out.keep HW4.out)).mono ?_
  rintro e w5 ⟨rfl, hb⟩
  have HA5 := Lib.hid ((HA4.out.below hb).alloc (.cells #[.int .i64 s, .int .i64 g, .int .i64 t, .int .i64 n, .bool m] 23))
  have HW5 := Lib.hid (below_trans HW4.out hb)
  obtain ⟨a0, a1, a2, a3, a4⟩ := cell5 (HA4.out.below hb)
  have hz5 := (HA4.out.below hb).lt
  clear hb
  go_wp2_with fail
  refine (US.out _ (HL.out.keep (Lib.hid (below_alloc HW5.out _)).out)).mono ?_
  rintro e w6 ⟨u6, rfl, hch, hb⟩
  obtain ⟨T6, x6, rfl⟩ := hch.shape
  clear hch
  have HW6 := Lib.hid (below_trans (Lib.hid (below_alloc HW5.out _)).out hb)
  clear hb
  go_wp2
  go_ret
  exact ⟨rfl, below_alloc HW6.out _⟩
set_option maxRecDepth 100000 in
set_option maxHeartbeats 2000000 in
theorem back_gb_yes (a b : Addr) (s g t n : Int) (m : Bool) (s1 g1 t1 n1 : Int) (m1 : Bool) (st : ByteArray) (w : World) (L : Env w a b) (hl : st.size ≤ 1024) (hga : goodB s g t n = true) (hgb : goodB s1 g1 t1 n1 = false) (d : Wd) (hd : d.Good) (hst : txtB d = st) : Calls Tryd.prog 4 #[.agg #[.int .i64 s, .int .i64 g, .int .i64 t, .int .i64 n, .bool m], .agg #[.int .i64 s1, .int .i64 g1, .int .i64 t1, .int .i64 n1, .bool m1], .string st] w (True1 w) := by
  subst hst
  have k3 : ((txtB d).toList == (txtB d).toList) = true := by simp
  have HL := Lib.hid L
  have AW := Lib.hid (awake_true a b)
  have h1 : ((txtB d).size : Int) ≤ 1024 := by omega
  have HGB' := Lib.hid hga
  have HD := Lib.hid hd
  have HGA := Lib.hid (good_of m hga)
  have HGB := Lib.hid (hgb)
  have k4 : ∀ w, (binOp .neq 23 (.agg #[.int .i64 s, .int .i64 g, .int .i64 t, .int .i64 n, .bool m]) (.agg #[.int .i64 s, .int .i64 g, .int .i64 t, .int .i64 n, .bool m])).run Tryd.prog w = .ok (.bool false) w := fun w => by rw [ne23]; simp [eqB]
  have q2 := noHeld
  have q3 := noGuard
  clear L hl hga hgb hd
  have PA := Lib.hid (Pack_good (Wd.mk s g t n m) HGA.out a b)
  have PB := Lib.hid (Pack_bad s1 g1 t1 n1 m1 HGB.out a b)
  have UA := Lib.hid (Unpack_yes (Wd.mk s g t n m) HGA.out a b)
  have US := Lib.hid (Unpack_yes d HD.out a b)
  have PD := Lib.hid (Pack_good d HD.out a b)
  go_enter Tryd.func4, Tryd.ntmps4
  go_wp2_with fail
  refine (AW.out _ (HL.out.keep (below_alloc (below_alloc (Below.refl _ _) _) _))).mono ?_
  rintro e w1 ⟨rfl, hb⟩
  obtain ⟨b1, b2⟩ := blk2 w #[.int .i64 s, .int .i64 g, .int .i64 t, .int .i64 n, .bool m] #[.int .i64 s1, .int .i64 g1, .int .i64 t1, .int .i64 n1, .bool m1] 23 23
  have HA1 := Lib.hid (b1.below hb)
  have HB1 := Lib.hid (b2.below hb)
  have HW1 := Lib.hid (below_trans (below_alloc (below_alloc (Below.refl _ _) _) _) hb)
  clear hb b1 b2
  obtain ⟨a0, a1, a2, a3, a4⟩ := cell5 HA1.out
  go_wp2_with fail
  refine (PA.out _ (HL.out.keep HW1.out)).mono ?_
  rintro e w2 ⟨rfl, hb⟩
  clear a0 a1 a2 a3 a4
  have HA2 := Lib.hid (HA1.out.below hb)
  have HB2 := Lib.hid (HB1.out.below hb)
  have HW2 := Lib.hid (below_trans HW1.out hb)
  clear hb
  obtain ⟨a0, a1, a2, a3, a4⟩ := cell5 HB2.out
  go_wp2_with fail
  refine (PB.out _ (HL.out.keep HW2.out)).mono ?_
  rintro e w3 ⟨u3, rfl, hch, hb⟩
  obtain ⟨T3, x3, rfl⟩ := hch.shape
  clear hch
  clear a0 a1 a2 a3 a4
  have HA3 := Lib.hid (HA2.out.below hb)
  have HB3 := Lib.hid (HB2.out.below hb)
  have HW3 := Lib.hid (below_trans HW2.out hb)
  clear hb
  obtain ⟨rA0, rA1, rA2, rA3, rA4⟩ := re5 HA3.out
  obtain ⟨rB0, rB1, rB2, rB3, rB4⟩ := re5 HB3.out
  have cG := Lib.hid (Good_re (w := w3) s g t n m true HGB'.out)
  go_wp2_with fail
  refine wp_region_quiet_below (by kernel_rfl) (by kernel_rfl) ?_
  repeat (go_big_quiet_step ((with_reducible exact cG.out _ _)))
  refine wpQuiet_nil ?_
  intro _ hw'
  obtain ⟨⟨dq, osq⟩, hw''⟩ := hw'
  subst hw''
  clear rA0 rA1 rA2 rA3 rA4 rB0 rB1 rB2 rB3 rB4 cG
  have hbq := below_regrown w3 dq osq
  have HA4 := Lib.hid (HA3.out.below hbq)
  have HW4 := Lib.hid (below_trans HW3.out hbq)
  clear hbq
  generalize grow (redrawn w3 dq) osq = w4 at HA4 HW4 ⊢
  go_wp2_with fail
  refine (UA.out _ (HL.out.keep HW4.out)).mono ?_
  rintro e w5 ⟨rfl, hb⟩
  have HA5 := Lib.hid ((HA4.out.below hb).alloc (.cells #[.int .i64 s, .int .i64 g, .int .i64 t, .int .i64 n, .bool m] 23))
  have HW5 := Lib.hid (below_trans HW4.out hb)
  obtain ⟨a0, a1, a2, a3, a4⟩ := cell5 (HA4.out.below hb)
  have hz5 := (HA4.out.below hb).lt
  clear hb
  go_wp2_with fail
  refine (US.out _ (HL.out.keep (Lib.hid (below_alloc HW5.out _)).out)).mono ?_
  rintro e w6 ⟨rfl, hb⟩
  have HW6 := Lib.hid (below_trans (Lib.hid (below_alloc HW5.out _)).out hb)
  clear hb
  go_wp2_with fail
  refine (PD.out _ (HL.out.keep (below_alloc HW6.out _))).mono ?_
  rintro e w7 ⟨rfl, hb⟩
  have HW7 := Lib.hid (below_trans (below_alloc HW6.out _) hb)
  clear hb
  go_wp2
  go_ret
  exact ⟨rfl, HW7.out⟩
set_option maxRecDepth 100000 in
set_option maxHeartbeats 2000000 in
theorem back_gb_no (a b : Addr) (s g t n : Int) (m : Bool) (s1 g1 t1 n1 : Int) (m1 : Bool) (st : ByteArray) (w : World) (L : Env w a b) (hl : st.size ≤ 1024) (hga : goodB s g t n = true) (hgb : goodB s1 g1 t1 n1 = false) (hd : ∀ d : Wd, d.Good → txtB d ≠ st) : Calls Tryd.prog 4 #[.agg #[.int .i64 s, .int .i64 g, .int .i64 t, .int .i64 n, .bool m], .agg #[.int .i64 s1, .int .i64 g1, .int .i64 t1, .int .i64 n1, .bool m1], .string st] w (True1 w) := by
  have HL := Lib.hid L
  have AW := Lib.hid (awake_true a b)
  have h1 : (st.size : Int) ≤ 1024 := by omega
  have HGB' := Lib.hid hga
  have HD := Lib.hid hd
  have HGA := Lib.hid (good_of m hga)
  have HGB := Lib.hid (hgb)
  have k4 : ∀ w, (binOp .neq 23 (.agg #[.int .i64 s, .int .i64 g, .int .i64 t, .int .i64 n, .bool m]) (.agg #[.int .i64 s, .int .i64 g, .int .i64 t, .int .i64 n, .bool m])).run Tryd.prog w = .ok (.bool false) w := fun w => by rw [ne23]; simp [eqB]
  have k5 : ∀ w, (binOp .eql 23 (.agg #[.int .i64 0, .int .i64 0, .int .i64 0, .int .i64 0, .bool false]) (.agg #[.int .i64 0, .int .i64 0, .int .i64 0, .int .i64 0, .bool false])).run Tryd.prog w = .ok (.bool true) w := fun w => by rw [eq23]; rfl
  have q2 := noHeld
  have q3 := noGuard
  clear L hl hga hgb hd
  have PA := Lib.hid (Pack_good (Wd.mk s g t n m) HGA.out a b)
  have PB := Lib.hid (Pack_bad s1 g1 t1 n1 m1 HGB.out a b)
  have UA := Lib.hid (Unpack_yes (Wd.mk s g t n m) HGA.out a b)
  have US := Lib.hid (Unpack_no st HD.out a b)
  go_enter Tryd.func4, Tryd.ntmps4
  go_wp2_with fail
  refine (AW.out _ (HL.out.keep (below_alloc (below_alloc (Below.refl _ _) _) _))).mono ?_
  rintro e w1 ⟨rfl, hb⟩
  obtain ⟨b1, b2⟩ := blk2 w #[.int .i64 s, .int .i64 g, .int .i64 t, .int .i64 n, .bool m] #[.int .i64 s1, .int .i64 g1, .int .i64 t1, .int .i64 n1, .bool m1] 23 23
  have HA1 := Lib.hid (b1.below hb)
  have HB1 := Lib.hid (b2.below hb)
  have HW1 := Lib.hid (below_trans (below_alloc (below_alloc (Below.refl _ _) _) _) hb)
  clear hb b1 b2
  obtain ⟨a0, a1, a2, a3, a4⟩ := cell5 HA1.out
  go_wp2_with fail
  refine (PA.out _ (HL.out.keep HW1.out)).mono ?_
  rintro e w2 ⟨rfl, hb⟩
  clear a0 a1 a2 a3 a4
  have HA2 := Lib.hid (HA1.out.below hb)
  have HB2 := Lib.hid (HB1.out.below hb)
  have HW2 := Lib.hid (below_trans HW1.out hb)
  clear hb
  obtain ⟨a0, a1, a2, a3, a4⟩ := cell5 HB2.out
  go_wp2_with fail
  refine (PB.out _ (HL.out.keep HW2.out)).mono ?_
  rintro e w3 ⟨u3, rfl, hch, hb⟩
  obtain ⟨T3, x3, rfl⟩ := hch.shape
  clear hch
  clear a0 a1 a2 a3 a4
  have HA3 := Lib.hid (HA2.out.below hb)
  have HB3 := Lib.hid (HB2.out.below hb)
  have HW3 := Lib.hid (below_trans HW2.out hb)
  clear hb
  obtain ⟨rA0, rA1, rA2, rA3, rA4⟩ := re5 HA3.out
  obtain ⟨rB0, rB1, rB2, rB3, rB4⟩ := re5 HB3.out
  have cG := Lib.hid (Good_re (w := w3) s g t n m true HGB'.out)
  go_wp2_with fail
  refine wp_region_quiet_below (by kernel_rfl) (by kernel_rfl) ?_
  repeat (go_big_quiet_step ((with_reducible exact cG.out _ _)))
  refine wpQuiet_nil ?_
  intro _ hw'
  obtain ⟨⟨dq, osq⟩, hw''⟩ := hw'
  subst hw''
  clear rA0 rA1 rA2 rA3 rA4 rB0 rB1 rB2 rB3 rB4 cG
  have hbq := below_regrown w3 dq osq
  have HA4 := Lib.hid (HA3.out.below hbq)
  have HW4 := Lib.hid (below_trans HW3.out hbq)
  clear hbq
  generalize grow (redrawn w3 dq) osq = w4 at HA4 HW4 ⊢
  go_wp2_with fail
  refine (UA.out _ (HL.out.keep HW4.out)).mono ?_
  rintro e w5 ⟨rfl, hb⟩
  have HA5 := Lib.hid ((HA4.out.below hb).alloc (.cells #[.int .i64 s, .int .i64 g, .int .i64 t, .int .i64 n, .bool m] 23))
  have HW5 := Lib.hid (below_trans HW4.out hb)
  obtain ⟨a0, a1, a2, a3, a4⟩ := cell5 (HA4.out.below hb)
  have hz5 := (HA4.out.below hb).lt
  clear hb
  go_wp2_with fail
  refine (US.out _ (HL.out.keep (Lib.hid (below_alloc HW5.out _)).out)).mono ?_
  rintro e w6 ⟨u6, rfl, hch, hb⟩
  obtain ⟨T6, x6, rfl⟩ := hch.shape
  clear hch
  have HW6 := Lib.hid (below_trans (Lib.hid (below_alloc HW5.out _)).out hb)
  clear hb
  go_wp2
  go_ret
  exact ⟨rfl, below_alloc HW6.out _⟩
set_option maxRecDepth 100000 in
set_option maxHeartbeats 2000000 in
theorem back_bg_yes (a b : Addr) (s g t n : Int) (m : Bool) (s1 g1 t1 n1 : Int) (m1 : Bool) (st : ByteArray) (w : World) (L : Env w a b) (hl : st.size ≤ 1024) (hga : goodB s g t n = false) (hgb : goodB s1 g1 t1 n1 = true) (d : Wd) (hd : d.Good) (hst : txtB d = st) : Calls Tryd.prog 4 #[.agg #[.int .i64 s, .int .i64 g, .int .i64 t, .int .i64 n, .bool m], .agg #[.int .i64 s1, .int .i64 g1, .int .i64 t1, .int .i64 n1, .bool m1], .string st] w (True1 w) := by
  subst hst
  have k3 : ((txtB d).toList == (txtB d).toList) = true := by simp
  have HL := Lib.hid L
  have AW := Lib.hid (awake_true a b)
  have h1 : ((txtB d).size : Int) ≤ 1024 := by omega
  have HGB' := Lib.hid hga
  have HD := Lib.hid hd
  have HGA := Lib.hid (hga)
  have HGB := Lib.hid (good_of m1 hgb)
  have q2 := noHeld
  have q3 := noGuard
  clear L hl hga hgb hd
  have PA := Lib.hid (Pack_bad s g t n m HGA.out a b)
  have PB := Lib.hid (Pack_good (Wd.mk s1 g1 t1 n1 m1) HGB.out a b)
  have US := Lib.hid (Unpack_yes d HD.out a b)
  have PD := Lib.hid (Pack_good d HD.out a b)
  go_enter Tryd.func4, Tryd.ntmps4
  go_wp2_with fail
  refine (AW.out _ (HL.out.keep (below_alloc (below_alloc (Below.refl _ _) _) _))).mono ?_
  rintro e w1 ⟨rfl, hb⟩
  obtain ⟨b1, b2⟩ := blk2 w #[.int .i64 s, .int .i64 g, .int .i64 t, .int .i64 n, .bool m] #[.int .i64 s1, .int .i64 g1, .int .i64 t1, .int .i64 n1, .bool m1] 23 23
  have HA1 := Lib.hid (b1.below hb)
  have HB1 := Lib.hid (b2.below hb)
  have HW1 := Lib.hid (below_trans (below_alloc (below_alloc (Below.refl _ _) _) _) hb)
  clear hb b1 b2
  obtain ⟨a0, a1, a2, a3, a4⟩ := cell5 HA1.out
  go_wp2_with fail
  refine (PA.out _ (HL.out.keep HW1.out)).mono ?_
  rintro e w2 ⟨u2, rfl, hch, hb⟩
  obtain ⟨T2, x2, rfl⟩ := hch.shape
  clear hch
  clear a0 a1 a2 a3 a4
  have HA2 := Lib.hid (HA1.out.below hb)
  have HB2 := Lib.hid (HB1.out.below hb)
  have HW2 := Lib.hid (below_trans HW1.out hb)
  clear hb
  obtain ⟨a0, a1, a2, a3, a4⟩ := cell5 HB2.out
  go_wp2_with fail
  refine (PB.out _ (HL.out.keep HW2.out)).mono ?_
  rintro e w3 ⟨rfl, hb⟩
  clear a0 a1 a2 a3 a4
  have HA3 := Lib.hid (HA2.out.below hb)
  have HB3 := Lib.hid (HB2.out.below hb)
  have HW3 := Lib.hid (below_trans HW2.out hb)
  clear hb
  obtain ⟨rA0, rA1, rA2, rA3, rA4⟩ := re5 HA3.out
  obtain ⟨rB0, rB1, rB2, rB3, rB4⟩ := re5 HB3.out
  have cG := Lib.hid (Good_re (w := w3) s g t n m false HGB'.out)
  go_wp2_with fail
  refine wp_region_quiet_below (by kernel_rfl) (by kernel_rfl) ?_
  repeat (go_big_quiet_step ((with_reducible exact cG.out _ _)))
  refine wpQuiet_nil ?_
  intro _ hw'
  obtain ⟨⟨dq, osq⟩, hw''⟩ := hw'
  subst hw''
  clear rA0 rA1 rA2 rA3 rA4 rB0 rB1 rB2 rB3 rB4 cG
  have hbq := below_regrown w3 dq osq
  have HA4 := Lib.hid (HA3.out.below hbq)
  have HW4 := Lib.hid (below_trans HW3.out hbq)
  clear hbq
  generalize grow (redrawn w3 dq) osq = w4 at HA4 HW4 ⊢
  go_wp2_with fail
  refine (US.out _ (HL.out.keep HW4.out)).mono ?_
  rintro e w6 ⟨rfl, hb⟩
  have HW6 := Lib.hid (below_trans HW4.out hb)
  clear hb
  go_wp2_with fail
  refine (PD.out _ (HL.out.keep (below_alloc HW6.out _))).mono ?_
  rintro e w7 ⟨rfl, hb⟩
  have HW7 := Lib.hid (below_trans (below_alloc HW6.out _) hb)
  clear hb
  go_wp2
  go_ret
  exact ⟨rfl, HW7.out⟩
set_option maxRecDepth 100000 in
set_option maxHeartbeats 2000000 in
theorem back_bg_no (a b : Addr) (s g t n : Int) (m : Bool) (s1 g1 t1 n1 : Int) (m1 : Bool) (st : ByteArray) (w : World) (L : Env w a b) (hl : st.size ≤ 1024) (hga : goodB s g t n = false) (hgb : goodB s1 g1 t1 n1 = true) (hd : ∀ d : Wd, d.Good → txtB d ≠ st) : Calls Tryd.prog 4 #[.agg #[.int .i64 s, .int .i64 g, .int .i64 t, .int .i64 n, .bool m], .agg #[.int .i64 s1, .int .i64 g1, .int .i64 t1, .int .i64 n1, .bool m1], .string st] w (True1 w) := by
  have HL := Lib.hid L
  have AW := Lib.hid (awake_true a b)
  have h1 : (st.size : Int) ≤ 1024 := by omega
  have HGB' := Lib.hid hga
  have HD := Lib.hid hd
  have HGA := Lib.hid (hga)
  have HGB := Lib.hid (good_of m1 hgb)
  have k5 : ∀ w, (binOp .eql 23 (.agg #[.int .i64 0, .int .i64 0, .int .i64 0, .int .i64 0, .bool false]) (.agg #[.int .i64 0, .int .i64 0, .int .i64 0, .int .i64 0, .bool false])).run Tryd.prog w = .ok (.bool true) w := fun w => by rw [eq23]; rfl
  have q2 := noHeld
  have q3 := noGuard
  clear L hl hga hgb hd
  have PA := Lib.hid (Pack_bad s g t n m HGA.out a b)
  have PB := Lib.hid (Pack_good (Wd.mk s1 g1 t1 n1 m1) HGB.out a b)
  have US := Lib.hid (Unpack_no st HD.out a b)
  go_enter Tryd.func4, Tryd.ntmps4
  go_wp2_with fail
  refine (AW.out _ (HL.out.keep (below_alloc (below_alloc (Below.refl _ _) _) _))).mono ?_
  rintro e w1 ⟨rfl, hb⟩
  obtain ⟨b1, b2⟩ := blk2 w #[.int .i64 s, .int .i64 g, .int .i64 t, .int .i64 n, .bool m] #[.int .i64 s1, .int .i64 g1, .int .i64 t1, .int .i64 n1, .bool m1] 23 23
  have HA1 := Lib.hid (b1.below hb)
  have HB1 := Lib.hid (b2.below hb)
  have HW1 := Lib.hid (below_trans (below_alloc (below_alloc (Below.refl _ _) _) _) hb)
  clear hb b1 b2
  obtain ⟨a0, a1, a2, a3, a4⟩ := cell5 HA1.out
  go_wp2_with fail
  refine (PA.out _ (HL.out.keep HW1.out)).mono ?_
  rintro e w2 ⟨u2, rfl, hch, hb⟩
  obtain ⟨T2, x2, rfl⟩ := hch.shape
  clear hch
  clear a0 a1 a2 a3 a4
  have HA2 := Lib.hid (HA1.out.below hb)
  have HB2 := Lib.hid (HB1.out.below hb)
  have HW2 := Lib.hid (below_trans HW1.out hb)
  clear hb
  obtain ⟨a0, a1, a2, a3, a4⟩ := cell5 HB2.out
  go_wp2_with fail
  refine (PB.out _ (HL.out.keep HW2.out)).mono ?_
  rintro e w3 ⟨rfl, hb⟩
  clear a0 a1 a2 a3 a4
  have HA3 := Lib.hid (HA2.out.below hb)
  have HB3 := Lib.hid (HB2.out.below hb)
  have HW3 := Lib.hid (below_trans HW2.out hb)
  clear hb
  obtain ⟨rA0, rA1, rA2, rA3, rA4⟩ := re5 HA3.out
  obtain ⟨rB0, rB1, rB2, rB3, rB4⟩ := re5 HB3.out
  have cG := Lib.hid (Good_re (w := w3) s g t n m false HGB'.out)
  go_wp2_with fail
  refine wp_region_quiet_below (by kernel_rfl) (by kernel_rfl) ?_
  repeat (go_big_quiet_step ((with_reducible exact cG.out _ _)))
  refine wpQuiet_nil ?_
  intro _ hw'
  obtain ⟨⟨dq, osq⟩, hw''⟩ := hw'
  subst hw''
  clear rA0 rA1 rA2 rA3 rA4 rB0 rB1 rB2 rB3 rB4 cG
  have hbq := below_regrown w3 dq osq
  have HA4 := Lib.hid (HA3.out.below hbq)
  have HW4 := Lib.hid (below_trans HW3.out hbq)
  clear hbq
  generalize grow (redrawn w3 dq) osq = w4 at HA4 HW4 ⊢
  go_wp2_with fail
  refine (US.out _ (HL.out.keep HW4.out)).mono ?_
  rintro e w6 ⟨u6, rfl, hch, hb⟩
  obtain ⟨T6, x6, rfl⟩ := hch.shape
  clear hch
  have HW6 := Lib.hid (below_trans HW4.out hb)
  clear hb
  go_wp2
  go_ret
  exact ⟨rfl, below_alloc HW6.out _⟩
set_option maxRecDepth 100000 in
set_option maxHeartbeats 2000000 in
theorem back_bb_yes (a b : Addr) (s g t n : Int) (m : Bool) (s1 g1 t1 n1 : Int) (m1 : Bool) (st : ByteArray) (w : World) (L : Env w a b) (hl : st.size ≤ 1024) (hga : goodB s g t n = false) (hgb : goodB s1 g1 t1 n1 = false) (d : Wd) (hd : d.Good) (hst : txtB d = st) : Calls Tryd.prog 4 #[.agg #[.int .i64 s, .int .i64 g, .int .i64 t, .int .i64 n, .bool m], .agg #[.int .i64 s1, .int .i64 g1, .int .i64 t1, .int .i64 n1, .bool m1], .string st] w (True1 w) := by
  subst hst
  have k3 : ((txtB d).toList == (txtB d).toList) = true := by simp
  have HL := Lib.hid L
  have AW := Lib.hid (awake_true a b)
  have h1 : ((txtB d).size : Int) ≤ 1024 := by omega
  have HGB' := Lib.hid hga
  have HD := Lib.hid hd
  have HGA := Lib.hid (hga)
  have HGB := Lib.hid (hgb)
  have q2 := noHeld
  have q3 := noGuard
  clear L hl hga hgb hd
  have PA := Lib.hid (Pack_bad s g t n m HGA.out a b)
  have PB := Lib.hid (Pack_bad s1 g1 t1 n1 m1 HGB.out a b)
  have US := Lib.hid (Unpack_yes d HD.out a b)
  have PD := Lib.hid (Pack_good d HD.out a b)
  go_enter Tryd.func4, Tryd.ntmps4
  go_wp2_with fail
  refine (AW.out _ (HL.out.keep (below_alloc (below_alloc (Below.refl _ _) _) _))).mono ?_
  rintro e w1 ⟨rfl, hb⟩
  obtain ⟨b1, b2⟩ := blk2 w #[.int .i64 s, .int .i64 g, .int .i64 t, .int .i64 n, .bool m] #[.int .i64 s1, .int .i64 g1, .int .i64 t1, .int .i64 n1, .bool m1] 23 23
  have HA1 := Lib.hid (b1.below hb)
  have HB1 := Lib.hid (b2.below hb)
  have HW1 := Lib.hid (below_trans (below_alloc (below_alloc (Below.refl _ _) _) _) hb)
  clear hb b1 b2
  obtain ⟨a0, a1, a2, a3, a4⟩ := cell5 HA1.out
  go_wp2_with fail
  refine (PA.out _ (HL.out.keep HW1.out)).mono ?_
  rintro e w2 ⟨u2, rfl, hch, hb⟩
  obtain ⟨T2, x2, rfl⟩ := hch.shape
  clear hch
  clear a0 a1 a2 a3 a4
  have HA2 := Lib.hid (HA1.out.below hb)
  have HB2 := Lib.hid (HB1.out.below hb)
  have HW2 := Lib.hid (below_trans HW1.out hb)
  clear hb
  obtain ⟨a0, a1, a2, a3, a4⟩ := cell5 HB2.out
  go_wp2_with fail
  refine (PB.out _ (HL.out.keep HW2.out)).mono ?_
  rintro e w3 ⟨u3, rfl, hch, hb⟩
  obtain ⟨T3, x3, rfl⟩ := hch.shape
  clear hch
  clear a0 a1 a2 a3 a4
  have HA3 := Lib.hid (HA2.out.below hb)
  have HB3 := Lib.hid (HB2.out.below hb)
  have HW3 := Lib.hid (below_trans HW2.out hb)
  clear hb
  obtain ⟨rA0, rA1, rA2, rA3, rA4⟩ := re5 HA3.out
  obtain ⟨rB0, rB1, rB2, rB3, rB4⟩ := re5 HB3.out
  have cG := Lib.hid (Good_re (w := w3) s g t n m false HGB'.out)
  go_wp2_with fail
  refine wp_region_quiet_below (by kernel_rfl) (by kernel_rfl) ?_
  repeat (go_big_quiet_step ((with_reducible exact cG.out _ _)))
  refine wpQuiet_nil ?_
  intro _ hw'
  obtain ⟨⟨dq, osq⟩, hw''⟩ := hw'
  subst hw''
  clear rA0 rA1 rA2 rA3 rA4 rB0 rB1 rB2 rB3 rB4 cG
  have hbq := below_regrown w3 dq osq
  have HA4 := Lib.hid (HA3.out.below hbq)
  have HW4 := Lib.hid (below_trans HW3.out hbq)
  clear hbq
  generalize grow (redrawn w3 dq) osq = w4 at HA4 HW4 ⊢
  go_wp2_with fail
  refine (US.out _ (HL.out.keep HW4.out)).mono ?_
  rintro e w6 ⟨rfl, hb⟩
  have HW6 := Lib.hid (below_trans HW4.out hb)
  clear hb
  go_wp2_with fail
  refine (PD.out _ (HL.out.keep (below_alloc HW6.out _))).mono ?_
  rintro e w7 ⟨rfl, hb⟩
  have HW7 := Lib.hid (below_trans (below_alloc HW6.out _) hb)
  clear hb
  go_wp2
  go_ret
  exact ⟨rfl, HW7.out⟩
set_option maxRecDepth 100000 in
set_option maxHeartbeats 2000000 in
theorem back_bb_no (a b : Addr) (s g t n : Int) (m : Bool) (s1 g1 t1 n1 : Int) (m1 : Bool) (st : ByteArray) (w : World) (L : Env w a b) (hl : st.size ≤ 1024) (hga : goodB s g t n = false) (hgb : goodB s1 g1 t1 n1 = false) (hd : ∀ d : Wd, d.Good → txtB d ≠ st) : Calls Tryd.prog 4 #[.agg #[.int .i64 s, .int .i64 g, .int .i64 t, .int .i64 n, .bool m], .agg #[.int .i64 s1, .int .i64 g1, .int .i64 t1, .int .i64 n1, .bool m1], .string st] w (True1 w) := by
  have HL := Lib.hid L
  have AW := Lib.hid (awake_true a b)
  have h1 : (st.size : Int) ≤ 1024 := by omega
  have HGB' := Lib.hid hga
  have HD := Lib.hid hd
  have HGA := Lib.hid (hga)
  have HGB := Lib.hid (hgb)
  have k5 : ∀ w, (binOp .eql 23 (.agg #[.int .i64 0, .int .i64 0, .int .i64 0, .int .i64 0, .bool false]) (.agg #[.int .i64 0, .int .i64 0, .int .i64 0, .int .i64 0, .bool false])).run Tryd.prog w = .ok (.bool true) w := fun w => by rw [eq23]; rfl
  have q2 := noHeld
  have q3 := noGuard
  clear L hl hga hgb hd
  have PA := Lib.hid (Pack_bad s g t n m HGA.out a b)
  have PB := Lib.hid (Pack_bad s1 g1 t1 n1 m1 HGB.out a b)
  have US := Lib.hid (Unpack_no st HD.out a b)
  go_enter Tryd.func4, Tryd.ntmps4
  go_wp2_with fail
  refine (AW.out _ (HL.out.keep (below_alloc (below_alloc (Below.refl _ _) _) _))).mono ?_
  rintro e w1 ⟨rfl, hb⟩
  obtain ⟨b1, b2⟩ := blk2 w #[.int .i64 s, .int .i64 g, .int .i64 t, .int .i64 n, .bool m] #[.int .i64 s1, .int .i64 g1, .int .i64 t1, .int .i64 n1, .bool m1] 23 23
  have HA1 := Lib.hid (b1.below hb)
  have HB1 := Lib.hid (b2.below hb)
  have HW1 := Lib.hid (below_trans (below_alloc (below_alloc (Below.refl _ _) _) _) hb)
  clear hb b1 b2
  obtain ⟨a0, a1, a2, a3, a4⟩ := cell5 HA1.out
  go_wp2_with fail
  refine (PA.out _ (HL.out.keep HW1.out)).mono ?_
  rintro e w2 ⟨u2, rfl, hch, hb⟩
  obtain ⟨T2, x2, rfl⟩ := hch.shape
  clear hch
  clear a0 a1 a2 a3 a4
  have HA2 := Lib.hid (HA1.out.below hb)
  have HB2 := Lib.hid (HB1.out.below hb)
  have HW2 := Lib.hid (below_trans HW1.out hb)
  clear hb
  obtain ⟨a0, a1, a2, a3, a4⟩ := cell5 HB2.out
  go_wp2_with fail
  refine (PB.out _ (HL.out.keep HW2.out)).mono ?_
  rintro e w3 ⟨u3, rfl, hch, hb⟩
  obtain ⟨T3, x3, rfl⟩ := hch.shape
  clear hch
  clear a0 a1 a2 a3 a4
  have HA3 := Lib.hid (HA2.out.below hb)
  have HB3 := Lib.hid (HB2.out.below hb)
  have HW3 := Lib.hid (below_trans HW2.out hb)
  clear hb
  obtain ⟨rA0, rA1, rA2, rA3, rA4⟩ := re5 HA3.out
  obtain ⟨rB0, rB1, rB2, rB3, rB4⟩ := re5 HB3.out
  have cG := Lib.hid (Good_re (w := w3) s g t n m false HGB'.out)
  go_wp2_with fail
  refine wp_region_quiet_below (by kernel_rfl) (by kernel_rfl) ?_
  repeat (go_big_quiet_step ((with_reducible exact cG.out _ _)))
  refine wpQuiet_nil ?_
  intro _ hw'
  obtain ⟨⟨dq, osq⟩, hw''⟩ := hw'
  subst hw''
  clear rA0 rA1 rA2 rA3 rA4 rB0 rB1 rB2 rB3 rB4 cG
  have hbq := below_regrown w3 dq osq
  have HA4 := Lib.hid (HA3.out.below hbq)
  have HW4 := Lib.hid (below_trans HW3.out hbq)
  clear hbq
  generalize grow (redrawn w3 dq) osq = w4 at HA4 HW4 ⊢
  go_wp2_with fail
  refine (US.out _ (HL.out.keep HW4.out)).mono ?_
  rintro e w6 ⟨u6, rfl, hch, hb⟩
  obtain ⟨T6, x6, rfl⟩ := hch.shape
  clear hch
  have HW6 := Lib.hid (below_trans HW4.out hb)
  clear hb
  go_wp2
  go_ret
  exact ⟨rfl, below_alloc HW6.out _⟩

theorem back_any (a b : Addr) (s g t n : Int) (m : Bool) (s1 g1 t1 n1 : Int) (m1 : Bool) (st : ByteArray) (w : World) (L : Env w a b) : Calls Tryd.prog 4 #[.agg #[.int .i64 s, .int .i64 g, .int .i64 t, .int .i64 n, .bool m], .agg #[.int .i64 s1, .int .i64 g1, .int .i64 t1, .int .i64 n1, .bool m1], .string st] w (True1 w) := by
  by_cases hl : 1024 < st.size
  · exact back_long a b s g t n m s1 g1 t1 n1 m1 st w L hl
  have hl : st.size ≤ 1024 := by omega
  by_cases hs : ∃ d : Wd, d.Good ∧ txtB d = st
  · obtain ⟨d, hd, hst⟩ := hs
    cases hga : goodB s g t n with
    | true =>
      cases hgb : goodB s1 g1 t1 n1 with
      | true =>
        cases hq : decide ((Wd.mk s g t n m) = (Wd.mk s1 g1 t1 n1 m1)) with
        | true => exact back_gge_yes a b s g t n m s1 g1 t1 n1 m1 st w L hl hga hgb hq d hd hst
        | false => exact back_ggn_yes a b s g t n m s1 g1 t1 n1 m1 st w L hl hga hgb hq d hd hst
      | false => exact back_gb_yes a b s g t n m s1 g1 t1 n1 m1 st w L hl hga hgb d hd hst
    | false =>
      cases hgb : goodB s1 g1 t1 n1 with
      | true => exact back_bg_yes a b s g t n m s1 g1 t1 n1 m1 st w L hl hga hgb d hd hst
      | false => exact back_bb_yes a b s g t n m s1 g1 t1 n1 m1 st w L hl hga hgb d hd hst
  · have hd : ∀ d : Wd, d.Good → txtB d ≠ st := fun d h e => hs ⟨d, h, e⟩
    cases hga : goodB s g t n with
    | true =>
      cases hgb : goodB s1 g1 t1 n1 with
      | true =>
        cases hq : decide ((Wd.mk s g t n m) = (Wd.mk s1 g1 t1 n1 m1)) with
        | true => exact back_gge_no a b s g t n m s1 g1 t1 n1 m1 st w L hl hga hgb hq hd
        | false => exact back_ggn_no a b s g t n m s1 g1 t1 n1 m1 st w L hl hga hgb hq hd
      | false => exact back_gb_no a b s g t n m s1 g1 t1 n1 m1 st w L hl hga hgb hd
    | false =>
      cases hgb : goodB s1 g1 t1 n1 with
      | true => exact back_bg_no a b s g t n m s1 g1 t1 n1 m1 st w L hl hga hgb hd
      | false => exact back_bb_no a b s g t n m s1 g1 t1 n1 m1 st w L hl hga hgb hd
end Go.Proofs.YtjkgglihpkkieaaDoor
