/- The walk of GlyphWrites. -/
import Derived.Test.YtjkgglihpkkieaaDoorQ
import Derived.Test.YtjkgglihpkkieaaDoorT
namespace Go.Proofs.YtjkgglihpkkieaaDoor
open Go.RowKit Go.Extern.Stop Go.Stop Go.Extern Go.Sort

/-! ### GlyphWrites -/
theorem rUnp_post (st : ByteArray) (w : World) : Calls Tryd.prog 12 #[.string st] w (RuPost w st) := by
  by_cases h1 : st.size < 1
  · exact rUnpack_short st h1 w
  · by_cases h2 : 80 < st.size
    · exact rUnpack_long st h2 w
    · exact rUnpack_any st (by omega) (by omega) w
theorem rUnp_yes (d : Wd) (hd : d.Good) (w : World) : Calls Tryd.prog 12 #[.string (txtB d)] w fun e w' => e = .returned (.tuple #[.agg #[.int .i64 d.slot, .int .i64 d.gen, .int .i64 d.tag, .int .i64 d.num, .bool d.mark], .bool true]) ∧ Below w.heap.size w w' :=
  (rUnp_post (txtB d) w).mono fun e w' ⟨c, r, he, h, hb⟩ => by
    rcases h with ⟨rfl, _, ht⟩ | ⟨_, _, hno⟩
    · have e : c = d := txt_inj (by have := congrArg (fun x : ByteArray => x.data.toList) ht; exact this)
      subst e
      exact ⟨he, hb⟩
    · exact absurd rfl (hno d hd)
theorem rUnp_no (st : ByteArray) (hst : ∀ d : Wd, d.Good → txtB d ≠ st) (w : World) : Calls Tryd.prog 12 #[.string st] w fun e w' => e = .returned (.tuple #[.agg #[.int .i64 0, .int .i64 0, .int .i64 0, .int .i64 0, .bool false], .bool false]) ∧ Below w.heap.size w w' :=
  (rUnp_post st w).mono fun e w' ⟨c, r, he, h, hb⟩ => by
    rcases h with ⟨_, hg, ht⟩ | ⟨rfl, rfl, _⟩
    · exact absurd ht (hst c hg)
    · exact ⟨he, hb⟩
theorem txtB_ne (c : Wd) : (txtB c).toList ≠ [] := by
  intro e
  rw [ByteArray.toList_eq] at e
  have : txt c = [] := e
  simp [txt] at this

set_option maxRecDepth 100000 in
set_option maxHeartbeats 2000000 in
theorem writes_long (a b : Addr) (s g t n : Int) (m : Bool) (st : ByteArray) (w : World) (L : Env w a b) (hl : 1024 < st.size) : Calls Tryd.prog 3 #[.agg #[.int .i64 s, .int .i64 g, .int .i64 t, .int .i64 n, .bool m], .string st] w (True1 w) := by
  have HL := Lib.hid L
  have AW := Lib.hid (awake_true a b)
  have h1 : (1024 : Int) < st.size := by omega
  clear L
  go_enter Tryd.func3, Tryd.ntmps3
  go_wp2_with fail
  refine (AW.out _ (HL.out.keep (below_alloc (Below.refl _ _) _))).mono ?_
  rintro e w1 ⟨rfl, hb⟩
  have HW1 := Lib.hid (below_trans (below_alloc (Below.refl _ _) _) hb)
  clear hb
  go_wp2
  go_ret
  exact ⟨rfl, HW1.out⟩
set_option maxRecDepth 100000 in
set_option maxHeartbeats 2000000 in
theorem writes_g_yes (a b : Addr) (s g t n : Int) (m : Bool) (st : ByteArray) (w : World) (L : Env w a b) (hl : st.size ≤ 1024) (hga : goodB s g t n = true) (d : Wd) (hd : d.Good) (hst : txtB d = st) : Calls Tryd.prog 3 #[.agg #[.int .i64 s, .int .i64 g, .int .i64 t, .int .i64 n, .bool m], .string st] w (True1 w) := by
  subst hst
  have HL := Lib.hid L
  have AW := Lib.hid (awake_true a b)
  have h1 : ((txtB d).size : Int) ≤ 1024 := by omega
  have HD := Lib.hid hd
  have HGA := Lib.hid (good_of m hga)
  have k3 := txtB_ne (Wd.mk s g t n m)
  have k1 : ((txtB (Wd.mk s g t n m)).toList == (txtB (Wd.mk s g t n m)).toList) = true := by simp
  have k2 : ((txtB (Wd.mk s g t n m)).toList != (txtB (Wd.mk s g t n m)).toList) = false := by simp
  have k4 : (txtB (Wd.mk s g t n m)).toList.isEmpty = false := by simpa using k3
  have k5 : (!(txtB (Wd.mk s g t n m)).toList.isEmpty) = true := by rw [k4]; rfl
  have k6 : ((txtB (Wd.mk s g t n m)).toList == []) = false := by rw [beq_eq_false_iff_ne]; exact k3
  have k7 : ((txtB (Wd.mk s g t n m)).toList != []) = true := by rw [bne, k6]; rfl
  have q1 : ∀ w, (binOp .eql 23 (.agg #[.int .i64 d.slot, .int .i64 d.gen, .int .i64 d.tag, .int .i64 d.num, .bool d.mark]) (.agg #[.int .i64 d.slot, .int .i64 d.gen, .int .i64 d.tag, .int .i64 d.num, .bool d.mark])).run Tryd.prog w = .ok (.bool true) w := fun w => by rw [eq23]; simp [eqB]
  have q2 := noHeld
  have q3 := noGuard
  clear L hl hga hd
  have PA := Lib.hid (Pack_good (Wd.mk s g t n m) HGA.out a b)
  have RA := Lib.hid (rPack_good (Wd.mk s g t n m) HGA.out)
  have US := Lib.hid (Unpack_yes d HD.out a b)
  have RS := Lib.hid (rUnp_yes d HD.out)
  go_enter Tryd.func3, Tryd.ntmps3
  go_wp2_with fail
  refine (AW.out _ (HL.out.keep (below_alloc (Below.refl _ _) _))).mono ?_
  rintro e w1 ⟨rfl, hb⟩
  have HA1 := Lib.hid ((BlkW.new w 23 #[.int .i64 s, .int .i64 g, .int .i64 t, .int .i64 n, .bool m]).below hb)
  have HW1 := Lib.hid (below_trans (below_alloc (Below.refl _ _) _) hb)
  clear hb
  obtain ⟨a0, a1, a2, a3, a4⟩ := cell5 HA1.out
  go_wp2_with fail
  refine (PA.out _ (HL.out.keep HW1.out)).mono ?_
  rintro e w2 ⟨rfl, hb⟩
  clear a0 a1 a2 a3 a4
  have HA2 := Lib.hid (HA1.out.below hb)
  have HW2 := Lib.hid (below_trans HW1.out hb)
  clear hb
  obtain ⟨a0, a1, a2, a3, a4⟩ := cell5 HA2.out
  go_wp2_with fail
  refine (RA.out _).mono ?_
  rintro e w3 ⟨rfl, hb⟩
  have HW3 := Lib.hid (below_trans HW2.out hb)
  clear hb a0 a1 a2 a3 a4
  go_wp2_with fail
  refine (US.out _ (HL.out.keep HW3.out)).mono ?_
  rintro e w4 ⟨rfl, hb⟩
  have HW4 := Lib.hid (below_trans HW3.out hb)
  clear hb
  go_wp2_with fail
  refine (RS.out _).mono ?_
  rintro e w5 ⟨rfl, hb⟩
  have HV5 := Lib.hid ((BlkW.new w4 23 #[.int .i64 d.slot, .int .i64 d.gen, .int .i64 d.tag, .int .i64 d.num, .bool d.mark]).below hb)
  have HW5 := Lib.hid (below_alloc (below_trans (below_alloc HW4.out (.cells #[.int .i64 d.slot, .int .i64 d.gen, .int .i64 d.tag, .int .i64 d.num, .bool d.mark] 23)) hb) (.cells #[.int .i64 d.slot, .int .i64 d.gen, .int .i64 d.tag, .int .i64 d.num, .bool d.mark] 23))
  clear hb
  obtain ⟨v0, v1, v2, v3, v4⟩ := cell5 HV5.out
  have hz5 := HV5.out.lt
  have l0 := (HL.out.keep HW5.out).arg
  have l1 := (HL.out.keep HW5.out).word
  go_wp2
  go_ret
  exact ⟨rfl, HW5.out⟩
set_option maxRecDepth 100000 in
set_option maxHeartbeats 2000000 in
theorem writes_g_no (a b : Addr) (s g t n : Int) (m : Bool) (st : ByteArray) (w : World) (L : Env w a b) (hl : st.size ≤ 1024) (hga : goodB s g t n = true) (hd : ∀ d : Wd, d.Good → txtB d ≠ st) : Calls Tryd.prog 3 #[.agg #[.int .i64 s, .int .i64 g, .int .i64 t, .int .i64 n, .bool m], .string st] w (True1 w) := by
  have HL := Lib.hid L
  have AW := Lib.hid (awake_true a b)
  have h1 : (st.size : Int) ≤ 1024 := by omega
  have HD := Lib.hid hd
  have HGA := Lib.hid (good_of m hga)
  have k3 := txtB_ne (Wd.mk s g t n m)
  have k1 : ((txtB (Wd.mk s g t n m)).toList == (txtB (Wd.mk s g t n m)).toList) = true := by simp
  have k2 : ((txtB (Wd.mk s g t n m)).toList != (txtB (Wd.mk s g t n m)).toList) = false := by simp
  have k4 : (txtB (Wd.mk s g t n m)).toList.isEmpty = false := by simpa using k3
  have k5 : (!(txtB (Wd.mk s g t n m)).toList.isEmpty) = true := by rw [k4]; rfl
  have k6 : ((txtB (Wd.mk s g t n m)).toList == []) = false := by rw [beq_eq_false_iff_ne]; exact k3
  have k7 : ((txtB (Wd.mk s g t n m)).toList != []) = true := by rw [bne, k6]; rfl
  have q1 : ∀ w, (binOp .eql 23 (.agg #[.int .i64 0, .int .i64 0, .int .i64 0, .int .i64 0, .bool false]) (.agg #[.int .i64 0, .int .i64 0, .int .i64 0, .int .i64 0, .bool false])).run Tryd.prog w = .ok (.bool true) w := fun w => by rw [eq23]; rfl
  have q2 := noHeld
  have q3 := noGuard
  clear L hl hga hd
  have PA := Lib.hid (Pack_good (Wd.mk s g t n m) HGA.out a b)
  have RA := Lib.hid (rPack_good (Wd.mk s g t n m) HGA.out)
  have US := Lib.hid (Unpack_no st HD.out a b)
  have RS := Lib.hid (rUnp_no st HD.out)
  go_enter Tryd.func3, Tryd.ntmps3
  go_wp2_with fail
  refine (AW.out _ (HL.out.keep (below_alloc (Below.refl _ _) _))).mono ?_
  rintro e w1 ⟨rfl, hb⟩
  have HA1 := Lib.hid ((BlkW.new w 23 #[.int .i64 s, .int .i64 g, .int .i64 t, .int .i64 n, .bool m]).below hb)
  have HW1 := Lib.hid (below_trans (below_alloc (Below.refl _ _) _) hb)
  clear hb
  obtain ⟨a0, a1, a2, a3, a4⟩ := cell5 HA1.out
  go_wp2_with fail
  refine (PA.out _ (HL.out.keep HW1.out)).mono ?_
  rintro e w2 ⟨rfl, hb⟩
  clear a0 a1 a2 a3 a4
  have HA2 := Lib.hid (HA1.out.below hb)
  have HW2 := Lib.hid (below_trans HW1.out hb)
  clear hb
  obtain ⟨a0, a1, a2, a3, a4⟩ := cell5 HA2.out
  go_wp2_with fail
  refine (RA.out _).mono ?_
  rintro e w3 ⟨rfl, hb⟩
  have HW3 := Lib.hid (below_trans HW2.out hb)
  clear hb a0 a1 a2 a3 a4
  go_wp2_with fail
  refine (US.out _ (HL.out.keep HW3.out)).mono ?_
  rintro e w4 ⟨u4, rfl, hch, hb⟩
  obtain ⟨T4, x4, rfl⟩ := hch.shape
  have HF4 := Lib.hid hch
  clear hch
  have HW4 := Lib.hid (below_trans HW3.out hb)
  clear hb
  go_wp2_with fail
  refine (RS.out _).mono ?_
  rintro e w5 ⟨rfl, hb⟩
  have HV5 := Lib.hid ((BlkW.new w4 23 #[.int .i64 0, .int .i64 0, .int .i64 0, .int .i64 0, .bool false]).below hb)
  have HW5 := Lib.hid (below_alloc (below_trans (below_alloc HW4.out (.cells #[.int .i64 0, .int .i64 0, .int .i64 0, .int .i64 0, .bool false] 23)) hb) (.cells #[.int .i64 0, .int .i64 0, .int .i64 0, .int .i64 0, .bool false] 23))
  have HF5 := Lib.hid ((HF4.out.keep (below_trans (below_alloc (Below.refl _ _) (.cells #[.int .i64 0, .int .i64 0, .int .i64 0, .int .i64 0, .bool false] 23)) hb)).keep (below_alloc (Below.refl _ _) (.cells #[.int .i64 0, .int .i64 0, .int .i64 0, .int .i64 0, .bool false] 23)))
  clear hb
  obtain ⟨v0, v1, v2, v3, v4⟩ := cell5 HV5.out
  have hz5 := HV5.out.lt
  have l0 := (HL.out.keep HW5.out).arg
  have l1 := (HL.out.keep HW5.out).word
  go_wp2_with fail
  refine (Is_same HF5.out).mono ?_
  rintro e w6 ⟨rfl, rfl⟩
  go_wp2
  go_ret
  exact ⟨rfl, HW5.out⟩
set_option maxRecDepth 100000 in
set_option maxHeartbeats 2000000 in
theorem writes_b_yes (a b : Addr) (s g t n : Int) (m : Bool) (st : ByteArray) (w : World) (L : Env w a b) (hl : st.size ≤ 1024) (hga : goodB s g t n = false) (d : Wd) (hd : d.Good) (hst : txtB d = st) : Calls Tryd.prog 3 #[.agg #[.int .i64 s, .int .i64 g, .int .i64 t, .int .i64 n, .bool m], .string st] w (True1 w) := by
  subst hst
  have HL := Lib.hid L
  have AW := Lib.hid (awake_true a b)
  have h1 : ((txtB d).size : Int) ≤ 1024 := by omega
  have HD := Lib.hid hd
  have HGA := Lib.hid (hga)
  have q1 : ∀ w, (binOp .eql 23 (.agg #[.int .i64 d.slot, .int .i64 d.gen, .int .i64 d.tag, .int .i64 d.num, .bool d.mark]) (.agg #[.int .i64 d.slot, .int .i64 d.gen, .int .i64 d.tag, .int .i64 d.num, .bool d.mark])).run Tryd.prog w = .ok (.bool true) w := fun w => by rw [eq23]; simp [eqB]
  have q2 := noHeld
  have q3 := noGuard
  clear L hl hga hd
  have PA := Lib.hid (Pack_bad s g t n m HGA.out a b)
  have RA := Lib.hid (rPack_bad s g t n m HGA.out)
  have US := Lib.hid (Unpack_yes d HD.out a b)
  have RS := Lib.hid (rUnp_yes d HD.out)
  go_enter Tryd.func3, Tryd.ntmps3
  go_wp2_with fail
  refine (AW.out _ (HL.out.keep (below_alloc (Below.refl _ _) _))).mono ?_
  rintro e w1 ⟨rfl, hb⟩
  have HA1 := Lib.hid ((BlkW.new w 23 #[.int .i64 s, .int .i64 g, .int .i64 t, .int .i64 n, .bool m]).below hb)
  have HW1 := Lib.hid (below_trans (below_alloc (Below.refl _ _) _) hb)
  clear hb
  obtain ⟨a0, a1, a2, a3, a4⟩ := cell5 HA1.out
  go_wp2_with fail
  refine (PA.out _ (HL.out.keep HW1.out)).mono ?_
  rintro e w2 ⟨u2, rfl, hch, hb⟩
  obtain ⟨T2, x2, rfl⟩ := hch.shape
  have HE2 := Lib.hid hch
  clear hch
  clear a0 a1 a2 a3 a4
  have HA2 := Lib.hid (HA1.out.below hb)
  have HW2 := Lib.hid (below_trans HW1.out hb)
  clear hb
  obtain ⟨a0, a1, a2, a3, a4⟩ := cell5 HA2.out
  go_wp2_with fail
  refine (RA.out _).mono ?_
  rintro e w3 ⟨rfl, hb⟩
  have HW3 := Lib.hid (below_trans HW2.out hb)
  have HE3 := Lib.hid (HE2.out.keep hb)
  clear hb a0 a1 a2 a3 a4
  go_wp2_with fail
  refine (US.out _ (HL.out.keep HW3.out)).mono ?_
  rintro e w4 ⟨rfl, hb⟩
  have HW4 := Lib.hid (below_trans HW3.out hb)
  have HE4 := Lib.hid (HE3.out.keep hb)
  clear hb
  go_wp2_with fail
  refine (RS.out _).mono ?_
  rintro e w5 ⟨rfl, hb⟩
  have HV5 := Lib.hid ((BlkW.new w4 23 #[.int .i64 d.slot, .int .i64 d.gen, .int .i64 d.tag, .int .i64 d.num, .bool d.mark]).below hb)
  have HW5 := Lib.hid (below_alloc (below_trans (below_alloc HW4.out (.cells #[.int .i64 d.slot, .int .i64 d.gen, .int .i64 d.tag, .int .i64 d.num, .bool d.mark] 23)) hb) (.cells #[.int .i64 d.slot, .int .i64 d.gen, .int .i64 d.tag, .int .i64 d.num, .bool d.mark] 23))
  have HE5 := Lib.hid ((HE4.out.keep (below_trans (below_alloc (Below.refl _ _) (.cells #[.int .i64 d.slot, .int .i64 d.gen, .int .i64 d.tag, .int .i64 d.num, .bool d.mark] 23)) hb)).keep (below_alloc (Below.refl _ _) (.cells #[.int .i64 d.slot, .int .i64 d.gen, .int .i64 d.tag, .int .i64 d.num, .bool d.mark] 23)))
  clear hb
  obtain ⟨v0, v1, v2, v3, v4⟩ := cell5 HV5.out
  have hz5 := HV5.out.lt
  have l0 := (HL.out.keep HW5.out).arg
  have l1 := (HL.out.keep HW5.out).word
  go_wp2_with fail
  refine (Is_same HE5.out).mono ?_
  rintro e w6 ⟨rfl, rfl⟩
  go_wp2
  go_ret
  exact ⟨rfl, HW5.out⟩
set_option maxRecDepth 100000 in
set_option maxHeartbeats 2000000 in
theorem writes_b_no (a b : Addr) (s g t n : Int) (m : Bool) (st : ByteArray) (w : World) (L : Env w a b) (hl : st.size ≤ 1024) (hga : goodB s g t n = false) (hd : ∀ d : Wd, d.Good → txtB d ≠ st) : Calls Tryd.prog 3 #[.agg #[.int .i64 s, .int .i64 g, .int .i64 t, .int .i64 n, .bool m], .string st] w (True1 w) := by
  have HL := Lib.hid L
  have AW := Lib.hid (awake_true a b)
  have h1 : (st.size : Int) ≤ 1024 := by omega
  have HD := Lib.hid hd
  have HGA := Lib.hid (hga)
  have q1 : ∀ w, (binOp .eql 23 (.agg #[.int .i64 0, .int .i64 0, .int .i64 0, .int .i64 0, .bool false]) (.agg #[.int .i64 0, .int .i64 0, .int .i64 0, .int .i64 0, .bool false])).run Tryd.prog w = .ok (.bool true) w := fun w => by rw [eq23]; rfl
  have q2 := noHeld
  have q3 := noGuard
  clear L hl hga hd
  have PA := Lib.hid (Pack_bad s g t n m HGA.out a b)
  have RA := Lib.hid (rPack_bad s g t n m HGA.out)
  have US := Lib.hid (Unpack_no st HD.out a b)
  have RS := Lib.hid (rUnp_no st HD.out)
  go_enter Tryd.func3, Tryd.ntmps3
  go_wp2_with fail
  refine (AW.out _ (HL.out.keep (below_alloc (Below.refl _ _) _))).mono ?_
  rintro e w1 ⟨rfl, hb⟩
  have HA1 := Lib.hid ((BlkW.new w 23 #[.int .i64 s, .int .i64 g, .int .i64 t, .int .i64 n, .bool m]).below hb)
  have HW1 := Lib.hid (below_trans (below_alloc (Below.refl _ _) _) hb)
  clear hb
  obtain ⟨a0, a1, a2, a3, a4⟩ := cell5 HA1.out
  go_wp2_with fail
  refine (PA.out _ (HL.out.keep HW1.out)).mono ?_
  rintro e w2 ⟨u2, rfl, hch, hb⟩
  obtain ⟨T2, x2, rfl⟩ := hch.shape
  have HE2 := Lib.hid hch
  clear hch
  clear a0 a1 a2 a3 a4
  have HA2 := Lib.hid (HA1.out.below hb)
  have HW2 := Lib.hid (below_trans HW1.out hb)
  clear hb
  obtain ⟨a0, a1, a2, a3, a4⟩ := cell5 HA2.out
  go_wp2_with fail
  refine (RA.out _).mono ?_
  rintro e w3 ⟨rfl, hb⟩
  have HW3 := Lib.hid (below_trans HW2.out hb)
  have HE3 := Lib.hid (HE2.out.keep hb)
  clear hb a0 a1 a2 a3 a4
  go_wp2_with fail
  refine (US.out _ (HL.out.keep HW3.out)).mono ?_
  rintro e w4 ⟨u4, rfl, hch, hb⟩
  obtain ⟨T4, x4, rfl⟩ := hch.shape
  have HF4 := Lib.hid hch
  clear hch
  have HW4 := Lib.hid (below_trans HW3.out hb)
  have HE4 := Lib.hid (HE3.out.keep hb)
  clear hb
  go_wp2_with fail
  refine (RS.out _).mono ?_
  rintro e w5 ⟨rfl, hb⟩
  have HV5 := Lib.hid ((BlkW.new w4 23 #[.int .i64 0, .int .i64 0, .int .i64 0, .int .i64 0, .bool false]).below hb)
  have HW5 := Lib.hid (below_alloc (below_trans (below_alloc HW4.out (.cells #[.int .i64 0, .int .i64 0, .int .i64 0, .int .i64 0, .bool false] 23)) hb) (.cells #[.int .i64 0, .int .i64 0, .int .i64 0, .int .i64 0, .bool false] 23))
  have HE5 := Lib.hid ((HE4.out.keep (below_trans (below_alloc (Below.refl _ _) (.cells #[.int .i64 0, .int .i64 0, .int .i64 0, .int .i64 0, .bool false] 23)) hb)).keep (below_alloc (Below.refl _ _) (.cells #[.int .i64 0, .int .i64 0, .int .i64 0, .int .i64 0, .bool false] 23)))
  have HF5 := Lib.hid ((HF4.out.keep (below_trans (below_alloc (Below.refl _ _) (.cells #[.int .i64 0, .int .i64 0, .int .i64 0, .int .i64 0, .bool false] 23)) hb)).keep (below_alloc (Below.refl _ _) (.cells #[.int .i64 0, .int .i64 0, .int .i64 0, .int .i64 0, .bool false] 23)))
  clear hb
  obtain ⟨v0, v1, v2, v3, v4⟩ := cell5 HV5.out
  have hz5 := HV5.out.lt
  have l0 := (HL.out.keep HW5.out).arg
  have l1 := (HL.out.keep HW5.out).word
  go_wp2_with fail
  refine (Is_same HE5.out).mono ?_
  rintro e w6 ⟨rfl, rfl⟩
  go_wp2_with fail
  refine (Is_same HF5.out).mono ?_
  rintro e w6 ⟨rfl, rfl⟩
  go_wp2
  go_ret
  exact ⟨rfl, HW5.out⟩
theorem writes_any (a b : Addr) (s g t n : Int) (m : Bool) (st : ByteArray) (w : World) (L : Env w a b) : Calls Tryd.prog 3 #[.agg #[.int .i64 s, .int .i64 g, .int .i64 t, .int .i64 n, .bool m], .string st] w (True1 w) := by
  by_cases hl : 1024 < st.size
  · exact writes_long a b s g t n m st w L hl
  have hl : st.size ≤ 1024 := by omega
  by_cases hs : ∃ d : Wd, d.Good ∧ txtB d = st
  · obtain ⟨d, hd, hst⟩ := hs
    cases hga : goodB s g t n with
    | true => exact writes_g_yes a b s g t n m st w L hl hga d hd hst
    | false => exact writes_b_yes a b s g t n m st w L hl hga d hd hst
  · have hd : ∀ d : Wd, d.Good → txtB d ≠ st := fun d h e => hs ⟨d, h, e⟩
    cases hga : goodB s g t n with
    | true => exact writes_g_no a b s g t n m st w L hl hga hd
    | false => exact writes_b_no a b s g t n m st w L hl hga hd
end Go.Proofs.YtjkgglihpkkieaaDoor
