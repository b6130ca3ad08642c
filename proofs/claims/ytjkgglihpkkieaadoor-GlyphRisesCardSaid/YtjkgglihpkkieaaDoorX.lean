/- The walk of GlyphSame. -/
import Derived.Test.YtjkgglihpkkieaaDoorW
import Derived.Lib.QuietBelow
namespace Go.Proofs.YtjkgglihpkkieaaDoor
open Go.RowKit Go.Extern.Stop Go.Stop Go.Extern Go.Sort

theorem bits_xor_ne (n : Int) : bits .xor .i64 n 1 ≠ n := by
  intro h
  have e : bits .xor .i64 n 1 = IntKind.i64.wrap ((BitVec.ofInt 64 n ^^^ BitVec.ofInt 64 1).toNat : Int) := rfl
  rw [e] at h
  have key : ∀ x : BitVec 64, BitVec.ofInt 64 (IntKind.i64.wrap (x.toNat : Int)) = x := by
    intro x
    apply BitVec.eq_of_toNat_eq
    have hx := x.isLt
    have w : IntKind.i64.wrap (x.toNat : Int) = (x.toNat : Int) ∨ IntKind.i64.wrap (x.toNat : Int) = (x.toNat : Int) - 18446744073709551616 := by
      have e1 : ((2 : Int) ^ IntKind.i64.bits) = 18446744073709551616 := by decide
      unfold IntKind.wrap
      simp only [e1]
      have : (x.toNat : Int) % 18446744073709551616 = x.toNat := by omega
      rw [this]
      split
      · right; rfl
      · left; rfl
    rw [BitVec.toNat_ofInt]
    rcases w with w | w <;> rw [w] <;> omega
  have h2 := key (BitVec.ofInt 64 n ^^^ BitVec.ofInt 64 1)
  rw [h] at h2
  have h3 : BitVec.ofInt 64 n ^^^ (BitVec.ofInt 64 n ^^^ BitVec.ofInt 64 1) = BitVec.ofInt 64 n ^^^ BitVec.ofInt 64 n := by rw [← h2]
  rw [← BitVec.xor_assoc, BitVec.xor_self, BitVec.zero_xor] at h3
  exact absurd h3 (by decide)
/-! ### GlyphSame -/
theorem sameB_refl (s t n : Int) (m : Bool) : sameB s t n m s t n m = true := by simp [sameB, eqB]
theorem sameB_comm (s t n : Int) (m : Bool) (s' t' n' : Int) (m' : Bool) : sameB s t n m s' t' n' m' = sameB s' t' n' m' s t n m := by
  rw [Bool.eq_iff_iff]
  simp only [sameB, eqB, Bool.and_eq_true, beq_iff_eq]
  constructor <;> (rintro ⟨⟨⟨⟨rfl, _⟩, rfl⟩, rfl⟩, rfl⟩; simp)
theorem sameB_trans {s t n : Int} {m : Bool} {s' t' n' : Int} {m' : Bool} {s'' t'' n'' : Int} {m'' : Bool} (h1 : sameB s t n m s' t' n' m' = true) (h2 : sameB s' t' n' m' s'' t'' n'' m'' = true) : sameB s t n m s'' t'' n'' m'' = true := by
  simp only [sameB, eqB, Bool.and_eq_true, beq_iff_eq] at *
  obtain ⟨⟨⟨⟨rfl, _⟩, rfl⟩, rfl⟩, rfl⟩ := h1
  exact h2
theorem sameB_tag {s t n : Int} {m : Bool} {s' t' n' : Int} {m' : Bool} (h : t ≠ t') : sameB s t n m s' t' n' m' = false := by
  rw [Bool.eq_false_iff]
  intro h1
  simp only [sameB, eqB, Bool.and_eq_true, beq_iff_eq] at h1
  exact h h1.1.1.2
theorem sameB_num {s t n : Int} {m : Bool} {s' t' n' : Int} {m' : Bool} (h : n ≠ n') : sameB s t n m s' t' n' m' = false := by
  rw [Bool.eq_false_iff]
  intro h1
  simp only [sameB, eqB, Bool.and_eq_true, beq_iff_eq] at h1
  exact h h1.1.2
theorem blk3 (w : World) (c1 c2 c3 : Array Value) (t1 t2 t3 : TypeId) :
    BlkW (((w.alloc (.cells c1 t1)).alloc (.cells c2 t2)).alloc (.cells c3 t3)) w.heap.size t1 c1 ∧ BlkW (((w.alloc (.cells c1 t1)).alloc (.cells c2 t2)).alloc (.cells c3 t3)) (w.heap.size + 1) t2 c2 ∧
    BlkW (((w.alloc (.cells c1 t1)).alloc (.cells c2 t2)).alloc (.cells c3 t3)) (w.heap.size + 1 + 1) t3 c3 := by
  have h2 := (BlkW.new (w.alloc (.cells c1 t1)) t2 c2).alloc (.cells c3 t3)
  have h3 := BlkW.new ((w.alloc (.cells c1 t1)).alloc (.cells c2 t2)) t3 c3
  simp only [World.size_alloc] at h2 h3
  exact ⟨((BlkW.new w t1 c1).alloc _).alloc _, h2, h3⟩
theorem re5 {w : World} {g : Nat} {v0 v1 v2 v3 v4 : Value} (h : BlkW w g 23 #[v0, v1, v2, v3, v4]) :
    (∀ d os, (grow (redrawn w d) os).cell? ⟨g, 0, none⟩ = some v0) ∧ (∀ d os, (grow (redrawn w d) os).cell? ⟨g, 1, none⟩ = some v1) ∧ (∀ d os, (grow (redrawn w d) os).cell? ⟨g, 2, none⟩ = some v2) ∧
    (∀ d os, (grow (redrawn w d) os).cell? ⟨g, 3, none⟩ = some v3) ∧ (∀ d os, (grow (redrawn w d) os).cell? ⟨g, 4, none⟩ = some v4) :=
  ⟨cell_regrown (h.cell 0), cell_regrown (h.cell 1), cell_regrown (h.cell 2), cell_regrown (h.cell 3), cell_regrown (h.cell 4)⟩
theorem Same_re {w : World} (s g t n : Int) (m : Bool) (s' g' t' n' : Int) (m' : Bool) (r : Bool) (hr : sameB s t n m s' t' n' m' = r) (d : Nat) (os : Array Obj) :
    Calls Tryd.prog 18 #[.agg #[.int .i64 s, .int .i64 g, .int .i64 t, .int .i64 n, .bool m], .agg #[.int .i64 s', .int .i64 g', .int .i64 t', .int .i64 n', .bool m']] (grow (redrawn w d) os) fun e w'' => e = .returned (.bool r) ∧ ∃ p : Regrown, w'' = grow (redrawn w p.d) p.os :=
  Calls.regrown_of ((Same_any s g t n m s' g' t' n' m' _).mono fun e w' ⟨he, hb⟩ => ⟨by rw [he, hr], hb⟩)

set_option maxRecDepth 100000 in
set_option maxHeartbeats 1000000 in
theorem same_any (a b : Addr) (s g t n : Int) (m : Bool) (s1 g1 t1 n1 : Int) (m1 : Bool) (s2 g2 t2 n2 : Int) (m2 : Bool) (k : Int) (w : World) (L : Env w a b) :
    Calls Tryd.prog 6 #[.agg #[.int .i64 s, .int .i64 g, .int .i64 t, .int .i64 n, .bool m], .agg #[.int .i64 s1, .int .i64 g1, .int .i64 t1, .int .i64 n1, .bool m1], .agg #[.int .i64 s2, .int .i64 g2, .int .i64 t2, .int .i64 n2, .bool m2], .int .i64 k] w (True1 w) := by
  have HL := Lib.hid L
  have AW := Lib.hid (awake_true a b)
  clear L
  go_enter Tryd.func6, Tryd.ntmps6
  go_wp2_with fail
  refine (AW.out _ (HL.out.keep (below_alloc (below_alloc (below_alloc (Below.refl _ _) _) _) _))).mono ?_
  rintro e w1 ⟨rfl, hb⟩
  obtain ⟨b1, b2, b3⟩ := blk3 w #[.int .i64 s, .int .i64 g, .int .i64 t, .int .i64 n, .bool m] #[.int .i64 s1, .int .i64 g1, .int .i64 t1, .int .i64 n1, .bool m1] #[.int .i64 s2, .int .i64 g2, .int .i64 t2, .int .i64 n2, .bool m2] 23 23 23
  have HA := Lib.hid (b1.below hb)
  have HB := Lib.hid (b2.below hb)
  have HC := Lib.hid (b3.below hb)
  have HB1 := Lib.hid (below_trans (below_alloc (below_alloc (below_alloc (Below.refl _ _) _) _) _) hb)
  clear hb b1 b2 b3
  have a0 := HA.out.cell 0
  have a1 := HA.out.cell 1
  have a2 := HA.out.cell 2
  have a3 := HA.out.cell 3
  have a4 := HA.out.cell 4
  simp only [List.getElem?_toArray, List.getElem?_cons_succ, List.getElem?_cons_zero] at a0 a1 a2 a3 a4
  have z0 := HA.out.lt
  have z1 := HB.out.lt
  have z2 := HC.out.lt
  go_wp2_with fail
  have hne := bits_xor_ne n
  generalize bits BinOp.xor IntKind.i64 n 1 = n' at hne ⊢
  have HD := Lib.hid ((BlkW.new w1 23 #[.int .i64 s, .int .i64 k, .int .i64 t, .int .i64 n, .bool m]).alloc (.cells #[.int .i64 s, .int .i64 g, .int .i64 t, .int .i64 n', .bool m] 23))
  have HE' := BlkW.new (w1.alloc (.cells #[.int .i64 s, .int .i64 k, .int .i64 t, .int .i64 n, .bool m] 23)) 23 #[.int .i64 s, .int .i64 g, .int .i64 t, .int .i64 n', .bool m]
  simp only [World.size_alloc] at HE'
  have HE := Lib.hid HE'
  have HA2 := Lib.hid ((HA.out.alloc (.cells #[.int .i64 s, .int .i64 k, .int .i64 t, .int .i64 n, .bool m] 23)).alloc (.cells #[.int .i64 s, .int .i64 g, .int .i64 t, .int .i64 n', .bool m] 23))
  have HB2 := Lib.hid ((HB.out.alloc (.cells #[.int .i64 s, .int .i64 k, .int .i64 t, .int .i64 n, .bool m] 23)).alloc (.cells #[.int .i64 s, .int .i64 g, .int .i64 t, .int .i64 n', .bool m] 23))
  have HC2 := Lib.hid ((HC.out.alloc (.cells #[.int .i64 s, .int .i64 k, .int .i64 t, .int .i64 n, .bool m] 23)).alloc (.cells #[.int .i64 s, .int .i64 g, .int .i64 t, .int .i64 n', .bool m] 23))
  have HF := Lib.hid (below_alloc (below_alloc HB1.out (.cells #[.int .i64 s, .int .i64 k, .int .i64 t, .int .i64 n, .bool m] 23)) (.cells #[.int .i64 s, .int .i64 g, .int .i64 t, .int .i64 n', .bool m] 23))
  clear HA HB HC HE' a0 a1 a2 a3 a4 z0 z1 z2 HB1 HL AW
  generalize (w1.alloc (.cells #[.int .i64 s, .int .i64 k, .int .i64 t, .int .i64 n, .bool m] 23)).alloc (.cells #[.int .i64 s, .int .i64 g, .int .i64 t, .int .i64 n', .bool m] 23) = W at HD HE HA2 HB2 HC2 HF ⊢
  obtain ⟨rA0, rA1, rA2, rA3, rA4⟩ := re5 HA2.out
  obtain ⟨rB0, rB1, rB2, rB3, rB4⟩ := re5 HB2.out
  obtain ⟨rC0, rC1, rC2, rC3, rC4⟩ := re5 HC2.out
  obtain ⟨rD0, rD1, rD2, rD3, rD4⟩ := re5 HD.out
  obtain ⟨rE0, rE1, rE2, rE3, rE4⟩ := re5 HE.out
  have cAA := Lib.hid (Same_re (w := W) s g t n m s g t n m true (sameB_refl _ _ _ _))
  have cAD := Lib.hid (Same_re (w := W) s g t n m s k t n m true (sameB_refl _ _ _ _))
  have cAE := Lib.hid (Same_re (w := W) s g t n m s g t n' m false (sameB_num (Ne.symm hne)))
  clear hne HA2 HB2 HC2 HD HE
  obtain ⟨x, hx⟩ : ∃ x, sameB s t n m s1 t1 n1 m1 = x := ⟨_, rfl⟩
  obtain ⟨y, hy⟩ : ∃ y, sameB s1 t1 n1 m1 s2 t2 n2 m2 = y := ⟨_, rfl⟩
  obtain ⟨z, hz⟩ : ∃ z, sameB s t n m s2 t2 n2 m2 = z := ⟨_, rfl⟩
  have cAB := Lib.hid (Same_re (w := W) s g t n m s1 g1 t1 n1 m1 x hx)
  have cBA := Lib.hid (Same_re (w := W) s1 g1 t1 n1 m1 s g t n m x (by rw [sameB_comm]; exact hx))
  have cBC := Lib.hid (Same_re (w := W) s1 g1 t1 n1 m1 s2 g2 t2 n2 m2 y hy)
  have cAC := Lib.hid (Same_re (w := W) s g t n m s2 g2 t2 n2 m2 z hz)
  have hxyz : x = false ∨ y = false ∨ z = true := by
    cases x
    · exact .inl rfl
    · cases y
      · exact .inr (.inl rfl)
      · right; right; rw [← hz]; exact sameB_trans hx hy
  clear hx hy hz
  cases x with
  | false =>
    clear hxyz
    refine wp_region_quiet_below (by kernel_rfl) (by kernel_rfl) ?_
    repeat (go_big_quiet_step ((first | with_reducible exact cAA.out _ _ | with_reducible exact cAD.out _ _ | with_reducible exact cAE.out _ _ | with_reducible exact cAB.out _ _ | with_reducible exact cBA.out _ _ | with_reducible exact cBC.out _ _ | with_reducible exact cAC.out _ _)))
    refine wpQuiet_nil ?_
    intro _ hw'
    obtain ⟨⟨dq, osq⟩, hw''⟩ := hw'
    subst hw''
    clear rA0 rA1 rA2 rA3 rA4 rB0 rB1 rB2 rB3 rB4 rC0 rC1 rC2 rC3 rC4 rD0 rD1 rD2 rD3 rD4 rE0 rE1 rE2 rE3 rE4
    go_wp2
    go_ret
    exact ⟨rfl, below_trans HF.out (below_regrown W dq osq)⟩
  | true =>
    cases y with
    | false =>
      clear hxyz
      refine wp_region_quiet_below (by kernel_rfl) (by kernel_rfl) ?_
      repeat (go_big_quiet_step ((first | with_reducible exact cAA.out _ _ | with_reducible exact cAD.out _ _ | with_reducible exact cAE.out _ _ | with_reducible exact cAB.out _ _ | with_reducible exact cBA.out _ _ | with_reducible exact cBC.out _ _ | with_reducible exact cAC.out _ _)))
      refine wpQuiet_nil ?_
      intro _ hw'
      obtain ⟨⟨dq, osq⟩, hw''⟩ := hw'
      subst hw''
      clear rA0 rA1 rA2 rA3 rA4 rB0 rB1 rB2 rB3 rB4 rC0 rC1 rC2 rC3 rC4 rD0 rD1 rD2 rD3 rD4 rE0 rE1 rE2 rE3 rE4
      go_wp2
      go_ret
      exact ⟨rfl, below_trans HF.out (below_regrown W dq osq)⟩
    | true =>
      obtain rfl : z = true := by simpa using hxyz
      clear hxyz
      refine wp_region_quiet_below (by kernel_rfl) (by kernel_rfl) ?_
      repeat (go_big_quiet_step ((first | with_reducible exact cAA.out _ _ | with_reducible exact cAD.out _ _ | with_reducible exact cAE.out _ _ | with_reducible exact cAB.out _ _ | with_reducible exact cBA.out _ _ | with_reducible exact cBC.out _ _ | with_reducible exact cAC.out _ _)))
      refine wpQuiet_nil ?_
      intro _ hw'
      obtain ⟨⟨dq, osq⟩, hw''⟩ := hw'
      subst hw''
      clear rA0 rA1 rA2 rA3 rA4 rB0 rB1 rB2 rB3 rB4 rC0 rC1 rC2 rC3 rC4 rD0 rD1 rD2 rD3 rD4 rE0 rE1 rE2 rE3 rE4
      go_wp2
      go_ret
      exact ⟨rfl, below_trans HF.out (below_regrown W dq osq)⟩
end Go.Proofs.YtjkgglihpkkieaaDoor
