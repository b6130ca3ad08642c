/- The walk of PlotReborn. A template (fill.py). -/
import Derived.Test.YtkaplagbcnkflaaDoorAwake
import Derived.Test.YtkaplagbcnkflaaDoorSteps
import Derived.Test.YtkaplagbcnkflaaDoorArgs
import Derived.LoopTactic
namespace Go.Proofs.YtkaplagbcnkflaaDoor
open Go.RowKit Go.Extern.Stop Go.Stop Go.Extern Go.Sort
def RbRel (w : World) (E : Flt → Addr) (B p bs bb x n : Nat) (vi : Value) (wr : World) : Prop :=
  ∃ (i : Nat) (t : St), i ≤ n ∧ i ≤ 10 ∧ vi = .int .i64 (i : Int) ∧ PlotAt wr E B p bs bb t ∧ Rb t (1 + i) ∧ BlkW wr x 39 #[.int .i64 1, .int .i64 1, .int .i64 0, .int .i64 0, .bool false, .bool true] ∧ Below w.heap.size w wr
def Rb2Rel (w : World) (E : Flt → Addr) (B p bs bb x : Nat) (u : St) (vi : Value) (wr : World) : Prop :=
  ∃ k : Nat, k ≤ 10 ∧ vi = .int .i64 (k : Int) ∧ PlotAt wr E B p bs bb u ∧ BlkW wr x 39 #[.int .i64 1, .int .i64 2, .int .i64 0, .int .i64 0, .bool false, .bool true] ∧ Below w.heap.size w wr
theorem neZ (w : World) : (binOp .neq 35 (.agg #[.int .i64 0, .int .i64 0, .int .i64 0, .int .i64 0, .bool false]) (.agg #[.int .i64 0, .int .i64 0, .int .i64 0, .int .i64 0, .bool false])).run Tryd.prog w = .ok (.bool false) w := ne23 _ _ _ _ _ _ _ _ _ _ w
theorem neN (n : Int) (w : World) : (binOp .neq 35 (.agg #[.int .i64 0, .int .i64 0, .int .i64 0, .int .i64 n, .bool false]) (.agg #[.int .i64 0, .int .i64 0, .int .i64 0, .int .i64 n, .bool false])).run Tryd.prog w = .ok (.bool false) w := by
  rw [ne23]; simp [eqB]
theorem peek_at {w : World} {E : Flt → Addr} {B p bs bb : Nat} {t : St} (h : PlotAt w E B p bs bb t) (s g f : Int) :
    Calls Tryd.prog 13 #[.pointer (some ⟨p, 0, none⟩), .agg #[.int .i64 s, .int .i64 g, .int .i64 f]] w fun e w' => e = .returned (peekV (t.peek s g f)) ∧ Below w.heap.size w w' := by
  obtain ⟨⟨v, fv, h⟩, o, L⟩ := h
  exact peek_any h L o s g f
theorem fault_no {w : World} {E : Flt → Addr} {B p bs bb : Nat} {t : St} (h : PlotAt w E B p bs bb t) (hf : t.fault = none) :
    Calls Tryd.prog 14 #[.pointer (some ⟨p, 0, none⟩)] w fun e w' => e = .returned .nilIface ∧ Below w.heap.size w w' := by
  obtain ⟨⟨v, fv, h⟩, o, L⟩ := h
  exact fault_none h hf
theorem peek_slot {t : St} {i : Nat} {g : Int} {f : Nat} (hi : i < t.n) (hf : f < 10) (hg : (t.slot i).given = true) (he : ((t.slot i).gen : Int) = g) : t.peek ((i : Int) + 1) g f = some ((t.slot i).cell f) := by
  unfold St.peek
  rw [loc_slot t i g f hi hf, miss_given t i hi hg g he]
  rfl
theorem peek_board {t : St} {f : Nat} (hf : f < t.m) : t.peek 0 0 f = some (t.board f) := by
  unfold St.peek
  rw [loc_board t f hf, miss_board t]
  rfl
set_option maxRecDepth 100000 in
set_option maxHeartbeats 4000000 in
theorem reborn_any (E : Flt → Addr) (v : Value) (birth : Int) (xs : List Wd) (w : World) (L : Env w E) (hv : RowC wc 5 w v xs) :
    Calls Tryd.prog 6 #[v, .int .i64 birth] w (True1 w) := by
  have HL := Lib.hid L
  have AW := Lib.hid (awake_true E w L)
  have hB0 := L.size
  have HV := Lib.hid hv
  obtain ⟨ao, cp, rfl⟩ := hv.slice
  clear L hv
  go_enter Tryd.func6, Tryd.ntmps6
  go_wp2_with fail
  refine AW.out.mono ?_
  rintro e w1 ⟨rfl, hb⟩
  have B1 := Lib.hid hb
  clear hb
  go_wp2_with fail
  refine (new_is (HL.out.keep B1.out) 1 0 (by omega) (by omega)).mono ?_
  rintro e w2 ⟨p, bs, bb, rfl, P2, C2, _, _⟩
  have hB : 6 ≤ w1.heap.size := Nat.le_trans hB0 B1.out.size
  have B2 := Lib.hid (show Below w.heap.size w w2 from B1.out.trans (C2.out.mono B1.out.size))
  clear C2
  go_wp2_with fail
  refine (do_eq P2.out hB (by decide) ⟨4, 0, 0, 0, zw, nw 3⟩ (can_new _ _ rfl) 1 1 0 0 false true rb_first_reply).mono ?_
  rintro e w3 ⟨rfl, P3, C3, _⟩
  have B3 := Lib.hid (show Below w.heap.size w w3 from B2.out.trans (C3.out.mono B1.out.size))
  have P3 := Lib.hid (alloc_keep P3.out (.cells #[.int .i64 1, .int .i64 1, .int .i64 0, .int .i64 0, .bool false, .bool true] 39))
  have B3 := low_alloc B3 (Nat.le_refl _) (.cells #[.int .i64 1, .int .i64 1, .int .i64 0, .int .i64 0, .bool false, .bool true] 39)
  have X7 := Lib.hid (BlkW.new w3 39 #[.int .i64 1, .int .i64 1, .int .i64 0, .int .i64 0, .bool false, .bool true])
  clear C3 P2 B2
  go_wp2
  go_loopw [9] (RbRel w E w1.heap.size p bs bb w3.heap.size xs.length) (fun i _ => 11 - (intOf i).toNat)
  case atStart => exact ⟨0, _, by omega, by omega, rfl, P3.out, rb_first, X7.out, B3.out⟩
  case round =>
    obtain ⟨i, t, hi, hi10, rfl, hP, hR, hX, hbel⟩ := hrel
    obtain ⟨wo, rfl⟩ : ∃ wo : World, wo = wr := ⟨_, rfl⟩
    have HP := Lib.hid hP
    have HR := Lib.hid hR
    have HX := Lib.hid hX
    have HB := Lib.hid hbel
    clear hP hR hX hbel P3 X7 B3
    by_cases hlt : i < xs.length ∧ i < 10
    · obtain ⟨hlt, hlt10⟩ := hlt
      rcases HV.out with ⟨_, e⟩ | ⟨bx, off, cap, e, hbx, hcap, hcell⟩
      · subst e; exact absurd hlt (Nat.not_lt_zero _)
      · injection e with e1 e2 e3
        subst e1
        obtain ⟨d, hd⟩ : ∃ d, d = xs[i] := ⟨_, rfl⟩
        have hc := range_block (hcell i hlt) (HB.out.block bx hbx)
        rw [← hd] at hc
        obtain ⟨x0, x1, x2, x3, x4⟩ := WdAt.cells hc
        clear hc hcell hd e2 e3
        have g1 := HX.out.cell 1
        simp only [List.getElem?_toArray, List.getElem?_cons_succ, List.getElem?_cons_zero] at g1
        have j1 : (i : Int) < xs.length := by omega
        have j2 : (i : Int) < 10 := by omega
        have PD := Lib.hid (HP.out.keep ((Below.refl wo.heap.size wo).drew))
        go_upto_region 10 with (fail)
        go_region_with (go_at_call 9; refine (do_is PD.out hB (by rw [HR.out.steps]; omega) ⟨2, 1, 1, i, zw, d⟩ (rb_can HR.out i hlt10 d)).mono ?_; rintro e w4 ⟨rfl, P4, C4, K4⟩)
        all_goals
          have X4 := Lib.hid (K4.out.rep PD.out (HX.out.below ((Below.refl wo.heap.size wo).drew)))
          have B4 := Lib.hid (show Below w.heap.size w w4 from HB.out.trans (((Below.refl w.heap.size wo).drew).trans (C4.out.mono B1.out.size)))
          have R4 := Lib.hid (rb_store HR.out i hlt10 d)
          clear K4 C4 x0 x1 x2 x3 x4 g1
          go_wp2
          refine ⟨⟨i + 1, _, by omega, by omega, by go_num, P4.out, by have := R4.out; rwa [Nat.add_assoc] at this, X4.out, B4.out⟩, by simp [intOf]; omega⟩
    · have hlt' : xs.length ≤ i ∨ (i < xs.length ∧ 10 ≤ i) := by omega
      clear hlt
      have g0 := HX.out.cell 0
      have g1 := HX.out.cell 1
      have g2 := HX.out.cell 2
      have g3 := HX.out.cell 3
      have g4 := HX.out.cell 4
      simp only [List.getElem?_toArray, List.getElem?_cons_succ, List.getElem?_cons_zero] at g0 g1 g2 g3 g4
      rcases hlt' with hge | ⟨hlt, hge⟩
      · have j1 : ¬ (i : Int) < xs.length := by omega
        have HE := Lib.hid hge
        clear hge
        go_wp2_with fail
        refine (do_is HP.out hB (by rw [HR.out.steps]; omega) rbFree (rb_free_can HR.out)).mono ?_
        rintro e w5 ⟨rfl, P5, C5, _⟩
        have B5 := Lib.hid (show Below w.heap.size w w5 from HB.out.trans (C5.out.mono B1.out.size))
        clear C5 g0 g1 g2 g3 g4
        have Q := Lib.hid (rb_new HR.out birth)
        go_wp2_with fail
        refine (do_eq P5.out hB (by rw [Q.out.2.2.2.2]; omega) (rbNew birth) (can_new _ _ rfl) 1 2 0 0 false true Q.out.1).mono ?_
        rintro e w6 ⟨rfl, P6, C6, _⟩
        have B6 := Lib.hid (show Below w.heap.size w w6 from B5.out.trans (C6.out.mono B1.out.size))
        have P6 := Lib.hid (alloc_keep P6.out (.cells #[.int .i64 1, .int .i64 2, .int .i64 0, .int .i64 0, .bool false, .bool true] 39))
        have B6 := low_alloc B6 (Nat.le_refl _) (.cells #[.int .i64 1, .int .i64 2, .int .i64 0, .int .i64 0, .bool false, .bool true] 39)
        have X6 := Lib.hid (BlkW.new w6 39 #[.int .i64 1, .int .i64 2, .int .i64 0, .int .i64 0, .bool false, .bool true])
        have Q2 := Lib.hid Q.out.2.1
        have Q3 := Lib.hid Q.out.2.2.1
        have Q4 := Lib.hid Q.out.2.2.2.1
        clear C6 Q P5 B5
        generalize ((t.step rbFree).1.step (rbNew birth)).1 = u at P6 Q2 Q3 Q4
        go_wp2
        go_loopw [12] (Rb2Rel w E w1.heap.size p bs bb w6.heap.size u) (fun i _ => 11 - (intOf i).toNat)
        case atStart => exact ⟨0, by omega, rfl, P6.out, X6.out, B6.out⟩
        case round =>
          obtain ⟨k, hk, rfl, hP2, hX2, hbel2⟩ := hrel
          have HP2 := Lib.hid hP2
          have HX2 := Lib.hid hX2
          have HB2 := Lib.hid hbel2
          clear hP2 hX2 hbel2 P6 X6 B6
          have g0 := HX2.out.cell 0
          have g1 := HX2.out.cell 1
          have g2 := HX2.out.cell 2
          have g3 := HX2.out.cell 3
          have g4 := HX2.out.cell 4
          simp only [List.getElem?_toArray, List.getElem?_cons_succ, List.getElem?_cons_zero] at g0 g1 g2 g3 g4
          by_cases hk10 : k < 10
          · have j3 : (k : Int) < 10 := by omega
            have HK := Lib.hid (peek_at HP2.out 1 2 (k : Int))
            have hpk : u.peek 1 2 (k : Int) = some (if k = 9 then nw birth else zw) := by
              have := peek_slot (t := u) (i := 0) (g := 2) (f := k) (by rw [Q2.out]; omega) hk10 (by rw [Q4.out]) (by rw [Q4.out]; rfl)
              rw [Q4.out] at this
              exact this
            rw [hpk] at HK
            clear hpk
            by_cases h9 : k = 9
            · subst h9
              rw [if_pos rfl, show peekV (some (nw birth)) = .tuple #[.agg #[.int .i64 0, .int .i64 0, .int .i64 0, .int .i64 birth, .bool false], .bool true] from rfl] at HK
              have nN := neN birth
              go_wp2_with fail
              refine HK.out.mono ?_
              rintro e w7 ⟨rfl, hb⟩
              have HP3 := Lib.hid (HP2.out.keep hb)
              have HX3 := Lib.hid (HX2.out.below hb)
              have HB3 := Lib.hid (show Below w.heap.size w w7 from HB2.out.trans (hb.mono HB2.out.size))
              clear hb g0 g1 g2 g3 g4
              go_wp2
              refine ⟨⟨10, by omega, by go_num, alloc_keep (alloc_keep HP3.out _) _, (HX3.out.alloc _).alloc _, low_alloc (low_alloc HB3 (Nat.le_refl _) _) (Nat.le_refl _) _⟩, by simp [intOf]⟩
            · rw [if_neg h9, show peekV (some zw) = .tuple #[.agg #[.int .i64 0, .int .i64 0, .int .i64 0, .int .i64 0, .bool false], .bool true] from rfl] at HK
              have nZ := neZ
              have j4 : ((k : Int) == 9) = false := by simp; omega
              go_wp2_with fail
              refine HK.out.mono ?_
              rintro e w7 ⟨rfl, hb⟩
              have HP3 := Lib.hid (HP2.out.keep hb)
              have HX3 := Lib.hid (HX2.out.below hb)
              have HB3 := Lib.hid (show Below w.heap.size w w7 from HB2.out.trans (hb.mono HB2.out.size))
              clear hb g0 g1 g2 g3 g4
              go_wp2
              refine ⟨⟨k + 1, by omega, by go_num, alloc_keep (alloc_keep HP3.out _) _, (HX3.out.alloc _).alloc _, low_alloc (low_alloc HB3 (Nat.le_refl _) _) (Nat.le_refl _) _⟩, by simp [intOf]; omega⟩
          · obtain rfl : k = 10 := by omega
            have eC := eqC
            have n1 := noHeld
            have n2 := noGuard
            go_wp2_with fail
            refine (fault_no HP2.out Q3.out).mono ?_
            rintro e w7 ⟨rfl, hb⟩
            have HB3 := Lib.hid (show Below w.heap.size w w7 from HB2.out.trans (hb.mono HB2.out.size))
            clear hb g0 g1 g2 g3 g4
            go_wp2
            go_ret
            exact ⟨rfl, HB3.out⟩
      · have j1 : (i : Int) < xs.length := by omega
        have j2 : ¬ (i : Int) < 10 := by omega
        have HE := Lib.hid hge
        clear hge
        go_wp2_with fail
        refine (do_is HP.out hB (by rw [HR.out.steps]; omega) rbFree (rb_free_can HR.out)).mono ?_
        rintro e w5 ⟨rfl, P5, C5, _⟩
        have B5 := Lib.hid (show Below w.heap.size w w5 from HB.out.trans (C5.out.mono B1.out.size))
        clear C5 g0 g1 g2 g3 g4
        have Q := Lib.hid (rb_new HR.out birth)
        go_wp2_with fail
        refine (do_eq P5.out hB (by rw [Q.out.2.2.2.2]; omega) (rbNew birth) (can_new _ _ rfl) 1 2 0 0 false true Q.out.1).mono ?_
        rintro e w6 ⟨rfl, P6, C6, _⟩
        have B6 := Lib.hid (show Below w.heap.size w w6 from B5.out.trans (C6.out.mono B1.out.size))
        have P6 := Lib.hid (alloc_keep P6.out (.cells #[.int .i64 1, .int .i64 2, .int .i64 0, .int .i64 0, .bool false, .bool true] 39))
        have B6 := low_alloc B6 (Nat.le_refl _) (.cells #[.int .i64 1, .int .i64 2, .int .i64 0, .int .i64 0, .bool false, .bool true] 39)
        have X6 := Lib.hid (BlkW.new w6 39 #[.int .i64 1, .int .i64 2, .int .i64 0, .int .i64 0, .bool false, .bool true])
        have Q2 := Lib.hid Q.out.2.1
        have Q3 := Lib.hid Q.out.2.2.1
        have Q4 := Lib.hid Q.out.2.2.2.1
        clear C6 Q P5 B5
        generalize ((t.step rbFree).1.step (rbNew birth)).1 = u at P6 Q2 Q3 Q4
        go_wp2
        go_loopw [12] (Rb2Rel w E w1.heap.size p bs bb w6.heap.size u) (fun i _ => 11 - (intOf i).toNat)
        case atStart => exact ⟨0, by omega, rfl, P6.out, X6.out, B6.out⟩
        case round =>
          obtain ⟨k, hk, rfl, hP2, hX2, hbel2⟩ := hrel
          have HP2 := Lib.hid hP2
          have HX2 := Lib.hid hX2
          have HB2 := Lib.hid hbel2
          clear hP2 hX2 hbel2 P6 X6 B6
          have g0 := HX2.out.cell 0
          have g1 := HX2.out.cell 1
          have g2 := HX2.out.cell 2
          have g3 := HX2.out.cell 3
          have g4 := HX2.out.cell 4
          simp only [List.getElem?_toArray, List.getElem?_cons_succ, List.getElem?_cons_zero] at g0 g1 g2 g3 g4
          by_cases hk10 : k < 10
          · have j3 : (k : Int) < 10 := by omega
            have HK := Lib.hid (peek_at HP2.out 1 2 (k : Int))
            have hpk : u.peek 1 2 (k : Int) = some (if k = 9 then nw birth else zw) := by
              have := peek_slot (t := u) (i := 0) (g := 2) (f := k) (by rw [Q2.out]; omega) hk10 (by rw [Q4.out]) (by rw [Q4.out]; rfl)
              rw [Q4.out] at this
              exact this
            rw [hpk] at HK
            clear hpk
            by_cases h9 : k = 9
            · subst h9
              rw [if_pos rfl, show peekV (some (nw birth)) = .tuple #[.agg #[.int .i64 0, .int .i64 0, .int .i64 0, .int .i64 birth, .bool false], .bool true] from rfl] at HK
              have nN := neN birth
              go_wp2_with fail
              refine HK.out.mono ?_
              rintro e w7 ⟨rfl, hb⟩
              have HP3 := Lib.hid (HP2.out.keep hb)
              have HX3 := Lib.hid (HX2.out.below hb)
              have HB3 := Lib.hid (show Below w.heap.size w w7 from HB2.out.trans (hb.mono HB2.out.size))
              clear hb g0 g1 g2 g3 g4
              go_wp2
              refine ⟨⟨10, by omega, by go_num, alloc_keep (alloc_keep HP3.out _) _, (HX3.out.alloc _).alloc _, low_alloc (low_alloc HB3 (Nat.le_refl _) _) (Nat.le_refl _) _⟩, by simp [intOf]⟩
            · rw [if_neg h9, show peekV (some zw) = .tuple #[.agg #[.int .i64 0, .int .i64 0, .int .i64 0, .int .i64 0, .bool false], .bool true] from rfl] at HK
              have nZ := neZ
              have j4 : ((k : Int) == 9) = false := by simp; omega
              go_wp2_with fail
              refine HK.out.mono ?_
              rintro e w7 ⟨rfl, hb⟩
              have HP3 := Lib.hid (HP2.out.keep hb)
              have HX3 := Lib.hid (HX2.out.below hb)
              have HB3 := Lib.hid (show Below w.heap.size w w7 from HB2.out.trans (hb.mono HB2.out.size))
              clear hb g0 g1 g2 g3 g4
              go_wp2
              refine ⟨⟨k + 1, by omega, by go_num, alloc_keep (alloc_keep HP3.out _) _, (HX3.out.alloc _).alloc _, low_alloc (low_alloc HB3 (Nat.le_refl _) _) (Nat.le_refl _) _⟩, by simp [intOf]; omega⟩
          · obtain rfl : k = 10 := by omega
            have eC := eqC
            have n1 := noHeld
            have n2 := noGuard
            go_wp2_with fail
            refine (fault_no HP2.out Q3.out).mono ?_
            rintro e w7 ⟨rfl, hb⟩
            have HB3 := Lib.hid (show Below w.heap.size w w7 from HB2.out.trans (hb.mono HB2.out.size))
            clear hb g0 g1 g2 g3 g4
            go_wp2
            go_ret
            exact ⟨rfl, HB3.out⟩
end Go.Proofs.YtkaplagbcnkflaaDoor
