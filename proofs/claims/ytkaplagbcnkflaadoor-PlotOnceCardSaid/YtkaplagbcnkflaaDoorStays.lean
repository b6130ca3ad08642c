/- The walk of PlotStays. A template (made by gen_XStays.py). -/
import Derived.Test.YtkaplagbcnkflaaDoorStaysMod
import Derived.Test.YtkaplagbcnkflaaDoorArgs
import Derived.Test.YtkaplagbcnkflaaDoorReborn
import Derived.Test.YtkaplagbcnkflaaDoorLifo
import Derived.LoopTactic
namespace Go.Proofs.YtkaplagbcnkflaaDoor
open Go.RowKit Go.Extern.Stop Go.Stop Go.Extern Go.Sort
theorem blk_low {W w' : World} {B x : Nat} {T : TypeId} {cs : Array Value} (h : BlkW W x T cs) (hb : Below B W w') (hx : x < B) : BlkW w' x T cs := (hb.block x hx).trans h
theorem acc_cells {w : World} {b o : Nat} {k s g fl : Int} {d0 d1 : Wd} (h : w.rangeAt b o (acs ⟨k, s, g, fl, d0, d1⟩).toList) :
    w.cell? ⟨b, o, none⟩ = some (.int .i64 k) ∧ w.cell? ⟨b, o + 1, none⟩ = some (.int .i64 s) ∧ w.cell? ⟨b, o + 2, none⟩ = some (.int .i64 g) ∧ w.cell? ⟨b, o + 3, none⟩ = some (.int .i64 fl) ∧ w.cell? ⟨b, o + 4, none⟩ = some (.int .i64 d0.slot) ∧ w.cell? ⟨b, o + 5, none⟩ = some (.int .i64 d0.gen) ∧ w.cell? ⟨b, o + 6, none⟩ = some (.int .i64 d0.tag) ∧ w.cell? ⟨b, o + 7, none⟩ = some (.int .i64 d0.num) ∧ w.cell? ⟨b, o + 8, none⟩ = some (.bool d0.mark) ∧ w.cell? ⟨b, o + 9, none⟩ = some (.int .i64 d1.slot) ∧ w.cell? ⟨b, o + 10, none⟩ = some (.int .i64 d1.gen) ∧ w.cell? ⟨b, o + 11, none⟩ = some (.int .i64 d1.tag) ∧ w.cell? ⟨b, o + 12, none⟩ = some (.int .i64 d1.num) ∧ w.cell? ⟨b, o + 13, none⟩ = some (.bool d1.mark) :=
  ⟨h 0 _ rfl, h 1 _ rfl, h 2 _ rfl, h 3 _ rfl, h 4 _ rfl, h 5 _ rfl, h 6 _ rfl, h 7 _ rfl, h 8 _ rfl, h 9 _ rfl, h 10 _ rfl, h 11 _ rfl, h 12 _ rfl, h 13 _ rfl⟩
def SyRel (w : World) (E : Flt → Addr) (B p bs bb xa xb f fb len : Nat) (d : Wd) (vi : Value) (wr : World) : Prop :=
  ∃ (i : Nat) (t : St), i ≤ len ∧ i ≤ 200 ∧ vi = .int .i64 (i : Int) ∧ PlotAt wr E B p bs bb t ∧ Sy t f fb d ∧ t.steps ≤ 3 + i ∧ BlkW wr xa 33 #[.int .i64 1, .int .i64 1, .int .i64 (f : Int)] ∧ BlkW wr xb 33 #[.int .i64 0, .int .i64 0, .int .i64 (fb : Int)] ∧ BlkW wr w.heap.size 35 #[.int .i64 d.slot, .int .i64 d.gen, .int .i64 d.tag, .int .i64 d.num, .bool d.mark] ∧ Below w.heap.size w wr
theorem eqWd (d : Wd) (w : World) : (binOp .eql 35 (.agg #[.int .i64 d.slot, .int .i64 d.gen, .int .i64 d.tag, .int .i64 d.num, .bool d.mark]) (.agg #[.int .i64 d.slot, .int .i64 d.gen, .int .i64 d.tag, .int .i64 d.num, .bool d.mark])).run Tryd.prog w = .ok (.bool true) w := by
  rw [eq23, eqB_iff]; simp
theorem peekV_some (d : Wd) : peekV (some d) = .tuple #[.agg #[.int .i64 d.slot, .int .i64 d.gen, .int .i64 d.tag, .int .i64 d.num, .bool d.mark], .bool true] := rfl
set_option maxRecDepth 100000 in
set_option maxHeartbeats 8000000 in
theorem stays_any (E : Flt → Addr) (d : Wd) (x : Int) (v : Value) (xs : List Ac) (w : World) (L : Env w E) (hv : RowC (fun a => (acs a).toList) 14 w v xs) :
    Calls Tryd.prog 4 #[.agg #[.int .i64 d.slot, .int .i64 d.gen, .int .i64 d.tag, .int .i64 d.num, .bool d.mark], .int .i64 x, v] w (True1 w) := by
  have HL := Lib.hid L
  have AW := Lib.hid (fun W (L : Env W E) => awake_true E W L)
  have hB0 := L.size
  have HV := Lib.hid hv
  obtain ⟨ao, cp, rfl⟩ := hv.slice
  obtain ⟨f, hf, hx1⟩ := u64_mod x 10 (by omega)
  obtain ⟨fb, hfb, hx2⟩ := u64_mod x 5 (by omega)
  have hf1 : (f : Int) < 10 := by omega
  have hf2 : (fb : Int) < 5 := by omega
  have hw10 : wrap64 ((IntKind.u64.wrap x).tmod 10) = (f : Int) := by
    have e : (IntKind.u64.wrap x).tmod 10 = (f : Int) := hx1
    rw [e]; exact IntWalk.wrap64_in _ ⟨by omega, by omega⟩
  have hw5 : wrap64 ((IntKind.u64.wrap x).tmod 5) = (fb : Int) := by
    have e : (IntKind.u64.wrap x).tmod 5 = (fb : Int) := hx2
    rw [e]; exact IntWalk.wrap64_in _ ⟨by omega, by omega⟩
  clear L hv hx1 hx2
  go_enter Tryd.func4, Tryd.ntmps4
  go_wp2_with fail
  refine (AW.out _ (HL.out.keep (below_alloc (Below.refl _ _) _))).mono ?_
  rintro e w1 ⟨rfl, hb⟩
  have X3 := Lib.hid ((BlkW.new w 35 #[.int .i64 d.slot, .int .i64 d.gen, .int .i64 d.tag, .int .i64 d.num, .bool d.mark]).below hb)
  have B1 := Lib.hid (show Below w.heap.size w w1 from below_trans (below_alloc (Below.refl _ _) _) hb)
  have hB : 6 ≤ w1.heap.size := Nat.le_trans hB0 B1.out.size
  have hz1 : w.heap.size < w1.heap.size := X3.out.lt
  clear hb
  go_wp2_with fail
  refine (new_is (HL.out.keep B1.out) 6 5 (by omega) (by omega)).mono ?_
  rintro e w2 ⟨p, bs, bb, rfl, P2, C2, _, _⟩
  have B2 := Lib.hid (show Below w.heap.size w w2 from B1.out.trans (C2.out.mono B1.out.size))
  have X3 := Lib.hid (blk_low X3.out C2.out hz1)
  clear C2
  go_wp2_with fail
  refine (do_eq P2.out hB (by decide) ⟨4, 0, 0, 0, zw, zw⟩ (can_new _ _ rfl) 1 1 0 0 false true sy_first_reply).mono ?_
  rintro e w3 ⟨rfl, P3, C3, _⟩
  have B3 := Lib.hid (show Below w.heap.size w w3 from B2.out.trans (C3.out.mono B1.out.size))
  have X3 := Lib.hid (blk_low X3.out C3.out hz1)
  have hz3 : w.heap.size < w3.heap.size := X3.out.lt
  have hz31 : w.heap.size < w3.heap.size + 1 := by omega
  have hz32 : w.heap.size < w3.heap.size + 1 + 1 := by omega
  obtain ⟨x0, x1, x2, x3, x4⟩ := cell5 X3.out
  obtain ⟨_, ya, yb⟩ := blk3 w3 #[.int .i64 1, .int .i64 1, .int .i64 0, .int .i64 0, .bool false, .bool true] #[.int .i64 1, .int .i64 1, .int .i64 (f : Int)] #[.int .i64 0, .int .i64 0, .int .i64 (fb : Int)] 39 33 33
  have Xa := Lib.hid ya
  have Xb := Lib.hid yb
  have P3 := Lib.hid (alloc_keep (alloc_keep (alloc_keep P3.out (.cells #[.int .i64 1, .int .i64 1, .int .i64 0, .int .i64 0, .bool false, .bool true] 39)) (.cells #[.int .i64 1, .int .i64 1, .int .i64 (f : Int)] 33)) (.cells #[.int .i64 0, .int .i64 0, .int .i64 (fb : Int)] 33))
  have B3 := low_alloc (low_alloc (low_alloc B3 (Nat.le_refl _) (.cells #[.int .i64 1, .int .i64 1, .int .i64 0, .int .i64 0, .bool false, .bool true] 39)) (Nat.le_refl _) (.cells #[.int .i64 1, .int .i64 1, .int .i64 (f : Int)] 33)) (Nat.le_refl _) (.cells #[.int .i64 0, .int .i64 0, .int .i64 (fb : Int)] 33)
  have X3 := Lib.hid (((X3.out.alloc (.cells #[.int .i64 1, .int .i64 1, .int .i64 0, .int .i64 0, .bool false, .bool true] 39)).alloc (.cells #[.int .i64 1, .int .i64 1, .int .i64 (f : Int)] 33)).alloc (.cells #[.int .i64 0, .int .i64 0, .int .i64 (fb : Int)] 33))
  clear C3 ya yb P2 B2
  go_wp2_with fail
  refine (do_is P3.out hB (by show sy1.steps < _; rw [sy1_is.2.2.2.2]; omega) (syA f d) (sy_canA f hf d)).mono ?_
  rintro e w4 ⟨rfl, P4, C4, K4⟩
  have Xa := Lib.hid (K4.out.addr P3.out Xa.out)
  have Xb := Lib.hid (K4.out.addr P3.out Xb.out)
  have X3 := Lib.hid (blk_low X3.out C4.out hz1)
  have B4 := Lib.hid (show Below w.heap.size w w4 from B3.out.trans (C4.out.mono B1.out.size))
  have q2 := Lib.hid (sy2_is f hf d)
  clear C4 K4 x0 x1 x2 x3 x4 P3 B3
  obtain ⟨x0, x1, x2, x3, x4⟩ := cell5 X3.out
  have b0 := Xb.out.cell 0
  have b1 := Xb.out.cell 1
  have b2 := Xb.out.cell 2
  simp only [List.getElem?_toArray, List.getElem?_cons_succ, List.getElem?_cons_zero] at b0 b1 b2
  go_wp2_with fail
  refine (do_is P4.out hB (by show (sy2 f d).steps < _; rw [q2.out.2.2.2.2.2]; omega) (syB fb d) (sy_canB f fb hf hfb d)).mono ?_
  rintro e w5 ⟨rfl, P5, C5, K5⟩
  have Xa := Lib.hid (K5.out.addr P4.out Xa.out)
  have Xb := Lib.hid (K5.out.addr P4.out Xb.out)
  have X3 := Lib.hid (blk_low X3.out C5.out hz1)
  have B5 := Lib.hid (show Below w.heap.size w w5 from B4.out.trans (C5.out.mono B1.out.size))
  have S5 := Lib.hid (sy_start f fb hf hfb d)
  clear C5 K5 x0 x1 x2 x3 x4 b0 b1 b2 P4 B4 q2 hw10 hw5
  go_wp2
  go_loopw [13] (SyRel w E w1.heap.size p bs bb (w3.heap.size + 1) (w3.heap.size + 1 + 1) f fb xs.length d) (fun i _ => 201 - (intOf i).toNat)
  case atStart => exact ⟨0, _, by omega, by omega, rfl, P5.out, S5.out.1, Nat.le_of_eq S5.out.2, Xa.out, Xb.out, X3.out, B5.out⟩
  case round =>
    obtain ⟨i, t, hi, hi200, rfl, hP, hS, hst, hXa, hXb, hX3, hbel⟩ := hrel
    obtain ⟨wo, rfl⟩ : ∃ wo : World, wo = wr := ⟨_, rfl⟩
    have HP := Lib.hid hP
    have HS := Lib.hid hS
    have HXa := Lib.hid hXa
    have HXb := Lib.hid hXb
    have HX3 := Lib.hid hX3
    have HB := Lib.hid hbel
    clear hP hS hXa hXb hX3 hbel P5 S5 Xa Xb B5 X3
    have a0 := HXa.out.cell 0
    have a1 := HXa.out.cell 1
    have a2 := HXa.out.cell 2
    have b0 := HXb.out.cell 0
    have b1 := HXb.out.cell 1
    have b2 := HXb.out.cell 2
    simp only [List.getElem?_toArray, List.getElem?_cons_succ, List.getElem?_cons_zero] at a0 a1 a2 b0 b1 b2
    have lza := HXa.out.lt
    have lzb := HXb.out.lt
    by_cases hlt : i < xs.length ∧ i < 200
    · obtain ⟨hlt, hlt200⟩ := hlt
      rcases HV.out with ⟨_, e⟩ | ⟨bx, off, cap, e, hbx, hcap, hcell⟩
      · subst e; exact absurd hlt (Nat.not_lt_zero _)
      · injection e with e1 e2 e3
        subst e1
        obtain ⟨a, ha⟩ : ∃ a, a = xs[i] := ⟨_, rfl⟩
        have hc := range_block (hcell i hlt) (HB.out.block bx hbx)
        rw [← ha] at hc
        obtain ⟨k, s, g, fl, d0, d1⟩ := a
        obtain ⟨y0, y1, y2, y3, y4, y5, y6, y7, y8, y9, y10, y11, y12, y13⟩ := acc_cells hc
        clear hc hcell ha e2 e3
        have j1 : (i : Int) < xs.length := by omega
        have j2 : (i : Int) < 200 := by omega
        have lbx : bx < wo.heap.size := lt_of_cell y0
        by_cases k2 : k = 2
        · subst k2
          cases h1 : eqT s g fl 1 1 f with
          | true =>
            have qA := fun w => eqAd s g fl 1 1 f w
            rw [h1] at qA
            clear h1
            go_wp2
            refine ⟨⟨i + 1, t, by omega, by omega, by go_num, alloc_keep HP.out _, HS.out, by omega, HXa.out.alloc _, HXb.out.alloc _, HX3.out.alloc _, low_alloc HB (Nat.le_refl _) _⟩, by simp [intOf]; omega⟩
          | false =>
            have qA := fun w => eqAd s g fl 1 1 f w
            rw [h1] at qA
            have H1 := Lib.hid h1
            clear h1
            cases h2 : eqT s g fl 0 0 fb with
            | true =>
              have qB := fun w => eqAd s g fl 0 0 fb w
              rw [h2] at qB
              clear h2
              go_wp2
              refine ⟨⟨i + 1, t, by omega, by omega, by go_num, alloc_keep HP.out _, HS.out, by omega, HXa.out.alloc _, HXb.out.alloc _, HX3.out.alloc _, low_alloc HB (Nat.le_refl _) _⟩, by simp [intOf]; omega⟩
            | false =>
              have qB := fun w => eqAd s g fl 0 0 fb w
              rw [h2] at qB
              have H2 := Lib.hid h2
              clear h2
              have NS := Lib.hid (show ¬ Skip ⟨2, s, g, fl, d0, d1⟩ f fb from by
                rintro (⟨_, ⟨e1, e2, e3⟩ | ⟨e1, e2, e3⟩⟩ | ⟨e1, _⟩)
                · have := (eqT_true (s := s) (g := g) (f := fl) (s' := 1) (g' := 1) (f' := f)).2 ⟨e1, e2, e3⟩
                  rw [H1.out] at this; cases this
                · have := (eqT_true (s := s) (g := g) (f := fl) (s' := 0) (g' := 0) (f' := fb)).2 ⟨e1, e2, e3⟩
                  rw [H2.out] at this; cases this
                · exact absurd e1 (show ¬ (2 : Int) = 5 by decide))
              go_wp2_with fail
              refine (do_either (alloc_keep HP.out _) hB (alloc_keep HP.out (.cells (acs ⟨2, s, g, fl, d0, d1⟩) 37)).le (by omega) ⟨2, s, g, fl, d0, d1⟩).mono ?_
              rintro e w7 ⟨r, rfl, P7, C7, K7⟩
              have PA := alloc_keep HP.out (.cells (acs ⟨2, s, g, fl, d0, d1⟩) 37)
              have Xa := Lib.hid (K7.out.addr PA (HXa.out.alloc _))
              have Xb := Lib.hid (K7.out.addr PA (HXb.out.alloc _))
              have Xc := Lib.hid (blk_low (HX3.out.alloc _) C7.out hz1)
              have B7 := Lib.hid (show Below w.heap.size w w7 from (low_alloc HB (Nat.le_refl _) (.cells (acs ⟨2, s, g, fl, d0, d1⟩) 37)).out.trans (C7.out.mono B1.out.size))
              have S7 := Lib.hid (sy_next HS.out PA.2.1 ⟨2, s, g, fl, d0, d1⟩ NS.out)
              have hst := St.next_steps t ⟨2, s, g, fl, d0, d1⟩
              have HST := Lib.hid hst
              clear PA C7 K7 hst
              go_wp2
              refine ⟨⟨i + 1, _, by omega, by omega, by go_num, P7.out, S7.out, by have := HST.out; omega, Xa.out, Xb.out, Xc.out, B7.out⟩, by simp [intOf]; omega⟩
        · by_cases k3 : k = 3
          · subst k3
            clear k2
            cases h1 : eqT s g fl 1 1 f with
            | true =>
              have qA := fun w => eqAd s g fl 1 1 f w
              rw [h1] at qA
              clear h1
              go_wp2
              refine ⟨⟨i + 1, t, by omega, by omega, by go_num, alloc_keep HP.out _, HS.out, by omega, HXa.out.alloc _, HXb.out.alloc _, HX3.out.alloc _, low_alloc HB (Nat.le_refl _) _⟩, by simp [intOf]; omega⟩
            | false =>
              have qA := fun w => eqAd s g fl 1 1 f w
              rw [h1] at qA
              have H1 := Lib.hid h1
              clear h1
              cases h2 : eqT s g fl 0 0 fb with
              | true =>
                have qB := fun w => eqAd s g fl 0 0 fb w
                rw [h2] at qB
                clear h2
                go_wp2
                refine ⟨⟨i + 1, t, by omega, by omega, by go_num, alloc_keep HP.out _, HS.out, by omega, HXa.out.alloc _, HXb.out.alloc _, HX3.out.alloc _, low_alloc HB (Nat.le_refl _) _⟩, by simp [intOf]; omega⟩
              | false =>
                have qB := fun w => eqAd s g fl 0 0 fb w
                rw [h2] at qB
                have H2 := Lib.hid h2
                clear h2
                have NS := Lib.hid (show ¬ Skip ⟨3, s, g, fl, d0, d1⟩ f fb from by
                  rintro (⟨_, ⟨e1, e2, e3⟩ | ⟨e1, e2, e3⟩⟩ | ⟨e1, _⟩)
                  · have := (eqT_true (s := s) (g := g) (f := fl) (s' := 1) (g' := 1) (f' := f)).2 ⟨e1, e2, e3⟩
                    rw [H1.out] at this; cases this
                  · have := (eqT_true (s := s) (g := g) (f := fl) (s' := 0) (g' := 0) (f' := fb)).2 ⟨e1, e2, e3⟩
                    rw [H2.out] at this; cases this
                  · exact absurd e1 (show ¬ (3 : Int) = 5 by decide))
                go_wp2_with fail
                refine (do_either (alloc_keep HP.out _) hB (alloc_keep HP.out (.cells (acs ⟨3, s, g, fl, d0, d1⟩) 37)).le (by omega) ⟨3, s, g, fl, d0, d1⟩).mono ?_
                rintro e w7 ⟨r, rfl, P7, C7, K7⟩
                have PA := alloc_keep HP.out (.cells (acs ⟨3, s, g, fl, d0, d1⟩) 37)
                have Xa := Lib.hid (K7.out.addr PA (HXa.out.alloc _))
                have Xb := Lib.hid (K7.out.addr PA (HXb.out.alloc _))
                have Xc := Lib.hid (blk_low (HX3.out.alloc _) C7.out hz1)
                have B7 := Lib.hid (show Below w.heap.size w w7 from (low_alloc HB (Nat.le_refl _) (.cells (acs ⟨3, s, g, fl, d0, d1⟩) 37)).out.trans (C7.out.mono B1.out.size))
                have S7 := Lib.hid (sy_next HS.out PA.2.1 ⟨3, s, g, fl, d0, d1⟩ NS.out)
                have hst := St.next_steps t ⟨3, s, g, fl, d0, d1⟩
                have HST := Lib.hid hst
                clear PA C7 K7 hst
                go_wp2
                refine ⟨⟨i + 1, _, by omega, by omega, by go_num, P7.out, S7.out, by have := HST.out; omega, Xa.out, Xb.out, Xc.out, B7.out⟩, by simp [intOf]; omega⟩
          · have n2 : (k == 2) = false := by simpa using k2
            have n3 : (k == 3) = false := by simpa using k3
            have K2 := Lib.hid k2
            have K3 := Lib.hid k3
            clear k2 k3
            by_cases k5 : k = 5
            · subst k5
              clear n2 n3
              by_cases ho : d0.slot = 1
              · have q5 : (d0.slot == 1) = true := by simpa using ho
                clear ho
                go_wp2
                refine ⟨⟨i + 1, t, by omega, by omega, by go_num, alloc_keep HP.out _, HS.out, by omega, HXa.out.alloc _, HXb.out.alloc _, HX3.out.alloc _, low_alloc HB (Nat.le_refl _) _⟩, by simp [intOf]; omega⟩
              · have q5 : (d0.slot == 1) = false := by simpa using ho
                have HO := Lib.hid ho
                clear ho
                have NS := Lib.hid (show ¬ Skip ⟨5, s, g, fl, d0, d1⟩ f fb from by
                  rintro (⟨e1, _⟩ | ⟨_, e2⟩)
                  · exact absurd e1 (show ¬ ((5 : Int) = 2 ∨ (5 : Int) = 3) by decide)
                  · exact HO.out e2)
                go_wp2_with fail
                refine (do_either (alloc_keep HP.out _) hB (alloc_keep HP.out (.cells (acs ⟨5, s, g, fl, d0, d1⟩) 37)).le (by omega) ⟨5, s, g, fl, d0, d1⟩).mono ?_
                rintro e w7 ⟨r, rfl, P7, C7, K7⟩
                have PA := alloc_keep HP.out (.cells (acs ⟨5, s, g, fl, d0, d1⟩) 37)
                have Xa := Lib.hid (K7.out.addr PA (HXa.out.alloc _))
                have Xb := Lib.hid (K7.out.addr PA (HXb.out.alloc _))
                have Xc := Lib.hid (blk_low (HX3.out.alloc _) C7.out hz1)
                have B7 := Lib.hid (show Below w.heap.size w w7 from (low_alloc HB (Nat.le_refl _) (.cells (acs ⟨5, s, g, fl, d0, d1⟩) 37)).out.trans (C7.out.mono B1.out.size))
                have S7 := Lib.hid (sy_next HS.out PA.2.1 ⟨5, s, g, fl, d0, d1⟩ NS.out)
                have hst := St.next_steps t ⟨5, s, g, fl, d0, d1⟩
                have HST := Lib.hid hst
                clear PA C7 K7 hst
                go_wp2
                refine ⟨⟨i + 1, _, by omega, by omega, by go_num, P7.out, S7.out, by have := HST.out; omega, Xa.out, Xb.out, Xc.out, B7.out⟩, by simp [intOf]; omega⟩
            · have n5 : (k == 5) = false := by simpa using k5
              have K5 := Lib.hid k5
              clear k5
              have NS := Lib.hid (show ¬ Skip ⟨k, s, g, fl, d0, d1⟩ f fb from by
                rintro (⟨e1 | e1, _⟩ | ⟨e1, _⟩)
                · exact K2.out e1
                · exact K3.out e1
                · exact K5.out e1)
              go_wp2_with fail
              refine (do_either (alloc_keep HP.out _) hB (alloc_keep HP.out (.cells (acs ⟨k, s, g, fl, d0, d1⟩) 37)).le (by omega) ⟨k, s, g, fl, d0, d1⟩).mono ?_
              rintro e w7 ⟨r, rfl, P7, C7, K7⟩
              have PA := alloc_keep HP.out (.cells (acs ⟨k, s, g, fl, d0, d1⟩) 37)
              have Xa := Lib.hid (K7.out.addr PA (HXa.out.alloc _))
              have Xb := Lib.hid (K7.out.addr PA (HXb.out.alloc _))
              have Xc := Lib.hid (blk_low (HX3.out.alloc _) C7.out hz1)
              have B7 := Lib.hid (show Below w.heap.size w w7 from (low_alloc HB (Nat.le_refl _) (.cells (acs ⟨k, s, g, fl, d0, d1⟩) 37)).out.trans (C7.out.mono B1.out.size))
              have S7 := Lib.hid (sy_next HS.out PA.2.1 ⟨k, s, g, fl, d0, d1⟩ NS.out)
              have hst := St.next_steps t ⟨k, s, g, fl, d0, d1⟩
              have HST := Lib.hid hst
              clear PA C7 K7 hst
              go_wp2
              refine ⟨⟨i + 1, _, by omega, by omega, by go_num, P7.out, S7.out, by have := HST.out; omega, Xa.out, Xb.out, Xc.out, B7.out⟩, by simp [intOf]; omega⟩
    · have hex : xs.length ≤ i ∨ (i < xs.length ∧ 200 ≤ i) := by omega
      clear hlt
      rcases hex with h1 | ⟨h1, h2⟩
      · have j1 : ¬ (i : Int) < xs.length := by omega
        clear h1
        have HPA := Lib.hid (peek_at HP.out 1 1 (f : Int))
        rw [show t.peek 1 1 (f : Int) = some d by
          have := peek_slot (t := t) (i := 0) (g := 1) (f := f) (by rw [HS.out.cnt]; omega) hf HS.out.given (by rw [HS.out.gen]; rfl)
          rw [HS.out.cell] at this
          exact this, peekV_some] at HPA
        have qW := eqWd d
        have q1 := noHeld
        have q2 := noGuard
        go_wp2_with fail
        refine HPA.out.mono ?_
        rintro e w7 ⟨rfl, hb⟩
        have hb := below_alloc hb (.cells #[.int .i64 d.slot, .int .i64 d.gen, .int .i64 d.tag, .int .i64 d.num, .bool d.mark] 35)
        have HP7 := Lib.hid (HP.out.keep hb)
        have Xb7 := Lib.hid (HXb.out.below hb)
        have B7 := Lib.hid (show Below w.heap.size w _ from HB.out.trans (hb.mono HB.out.size))
        have X7 := Lib.hid (HX3.out.below hb)
        have Y7 := Lib.hid (BlkW.new w7 35 #[.int .i64 d.slot, .int .i64 d.gen, .int .i64 d.tag, .int .i64 d.num, .bool d.mark])
        clear hb a0 a1 a2 b0 b1 b2 HXa HXb HX3 HP HB
        have b0 := Xb7.out.cell 0
        have b1 := Xb7.out.cell 1
        have b2 := Xb7.out.cell 2
        simp only [List.getElem?_toArray, List.getElem?_cons_succ, List.getElem?_cons_zero] at b0 b1 b2
        have HPB := Lib.hid (peek_at HP7.out 0 0 (fb : Int))
        rw [show t.peek 0 0 (fb : Int) = some d by
          have := peek_board (t := t) (f := fb) (by rw [HS.out.brd]; exact hfb)
          rw [HS.out.board] at this
          exact this, peekV_some] at HPB
        go_wp2_with fail
        refine HPB.out.mono ?_
        rintro e w8 ⟨rfl, hb⟩
        have B8 := Lib.hid (show Below w.heap.size w w8 from B7.out.trans (hb.mono B7.out.size))
        have Y8 := Lib.hid (Y7.out.below hb)
        have X8 := Lib.hid (X7.out.below hb)
        clear hb b0 b1 b2
        obtain ⟨z0, z1, z2, z3, z4⟩ := cell5 Y8.out
        obtain ⟨x0, x1, x2, x3, x4⟩ := cell5 X8.out
        have hz8 := X8.out.lt
        have hy8 := Y8.out.lt
        go_wp2
        go_ret
        exact ⟨rfl, low_alloc B8 (Nat.le_refl _) _⟩
      · have j1 : (i : Int) < xs.length := by omega
        have j2 : ¬ (i : Int) < 200 := by omega
        clear h1 h2
        have HPA := Lib.hid (peek_at HP.out 1 1 (f : Int))
        rw [show t.peek 1 1 (f : Int) = some d by
          have := peek_slot (t := t) (i := 0) (g := 1) (f := f) (by rw [HS.out.cnt]; omega) hf HS.out.given (by rw [HS.out.gen]; rfl)
          rw [HS.out.cell] at this
          exact this, peekV_some] at HPA
        have qW := eqWd d
        have q1 := noHeld
        have q2 := noGuard
        go_wp2_with fail
        refine HPA.out.mono ?_
        rintro e w7 ⟨rfl, hb⟩
        have hb := below_alloc hb (.cells #[.int .i64 d.slot, .int .i64 d.gen, .int .i64 d.tag, .int .i64 d.num, .bool d.mark] 35)
        have HP7 := Lib.hid (HP.out.keep hb)
        have Xb7 := Lib.hid (HXb.out.below hb)
        have B7 := Lib.hid (show Below w.heap.size w _ from HB.out.trans (hb.mono HB.out.size))
        have X7 := Lib.hid (HX3.out.below hb)
        have Y7 := Lib.hid (BlkW.new w7 35 #[.int .i64 d.slot, .int .i64 d.gen, .int .i64 d.tag, .int .i64 d.num, .bool d.mark])
        clear hb a0 a1 a2 b0 b1 b2 HXa HXb HX3 HP HB
        have b0 := Xb7.out.cell 0
        have b1 := Xb7.out.cell 1
        have b2 := Xb7.out.cell 2
        simp only [List.getElem?_toArray, List.getElem?_cons_succ, List.getElem?_cons_zero] at b0 b1 b2
        have HPB := Lib.hid (peek_at HP7.out 0 0 (fb : Int))
        rw [show t.peek 0 0 (fb : Int) = some d by
          have := peek_board (t := t) (f := fb) (by rw [HS.out.brd]; exact hfb)
          rw [HS.out.board] at this
          exact this, peekV_some] at HPB
        go_wp2_with fail
        refine HPB.out.mono ?_
        rintro e w8 ⟨rfl, hb⟩
        have B8 := Lib.hid (show Below w.heap.size w w8 from B7.out.trans (hb.mono B7.out.size))
        have Y8 := Lib.hid (Y7.out.below hb)
        have X8 := Lib.hid (X7.out.below hb)
        clear hb b0 b1 b2
        obtain ⟨z0, z1, z2, z3, z4⟩ := cell5 Y8.out
        obtain ⟨x0, x1, x2, x3, x4⟩ := cell5 X8.out
        have hz8 := X8.out.lt
        have hy8 := Y8.out.lt
        go_wp2
        go_ret
        exact ⟨rfl, low_alloc B8 (Nat.le_refl _) _⟩
end Go.Proofs.YtkaplagbcnkflaaDoor
