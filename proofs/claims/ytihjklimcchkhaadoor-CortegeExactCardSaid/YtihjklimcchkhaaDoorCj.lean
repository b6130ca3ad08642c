/- The walk of CortegeExact. A template (fill.py). -/
import Derived.Test.YtihjklimcchkhaaDoorCh
import Derived.Test.YtihjklimcchkhaaDoorCu
import Derived.Test.YtihjklimcchkhaaDoorCv
import Derived.LoopTactic
namespace Go.Proofs.YtihjklimcchkhaaDoor.Co
open Go.RowKit Go.Extern.Stop Go.Stop Go.Extern Go.Sort
theorem alike_jok {j : Jb} {u : Rf} (h : Alike j u) : JOk j := by
  obtain ⟨_, hk, h⟩ := h
  rcases h with ⟨h, _, _⟩ | ⟨h, _⟩
  · rcases hk with hk | hk
    · exact .inl ⟨hk, by simp [h]⟩
    · exact .inr ⟨hk, by simp [h]⟩
  · rcases h with ⟨hk, h⟩ | ⟨hk, h⟩
    · exact .inl ⟨hk, by unfold LinesE at h; omega⟩
    · exact .inr ⟨hk, by unfold LinesD at h; omega⟩
theorem alike_rok {j : Jb} {u : Rf} (h : Alike j u) : ROk u := by
  obtain ⟨e, hk, h⟩ := h
  rw [e] at hk h
  refine ⟨hk, ?_⟩
  rcases h with ⟨_, h, _⟩ | ⟨h, _⟩
  · exact .inl h
  · rcases h with ⟨_, h⟩ | ⟨_, h⟩
    · right; unfold LinesE at h; omega
    · right; unfold LinesD at h; omega
theorem low_only {w W W' : World} {b : Nat} (h : Below w.heap.size w W) (hb : w.heap.size ≤ b) (k : Only b W W') : Below w.heap.size w W' := below_low h (k.below (fun j e => by rw [e]; exact hb) h.size)
theorem jnext_c {w : World} {b : Nat} {j j' : Jb} (h : JAt w b j) (x : Wd × Bool) (ok : JOk j) {c : Ca} (hj : j.go x = j') (hc : j'.ca = c) : Calls Tryd.prog 8 #[.pointer (some ⟨b, 0, none⟩), rpv x] w fun e w' => e = .returned (.agg (cac c).toArray) ∧ Hid (JAt w' b j') ∧ Hid (Only b w w') := by
  subst hj hc
  exact jnext_is h x ok
theorem rnext_c {w : World} {b : Nat} {u u' : Rf} (h : UAt w b u) (x : Wd × Bool) (ok : ROk u) {c : Ca} (hu : (u.go x).1 = u') (hc : (u.go x).2 = c) : Calls Tryd.prog 9 #[.pointer (some ⟨b, 0, none⟩), rpv x] w fun e w' => e = .returned (.agg (cac c).toArray) ∧ Hid (UAt w' b u') ∧ Hid (Only b w w') := by
  subst hu hc
  exact rnext_is h x ok
/-- Six cells that read as a reply. -/
def Six (w : World) (g o : Nat) (d : Wd × Bool) : Prop := w.cell? ⟨g, o, none⟩ = some (.int .i64 d.1.slot) ∧ w.cell? ⟨g, o + 1, none⟩ = some (.int .i64 d.1.gen) ∧ w.cell? ⟨g, o + 2, none⟩ = some (.int .i64 d.1.tag) ∧ w.cell? ⟨g, o + 3, none⟩ = some (.int .i64 d.1.num) ∧ w.cell? ⟨g, o + 4, none⟩ = some (.bool d.1.mark) ∧ w.cell? ⟨g, o + 5, none⟩ = some (.bool d.2)
theorem Six.only {w w' : World} {r g o : Nat} {d : Wd × Bool} (k : Only r w w') (hg : g < w.heap.size) (hr : g ≠ r) (h : Six w g o d) : Six w' g o d :=
  ⟨k.cell hg hr h.1, k.cell hg hr h.2.1, k.cell hg hr h.2.2.1, k.cell hg hr h.2.2.2.1, k.cell hg hr h.2.2.2.2.1, k.cell hg hr h.2.2.2.2.2⟩
def CxRel (w : World) (b ub n : Nat) (vi : Value) (wr : World) : Prop :=
  ∃ (i : Nat) (j : Jb) (u : Rf), i ≤ n ∧ i ≤ 100 ∧ vi = .int .i64 (i : Int) ∧ JAt wr b j ∧ UAt wr ub u ∧ Alike j u ∧ Below w.heap.size w wr
set_option maxRecDepth 100000 in
set_option maxHeartbeats 2000000 in
theorem cexact_no (o : Po) (v : Value) (hn : ¬ o.Can) (a : Addr) (w : World) (L : Bd.HasArg w a) : Calls Tryd.prog 3 #[opv o, v] w (True1 w) := by
  have HL := Lib.hid L
  have HN := Lib.hid hn
  clear L hn
  have hb := below_alloc (Below.refl w.heap.size w) (.cells #[.int .i64 o.kind, .int .i64 o.key, .int .i64 o.val, .int .i64 o.tall] 23)
  have HB := Lib.hid hb
  have HX := Lib.hid (BlkW.new w 23 #[.int .i64 o.kind, .int .i64 o.key, .int .i64 o.val, .int .i64 o.tall])
  clear hb
  unfold opv
  go_enter Tryd.func3, Tryd.ntmps3
  go_wp2_with fail
  refine (awake_is _ a (Bd.cell_keep HL.out HB.out)).mono ?_
  rintro e w1 ⟨rfl, hb⟩
  replace HX := Lib.hid (HX.out.below hb)
  replace HB := Lib.hid (below_trans HB.out hb)
  clear hb
  have b0 := HX.out.cell 0
  have b1 := HX.out.cell 1
  have b2 := HX.out.cell 2
  have b3 := HX.out.cell 3
  simp only [List.getElem?_toArray, List.getElem?_cons_succ, List.getElem?_cons_zero] at b0 b1 b2 b3
  have hz := HX.out.lt
  go_wp2_with fail
  refine (Start_no o HN.out a _ (Bd.cell_keep HL.out HB.out)).mono ?_
  rintro e w2 ⟨u, rfl, hch, hb⟩
  replace HX := Lib.hid (HX.out.below hb)
  replace HB := Lib.hid (below_trans HB.out hb)
  have HC := Lib.hid hch
  obtain ⟨T, y, hu⟩ := hch.shape
  subst hu
  clear hb hch b0 b1 b2 b3 hz
  have b0 := HX.out.cell 0
  have b1 := HX.out.cell 1
  have b2 := HX.out.cell 2
  have b3 := HX.out.cell 3
  simp only [List.getElem?_toArray, List.getElem?_cons_succ, List.getElem?_cons_zero] at b0 b1 b2 b3
  have hz := HX.out.lt
  go_wp2_with fail
  refine (rStart_no o HN.out _).mono ?_
  rintro e w3 ⟨rfl, hb⟩
  replace HB := Lib.hid (below_trans HB.out hb)
  replace HC := Lib.hid (HC.out.keep hb)
  clear hb b0 b1 b2 b3 hz HX
  have HA := Lib.hid (Bd.cell_keep HL.out HB.out)
  have ha := HA.out
  unfold Bd.HasArg at HL
  have hz := lt_of_cell ha
  go_wp2_with (go_at_call 7; refine (Is_same HC.out).mono ?_; rintro e w4 ⟨rfl, rfl⟩)
  go_ret
  exact ⟨rfl, HB.out⟩
set_option maxRecDepth 100000 in
set_option maxHeartbeats 4000000 in
theorem cexact_yes (o : Po) (v : Value) (xs : List (Wd × Bool)) (hn : o.Can) (a : Addr) (w : World) (L : Bd.HasArg w a) (hv : RowC rpc 6 w v xs) : Calls Tryd.prog 3 #[opv o, v] w (True1 w) := by
  have HL := Lib.hid L
  have HN := Lib.hid hn
  have HV := Lib.hid hv
  obtain ⟨ao, cp, rfl⟩ := hv.slice
  clear L hn hv
  have hb := below_alloc (Below.refl w.heap.size w) (.cells #[.int .i64 o.kind, .int .i64 o.key, .int .i64 o.val, .int .i64 o.tall] 23)
  have HB := Lib.hid hb
  have HX := Lib.hid (BlkW.new w 23 #[.int .i64 o.kind, .int .i64 o.key, .int .i64 o.val, .int .i64 o.tall])
  clear hb
  unfold opv
  go_enter Tryd.func3, Tryd.ntmps3
  go_wp2_with fail
  refine (awake_is _ a (Bd.cell_keep HL.out HB.out)).mono ?_
  rintro e w1 ⟨rfl, hb⟩
  replace HX := Lib.hid (HX.out.below hb)
  replace HB := Lib.hid (below_trans HB.out hb)
  clear hb
  have b0 := HX.out.cell 0
  have b1 := HX.out.cell 1
  have b2 := HX.out.cell 2
  have b3 := HX.out.cell 3
  simp only [List.getElem?_toArray, List.getElem?_cons_succ, List.getElem?_cons_zero] at b0 b1 b2 b3
  have hz := HX.out.lt
  go_wp2_with fail
  refine (Start_yes o HN.out _).mono ?_
  rintro e w2 ⟨jb, rfl, j1, j2, j3⟩
  replace HX := Lib.hid (HX.out.below j3.out)
  have HJB : Hid (w.heap.size ≤ jb) := Lib.hid (Nat.le_trans HB.out.size j1)
  replace HB := Lib.hid (below_trans HB.out j3.out)
  have HJ := Lib.hid j2.out
  clear b0 b1 b2 b3 hz j1 j2 j3
  have b0 := HX.out.cell 0
  have b1 := HX.out.cell 1
  have b2 := HX.out.cell 2
  have b3 := HX.out.cell 3
  simp only [List.getElem?_toArray, List.getElem?_cons_succ, List.getElem?_cons_zero] at b0 b1 b2 b3
  have hz := HX.out.lt
  go_wp2_with fail
  refine (rStart_yes o HN.out _).mono ?_
  rintro e w3 ⟨ub, rfl, j1, j2, j3⟩
  have HUB : Hid (w.heap.size ≤ ub) := Lib.hid (Nat.le_trans HB.out.size j1)
  replace HB := Lib.hid (below_trans HB.out j3.out)
  replace HJ := Lib.hid (HJ.out.below j3.out)
  have HU := Lib.hid j2.out
  have hne : jb ≠ ub := by have := BlkW.lt HJ.out; have := BlkW.lt HU.out; intro e; subst e; exact BlkW.ne_ HJ.out HU.out (by decide) rfl
  clear b0 b1 b2 b3 hz j1 j2 j3 HX
  go_wp2
  go_loopw [8] (CxRel w jb ub xs.length) (fun i _ => 101 - (intOf i).toNat)
  case atStart => exact ⟨0, _, _, by omega, by omega, rfl, HJ.out, HU.out, alike_new o (by have := HN.out; unfold Po.Can at this; omega), HB.out⟩
  case round =>
    obtain ⟨i, j, u, hi, hi100, rfl, hJ, hU, hA, hbel⟩ := hrel
    obtain ⟨wo, rfl⟩ : ∃ wo : World, wo = wr := ⟨_, rfl⟩
    replace HJ := Lib.hid hJ
    replace HU := Lib.hid hU
    replace HB := Lib.hid hbel
    have HA := Lib.hid hA
    clear hJ hU hA hbel
    by_cases hlt : i < xs.length ∧ i < 100
    · obtain ⟨hlt, hlt2⟩ := hlt
      rcases HV.out with ⟨_, e⟩ | ⟨bx, off, cap, e, hbx, hcap, hcell⟩
      · subst e; exact absurd hlt (Nat.not_lt_zero _)
      · injection e with e1 e2 e3
        subst e1
        obtain ⟨d, hd⟩ : ∃ d, d = xs[i] := ⟨_, rfl⟩
        have hc := range_block (hcell i hlt) (HB.out.block bx hbx)
        rw [← hd] at hc
        have x0 : wo.cell? ⟨bx, off + i * 6, none⟩ = some (.int .i64 d.1.slot) := hc 0 _ rfl
        have x1 : wo.cell? ⟨bx, off + i * 6 + 1, none⟩ = some (.int .i64 d.1.gen) := hc 1 _ rfl
        have x2 : wo.cell? ⟨bx, off + i * 6 + 2, none⟩ = some (.int .i64 d.1.tag) := hc 2 _ rfl
        have x3 : wo.cell? ⟨bx, off + i * 6 + 3, none⟩ = some (.int .i64 d.1.num) := hc 3 _ rfl
        have x4 : wo.cell? ⟨bx, off + i * 6 + 4, none⟩ = some (.bool d.1.mark) := hc 4 _ rfl
        have x5 : wo.cell? ⟨bx, off + i * 6 + 5, none⟩ = some (.bool d.2) := hc 5 _ rfl
        have HS : Hid (Six wo.drew bx (off + i * 6) d) := Lib.hid ⟨x0, x1, x2, x3, x4, x5⟩
        have hbo : bx < wo.heap.size := Nat.lt_of_lt_of_le hbx HB.out.size
        have hbj : bx ≠ jb := by have := HJB.out; omega
        have hbu : bx ≠ ub := by have := HUB.out; omega
        clear hc hcell hd e2 e3 hbx
        have j1 : (i : Int) < xs.length := by omega
        have j2 : (i : Int) < 100 := by omega
        have HAN := Lib.hid (alike_go HA.out d)
        obtain ⟨j', hj'⟩ : ∃ j', j.go d = j' := ⟨_, rfl⟩
        obtain ⟨c, hc'⟩ : ∃ c, j'.ca = c := ⟨_, rfl⟩
        obtain ⟨u', hu'⟩ : ∃ u', (u.go d).1 = u' := ⟨_, rfl⟩
        have hcc : (u.go d).2 = c := by rw [← HAN.out.2, hj', hc']
        have HAL : Hid (Alike j' u') := Lib.hid (by have := HAN.out.1; rwa [hj', hu'] at this)
        have HJD := Lib.hid (jnext_c (JAt.drew HJ.out) d (alike_jok HA.out) hj' hc')
        have HUD := Lib.hid (UAt.drew HU.out)
        have HUC := Lib.hid (show ∀ W, UAt W ub u → _ from fun W hW => rnext_c hW d (alike_rok HA.out) hu' hcc)
        unfold rpv at HJD HUC
        have q1 := cHeld
        have q2 := cGuard
        have q3 := call_ne
        clear hj' hc' hu' hcc HAN
        go_upto_region 12 with (fail)
        go_region_held3 (fun w' => w'.cell? ⟨bx, off + i * 6, none⟩ = some (.int .i64 d.1.slot) ∧ w'.cell? ⟨bx, off + i * 6 + 1, none⟩ = some (.int .i64 d.1.gen) ∧ w'.cell? ⟨bx, off + i * 6 + 2, none⟩ = some (.int .i64 d.1.tag) ∧ w'.cell? ⟨bx, off + i * 6 + 3, none⟩ = some (.int .i64 d.1.num) ∧ w'.cell? ⟨bx, off + i * 6 + 4, none⟩ = some (.bool d.1.mark) ∧ w'.cell? ⟨bx, off + i * 6 + 5, none⟩ = some (.bool d.2))
          (first | go_keep | exact HS1.out | exact HS2.out)
          (first
          | (go_at_call 8; refine HJD.out.mono ?_; rintro e w5 ⟨rfl, k1, k2⟩; have HU5 := Lib.hid (k2.out.blk HUD.out (fun e => hne e.symm)); have HS1 := Lib.hid (Six.only k2.out hbo hbj HS.out); have hbo5 := Only.lt k2.out hbo)
          | (go_at_call 9; refine (HUC.out _ HU5.out).mono ?_; rintro e w6 ⟨rfl, k3, k4⟩; have HJ6 := Lib.hid (k4.out.blk k1.out hne); have HS2 := Lib.hid (Six.only k4.out hbo5 hbu HS1.out)))
        all_goals
          have B6 := Lib.hid (low_only (low_only (below_low HB.out ((Below.refl wo.heap.size wo).drew.mono HB.out.size)) HJB.out k2.out) HUB.out k4.out)
          have U6 := Lib.hid k3.out
          clear x0 x1 x2 x3 x4 x5 k1 k2 k3 k4 HS HS1 HS2 hbo5 HU5 HUD HJD HUC q3
          go_wp2
          refine ⟨⟨i + 1, j', u', by omega, by omega, by go_num, HJ6.out, U6.out, HAL.out, B6.out⟩, by simp [intOf]; omega⟩
    · have hlt' : xs.length ≤ i ∨ (i < xs.length ∧ 100 ≤ i) := by omega
      clear hlt
      have q1 := cHeld
      have q2 := cGuard
      have q3 : ∀ w, (binOp .eql 41 (.agg (cac za).toArray) (.agg #[.int .i64 0, .int .i64 0, .int .i64 0, .int .i64 0, .int .i64 0, .int .i64 0, .int .i64 0, .int .i64 0, .bool false, .int .i64 0, .int .i64 0, .int .i64 0, .int .i64 0, .bool false, .int .i64 0, .int .i64 0, .int .i64 0, .int .i64 0])).run Tryd.prog w = .ok (.bool true) w := fun w => by kernel_rfl
      have HJN := Lib.hid (show ∀ w, Calls Tryd.prog 8 #[.pointer none, rpv (zw, false)] w fun e w' => e = .returned (.agg (cac za).toArray) ∧ Below w.heap.size w w' from jnone)
      rcases hlt' with hge | ⟨hlt, hge⟩
      · have j1 : ¬ (i : Int) < xs.length := by omega
        clear hge
        go_wp2_with fail
        refine (HJN.out _).mono ?_
        rintro e w7 ⟨rfl, hb⟩
        have B7 := Lib.hid (below_low HB.out (hb.mono HB.out.size))
        clear hb
        go_wp2
        go_ret
        exact ⟨rfl, B7.out⟩
      · have j1 : (i : Int) < xs.length := by omega
        have j2 : ¬ (i : Int) < 100 := by omega
        clear hge hlt
        go_wp2_with fail
        refine (HJN.out _).mono ?_
        rintro e w7 ⟨rfl, hb⟩
        have B7 := Lib.hid (below_low HB.out (hb.mono HB.out.size))
        clear hb
        go_wp2
        go_ret
        exact ⟨rfl, B7.out⟩
theorem cexact_any (o : Po) (v : Value) (xs : List (Wd × Bool)) (a : Addr) (w : World) (L : Bd.HasArg w a) (hv : RowC rpc 6 w v xs) : Calls Tryd.prog 3 #[opv o, v] w (True1 w) := by
  by_cases hn : o.Can
  · exact cexact_yes o v xs hn a w L hv
  · exact cexact_no o v hn a w L
end Go.Proofs.YtihjklimcchkhaaDoor.Co
