/- The walk of SieveMore. A template (made by gen_XSq.py). -/
import Derived.Test.YtlhhjbjdinimjaaSh
import Derived.Lib.MinMax
namespace Go.Proofs.Ytlhhjbjdinimjaa
open Go.RowKit Go.Extern.Stop Go.Stop Go.Extern Go.Sort

theorem more_in {p q : Nt → Bool} (xs : List Nt) (h : ∀ n, p n = true → q n = true) : ∀ n, n ∈ (xs.filter fun n => !q n) → cnt n (xs.filter fun n => !q n) ≤ cnt n (xs.filter fun n => !p n) := by
  intro n hn
  have hq : (!q n) = true := (List.mem_filter.1 hn).2
  have hp : (!p n) = true := by
    cases e : p n with
    | false => rfl
    | true => rw [h n e] at hq; cases hq
  rw [cnt_filter_yes (fun n => !q n) n xs hq, cnt_filter_yes (fun n => !p n) n xs hp]
  exact Nat.le_refl _
theorem slot_more (a b : List Wd) (n : Nt) (h : slotP a n = true) : slotP (a ++ b) n = true := by unfold slotP at *; rw [List.any_append, h]; rfl
theorem era_more (a b : List Int) (n : Nt) (h : eraP a n = true) : eraP (a ++ b) n = true := by unfold eraP at *; rw [List.any_append, h]; rfl
theorem span_more (a b : List Sp) (n : Nt) (h : spanP a n = true) : spanP (a ++ b) n = true := by unfold spanP at *; rw [List.any_append, h]; rfl
theorem epoch_more (a b : Int) (ha : 0 ≤ a ∧ a ≤ 1099511627776) (hb : 0 ≤ b ∧ b ≤ 1099511627776) (hab : a ≤ b) (n : Nt) (h : epochK b n = true) : epochK a n = true := by
  unfold epochK at *
  rw [IntWalk.wrap64_in (b - 2) ⟨by omega, by omega⟩] at h
  rw [IntWalk.wrap64_in (a - 2) ⟨by omega, by omega⟩]
  simp only [Bool.or_eq_true, decide_eq_true_eq] at *
  omega
theorem all_free {p : Nt → Bool} (xs : List Nt) (h : ∀ n, p n = false) : (xs.filter fun n => !p n) = xs := List.filter_eq_self.2 fun n _ => by rw [h n]; rfl
theorem slot_nil (n : Nt) : slotP [] n = false := rfl
theorem era_nil (n : Nt) : eraP [0, -1] n = false := by simp [eraP, eraK]
theorem span_nil (n : Nt) : spanP [⟨false, 0, 1099511627776⟩] n = false := by simp [spanP, spanK]
theorem two_keep {W w' : World} {a b : Addr} {u v : Value} (h1 : W.cell? a = some u) (h2 : W.cell? b = some v) (h : Below W.heap.size W w') : w'.cell? a = some u ∧ w'.cell? b = some v ∧ Below W.heap.size W w' := ⟨keep_cell h1 h, keep_cell h2 h, h⟩
theorem filt_le (p : Nt → Bool) (xs : List Nt) (h : xs.length ≤ 200) : (xs.filter p).length ≤ 200 := Nat.le_trans (List.length_filter_le _ _) h
set_option maxRecDepth 100000 in
set_option maxHeartbeats 16000000 in
theorem more_small (v : Value) (xs : List Nt) (k m : Kp) (w : World) (hv : RowC nc 7 w v xs) (hk : KpAt w k) (hm : KpAt w m) (hx : xs.length ≤ 60) (sk : k.Small) (sm : m.Small) (nk : 0 ≤ k.now ∧ k.now ≤ 1099511627776) (nm : 0 ≤ m.now ∧ m.now ≤ 1099511627776) :
    Calls Try.prog 4 #[v, kv k, kv m] w (True1 w) := by
  obtain ⟨i0, hi0, hz0, hs0, hy0⟩ := info_parts infoInt
  obtain ⟨i3, hi3, hz3, hs3, hy3⟩ := info_parts infoSpan
  obtain ⟨i5, hi5, hz5, hs5, hy5⟩ := info_parts infoWord
  obtain ⟨n1, n2⟩ := blk2 w #[k.vs, k.ve, k.vp, .int .i64 k.now] #[m.vs, m.ve, m.vp, .int .i64 m.now] 27 27
  have HX := Lib.hid n1
  have HY := Lib.hid n2
  have B0 := Lib.hid (below_alloc (below_alloc (Below.refl w.heap.size w) (.cells #[k.vs, k.ve, k.vp, .int .i64 k.now] 27)) (.cells #[m.vs, m.ve, m.vp, .int .i64 m.now] 27))
  have HV := Lib.hid (hv.keep B0.out)
  have HK := Lib.hid (hk.keep B0.out)
  have HM := Lib.hid (hm.keep B0.out)
  clear n1 n2
  have G := Lib.hid (fun W h1 h2 => great_no v xs k W h1 h2 hx sk)
  have G' := Lib.hid (fun W h1 h2 => great_no v xs m W h1 h2 hx sm)
  have hx' : xs.length ≤ 200 := by omega
  have s1 : k.slots.length ≤ 60 ∧ k.eras.length ≤ 60 ∧ k.spans.length ≤ 60 := sk
  have s2 : m.slots.length ≤ 60 ∧ m.eras.length ≤ 60 ∧ m.spans.length ≤ 60 := sm
  unfold kv at G G' ⊢
  obtain ⟨vs, ve, vp, sl, er, sp, now⟩ := k
  obtain ⟨vs', ve', vp', sl', er', sp', now'⟩ := m
  dsimp only at G G' HX HY HK HM B0 s1 s2 nk nm ⊢
  obtain ⟨l1, l2, l3⟩ := s1
  obtain ⟨l4, l5, l6⟩ := s2
  obtain ⟨ao, cp, rfl⟩ := hv.slice
  clear hv hk hm sk sm
  obtain ⟨a1, c1, e1⟩ := HK.out.slots.slice
  obtain ⟨a2, c2, e2⟩ := HK.out.eras.slice
  obtain ⟨a3, c3, e3⟩ := HK.out.spans.slice
  obtain ⟨a4, c4, e4⟩ := HM.out.slots.slice
  obtain ⟨a5, c5, e5⟩ := HM.out.eras.slice
  obtain ⟨a6, c6, e6⟩ := HM.out.spans.slice
  dsimp only at e1 e2 e3 e4 e5 e6
  subst e1 e2 e3 e4 e5 e6
  have NK := Lib.hid nk
  have NM := Lib.hid nm
  have LF := Lib.hid (fun p => filt_le p xs hx')
  have d1 : decide (now < 0) = false := by simp; omega
  have d2 : decide (1099511627776 < now) = false := by simp; omega
  have d3 : decide (now' < 0) = false := by simp; omega
  have d4 : decide (1099511627776 < now') = false := by simp; omega
  clear nk nm
  go_enter Try.func4, Try.ntmps4
  go_wp2_with fail
  refine (awake_true _).mono ?_
  rintro e w1 ⟨rfl, hb⟩
  replace B0 := Lib.hid (below_trans B0.out hb)
  replace HX := Lib.hid (HX.out.below hb)
  replace HY := Lib.hid (HY.out.below hb)
  replace HV := Lib.hid (HV.out.keep hb)
  replace HK := Lib.hid (HK.out.keep hb)
  replace HM := Lib.hid (HM.out.keep hb)
  clear hb
  obtain ⟨q0, q1, q2, q3⟩ := cell4 HX.out
  go_wp2_with fail
  refine (G.out _ HV.out HK.out).mono ?_
  rintro e w2 ⟨rfl, hb⟩
  replace B0 := Lib.hid (below_trans B0.out hb)
  replace HX := Lib.hid (HX.out.below hb)
  replace HY := Lib.hid (HY.out.below hb)
  replace HV := Lib.hid (HV.out.keep hb)
  replace HK := Lib.hid (HK.out.keep hb)
  replace HM := Lib.hid (HM.out.keep hb)
  clear hb q0 q1 q2 q3 G
  obtain ⟨q0, q1, q2, q3⟩ := cell4 HY.out
  go_wp2_with fail
  refine (G'.out _ HV.out HM.out).mono ?_
  rintro e w3 ⟨rfl, hb⟩
  replace B0 := Lib.hid (below_trans B0.out hb)
  replace HX := Lib.hid (HX.out.below hb)
  replace HY := Lib.hid (HY.out.below hb)
  replace HV := Lib.hid (HV.out.keep hb)
  replace HK := Lib.hid (HK.out.keep hb)
  replace HM := Lib.hid (HM.out.keep hb)
  clear hb q0 q1 q2 q3 G'
  have q3 := (cell4 HX.out).2.2.2
  have r3 := (cell4 HY.out).2.2.2
  have q0 := (cell4 HX.out).1
  go_wp2_with fail
  refine (Slots_any _ _ xs sl _ HV.out HK.out.slots hx' (by omega)).mono ?_
  rintro e w4 ⟨vA, vA', rfl, ra, _, hb⟩
  replace B0 := Lib.hid (below_trans B0.out hb.out)
  replace HX := Lib.hid (HX.out.below hb.out)
  replace HY := Lib.hid (HY.out.below hb.out)
  replace HV := Lib.hid (HV.out.keep hb.out)
  replace HK := Lib.hid (HK.out.keep hb.out)
  replace HM := Lib.hid (HM.out.keep hb.out)
  have RA := Lib.hid ra.out
  clear hb ra q0 q3 r3 d1 d2 d3 d4
  have q := (cell4 HX.out).1
  have r := (cell4 HY.out).1
  have C0 := Lib.hid q
  have C1 := Lib.hid r
  go_upto_region 6 with (fail)
  go_region_held3 (fun w' => w'.cell? ⟨w.heap.size, 0, none⟩ = some (.slice a1 sl.length c1) ∧ w'.cell? ⟨w.heap.size + 1, 0, none⟩ = some (.slice a4 sl'.length c4) ∧ Below w4.heap.size w4 w')
    ((go_split_ands
      refine two_keep C0.out C1.out ?_
      first | exact (Below.refl _ _).drew | exact low_alloc (by assumption) _ | exact low_alloc_drew (by assumption) _ | exact Below.drew (by assumption) | assumption))
    (first
      | (go_at_call 11; go_split_ands; refine (Slots_any _ _ xs (sl ++ sl') _ (HV.out.keep (by assumption)) (row_app wc_len (b := w4.heap.size) (T := 37) (xs := sl) (ys := sl') (by simpa using ho2)) hx' (by simp; omega)).mono ?_; rintro e w5 ⟨vB, vB', rfl, ra, _, hb3⟩; have hB3 : Below w4.heap.size w4 w5 := below_trans (by assumption) hb3.out)
      | (go_split_ands; refine step_append_row _ wc_len (by decide) wc_one rfl (.tmp 68) (.tmp 70) 23 rfl w4.heap.size 37 i5 _ 40 Try.underlying23 hi5 hz5 hs5 hy5 rfl _ 0 [] (by rfl) (own_nil_blk (by first | exact BlkW.new _ _ _ | exact blk_drew (BlkW.new _ _ _)) (by first | exact Nat.le_refl _ | exact Nat.le_succ _ | (simp; done) | (simp; omega))) _ sl (by rfl) (HK.out.slots.keep (by assumption)) (by simp only [maxLen]; omega) (by omega) (Below.size (by assumption)) ?_; rintro v1 u1 ⟨ho1, hg1, ha1, hl1⟩; have hB1 : Below w4.heap.size w4 u1 := hl1 w4 (by assumption))
      | (go_split_ands; (refine step_append_row _ wc_len (by decide) wc_one rfl (.tmp 71) (.tmp 73) 23 rfl w4.heap.size 37 i5 _ 40 Try.underlying23 hi5 hz5 hs5 hy5 rfl _ (0 + sl.length) ([] ++ flat wc sl) (by rfl) ?ow _ sl' (by rfl) (HM.out.slots.keep (by assumption)) ?le1 ?le2 ?le3 ?_); (case ow => (first | exact ho1 | exact own_drew ho1 | exact ho1.alloc _ | exact own_drew (ho1.alloc _) | exact (own_drew ho1).alloc _)); (case le1 => simp only [maxLen]; omega); (case le2 => omega); (case le3 => exact Below.size (by assumption)); rintro v2 u2 ⟨ho2, hg2, ha2, hl2⟩; have hB2 : Below w4.heap.size w4 u2 := hl2 w4 (by assumption)))
  have hb := Lib.hid hB3
  replace B0 := Lib.hid (below_trans B0.out hb.out)
  replace HX := Lib.hid (HX.out.below hb.out)
  replace HY := Lib.hid (HY.out.below hb.out)
  replace HV := Lib.hid (HV.out.keep hb.out)
  replace HK := Lib.hid (HK.out.keep hb.out)
  replace HM := Lib.hid (HM.out.keep hb.out)
  replace RA := Lib.hid (RA.out.keep hb.out)
  have RB := Lib.hid ra.out
  clear hb hB1 hB2 hB3 ho1 ho2 hg1 hg2 ha1 ha2 hl1 hl2 hb3 ra q r C0 C1
  have q := (cell4 HX.out).2.1
  go_wp2_with fail
  refine (Eras_any _ _ xs er _ HV.out HK.out.eras hx' (by omega)).mono ?_
  rintro e w6 ⟨vC, vC', rfl, ra, _, hb⟩
  replace B0 := Lib.hid (below_trans B0.out hb.out)
  replace HX := Lib.hid (HX.out.below hb.out)
  replace HY := Lib.hid (HY.out.below hb.out)
  replace HV := Lib.hid (HV.out.keep hb.out)
  replace HK := Lib.hid (HK.out.keep hb.out)
  replace HM := Lib.hid (HM.out.keep hb.out)
  replace RA := Lib.hid (RA.out.keep hb.out)
  replace RB := Lib.hid (RB.out.keep hb.out)
  have RC := Lib.hid ra.out
  clear hb ra q
  have q := (cell4 HX.out).2.1
  have r := (cell4 HY.out).2.1
  have C0 := Lib.hid q
  have C1 := Lib.hid r
  go_upto_region 8 with (fail)
  go_region_held3 (fun w' => w'.cell? ⟨w.heap.size, 1, none⟩ = some (.slice a2 er.length c2) ∧ w'.cell? ⟨w.heap.size + 1, 1, none⟩ = some (.slice a5 er'.length c5) ∧ Below w6.heap.size w6 w')
    ((go_split_ands
      refine two_keep C0.out C1.out ?_
      first | exact (Below.refl _ _).drew | exact low_alloc (by assumption) _ | exact low_alloc_drew (by assumption) _ | exact Below.drew (by assumption) | assumption))
    (first
      | (go_at_call 12; go_split_ands; refine (Eras_any _ _ xs (er ++ er') _ (HV.out.keep (by assumption)) (row_app ic_len (b := w6.heap.size) (T := 3) (xs := er) (ys := er') (by simpa using ho2)) hx' (by simp; omega)).mono ?_; rintro e w7 ⟨vD, vD', rfl, ra, _, hb3⟩; have hB3 : Below w6.heap.size w6 w7 := below_trans (by assumption) hb3.out)
      | (go_split_ands; refine step_append_row _ ic_len (by decide) ic_one rfl (.tmp 87) (.tmp 89) 24 rfl w6.heap.size 3 i0 _ 8 Try.underlying24 hi0 hz0 hs0 hy0 rfl _ 0 [] (by rfl) (own_nil_blk (by first | exact BlkW.new _ _ _ | exact blk_drew (BlkW.new _ _ _)) (by first | exact Nat.le_refl _ | exact Nat.le_succ _ | (simp; done) | (simp; omega))) _ er (by rfl) (HK.out.eras.keep (by assumption)) (by simp only [maxLen]; omega) (by omega) (Below.size (by assumption)) ?_; rintro v1 u1 ⟨ho1, hg1, ha1, hl1⟩; have hB1 : Below w6.heap.size w6 u1 := hl1 w6 (by assumption))
      | (go_split_ands; (refine step_append_row _ ic_len (by decide) ic_one rfl (.tmp 90) (.tmp 92) 24 rfl w6.heap.size 3 i0 _ 8 Try.underlying24 hi0 hz0 hs0 hy0 rfl _ (0 + er.length) ([] ++ flat ic er) (by rfl) ?ow _ er' (by rfl) (HM.out.eras.keep (by assumption)) ?le1 ?le2 ?le3 ?_); (case ow => (first | exact ho1 | exact own_drew ho1 | exact ho1.alloc _ | exact own_drew (ho1.alloc _) | exact (own_drew ho1).alloc _)); (case le1 => simp only [maxLen]; omega); (case le2 => omega); (case le3 => exact Below.size (by assumption)); rintro v2 u2 ⟨ho2, hg2, ha2, hl2⟩; have hB2 : Below w6.heap.size w6 u2 := hl2 w6 (by assumption)))
  have hb := Lib.hid hB3
  replace B0 := Lib.hid (below_trans B0.out hb.out)
  replace HX := Lib.hid (HX.out.below hb.out)
  replace HY := Lib.hid (HY.out.below hb.out)
  replace HV := Lib.hid (HV.out.keep hb.out)
  replace HK := Lib.hid (HK.out.keep hb.out)
  replace HM := Lib.hid (HM.out.keep hb.out)
  replace RA := Lib.hid (RA.out.keep hb.out)
  replace RB := Lib.hid (RB.out.keep hb.out)
  replace RC := Lib.hid (RC.out.keep hb.out)
  have RD := Lib.hid ra.out
  clear hb hB1 hB2 hB3 ho1 ho2 hg1 hg2 ha1 ha2 hl1 hl2 hb3 ra q r C0 C1
  have q := (cell4 HX.out).2.2.1
  go_wp2_with fail
  refine (Spans_any _ _ xs sp _ HV.out HK.out.spans hx' (by omega)).mono ?_
  rintro e w8 ⟨vE, vE', rfl, ra, _, hb⟩
  replace B0 := Lib.hid (below_trans B0.out hb.out)
  replace HX := Lib.hid (HX.out.below hb.out)
  replace HY := Lib.hid (HY.out.below hb.out)
  replace HV := Lib.hid (HV.out.keep hb.out)
  replace HK := Lib.hid (HK.out.keep hb.out)
  replace HM := Lib.hid (HM.out.keep hb.out)
  replace RA := Lib.hid (RA.out.keep hb.out)
  replace RB := Lib.hid (RB.out.keep hb.out)
  replace RC := Lib.hid (RC.out.keep hb.out)
  replace RD := Lib.hid (RD.out.keep hb.out)
  have RE := Lib.hid ra.out
  clear hb ra q
  have q := (cell4 HX.out).2.2.1
  have r := (cell4 HY.out).2.2.1
  have C0 := Lib.hid q
  have C1 := Lib.hid r
  go_upto_region 10 with (fail)
  go_region_held3 (fun w' => w'.cell? ⟨w.heap.size, 2, none⟩ = some (.slice a3 sp.length c3) ∧ w'.cell? ⟨w.heap.size + 1, 2, none⟩ = some (.slice a6 sp'.length c6) ∧ Below w8.heap.size w8 w')
    ((go_split_ands
      refine two_keep C0.out C1.out ?_
      first | exact (Below.refl _ _).drew | exact low_alloc (by assumption) _ | exact low_alloc_drew (by assumption) _ | exact Below.drew (by assumption) | assumption))
    (first
      | (go_at_call 13; go_split_ands; refine (Spans_any _ _ xs (sp ++ sp') _ (HV.out.keep (by assumption)) (row_app sc_len (b := w8.heap.size) (T := 41) (xs := sp) (ys := sp') (by simpa using ho2)) hx' (by simp; omega)).mono ?_; rintro e w9 ⟨vF, vF', rfl, ra, _, hb3⟩; have hB3 : Below w8.heap.size w8 w9 := below_trans (by assumption) hb3.out)
      | (go_split_ands; refine step_append_row _ sc_len (by decide) sc_one rfl (.tmp 106) (.tmp 108) 25 rfl w8.heap.size 41 i3 _ 24 Try.underlying25 hi3 hz3 hs3 hy3 rfl _ 0 [] (by rfl) (own_nil_blk (by first | exact BlkW.new _ _ _ | exact blk_drew (BlkW.new _ _ _)) (by first | exact Nat.le_refl _ | exact Nat.le_succ _ | (simp; done) | (simp; omega))) _ sp (by rfl) (HK.out.spans.keep (by assumption)) (by simp only [maxLen]; omega) (by omega) (Below.size (by assumption)) ?_; rintro v1 u1 ⟨ho1, hg1, ha1, hl1⟩; have hB1 : Below w8.heap.size w8 u1 := hl1 w8 (by assumption))
      | (go_split_ands; (refine step_append_row _ sc_len (by decide) sc_one rfl (.tmp 109) (.tmp 111) 25 rfl w8.heap.size 41 i3 _ 24 Try.underlying25 hi3 hz3 hs3 hy3 rfl _ (0 + sp.length) ([] ++ flat sc sp) (by rfl) ?ow _ sp' (by rfl) (HM.out.spans.keep (by assumption)) ?le1 ?le2 ?le3 ?_); (case ow => (first | exact ho1 | exact own_drew ho1 | exact ho1.alloc _ | exact own_drew (ho1.alloc _) | exact (own_drew ho1).alloc _)); (case le1 => simp only [maxLen]; omega); (case le2 => omega); (case le3 => exact Below.size (by assumption)); rintro v2 u2 ⟨ho2, hg2, ha2, hl2⟩; have hB2 : Below w8.heap.size w8 u2 := hl2 w8 (by assumption)))
  have hb := Lib.hid hB3
  replace B0 := Lib.hid (below_trans B0.out hb.out)
  replace HX := Lib.hid (HX.out.below hb.out)
  replace HY := Lib.hid (HY.out.below hb.out)
  replace HV := Lib.hid (HV.out.keep hb.out)
  replace HK := Lib.hid (HK.out.keep hb.out)
  replace HM := Lib.hid (HM.out.keep hb.out)
  replace RA := Lib.hid (RA.out.keep hb.out)
  replace RB := Lib.hid (RB.out.keep hb.out)
  replace RC := Lib.hid (RC.out.keep hb.out)
  replace RD := Lib.hid (RD.out.keep hb.out)
  replace RE := Lib.hid (RE.out.keep hb.out)
  have RF := Lib.hid ra.out
  clear hb hB1 hB2 hB3 ho1 ho2 hg1 hg2 ha1 ha2 hl1 hl2 hb3 ra q r C0 C1
  have TT := Lib.hid (show 0 ≤ max now now' ∧ max now now' ≤ 1099511627776 by have := NK.out; have := NM.out; omega)
  have UU := Lib.hid (show 0 ≤ min now now' ∧ min now now' ≤ 1099511627776 by have := NK.out; have := NM.out; omega)
  have UT := Lib.hid (show min now now' ≤ max now now' by omega)
  have q := (cell4 HX.out).2.2.2
  have r := (cell4 HY.out).2.2.2
  go_wp2_with fail
  refine (Epochs_any _ (max now now') xs _ HV.out hx').mono ?_
  rintro e w10 ⟨vG, vG', rfl, ra, _, hb⟩
  replace B0 := Lib.hid (below_trans B0.out hb.out)
  replace HX := Lib.hid (HX.out.below hb.out)
  replace HY := Lib.hid (HY.out.below hb.out)
  replace HV := Lib.hid (HV.out.keep hb.out)
  replace HK := Lib.hid (HK.out.keep hb.out)
  replace HM := Lib.hid (HM.out.keep hb.out)
  replace RA := Lib.hid (RA.out.keep hb.out)
  replace RB := Lib.hid (RB.out.keep hb.out)
  replace RC := Lib.hid (RC.out.keep hb.out)
  replace RD := Lib.hid (RD.out.keep hb.out)
  replace RE := Lib.hid (RE.out.keep hb.out)
  replace RF := Lib.hid (RF.out.keep hb.out)
  have RG := Lib.hid ra.out
  clear hb ra q r
  have q := (cell4 HX.out).2.2.2
  have r := (cell4 HY.out).2.2.2
  go_wp2_with fail
  refine (Epochs_any _ (min now now') xs _ HV.out hx').mono ?_
  rintro e w11 ⟨vH, vH', rfl, ra, _, hb⟩
  replace B0 := Lib.hid (below_trans B0.out hb.out)
  replace HV := Lib.hid (HV.out.keep hb.out)
  replace RA := Lib.hid (RA.out.keep hb.out)
  replace RB := Lib.hid (RB.out.keep hb.out)
  replace RC := Lib.hid (RC.out.keep hb.out)
  replace RD := Lib.hid (RD.out.keep hb.out)
  replace RE := Lib.hid (RE.out.keep hb.out)
  replace RF := Lib.hid (RF.out.keep hb.out)
  replace RG := Lib.hid (RG.out.keep hb.out)
  have RH := Lib.hid ra.out
  clear hb ra q r HX HY HK HM
  go_wp2_with fail
  refine (Slots_any _ (.slice none 0 0) xs [] _ HV.out (.inl ⟨⟨none, 0, rfl⟩, rfl⟩) hx' (by simp)).mono ?_
  rintro e w12 ⟨vX, vX', rfl, ra, _, hb⟩
  rw [all_free xs slot_nil] at ra
  replace B0 := Lib.hid (below_trans B0.out hb.out)
  replace HV := Lib.hid (HV.out.keep hb.out)
  replace RA := Lib.hid (RA.out.keep hb.out)
  replace RB := Lib.hid (RB.out.keep hb.out)
  replace RC := Lib.hid (RC.out.keep hb.out)
  replace RD := Lib.hid (RD.out.keep hb.out)
  replace RE := Lib.hid (RE.out.keep hb.out)
  replace RF := Lib.hid (RF.out.keep hb.out)
  replace RG := Lib.hid (RG.out.keep hb.out)
  replace RH := Lib.hid (RH.out.keep hb.out)
  have RX := Lib.hid ra.out
  clear hb ra
  have bx := Lib.hid (below_alloc (Below.refl w12.heap.size w12) (.cells (flat ic [0, -1]).toArray 3))
  have ry := Lib.hid (row_lit ic_len (cap := 2) (xs := [0, -1]) (BlkW.new w12 3 (flat ic [0, -1]).toArray) (Nat.le_refl 2))
  replace B0 := Lib.hid (below_trans B0.out bx.out)
  replace HV := Lib.hid (HV.out.keep bx.out)
  replace RA := Lib.hid (RA.out.keep bx.out)
  replace RB := Lib.hid (RB.out.keep bx.out)
  replace RC := Lib.hid (RC.out.keep bx.out)
  replace RD := Lib.hid (RD.out.keep bx.out)
  replace RE := Lib.hid (RE.out.keep bx.out)
  replace RF := Lib.hid (RF.out.keep bx.out)
  replace RG := Lib.hid (RG.out.keep bx.out)
  replace RH := Lib.hid (RH.out.keep bx.out)
  replace RX := Lib.hid (RX.out.keep bx.out)
  clear bx
  go_wp2_with fail
  refine (Eras_any _ _ xs [0, -1] _ HV.out ry.out hx' (by simp)).mono ?_
  rintro e w13 ⟨vY, vY', rfl, ra, _, hb⟩
  rw [all_free xs era_nil] at ra
  replace B0 := Lib.hid (below_trans B0.out hb.out)
  replace HV := Lib.hid (HV.out.keep hb.out)
  replace RA := Lib.hid (RA.out.keep hb.out)
  replace RB := Lib.hid (RB.out.keep hb.out)
  replace RC := Lib.hid (RC.out.keep hb.out)
  replace RD := Lib.hid (RD.out.keep hb.out)
  replace RE := Lib.hid (RE.out.keep hb.out)
  replace RF := Lib.hid (RF.out.keep hb.out)
  replace RG := Lib.hid (RG.out.keep hb.out)
  replace RH := Lib.hid (RH.out.keep hb.out)
  replace RX := Lib.hid (RX.out.keep hb.out)
  have RY := Lib.hid ra.out
  clear hb ra ry
  have bx := Lib.hid (below_alloc (Below.refl w13.heap.size w13) (.cells (flat sc [⟨false, 0, 1099511627776⟩]).toArray 41))
  have ry := Lib.hid (row_lit sc_len (cap := 1) (xs := [⟨false, 0, 1099511627776⟩]) (BlkW.new w13 41 (flat sc [⟨false, 0, 1099511627776⟩]).toArray) (Nat.le_refl 1))
  replace B0 := Lib.hid (below_trans B0.out bx.out)
  replace HV := Lib.hid (HV.out.keep bx.out)
  replace RA := Lib.hid (RA.out.keep bx.out)
  replace RB := Lib.hid (RB.out.keep bx.out)
  replace RC := Lib.hid (RC.out.keep bx.out)
  replace RD := Lib.hid (RD.out.keep bx.out)
  replace RE := Lib.hid (RE.out.keep bx.out)
  replace RF := Lib.hid (RF.out.keep bx.out)
  replace RG := Lib.hid (RG.out.keep bx.out)
  replace RH := Lib.hid (RH.out.keep bx.out)
  replace RX := Lib.hid (RX.out.keep bx.out)
  replace RY := Lib.hid (RY.out.keep bx.out)
  clear bx
  go_wp2_with fail
  refine (Spans_any _ _ xs [⟨false, 0, 1099511627776⟩] _ HV.out ry.out hx' (by simp)).mono ?_
  rintro e w14 ⟨vZ, vZ', rfl, ra, _, hb⟩
  rw [all_free xs span_nil] at ra
  replace B0 := Lib.hid (below_trans B0.out hb.out)
  replace HV := Lib.hid (HV.out.keep hb.out)
  replace RA := Lib.hid (RA.out.keep hb.out)
  replace RB := Lib.hid (RB.out.keep hb.out)
  replace RC := Lib.hid (RC.out.keep hb.out)
  replace RD := Lib.hid (RD.out.keep hb.out)
  replace RE := Lib.hid (RE.out.keep hb.out)
  replace RF := Lib.hid (RF.out.keep hb.out)
  replace RG := Lib.hid (RG.out.keep hb.out)
  replace RH := Lib.hid (RH.out.keep hb.out)
  replace RX := Lib.hid (RX.out.keep hb.out)
  replace RY := Lib.hid (RY.out.keep hb.out)
  have RZ := Lib.hid ra.out
  clear hb ra ry
  go_wp2_with fail
  refine (in_any _ _ _ _ _ RB.out RA.out (LF.out _) (LF.out _) (more_in xs (slot_more sl sl'))).mono ?_
  rintro e w15 ⟨rfl, hb⟩
  replace B0 := Lib.hid (below_trans B0.out hb)
  replace HV := Lib.hid (HV.out.keep hb)
  replace RC := Lib.hid (RC.out.keep hb)
  replace RD := Lib.hid (RD.out.keep hb)
  replace RE := Lib.hid (RE.out.keep hb)
  replace RF := Lib.hid (RF.out.keep hb)
  replace RG := Lib.hid (RG.out.keep hb)
  replace RH := Lib.hid (RH.out.keep hb)
  replace RX := Lib.hid (RX.out.keep hb)
  replace RY := Lib.hid (RY.out.keep hb)
  replace RZ := Lib.hid (RZ.out.keep hb)
  clear hb RB RA
  go_wp2_with fail
  refine (in_any _ _ _ _ _ RD.out RC.out (LF.out _) (LF.out _) (more_in xs (era_more er er'))).mono ?_
  rintro e w16 ⟨rfl, hb⟩
  replace B0 := Lib.hid (below_trans B0.out hb)
  replace HV := Lib.hid (HV.out.keep hb)
  replace RE := Lib.hid (RE.out.keep hb)
  replace RF := Lib.hid (RF.out.keep hb)
  replace RG := Lib.hid (RG.out.keep hb)
  replace RH := Lib.hid (RH.out.keep hb)
  replace RX := Lib.hid (RX.out.keep hb)
  replace RY := Lib.hid (RY.out.keep hb)
  replace RZ := Lib.hid (RZ.out.keep hb)
  clear hb RD RC
  go_wp2_with fail
  refine (in_any _ _ _ _ _ RF.out RE.out (LF.out _) (LF.out _) (more_in xs (span_more sp sp'))).mono ?_
  rintro e w17 ⟨rfl, hb⟩
  replace B0 := Lib.hid (below_trans B0.out hb)
  replace HV := Lib.hid (HV.out.keep hb)
  replace RG := Lib.hid (RG.out.keep hb)
  replace RH := Lib.hid (RH.out.keep hb)
  replace RX := Lib.hid (RX.out.keep hb)
  replace RY := Lib.hid (RY.out.keep hb)
  replace RZ := Lib.hid (RZ.out.keep hb)
  clear hb RF RE
  go_wp2_with fail
  refine (in_any _ _ _ _ _ RH.out RG.out (LF.out _) (LF.out _) (more_in xs (epoch_more _ _ UU.out TT.out UT.out))).mono ?_
  rintro e w18 ⟨rfl, hb⟩
  replace B0 := Lib.hid (below_trans B0.out hb)
  replace HV := Lib.hid (HV.out.keep hb)
  replace RX := Lib.hid (RX.out.keep hb)
  replace RY := Lib.hid (RY.out.keep hb)
  replace RZ := Lib.hid (RZ.out.keep hb)
  clear hb RH RG
  go_wp2_with fail
  refine (Same_any _ _ _ _ RX.out HV.out hx').mono ?_
  rintro e w19 ⟨rfl, hb⟩
  replace B0 := Lib.hid (below_trans B0.out hb)
  replace HV := Lib.hid (HV.out.keep hb)
  replace RY := Lib.hid (RY.out.keep hb)
  replace RZ := Lib.hid (RZ.out.keep hb)
  clear hb RX
  go_wp2_with fail
  refine (Same_any _ _ _ _ RY.out HV.out hx').mono ?_
  rintro e w20 ⟨rfl, hb⟩
  replace B0 := Lib.hid (below_trans B0.out hb)
  replace HV := Lib.hid (HV.out.keep hb)
  replace RZ := Lib.hid (RZ.out.keep hb)
  clear hb RY
  go_wp2_with fail
  refine (Same_any _ _ _ _ RZ.out HV.out hx').mono ?_
  rintro e w21 ⟨rfl, hb⟩
  replace B0 := Lib.hid (below_trans B0.out hb)
  replace HV := Lib.hid (HV.out.keep hb)
  clear hb RZ
  go_wp2
  go_ret
  exact ⟨rfl, B0.out⟩
set_option maxRecDepth 100000 in
set_option maxHeartbeats 4000000 in
theorem more_great1 (v : Value) (xs : List Nt) (k m : Kp) (w : World) (hv : RowC nc 7 w v xs) (hk : KpAt w k) (hm : KpAt w m) (hs : ¬ (xs.length ≤ 60 ∧ k.Small)) :
    Calls Try.prog 4 #[v, kv k, kv m] w (True1 w) := by
  obtain ⟨n1, n2⟩ := blk2 w #[k.vs, k.ve, k.vp, .int .i64 k.now] #[m.vs, m.ve, m.vp, .int .i64 m.now] 27 27
  have HX := Lib.hid n1
  have HY := Lib.hid n2
  have B0 := Lib.hid (below_alloc (below_alloc (Below.refl w.heap.size w) (.cells #[k.vs, k.ve, k.vp, .int .i64 k.now] 27)) (.cells #[m.vs, m.ve, m.vp, .int .i64 m.now] 27))
  have HV := Lib.hid (hv.keep B0.out)
  have HK := Lib.hid (hk.keep B0.out)
  have HM := Lib.hid (hm.keep B0.out)
  clear n1 n2
  have G := Lib.hid (fun W h1 h2 => great_yes v xs k W h1 h2 hs)
  unfold kv at G ⊢
  clear hs
  obtain ⟨vs, ve, vp, sl, er, sp, now⟩ := k
  obtain ⟨vs', ve', vp', sl', er', sp', now'⟩ := m
  dsimp only at G HX HY HK HM B0 ⊢
  obtain ⟨ao, cp, rfl⟩ := hv.slice
  clear hv hk hm
  obtain ⟨a1, c1, e1⟩ := HK.out.slots.slice
  obtain ⟨a2, c2, e2⟩ := HK.out.eras.slice
  obtain ⟨a3, c3, e3⟩ := HK.out.spans.slice
  obtain ⟨a4, c4, e4⟩ := HM.out.slots.slice
  obtain ⟨a5, c5, e5⟩ := HM.out.eras.slice
  obtain ⟨a6, c6, e6⟩ := HM.out.spans.slice
  dsimp only at e1 e2 e3 e4 e5 e6
  subst e1 e2 e3 e4 e5 e6
  go_enter Try.func4, Try.ntmps4
  go_wp2_with fail
  refine (awake_true _).mono ?_
  rintro e w1 ⟨rfl, hb⟩
  replace B0 := Lib.hid (below_trans B0.out hb)
  replace HX := Lib.hid (HX.out.below hb)
  replace HY := Lib.hid (HY.out.below hb)
  replace HV := Lib.hid (HV.out.keep hb)
  replace HK := Lib.hid (HK.out.keep hb)
  replace HM := Lib.hid (HM.out.keep hb)
  clear hb
  obtain ⟨q0, q1, q2, q3⟩ := cell4 HX.out
  go_wp2_with fail
  refine (G.out _ HV.out HK.out).mono ?_
  rintro e w2 ⟨rfl, hb⟩
  replace B0 := Lib.hid (below_trans B0.out hb)
  replace HX := Lib.hid (HX.out.below hb)
  replace HY := Lib.hid (HY.out.below hb)
  replace HV := Lib.hid (HV.out.keep hb)
  replace HK := Lib.hid (HK.out.keep hb)
  replace HM := Lib.hid (HM.out.keep hb)
  clear hb q0 q1 q2 q3 G
  go_wp2
  go_ret
  exact ⟨rfl, B0.out⟩
set_option maxRecDepth 100000 in
set_option maxHeartbeats 4000000 in
theorem more_great2 (v : Value) (xs : List Nt) (k m : Kp) (w : World) (hv : RowC nc 7 w v xs) (hk : KpAt w k) (hm : KpAt w m) (hx : xs.length ≤ 60) (sk : k.Small) (hs : ¬ (xs.length ≤ 60 ∧ m.Small)) :
    Calls Try.prog 4 #[v, kv k, kv m] w (True1 w) := by
  obtain ⟨n1, n2⟩ := blk2 w #[k.vs, k.ve, k.vp, .int .i64 k.now] #[m.vs, m.ve, m.vp, .int .i64 m.now] 27 27
  have HX := Lib.hid n1
  have HY := Lib.hid n2
  have B0 := Lib.hid (below_alloc (below_alloc (Below.refl w.heap.size w) (.cells #[k.vs, k.ve, k.vp, .int .i64 k.now] 27)) (.cells #[m.vs, m.ve, m.vp, .int .i64 m.now] 27))
  have HV := Lib.hid (hv.keep B0.out)
  have HK := Lib.hid (hk.keep B0.out)
  have HM := Lib.hid (hm.keep B0.out)
  clear n1 n2
  have G := Lib.hid (fun W h1 h2 => great_no v xs k W h1 h2 hx sk)
  have G' := Lib.hid (fun W h1 h2 => great_yes v xs m W h1 h2 hs)
  unfold kv at G G' ⊢
  clear hs sk hx
  obtain ⟨vs, ve, vp, sl, er, sp, now⟩ := k
  obtain ⟨vs', ve', vp', sl', er', sp', now'⟩ := m
  dsimp only at G G' HX HY HK HM B0 ⊢
  obtain ⟨ao, cp, rfl⟩ := hv.slice
  clear hv hk hm
  obtain ⟨a1, c1, e1⟩ := HK.out.slots.slice
  obtain ⟨a2, c2, e2⟩ := HK.out.eras.slice
  obtain ⟨a3, c3, e3⟩ := HK.out.spans.slice
  obtain ⟨a4, c4, e4⟩ := HM.out.slots.slice
  obtain ⟨a5, c5, e5⟩ := HM.out.eras.slice
  obtain ⟨a6, c6, e6⟩ := HM.out.spans.slice
  dsimp only at e1 e2 e3 e4 e5 e6
  subst e1 e2 e3 e4 e5 e6
  go_enter Try.func4, Try.ntmps4
  go_wp2_with fail
  refine (awake_true _).mono ?_
  rintro e w1 ⟨rfl, hb⟩
  replace B0 := Lib.hid (below_trans B0.out hb)
  replace HX := Lib.hid (HX.out.below hb)
  replace HY := Lib.hid (HY.out.below hb)
  replace HV := Lib.hid (HV.out.keep hb)
  replace HK := Lib.hid (HK.out.keep hb)
  replace HM := Lib.hid (HM.out.keep hb)
  clear hb
  obtain ⟨q0, q1, q2, q3⟩ := cell4 HX.out
  go_wp2_with fail
  refine (G.out _ HV.out HK.out).mono ?_
  rintro e w2 ⟨rfl, hb⟩
  replace B0 := Lib.hid (below_trans B0.out hb)
  replace HX := Lib.hid (HX.out.below hb)
  replace HY := Lib.hid (HY.out.below hb)
  replace HV := Lib.hid (HV.out.keep hb)
  replace HK := Lib.hid (HK.out.keep hb)
  replace HM := Lib.hid (HM.out.keep hb)
  clear hb q0 q1 q2 q3 G
  obtain ⟨q0, q1, q2, q3⟩ := cell4 HY.out
  go_wp2_with fail
  refine (G'.out _ HV.out HM.out).mono ?_
  rintro e w3 ⟨rfl, hb⟩
  replace B0 := Lib.hid (below_trans B0.out hb)
  replace HX := Lib.hid (HX.out.below hb)
  replace HY := Lib.hid (HY.out.below hb)
  replace HV := Lib.hid (HV.out.keep hb)
  replace HK := Lib.hid (HK.out.keep hb)
  replace HM := Lib.hid (HM.out.keep hb)
  clear hb q0 q1 q2 q3 G'
  go_wp2
  go_ret
  exact ⟨rfl, B0.out⟩
set_option maxRecDepth 100000 in
set_option maxHeartbeats 4000000 in
theorem more_clock (v : Value) (xs : List Nt) (k m : Kp) (w : World) (hv : RowC nc 7 w v xs) (hk : KpAt w k) (hm : KpAt w m) (hx : xs.length ≤ 60) (sk : k.Small) (sm : m.Small) (hn : ¬ ((0 ≤ k.now ∧ k.now ≤ 1099511627776) ∧ (0 ≤ m.now ∧ m.now ≤ 1099511627776))) :
    Calls Try.prog 4 #[v, kv k, kv m] w (True1 w) := by
  obtain ⟨n1, n2⟩ := blk2 w #[k.vs, k.ve, k.vp, .int .i64 k.now] #[m.vs, m.ve, m.vp, .int .i64 m.now] 27 27
  have HX := Lib.hid n1
  have HY := Lib.hid n2
  have B0 := Lib.hid (below_alloc (below_alloc (Below.refl w.heap.size w) (.cells #[k.vs, k.ve, k.vp, .int .i64 k.now] 27)) (.cells #[m.vs, m.ve, m.vp, .int .i64 m.now] 27))
  have HV := Lib.hid (hv.keep B0.out)
  have HK := Lib.hid (hk.keep B0.out)
  have HM := Lib.hid (hm.keep B0.out)
  clear n1 n2
  have G := Lib.hid (fun W h1 h2 => great_no v xs k W h1 h2 hx sk)
  have G' := Lib.hid (fun W h1 h2 => great_no v xs m W h1 h2 hx sm)
  have hcs : decide (k.now < 0) = true ∨ (decide (k.now < 0) = false ∧ decide (1099511627776 < k.now) = true) ∨ (decide (k.now < 0) = false ∧ decide (1099511627776 < k.now) = false ∧ decide (m.now < 0) = true) ∨ (decide (k.now < 0) = false ∧ decide (1099511627776 < k.now) = false ∧ decide (m.now < 0) = false ∧ decide (1099511627776 < m.now) = true) := by
    simp only [decide_eq_true_eq, decide_eq_false_iff_not]; omega
  unfold kv at G G' ⊢
  clear sk sm hx hn
  obtain ⟨vs, ve, vp, sl, er, sp, now⟩ := k
  obtain ⟨vs', ve', vp', sl', er', sp', now'⟩ := m
  dsimp only at G G' hcs HX HY HK HM B0 ⊢
  obtain ⟨ao, cp, rfl⟩ := hv.slice
  clear hv hk hm
  obtain ⟨a1, c1, e1⟩ := HK.out.slots.slice
  obtain ⟨a2, c2, e2⟩ := HK.out.eras.slice
  obtain ⟨a3, c3, e3⟩ := HK.out.spans.slice
  obtain ⟨a4, c4, e4⟩ := HM.out.slots.slice
  obtain ⟨a5, c5, e5⟩ := HM.out.eras.slice
  obtain ⟨a6, c6, e6⟩ := HM.out.spans.slice
  dsimp only at e1 e2 e3 e4 e5 e6
  subst e1 e2 e3 e4 e5 e6
  rcases hcs with d1 | ⟨d1, d2⟩ | ⟨d1, d2, d3⟩ | ⟨d1, d2, d3, d4⟩
  all_goals
    go_enter Try.func4, Try.ntmps4
    go_wp2_with fail
    refine (awake_true _).mono ?_
    rintro e w1 ⟨rfl, hb⟩
    replace B0 := Lib.hid (below_trans B0.out hb)
    replace HX := Lib.hid (HX.out.below hb)
    replace HY := Lib.hid (HY.out.below hb)
    replace HV := Lib.hid (HV.out.keep hb)
    replace HK := Lib.hid (HK.out.keep hb)
    replace HM := Lib.hid (HM.out.keep hb)
    clear hb
    obtain ⟨q0, q1, q2, q3⟩ := cell4 HX.out
    go_wp2_with fail
    refine (G.out _ HV.out HK.out).mono ?_
    rintro e w2 ⟨rfl, hb⟩
    replace B0 := Lib.hid (below_trans B0.out hb)
    replace HX := Lib.hid (HX.out.below hb)
    replace HY := Lib.hid (HY.out.below hb)
    replace HV := Lib.hid (HV.out.keep hb)
    replace HK := Lib.hid (HK.out.keep hb)
    replace HM := Lib.hid (HM.out.keep hb)
    clear hb q0 q1 q2 q3 G
    obtain ⟨q0, q1, q2, q3⟩ := cell4 HY.out
    go_wp2_with fail
    refine (G'.out _ HV.out HM.out).mono ?_
    rintro e w3 ⟨rfl, hb⟩
    replace B0 := Lib.hid (below_trans B0.out hb)
    replace HX := Lib.hid (HX.out.below hb)
    replace HY := Lib.hid (HY.out.below hb)
    replace HV := Lib.hid (HV.out.keep hb)
    replace HK := Lib.hid (HK.out.keep hb)
    replace HM := Lib.hid (HM.out.keep hb)
    clear hb q0 q1 q2 q3 G'
    have q3 := (cell4 HX.out).2.2.2
    have r3 := (cell4 HY.out).2.2.2
    go_wp2
    go_ret
    exact ⟨rfl, B0.out⟩
theorem more_any (v : Value) (xs : List Nt) (k m : Kp) (w : World) (hv : RowC nc 7 w v xs) (hk : KpAt w k) (hm : KpAt w m) :
    Calls Try.prog 4 #[v, kv k, kv m] w (True1 w) := by
  by_cases h1 : xs.length ≤ 60 ∧ k.Small
  · by_cases h2 : xs.length ≤ 60 ∧ m.Small
    · by_cases h3 : (0 ≤ k.now ∧ k.now ≤ 1099511627776) ∧ (0 ≤ m.now ∧ m.now ≤ 1099511627776)
      · exact more_small v xs k m w hv hk hm h1.1 h1.2 h2.2 h3.1 h3.2
      · exact more_clock v xs k m w hv hk hm h1.1 h1.2 h2.2 h3
    · exact more_great2 v xs k m w hv hk hm h1.1 h1.2 h2
  · exact more_great1 v xs k m w hv hk hm h1
end Go.Proofs.Ytlhhjbjdinimjaa
