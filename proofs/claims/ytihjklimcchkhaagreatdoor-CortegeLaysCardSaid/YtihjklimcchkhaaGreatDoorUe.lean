/- rite: listen by spans; scan where an announcement was heard, by Eras and Interval. A template (made by gen_XUe.py). -/
import Derived.Test.YtihjklimcchkhaaGreatDoorUA
namespace Go.Proofs.YtihjklimcchkhaaGreatDoor
open Go.RowKit Go.Extern.Stop Go.Stop Go.Extern Go.Sort
section
variable {w w' : World} {B r : Nat} {sv fv nv : Value} {m : Rt} {K : Nat → Prop}
set_option maxRecDepth 100000 in
set_option maxHeartbeats 2000000 in
theorem listen_span (h : RtAt w r sv fv nv m) (hs : sv.isSliceOf m.st.said.length) (ht : m.thr ≤ 6) (hw : m.saysWords = false) (hq : m.saysSpan = true) (hl : m.st.said.length < m.thr) :
    Calls Tryz.prog 125 #[.pointer (some ⟨r, 0, none⟩)] w fun e w' => e = .returned (.bool true) ∧ Hid (RtAt w' r sv fv nv (m.load (0, 0, (spanAt m.st.said.length : Nat)) 7)) ∧ Hid (Only r w w') := by
  have HR := Lib.hid h
  have c50 := h.rows.1
  have c55 := h.fix.2.2.1
  have hz := BlkW.lt h
  obtain ⟨ao, cp, rfl⟩ := hs
  obtain ⟨n, hn⟩ : ∃ n, n = m.st.said.length := ⟨_, rfl⟩
  rw [← hn] at c50 hl
  have HN := Lib.hid hn
  have j1 : (n : Int) < (m.thr : Int) := by omega
  clear h hn
  go_enter Tryz.func125, Tryz.ntmps125
  go_wp2_with fail
  refine (saysWords_any HR.out).mono ?_
  rintro e w1 ⟨rfl, rfl⟩
  rw [hw]
  go_wp2_with fail
  refine (saysSpan_any HR.out).mono ?_
  rintro e w1 ⟨rfl, rfl⟩
  rw [hq]
  go_wp2_with fail
  refine (span_is n (by omega) _).mono ?_
  rintro e w2 ⟨rfl, hb⟩
  have HR2 := Lib.hid (HR.out.below hb)
  have HO2 := Lib.hid (Only.of_below (r := r) hb)
  clear hb HR c50 c55
  have hD := (HR2.out.below (below_alloc (Below.refl _ _) (.cells #[.int .i64 0, .int .i64 0, .int .i64 ((spanAt n : Nat) : Int)] 47))).drew
  have HA := Lib.hid (load_any hD (0, 0, (spanAt n : Nat)) 7)
  have hz2 := BlkW.lt HR2.out
  clear hD
  go_upto_region 8 with fail
  go_region_with (first | (go_at_call 120; refine HA.out.mono ?_; rintro e w3 ⟨rfl, h1, h2⟩))
  all_goals
    go_wp2
    go_ret
    have e := HN.out
    subst e
    exact ⟨rfl, h1, Lib.hid ((HO2.out.trans (Only.of_below (below_alloc (Below.refl _ _) _).drew)).trans h2.out)⟩
set_option maxRecDepth 100000 in
set_option maxHeartbeats 2000000 in
theorem listen_spanless (h : RtAt w r sv fv nv m) (hs : sv.isSliceOf m.st.said.length) (ht : m.thr ≤ 6) (hw : m.saysWords = false) (hq : m.saysSpan = true) (hl : ¬ m.st.said.length < m.thr) :
    Calls Tryz.prog 125 #[.pointer (some ⟨r, 0, none⟩)] w fun e w' => e = .returned (.bool false) ∧ w = w' := by
  have HR := Lib.hid h
  have c50 := h.rows.1
  have c55 := h.fix.2.2.1
  have hz := BlkW.lt h
  obtain ⟨ao, cp, rfl⟩ := hs
  obtain ⟨n, hn⟩ : ∃ n, n = m.st.said.length := ⟨_, rfl⟩
  rw [← hn] at c50 hl
  have HN := Lib.hid hn
  have j1 : ¬ (n : Int) < (m.thr : Int) := by omega
  clear h hn
  go_enter Tryz.func125, Tryz.ntmps125
  go_wp2_with fail
  refine (saysWords_any HR.out).mono ?_
  rintro e w1 ⟨rfl, rfl⟩
  rw [hw]
  go_wp2_with fail
  refine (saysSpan_any HR.out).mono ?_
  rintro e w1 ⟨rfl, rfl⟩
  rw [hq]
  go_wp2
  go_ret
  exact ⟨rfl, rfl⟩
set_option maxRecDepth 100000 in
set_option maxHeartbeats 1000000 in
theorem scan_more_eras (h : RiteP w B r sv fv nv m K) (x : Wd × Bool) (hd : m.st.done = 7) (he : m.eng = 3) (ht : m.thr ≤ 6) (hsl : m.st.said.length + 1 < m.thr * 9) :
    Calls Tryz.prog 94 #[.pointer (some ⟨r, 0, none⟩), rpv x] w (RPost w B r K ((setSaid m x.1).hear)) := by
  have HRL := Lib.hid (fun b (e : K b) => (show b ≠ w.heap.size from Nat.ne_of_lt (h.low b e).2))
  replace HRL : Hid (∀ b, K b → b ≠ w.heap.size) := HRL
  have h1 := h.below (below_alloc (Below.refl _ _) (.cells #[.int .i64 x.1.slot, .int .i64 x.1.gen, .int .i64 x.1.tag, .int .i64 x.1.num, .bool x.1.mark, .bool x.2] 63))
  have HX := Lib.hid (box_rep w x)
  have HB0 := Lib.hid (below_alloc (Below.refl w.heap.size w) (.cells #[.int .i64 x.1.slot, .int .i64 x.1.gen, .int .i64 x.1.tag, .int .i64 x.1.num, .bool x.1.mark, .bool x.2] 63))
  have HR := Lib.hid h1
  clear h h1
  unfold rpv
  go_enter Tryz.func94, Tryz.ntmps94
  go_upto_region 1 with fail
  generalize w.alloc (.cells #[.int .i64 x.1.slot, .int .i64 x.1.gen, .int .i64 x.1.tag, .int .i64 x.1.num, .bool x.1.mark, .bool x.2] 63) = W at HR HX HB0 ⊢
  have hX := HX.out
  have hzx := BlkW.lt hX
  have hrx : w.heap.size ≠ r := fun e => BlkW.ne_ hX HR.out.at_ (by decide) e
  have hkx : ¬ K w.heap.size := fun e => HRL.out _ e rfl
  obtain ⟨b0, b1, b2, b3, b4, b5⟩ := rep6 hX
  have hz := BlkW.lt HR.out.at_
  have cd := HR.out.at_.done
  have ce := HR.out.at_.fix.1
  clear hX HX
  generalize w.heap.size = g at hzx hrx hkx b0 b1 b2 b3 b4 b5 ⊢
  have HEN := Lib.hid he
  have HT := Lib.hid ht
  rw [hd] at cd
  obtain ⟨i5, hi5, hz5, hs5, hy5⟩ := info_parts infoWd
  have hBz : B ≤ W.heap.size := Nat.le_of_lt (Nat.lt_of_le_of_lt (HR.out.low r HR.out.kr).1 (HR.out.low r HR.out.kr).2)
  have c50 := HR.out.at_.rows.1
  have hne := HR.out.ne.1
  obtain ⟨L, hL⟩ : ∃ L, L = m.st.said.length := ⟨_, rfl⟩
  have N1 := Lib.hid (show W.drew.ownsRow B 34 5 sv L (Sv.flat Sv.wc m.st.said) by rw [hL]; exact HR.out.said)
  have hLs : L ≤ 1000 := by omega
  have hsl' := hsl
  have HL := Lib.hid hL
  have HSL := Lib.hid hsl
  clear hd hL hsl he ht
  go_upto_region 14 with fail
  refine wp_region_noPanic ?_
  refine wp_region_held_drew (S := (fun w' => w'.cell? ⟨g, 0, none⟩ = some (.int .i64 x.1.slot) ∧ w'.cell? ⟨g, 1, none⟩ = some (.int .i64 x.1.gen) ∧ w'.cell? ⟨g, 2, none⟩ = some (.int .i64 x.1.tag) ∧ w'.cell? ⟨g, 3, none⟩ = some (.int .i64 x.1.num) ∧ w'.cell? ⟨g, 4, none⟩ = some (.bool x.1.mark))) (by kernel_rfl) ?_ (fun hHeld => ?_)
  · (try dsimp only)
    (first
      | go_keep
      | (go_split_ands
         (repeat' apply And.intro) <;> first | exact grown_cell hg1 hneg (by assumption) | (rw [World.cell?_setCell_far _ _ _ _ (fun e => hrx e.symm)]; assumption)))
  refine wpAnyH_take (i := 0) (v := ?_) rfl (by kernel_rfl) (by kernel_rfl) (by kernel_rfl) (fun _ _ _ h => h) (Or.inl ⟨by rfl, ?_⟩) (by assumption) ?_
  rotate_left
  · (intro w hSw; (try dsimp only at hSw); go_simp; (try with_reducible rfl))
  try simp only [Act.put, List.getElem_toArray, List.getElem_cons_succ, List.getElem_cons_zero, List.setIfInBounds_toArray, List.set_cons_zero, List.set_cons_succ]
  refine wpAnyH_take (i := 1) (v := ?_) rfl (by kernel_rfl) (by kernel_rfl) (by kernel_rfl) (fun _ _ _ h => h) (Or.inl ⟨by rfl, ?_⟩) (by assumption) ?_
  rotate_left
  · (intro w hSw; (try dsimp only at hSw); go_simp; (try with_reducible rfl))
  try simp only [Act.put, List.getElem_toArray, List.getElem_cons_succ, List.getElem_cons_zero, List.setIfInBounds_toArray, List.set_cons_zero, List.set_cons_succ]
  refine wpAnyH_take (i := 2) (v := ?_) rfl (by kernel_rfl) (by kernel_rfl) (by kernel_rfl) (fun _ _ _ h => h) (Or.inl ⟨by rfl, ?_⟩) (by assumption) ?_
  rotate_left
  · (intro w hSw; (try dsimp only at hSw); go_simp; (try with_reducible rfl))
  try simp only [Act.put, List.getElem_toArray, List.getElem_cons_succ, List.getElem_cons_zero, List.setIfInBounds_toArray, List.set_cons_zero, List.set_cons_succ]
  refine wpAnyH_take (i := 3) (v := ?_) rfl (by kernel_rfl) (by kernel_rfl) (by kernel_rfl) (fun _ _ _ h => h) (Or.inl ⟨by rfl, ?_⟩) (by assumption) ?_
  rotate_left
  · (intro w hSw; (try dsimp only at hSw); go_simp; (try with_reducible rfl))
  try simp only [Act.put, List.getElem_toArray, List.getElem_cons_succ, List.getElem_cons_zero, List.setIfInBounds_toArray, List.set_cons_zero, List.set_cons_succ]
  refine wpAnyH_take (i := 4) (v := ?_) rfl (by kernel_rfl) (by kernel_rfl) (by kernel_rfl) (fun _ _ _ h => h) (Or.inl ⟨by rfl, ?_⟩) (by assumption) ?_
  rotate_left
  · (intro w hSw; (try dsimp only at hSw); go_simp; (try with_reducible rfl))
  try simp only [Act.put, List.getElem_toArray, List.getElem_cons_succ, List.getElem_cons_zero, List.setIfInBounds_toArray, List.set_cons_zero, List.set_cons_succ]
  refine wpAnyH_take (i := 6) (v := ?_) rfl (by kernel_rfl) (by kernel_rfl) (by kernel_rfl) (fun _ _ _ h => h) (Or.inl ⟨by rfl, ?_⟩) (by assumption) ?_
  rotate_left
  · (intro w hSw; (try dsimp only at hSw); go_simp; (try with_reducible rfl))
  try simp only [Act.put, List.getElem_toArray, List.getElem_cons_succ, List.getElem_cons_zero, List.setIfInBounds_toArray, List.set_cons_zero, List.set_cons_succ]
  refine wpAnyH_take (i := 7) (v := ?_) rfl (by kernel_rfl) (by kernel_rfl) (by kernel_rfl) (fun _ _ _ h => h) (Or.inl ⟨by rfl, ?_⟩) (by assumption) ?_
  rotate_left
  · (intro w hSw; (try dsimp only at hSw); go_simp; (try with_reducible rfl))
  try simp only [Act.put, List.getElem_toArray, List.getElem_cons_succ, List.getElem_cons_zero, List.setIfInBounds_toArray, List.set_cons_zero, List.set_cons_succ]
  refine wpAnyH_ready (rs := [5, 8]) (by kernel_rfl) (by simp) ?_
  refine AllReadyH.cons rfl (fun K2 hK => ?_) (AllReadyH.cons rfl (fun K2 hK => ?_) (AllReadyH.nil))
  rw [if_pos (by rfl)]
  go_simp
  refine hK.out _ _ ?_ (fun hHeld => ?_)
  · (try dsimp only)
    (first
      | go_keep
      | (go_split_ands
         (repeat' apply And.intro) <;> first | exact grown_cell hg1 hneg (by assumption) | (rw [World.cell?_setCell_far _ _ _ _ (fun e => hrx e.symm)]; assumption)))
  clear hK K2
  try simp only [Act.put, List.getElem_toArray, List.getElem_cons_succ, List.getElem_cons_zero, List.setIfInBounds_toArray, List.set_cons_zero, List.set_cons_succ]
  refine wpAnyH_ready (rs := [8]) (by kernel_rfl) (by simp) ?_
  refine AllReadyH.cons rfl (fun K2 hK => ?_) AllReadyH.nil
  rw [if_pos (by rfl)]
  go_simp
  refine hK.out _ _ ?_ (fun hHeld => ?_)
  · (try dsimp only)
    (first
      | go_keep
      | (go_split_ands
         (repeat' apply And.intro) <;> first | exact grown_cell hg1 hneg (by assumption) | (rw [World.cell?_setCell_far _ _ _ _ (fun e => hrx e.symm)]; assumption)))
  clear hK K2
  try simp only [Act.put, List.getElem_toArray, List.getElem_cons_succ, List.getElem_cons_zero, List.setIfInBounds_toArray, List.set_cons_zero, List.set_cons_succ]
  refine wpAnyH_ready (rs := [9]) (by kernel_rfl) (by simp) ?_
  refine AllReadyH.cons rfl (fun K2 hK => ?_) AllReadyH.nil
  (first
    | ((refine Sv.step_append_row _ Sv.wc_len (by decide) Sv.wc_one rfl (.tmp 52) (.tmp 55) 71 rfl B 34 i5 _ 40 Tryz.underlying71 hi5 hz5 hs5 hy5 rfl sv L _ (by rfl) (N1.out.alloc _) _ [x.1] (by rfl) (.inr ⟨W.heap.size, 0, 1, rfl, by simp, Nat.le_refl 1, fun i hi j v hv => ?ro⟩) (by simp only [maxLen]; simp; omega) (by simp; omega) (by simp; omega) ?_); (case ro => (obtain rfl : i = 0 := by simp at hi; omega); rw [show 0 + 0 * 5 + j = j by omega]; exact ((BlkW.new _ _ _).cell j).trans (by rw [List.getElem?_toArray]; exact hv)); rintro v1 u1 ⟨ho1, hg1, ha1, hl1⟩; obtain ⟨ao1, cp1, ev1⟩ := Sv.own_slice ho1; subst ev1; have hb2 := below_alloc (show Below W.heap.size W W.drew from (Below.refl _ _).drew) (.cells #[.int .i64 x.1.slot, .int .i64 x.1.gen, .int .i64 x.1.tag, .int .i64 x.1.num, .bool x.1.mark] 34); have HPX := HR.out.below hb2; have RX := HPX.at_; have RU := RtAt.off RX ((Off.refl (fun j => sv.ownBlock = some j) _).grown hg1 (fun k e => .inl e)) hne; have u50 := RU.rows.1; have uf := RU.frozen 50; have hz3 := BlkW.lt RU; have hneg : sv.ownBlock ≠ some g := fun e => hkx (HR.out.ks g e); replace RU := Lib.hid RU; replace HPX := Lib.hid HPX; replace RX := Lib.hid RX; replace hb2 := Lib.hid hb2))
  refine hK.out _ _ ?_ (fun hHeld => ?_)
  · (try dsimp only)
    (first
      | go_keep
      | (go_split_ands
         (repeat' apply And.intro) <;> first | exact grown_cell hg1 hneg (by assumption) | (rw [World.cell?_setCell_far _ _ _ _ (fun e => hrx e.symm)]; assumption)))
  clear hK K2
  try simp only [Act.put, List.getElem_toArray, List.getElem_cons_succ, List.getElem_cons_zero, List.setIfInBounds_toArray, List.set_cons_zero, List.set_cons_succ]
  refine wpAnyH_take (i := 10) (v := ?_) rfl (by kernel_rfl) (by kernel_rfl) (by kernel_rfl) (fun _ _ _ h => h) (Or.inl ⟨by rfl, ?_⟩) (by assumption) ?_
  rotate_left
  · (intro w hSw; (try dsimp only at hSw); go_simp; (try with_reducible rfl))
  try simp only [Act.put, List.getElem_toArray, List.getElem_cons_succ, List.getElem_cons_zero, List.setIfInBounds_toArray, List.set_cons_zero, List.set_cons_succ]
  refine wpAnyH_take (i := 11) (v := ?_) rfl (by kernel_rfl) (by kernel_rfl) (by kernel_rfl) (fun _ _ _ h => h) (Or.inl ⟨by rfl, ?_⟩) (by assumption) ?_
  rotate_left
  · (intro w hSw; (try dsimp only at hSw); go_simp; (try with_reducible rfl))
  try simp only [Act.put, List.getElem_toArray, List.getElem_cons_succ, List.getElem_cons_zero, List.setIfInBounds_toArray, List.set_cons_zero, List.set_cons_succ]
  refine wpAnyH_take (i := 12) (v := ?_) rfl (by kernel_rfl) (by kernel_rfl) (by kernel_rfl) (fun _ _ _ h => h) (Or.inl ⟨by rfl, ?_⟩) (by assumption) ?_
  rotate_left
  · (intro w hSw; (try dsimp only at hSw); go_simp; (try with_reducible rfl))
  try simp only [Act.put, List.getElem_toArray, List.getElem_cons_succ, List.getElem_cons_zero, List.setIfInBounds_toArray, List.set_cons_zero, List.set_cons_succ]
  refine wpAnyH_ready (rs := [13]) (by kernel_rfl) (by simp) ?_
  refine AllReadyH.cons rfl (fun K2 hK => ?_) AllReadyH.nil
  rw [if_pos (by rfl)]
  go_simp
  refine hK.out _ _ ?_ (fun hHeld => ?_)
  · (try dsimp only)
    (first
      | go_keep
      | (go_split_ands
         (repeat' apply And.intro) <;> first | exact grown_cell hg1 hneg (by assumption) | (rw [World.cell?_setCell_far _ _ _ _ (fun e => hrx e.symm)]; assumption)))
  clear hK K2
  try simp only [Act.put, List.getElem_toArray, List.getElem_cons_succ, List.getElem_cons_zero, List.setIfInBounds_toArray, List.set_cons_zero, List.set_cons_succ]
  refine wpAnyH_done (by kernel_rfl) ?_ _
  refine NoPanic.normal ?_
  rotate_left
  rw [if_pos (by rfl)]
  go_simp
  refine hK.out _ _ ?_ (fun hHeld => ?_)
  · (try dsimp only)
    (first
      | go_keep
      | (go_split_ands
         (repeat' apply And.intro) <;> first | exact grown_cell hg1 hneg (by assumption) | (rw [World.cell?_setCell_far _ _ _ _ (fun e => hrx e.symm)]; assumption)))
  clear hK K2
  try simp only [Act.put, List.getElem_toArray, List.getElem_cons_succ, List.getElem_cons_zero, List.setIfInBounds_toArray, List.set_cons_zero, List.set_cons_succ]
  refine wpAnyH_ready (rs := [5]) (by kernel_rfl) (by simp) ?_
  refine AllReadyH.cons rfl (fun K2 hK => ?_) AllReadyH.nil
  rw [if_pos (by rfl)]
  go_simp
  refine hK.out _ _ ?_ (fun hHeld => ?_)
  · (try dsimp only)
    (first
      | go_keep
      | (go_split_ands
         (repeat' apply And.intro) <;> first | exact grown_cell hg1 hneg (by assumption) | (rw [World.cell?_setCell_far _ _ _ _ (fun e => hrx e.symm)]; assumption)))
  clear hK K2
  try simp only [Act.put, List.getElem_toArray, List.getElem_cons_succ, List.getElem_cons_zero, List.setIfInBounds_toArray, List.set_cons_zero, List.set_cons_succ]
  refine wpAnyH_ready (rs := [9]) (by kernel_rfl) (by simp) ?_
  refine AllReadyH.cons rfl (fun K2 hK => ?_) AllReadyH.nil
  (first
    | ((refine Sv.step_append_row _ Sv.wc_len (by decide) Sv.wc_one rfl (.tmp 52) (.tmp 55) 71 rfl B 34 i5 _ 40 Tryz.underlying71 hi5 hz5 hs5 hy5 rfl sv L _ (by rfl) (N1.out.alloc _) _ [x.1] (by rfl) (.inr ⟨W.heap.size, 0, 1, rfl, by simp, Nat.le_refl 1, fun i hi j v hv => ?ro⟩) (by simp only [maxLen]; simp; omega) (by simp; omega) (by simp; omega) ?_); (case ro => (obtain rfl : i = 0 := by simp at hi; omega); rw [show 0 + 0 * 5 + j = j by omega]; exact ((BlkW.new _ _ _).cell j).trans (by rw [List.getElem?_toArray]; exact hv)); rintro v1 u1 ⟨ho1, hg1, ha1, hl1⟩; obtain ⟨ao1, cp1, ev1⟩ := Sv.own_slice ho1; subst ev1; have hb2 := below_alloc (show Below W.heap.size W W.drew from (Below.refl _ _).drew) (.cells #[.int .i64 x.1.slot, .int .i64 x.1.gen, .int .i64 x.1.tag, .int .i64 x.1.num, .bool x.1.mark] 34); have HPX := HR.out.below hb2; have RX := HPX.at_; have RU := RtAt.off RX ((Off.refl (fun j => sv.ownBlock = some j) _).grown hg1 (fun k e => .inl e)) hne; have u50 := RU.rows.1; have uf := RU.frozen 50; have hz3 := BlkW.lt RU; have hneg : sv.ownBlock ≠ some g := fun e => hkx (HR.out.ks g e); replace RU := Lib.hid RU; replace HPX := Lib.hid HPX; replace RX := Lib.hid RX; replace hb2 := Lib.hid hb2))
  refine hK.out _ _ ?_ (fun hHeld => ?_)
  · (try dsimp only)
    (first
      | go_keep
      | (go_split_ands
         (repeat' apply And.intro) <;> first | exact grown_cell hg1 hneg (by assumption) | (rw [World.cell?_setCell_far _ _ _ _ (fun e => hrx e.symm)]; assumption)))
  clear hK K2
  try simp only [Act.put, List.getElem_toArray, List.getElem_cons_succ, List.getElem_cons_zero, List.setIfInBounds_toArray, List.set_cons_zero, List.set_cons_succ]
  refine wpAnyH_take (i := 10) (v := ?_) rfl (by kernel_rfl) (by kernel_rfl) (by kernel_rfl) (fun _ _ _ h => h) (Or.inl ⟨by rfl, ?_⟩) (by assumption) ?_
  rotate_left
  · (intro w hSw; (try dsimp only at hSw); go_simp; (try with_reducible rfl))
  try simp only [Act.put, List.getElem_toArray, List.getElem_cons_succ, List.getElem_cons_zero, List.setIfInBounds_toArray, List.set_cons_zero, List.set_cons_succ]
  refine wpAnyH_take (i := 11) (v := ?_) rfl (by kernel_rfl) (by kernel_rfl) (by kernel_rfl) (fun _ _ _ h => h) (Or.inl ⟨by rfl, ?_⟩) (by assumption) ?_
  rotate_left
  · (intro w hSw; (try dsimp only at hSw); go_simp; (try with_reducible rfl))
  try simp only [Act.put, List.getElem_toArray, List.getElem_cons_succ, List.getElem_cons_zero, List.setIfInBounds_toArray, List.set_cons_zero, List.set_cons_succ]
  refine wpAnyH_take (i := 12) (v := ?_) rfl (by kernel_rfl) (by kernel_rfl) (by kernel_rfl) (fun _ _ _ h => h) (Or.inl ⟨by rfl, ?_⟩) (by assumption) ?_
  rotate_left
  · (intro w hSw; (try dsimp only at hSw); go_simp; (try with_reducible rfl))
  try simp only [Act.put, List.getElem_toArray, List.getElem_cons_succ, List.getElem_cons_zero, List.setIfInBounds_toArray, List.set_cons_zero, List.set_cons_succ]
  refine wpAnyH_ready (rs := [13]) (by kernel_rfl) (by simp) ?_
  refine AllReadyH.cons rfl (fun K2 hK => ?_) AllReadyH.nil
  rw [if_pos (by rfl)]
  go_simp
  refine hK.out _ _ ?_ (fun hHeld => ?_)
  · (try dsimp only)
    (first
      | go_keep
      | (go_split_ands
         (repeat' apply And.intro) <;> first | exact grown_cell hg1 hneg (by assumption) | (rw [World.cell?_setCell_far _ _ _ _ (fun e => hrx e.symm)]; assumption)))
  clear hK K2
  try simp only [Act.put, List.getElem_toArray, List.getElem_cons_succ, List.getElem_cons_zero, List.setIfInBounds_toArray, List.set_cons_zero, List.set_cons_succ]
  refine wpAnyH_done (by kernel_rfl) ?_ _
  refine NoPanic.normal ?_
  all_goals
    obtain ⟨K1, hp1, ho2, hk1⟩ := HPX.out.heardP hg1 x.1 (by rw [← HL.out]; exact ho1) ha1
    have HB2 := Lib.hid (below_trans HB0.out hb2.out)
    have HP1 := Lib.hid (show RiteP _ B r _ fv nv (setSaid m x.1) K1 from hp1)
    have HO2 := Lib.hid ho2
    have HK1 := Lib.hid hk1
    have d3 := off_cell HO2.out (by have := hb2.out.size; omega) hkx (keep_cell hb2.out b3)
    have hg2 : g < (u1.setCell ⟨r, 50, none⟩ (.slice ao1 (L + 1) cp1)).heap.size := Nat.lt_of_lt_of_le hzx (Nat.le_trans hb2.out.size HO2.out.size)
    clear hp1 ho2 hk1 ho1 hg1 ha1 hl1 u50 uf RU RX HPX hb2 N1 c50 hne hneg HR b0 b1 b2 b3 b4 b5
    generalize u1.setCell ⟨r, 50, none⟩ (.slice ao1 (L + 1) cp1) = W2 at HP1 HO2 d3 hg2 ⊢
    have hsl1 : (setSaid m x.1).st.said.length = L + 1 := by show (m.st.said ++ [x.1]).length = _; rw [List.length_append, HL.out]; rfl
    have hisl : (Value.slice ao1 (L + 1) cp1).isSliceOf (setSaid m x.1).st.said.length := ⟨ao1, cp1, by rw [hsl1]⟩
    have hw : (setSaid m x.1).saysWords = true := by unfold Rt.saysWords; rw [show (setSaid m x.1).eng = 3 from HEN.out]; rfl
    have hws : (setSaid m x.1).saysSpan = false := by unfold Rt.saysSpan; rw [show (setSaid m x.1).eng = 3 from HEN.out]; rfl
    have hlt : (setSaid m x.1).st.said.length < (setSaid m x.1).thr * 9 := by rw [hsl1, HL.out]; exact HSL.out
    have HH : Hid ((setSaid m x.1).hear = (setSaid m x.1).load (0, 0, (keepAt ((setSaid m x.1).st.said.length / 9) ((setSaid m x.1).st.said.length % 9) : Nat)) 7) := Lib.hid (by unfold Rt.hear; rw [hw]; rfl)
    have HLI := Lib.hid (listen_more HP1.out.at_ hisl HT.out hw hlt)
    clear hlt hw hws hsl1 hisl
    go_wp2_with fail
    refine HLI.out.mono ?_
    rintro e w3 ⟨rfl, h1, h2⟩
    go_wp2
    first
      | go_end0
      | refine bodyPost_ret (results_none rfl _ _ _) rfl ?_
    rw [HH.out]
    exact ⟨rfl, Lib.hid (RStep.below HB2.out (RStep.trans HO2.out HK1.out (HP1.out.step_only h1.out h2.out (.inl ⟨rfl, rfl⟩) (.inl ⟨rfl, rfl⟩) rfl)))⟩
set_option maxRecDepth 100000 in
set_option maxHeartbeats 1000000 in
theorem scan_all_eras (h : RiteP w B r sv fv nv m K) (x : Wd × Bool) (hd : m.st.done = 7) (he : m.eng = 3) (ht : m.thr ≤ 6) (hsl : m.st.said.length + 1 = m.thr * 9) (hl : m.notes.length ≤ 200) (hF : FreeOk (setFree (setSaid m x.1) ((setSaid m x.1).loose x.1.num))) :
    Calls Tryz.prog 94 #[.pointer (some ⟨r, 0, none⟩), rpv x] w (RPost w B r K ((setSaid m x.1).free x.1.num)) := by
  have HRL := Lib.hid (fun b (e : K b) => (show b ≠ w.heap.size from Nat.ne_of_lt (h.low b e).2))
  replace HRL : Hid (∀ b, K b → b ≠ w.heap.size) := HRL
  have h1 := h.below (below_alloc (Below.refl _ _) (.cells #[.int .i64 x.1.slot, .int .i64 x.1.gen, .int .i64 x.1.tag, .int .i64 x.1.num, .bool x.1.mark, .bool x.2] 63))
  have HX := Lib.hid (box_rep w x)
  have HB0 := Lib.hid (below_alloc (Below.refl w.heap.size w) (.cells #[.int .i64 x.1.slot, .int .i64 x.1.gen, .int .i64 x.1.tag, .int .i64 x.1.num, .bool x.1.mark, .bool x.2] 63))
  have HR := Lib.hid h1
  clear h h1
  unfold rpv
  go_enter Tryz.func94, Tryz.ntmps94
  go_upto_region 1 with fail
  generalize w.alloc (.cells #[.int .i64 x.1.slot, .int .i64 x.1.gen, .int .i64 x.1.tag, .int .i64 x.1.num, .bool x.1.mark, .bool x.2] 63) = W at HR HX HB0 ⊢
  have hX := HX.out
  have hzx := BlkW.lt hX
  have hrx : w.heap.size ≠ r := fun e => BlkW.ne_ hX HR.out.at_ (by decide) e
  have hkx : ¬ K w.heap.size := fun e => HRL.out _ e rfl
  obtain ⟨b0, b1, b2, b3, b4, b5⟩ := rep6 hX
  have hz := BlkW.lt HR.out.at_
  have cd := HR.out.at_.done
  have ce := HR.out.at_.fix.1
  clear hX HX
  generalize w.heap.size = g at hzx hrx hkx b0 b1 b2 b3 b4 b5 ⊢
  have HEN := Lib.hid he
  have HT := Lib.hid ht
  have HF := Lib.hid hF
  have HLN := Lib.hid hl
  rw [hd] at cd
  obtain ⟨i5, hi5, hz5, hs5, hy5⟩ := info_parts infoWd
  have hBz : B ≤ W.heap.size := Nat.le_of_lt (Nat.lt_of_le_of_lt (HR.out.low r HR.out.kr).1 (HR.out.low r HR.out.kr).2)
  have c50 := HR.out.at_.rows.1
  have hne := HR.out.ne.1
  obtain ⟨L, hL⟩ : ∃ L, L = m.st.said.length := ⟨_, rfl⟩
  have N1 := Lib.hid (show W.drew.ownsRow B 34 5 sv L (Sv.flat Sv.wc m.st.said) by rw [hL]; exact HR.out.said)
  have hLs : L ≤ 1000 := by omega
  have HL := Lib.hid hL
  have HSL := Lib.hid hsl
  clear hd hL hsl he ht hF hl
  go_upto_region 14 with fail
  refine wp_region_noPanic ?_
  refine wp_region_held_drew (S := (fun w' => w'.cell? ⟨g, 0, none⟩ = some (.int .i64 x.1.slot) ∧ w'.cell? ⟨g, 1, none⟩ = some (.int .i64 x.1.gen) ∧ w'.cell? ⟨g, 2, none⟩ = some (.int .i64 x.1.tag) ∧ w'.cell? ⟨g, 3, none⟩ = some (.int .i64 x.1.num) ∧ w'.cell? ⟨g, 4, none⟩ = some (.bool x.1.mark))) (by kernel_rfl) ?_ (fun hHeld => ?_)
  · (try dsimp only)
    (first
      | go_keep
      | (go_split_ands
         (repeat' apply And.intro) <;> first | exact grown_cell hg1 hneg (by assumption) | (rw [World.cell?_setCell_far _ _ _ _ (fun e => hrx e.symm)]; assumption)))
  refine wpAnyH_take (i := 0) (v := ?_) rfl (by kernel_rfl) (by kernel_rfl) (by kernel_rfl) (fun _ _ _ h => h) (Or.inl ⟨by rfl, ?_⟩) (by assumption) ?_
  rotate_left
  · (intro w hSw; (try dsimp only at hSw); go_simp; (try with_reducible rfl))
  try simp only [Act.put, List.getElem_toArray, List.getElem_cons_succ, List.getElem_cons_zero, List.setIfInBounds_toArray, List.set_cons_zero, List.set_cons_succ]
  refine wpAnyH_take (i := 1) (v := ?_) rfl (by kernel_rfl) (by kernel_rfl) (by kernel_rfl) (fun _ _ _ h => h) (Or.inl ⟨by rfl, ?_⟩) (by assumption) ?_
  rotate_left
  · (intro w hSw; (try dsimp only at hSw); go_simp; (try with_reducible rfl))
  try simp only [Act.put, List.getElem_toArray, List.getElem_cons_succ, List.getElem_cons_zero, List.setIfInBounds_toArray, List.set_cons_zero, List.set_cons_succ]
  refine wpAnyH_take (i := 2) (v := ?_) rfl (by kernel_rfl) (by kernel_rfl) (by kernel_rfl) (fun _ _ _ h => h) (Or.inl ⟨by rfl, ?_⟩) (by assumption) ?_
  rotate_left
  · (intro w hSw; (try dsimp only at hSw); go_simp; (try with_reducible rfl))
  try simp only [Act.put, List.getElem_toArray, List.getElem_cons_succ, List.getElem_cons_zero, List.setIfInBounds_toArray, List.set_cons_zero, List.set_cons_succ]
  refine wpAnyH_take (i := 3) (v := ?_) rfl (by kernel_rfl) (by kernel_rfl) (by kernel_rfl) (fun _ _ _ h => h) (Or.inl ⟨by rfl, ?_⟩) (by assumption) ?_
  rotate_left
  · (intro w hSw; (try dsimp only at hSw); go_simp; (try with_reducible rfl))
  try simp only [Act.put, List.getElem_toArray, List.getElem_cons_succ, List.getElem_cons_zero, List.setIfInBounds_toArray, List.set_cons_zero, List.set_cons_succ]
  refine wpAnyH_take (i := 4) (v := ?_) rfl (by kernel_rfl) (by kernel_rfl) (by kernel_rfl) (fun _ _ _ h => h) (Or.inl ⟨by rfl, ?_⟩) (by assumption) ?_
  rotate_left
  · (intro w hSw; (try dsimp only at hSw); go_simp; (try with_reducible rfl))
  try simp only [Act.put, List.getElem_toArray, List.getElem_cons_succ, List.getElem_cons_zero, List.setIfInBounds_toArray, List.set_cons_zero, List.set_cons_succ]
  refine wpAnyH_take (i := 6) (v := ?_) rfl (by kernel_rfl) (by kernel_rfl) (by kernel_rfl) (fun _ _ _ h => h) (Or.inl ⟨by rfl, ?_⟩) (by assumption) ?_
  rotate_left
  · (intro w hSw; (try dsimp only at hSw); go_simp; (try with_reducible rfl))
  try simp only [Act.put, List.getElem_toArray, List.getElem_cons_succ, List.getElem_cons_zero, List.setIfInBounds_toArray, List.set_cons_zero, List.set_cons_succ]
  refine wpAnyH_take (i := 7) (v := ?_) rfl (by kernel_rfl) (by kernel_rfl) (by kernel_rfl) (fun _ _ _ h => h) (Or.inl ⟨by rfl, ?_⟩) (by assumption) ?_
  rotate_left
  · (intro w hSw; (try dsimp only at hSw); go_simp; (try with_reducible rfl))
  try simp only [Act.put, List.getElem_toArray, List.getElem_cons_succ, List.getElem_cons_zero, List.setIfInBounds_toArray, List.set_cons_zero, List.set_cons_succ]
  refine wpAnyH_ready (rs := [5, 8]) (by kernel_rfl) (by simp) ?_
  refine AllReadyH.cons rfl (fun K2 hK => ?_) (AllReadyH.cons rfl (fun K2 hK => ?_) (AllReadyH.nil))
  rw [if_pos (by rfl)]
  go_simp
  refine hK.out _ _ ?_ (fun hHeld => ?_)
  · (try dsimp only)
    (first
      | go_keep
      | (go_split_ands
         (repeat' apply And.intro) <;> first | exact grown_cell hg1 hneg (by assumption) | (rw [World.cell?_setCell_far _ _ _ _ (fun e => hrx e.symm)]; assumption)))
  clear hK K2
  try simp only [Act.put, List.getElem_toArray, List.getElem_cons_succ, List.getElem_cons_zero, List.setIfInBounds_toArray, List.set_cons_zero, List.set_cons_succ]
  refine wpAnyH_ready (rs := [8]) (by kernel_rfl) (by simp) ?_
  refine AllReadyH.cons rfl (fun K2 hK => ?_) AllReadyH.nil
  rw [if_pos (by rfl)]
  go_simp
  refine hK.out _ _ ?_ (fun hHeld => ?_)
  · (try dsimp only)
    (first
      | go_keep
      | (go_split_ands
         (repeat' apply And.intro) <;> first | exact grown_cell hg1 hneg (by assumption) | (rw [World.cell?_setCell_far _ _ _ _ (fun e => hrx e.symm)]; assumption)))
  clear hK K2
  try simp only [Act.put, List.getElem_toArray, List.getElem_cons_succ, List.getElem_cons_zero, List.setIfInBounds_toArray, List.set_cons_zero, List.set_cons_succ]
  refine wpAnyH_ready (rs := [9]) (by kernel_rfl) (by simp) ?_
  refine AllReadyH.cons rfl (fun K2 hK => ?_) AllReadyH.nil
  (first
    | ((refine Sv.step_append_row _ Sv.wc_len (by decide) Sv.wc_one rfl (.tmp 52) (.tmp 55) 71 rfl B 34 i5 _ 40 Tryz.underlying71 hi5 hz5 hs5 hy5 rfl sv L _ (by rfl) (N1.out.alloc _) _ [x.1] (by rfl) (.inr ⟨W.heap.size, 0, 1, rfl, by simp, Nat.le_refl 1, fun i hi j v hv => ?ro⟩) (by simp only [maxLen]; simp; omega) (by simp; omega) (by simp; omega) ?_); (case ro => (obtain rfl : i = 0 := by simp at hi; omega); rw [show 0 + 0 * 5 + j = j by omega]; exact ((BlkW.new _ _ _).cell j).trans (by rw [List.getElem?_toArray]; exact hv)); rintro v1 u1 ⟨ho1, hg1, ha1, hl1⟩; obtain ⟨ao1, cp1, ev1⟩ := Sv.own_slice ho1; subst ev1; have hb2 := below_alloc (show Below W.heap.size W W.drew from (Below.refl _ _).drew) (.cells #[.int .i64 x.1.slot, .int .i64 x.1.gen, .int .i64 x.1.tag, .int .i64 x.1.num, .bool x.1.mark] 34); have HPX := HR.out.below hb2; have RX := HPX.at_; have RU := RtAt.off RX ((Off.refl (fun j => sv.ownBlock = some j) _).grown hg1 (fun k e => .inl e)) hne; have u50 := RU.rows.1; have uf := RU.frozen 50; have hz3 := BlkW.lt RU; have hneg : sv.ownBlock ≠ some g := fun e => hkx (HR.out.ks g e); replace RU := Lib.hid RU; replace HPX := Lib.hid HPX; replace RX := Lib.hid RX; replace hb2 := Lib.hid hb2))
  refine hK.out _ _ ?_ (fun hHeld => ?_)
  · (try dsimp only)
    (first
      | go_keep
      | (go_split_ands
         (repeat' apply And.intro) <;> first | exact grown_cell hg1 hneg (by assumption) | (rw [World.cell?_setCell_far _ _ _ _ (fun e => hrx e.symm)]; assumption)))
  clear hK K2
  try simp only [Act.put, List.getElem_toArray, List.getElem_cons_succ, List.getElem_cons_zero, List.setIfInBounds_toArray, List.set_cons_zero, List.set_cons_succ]
  refine wpAnyH_take (i := 10) (v := ?_) rfl (by kernel_rfl) (by kernel_rfl) (by kernel_rfl) (fun _ _ _ h => h) (Or.inl ⟨by rfl, ?_⟩) (by assumption) ?_
  rotate_left
  · (intro w hSw; (try dsimp only at hSw); go_simp; (try with_reducible rfl))
  try simp only [Act.put, List.getElem_toArray, List.getElem_cons_succ, List.getElem_cons_zero, List.setIfInBounds_toArray, List.set_cons_zero, List.set_cons_succ]
  refine wpAnyH_take (i := 11) (v := ?_) rfl (by kernel_rfl) (by kernel_rfl) (by kernel_rfl) (fun _ _ _ h => h) (Or.inl ⟨by rfl, ?_⟩) (by assumption) ?_
  rotate_left
  · (intro w hSw; (try dsimp only at hSw); go_simp; (try with_reducible rfl))
  try simp only [Act.put, List.getElem_toArray, List.getElem_cons_succ, List.getElem_cons_zero, List.setIfInBounds_toArray, List.set_cons_zero, List.set_cons_succ]
  refine wpAnyH_take (i := 12) (v := ?_) rfl (by kernel_rfl) (by kernel_rfl) (by kernel_rfl) (fun _ _ _ h => h) (Or.inl ⟨by rfl, ?_⟩) (by assumption) ?_
  rotate_left
  · (intro w hSw; (try dsimp only at hSw); go_simp; (try with_reducible rfl))
  try simp only [Act.put, List.getElem_toArray, List.getElem_cons_succ, List.getElem_cons_zero, List.setIfInBounds_toArray, List.set_cons_zero, List.set_cons_succ]
  refine wpAnyH_ready (rs := [13]) (by kernel_rfl) (by simp) ?_
  refine AllReadyH.cons rfl (fun K2 hK => ?_) AllReadyH.nil
  rw [if_pos (by rfl)]
  go_simp
  refine hK.out _ _ ?_ (fun hHeld => ?_)
  · (try dsimp only)
    (first
      | go_keep
      | (go_split_ands
         (repeat' apply And.intro) <;> first | exact grown_cell hg1 hneg (by assumption) | (rw [World.cell?_setCell_far _ _ _ _ (fun e => hrx e.symm)]; assumption)))
  clear hK K2
  try simp only [Act.put, List.getElem_toArray, List.getElem_cons_succ, List.getElem_cons_zero, List.setIfInBounds_toArray, List.set_cons_zero, List.set_cons_succ]
  refine wpAnyH_done (by kernel_rfl) ?_ _
  refine NoPanic.normal ?_
  rotate_left
  rw [if_pos (by rfl)]
  go_simp
  refine hK.out _ _ ?_ (fun hHeld => ?_)
  · (try dsimp only)
    (first
      | go_keep
      | (go_split_ands
         (repeat' apply And.intro) <;> first | exact grown_cell hg1 hneg (by assumption) | (rw [World.cell?_setCell_far _ _ _ _ (fun e => hrx e.symm)]; assumption)))
  clear hK K2
  try simp only [Act.put, List.getElem_toArray, List.getElem_cons_succ, List.getElem_cons_zero, List.setIfInBounds_toArray, List.set_cons_zero, List.set_cons_succ]
  refine wpAnyH_ready (rs := [5]) (by kernel_rfl) (by simp) ?_
  refine AllReadyH.cons rfl (fun K2 hK => ?_) AllReadyH.nil
  rw [if_pos (by rfl)]
  go_simp
  refine hK.out _ _ ?_ (fun hHeld => ?_)
  · (try dsimp only)
    (first
      | go_keep
      | (go_split_ands
         (repeat' apply And.intro) <;> first | exact grown_cell hg1 hneg (by assumption) | (rw [World.cell?_setCell_far _ _ _ _ (fun e => hrx e.symm)]; assumption)))
  clear hK K2
  try simp only [Act.put, List.getElem_toArray, List.getElem_cons_succ, List.getElem_cons_zero, List.setIfInBounds_toArray, List.set_cons_zero, List.set_cons_succ]
  refine wpAnyH_ready (rs := [9]) (by kernel_rfl) (by simp) ?_
  refine AllReadyH.cons rfl (fun K2 hK => ?_) AllReadyH.nil
  (first
    | ((refine Sv.step_append_row _ Sv.wc_len (by decide) Sv.wc_one rfl (.tmp 52) (.tmp 55) 71 rfl B 34 i5 _ 40 Tryz.underlying71 hi5 hz5 hs5 hy5 rfl sv L _ (by rfl) (N1.out.alloc _) _ [x.1] (by rfl) (.inr ⟨W.heap.size, 0, 1, rfl, by simp, Nat.le_refl 1, fun i hi j v hv => ?ro⟩) (by simp only [maxLen]; simp; omega) (by simp; omega) (by simp; omega) ?_); (case ro => (obtain rfl : i = 0 := by simp at hi; omega); rw [show 0 + 0 * 5 + j = j by omega]; exact ((BlkW.new _ _ _).cell j).trans (by rw [List.getElem?_toArray]; exact hv)); rintro v1 u1 ⟨ho1, hg1, ha1, hl1⟩; obtain ⟨ao1, cp1, ev1⟩ := Sv.own_slice ho1; subst ev1; have hb2 := below_alloc (show Below W.heap.size W W.drew from (Below.refl _ _).drew) (.cells #[.int .i64 x.1.slot, .int .i64 x.1.gen, .int .i64 x.1.tag, .int .i64 x.1.num, .bool x.1.mark] 34); have HPX := HR.out.below hb2; have RX := HPX.at_; have RU := RtAt.off RX ((Off.refl (fun j => sv.ownBlock = some j) _).grown hg1 (fun k e => .inl e)) hne; have u50 := RU.rows.1; have uf := RU.frozen 50; have hz3 := BlkW.lt RU; have hneg : sv.ownBlock ≠ some g := fun e => hkx (HR.out.ks g e); replace RU := Lib.hid RU; replace HPX := Lib.hid HPX; replace RX := Lib.hid RX; replace hb2 := Lib.hid hb2))
  refine hK.out _ _ ?_ (fun hHeld => ?_)
  · (try dsimp only)
    (first
      | go_keep
      | (go_split_ands
         (repeat' apply And.intro) <;> first | exact grown_cell hg1 hneg (by assumption) | (rw [World.cell?_setCell_far _ _ _ _ (fun e => hrx e.symm)]; assumption)))
  clear hK K2
  try simp only [Act.put, List.getElem_toArray, List.getElem_cons_succ, List.getElem_cons_zero, List.setIfInBounds_toArray, List.set_cons_zero, List.set_cons_succ]
  refine wpAnyH_take (i := 10) (v := ?_) rfl (by kernel_rfl) (by kernel_rfl) (by kernel_rfl) (fun _ _ _ h => h) (Or.inl ⟨by rfl, ?_⟩) (by assumption) ?_
  rotate_left
  · (intro w hSw; (try dsimp only at hSw); go_simp; (try with_reducible rfl))
  try simp only [Act.put, List.getElem_toArray, List.getElem_cons_succ, List.getElem_cons_zero, List.setIfInBounds_toArray, List.set_cons_zero, List.set_cons_succ]
  refine wpAnyH_take (i := 11) (v := ?_) rfl (by kernel_rfl) (by kernel_rfl) (by kernel_rfl) (fun _ _ _ h => h) (Or.inl ⟨by rfl, ?_⟩) (by assumption) ?_
  rotate_left
  · (intro w hSw; (try dsimp only at hSw); go_simp; (try with_reducible rfl))
  try simp only [Act.put, List.getElem_toArray, List.getElem_cons_succ, List.getElem_cons_zero, List.setIfInBounds_toArray, List.set_cons_zero, List.set_cons_succ]
  refine wpAnyH_take (i := 12) (v := ?_) rfl (by kernel_rfl) (by kernel_rfl) (by kernel_rfl) (fun _ _ _ h => h) (Or.inl ⟨by rfl, ?_⟩) (by assumption) ?_
  rotate_left
  · (intro w hSw; (try dsimp only at hSw); go_simp; (try with_reducible rfl))
  try simp only [Act.put, List.getElem_toArray, List.getElem_cons_succ, List.getElem_cons_zero, List.setIfInBounds_toArray, List.set_cons_zero, List.set_cons_succ]
  refine wpAnyH_ready (rs := [13]) (by kernel_rfl) (by simp) ?_
  refine AllReadyH.cons rfl (fun K2 hK => ?_) AllReadyH.nil
  rw [if_pos (by rfl)]
  go_simp
  refine hK.out _ _ ?_ (fun hHeld => ?_)
  · (try dsimp only)
    (first
      | go_keep
      | (go_split_ands
         (repeat' apply And.intro) <;> first | exact grown_cell hg1 hneg (by assumption) | (rw [World.cell?_setCell_far _ _ _ _ (fun e => hrx e.symm)]; assumption)))
  clear hK K2
  try simp only [Act.put, List.getElem_toArray, List.getElem_cons_succ, List.getElem_cons_zero, List.setIfInBounds_toArray, List.set_cons_zero, List.set_cons_succ]
  refine wpAnyH_done (by kernel_rfl) ?_ _
  refine NoPanic.normal ?_
  all_goals
    obtain ⟨K1, hp1, ho2, hk1⟩ := HPX.out.heardP hg1 x.1 (by rw [← HL.out]; exact ho1) ha1
    have HB2 := Lib.hid (below_trans HB0.out hb2.out)
    have HP1 := Lib.hid (show RiteP _ B r _ fv nv (setSaid m x.1) K1 from hp1)
    have HO2 := Lib.hid ho2
    have HK1 := Lib.hid hk1
    have d3 := off_cell HO2.out (by have := hb2.out.size; omega) hkx (keep_cell hb2.out b3)
    have hg2 : g < (u1.setCell ⟨r, 50, none⟩ (.slice ao1 (L + 1) cp1)).heap.size := Nat.lt_of_lt_of_le hzx (Nat.le_trans hb2.out.size HO2.out.size)
    clear hp1 ho2 hk1 ho1 hg1 ha1 hl1 u50 uf RU RX HPX hb2 N1 c50 hne hneg HR b0 b1 b2 b3 b4 b5
    generalize u1.setCell ⟨r, 50, none⟩ (.slice ao1 (L + 1) cp1) = W2 at HP1 HO2 d3 hg2 ⊢
    have hsl1 : (setSaid m x.1).st.said.length = L + 1 := by show (m.st.said ++ [x.1]).length = _; rw [List.length_append, HL.out]; rfl
    have hisl : (Value.slice ao1 (L + 1) cp1).isSliceOf (setSaid m x.1).st.said.length := ⟨ao1, cp1, by rw [hsl1]⟩
    have hw : (setSaid m x.1).saysWords = true := by unfold Rt.saysWords; rw [show (setSaid m x.1).eng = 3 from HEN.out]; rfl
    have hws : (setSaid m x.1).saysSpan = false := by unfold Rt.saysSpan; rw [show (setSaid m x.1).eng = 3 from HEN.out]; rfl
    have hlt : ¬ (setSaid m x.1).st.said.length < (setSaid m x.1).thr * 9 := by rw [hsl1, HL.out]; have := HSL.out; show ¬ _ < m.thr * 9; omega
    have HLI := Lib.hid (listen_none HP1.out.at_ hisl HT.out hw hws hlt)
    have HLS := Lib.hid hsl1
    have c53 := HP1.out.at_.fix.1
    rw [show (setSaid m x.1).eng = 3 from HEN.out] at c53
    have hz2 := BlkW.lt HP1.out.at_
    clear hlt hw hws hsl1 hisl
    go_wp2_with fail
    refine HLI.out.mono ?_
    rintro e w3 ⟨rfl, rfl⟩
    go_upto_region 16 with fail
    have y53 : ∀ d os, (grow (redrawn W2 d) os).cell? ⟨r, 53, none⟩ = some (.int .i64 3) := cell_regrown c53
    refine wp_region_quiet_below (by kernel_rfl) (by kernel_rfl) ?_
    repeat (go_big_quiet_step (fail))
    refine wpQuiet_nil ?_
    intro _ hw'
    obtain ⟨⟨dq, osq⟩, hw''⟩ := hw'
    subst hw''
    have hb3 : Below W2.heap.size W2 (grow (redrawn W2 dq) osq) := below_regrown W2 dq osq
    generalize grow (redrawn W2 dq) osq = W3 at hb3 ⊢
    have HP3 := Lib.hid (HP1.out.below hb3)
    have HB3 := Lib.hid hb3
    have e53 := HP3.out.at_.fix.1
    rw [show (setSaid m x.1).eng = 3 from HEN.out] at e53
    have e3 := keep_cell hb3 d3
    have hz3 := BlkW.lt HP3.out.at_
    have hg3 := Nat.lt_of_lt_of_le hg2 hb3.size
    have HLO := Lib.hid (loose_eras HP3.out HEN.out HLN.out (by rw [HLS.out]; have := HSL.out; have := HT.out; have := HL.out; omega) x.1.num)
    clear y53 c53 d3 hb3 hg2 hz2
    go_wp2_with fail
    refine HLO.out.mono ?_
    rintro e w4 ⟨a, rfl, ra, hb4⟩
    obtain ⟨ao4, cp4, ev4⟩ := Sv.own_slice ra.out
    subst ev4
    have RW4 := RtAt.below HP3.out.at_ hb4.out
    have n51 := RW4.rows.2.1
    have f51 := RW4.frozen 51
    have hz4 := BlkW.lt RW4
    replace RW4 := Lib.hid RW4
    obtain ⟨K5, hp5, ho5, hk5⟩ := HP3.out.loosed hb4.out (show w4.ownsRow W3.heap.size 74 7 _ ((setSaid m x.1).loose x.1.num).length (Sv.flat Sv.nc ((setSaid m x.1).loose x.1.num)) from ra.out)
    have HP5 := Lib.hid hp5
    have HO5 := Lib.hid ho5
    have HK5 := Lib.hid hk5
    clear hp5 ho5 hk5
    have HREL := Lib.hid (release_any HP5.out (by show m.notes.length ≤ 1000; have := HLN.out; omega) HF.out)
    go_wp2_with fail
    refine HREL.out.mono ?_
    rintro e w6 ⟨rfl, h6⟩
    go_wp2
    first
      | go_end0
      | refine bodyPost_ret (results_none rfl _ _ _) rfl ?_
    exact ⟨rfl, Lib.hid (RStep.below HB2.out (RStep.trans HO2.out HK1.out (RStep.below HB3.out (RStep.trans HO5.out HK5.out h6.out))))⟩
set_option maxRecDepth 100000 in
set_option maxHeartbeats 1000000 in
theorem scan_more_int (h : RiteP w B r sv fv nv m K) (x : Wd × Bool) (hd : m.st.done = 7) (he : m.eng = 5) (ht : m.thr ≤ 6) (hsl : m.st.said.length + 1 < m.thr) :
    Calls Tryz.prog 94 #[.pointer (some ⟨r, 0, none⟩), rpv x] w (RPost w B r K ((setSaid m x.1).hear)) := by
  have HRL := Lib.hid (fun b (e : K b) => (show b ≠ w.heap.size from Nat.ne_of_lt (h.low b e).2))
  replace HRL : Hid (∀ b, K b → b ≠ w.heap.size) := HRL
  have h1 := h.below (below_alloc (Below.refl _ _) (.cells #[.int .i64 x.1.slot, .int .i64 x.1.gen, .int .i64 x.1.tag, .int .i64 x.1.num, .bool x.1.mark, .bool x.2] 63))
  have HX := Lib.hid (box_rep w x)
  have HB0 := Lib.hid (below_alloc (Below.refl w.heap.size w) (.cells #[.int .i64 x.1.slot, .int .i64 x.1.gen, .int .i64 x.1.tag, .int .i64 x.1.num, .bool x.1.mark, .bool x.2] 63))
  have HR := Lib.hid h1
  clear h h1
  unfold rpv
  go_enter Tryz.func94, Tryz.ntmps94
  go_upto_region 1 with fail
  generalize w.alloc (.cells #[.int .i64 x.1.slot, .int .i64 x.1.gen, .int .i64 x.1.tag, .int .i64 x.1.num, .bool x.1.mark, .bool x.2] 63) = W at HR HX HB0 ⊢
  have hX := HX.out
  have hzx := BlkW.lt hX
  have hrx : w.heap.size ≠ r := fun e => BlkW.ne_ hX HR.out.at_ (by decide) e
  have hkx : ¬ K w.heap.size := fun e => HRL.out _ e rfl
  obtain ⟨b0, b1, b2, b3, b4, b5⟩ := rep6 hX
  have hz := BlkW.lt HR.out.at_
  have cd := HR.out.at_.done
  have ce := HR.out.at_.fix.1
  clear hX HX
  generalize w.heap.size = g at hzx hrx hkx b0 b1 b2 b3 b4 b5 ⊢
  have HEN := Lib.hid he
  have HT := Lib.hid ht
  rw [hd] at cd
  obtain ⟨i5, hi5, hz5, hs5, hy5⟩ := info_parts infoWd
  have hBz : B ≤ W.heap.size := Nat.le_of_lt (Nat.lt_of_le_of_lt (HR.out.low r HR.out.kr).1 (HR.out.low r HR.out.kr).2)
  have c50 := HR.out.at_.rows.1
  have hne := HR.out.ne.1
  obtain ⟨L, hL⟩ : ∃ L, L = m.st.said.length := ⟨_, rfl⟩
  have N1 := Lib.hid (show W.drew.ownsRow B 34 5 sv L (Sv.flat Sv.wc m.st.said) by rw [hL]; exact HR.out.said)
  have hLs : L ≤ 1000 := by omega
  have hsl' := hsl
  have HL := Lib.hid hL
  have HSL := Lib.hid hsl
  clear hd hL hsl he ht
  go_upto_region 14 with fail
  refine wp_region_noPanic ?_
  refine wp_region_held_drew (S := (fun w' => w'.cell? ⟨g, 0, none⟩ = some (.int .i64 x.1.slot) ∧ w'.cell? ⟨g, 1, none⟩ = some (.int .i64 x.1.gen) ∧ w'.cell? ⟨g, 2, none⟩ = some (.int .i64 x.1.tag) ∧ w'.cell? ⟨g, 3, none⟩ = some (.int .i64 x.1.num) ∧ w'.cell? ⟨g, 4, none⟩ = some (.bool x.1.mark))) (by kernel_rfl) ?_ (fun hHeld => ?_)
  · (try dsimp only)
    (first
      | go_keep
      | (go_split_ands
         (repeat' apply And.intro) <;> first | exact grown_cell hg1 hneg (by assumption) | (rw [World.cell?_setCell_far _ _ _ _ (fun e => hrx e.symm)]; assumption)))
  refine wpAnyH_take (i := 0) (v := ?_) rfl (by kernel_rfl) (by kernel_rfl) (by kernel_rfl) (fun _ _ _ h => h) (Or.inl ⟨by rfl, ?_⟩) (by assumption) ?_
  rotate_left
  · (intro w hSw; (try dsimp only at hSw); go_simp; (try with_reducible rfl))
  try simp only [Act.put, List.getElem_toArray, List.getElem_cons_succ, List.getElem_cons_zero, List.setIfInBounds_toArray, List.set_cons_zero, List.set_cons_succ]
  refine wpAnyH_take (i := 1) (v := ?_) rfl (by kernel_rfl) (by kernel_rfl) (by kernel_rfl) (fun _ _ _ h => h) (Or.inl ⟨by rfl, ?_⟩) (by assumption) ?_
  rotate_left
  · (intro w hSw; (try dsimp only at hSw); go_simp; (try with_reducible rfl))
  try simp only [Act.put, List.getElem_toArray, List.getElem_cons_succ, List.getElem_cons_zero, List.setIfInBounds_toArray, List.set_cons_zero, List.set_cons_succ]
  refine wpAnyH_take (i := 2) (v := ?_) rfl (by kernel_rfl) (by kernel_rfl) (by kernel_rfl) (fun _ _ _ h => h) (Or.inl ⟨by rfl, ?_⟩) (by assumption) ?_
  rotate_left
  · (intro w hSw; (try dsimp only at hSw); go_simp; (try with_reducible rfl))
  try simp only [Act.put, List.getElem_toArray, List.getElem_cons_succ, List.getElem_cons_zero, List.setIfInBounds_toArray, List.set_cons_zero, List.set_cons_succ]
  refine wpAnyH_take (i := 3) (v := ?_) rfl (by kernel_rfl) (by kernel_rfl) (by kernel_rfl) (fun _ _ _ h => h) (Or.inl ⟨by rfl, ?_⟩) (by assumption) ?_
  rotate_left
  · (intro w hSw; (try dsimp only at hSw); go_simp; (try with_reducible rfl))
  try simp only [Act.put, List.getElem_toArray, List.getElem_cons_succ, List.getElem_cons_zero, List.setIfInBounds_toArray, List.set_cons_zero, List.set_cons_succ]
  refine wpAnyH_take (i := 4) (v := ?_) rfl (by kernel_rfl) (by kernel_rfl) (by kernel_rfl) (fun _ _ _ h => h) (Or.inl ⟨by rfl, ?_⟩) (by assumption) ?_
  rotate_left
  · (intro w hSw; (try dsimp only at hSw); go_simp; (try with_reducible rfl))
  try simp only [Act.put, List.getElem_toArray, List.getElem_cons_succ, List.getElem_cons_zero, List.setIfInBounds_toArray, List.set_cons_zero, List.set_cons_succ]
  refine wpAnyH_take (i := 6) (v := ?_) rfl (by kernel_rfl) (by kernel_rfl) (by kernel_rfl) (fun _ _ _ h => h) (Or.inl ⟨by rfl, ?_⟩) (by assumption) ?_
  rotate_left
  · (intro w hSw; (try dsimp only at hSw); go_simp; (try with_reducible rfl))
  try simp only [Act.put, List.getElem_toArray, List.getElem_cons_succ, List.getElem_cons_zero, List.setIfInBounds_toArray, List.set_cons_zero, List.set_cons_succ]
  refine wpAnyH_take (i := 7) (v := ?_) rfl (by kernel_rfl) (by kernel_rfl) (by kernel_rfl) (fun _ _ _ h => h) (Or.inl ⟨by rfl, ?_⟩) (by assumption) ?_
  rotate_left
  · (intro w hSw; (try dsimp only at hSw); go_simp; (try with_reducible rfl))
  try simp only [Act.put, List.getElem_toArray, List.getElem_cons_succ, List.getElem_cons_zero, List.setIfInBounds_toArray, List.set_cons_zero, List.set_cons_succ]
  refine wpAnyH_ready (rs := [5, 8]) (by kernel_rfl) (by simp) ?_
  refine AllReadyH.cons rfl (fun K2 hK => ?_) (AllReadyH.cons rfl (fun K2 hK => ?_) (AllReadyH.nil))
  rw [if_pos (by rfl)]
  go_simp
  refine hK.out _ _ ?_ (fun hHeld => ?_)
  · (try dsimp only)
    (first
      | go_keep
      | (go_split_ands
         (repeat' apply And.intro) <;> first | exact grown_cell hg1 hneg (by assumption) | (rw [World.cell?_setCell_far _ _ _ _ (fun e => hrx e.symm)]; assumption)))
  clear hK K2
  try simp only [Act.put, List.getElem_toArray, List.getElem_cons_succ, List.getElem_cons_zero, List.setIfInBounds_toArray, List.set_cons_zero, List.set_cons_succ]
  refine wpAnyH_ready (rs := [8]) (by kernel_rfl) (by simp) ?_
  refine AllReadyH.cons rfl (fun K2 hK => ?_) AllReadyH.nil
  rw [if_pos (by rfl)]
  go_simp
  refine hK.out _ _ ?_ (fun hHeld => ?_)
  · (try dsimp only)
    (first
      | go_keep
      | (go_split_ands
         (repeat' apply And.intro) <;> first | exact grown_cell hg1 hneg (by assumption) | (rw [World.cell?_setCell_far _ _ _ _ (fun e => hrx e.symm)]; assumption)))
  clear hK K2
  try simp only [Act.put, List.getElem_toArray, List.getElem_cons_succ, List.getElem_cons_zero, List.setIfInBounds_toArray, List.set_cons_zero, List.set_cons_succ]
  refine wpAnyH_ready (rs := [9]) (by kernel_rfl) (by simp) ?_
  refine AllReadyH.cons rfl (fun K2 hK => ?_) AllReadyH.nil
  (first
    | ((refine Sv.step_append_row _ Sv.wc_len (by decide) Sv.wc_one rfl (.tmp 52) (.tmp 55) 71 rfl B 34 i5 _ 40 Tryz.underlying71 hi5 hz5 hs5 hy5 rfl sv L _ (by rfl) (N1.out.alloc _) _ [x.1] (by rfl) (.inr ⟨W.heap.size, 0, 1, rfl, by simp, Nat.le_refl 1, fun i hi j v hv => ?ro⟩) (by simp only [maxLen]; simp; omega) (by simp; omega) (by simp; omega) ?_); (case ro => (obtain rfl : i = 0 := by simp at hi; omega); rw [show 0 + 0 * 5 + j = j by omega]; exact ((BlkW.new _ _ _).cell j).trans (by rw [List.getElem?_toArray]; exact hv)); rintro v1 u1 ⟨ho1, hg1, ha1, hl1⟩; obtain ⟨ao1, cp1, ev1⟩ := Sv.own_slice ho1; subst ev1; have hb2 := below_alloc (show Below W.heap.size W W.drew from (Below.refl _ _).drew) (.cells #[.int .i64 x.1.slot, .int .i64 x.1.gen, .int .i64 x.1.tag, .int .i64 x.1.num, .bool x.1.mark] 34); have HPX := HR.out.below hb2; have RX := HPX.at_; have RU := RtAt.off RX ((Off.refl (fun j => sv.ownBlock = some j) _).grown hg1 (fun k e => .inl e)) hne; have u50 := RU.rows.1; have uf := RU.frozen 50; have hz3 := BlkW.lt RU; have hneg : sv.ownBlock ≠ some g := fun e => hkx (HR.out.ks g e); replace RU := Lib.hid RU; replace HPX := Lib.hid HPX; replace RX := Lib.hid RX; replace hb2 := Lib.hid hb2))
  refine hK.out _ _ ?_ (fun hHeld => ?_)
  · (try dsimp only)
    (first
      | go_keep
      | (go_split_ands
         (repeat' apply And.intro) <;> first | exact grown_cell hg1 hneg (by assumption) | (rw [World.cell?_setCell_far _ _ _ _ (fun e => hrx e.symm)]; assumption)))
  clear hK K2
  try simp only [Act.put, List.getElem_toArray, List.getElem_cons_succ, List.getElem_cons_zero, List.setIfInBounds_toArray, List.set_cons_zero, List.set_cons_succ]
  refine wpAnyH_take (i := 10) (v := ?_) rfl (by kernel_rfl) (by kernel_rfl) (by kernel_rfl) (fun _ _ _ h => h) (Or.inl ⟨by rfl, ?_⟩) (by assumption) ?_
  rotate_left
  · (intro w hSw; (try dsimp only at hSw); go_simp; (try with_reducible rfl))
  try simp only [Act.put, List.getElem_toArray, List.getElem_cons_succ, List.getElem_cons_zero, List.setIfInBounds_toArray, List.set_cons_zero, List.set_cons_succ]
  refine wpAnyH_take (i := 11) (v := ?_) rfl (by kernel_rfl) (by kernel_rfl) (by kernel_rfl) (fun _ _ _ h => h) (Or.inl ⟨by rfl, ?_⟩) (by assumption) ?_
  rotate_left
  · (intro w hSw; (try dsimp only at hSw); go_simp; (try with_reducible rfl))
  try simp only [Act.put, List.getElem_toArray, List.getElem_cons_succ, List.getElem_cons_zero, List.setIfInBounds_toArray, List.set_cons_zero, List.set_cons_succ]
  refine wpAnyH_take (i := 12) (v := ?_) rfl (by kernel_rfl) (by kernel_rfl) (by kernel_rfl) (fun _ _ _ h => h) (Or.inl ⟨by rfl, ?_⟩) (by assumption) ?_
  rotate_left
  · (intro w hSw; (try dsimp only at hSw); go_simp; (try with_reducible rfl))
  try simp only [Act.put, List.getElem_toArray, List.getElem_cons_succ, List.getElem_cons_zero, List.setIfInBounds_toArray, List.set_cons_zero, List.set_cons_succ]
  refine wpAnyH_ready (rs := [13]) (by kernel_rfl) (by simp) ?_
  refine AllReadyH.cons rfl (fun K2 hK => ?_) AllReadyH.nil
  rw [if_pos (by rfl)]
  go_simp
  refine hK.out _ _ ?_ (fun hHeld => ?_)
  · (try dsimp only)
    (first
      | go_keep
      | (go_split_ands
         (repeat' apply And.intro) <;> first | exact grown_cell hg1 hneg (by assumption) | (rw [World.cell?_setCell_far _ _ _ _ (fun e => hrx e.symm)]; assumption)))
  clear hK K2
  try simp only [Act.put, List.getElem_toArray, List.getElem_cons_succ, List.getElem_cons_zero, List.setIfInBounds_toArray, List.set_cons_zero, List.set_cons_succ]
  refine wpAnyH_done (by kernel_rfl) ?_ _
  refine NoPanic.normal ?_
  rotate_left
  rw [if_pos (by rfl)]
  go_simp
  refine hK.out _ _ ?_ (fun hHeld => ?_)
  · (try dsimp only)
    (first
      | go_keep
      | (go_split_ands
         (repeat' apply And.intro) <;> first | exact grown_cell hg1 hneg (by assumption) | (rw [World.cell?_setCell_far _ _ _ _ (fun e => hrx e.symm)]; assumption)))
  clear hK K2
  try simp only [Act.put, List.getElem_toArray, List.getElem_cons_succ, List.getElem_cons_zero, List.setIfInBounds_toArray, List.set_cons_zero, List.set_cons_succ]
  refine wpAnyH_ready (rs := [5]) (by kernel_rfl) (by simp) ?_
  refine AllReadyH.cons rfl (fun K2 hK => ?_) AllReadyH.nil
  rw [if_pos (by rfl)]
  go_simp
  refine hK.out _ _ ?_ (fun hHeld => ?_)
  · (try dsimp only)
    (first
      | go_keep
      | (go_split_ands
         (repeat' apply And.intro) <;> first | exact grown_cell hg1 hneg (by assumption) | (rw [World.cell?_setCell_far _ _ _ _ (fun e => hrx e.symm)]; assumption)))
  clear hK K2
  try simp only [Act.put, List.getElem_toArray, List.getElem_cons_succ, List.getElem_cons_zero, List.setIfInBounds_toArray, List.set_cons_zero, List.set_cons_succ]
  refine wpAnyH_ready (rs := [9]) (by kernel_rfl) (by simp) ?_
  refine AllReadyH.cons rfl (fun K2 hK => ?_) AllReadyH.nil
  (first
    | ((refine Sv.step_append_row _ Sv.wc_len (by decide) Sv.wc_one rfl (.tmp 52) (.tmp 55) 71 rfl B 34 i5 _ 40 Tryz.underlying71 hi5 hz5 hs5 hy5 rfl sv L _ (by rfl) (N1.out.alloc _) _ [x.1] (by rfl) (.inr ⟨W.heap.size, 0, 1, rfl, by simp, Nat.le_refl 1, fun i hi j v hv => ?ro⟩) (by simp only [maxLen]; simp; omega) (by simp; omega) (by simp; omega) ?_); (case ro => (obtain rfl : i = 0 := by simp at hi; omega); rw [show 0 + 0 * 5 + j = j by omega]; exact ((BlkW.new _ _ _).cell j).trans (by rw [List.getElem?_toArray]; exact hv)); rintro v1 u1 ⟨ho1, hg1, ha1, hl1⟩; obtain ⟨ao1, cp1, ev1⟩ := Sv.own_slice ho1; subst ev1; have hb2 := below_alloc (show Below W.heap.size W W.drew from (Below.refl _ _).drew) (.cells #[.int .i64 x.1.slot, .int .i64 x.1.gen, .int .i64 x.1.tag, .int .i64 x.1.num, .bool x.1.mark] 34); have HPX := HR.out.below hb2; have RX := HPX.at_; have RU := RtAt.off RX ((Off.refl (fun j => sv.ownBlock = some j) _).grown hg1 (fun k e => .inl e)) hne; have u50 := RU.rows.1; have uf := RU.frozen 50; have hz3 := BlkW.lt RU; have hneg : sv.ownBlock ≠ some g := fun e => hkx (HR.out.ks g e); replace RU := Lib.hid RU; replace HPX := Lib.hid HPX; replace RX := Lib.hid RX; replace hb2 := Lib.hid hb2))
  refine hK.out _ _ ?_ (fun hHeld => ?_)
  · (try dsimp only)
    (first
      | go_keep
      | (go_split_ands
         (repeat' apply And.intro) <;> first | exact grown_cell hg1 hneg (by assumption) | (rw [World.cell?_setCell_far _ _ _ _ (fun e => hrx e.symm)]; assumption)))
  clear hK K2
  try simp only [Act.put, List.getElem_toArray, List.getElem_cons_succ, List.getElem_cons_zero, List.setIfInBounds_toArray, List.set_cons_zero, List.set_cons_succ]
  refine wpAnyH_take (i := 10) (v := ?_) rfl (by kernel_rfl) (by kernel_rfl) (by kernel_rfl) (fun _ _ _ h => h) (Or.inl ⟨by rfl, ?_⟩) (by assumption) ?_
  rotate_left
  · (intro w hSw; (try dsimp only at hSw); go_simp; (try with_reducible rfl))
  try simp only [Act.put, List.getElem_toArray, List.getElem_cons_succ, List.getElem_cons_zero, List.setIfInBounds_toArray, List.set_cons_zero, List.set_cons_succ]
  refine wpAnyH_take (i := 11) (v := ?_) rfl (by kernel_rfl) (by kernel_rfl) (by kernel_rfl) (fun _ _ _ h => h) (Or.inl ⟨by rfl, ?_⟩) (by assumption) ?_
  rotate_left
  · (intro w hSw; (try dsimp only at hSw); go_simp; (try with_reducible rfl))
  try simp only [Act.put, List.getElem_toArray, List.getElem_cons_succ, List.getElem_cons_zero, List.setIfInBounds_toArray, List.set_cons_zero, List.set_cons_succ]
  refine wpAnyH_take (i := 12) (v := ?_) rfl (by kernel_rfl) (by kernel_rfl) (by kernel_rfl) (fun _ _ _ h => h) (Or.inl ⟨by rfl, ?_⟩) (by assumption) ?_
  rotate_left
  · (intro w hSw; (try dsimp only at hSw); go_simp; (try with_reducible rfl))
  try simp only [Act.put, List.getElem_toArray, List.getElem_cons_succ, List.getElem_cons_zero, List.setIfInBounds_toArray, List.set_cons_zero, List.set_cons_succ]
  refine wpAnyH_ready (rs := [13]) (by kernel_rfl) (by simp) ?_
  refine AllReadyH.cons rfl (fun K2 hK => ?_) AllReadyH.nil
  rw [if_pos (by rfl)]
  go_simp
  refine hK.out _ _ ?_ (fun hHeld => ?_)
  · (try dsimp only)
    (first
      | go_keep
      | (go_split_ands
         (repeat' apply And.intro) <;> first | exact grown_cell hg1 hneg (by assumption) | (rw [World.cell?_setCell_far _ _ _ _ (fun e => hrx e.symm)]; assumption)))
  clear hK K2
  try simp only [Act.put, List.getElem_toArray, List.getElem_cons_succ, List.getElem_cons_zero, List.setIfInBounds_toArray, List.set_cons_zero, List.set_cons_succ]
  refine wpAnyH_done (by kernel_rfl) ?_ _
  refine NoPanic.normal ?_
  all_goals
    obtain ⟨K1, hp1, ho2, hk1⟩ := HPX.out.heardP hg1 x.1 (by rw [← HL.out]; exact ho1) ha1
    have HB2 := Lib.hid (below_trans HB0.out hb2.out)
    have HP1 := Lib.hid (show RiteP _ B r _ fv nv (setSaid m x.1) K1 from hp1)
    have HO2 := Lib.hid ho2
    have HK1 := Lib.hid hk1
    have d3 := off_cell HO2.out (by have := hb2.out.size; omega) hkx (keep_cell hb2.out b3)
    have hg2 : g < (u1.setCell ⟨r, 50, none⟩ (.slice ao1 (L + 1) cp1)).heap.size := Nat.lt_of_lt_of_le hzx (Nat.le_trans hb2.out.size HO2.out.size)
    clear hp1 ho2 hk1 ho1 hg1 ha1 hl1 u50 uf RU RX HPX hb2 N1 c50 hne hneg HR b0 b1 b2 b3 b4 b5
    generalize u1.setCell ⟨r, 50, none⟩ (.slice ao1 (L + 1) cp1) = W2 at HP1 HO2 d3 hg2 ⊢
    have hsl1 : (setSaid m x.1).st.said.length = L + 1 := by show (m.st.said ++ [x.1]).length = _; rw [List.length_append, HL.out]; rfl
    have hisl : (Value.slice ao1 (L + 1) cp1).isSliceOf (setSaid m x.1).st.said.length := ⟨ao1, cp1, by rw [hsl1]⟩
    have hw : (setSaid m x.1).saysWords = false := by unfold Rt.saysWords; rw [show (setSaid m x.1).eng = 5 from HEN.out]; rfl
    have hws : (setSaid m x.1).saysSpan = true := by unfold Rt.saysSpan; rw [show (setSaid m x.1).eng = 5 from HEN.out]; rfl
    have hlt : (setSaid m x.1).st.said.length < (setSaid m x.1).thr := by rw [hsl1, HL.out]; exact HSL.out
    have HH : Hid ((setSaid m x.1).hear = (setSaid m x.1).load (0, 0, (spanAt (setSaid m x.1).st.said.length : Nat)) 7) := Lib.hid (by unfold Rt.hear; rw [hw]; rfl)
    have HLI := Lib.hid (listen_span HP1.out.at_ hisl HT.out hw hws hlt)
    clear hlt hw hws hsl1 hisl
    go_wp2_with fail
    refine HLI.out.mono ?_
    rintro e w3 ⟨rfl, h1, h2⟩
    go_wp2
    first
      | go_end0
      | refine bodyPost_ret (results_none rfl _ _ _) rfl ?_
    rw [HH.out]
    exact ⟨rfl, Lib.hid (RStep.below HB2.out (RStep.trans HO2.out HK1.out (HP1.out.step_only h1.out h2.out (.inl ⟨rfl, rfl⟩) (.inl ⟨rfl, rfl⟩) rfl)))⟩
set_option maxRecDepth 100000 in
set_option maxHeartbeats 1000000 in
theorem scan_all_int (h : RiteP w B r sv fv nv m K) (x : Wd × Bool) (hd : m.st.done = 7) (he : m.eng = 5) (ht : m.thr ≤ 6) (hsl : m.st.said.length + 1 = m.thr) (hl : m.notes.length ≤ 200) (hF : FreeOk (setFree (setSaid m x.1) ((setSaid m x.1).loose x.1.num))) :
    Calls Tryz.prog 94 #[.pointer (some ⟨r, 0, none⟩), rpv x] w (RPost w B r K ((setSaid m x.1).free x.1.num)) := by
  have HRL := Lib.hid (fun b (e : K b) => (show b ≠ w.heap.size from Nat.ne_of_lt (h.low b e).2))
  replace HRL : Hid (∀ b, K b → b ≠ w.heap.size) := HRL
  have h1 := h.below (below_alloc (Below.refl _ _) (.cells #[.int .i64 x.1.slot, .int .i64 x.1.gen, .int .i64 x.1.tag, .int .i64 x.1.num, .bool x.1.mark, .bool x.2] 63))
  have HX := Lib.hid (box_rep w x)
  have HB0 := Lib.hid (below_alloc (Below.refl w.heap.size w) (.cells #[.int .i64 x.1.slot, .int .i64 x.1.gen, .int .i64 x.1.tag, .int .i64 x.1.num, .bool x.1.mark, .bool x.2] 63))
  have HR := Lib.hid h1
  clear h h1
  unfold rpv
  go_enter Tryz.func94, Tryz.ntmps94
  go_upto_region 1 with fail
  generalize w.alloc (.cells #[.int .i64 x.1.slot, .int .i64 x.1.gen, .int .i64 x.1.tag, .int .i64 x.1.num, .bool x.1.mark, .bool x.2] 63) = W at HR HX HB0 ⊢
  have hX := HX.out
  have hzx := BlkW.lt hX
  have hrx : w.heap.size ≠ r := fun e => BlkW.ne_ hX HR.out.at_ (by decide) e
  have hkx : ¬ K w.heap.size := fun e => HRL.out _ e rfl
  obtain ⟨b0, b1, b2, b3, b4, b5⟩ := rep6 hX
  have hz := BlkW.lt HR.out.at_
  have cd := HR.out.at_.done
  have ce := HR.out.at_.fix.1
  clear hX HX
  generalize w.heap.size = g at hzx hrx hkx b0 b1 b2 b3 b4 b5 ⊢
  have HEN := Lib.hid he
  have HT := Lib.hid ht
  have HF := Lib.hid hF
  have HLN := Lib.hid hl
  rw [hd] at cd
  obtain ⟨i5, hi5, hz5, hs5, hy5⟩ := info_parts infoWd
  have hBz : B ≤ W.heap.size := Nat.le_of_lt (Nat.lt_of_le_of_lt (HR.out.low r HR.out.kr).1 (HR.out.low r HR.out.kr).2)
  have c50 := HR.out.at_.rows.1
  have hne := HR.out.ne.1
  obtain ⟨L, hL⟩ : ∃ L, L = m.st.said.length := ⟨_, rfl⟩
  have N1 := Lib.hid (show W.drew.ownsRow B 34 5 sv L (Sv.flat Sv.wc m.st.said) by rw [hL]; exact HR.out.said)
  have hLs : L ≤ 1000 := by omega
  have HL := Lib.hid hL
  have HSL := Lib.hid hsl
  clear hd hL hsl he ht hF hl
  go_upto_region 14 with fail
  refine wp_region_noPanic ?_
  refine wp_region_held_drew (S := (fun w' => w'.cell? ⟨g, 0, none⟩ = some (.int .i64 x.1.slot) ∧ w'.cell? ⟨g, 1, none⟩ = some (.int .i64 x.1.gen) ∧ w'.cell? ⟨g, 2, none⟩ = some (.int .i64 x.1.tag) ∧ w'.cell? ⟨g, 3, none⟩ = some (.int .i64 x.1.num) ∧ w'.cell? ⟨g, 4, none⟩ = some (.bool x.1.mark))) (by kernel_rfl) ?_ (fun hHeld => ?_)
  · (try dsimp only)
    (first
      | go_keep
      | (go_split_ands
         (repeat' apply And.intro) <;> first | exact grown_cell hg1 hneg (by assumption) | (rw [World.cell?_setCell_far _ _ _ _ (fun e => hrx e.symm)]; assumption)))
  refine wpAnyH_take (i := 0) (v := ?_) rfl (by kernel_rfl) (by kernel_rfl) (by kernel_rfl) (fun _ _ _ h => h) (Or.inl ⟨by rfl, ?_⟩) (by assumption) ?_
  rotate_left
  · (intro w hSw; (try dsimp only at hSw); go_simp; (try with_reducible rfl))
  try simp only [Act.put, List.getElem_toArray, List.getElem_cons_succ, List.getElem_cons_zero, List.setIfInBounds_toArray, List.set_cons_zero, List.set_cons_succ]
  refine wpAnyH_take (i := 1) (v := ?_) rfl (by kernel_rfl) (by kernel_rfl) (by kernel_rfl) (fun _ _ _ h => h) (Or.inl ⟨by rfl, ?_⟩) (by assumption) ?_
  rotate_left
  · (intro w hSw; (try dsimp only at hSw); go_simp; (try with_reducible rfl))
  try simp only [Act.put, List.getElem_toArray, List.getElem_cons_succ, List.getElem_cons_zero, List.setIfInBounds_toArray, List.set_cons_zero, List.set_cons_succ]
  refine wpAnyH_take (i := 2) (v := ?_) rfl (by kernel_rfl) (by kernel_rfl) (by kernel_rfl) (fun _ _ _ h => h) (Or.inl ⟨by rfl, ?_⟩) (by assumption) ?_
  rotate_left
  · (intro w hSw; (try dsimp only at hSw); go_simp; (try with_reducible rfl))
  try simp only [Act.put, List.getElem_toArray, List.getElem_cons_succ, List.getElem_cons_zero, List.setIfInBounds_toArray, List.set_cons_zero, List.set_cons_succ]
  refine wpAnyH_take (i := 3) (v := ?_) rfl (by kernel_rfl) (by kernel_rfl) (by kernel_rfl) (fun _ _ _ h => h) (Or.inl ⟨by rfl, ?_⟩) (by assumption) ?_
  rotate_left
  · (intro w hSw; (try dsimp only at hSw); go_simp; (try with_reducible rfl))
  try simp only [Act.put, List.getElem_toArray, List.getElem_cons_succ, List.getElem_cons_zero, List.setIfInBounds_toArray, List.set_cons_zero, List.set_cons_succ]
  refine wpAnyH_take (i := 4) (v := ?_) rfl (by kernel_rfl) (by kernel_rfl) (by kernel_rfl) (fun _ _ _ h => h) (Or.inl ⟨by rfl, ?_⟩) (by assumption) ?_
  rotate_left
  · (intro w hSw; (try dsimp only at hSw); go_simp; (try with_reducible rfl))
  try simp only [Act.put, List.getElem_toArray, List.getElem_cons_succ, List.getElem_cons_zero, List.setIfInBounds_toArray, List.set_cons_zero, List.set_cons_succ]
  refine wpAnyH_take (i := 6) (v := ?_) rfl (by kernel_rfl) (by kernel_rfl) (by kernel_rfl) (fun _ _ _ h => h) (Or.inl ⟨by rfl, ?_⟩) (by assumption) ?_
  rotate_left
  · (intro w hSw; (try dsimp only at hSw); go_simp; (try with_reducible rfl))
  try simp only [Act.put, List.getElem_toArray, List.getElem_cons_succ, List.getElem_cons_zero, List.setIfInBounds_toArray, List.set_cons_zero, List.set_cons_succ]
  refine wpAnyH_take (i := 7) (v := ?_) rfl (by kernel_rfl) (by kernel_rfl) (by kernel_rfl) (fun _ _ _ h => h) (Or.inl ⟨by rfl, ?_⟩) (by assumption) ?_
  rotate_left
  · (intro w hSw; (try dsimp only at hSw); go_simp; (try with_reducible rfl))
  try simp only [Act.put, List.getElem_toArray, List.getElem_cons_succ, List.getElem_cons_zero, List.setIfInBounds_toArray, List.set_cons_zero, List.set_cons_succ]
  refine wpAnyH_ready (rs := [5, 8]) (by kernel_rfl) (by simp) ?_
  refine AllReadyH.cons rfl (fun K2 hK => ?_) (AllReadyH.cons rfl (fun K2 hK => ?_) (AllReadyH.nil))
  rw [if_pos (by rfl)]
  go_simp
  refine hK.out _ _ ?_ (fun hHeld => ?_)
  · (try dsimp only)
    (first
      | go_keep
      | (go_split_ands
         (repeat' apply And.intro) <;> first | exact grown_cell hg1 hneg (by assumption) | (rw [World.cell?_setCell_far _ _ _ _ (fun e => hrx e.symm)]; assumption)))
  clear hK K2
  try simp only [Act.put, List.getElem_toArray, List.getElem_cons_succ, List.getElem_cons_zero, List.setIfInBounds_toArray, List.set_cons_zero, List.set_cons_succ]
  refine wpAnyH_ready (rs := [8]) (by kernel_rfl) (by simp) ?_
  refine AllReadyH.cons rfl (fun K2 hK => ?_) AllReadyH.nil
  rw [if_pos (by rfl)]
  go_simp
  refine hK.out _ _ ?_ (fun hHeld => ?_)
  · (try dsimp only)
    (first
      | go_keep
      | (go_split_ands
         (repeat' apply And.intro) <;> first | exact grown_cell hg1 hneg (by assumption) | (rw [World.cell?_setCell_far _ _ _ _ (fun e => hrx e.symm)]; assumption)))
  clear hK K2
  try simp only [Act.put, List.getElem_toArray, List.getElem_cons_succ, List.getElem_cons_zero, List.setIfInBounds_toArray, List.set_cons_zero, List.set_cons_succ]
  refine wpAnyH_ready (rs := [9]) (by kernel_rfl) (by simp) ?_
  refine AllReadyH.cons rfl (fun K2 hK => ?_) AllReadyH.nil
  (first
    | ((refine Sv.step_append_row _ Sv.wc_len (by decide) Sv.wc_one rfl (.tmp 52) (.tmp 55) 71 rfl B 34 i5 _ 40 Tryz.underlying71 hi5 hz5 hs5 hy5 rfl sv L _ (by rfl) (N1.out.alloc _) _ [x.1] (by rfl) (.inr ⟨W.heap.size, 0, 1, rfl, by simp, Nat.le_refl 1, fun i hi j v hv => ?ro⟩) (by simp only [maxLen]; simp; omega) (by simp; omega) (by simp; omega) ?_); (case ro => (obtain rfl : i = 0 := by simp at hi; omega); rw [show 0 + 0 * 5 + j = j by omega]; exact ((BlkW.new _ _ _).cell j).trans (by rw [List.getElem?_toArray]; exact hv)); rintro v1 u1 ⟨ho1, hg1, ha1, hl1⟩; obtain ⟨ao1, cp1, ev1⟩ := Sv.own_slice ho1; subst ev1; have hb2 := below_alloc (show Below W.heap.size W W.drew from (Below.refl _ _).drew) (.cells #[.int .i64 x.1.slot, .int .i64 x.1.gen, .int .i64 x.1.tag, .int .i64 x.1.num, .bool x.1.mark] 34); have HPX := HR.out.below hb2; have RX := HPX.at_; have RU := RtAt.off RX ((Off.refl (fun j => sv.ownBlock = some j) _).grown hg1 (fun k e => .inl e)) hne; have u50 := RU.rows.1; have uf := RU.frozen 50; have hz3 := BlkW.lt RU; have hneg : sv.ownBlock ≠ some g := fun e => hkx (HR.out.ks g e); replace RU := Lib.hid RU; replace HPX := Lib.hid HPX; replace RX := Lib.hid RX; replace hb2 := Lib.hid hb2))
  refine hK.out _ _ ?_ (fun hHeld => ?_)
  · (try dsimp only)
    (first
      | go_keep
      | (go_split_ands
         (repeat' apply And.intro) <;> first | exact grown_cell hg1 hneg (by assumption) | (rw [World.cell?_setCell_far _ _ _ _ (fun e => hrx e.symm)]; assumption)))
  clear hK K2
  try simp only [Act.put, List.getElem_toArray, List.getElem_cons_succ, List.getElem_cons_zero, List.setIfInBounds_toArray, List.set_cons_zero, List.set_cons_succ]
  refine wpAnyH_take (i := 10) (v := ?_) rfl (by kernel_rfl) (by kernel_rfl) (by kernel_rfl) (fun _ _ _ h => h) (Or.inl ⟨by rfl, ?_⟩) (by assumption) ?_
  rotate_left
  · (intro w hSw; (try dsimp only at hSw); go_simp; (try with_reducible rfl))
  try simp only [Act.put, List.getElem_toArray, List.getElem_cons_succ, List.getElem_cons_zero, List.setIfInBounds_toArray, List.set_cons_zero, List.set_cons_succ]
  refine wpAnyH_take (i := 11) (v := ?_) rfl (by kernel_rfl) (by kernel_rfl) (by kernel_rfl) (fun _ _ _ h => h) (Or.inl ⟨by rfl, ?_⟩) (by assumption) ?_
  rotate_left
  · (intro w hSw; (try dsimp only at hSw); go_simp; (try with_reducible rfl))
  try simp only [Act.put, List.getElem_toArray, List.getElem_cons_succ, List.getElem_cons_zero, List.setIfInBounds_toArray, List.set_cons_zero, List.set_cons_succ]
  refine wpAnyH_take (i := 12) (v := ?_) rfl (by kernel_rfl) (by kernel_rfl) (by kernel_rfl) (fun _ _ _ h => h) (Or.inl ⟨by rfl, ?_⟩) (by assumption) ?_
  rotate_left
  · (intro w hSw; (try dsimp only at hSw); go_simp; (try with_reducible rfl))
  try simp only [Act.put, List.getElem_toArray, List.getElem_cons_succ, List.getElem_cons_zero, List.setIfInBounds_toArray, List.set_cons_zero, List.set_cons_succ]
  refine wpAnyH_ready (rs := [13]) (by kernel_rfl) (by simp) ?_
  refine AllReadyH.cons rfl (fun K2 hK => ?_) AllReadyH.nil
  rw [if_pos (by rfl)]
  go_simp
  refine hK.out _ _ ?_ (fun hHeld => ?_)
  · (try dsimp only)
    (first
      | go_keep
      | (go_split_ands
         (repeat' apply And.intro) <;> first | exact grown_cell hg1 hneg (by assumption) | (rw [World.cell?_setCell_far _ _ _ _ (fun e => hrx e.symm)]; assumption)))
  clear hK K2
  try simp only [Act.put, List.getElem_toArray, List.getElem_cons_succ, List.getElem_cons_zero, List.setIfInBounds_toArray, List.set_cons_zero, List.set_cons_succ]
  refine wpAnyH_done (by kernel_rfl) ?_ _
  refine NoPanic.normal ?_
  rotate_left
  rw [if_pos (by rfl)]
  go_simp
  refine hK.out _ _ ?_ (fun hHeld => ?_)
  · (try dsimp only)
    (first
      | go_keep
      | (go_split_ands
         (repeat' apply And.intro) <;> first | exact grown_cell hg1 hneg (by assumption) | (rw [World.cell?_setCell_far _ _ _ _ (fun e => hrx e.symm)]; assumption)))
  clear hK K2
  try simp only [Act.put, List.getElem_toArray, List.getElem_cons_succ, List.getElem_cons_zero, List.setIfInBounds_toArray, List.set_cons_zero, List.set_cons_succ]
  refine wpAnyH_ready (rs := [5]) (by kernel_rfl) (by simp) ?_
  refine AllReadyH.cons rfl (fun K2 hK => ?_) AllReadyH.nil
  rw [if_pos (by rfl)]
  go_simp
  refine hK.out _ _ ?_ (fun hHeld => ?_)
  · (try dsimp only)
    (first
      | go_keep
      | (go_split_ands
         (repeat' apply And.intro) <;> first | exact grown_cell hg1 hneg (by assumption) | (rw [World.cell?_setCell_far _ _ _ _ (fun e => hrx e.symm)]; assumption)))
  clear hK K2
  try simp only [Act.put, List.getElem_toArray, List.getElem_cons_succ, List.getElem_cons_zero, List.setIfInBounds_toArray, List.set_cons_zero, List.set_cons_succ]
  refine wpAnyH_ready (rs := [9]) (by kernel_rfl) (by simp) ?_
  refine AllReadyH.cons rfl (fun K2 hK => ?_) AllReadyH.nil
  (first
    | ((refine Sv.step_append_row _ Sv.wc_len (by decide) Sv.wc_one rfl (.tmp 52) (.tmp 55) 71 rfl B 34 i5 _ 40 Tryz.underlying71 hi5 hz5 hs5 hy5 rfl sv L _ (by rfl) (N1.out.alloc _) _ [x.1] (by rfl) (.inr ⟨W.heap.size, 0, 1, rfl, by simp, Nat.le_refl 1, fun i hi j v hv => ?ro⟩) (by simp only [maxLen]; simp; omega) (by simp; omega) (by simp; omega) ?_); (case ro => (obtain rfl : i = 0 := by simp at hi; omega); rw [show 0 + 0 * 5 + j = j by omega]; exact ((BlkW.new _ _ _).cell j).trans (by rw [List.getElem?_toArray]; exact hv)); rintro v1 u1 ⟨ho1, hg1, ha1, hl1⟩; obtain ⟨ao1, cp1, ev1⟩ := Sv.own_slice ho1; subst ev1; have hb2 := below_alloc (show Below W.heap.size W W.drew from (Below.refl _ _).drew) (.cells #[.int .i64 x.1.slot, .int .i64 x.1.gen, .int .i64 x.1.tag, .int .i64 x.1.num, .bool x.1.mark] 34); have HPX := HR.out.below hb2; have RX := HPX.at_; have RU := RtAt.off RX ((Off.refl (fun j => sv.ownBlock = some j) _).grown hg1 (fun k e => .inl e)) hne; have u50 := RU.rows.1; have uf := RU.frozen 50; have hz3 := BlkW.lt RU; have hneg : sv.ownBlock ≠ some g := fun e => hkx (HR.out.ks g e); replace RU := Lib.hid RU; replace HPX := Lib.hid HPX; replace RX := Lib.hid RX; replace hb2 := Lib.hid hb2))
  refine hK.out _ _ ?_ (fun hHeld => ?_)
  · (try dsimp only)
    (first
      | go_keep
      | (go_split_ands
         (repeat' apply And.intro) <;> first | exact grown_cell hg1 hneg (by assumption) | (rw [World.cell?_setCell_far _ _ _ _ (fun e => hrx e.symm)]; assumption)))
  clear hK K2
  try simp only [Act.put, List.getElem_toArray, List.getElem_cons_succ, List.getElem_cons_zero, List.setIfInBounds_toArray, List.set_cons_zero, List.set_cons_succ]
  refine wpAnyH_take (i := 10) (v := ?_) rfl (by kernel_rfl) (by kernel_rfl) (by kernel_rfl) (fun _ _ _ h => h) (Or.inl ⟨by rfl, ?_⟩) (by assumption) ?_
  rotate_left
  · (intro w hSw; (try dsimp only at hSw); go_simp; (try with_reducible rfl))
  try simp only [Act.put, List.getElem_toArray, List.getElem_cons_succ, List.getElem_cons_zero, List.setIfInBounds_toArray, List.set_cons_zero, List.set_cons_succ]
  refine wpAnyH_take (i := 11) (v := ?_) rfl (by kernel_rfl) (by kernel_rfl) (by kernel_rfl) (fun _ _ _ h => h) (Or.inl ⟨by rfl, ?_⟩) (by assumption) ?_
  rotate_left
  · (intro w hSw; (try dsimp only at hSw); go_simp; (try with_reducible rfl))
  try simp only [Act.put, List.getElem_toArray, List.getElem_cons_succ, List.getElem_cons_zero, List.setIfInBounds_toArray, List.set_cons_zero, List.set_cons_succ]
  refine wpAnyH_take (i := 12) (v := ?_) rfl (by kernel_rfl) (by kernel_rfl) (by kernel_rfl) (fun _ _ _ h => h) (Or.inl ⟨by rfl, ?_⟩) (by assumption) ?_
  rotate_left
  · (intro w hSw; (try dsimp only at hSw); go_simp; (try with_reducible rfl))
  try simp only [Act.put, List.getElem_toArray, List.getElem_cons_succ, List.getElem_cons_zero, List.setIfInBounds_toArray, List.set_cons_zero, List.set_cons_succ]
  refine wpAnyH_ready (rs := [13]) (by kernel_rfl) (by simp) ?_
  refine AllReadyH.cons rfl (fun K2 hK => ?_) AllReadyH.nil
  rw [if_pos (by rfl)]
  go_simp
  refine hK.out _ _ ?_ (fun hHeld => ?_)
  · (try dsimp only)
    (first
      | go_keep
      | (go_split_ands
         (repeat' apply And.intro) <;> first | exact grown_cell hg1 hneg (by assumption) | (rw [World.cell?_setCell_far _ _ _ _ (fun e => hrx e.symm)]; assumption)))
  clear hK K2
  try simp only [Act.put, List.getElem_toArray, List.getElem_cons_succ, List.getElem_cons_zero, List.setIfInBounds_toArray, List.set_cons_zero, List.set_cons_succ]
  refine wpAnyH_done (by kernel_rfl) ?_ _
  refine NoPanic.normal ?_
  all_goals
    obtain ⟨K1, hp1, ho2, hk1⟩ := HPX.out.heardP hg1 x.1 (by rw [← HL.out]; exact ho1) ha1
    have HB2 := Lib.hid (below_trans HB0.out hb2.out)
    have HP1 := Lib.hid (show RiteP _ B r _ fv nv (setSaid m x.1) K1 from hp1)
    have HO2 := Lib.hid ho2
    have HK1 := Lib.hid hk1
    have d3 := off_cell HO2.out (by have := hb2.out.size; omega) hkx (keep_cell hb2.out b3)
    have hg2 : g < (u1.setCell ⟨r, 50, none⟩ (.slice ao1 (L + 1) cp1)).heap.size := Nat.lt_of_lt_of_le hzx (Nat.le_trans hb2.out.size HO2.out.size)
    clear hp1 ho2 hk1 ho1 hg1 ha1 hl1 u50 uf RU RX HPX hb2 N1 c50 hne hneg HR b0 b1 b2 b3 b4 b5
    generalize u1.setCell ⟨r, 50, none⟩ (.slice ao1 (L + 1) cp1) = W2 at HP1 HO2 d3 hg2 ⊢
    have hsl1 : (setSaid m x.1).st.said.length = L + 1 := by show (m.st.said ++ [x.1]).length = _; rw [List.length_append, HL.out]; rfl
    have hisl : (Value.slice ao1 (L + 1) cp1).isSliceOf (setSaid m x.1).st.said.length := ⟨ao1, cp1, by rw [hsl1]⟩
    have hw : (setSaid m x.1).saysWords = false := by unfold Rt.saysWords; rw [show (setSaid m x.1).eng = 5 from HEN.out]; rfl
    have hws : (setSaid m x.1).saysSpan = true := by unfold Rt.saysSpan; rw [show (setSaid m x.1).eng = 5 from HEN.out]; rfl
    have hlt : ¬ (setSaid m x.1).st.said.length < (setSaid m x.1).thr := by rw [hsl1, HL.out]; have := HSL.out; show ¬ _ < m.thr; omega
    have HLI := Lib.hid (listen_spanless HP1.out.at_ hisl HT.out hw hws hlt)
    have HLS := Lib.hid hsl1
    have c53 := HP1.out.at_.fix.1
    rw [show (setSaid m x.1).eng = 5 from HEN.out] at c53
    have hz2 := BlkW.lt HP1.out.at_
    clear hlt hw hws hsl1 hisl
    go_wp2_with fail
    refine HLI.out.mono ?_
    rintro e w3 ⟨rfl, rfl⟩
    go_upto_region 16 with fail
    have y53 : ∀ d os, (grow (redrawn W2 d) os).cell? ⟨r, 53, none⟩ = some (.int .i64 5) := cell_regrown c53
    refine wp_region_quiet_below (by kernel_rfl) (by kernel_rfl) ?_
    repeat (go_big_quiet_step (fail))
    refine wpQuiet_nil ?_
    intro _ hw'
    obtain ⟨⟨dq, osq⟩, hw''⟩ := hw'
    subst hw''
    have hb3 : Below W2.heap.size W2 (grow (redrawn W2 dq) osq) := below_regrown W2 dq osq
    generalize grow (redrawn W2 dq) osq = W3 at hb3 ⊢
    have HP3 := Lib.hid (HP1.out.below hb3)
    have HB3 := Lib.hid hb3
    have e53 := HP3.out.at_.fix.1
    rw [show (setSaid m x.1).eng = 5 from HEN.out] at e53
    have e3 := keep_cell hb3 d3
    have hz3 := BlkW.lt HP3.out.at_
    have hg3 := Nat.lt_of_lt_of_le hg2 hb3.size
    have HLO := Lib.hid (loose_int HP3.out HEN.out HLN.out (by rw [HLS.out]; have := HSL.out; have := HT.out; have := HL.out; omega) x.1.num)
    clear y53 c53 d3 hb3 hg2 hz2
    go_wp2_with fail
    refine HLO.out.mono ?_
    rintro e w4 ⟨a, rfl, ra, hb4⟩
    obtain ⟨ao4, cp4, ev4⟩ := Sv.own_slice ra.out
    subst ev4
    have RW4 := RtAt.below HP3.out.at_ hb4.out
    have n51 := RW4.rows.2.1
    have f51 := RW4.frozen 51
    have hz4 := BlkW.lt RW4
    replace RW4 := Lib.hid RW4
    obtain ⟨K5, hp5, ho5, hk5⟩ := HP3.out.loosed hb4.out (show w4.ownsRow W3.heap.size 74 7 _ ((setSaid m x.1).loose x.1.num).length (Sv.flat Sv.nc ((setSaid m x.1).loose x.1.num)) from ra.out)
    have HP5 := Lib.hid hp5
    have HO5 := Lib.hid ho5
    have HK5 := Lib.hid hk5
    clear hp5 ho5 hk5
    have HREL := Lib.hid (release_any HP5.out (by show m.notes.length ≤ 1000; have := HLN.out; omega) HF.out)
    go_wp2_with fail
    refine HREL.out.mono ?_
    rintro e w6 ⟨rfl, h6⟩
    go_wp2
    first
      | go_end0
      | refine bodyPost_ret (results_none rfl _ _ _) rfl ?_
    exact ⟨rfl, Lib.hid (RStep.below HB2.out (RStep.trans HO2.out HK1.out (RStep.below HB3.out (RStep.trans HO5.out HK5.out h6.out))))⟩
set_option maxRecDepth 100000 in
set_option maxHeartbeats 1000000 in
theorem scan_more_epochs (h : RiteP w B r sv fv nv m K) (x : Wd × Bool) (hd : m.st.done = 7) (he : m.eng = 4) (ht : m.thr ≤ 6) (hsl : m.st.said.length + 1 < m.thr) :
    Calls Tryz.prog 94 #[.pointer (some ⟨r, 0, none⟩), rpv x] w (RPost w B r K ((setSaid m x.1).hear)) := by
  have HRL := Lib.hid (fun b (e : K b) => (show b ≠ w.heap.size from Nat.ne_of_lt (h.low b e).2))
  replace HRL : Hid (∀ b, K b → b ≠ w.heap.size) := HRL
  have h1 := h.below (below_alloc (Below.refl _ _) (.cells #[.int .i64 x.1.slot, .int .i64 x.1.gen, .int .i64 x.1.tag, .int .i64 x.1.num, .bool x.1.mark, .bool x.2] 63))
  have HX := Lib.hid (box_rep w x)
  have HB0 := Lib.hid (below_alloc (Below.refl w.heap.size w) (.cells #[.int .i64 x.1.slot, .int .i64 x.1.gen, .int .i64 x.1.tag, .int .i64 x.1.num, .bool x.1.mark, .bool x.2] 63))
  have HR := Lib.hid h1
  clear h h1
  unfold rpv
  go_enter Tryz.func94, Tryz.ntmps94
  go_upto_region 1 with fail
  generalize w.alloc (.cells #[.int .i64 x.1.slot, .int .i64 x.1.gen, .int .i64 x.1.tag, .int .i64 x.1.num, .bool x.1.mark, .bool x.2] 63) = W at HR HX HB0 ⊢
  have hX := HX.out
  have hzx := BlkW.lt hX
  have hrx : w.heap.size ≠ r := fun e => BlkW.ne_ hX HR.out.at_ (by decide) e
  have hkx : ¬ K w.heap.size := fun e => HRL.out _ e rfl
  obtain ⟨b0, b1, b2, b3, b4, b5⟩ := rep6 hX
  have hz := BlkW.lt HR.out.at_
  have cd := HR.out.at_.done
  have ce := HR.out.at_.fix.1
  clear hX HX
  generalize w.heap.size = g at hzx hrx hkx b0 b1 b2 b3 b4 b5 ⊢
  have HEN := Lib.hid he
  have HT := Lib.hid ht
  rw [hd] at cd
  obtain ⟨i5, hi5, hz5, hs5, hy5⟩ := info_parts infoWd
  have hBz : B ≤ W.heap.size := Nat.le_of_lt (Nat.lt_of_le_of_lt (HR.out.low r HR.out.kr).1 (HR.out.low r HR.out.kr).2)
  have c50 := HR.out.at_.rows.1
  have hne := HR.out.ne.1
  obtain ⟨L, hL⟩ : ∃ L, L = m.st.said.length := ⟨_, rfl⟩
  have N1 := Lib.hid (show W.drew.ownsRow B 34 5 sv L (Sv.flat Sv.wc m.st.said) by rw [hL]; exact HR.out.said)
  have hLs : L ≤ 1000 := by omega
  have hsl' := hsl
  have HL := Lib.hid hL
  have HSL := Lib.hid hsl
  clear hd hL hsl he ht
  go_upto_region 14 with fail
  refine wp_region_noPanic ?_
  refine wp_region_held_drew (S := (fun w' => w'.cell? ⟨g, 0, none⟩ = some (.int .i64 x.1.slot) ∧ w'.cell? ⟨g, 1, none⟩ = some (.int .i64 x.1.gen) ∧ w'.cell? ⟨g, 2, none⟩ = some (.int .i64 x.1.tag) ∧ w'.cell? ⟨g, 3, none⟩ = some (.int .i64 x.1.num) ∧ w'.cell? ⟨g, 4, none⟩ = some (.bool x.1.mark))) (by kernel_rfl) ?_ (fun hHeld => ?_)
  · (try dsimp only)
    (first
      | go_keep
      | (go_split_ands
         (repeat' apply And.intro) <;> first | exact grown_cell hg1 hneg (by assumption) | (rw [World.cell?_setCell_far _ _ _ _ (fun e => hrx e.symm)]; assumption)))
  refine wpAnyH_take (i := 0) (v := ?_) rfl (by kernel_rfl) (by kernel_rfl) (by kernel_rfl) (fun _ _ _ h => h) (Or.inl ⟨by rfl, ?_⟩) (by assumption) ?_
  rotate_left
  · (intro w hSw; (try dsimp only at hSw); go_simp; (try with_reducible rfl))
  try simp only [Act.put, List.getElem_toArray, List.getElem_cons_succ, List.getElem_cons_zero, List.setIfInBounds_toArray, List.set_cons_zero, List.set_cons_succ]
  refine wpAnyH_take (i := 1) (v := ?_) rfl (by kernel_rfl) (by kernel_rfl) (by kernel_rfl) (fun _ _ _ h => h) (Or.inl ⟨by rfl, ?_⟩) (by assumption) ?_
  rotate_left
  · (intro w hSw; (try dsimp only at hSw); go_simp; (try with_reducible rfl))
  try simp only [Act.put, List.getElem_toArray, List.getElem_cons_succ, List.getElem_cons_zero, List.setIfInBounds_toArray, List.set_cons_zero, List.set_cons_succ]
  refine wpAnyH_take (i := 2) (v := ?_) rfl (by kernel_rfl) (by kernel_rfl) (by kernel_rfl) (fun _ _ _ h => h) (Or.inl ⟨by rfl, ?_⟩) (by assumption) ?_
  rotate_left
  · (intro w hSw; (try dsimp only at hSw); go_simp; (try with_reducible rfl))
  try simp only [Act.put, List.getElem_toArray, List.getElem_cons_succ, List.getElem_cons_zero, List.setIfInBounds_toArray, List.set_cons_zero, List.set_cons_succ]
  refine wpAnyH_take (i := 3) (v := ?_) rfl (by kernel_rfl) (by kernel_rfl) (by kernel_rfl) (fun _ _ _ h => h) (Or.inl ⟨by rfl, ?_⟩) (by assumption) ?_
  rotate_left
  · (intro w hSw; (try dsimp only at hSw); go_simp; (try with_reducible rfl))
  try simp only [Act.put, List.getElem_toArray, List.getElem_cons_succ, List.getElem_cons_zero, List.setIfInBounds_toArray, List.set_cons_zero, List.set_cons_succ]
  refine wpAnyH_take (i := 4) (v := ?_) rfl (by kernel_rfl) (by kernel_rfl) (by kernel_rfl) (fun _ _ _ h => h) (Or.inl ⟨by rfl, ?_⟩) (by assumption) ?_
  rotate_left
  · (intro w hSw; (try dsimp only at hSw); go_simp; (try with_reducible rfl))
  try simp only [Act.put, List.getElem_toArray, List.getElem_cons_succ, List.getElem_cons_zero, List.setIfInBounds_toArray, List.set_cons_zero, List.set_cons_succ]
  refine wpAnyH_take (i := 6) (v := ?_) rfl (by kernel_rfl) (by kernel_rfl) (by kernel_rfl) (fun _ _ _ h => h) (Or.inl ⟨by rfl, ?_⟩) (by assumption) ?_
  rotate_left
  · (intro w hSw; (try dsimp only at hSw); go_simp; (try with_reducible rfl))
  try simp only [Act.put, List.getElem_toArray, List.getElem_cons_succ, List.getElem_cons_zero, List.setIfInBounds_toArray, List.set_cons_zero, List.set_cons_succ]
  refine wpAnyH_take (i := 7) (v := ?_) rfl (by kernel_rfl) (by kernel_rfl) (by kernel_rfl) (fun _ _ _ h => h) (Or.inl ⟨by rfl, ?_⟩) (by assumption) ?_
  rotate_left
  · (intro w hSw; (try dsimp only at hSw); go_simp; (try with_reducible rfl))
  try simp only [Act.put, List.getElem_toArray, List.getElem_cons_succ, List.getElem_cons_zero, List.setIfInBounds_toArray, List.set_cons_zero, List.set_cons_succ]
  refine wpAnyH_ready (rs := [5, 8]) (by kernel_rfl) (by simp) ?_
  refine AllReadyH.cons rfl (fun K2 hK => ?_) (AllReadyH.cons rfl (fun K2 hK => ?_) (AllReadyH.nil))
  rw [if_pos (by rfl)]
  go_simp
  refine hK.out _ _ ?_ (fun hHeld => ?_)
  · (try dsimp only)
    (first
      | go_keep
      | (go_split_ands
         (repeat' apply And.intro) <;> first | exact grown_cell hg1 hneg (by assumption) | (rw [World.cell?_setCell_far _ _ _ _ (fun e => hrx e.symm)]; assumption)))
  clear hK K2
  try simp only [Act.put, List.getElem_toArray, List.getElem_cons_succ, List.getElem_cons_zero, List.setIfInBounds_toArray, List.set_cons_zero, List.set_cons_succ]
  refine wpAnyH_ready (rs := [8]) (by kernel_rfl) (by simp) ?_
  refine AllReadyH.cons rfl (fun K2 hK => ?_) AllReadyH.nil
  rw [if_pos (by rfl)]
  go_simp
  refine hK.out _ _ ?_ (fun hHeld => ?_)
  · (try dsimp only)
    (first
      | go_keep
      | (go_split_ands
         (repeat' apply And.intro) <;> first | exact grown_cell hg1 hneg (by assumption) | (rw [World.cell?_setCell_far _ _ _ _ (fun e => hrx e.symm)]; assumption)))
  clear hK K2
  try simp only [Act.put, List.getElem_toArray, List.getElem_cons_succ, List.getElem_cons_zero, List.setIfInBounds_toArray, List.set_cons_zero, List.set_cons_succ]
  refine wpAnyH_ready (rs := [9]) (by kernel_rfl) (by simp) ?_
  refine AllReadyH.cons rfl (fun K2 hK => ?_) AllReadyH.nil
  (first
    | ((refine Sv.step_append_row _ Sv.wc_len (by decide) Sv.wc_one rfl (.tmp 52) (.tmp 55) 71 rfl B 34 i5 _ 40 Tryz.underlying71 hi5 hz5 hs5 hy5 rfl sv L _ (by rfl) (N1.out.alloc _) _ [x.1] (by rfl) (.inr ⟨W.heap.size, 0, 1, rfl, by simp, Nat.le_refl 1, fun i hi j v hv => ?ro⟩) (by simp only [maxLen]; simp; omega) (by simp; omega) (by simp; omega) ?_); (case ro => (obtain rfl : i = 0 := by simp at hi; omega); rw [show 0 + 0 * 5 + j = j by omega]; exact ((BlkW.new _ _ _).cell j).trans (by rw [List.getElem?_toArray]; exact hv)); rintro v1 u1 ⟨ho1, hg1, ha1, hl1⟩; obtain ⟨ao1, cp1, ev1⟩ := Sv.own_slice ho1; subst ev1; have hb2 := below_alloc (show Below W.heap.size W W.drew from (Below.refl _ _).drew) (.cells #[.int .i64 x.1.slot, .int .i64 x.1.gen, .int .i64 x.1.tag, .int .i64 x.1.num, .bool x.1.mark] 34); have HPX := HR.out.below hb2; have RX := HPX.at_; have RU := RtAt.off RX ((Off.refl (fun j => sv.ownBlock = some j) _).grown hg1 (fun k e => .inl e)) hne; have u50 := RU.rows.1; have uf := RU.frozen 50; have hz3 := BlkW.lt RU; have hneg : sv.ownBlock ≠ some g := fun e => hkx (HR.out.ks g e); replace RU := Lib.hid RU; replace HPX := Lib.hid HPX; replace RX := Lib.hid RX; replace hb2 := Lib.hid hb2))
  refine hK.out _ _ ?_ (fun hHeld => ?_)
  · (try dsimp only)
    (first
      | go_keep
      | (go_split_ands
         (repeat' apply And.intro) <;> first | exact grown_cell hg1 hneg (by assumption) | (rw [World.cell?_setCell_far _ _ _ _ (fun e => hrx e.symm)]; assumption)))
  clear hK K2
  try simp only [Act.put, List.getElem_toArray, List.getElem_cons_succ, List.getElem_cons_zero, List.setIfInBounds_toArray, List.set_cons_zero, List.set_cons_succ]
  refine wpAnyH_take (i := 10) (v := ?_) rfl (by kernel_rfl) (by kernel_rfl) (by kernel_rfl) (fun _ _ _ h => h) (Or.inl ⟨by rfl, ?_⟩) (by assumption) ?_
  rotate_left
  · (intro w hSw; (try dsimp only at hSw); go_simp; (try with_reducible rfl))
  try simp only [Act.put, List.getElem_toArray, List.getElem_cons_succ, List.getElem_cons_zero, List.setIfInBounds_toArray, List.set_cons_zero, List.set_cons_succ]
  refine wpAnyH_take (i := 11) (v := ?_) rfl (by kernel_rfl) (by kernel_rfl) (by kernel_rfl) (fun _ _ _ h => h) (Or.inl ⟨by rfl, ?_⟩) (by assumption) ?_
  rotate_left
  · (intro w hSw; (try dsimp only at hSw); go_simp; (try with_reducible rfl))
  try simp only [Act.put, List.getElem_toArray, List.getElem_cons_succ, List.getElem_cons_zero, List.setIfInBounds_toArray, List.set_cons_zero, List.set_cons_succ]
  refine wpAnyH_take (i := 12) (v := ?_) rfl (by kernel_rfl) (by kernel_rfl) (by kernel_rfl) (fun _ _ _ h => h) (Or.inl ⟨by rfl, ?_⟩) (by assumption) ?_
  rotate_left
  · (intro w hSw; (try dsimp only at hSw); go_simp; (try with_reducible rfl))
  try simp only [Act.put, List.getElem_toArray, List.getElem_cons_succ, List.getElem_cons_zero, List.setIfInBounds_toArray, List.set_cons_zero, List.set_cons_succ]
  refine wpAnyH_ready (rs := [13]) (by kernel_rfl) (by simp) ?_
  refine AllReadyH.cons rfl (fun K2 hK => ?_) AllReadyH.nil
  rw [if_pos (by rfl)]
  go_simp
  refine hK.out _ _ ?_ (fun hHeld => ?_)
  · (try dsimp only)
    (first
      | go_keep
      | (go_split_ands
         (repeat' apply And.intro) <;> first | exact grown_cell hg1 hneg (by assumption) | (rw [World.cell?_setCell_far _ _ _ _ (fun e => hrx e.symm)]; assumption)))
  clear hK K2
  try simp only [Act.put, List.getElem_toArray, List.getElem_cons_succ, List.getElem_cons_zero, List.setIfInBounds_toArray, List.set_cons_zero, List.set_cons_succ]
  refine wpAnyH_done (by kernel_rfl) ?_ _
  refine NoPanic.normal ?_
  rotate_left
  rw [if_pos (by rfl)]
  go_simp
  refine hK.out _ _ ?_ (fun hHeld => ?_)
  · (try dsimp only)
    (first
      | go_keep
      | (go_split_ands
         (repeat' apply And.intro) <;> first | exact grown_cell hg1 hneg (by assumption) | (rw [World.cell?_setCell_far _ _ _ _ (fun e => hrx e.symm)]; assumption)))
  clear hK K2
  try simp only [Act.put, List.getElem_toArray, List.getElem_cons_succ, List.getElem_cons_zero, List.setIfInBounds_toArray, List.set_cons_zero, List.set_cons_succ]
  refine wpAnyH_ready (rs := [5]) (by kernel_rfl) (by simp) ?_
  refine AllReadyH.cons rfl (fun K2 hK => ?_) AllReadyH.nil
  rw [if_pos (by rfl)]
  go_simp
  refine hK.out _ _ ?_ (fun hHeld => ?_)
  · (try dsimp only)
    (first
      | go_keep
      | (go_split_ands
         (repeat' apply And.intro) <;> first | exact grown_cell hg1 hneg (by assumption) | (rw [World.cell?_setCell_far _ _ _ _ (fun e => hrx e.symm)]; assumption)))
  clear hK K2
  try simp only [Act.put, List.getElem_toArray, List.getElem_cons_succ, List.getElem_cons_zero, List.setIfInBounds_toArray, List.set_cons_zero, List.set_cons_succ]
  refine wpAnyH_ready (rs := [9]) (by kernel_rfl) (by simp) ?_
  refine AllReadyH.cons rfl (fun K2 hK => ?_) AllReadyH.nil
  (first
    | ((refine Sv.step_append_row _ Sv.wc_len (by decide) Sv.wc_one rfl (.tmp 52) (.tmp 55) 71 rfl B 34 i5 _ 40 Tryz.underlying71 hi5 hz5 hs5 hy5 rfl sv L _ (by rfl) (N1.out.alloc _) _ [x.1] (by rfl) (.inr ⟨W.heap.size, 0, 1, rfl, by simp, Nat.le_refl 1, fun i hi j v hv => ?ro⟩) (by simp only [maxLen]; simp; omega) (by simp; omega) (by simp; omega) ?_); (case ro => (obtain rfl : i = 0 := by simp at hi; omega); rw [show 0 + 0 * 5 + j = j by omega]; exact ((BlkW.new _ _ _).cell j).trans (by rw [List.getElem?_toArray]; exact hv)); rintro v1 u1 ⟨ho1, hg1, ha1, hl1⟩; obtain ⟨ao1, cp1, ev1⟩ := Sv.own_slice ho1; subst ev1; have hb2 := below_alloc (show Below W.heap.size W W.drew from (Below.refl _ _).drew) (.cells #[.int .i64 x.1.slot, .int .i64 x.1.gen, .int .i64 x.1.tag, .int .i64 x.1.num, .bool x.1.mark] 34); have HPX := HR.out.below hb2; have RX := HPX.at_; have RU := RtAt.off RX ((Off.refl (fun j => sv.ownBlock = some j) _).grown hg1 (fun k e => .inl e)) hne; have u50 := RU.rows.1; have uf := RU.frozen 50; have hz3 := BlkW.lt RU; have hneg : sv.ownBlock ≠ some g := fun e => hkx (HR.out.ks g e); replace RU := Lib.hid RU; replace HPX := Lib.hid HPX; replace RX := Lib.hid RX; replace hb2 := Lib.hid hb2))
  refine hK.out _ _ ?_ (fun hHeld => ?_)
  · (try dsimp only)
    (first
      | go_keep
      | (go_split_ands
         (repeat' apply And.intro) <;> first | exact grown_cell hg1 hneg (by assumption) | (rw [World.cell?_setCell_far _ _ _ _ (fun e => hrx e.symm)]; assumption)))
  clear hK K2
  try simp only [Act.put, List.getElem_toArray, List.getElem_cons_succ, List.getElem_cons_zero, List.setIfInBounds_toArray, List.set_cons_zero, List.set_cons_succ]
  refine wpAnyH_take (i := 10) (v := ?_) rfl (by kernel_rfl) (by kernel_rfl) (by kernel_rfl) (fun _ _ _ h => h) (Or.inl ⟨by rfl, ?_⟩) (by assumption) ?_
  rotate_left
  · (intro w hSw; (try dsimp only at hSw); go_simp; (try with_reducible rfl))
  try simp only [Act.put, List.getElem_toArray, List.getElem_cons_succ, List.getElem_cons_zero, List.setIfInBounds_toArray, List.set_cons_zero, List.set_cons_succ]
  refine wpAnyH_take (i := 11) (v := ?_) rfl (by kernel_rfl) (by kernel_rfl) (by kernel_rfl) (fun _ _ _ h => h) (Or.inl ⟨by rfl, ?_⟩) (by assumption) ?_
  rotate_left
  · (intro w hSw; (try dsimp only at hSw); go_simp; (try with_reducible rfl))
  try simp only [Act.put, List.getElem_toArray, List.getElem_cons_succ, List.getElem_cons_zero, List.setIfInBounds_toArray, List.set_cons_zero, List.set_cons_succ]
  refine wpAnyH_take (i := 12) (v := ?_) rfl (by kernel_rfl) (by kernel_rfl) (by kernel_rfl) (fun _ _ _ h => h) (Or.inl ⟨by rfl, ?_⟩) (by assumption) ?_
  rotate_left
  · (intro w hSw; (try dsimp only at hSw); go_simp; (try with_reducible rfl))
  try simp only [Act.put, List.getElem_toArray, List.getElem_cons_succ, List.getElem_cons_zero, List.setIfInBounds_toArray, List.set_cons_zero, List.set_cons_succ]
  refine wpAnyH_ready (rs := [13]) (by kernel_rfl) (by simp) ?_
  refine AllReadyH.cons rfl (fun K2 hK => ?_) AllReadyH.nil
  rw [if_pos (by rfl)]
  go_simp
  refine hK.out _ _ ?_ (fun hHeld => ?_)
  · (try dsimp only)
    (first
      | go_keep
      | (go_split_ands
         (repeat' apply And.intro) <;> first | exact grown_cell hg1 hneg (by assumption) | (rw [World.cell?_setCell_far _ _ _ _ (fun e => hrx e.symm)]; assumption)))
  clear hK K2
  try simp only [Act.put, List.getElem_toArray, List.getElem_cons_succ, List.getElem_cons_zero, List.setIfInBounds_toArray, List.set_cons_zero, List.set_cons_succ]
  refine wpAnyH_done (by kernel_rfl) ?_ _
  refine NoPanic.normal ?_
  all_goals
    obtain ⟨K1, hp1, ho2, hk1⟩ := HPX.out.heardP hg1 x.1 (by rw [← HL.out]; exact ho1) ha1
    have HB2 := Lib.hid (below_trans HB0.out hb2.out)
    have HP1 := Lib.hid (show RiteP _ B r _ fv nv (setSaid m x.1) K1 from hp1)
    have HO2 := Lib.hid ho2
    have HK1 := Lib.hid hk1
    have d3 := off_cell HO2.out (by have := hb2.out.size; omega) hkx (keep_cell hb2.out b3)
    have hg2 : g < (u1.setCell ⟨r, 50, none⟩ (.slice ao1 (L + 1) cp1)).heap.size := Nat.lt_of_lt_of_le hzx (Nat.le_trans hb2.out.size HO2.out.size)
    clear hp1 ho2 hk1 ho1 hg1 ha1 hl1 u50 uf RU RX HPX hb2 N1 c50 hne hneg HR b0 b1 b2 b3 b4 b5
    generalize u1.setCell ⟨r, 50, none⟩ (.slice ao1 (L + 1) cp1) = W2 at HP1 HO2 d3 hg2 ⊢
    have hsl1 : (setSaid m x.1).st.said.length = L + 1 := by show (m.st.said ++ [x.1]).length = _; rw [List.length_append, HL.out]; rfl
    have hisl : (Value.slice ao1 (L + 1) cp1).isSliceOf (setSaid m x.1).st.said.length := ⟨ao1, cp1, by rw [hsl1]⟩
    have hw : (setSaid m x.1).saysWords = false := by unfold Rt.saysWords; rw [show (setSaid m x.1).eng = 4 from HEN.out]; rfl
    have hws : (setSaid m x.1).saysSpan = true := by unfold Rt.saysSpan; rw [show (setSaid m x.1).eng = 4 from HEN.out]; rfl
    have hlt : (setSaid m x.1).st.said.length < (setSaid m x.1).thr := by rw [hsl1, HL.out]; exact HSL.out
    have HH : Hid ((setSaid m x.1).hear = (setSaid m x.1).load (0, 0, (spanAt (setSaid m x.1).st.said.length : Nat)) 7) := Lib.hid (by unfold Rt.hear; rw [hw]; rfl)
    have HLI := Lib.hid (listen_span HP1.out.at_ hisl HT.out hw hws hlt)
    clear hlt hw hws hsl1 hisl
    go_wp2_with fail
    refine HLI.out.mono ?_
    rintro e w3 ⟨rfl, h1, h2⟩
    go_wp2
    first
      | go_end0
      | refine bodyPost_ret (results_none rfl _ _ _) rfl ?_
    rw [HH.out]
    exact ⟨rfl, Lib.hid (RStep.below HB2.out (RStep.trans HO2.out HK1.out (HP1.out.step_only h1.out h2.out (.inl ⟨rfl, rfl⟩) (.inl ⟨rfl, rfl⟩) rfl)))⟩
end
end Go.Proofs.YtihjklimcchkhaaGreatDoor
