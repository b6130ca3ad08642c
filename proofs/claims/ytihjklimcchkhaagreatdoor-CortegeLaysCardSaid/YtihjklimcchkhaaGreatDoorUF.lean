/- rite: scan by Epochs, where the last span was heard. A template (made by gen_XUf.py). -/
/- rite: the other states of a scan. A template (made by gen_XUg.py). -/
import Derived.Test.YtihjklimcchkhaaGreatDoorUe
import Derived.Test.YtihjklimcchkhaaGreatDoorVm
namespace Go.Proofs.YtihjklimcchkhaaGreatDoor
open Go.RowKit Go.Extern.Stop Go.Stop Go.Extern Go.Sort
section
variable {w w' : World} {B r : Nat} {sv fv nv : Value} {m : Rt} {K : Nat → Prop}
theorem mayTurn_is (now : Int) (l : List Wd) : mayTurn now l = !((l.map Wd.hear).any (Sv.mayK now)) := by
  unfold mayTurn
  rw [List.any_map, List.all_eq_not_any_not]
  congr 1
  congr 1
  funext d
  show (!(!(d.hear.is && decide (d.hear.low ≠ now)))) = Sv.mayK now d.hear
  rw [Bool.not_not]
  unfold Sv.mayK
  by_cases h : d.hear.low = now <;> simp [h]
set_option maxRecDepth 100000 in
set_option maxHeartbeats 1000000 in
theorem scan_all_epochs (h : RiteP w B r sv fv nv m K) (x : Wd × Bool) (hd : m.st.done = 7) (he : m.eng = 4) (ht : m.thr ≤ 6) (hsl : m.st.said.length + 1 = m.thr) (hl : m.notes.length ≤ 200) (ht1 : wrap64 (m.st.clock.tag + 1) = m.st.clock.tag + 1) (ht2 : wrap64 (m.st.clock.num + 1) = m.st.clock.num + 1) (M : Rt) (hM : M = if mayTurn m.st.clock.num (setSaid m x.1).st.said = true then (setSaid m x.1).turn else (setSaid m x.1).loadClock 6) :
    Calls Tryz.prog 94 #[.pointer (some ⟨r, 0, none⟩), rpv x] w (RPost w B r K M) := by
  have HRL := Lib.hid (fun b (e : K b) => (show b ≠ w.heap.size from Nat.ne_of_lt (h.low b e).2))
  replace HRL : Hid (∀ b, K b → b ≠ w.heap.size) := HRL
  have h1 := h.below (below_alloc (Below.refl _ _) (.cells #[.int .i64 x.1.slot, .int .i64 x.1.gen, .int .i64 x.1.tag, .int .i64 x.1.num, .bool x.1.mark, .bool x.2] 63))
  have HX := Lib.hid (box_rep w x)
  have HB0 := Lib.hid (below_alloc (Below.refl w.heap.size w) (.cells #[.int .i64 x.1.slot, .int .i64 x.1.gen, .int .i64 x.1.tag, .int .i64 x.1.num, .bool x.1.mark, .bool x.2] 63))
  have HR := Lib.hid h1
  clear h h1
  unfold rpv
  go_enter Tryz.func94, Tryz.ntmps94
  go_upto_region 1 with fail
  generalize w.alloc (.cells #[.int .i64 x.1.slot, .int .i64 x.1.gen, .int .i64 x.1.tag, .int .i64 x.1.num, .bool x.1.mark, .bool x.2] 63) = W at HR HX HB0 ⊢
  have hX := HX.out
  have hzx := BlkW.lt hX
  have hrx : w.heap.size ≠ r := fun e => BlkW.ne_ hX HR.out.at_ (by decide) e
  have hkx : ¬ K w.heap.size := fun e => HRL.out _ e rfl
  obtain ⟨b0, b1, b2, b3, b4, b5⟩ := rep6 hX
  have hz := BlkW.lt HR.out.at_
  have cd := HR.out.at_.done
  have ce := HR.out.at_.fix.1
  clear hX HX
  generalize w.heap.size = g at hzx hrx hkx b0 b1 b2 b3 b4 b5 ⊢
  have HEN := Lib.hid he
  have HT := Lib.hid ht
  have HT1 := Lib.hid ht1
  have HMM := Lib.hid hM
  have HT2 := Lib.hid ht2
  have HLN := Lib.hid hl
  rw [hd] at cd
  obtain ⟨i5, hi5, hz5, hs5, hy5⟩ := info_parts infoWd
  have hBz : B ≤ W.heap.size := Nat.le_of_lt (Nat.lt_of_le_of_lt (HR.out.low r HR.out.kr).1 (HR.out.low r HR.out.kr).2)
  have c50 := HR.out.at_.rows.1
  have hne := HR.out.ne.1
  obtain ⟨L, hL⟩ : ∃ L, L = m.st.said.length := ⟨_, rfl⟩
  have N1 := Lib.hid (show W.drew.ownsRow B 34 5 sv L (Sv.flat Sv.wc m.st.said) by rw [hL]; exact HR.out.said)
  have hLs : L ≤ 1000 := by omega
  have HL := Lib.hid hL
  have HSL := Lib.hid hsl
  clear hd hL hsl he ht hl ht1 ht2 hM
  go_upto_region 14 with fail
  refine wp_region_noPanic ?_
  refine wp_region_held_drew (S := (fun w' => w'.cell? ⟨g, 0, none⟩ = some (.int .i64 x.1.slot) ∧ w'.cell? ⟨g, 1, none⟩ = some (.int .i64 x.1.gen) ∧ w'.cell? ⟨g, 2, none⟩ = some (.int .i64 x.1.tag) ∧ w'.cell? ⟨g, 3, none⟩ = some (.int .i64 x.1.num) ∧ w'.cell? ⟨g, 4, none⟩ = some (.bool x.1.mark))) (by kernel_rfl) ?_ (fun hHeld => ?_)
  · (try dsimp only)
    (first
      | go_keep
      | (go_split_ands
         (repeat' apply And.intro) <;> first | exact grown_cell hg1 hneg (by assumption) | (rw [World.cell?_setCell_far _ _ _ _ (fun e => hrx e.symm)]; assumption)))
  refine wpAnyH_take (i := 0) (v := ?_) rfl (by kernel_rfl) (by kernel_rfl) (by kernel_rfl) (fun _ _ _ h => h) (Or.inl ⟨by rfl, ?_⟩) (by assumption) ?_
  rotate_left
  · (intro w hSw; (try dsimp only at hSw); go_simp; (try with_reducible rfl))
  try simp only [Act.put, List.getElem_toArray, List.getElem_cons_succ, List.getElem_cons_zero, List.setIfInBounds_toArray, List.set_cons_zero, List.set_cons_succ]
  refine wpAnyH_take (i := 1) (v := ?_) rfl (by kernel_rfl) (by kernel_rfl) (by kernel_rfl) (fun _ _ _ h => h) (Or.inl ⟨by rfl, ?_⟩) (by assumption) ?_
  rotate_left
  · (intro w hSw; (try dsimp only at hSw); go_simp; (try with_reducible rfl))
  try simp only [Act.put, List.getElem_toArray, List.getElem_cons_succ, List.getElem_cons_zero, List.setIfInBounds_toArray, List.set_cons_zero, List.set_cons_succ]
  refine wpAnyH_take (i := 2) (v := ?_) rfl (by kernel_rfl) (by kernel_rfl) (by kernel_rfl) (fun _ _ _ h => h) (Or.inl ⟨by rfl, ?_⟩) (by assumption) ?_
  rotate_left
  · (intro w hSw; (try dsimp only at hSw); go_simp; (try with_reducible rfl))
  try simp only [Act.put, List.getElem_toArray, List.getElem_cons_succ, List.getElem_cons_zero, List.setIfInBounds_toArray, List.set_cons_zero, List.set_cons_succ]
  refine wpAnyH_take (i := 3) (v := ?_) rfl (by kernel_rfl) (by kernel_rfl) (by kernel_rfl) (fun _ _ _ h => h) (Or.inl ⟨by rfl, ?_⟩) (by assumption) ?_
  rotate_left
  · (intro w hSw; (try dsimp only at hSw); go_simp; (try with_reducible rfl))
  try simp only [Act.put, List.getElem_toArray, List.getElem_cons_succ, List.getElem_cons_zero, List.setIfInBounds_toArray, List.set_cons_zero, List.set_cons_succ]
  refine wpAnyH_take (i := 4) (v := ?_) rfl (by kernel_rfl) (by kernel_rfl) (by kernel_rfl) (fun _ _ _ h => h) (Or.inl ⟨by rfl, ?_⟩) (by assumption) ?_
  rotate_left
  · (intro w hSw; (try dsimp only at hSw); go_simp; (try with_reducible rfl))
  try simp only [Act.put, List.getElem_toArray, List.getElem_cons_succ, List.getElem_cons_zero, List.setIfInBounds_toArray, List.set_cons_zero, List.set_cons_succ]
  refine wpAnyH_take (i := 6) (v := ?_) rfl (by kernel_rfl) (by kernel_rfl) (by kernel_rfl) (fun _ _ _ h => h) (Or.inl ⟨by rfl, ?_⟩) (by assumption) ?_
  rotate_left
  · (intro w hSw; (try dsimp only at hSw); go_simp; (try with_reducible rfl))
  try simp only [Act.put, List.getElem_toArray, List.getElem_cons_succ, List.getElem_cons_zero, List.setIfInBounds_toArray, List.set_cons_zero, List.set_cons_succ]
  refine wpAnyH_take (i := 7) (v := ?_) rfl (by kernel_rfl) (by kernel_rfl) (by kernel_rfl) (fun _ _ _ h => h) (Or.inl ⟨by rfl, ?_⟩) (by assumption) ?_
  rotate_left
  · (intro w hSw; (try dsimp only at hSw); go_simp; (try with_reducible rfl))
  try simp only [Act.put, List.getElem_toArray, List.getElem_cons_succ, List.getElem_cons_zero, List.setIfInBounds_toArray, List.set_cons_zero, List.set_cons_succ]
  refine wpAnyH_ready (rs := [5, 8]) (by kernel_rfl) (by simp) ?_
  refine AllReadyH.cons rfl (fun K2 hK => ?_) (AllReadyH.cons rfl (fun K2 hK => ?_) (AllReadyH.nil))
  rw [if_pos (by rfl)]
  go_simp
  refine hK.out _ _ ?_ (fun hHeld => ?_)
  · (try dsimp only)
    (first
      | go_keep
      | (go_split_ands
         (repeat' apply And.intro) <;> first | exact grown_cell hg1 hneg (by assumption) | (rw [World.cell?_setCell_far _ _ _ _ (fun e => hrx e.symm)]; assumption)))
  clear hK K2
  try simp only [Act.put, List.getElem_toArray, List.getElem_cons_succ, List.getElem_cons_zero, List.setIfInBounds_toArray, List.set_cons_zero, List.set_cons_succ]
  refine wpAnyH_ready (rs := [8]) (by kernel_rfl) (by simp) ?_
  refine AllReadyH.cons rfl (fun K2 hK => ?_) AllReadyH.nil
  rw [if_pos (by rfl)]
  go_simp
  refine hK.out _ _ ?_ (fun hHeld => ?_)
  · (try dsimp only)
    (first
      | go_keep
      | (go_split_ands
         (repeat' apply And.intro) <;> first | exact grown_cell hg1 hneg (by assumption) | (rw [World.cell?_setCell_far _ _ _ _ (fun e => hrx e.symm)]; assumption)))
  clear hK K2
  try simp only [Act.put, List.getElem_toArray, List.getElem_cons_succ, List.getElem_cons_zero, List.setIfInBounds_toArray, List.set_cons_zero, List.set_cons_succ]
  refine wpAnyH_ready (rs := [9]) (by kernel_rfl) (by simp) ?_
  refine AllReadyH.cons rfl (fun K2 hK => ?_) AllReadyH.nil
  (first
    | ((refine Sv.step_append_row _ Sv.wc_len (by decide) Sv.wc_one rfl (.tmp 52) (.tmp 55) 71 rfl B 34 i5 _ 40 Tryz.underlying71 hi5 hz5 hs5 hy5 rfl sv L _ (by rfl) (N1.out.alloc _) _ [x.1] (by rfl) (.inr ⟨W.heap.size, 0, 1, rfl, by simp, Nat.le_refl 1, fun i hi j v hv => ?ro⟩) (by simp only [maxLen]; simp; omega) (by simp; omega) (by simp; omega) ?_); (case ro => (obtain rfl : i = 0 := by simp at hi; omega); rw [show 0 + 0 * 5 + j = j by omega]; exact ((BlkW.new _ _ _).cell j).trans (by rw [List.getElem?_toArray]; exact hv)); rintro v1 u1 ⟨ho1, hg1, ha1, hl1⟩; obtain ⟨ao1, cp1, ev1⟩ := Sv.own_slice ho1; subst ev1; have hb2 := below_alloc (show Below W.heap.size W W.drew from (Below.refl _ _).drew) (.cells #[.int .i64 x.1.slot, .int .i64 x.1.gen, .int .i64 x.1.tag, .int .i64 x.1.num, .bool x.1.mark] 34); have HPX := HR.out.below hb2; have RX := HPX.at_; have RU := RtAt.off RX ((Off.refl (fun j => sv.ownBlock = some j) _).grown hg1 (fun k e => .inl e)) hne; have u50 := RU.rows.1; have uf := RU.frozen 50; have hz3 := BlkW.lt RU; have hneg : sv.ownBlock ≠ some g := fun e => hkx (HR.out.ks g e); replace RU := Lib.hid RU; replace HPX := Lib.hid HPX; replace RX := Lib.hid RX; replace hb2 := Lib.hid hb2))
  refine hK.out _ _ ?_ (fun hHeld => ?_)
  · (try dsimp only)
    (first
      | go_keep
      | (go_split_ands
         (repeat' apply And.intro) <;> first | exact grown_cell hg1 hneg (by assumption) | (rw [World.cell?_setCell_far _ _ _ _ (fun e => hrx e.symm)]; assumption)))
  clear hK K2
  try simp only [Act.put, List.getElem_toArray, List.getElem_cons_succ, List.getElem_cons_zero, List.setIfInBounds_toArray, List.set_cons_zero, List.set_cons_succ]
  refine wpAnyH_take (i := 10) (v := ?_) rfl (by kernel_rfl) (by kernel_rfl) (by kernel_rfl) (fun _ _ _ h => h) (Or.inl ⟨by rfl, ?_⟩) (by assumption) ?_
  rotate_left
  · (intro w hSw; (try dsimp only at hSw); go_simp; (try with_reducible rfl))
  try simp only [Act.put, List.getElem_toArray, List.getElem_cons_succ, List.getElem_cons_zero, List.setIfInBounds_toArray, List.set_cons_zero, List.set_cons_succ]
  refine wpAnyH_take (i := 11) (v := ?_) rfl (by kernel_rfl) (by kernel_rfl) (by kernel_rfl) (fun _ _ _ h => h) (Or.inl ⟨by rfl, ?_⟩) (by assumption) ?_
  rotate_left
  · (intro w hSw; (try dsimp only at hSw); go_simp; (try with_reducible rfl))
  try simp only [Act.put, List.getElem_toArray, List.getElem_cons_succ, List.getElem_cons_zero, List.setIfInBounds_toArray, List.set_cons_zero, List.set_cons_succ]
  refine wpAnyH_take (i := 12) (v := ?_) rfl (by kernel_rfl) (by kernel_rfl) (by kernel_rfl) (fun _ _ _ h => h) (Or.inl ⟨by rfl, ?_⟩) (by assumption) ?_
  rotate_left
  · (intro w hSw; (try dsimp only at hSw); go_simp; (try with_reducible rfl))
  try simp only [Act.put, List.getElem_toArray, List.getElem_cons_succ, List.getElem_cons_zero, List.setIfInBounds_toArray, List.set_cons_zero, List.set_cons_succ]
  refine wpAnyH_ready (rs := [13]) (by kernel_rfl) (by simp) ?_
  refine AllReadyH.cons rfl (fun K2 hK => ?_) AllReadyH.nil
  rw [if_pos (by rfl)]
  go_simp
  refine hK.out _ _ ?_ (fun hHeld => ?_)
  · (try dsimp only)
    (first
      | go_keep
      | (go_split_ands
         (repeat' apply And.intro) <;> first | exact grown_cell hg1 hneg (by assumption) | (rw [World.cell?_setCell_far _ _ _ _ (fun e => hrx e.symm)]; assumption)))
  clear hK K2
  try simp only [Act.put, List.getElem_toArray, List.getElem_cons_succ, List.getElem_cons_zero, List.setIfInBounds_toArray, List.set_cons_zero, List.set_cons_succ]
  refine wpAnyH_done (by kernel_rfl) ?_ _
  refine NoPanic.normal ?_
  rotate_left
  rw [if_pos (by rfl)]
  go_simp
  refine hK.out _ _ ?_ (fun hHeld => ?_)
  · (try dsimp only)
    (first
      | go_keep
      | (go_split_ands
         (repeat' apply And.intro) <;> first | exact grown_cell hg1 hneg (by assumption) | (rw [World.cell?_setCell_far _ _ _ _ (fun e => hrx e.symm)]; assumption)))
  clear hK K2
  try simp only [Act.put, List.getElem_toArray, List.getElem_cons_succ, List.getElem_cons_zero, List.setIfInBounds_toArray, List.set_cons_zero, List.set_cons_succ]
  refine wpAnyH_ready (rs := [5]) (by kernel_rfl) (by simp) ?_
  refine AllReadyH.cons rfl (fun K2 hK => ?_) AllReadyH.nil
  rw [if_pos (by rfl)]
  go_simp
  refine hK.out _ _ ?_ (fun hHeld => ?_)
  · (try dsimp only)
    (first
      | go_keep
      | (go_split_ands
         (repeat' apply And.intro) <;> first | exact grown_cell hg1 hneg (by assumption) | (rw [World.cell?_setCell_far _ _ _ _ (fun e => hrx e.symm)]; assumption)))
  clear hK K2
  try simp only [Act.put, List.getElem_toArray, List.getElem_cons_succ, List.getElem_cons_zero, List.setIfInBounds_toArray, List.set_cons_zero, List.set_cons_succ]
  refine wpAnyH_ready (rs := [9]) (by kernel_rfl) (by simp) ?_
  refine AllReadyH.cons rfl (fun K2 hK => ?_) AllReadyH.nil
  (first
    | ((refine Sv.step_append_row _ Sv.wc_len (by decide) Sv.wc_one rfl (.tmp 52) (.tmp 55) 71 rfl B 34 i5 _ 40 Tryz.underlying71 hi5 hz5 hs5 hy5 rfl sv L _ (by rfl) (N1.out.alloc _) _ [x.1] (by rfl) (.inr ⟨W.heap.size, 0, 1, rfl, by simp, Nat.le_refl 1, fun i hi j v hv => ?ro⟩) (by simp only [maxLen]; simp; omega) (by simp; omega) (by simp; omega) ?_); (case ro => (obtain rfl : i = 0 := by simp at hi; omega); rw [show 0 + 0 * 5 + j = j by omega]; exact ((BlkW.new _ _ _).cell j).trans (by rw [List.getElem?_toArray]; exact hv)); rintro v1 u1 ⟨ho1, hg1, ha1, hl1⟩; obtain ⟨ao1, cp1, ev1⟩ := Sv.own_slice ho1; subst ev1; have hb2 := below_alloc (show Below W.heap.size W W.drew from (Below.refl _ _).drew) (.cells #[.int .i64 x.1.slot, .int .i64 x.1.gen, .int .i64 x.1.tag, .int .i64 x.1.num, .bool x.1.mark] 34); have HPX := HR.out.below hb2; have RX := HPX.at_; have RU := RtAt.off RX ((Off.refl (fun j => sv.ownBlock = some j) _).grown hg1 (fun k e => .inl e)) hne; have u50 := RU.rows.1; have uf := RU.frozen 50; have hz3 := BlkW.lt RU; have hneg : sv.ownBlock ≠ some g := fun e => hkx (HR.out.ks g e); replace RU := Lib.hid RU; replace HPX := Lib.hid HPX; replace RX := Lib.hid RX; replace hb2 := Lib.hid hb2))
  refine hK.out _ _ ?_ (fun hHeld => ?_)
  · (try dsimp only)
    (first
      | go_keep
      | (go_split_ands
         (repeat' apply And.intro) <;> first | exact grown_cell hg1 hneg (by assumption) | (rw [World.cell?_setCell_far _ _ _ _ (fun e => hrx e.symm)]; assumption)))
  clear hK K2
  try simp only [Act.put, List.getElem_toArray, List.getElem_cons_succ, List.getElem_cons_zero, List.setIfInBounds_toArray, List.set_cons_zero, List.set_cons_succ]
  refine wpAnyH_take (i := 10) (v := ?_) rfl (by kernel_rfl) (by kernel_rfl) (by kernel_rfl) (fun _ _ _ h => h) (Or.inl ⟨by rfl, ?_⟩) (by assumption) ?_
  rotate_left
  · (intro w hSw; (try dsimp only at hSw); go_simp; (try with_reducible rfl))
  try simp only [Act.put, List.getElem_toArray, List.getElem_cons_succ, List.getElem_cons_zero, List.setIfInBounds_toArray, List.set_cons_zero, List.set_cons_succ]
  refine wpAnyH_take (i := 11) (v := ?_) rfl (by kernel_rfl) (by kernel_rfl) (by kernel_rfl) (fun _ _ _ h => h) (Or.inl ⟨by rfl, ?_⟩) (by assumption) ?_
  rotate_left
  · (intro w hSw; (try dsimp only at hSw); go_simp; (try with_reducible rfl))
  try simp only [Act.put, List.getElem_toArray, List.getElem_cons_succ, List.getElem_cons_zero, List.setIfInBounds_toArray, List.set_cons_zero, List.set_cons_succ]
  refine wpAnyH_take (i := 12) (v := ?_) rfl (by kernel_rfl) (by kernel_rfl) (by kernel_rfl) (fun _ _ _ h => h) (Or.inl ⟨by rfl, ?_⟩) (by assumption) ?_
  rotate_left
  · (intro w hSw; (try dsimp only at hSw); go_simp; (try with_reducible rfl))
  try simp only [Act.put, List.getElem_toArray, List.getElem_cons_succ, List.getElem_cons_zero, List.setIfInBounds_toArray, List.set_cons_zero, List.set_cons_succ]
  refine wpAnyH_ready (rs := [13]) (by kernel_rfl) (by simp) ?_
  refine AllReadyH.cons rfl (fun K2 hK => ?_) AllReadyH.nil
  rw [if_pos (by rfl)]
  go_simp
  refine hK.out _ _ ?_ (fun hHeld => ?_)
  · (try dsimp only)
    (first
      | go_keep
      | (go_split_ands
         (repeat' apply And.intro) <;> first | exact grown_cell hg1 hneg (by assumption) | (rw [World.cell?_setCell_far _ _ _ _ (fun e => hrx e.symm)]; assumption)))
  clear hK K2
  try simp only [Act.put, List.getElem_toArray, List.getElem_cons_succ, List.getElem_cons_zero, List.setIfInBounds_toArray, List.set_cons_zero, List.set_cons_succ]
  refine wpAnyH_done (by kernel_rfl) ?_ _
  refine NoPanic.normal ?_
  all_goals
    obtain ⟨K1, hp1, ho2, hk1⟩ := HPX.out.heardP hg1 x.1 (by rw [← HL.out]; exact ho1) ha1
    have HB2 := Lib.hid (below_trans HB0.out hb2.out)
    have HP1 := Lib.hid (show RiteP _ B r _ fv nv (setSaid m x.1) K1 from hp1)
    have HO2 := Lib.hid ho2
    have HK1 := Lib.hid hk1
    have d3 := off_cell HO2.out (by have := hb2.out.size; omega) hkx (keep_cell hb2.out b3)
    have hg2 : g < (u1.setCell ⟨r, 50, none⟩ (.slice ao1 (L + 1) cp1)).heap.size := Nat.lt_of_lt_of_le hzx (Nat.le_trans hb2.out.size HO2.out.size)
    clear hp1 ho2 hk1 ho1 hg1 ha1 hl1 u50 uf RU RX HPX hb2 N1 c50 hne hneg HR b0 b1 b2 b3 b4 b5
    generalize u1.setCell ⟨r, 50, none⟩ (.slice ao1 (L + 1) cp1) = W2 at HP1 HO2 d3 hg2 ⊢
    have hsl1 : (setSaid m x.1).st.said.length = L + 1 := by show (m.st.said ++ [x.1]).length = _; rw [List.length_append, HL.out]; rfl
    have hisl : (Value.slice ao1 (L + 1) cp1).isSliceOf (setSaid m x.1).st.said.length := ⟨ao1, cp1, by rw [hsl1]⟩
    have hw : (setSaid m x.1).saysWords = false := by unfold Rt.saysWords; rw [show (setSaid m x.1).eng = 4 from HEN.out]; rfl
    have hws : (setSaid m x.1).saysSpan = true := by unfold Rt.saysSpan; rw [show (setSaid m x.1).eng = 4 from HEN.out]; rfl
    have hlt : ¬ (setSaid m x.1).st.said.length < (setSaid m x.1).thr := by rw [hsl1, HL.out]; have := HSL.out; show ¬ _ < m.thr; omega
    have HLI := Lib.hid (listen_spanless HP1.out.at_ hisl HT.out hw hws hlt)
    have HLS := Lib.hid hsl1
    have c53 := HP1.out.at_.fix.1
    rw [show (setSaid m x.1).eng = 4 from HEN.out] at c53
    have hz2 := BlkW.lt HP1.out.at_
    clear hlt hw hws hsl1 hisl
    go_wp2_with fail
    refine HLI.out.mono ?_
    rintro e w3 ⟨rfl, rfl⟩
    go_upto_region 16 with fail
    have c48 := HP1.out.at_.clock5.2.2.2.1
    have c50b := HP1.out.at_.rows.1
    have hzz := BlkW.lt HP1.out.at_
    have hlen : (setSaid m x.1).st.said.length = L + 1 := by show (m.st.said ++ [x.1]).length = _; rw [List.length_append, HL.out]; rfl
    have hle : (setSaid m x.1).st.said.length ≤ 200 := by rw [hlen]; have := HSL.out; have := HT.out; have := HL.out; omega
    have HSP := Lib.hid (spans_is (.slice ao1 (L + 1) cp1) (setSaid m x.1).st.said W2.drew (Sv.own_row Sv.wc_len (show W2.drew.ownsRow B 34 5 (.slice ao1 (L + 1) cp1) (setSaid m x.1).st.said.length (Sv.flat Sv.wc (setSaid m x.1).st.said) from HP1.out.said)) hle)
    have HLE := Lib.hid hle
    have HM := Lib.hid (mayTurn_is m.st.clock.num (setSaid m x.1).st.said)
    have HT1' : Hid (wrap64 ((setSaid m x.1).st.clock.tag + 1) = (setSaid m x.1).st.clock.tag + 1) := HT1
    have HT2' : Hid (wrap64 ((setSaid m x.1).st.clock.num + 1) = (setSaid m x.1).st.clock.num + 1) := HT2
    clear hlen hle d3 hg2
    obtain ⟨now, hnow⟩ : ∃ now, m.st.clock.num = now := ⟨_, rfl⟩
    rw [show (setSaid m x.1).st.clock.num = now from hnow] at c48
    rw [hnow] at HM HMM
    obtain ⟨my, hmy⟩ : ∃ my, mayTurn now (setSaid m x.1).st.said = my := ⟨_, rfl⟩
    rw [hmy] at HM HMM
    clear hmy hnow
    go_region_held3 (fun w' => w'.cell? ⟨r, 53, none⟩ = some (.int .i64 4) ∧ w'.cell? ⟨r, 48, none⟩ = some (.int .i64 now) ∧ w'.cell? ⟨r, 50, none⟩ = some (.slice ao1 (L + 1) cp1))
      (first | go_keep | (have q4 := hb4.out; have q5 := hb5; exact ⟨keep_cell q5 (keep_cell q4 c53), keep_cell q5 (keep_cell q4 c48), keep_cell q5 (keep_cell q4 c50b)⟩) | (have q4 := hb4.out; exact ⟨keep_cell q4 c53, keep_cell q4 c48, keep_cell q4 c50b⟩))
      (first
      | (go_at_call 127; refine HSP.out.mono ?_; rintro e w4 ⟨u, rfl, hu, hb4⟩; have HMY0 := Sv.May_any now u _ w4 hu.out (by rw [List.length_map]; exact HLE.out); rw [← HM.out] at HMY0; have HMY := Lib.hid HMY0; clear HMY0)
      | (go_at_call 126; refine HMY.out.mono ?_; rintro e w5 ⟨rfl, hb5⟩))
    have HB5 := Lib.hid (show Below W2.heap.size W2 w5 from (show Below W2.heap.size W2 W2.drew from (Below.refl _ _).drew).trans (below_trans (W := W2.drew) hb4.out hb5))
    have HP5 := Lib.hid (HP1.out.below HB5.out)
    have hz5 := BlkW.lt HP5.out.at_
    clear hb4 hb5 hu c48 c50b c53 hz2 hzz
    cases my with
    | true =>
      rw [if_pos rfl] at HMM
      go_wp2_with fail
      refine (turn_any HP5.out.at_ HT1'.out HT2'.out).mono ?_
      rintro e w6 ⟨rfl, h1, h2⟩
      go_wp2
      first
        | go_end0
        | refine bodyPost_ret (results_none rfl _ _ _) rfl ?_
      rw [HMM.out]
      exact ⟨rfl, Lib.hid (RStep.below HB2.out (RStep.trans HO2.out HK1.out (RStep.below HB5.out (HP5.out.step_only h1.out h2.out (.inl ⟨rfl, rfl⟩) (.inl ⟨rfl, rfl⟩) rfl))))⟩
    | false =>
      rw [if_neg Bool.false_ne_true] at HMM
      have c53 := HP5.out.at_.fix.1
      rw [show (setSaid m x.1).eng = 4 from HEN.out] at c53
      go_wp2_with fail
      refine (loadClock_any HP5.out.at_ 6).mono ?_
      rintro e w6 ⟨rfl, h1, h2⟩
      go_wp2
      first
        | go_end0
        | refine bodyPost_ret (results_none rfl _ _ _) rfl ?_
      rw [HMM.out]
      exact ⟨rfl, Lib.hid (RStep.below HB2.out (RStep.trans HO2.out HK1.out (RStep.below HB5.out (HP5.out.step_only h1.out h2.out (.inl ⟨rfl, rfl⟩) (.inl ⟨rfl, rfl⟩) rfl))))⟩
end
end Go.Proofs.YtihjklimcchkhaaGreatDoor

namespace Go.Proofs.YtihjklimcchkhaaGreatDoor
open Go.RowKit Go.Extern.Stop Go.Stop Go.Extern Go.Sort
section
variable {w w' : World} {B r : Nat} {sv fv nv : Value} {m : Rt} {K : Nat → Prop}
set_option maxRecDepth 100000 in
set_option maxHeartbeats 1000000 in
theorem scan_first_eras (h : RiteP w B r sv fv nv m K) (x : Wd × Bool) (hd : m.st.done = 0) (he : m.eng = 3) (hs : m.st.said = []) (ht : 1 ≤ m.thr ∧ m.thr ≤ 6) :
    Calls Tryz.prog 94 #[.pointer (some ⟨r, 0, none⟩), rpv x] w (RPost w B r K ((m.setClock x.1).hear)) := by
  have HRL := Lib.hid (fun b (e : K b) => (show b ≠ w.heap.size from Nat.ne_of_lt (h.low b e).2))
  replace HRL : Hid (∀ b, K b → b ≠ w.heap.size) := HRL
  have h1 := h.below (below_alloc (Below.refl _ _) (.cells #[.int .i64 x.1.slot, .int .i64 x.1.gen, .int .i64 x.1.tag, .int .i64 x.1.num, .bool x.1.mark, .bool x.2] 63))
  have HX := Lib.hid (box_rep w x)
  have HB0 := Lib.hid (below_alloc (Below.refl w.heap.size w) (.cells #[.int .i64 x.1.slot, .int .i64 x.1.gen, .int .i64 x.1.tag, .int .i64 x.1.num, .bool x.1.mark, .bool x.2] 63))
  have HR := Lib.hid h1
  clear h h1
  unfold rpv
  go_enter Tryz.func94, Tryz.ntmps94
  go_upto_region 1 with fail
  generalize w.alloc (.cells #[.int .i64 x.1.slot, .int .i64 x.1.gen, .int .i64 x.1.tag, .int .i64 x.1.num, .bool x.1.mark, .bool x.2] 63) = W at HR HX HB0 ⊢
  have hX := HX.out
  have hzx := BlkW.lt hX
  have hrx : w.heap.size ≠ r := fun e => BlkW.ne_ hX HR.out.at_ (by decide) e
  have hkx : ¬ K w.heap.size := fun e => HRL.out _ e rfl
  obtain ⟨b0, b1, b2, b3, b4, b5⟩ := rep6 hX
  have hz := BlkW.lt HR.out.at_
  have cd := HR.out.at_.done
  have ce := HR.out.at_.fix.1
  clear hX HX
  generalize w.heap.size = g at hzx hrx hkx b0 b1 b2 b3 b4 b5 ⊢
  rw [hd] at cd
  rw [he] at ce
  have hw : (m.setClock x.1).saysWords = true := by unfold Rt.saysWords; rw [show (m.setClock x.1).eng = 3 from he]; rfl
  have HH : Hid ((m.setClock x.1).hear = (m.setClock x.1).load (0, 0, (keepAt (m.st.said.length / 9) (m.st.said.length % 9) : Nat)) 7) := Lib.hid (by unfold Rt.hear; rw [hw]; rfl)
  have HSL := Lib.hid (show m.st.said.length < m.thr * 9 by rw [hs]; simp; omega)
  obtain ⟨ao, cp, esv⟩ := Sv.own_slice HR.out.said
  have HE := Lib.hid esv
  have hht := ht.2
  obtain ⟨s0, s1, s2, s3, s4⟩ := HR.out.at_.clock5
  have fz : ∀ o, W.frozen? ⟨r, o, none⟩ = false := HR.out.at_.frozen
  have HW := Lib.hid hw
  clear hd he hs ht hw esv
  go_wp2_with fail
  show Calls _ _ _ (W.setCells r 45 (wc x.1)) _
  have RS := Lib.hid (HR.out.at_.setClock x.1)
  have OS := Lib.hid (Only.sets (r := r) (w := W) 45 (wc x.1))
  generalize W.setCells r 45 (wc x.1) = W1 at RS OS ⊢
  refine (listen_more RS.out ⟨ao, cp, HE.out⟩ hht HW.out HSL.out).mono ?_
  rintro e w2 ⟨rfl, h1, h2⟩
  go_wp2
  first
    | go_end0
    | refine bodyPost_ret (results_none rfl _ _ _) rfl ?_
  rw [HH.out]
  exact ⟨rfl, Lib.hid (RStep.below HB0.out (HR.out.step_only h1.out (OS.out.trans h2.out) (.inl ⟨rfl, rfl⟩) (.inl ⟨rfl, rfl⟩) rfl))⟩
set_option maxRecDepth 100000 in
set_option maxHeartbeats 1000000 in
theorem scan_first_int (h : RiteP w B r sv fv nv m K) (x : Wd × Bool) (hd : m.st.done = 0) (he : m.eng = 5) (hs : m.st.said = []) (ht : 1 ≤ m.thr ∧ m.thr ≤ 6) :
    Calls Tryz.prog 94 #[.pointer (some ⟨r, 0, none⟩), rpv x] w (RPost w B r K ((m.setClock x.1).hear)) := by
  have HRL := Lib.hid (fun b (e : K b) => (show b ≠ w.heap.size from Nat.ne_of_lt (h.low b e).2))
  replace HRL : Hid (∀ b, K b → b ≠ w.heap.size) := HRL
  have h1 := h.below (below_alloc (Below.refl _ _) (.cells #[.int .i64 x.1.slot, .int .i64 x.1.gen, .int .i64 x.1.tag, .int .i64 x.1.num, .bool x.1.mark, .bool x.2] 63))
  have HX := Lib.hid (box_rep w x)
  have HB0 := Lib.hid (below_alloc (Below.refl w.heap.size w) (.cells #[.int .i64 x.1.slot, .int .i64 x.1.gen, .int .i64 x.1.tag, .int .i64 x.1.num, .bool x.1.mark, .bool x.2] 63))
  have HR := Lib.hid h1
  clear h h1
  unfold rpv
  go_enter Tryz.func94, Tryz.ntmps94
  go_upto_region 1 with fail
  generalize w.alloc (.cells #[.int .i64 x.1.slot, .int .i64 x.1.gen, .int .i64 x.1.tag, .int .i64 x.1.num, .bool x.1.mark, .bool x.2] 63) = W at HR HX HB0 ⊢
  have hX := HX.out
  have hzx := BlkW.lt hX
  have hrx : w.heap.size ≠ r := fun e => BlkW.ne_ hX HR.out.at_ (by decide) e
  have hkx : ¬ K w.heap.size := fun e => HRL.out _ e rfl
  obtain ⟨b0, b1, b2, b3, b4, b5⟩ := rep6 hX
  have hz := BlkW.lt HR.out.at_
  have cd := HR.out.at_.done
  have ce := HR.out.at_.fix.1
  clear hX HX
  generalize w.heap.size = g at hzx hrx hkx b0 b1 b2 b3 b4 b5 ⊢
  rw [hd] at cd
  rw [he] at ce
  have hw : (m.setClock x.1).saysWords = false := by unfold Rt.saysWords; rw [show (m.setClock x.1).eng = 5 from he]; rfl
  have hws : (m.setClock x.1).saysSpan = true := by unfold Rt.saysSpan; rw [show (m.setClock x.1).eng = 5 from he]; rfl
  have HWS := Lib.hid hws
  have HH : Hid ((m.setClock x.1).hear = (m.setClock x.1).load (0, 0, (spanAt m.st.said.length : Nat)) 7) := Lib.hid (by unfold Rt.hear; rw [hw]; rfl)
  have HSL := Lib.hid (show m.st.said.length < m.thr by rw [hs]; simp; omega)
  obtain ⟨ao, cp, esv⟩ := Sv.own_slice HR.out.said
  have HE := Lib.hid esv
  have hht := ht.2
  obtain ⟨s0, s1, s2, s3, s4⟩ := HR.out.at_.clock5
  have fz : ∀ o, W.frozen? ⟨r, o, none⟩ = false := HR.out.at_.frozen
  have HW := Lib.hid hw
  clear hd he hs ht hw hws esv
  go_wp2_with fail
  show Calls _ _ _ (W.setCells r 45 (wc x.1)) _
  have RS := Lib.hid (HR.out.at_.setClock x.1)
  have OS := Lib.hid (Only.sets (r := r) (w := W) 45 (wc x.1))
  generalize W.setCells r 45 (wc x.1) = W1 at RS OS ⊢
  refine (listen_span RS.out ⟨ao, cp, HE.out⟩ hht HW.out HWS.out HSL.out).mono ?_
  rintro e w2 ⟨rfl, h1, h2⟩
  go_wp2
  first
    | go_end0
    | refine bodyPost_ret (results_none rfl _ _ _) rfl ?_
  rw [HH.out]
  exact ⟨rfl, Lib.hid (RStep.below HB0.out (HR.out.step_only h1.out (OS.out.trans h2.out) (.inl ⟨rfl, rfl⟩) (.inl ⟨rfl, rfl⟩) rfl))⟩
set_option maxRecDepth 100000 in
set_option maxHeartbeats 1000000 in
theorem scan_first_epochs (h : RiteP w B r sv fv nv m K) (x : Wd × Bool) (hd : m.st.done = 4) (he : m.eng = 4) (hs : m.st.said = []) (ht : 1 ≤ m.thr ∧ m.thr ≤ 6) :
    Calls Tryz.prog 94 #[.pointer (some ⟨r, 0, none⟩), rpv x] w (RPost w B r K ((m.setClock x.1).hear)) := by
  have HRL := Lib.hid (fun b (e : K b) => (show b ≠ w.heap.size from Nat.ne_of_lt (h.low b e).2))
  replace HRL : Hid (∀ b, K b → b ≠ w.heap.size) := HRL
  have h1 := h.below (below_alloc (Below.refl _ _) (.cells #[.int .i64 x.1.slot, .int .i64 x.1.gen, .int .i64 x.1.tag, .int .i64 x.1.num, .bool x.1.mark, .bool x.2] 63))
  have HX := Lib.hid (box_rep w x)
  have HB0 := Lib.hid (below_alloc (Below.refl w.heap.size w) (.cells #[.int .i64 x.1.slot, .int .i64 x.1.gen, .int .i64 x.1.tag, .int .i64 x.1.num, .bool x.1.mark, .bool x.2] 63))
  have HR := Lib.hid h1
  clear h h1
  unfold rpv
  go_enter Tryz.func94, Tryz.ntmps94
  go_upto_region 1 with fail
  generalize w.alloc (.cells #[.int .i64 x.1.slot, .int .i64 x.1.gen, .int .i64 x.1.tag, .int .i64 x.1.num, .bool x.1.mark, .bool x.2] 63) = W at HR HX HB0 ⊢
  have hX := HX.out
  have hzx := BlkW.lt hX
  have hrx : w.heap.size ≠ r := fun e => BlkW.ne_ hX HR.out.at_ (by decide) e
  have hkx : ¬ K w.heap.size := fun e => HRL.out _ e rfl
  obtain ⟨b0, b1, b2, b3, b4, b5⟩ := rep6 hX
  have hz := BlkW.lt HR.out.at_
  have cd := HR.out.at_.done
  have ce := HR.out.at_.fix.1
  clear hX HX
  generalize w.heap.size = g at hzx hrx hkx b0 b1 b2 b3 b4 b5 ⊢
  rw [hd] at cd
  rw [he] at ce
  have hw : (m.setClock x.1).saysWords = false := by unfold Rt.saysWords; rw [show (m.setClock x.1).eng = 4 from he]; rfl
  have hws : (m.setClock x.1).saysSpan = true := by unfold Rt.saysSpan; rw [show (m.setClock x.1).eng = 4 from he]; rfl
  have HWS := Lib.hid hws
  have HH : Hid ((m.setClock x.1).hear = (m.setClock x.1).load (0, 0, (spanAt m.st.said.length : Nat)) 7) := Lib.hid (by unfold Rt.hear; rw [hw]; rfl)
  have HSL := Lib.hid (show m.st.said.length < m.thr by rw [hs]; simp; omega)
  obtain ⟨ao, cp, esv⟩ := Sv.own_slice HR.out.said
  have HE := Lib.hid esv
  have hht := ht.2
  obtain ⟨s0, s1, s2, s3, s4⟩ := HR.out.at_.clock5
  have fz : ∀ o, W.frozen? ⟨r, o, none⟩ = false := HR.out.at_.frozen
  have HW := Lib.hid hw
  clear hd he hs ht hw hws esv
  go_wp2_with fail
  show Calls _ _ _ (W.setCells r 45 (wc x.1)) _
  have RS := Lib.hid (HR.out.at_.setClock x.1)
  have OS := Lib.hid (Only.sets (r := r) (w := W) 45 (wc x.1))
  generalize W.setCells r 45 (wc x.1) = W1 at RS OS ⊢
  refine (listen_span RS.out ⟨ao, cp, HE.out⟩ hht HW.out HWS.out HSL.out).mono ?_
  rintro e w2 ⟨rfl, h1, h2⟩
  go_wp2
  first
    | go_end0
    | refine bodyPost_ret (results_none rfl _ _ _) rfl ?_
  rw [HH.out]
  exact ⟨rfl, Lib.hid (RStep.below HB0.out (HR.out.step_only h1.out (OS.out.trans h2.out) (.inl ⟨rfl, rfl⟩) (.inl ⟨rfl, rfl⟩) rfl))⟩
set_option maxRecDepth 100000 in
set_option maxHeartbeats 1000000 in
theorem scan_clock (h : RiteP w B r sv fv nv m K) (x : Wd × Bool) (hd : m.st.done = 0) (he : m.eng = 4) :
    Calls Tryz.prog 94 #[.pointer (some ⟨r, 0, none⟩), rpv x] w (RPost w B r K (m.loadClock 4)) := by
  have HRL := Lib.hid (fun b (e : K b) => (show b ≠ w.heap.size from Nat.ne_of_lt (h.low b e).2))
  replace HRL : Hid (∀ b, K b → b ≠ w.heap.size) := HRL
  have h1 := h.below (below_alloc (Below.refl _ _) (.cells #[.int .i64 x.1.slot, .int .i64 x.1.gen, .int .i64 x.1.tag, .int .i64 x.1.num, .bool x.1.mark, .bool x.2] 63))
  have HX := Lib.hid (box_rep w x)
  have HB0 := Lib.hid (below_alloc (Below.refl w.heap.size w) (.cells #[.int .i64 x.1.slot, .int .i64 x.1.gen, .int .i64 x.1.tag, .int .i64 x.1.num, .bool x.1.mark, .bool x.2] 63))
  have HR := Lib.hid h1
  clear h h1
  unfold rpv
  go_enter Tryz.func94, Tryz.ntmps94
  go_upto_region 1 with fail
  generalize w.alloc (.cells #[.int .i64 x.1.slot, .int .i64 x.1.gen, .int .i64 x.1.tag, .int .i64 x.1.num, .bool x.1.mark, .bool x.2] 63) = W at HR HX HB0 ⊢
  have hX := HX.out
  have hzx := BlkW.lt hX
  have hrx : w.heap.size ≠ r := fun e => BlkW.ne_ hX HR.out.at_ (by decide) e
  have hkx : ¬ K w.heap.size := fun e => HRL.out _ e rfl
  obtain ⟨b0, b1, b2, b3, b4, b5⟩ := rep6 hX
  have hz := BlkW.lt HR.out.at_
  have cd := HR.out.at_.done
  have ce := HR.out.at_.fix.1
  clear hX HX
  generalize w.heap.size = g at hzx hrx hkx b0 b1 b2 b3 b4 b5 ⊢
  rw [hd] at cd
  rw [he] at ce
  have HEN := Lib.hid he
  clear hd he
  go_wp2_with fail
  refine (loadClock_any HR.out.at_ 4).mono ?_
  rintro e w2 ⟨rfl, h1, h2⟩
  go_wp2
  first
    | go_end0
    | refine bodyPost_ret (results_none rfl _ _ _) rfl ?_
  exact ⟨rfl, Lib.hid (RStep.below HB0.out (HR.out.step_only h1.out h2.out (.inl ⟨rfl, rfl⟩) (.inl ⟨rfl, rfl⟩) rfl))⟩
set_option maxRecDepth 100000 in
set_option maxHeartbeats 1000000 in
theorem scan_turned (h : RiteP w B r sv fv nv m K) (x : Wd × Bool) (hd : m.st.done = 5) (he : m.eng = 4) :
    Calls Tryz.prog 94 #[.pointer (some ⟨r, 0, none⟩), rpv x] w (RPost w B r K (m.loadClock 6)) := by
  have HRL := Lib.hid (fun b (e : K b) => (show b ≠ w.heap.size from Nat.ne_of_lt (h.low b e).2))
  replace HRL : Hid (∀ b, K b → b ≠ w.heap.size) := HRL
  have h1 := h.below (below_alloc (Below.refl _ _) (.cells #[.int .i64 x.1.slot, .int .i64 x.1.gen, .int .i64 x.1.tag, .int .i64 x.1.num, .bool x.1.mark, .bool x.2] 63))
  have HX := Lib.hid (box_rep w x)
  have HB0 := Lib.hid (below_alloc (Below.refl w.heap.size w) (.cells #[.int .i64 x.1.slot, .int .i64 x.1.gen, .int .i64 x.1.tag, .int .i64 x.1.num, .bool x.1.mark, .bool x.2] 63))
  have HR := Lib.hid h1
  clear h h1
  unfold rpv
  go_enter Tryz.func94, Tryz.ntmps94
  go_upto_region 1 with fail
  generalize w.alloc (.cells #[.int .i64 x.1.slot, .int .i64 x.1.gen, .int .i64 x.1.tag, .int .i64 x.1.num, .bool x.1.mark, .bool x.2] 63) = W at HR HX HB0 ⊢
  have hX := HX.out
  have hzx := BlkW.lt hX
  have hrx : w.heap.size ≠ r := fun e => BlkW.ne_ hX HR.out.at_ (by decide) e
  have hkx : ¬ K w.heap.size := fun e => HRL.out _ e rfl
  obtain ⟨b0, b1, b2, b3, b4, b5⟩ := rep6 hX
  have hz := BlkW.lt HR.out.at_
  have cd := HR.out.at_.done
  have ce := HR.out.at_.fix.1
  clear hX HX
  generalize w.heap.size = g at hzx hrx hkx b0 b1 b2 b3 b4 b5 ⊢
  rw [hd] at cd
  rw [he] at ce
  have HEN := Lib.hid he
  clear hd he
  go_wp2_with fail
  refine (loadClock_any HR.out.at_ 6).mono ?_
  rintro e w2 ⟨rfl, h1, h2⟩
  go_wp2
  first
    | go_end0
    | refine bodyPost_ret (results_none rfl _ _ _) rfl ?_
  exact ⟨rfl, Lib.hid (RStep.below HB0.out (HR.out.step_only h1.out h2.out (.inl ⟨rfl, rfl⟩) (.inl ⟨rfl, rfl⟩) rfl))⟩
set_option maxRecDepth 100000 in
set_option maxHeartbeats 1000000 in
theorem scan_timed (h : RiteP w B r sv fv nv m K) (x : Wd × Bool) (hd : m.st.done = 6) (he : m.eng = 4) (hn : 0 ≤ x.1.num ∧ x.1.num ≤ 1000000000000000) (hl : m.notes.length ≤ 200) (hF : FreeOk (setFree m (m.loose x.1.num))) :
    Calls Tryz.prog 94 #[.pointer (some ⟨r, 0, none⟩), rpv x] w (RPost w B r K (m.free x.1.num)) := by
  have HRL := Lib.hid (fun b (e : K b) => (show b ≠ w.heap.size from Nat.ne_of_lt (h.low b e).2))
  replace HRL : Hid (∀ b, K b → b ≠ w.heap.size) := HRL
  have h1 := h.below (below_alloc (Below.refl _ _) (.cells #[.int .i64 x.1.slot, .int .i64 x.1.gen, .int .i64 x.1.tag, .int .i64 x.1.num, .bool x.1.mark, .bool x.2] 63))
  have HX := Lib.hid (box_rep w x)
  have HB0 := Lib.hid (below_alloc (Below.refl w.heap.size w) (.cells #[.int .i64 x.1.slot, .int .i64 x.1.gen, .int .i64 x.1.tag, .int .i64 x.1.num, .bool x.1.mark, .bool x.2] 63))
  have HR := Lib.hid h1
  clear h h1
  unfold rpv
  go_enter Tryz.func94, Tryz.ntmps94
  go_upto_region 1 with fail
  generalize w.alloc (.cells #[.int .i64 x.1.slot, .int .i64 x.1.gen, .int .i64 x.1.tag, .int .i64 x.1.num, .bool x.1.mark, .bool x.2] 63) = W at HR HX HB0 ⊢
  have hX := HX.out
  have hzx := BlkW.lt hX
  have hrx : w.heap.size ≠ r := fun e => BlkW.ne_ hX HR.out.at_ (by decide) e
  have hkx : ¬ K w.heap.size := fun e => HRL.out _ e rfl
  obtain ⟨b0, b1, b2, b3, b4, b5⟩ := rep6 hX
  have hz := BlkW.lt HR.out.at_
  have cd := HR.out.at_.done
  have ce := HR.out.at_.fix.1
  clear hX HX
  generalize w.heap.size = g at hzx hrx hkx b0 b1 b2 b3 b4 b5 ⊢
  rw [hd] at cd
  rw [he] at ce
  have HEN := Lib.hid he
  have HLN := Lib.hid hl
  have HF := Lib.hid hF
  have HLO := Lib.hid (loose_epochs HR.out he hl x.1.num hn)
  clear hd he hn hl hF
  go_wp2_with fail
  refine HLO.out.mono ?_
  rintro e w4 ⟨a, rfl, ra, hb4⟩
  obtain ⟨ao4, cp4, ev4⟩ := Sv.own_slice ra.out
  subst ev4
  have RW4 := RtAt.below HR.out.at_ hb4.out
  have n51 := RW4.rows.2.1
  have f51 := RW4.frozen 51
  have hz4 := BlkW.lt RW4
  replace RW4 := Lib.hid RW4
  obtain ⟨K5, hp5, ho5, hk5⟩ := HR.out.loosed hb4.out (show w4.ownsRow W.heap.size 74 7 _ (m.loose x.1.num).length (Sv.flat Sv.nc (m.loose x.1.num)) from ra.out)
  have HP5 := Lib.hid hp5
  have HO5 := Lib.hid ho5
  have HK5 := Lib.hid hk5
  clear hp5 ho5 hk5
  have HREL := Lib.hid (release_any HP5.out (by show m.notes.length ≤ 1000; have := HLN.out; omega) HF.out)
  go_wp2_with fail
  refine HREL.out.mono ?_
  rintro e w6 ⟨rfl, h6⟩
  go_wp2
  first
    | go_end0
    | refine bodyPost_ret (results_none rfl _ _ _) rfl ?_
  exact ⟨rfl, Lib.hid (RStep.below HB0.out (RStep.trans HO5.out HK5.out h6.out))⟩
end
end Go.Proofs.YtihjklimcchkhaaGreatDoor
