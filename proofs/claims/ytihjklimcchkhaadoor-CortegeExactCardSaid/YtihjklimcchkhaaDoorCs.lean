/- cortege: the reference's enqueue. A template (made by gen_XCs.py). -/
import Derived.Test.YtihjklimcchkhaaDoorCr
namespace Go.Proofs.YtihjklimcchkhaaDoor.Co
open Go.RowKit Go.Extern.Stop Go.Stop Go.Extern Go.Sort
section
variable {w w' : World} {b : Nat} {q : Nat} {u u' : Rf} {c : Ca}
set_option maxRecDepth 100000 in
set_option maxHeartbeats 1000000 in
theorem renq_0 (h : UAt w b u) (x : Wd × Bool) (hl : u.line = 0)  :
    Calls Tryd.prog 16 #[.pointer (some ⟨b, 0, none⟩), rpv x] w (UPost w b (u.at_ 1) (cAlloc)) := by
  have hb1 := below_alloc (Below.refl w.heap.size w) (.cells #[.int .i64 x.1.slot, .int .i64 x.1.gen, .int .i64 x.1.tag, .int .i64 x.1.num, .bool x.1.mark, .bool x.2] 44)
  have hb2 := below_alloc hb1 (.cells (cac za).toArray 41)
  have hbx := below_alloc (Below.refl (w.alloc (.cells #[.int .i64 x.1.slot, .int .i64 x.1.gen, .int .i64 x.1.tag, .int .i64 x.1.num, .bool x.1.mark, .bool x.2] 44)).heap.size (w.alloc (.cells #[.int .i64 x.1.slot, .int .i64 x.1.gen, .int .i64 x.1.tag, .int .i64 x.1.num, .bool x.1.mark, .bool x.2] 44))) (.cells (cac za).toArray 41)
  have HX := Lib.hid ((box_rep w x).below hbx)
  have hq := BlkW.new (w.alloc (.cells #[.int .i64 x.1.slot, .int .i64 x.1.gen, .int .i64 x.1.tag, .int .i64 x.1.num, .bool x.1.mark, .bool x.2] 44)) 41 (cac za).toArray
  rw [World.size_alloc] at hq
  have HN := Lib.hid (Ur.mk (h.below hb2) hq (Only.of_below hb2) (Nat.le_succ _))
  clear h hb1 hb2 hbx hq
  unfold rpv
  go_enter Tryd.func16, Tryd.ntmps16
  go_upto_region 1 with fail
  show Code.wp _ _ _ _ ((w.alloc (.cells #[.int .i64 x.1.slot, .int .i64 x.1.gen, .int .i64 x.1.tag, .int .i64 x.1.num, .bool x.1.mark, .bool x.2] 44)).alloc (.cells (cac za).toArray 41))
  generalize (w.alloc (.cells #[.int .i64 x.1.slot, .int .i64 x.1.gen, .int .i64 x.1.tag, .int .i64 x.1.num, .bool x.1.mark, .bool x.2] 44)).alloc (.cells (cac za).toArray 41) = W at HX HN ⊢
  obtain ⟨v, hv⟩ : ∃ v, v = w.heap.size := ⟨_, rfl⟩
  have HNN : Hid (Ur w W b (v + 1) u) := Lib.hid (by rw [hv]; exact HN.out)
  clear HN
  rw [← hv] at HX ⊢
  clear hv
  have hvb : v ≠ b := BlkW.ne_ HX.out HNN.out.hu (by decide)
  have hz := BlkW.lt HNN.out.hu
  have c4 := HNN.out.hu.line
  have f4 := HNN.out.hu.frozen 4
  rw [hl] at c4
  clear hl
  have kw : wrap64 1 = 1 := IntWalk.wrap64_in _ ⟨by decide, by decide⟩
  go_upto_region 4 with fail
  show Code.wp _ _ _ _ (W.setCell ⟨b, 4, none⟩ (.int .i64 1))
  have HN := Lib.hid (HNN.out.line 1)
  replace HX := Lib.hid (HX.out.far hvb (i := 4) (.int .i64 1))
  clear HNN c4 f4 hz kw
  generalize W.setCell ⟨b, 4, none⟩ (.int .i64 1) = W at HX HN ⊢
  have hz := BlkW.lt HN.out.hu
  obtain ⟨b0, b1, b2, b3, b4, b5⟩ := rep6 HX.out
  have hzx := BlkW.lt HX.out
  go_wp2_with (refine wp_store_c HN.out.hq rfl (.tmp 4) (.tmp 18) rfl (by rfl) (cAlloc) (by rfl) ?_; intro W9 k1 k2; have R9 := Lib.hid (HN.out.fin k1 k2); clear k1 k2)
  exact bodyPost_ret (v := cav (cAlloc)) (rresults rfl _ (by rfl) (rans_load R9.out.hq)) rfl ⟨rfl, Lib.hid R9.out.hu, Lib.hid R9.out.off⟩
set_option maxRecDepth 100000 in
set_option maxHeartbeats 1000000 in
theorem renq_full (h : UAt w b u) (x : Wd × Bool) (hl : u.line = 1) (hx : x.2 = false) :
    Calls Tryd.prog 16 #[.pointer (some ⟨b, 0, none⟩), rpv x] w (UPost w b ((u.done 4 0).1) (cDone 4 0)) := by
  have HXX := Lib.hid hx
  clear hx
  have hb1 := below_alloc (Below.refl w.heap.size w) (.cells #[.int .i64 x.1.slot, .int .i64 x.1.gen, .int .i64 x.1.tag, .int .i64 x.1.num, .bool x.1.mark, .bool x.2] 44)
  have hb2 := below_alloc hb1 (.cells (cac za).toArray 41)
  have hbx := below_alloc (Below.refl (w.alloc (.cells #[.int .i64 x.1.slot, .int .i64 x.1.gen, .int .i64 x.1.tag, .int .i64 x.1.num, .bool x.1.mark, .bool x.2] 44)).heap.size (w.alloc (.cells #[.int .i64 x.1.slot, .int .i64 x.1.gen, .int .i64 x.1.tag, .int .i64 x.1.num, .bool x.1.mark, .bool x.2] 44))) (.cells (cac za).toArray 41)
  have HX := Lib.hid ((box_rep w x).below hbx)
  have hq := BlkW.new (w.alloc (.cells #[.int .i64 x.1.slot, .int .i64 x.1.gen, .int .i64 x.1.tag, .int .i64 x.1.num, .bool x.1.mark, .bool x.2] 44)) 41 (cac za).toArray
  rw [World.size_alloc] at hq
  have HN := Lib.hid (Ur.mk (h.below hb2) hq (Only.of_below hb2) (Nat.le_succ _))
  clear h hb1 hb2 hbx hq
  unfold rpv
  go_enter Tryd.func16, Tryd.ntmps16
  go_upto_region 1 with fail
  show Code.wp _ _ _ _ ((w.alloc (.cells #[.int .i64 x.1.slot, .int .i64 x.1.gen, .int .i64 x.1.tag, .int .i64 x.1.num, .bool x.1.mark, .bool x.2] 44)).alloc (.cells (cac za).toArray 41))
  generalize (w.alloc (.cells #[.int .i64 x.1.slot, .int .i64 x.1.gen, .int .i64 x.1.tag, .int .i64 x.1.num, .bool x.1.mark, .bool x.2] 44)).alloc (.cells (cac za).toArray 41) = W at HX HN ⊢
  obtain ⟨v, hv⟩ : ∃ v, v = w.heap.size := ⟨_, rfl⟩
  have HNN : Hid (Ur w W b (v + 1) u) := Lib.hid (by rw [hv]; exact HN.out)
  clear HN
  rw [← hv] at HX ⊢
  clear hv
  have hvb : v ≠ b := BlkW.ne_ HX.out HNN.out.hu (by decide)
  have hz := BlkW.lt HNN.out.hu
  have c4 := HNN.out.hu.line
  have f4 := HNN.out.hu.frozen 4
  rw [hl] at c4
  clear hl
  have kw : wrap64 2 = 2 := IntWalk.wrap64_in _ ⟨by decide, by decide⟩
  go_upto_region 4 with fail
  show Code.wp _ _ _ _ (W.setCell ⟨b, 4, none⟩ (.int .i64 2))
  have HN := Lib.hid (HNN.out.line 2)
  replace HX := Lib.hid (HX.out.far hvb (i := 4) (.int .i64 2))
  clear HNN c4 f4 hz kw
  generalize W.setCell ⟨b, 4, none⟩ (.int .i64 2) = W at HX HN ⊢
  have hz := BlkW.lt HN.out.hu
  obtain ⟨b0, b1, b2, b3, b4, b5⟩ := rep6 HX.out
  have hzx := BlkW.lt HX.out
  rw [HXX.out] at b5
  go_wp2_with fail
  refine (rdone_is HN.out.hu 4 0).mono ?_
  rintro e wk ⟨rfl, h1, h2⟩
  replace HN := Lib.hid (HN.out.after h1.out h2.out)
  clear h1 h2 b0 b1 b2 b3 b4 b5 hz hzx HX
  go_wp2_with (refine wp_store_c HN.out.hq rfl (.tmp 4) (.tmp 25) rfl (by rfl) (cDone 4 0) (by rfl) ?_; intro W9 k1 k2; have R9 := Lib.hid (HN.out.fin k1 k2); clear k1 k2)
  exact bodyPost_ret (v := cav (cDone 4 0)) (rresults rfl _ (by rfl) (rans_load R9.out.hq)) rfl ⟨rfl, Lib.hid R9.out.hu, Lib.hid R9.out.off⟩
set_option maxRecDepth 100000 in
set_option maxHeartbeats 1000000 in
theorem renq_given (h : UAt w b u) (x : Wd × Bool) (hl : u.line = 1) (hx : x.2 = true) :
    Calls Tryd.prog 16 #[.pointer (some ⟨b, 0, none⟩), rpv x] w (UPost w b ({ u with line := 2, node := x.1 }) ((cStore (fld x.1 1) (nw u.op.val)))) := by
  have HXX := Lib.hid hx
  clear hx
  have hb1 := below_alloc (Below.refl w.heap.size w) (.cells #[.int .i64 x.1.slot, .int .i64 x.1.gen, .int .i64 x.1.tag, .int .i64 x.1.num, .bool x.1.mark, .bool x.2] 44)
  have hb2 := below_alloc hb1 (.cells (cac za).toArray 41)
  have hbx := below_alloc (Below.refl (w.alloc (.cells #[.int .i64 x.1.slot, .int .i64 x.1.gen, .int .i64 x.1.tag, .int .i64 x.1.num, .bool x.1.mark, .bool x.2] 44)).heap.size (w.alloc (.cells #[.int .i64 x.1.slot, .int .i64 x.1.gen, .int .i64 x.1.tag, .int .i64 x.1.num, .bool x.1.mark, .bool x.2] 44))) (.cells (cac za).toArray 41)
  have HX := Lib.hid ((box_rep w x).below hbx)
  have hq := BlkW.new (w.alloc (.cells #[.int .i64 x.1.slot, .int .i64 x.1.gen, .int .i64 x.1.tag, .int .i64 x.1.num, .bool x.1.mark, .bool x.2] 44)) 41 (cac za).toArray
  rw [World.size_alloc] at hq
  have HN := Lib.hid (Ur.mk (h.below hb2) hq (Only.of_below hb2) (Nat.le_succ _))
  clear h hb1 hb2 hbx hq
  unfold rpv
  go_enter Tryd.func16, Tryd.ntmps16
  go_upto_region 1 with fail
  show Code.wp _ _ _ _ ((w.alloc (.cells #[.int .i64 x.1.slot, .int .i64 x.1.gen, .int .i64 x.1.tag, .int .i64 x.1.num, .bool x.1.mark, .bool x.2] 44)).alloc (.cells (cac za).toArray 41))
  generalize (w.alloc (.cells #[.int .i64 x.1.slot, .int .i64 x.1.gen, .int .i64 x.1.tag, .int .i64 x.1.num, .bool x.1.mark, .bool x.2] 44)).alloc (.cells (cac za).toArray 41) = W at HX HN ⊢
  obtain ⟨v, hv⟩ : ∃ v, v = w.heap.size := ⟨_, rfl⟩
  have HNN : Hid (Ur w W b (v + 1) u) := Lib.hid (by rw [hv]; exact HN.out)
  clear HN
  rw [← hv] at HX ⊢
  clear hv
  have hvb : v ≠ b := BlkW.ne_ HX.out HNN.out.hu (by decide)
  have hz := BlkW.lt HNN.out.hu
  have c4 := HNN.out.hu.line
  have f4 := HNN.out.hu.frozen 4
  rw [hl] at c4
  clear hl
  have kw : wrap64 2 = 2 := IntWalk.wrap64_in _ ⟨by decide, by decide⟩
  go_upto_region 4 with fail
  show Code.wp _ _ _ _ (W.setCell ⟨b, 4, none⟩ (.int .i64 2))
  have HN := Lib.hid (HNN.out.line 2)
  replace HX := Lib.hid (HX.out.far hvb (i := 4) (.int .i64 2))
  clear HNN c4 f4 hz kw
  generalize W.setCell ⟨b, 4, none⟩ (.int .i64 2) = W at HX HN ⊢
  have hz := BlkW.lt HN.out.hu
  obtain ⟨b0, b1, b2, b3, b4, b5⟩ := rep6 HX.out
  have hzx := BlkW.lt HX.out
  rw [HXX.out] at b5
  obtain ⟨t0, t1, t2, t3, t4⟩ := HN.out.hu.node5
  have fz : ∀ o, W.frozen? ⟨b, o, none⟩ = false := HN.out.hu.frozen
  go_upto_region 10 with fail
  show Code.wp _ _ _ _ (W.setCells b 5 (wc x.1))
  replace HN := Lib.hid (HN.out.puts 5 (wc x.1) (u' := { u with line := 2, node := x.1 }) (by kernel_rfl))
  clear t0 t1 t2 t3 t4 fz b0 b1 b2 b3 b4 b5 hz hzx HX
  generalize W.setCells b 5 (wc x.1) = W at HN ⊢
  have hz := BlkW.lt HN.out.hu
  go_upto_region 10 with fail
  clear hvb
  refine wp_region_held (S := fun W' => UAt W' b { u with line := 2, node := x.1 }) (by kernel_rfl) ?_
  have hS : UAt W.drew b { u with line := 2, node := x.1 } := HN.out.hu.drew
  replace HN := Lib.hid (HN.out.below (Below.refl _ _).drew)
  clear hz
  show wpAnyH _ _ _ _ _ 13 #[false, false, false, false, false, false, false, false, false, false, false, false, false] _ W.drew
  generalize W.drew = W at HN hS ⊢
  refine wpAnyH_take (i := 0) (v := .pointer (some ⟨b, 0, none⟩)) rfl (by kernel_rfl) (by kernel_rfl) (by kernel_rfl) (fun _ _ _ h => h) (Or.inl ⟨by rfl, fun w' _ => by go_simp⟩) hS ?_
  simp only [Act.put, List.getElem_toArray, List.getElem_cons_succ, List.getElem_cons_zero, List.setIfInBounds_toArray, List.set_cons_zero, List.set_cons_succ]
  refine wpAnyH_take (i := 1) (v := .pointer (some ⟨b, 0, none⟩)) rfl (by kernel_rfl) (by kernel_rfl) (by kernel_rfl) (fun _ _ _ h => h) (Or.inl ⟨by rfl, fun w' _ => by go_simp⟩) hS ?_
  simp only [Act.put, List.getElem_toArray, List.getElem_cons_succ, List.getElem_cons_zero, List.setIfInBounds_toArray, List.set_cons_zero, List.set_cons_succ]
  refine wpAnyH_take (i := 2) (v := .pointer (some ⟨b, 5, none⟩)) rfl (by kernel_rfl) (by kernel_rfl) (by kernel_rfl) (fun _ _ _ h => h) (Or.inl ⟨by rfl, fun w' _ => by go_simp⟩) hS ?_
  simp only [Act.put, List.getElem_toArray, List.getElem_cons_succ, List.getElem_cons_zero, List.setIfInBounds_toArray, List.set_cons_zero, List.set_cons_succ]
  refine wpAnyH_take (i := 3) (v := .agg (wc x.1).toArray) rfl (by kernel_rfl) (by kernel_rfl) (by kernel_rfl) (fun _ _ _ h => h) (yieldsIf_load_mid (by rfl) 37 (.tmp 33) rfl b 5 rfl (wc x.1) _ (fun w' h => UAt.range h 5 (wc x.1) (by kernel_rfl)) Tryd.underlying37 rfl infoWd) hS ?_
  simp only [Act.put, List.getElem_toArray, List.getElem_cons_succ, List.getElem_cons_zero, List.setIfInBounds_toArray, List.set_cons_zero, List.set_cons_succ]
  refine wpAnyH_take (i := 5) (v := .pointer (some ⟨b, 0, none⟩)) rfl (by kernel_rfl) (by kernel_rfl) (by kernel_rfl) (fun _ _ _ h => h) (Or.inl ⟨by rfl, fun w' _ => by go_simp⟩) hS ?_
  simp only [Act.put, List.getElem_toArray, List.getElem_cons_succ, List.getElem_cons_zero, List.setIfInBounds_toArray, List.set_cons_zero, List.set_cons_succ]
  refine wpAnyH_take (i := 6) (v := .pointer (some ⟨b, 0, none⟩)) rfl (by kernel_rfl) (by kernel_rfl) (by kernel_rfl) (fun _ _ _ h => h) (Or.inl ⟨by rfl, fun w' _ => by go_simp⟩) hS ?_
  simp only [Act.put, List.getElem_toArray, List.getElem_cons_succ, List.getElem_cons_zero, List.setIfInBounds_toArray, List.set_cons_zero, List.set_cons_succ]
  refine wpAnyH_take (i := 7) (v := .pointer (some ⟨b, 0, none⟩)) rfl (by kernel_rfl) (by kernel_rfl) (by kernel_rfl) (fun _ _ _ h => h) (Or.inl ⟨by rfl, fun w' _ => by go_simp⟩) hS ?_
  simp only [Act.put, List.getElem_toArray, List.getElem_cons_succ, List.getElem_cons_zero, List.setIfInBounds_toArray, List.set_cons_zero, List.set_cons_succ]
  refine wpAnyH_take (i := 8) (v := .pointer (some ⟨b, 2, none⟩)) rfl (by kernel_rfl) (by kernel_rfl) (by kernel_rfl) (fun _ _ _ h => h) (Or.inl ⟨by rfl, fun w' _ => by go_simp⟩) hS ?_
  simp only [Act.put, List.getElem_toArray, List.getElem_cons_succ, List.getElem_cons_zero, List.setIfInBounds_toArray, List.set_cons_zero, List.set_cons_succ]
  refine wpAnyH_take (i := 9) (v := .int .i64 u.op.val) rfl (by kernel_rfl) (by kernel_rfl) (by kernel_rfl) (fun _ _ _ h => h) (Or.inl ⟨by rfl, fun w' h => by have hv := UAt.oval h; go_simp⟩) hS ?_
  simp only [Act.put, List.getElem_toArray, List.getElem_cons_succ, List.getElem_cons_zero, List.setIfInBounds_toArray, List.set_cons_zero, List.set_cons_succ]
  refine wpAnyH_take (i := 10) (v := .agg (wc (nw u.op.val)).toArray) rfl (by kernel_rfl) (by kernel_rfl) (by kernel_rfl) (fun _ _ _ h => h) (Or.inl ⟨by rfl, fun w' _ => by kernel_rfl⟩) hS ?_
  simp only [Act.put, List.getElem_toArray, List.getElem_cons_succ, List.getElem_cons_zero, List.setIfInBounds_toArray, List.set_cons_zero, List.set_cons_succ]
  refine wpAnyH_ready (rs := [4]) (by kernel_rfl) (by simp) ?_
  refine AllReadyH.cons rfl (fun K hK => ?_) AllReadyH.nil
  rw [if_pos (by rfl)]
  go_simp
  refine (at_is x.1.slot x.1.gen x.1.tag x.1.num x.1.mark 1 _).mono ?_
  rintro e wk ⟨rfl, hb⟩
  replace HN := Lib.hid (HN.out.below hb)
  refine hK.out _ _ (hS.below hb) (fun _ => ?_)
  replace hS := hS.below hb
  clear hb hK K
  refine wpAnyH_take (i := 11) (v := .agg (cac (cStore (fld x.1 1) (nw u.op.val))).toArray) rfl (by kernel_rfl) (by kernel_rfl) (by kernel_rfl) (fun _ _ _ h => h) (Or.inl ⟨by rfl, fun w' _ => by kernel_rfl⟩) hS ?_
  simp only [Act.put, List.getElem_toArray, List.getElem_cons_succ, List.getElem_cons_zero, List.setIfInBounds_toArray, List.set_cons_zero, List.set_cons_succ]
  refine wpAnyH_ready (rs := [12]) (by kernel_rfl) (by simp) ?_
  refine AllReadyH.cons rfl (fun K hK => ?_) AllReadyH.nil
  refine step_store_c HN.out.hq rfl (.tmp 4) (.tmp 42) rfl (by rfl) (cStore (fld x.1 1) (nw u.op.val)) (by rfl) ?_
  intro W9 k1 k2
  have K9 := Lib.hid (HN.out.fin k1 k2)
  refine hK.out _ _ K9.out.hu (fun _ => ?_)
  refine wpAnyH_done (by kernel_rfl) ?_ _
  clear hK K hS HN k1 k2
  go_wp2
  exact bodyPost_ret (v := cav (cStore (fld x.1 1) (nw u.op.val))) (rresults rfl _ (by rfl) (rans_load K9.out.hq)) rfl ⟨rfl, Lib.hid K9.out.hu, Lib.hid K9.out.off⟩
set_option maxRecDepth 100000 in
set_option maxHeartbeats 1000000 in
theorem renq_2 (h : UAt w b u) (x : Wd × Bool) (hl : u.line = 2)  :
    Calls Tryd.prog 16 #[.pointer (some ⟨b, 0, none⟩), rpv x] w (UPost w b (u.at_ 3) (cProtect (0, 0, 1) 0)) := by
  have hb1 := below_alloc (Below.refl w.heap.size w) (.cells #[.int .i64 x.1.slot, .int .i64 x.1.gen, .int .i64 x.1.tag, .int .i64 x.1.num, .bool x.1.mark, .bool x.2] 44)
  have hb2 := below_alloc hb1 (.cells (cac za).toArray 41)
  have hbx := below_alloc (Below.refl (w.alloc (.cells #[.int .i64 x.1.slot, .int .i64 x.1.gen, .int .i64 x.1.tag, .int .i64 x.1.num, .bool x.1.mark, .bool x.2] 44)).heap.size (w.alloc (.cells #[.int .i64 x.1.slot, .int .i64 x.1.gen, .int .i64 x.1.tag, .int .i64 x.1.num, .bool x.1.mark, .bool x.2] 44))) (.cells (cac za).toArray 41)
  have HX := Lib.hid ((box_rep w x).below hbx)
  have hq := BlkW.new (w.alloc (.cells #[.int .i64 x.1.slot, .int .i64 x.1.gen, .int .i64 x.1.tag, .int .i64 x.1.num, .bool x.1.mark, .bool x.2] 44)) 41 (cac za).toArray
  rw [World.size_alloc] at hq
  have HN := Lib.hid (Ur.mk (h.below hb2) hq (Only.of_below hb2) (Nat.le_succ _))
  clear h hb1 hb2 hbx hq
  unfold rpv
  go_enter Tryd.func16, Tryd.ntmps16
  go_upto_region 1 with fail
  show Code.wp _ _ _ _ ((w.alloc (.cells #[.int .i64 x.1.slot, .int .i64 x.1.gen, .int .i64 x.1.tag, .int .i64 x.1.num, .bool x.1.mark, .bool x.2] 44)).alloc (.cells (cac za).toArray 41))
  generalize (w.alloc (.cells #[.int .i64 x.1.slot, .int .i64 x.1.gen, .int .i64 x.1.tag, .int .i64 x.1.num, .bool x.1.mark, .bool x.2] 44)).alloc (.cells (cac za).toArray 41) = W at HX HN ⊢
  obtain ⟨v, hv⟩ : ∃ v, v = w.heap.size := ⟨_, rfl⟩
  have HNN : Hid (Ur w W b (v + 1) u) := Lib.hid (by rw [hv]; exact HN.out)
  clear HN
  rw [← hv] at HX ⊢
  clear hv
  have hvb : v ≠ b := BlkW.ne_ HX.out HNN.out.hu (by decide)
  have hz := BlkW.lt HNN.out.hu
  have c4 := HNN.out.hu.line
  have f4 := HNN.out.hu.frozen 4
  rw [hl] at c4
  clear hl
  have kw : wrap64 3 = 3 := IntWalk.wrap64_in _ ⟨by decide, by decide⟩
  go_upto_region 4 with fail
  show Code.wp _ _ _ _ (W.setCell ⟨b, 4, none⟩ (.int .i64 3))
  have HN := Lib.hid (HNN.out.line 3)
  replace HX := Lib.hid (HX.out.far hvb (i := 4) (.int .i64 3))
  clear HNN c4 f4 hz kw
  generalize W.setCell ⟨b, 4, none⟩ (.int .i64 3) = W at HX HN ⊢
  have hz := BlkW.lt HN.out.hu
  obtain ⟨b0, b1, b2, b3, b4, b5⟩ := rep6 HX.out
  have hzx := BlkW.lt HX.out
  have f4 := HN.out.hu.frozen 4
  have c4 := HN.out.hu.line
  go_upto_region 29 with fail
  show Code.wp _ _ _ _ (W.setCell ⟨b, 4, none⟩ (.int .i64 3))
  replace HN := Lib.hid (HN.out.line 3)
  replace HX := Lib.hid (HX.out.far hvb (i := 4) (.int .i64 3))
  clear f4 c4 b0 b1 b2 b3 b4 b5 hz hzx
  generalize W.setCell ⟨b, 4, none⟩ (.int .i64 3) = W at HX HN ⊢
  have hz := BlkW.lt HN.out.hu
  obtain ⟨b0, b1, b2, b3, b4, b5⟩ := rep6 HX.out
  have hzx := BlkW.lt HX.out
  go_wp2_with fail
  refine (rroot_is 1 _).mono ?_
  rintro e wk ⟨rfl, hb⟩
  replace HN := Lib.hid (HN.out.below hb)
  clear hb hz
  try clear t0 t1 t2 t3 t4
  have hz := BlkW.lt HN.out.hu
  go_wp2_with (refine wp_store_c HN.out.hq rfl (.tmp 4) (.tmp 138) rfl (by rfl) (cProtect (0, 0, 1) 0) (by rfl) ?_; intro W9 k1 k2; have R9 := Lib.hid (HN.out.fin k1 k2); clear k1 k2)
  exact bodyPost_ret (v := cav (cProtect (0, 0, 1) 0)) (rresults rfl _ (by rfl) (rans_load R9.out.hq)) rfl ⟨rfl, Lib.hid R9.out.hu, Lib.hid R9.out.off⟩
set_option maxRecDepth 100000 in
set_option maxHeartbeats 1000000 in
theorem renq_6 (h : UAt w b u) (x : Wd × Bool) (hl : u.line = 6)  :
    Calls Tryd.prog 16 #[.pointer (some ⟨b, 0, none⟩), rpv x] w (UPost w b (u.at_ 3) (cProtect (0, 0, 1) 0)) := by
  have hb1 := below_alloc (Below.refl w.heap.size w) (.cells #[.int .i64 x.1.slot, .int .i64 x.1.gen, .int .i64 x.1.tag, .int .i64 x.1.num, .bool x.1.mark, .bool x.2] 44)
  have hb2 := below_alloc hb1 (.cells (cac za).toArray 41)
  have hbx := below_alloc (Below.refl (w.alloc (.cells #[.int .i64 x.1.slot, .int .i64 x.1.gen, .int .i64 x.1.tag, .int .i64 x.1.num, .bool x.1.mark, .bool x.2] 44)).heap.size (w.alloc (.cells #[.int .i64 x.1.slot, .int .i64 x.1.gen, .int .i64 x.1.tag, .int .i64 x.1.num, .bool x.1.mark, .bool x.2] 44))) (.cells (cac za).toArray 41)
  have HX := Lib.hid ((box_rep w x).below hbx)
  have hq := BlkW.new (w.alloc (.cells #[.int .i64 x.1.slot, .int .i64 x.1.gen, .int .i64 x.1.tag, .int .i64 x.1.num, .bool x.1.mark, .bool x.2] 44)) 41 (cac za).toArray
  rw [World.size_alloc] at hq
  have HN := Lib.hid (Ur.mk (h.below hb2) hq (Only.of_below hb2) (Nat.le_succ _))
  clear h hb1 hb2 hbx hq
  unfold rpv
  go_enter Tryd.func16, Tryd.ntmps16
  go_upto_region 1 with fail
  show Code.wp _ _ _ _ ((w.alloc (.cells #[.int .i64 x.1.slot, .int .i64 x.1.gen, .int .i64 x.1.tag, .int .i64 x.1.num, .bool x.1.mark, .bool x.2] 44)).alloc (.cells (cac za).toArray 41))
  generalize (w.alloc (.cells #[.int .i64 x.1.slot, .int .i64 x.1.gen, .int .i64 x.1.tag, .int .i64 x.1.num, .bool x.1.mark, .bool x.2] 44)).alloc (.cells (cac za).toArray 41) = W at HX HN ⊢
  obtain ⟨v, hv⟩ : ∃ v, v = w.heap.size := ⟨_, rfl⟩
  have HNN : Hid (Ur w W b (v + 1) u) := Lib.hid (by rw [hv]; exact HN.out)
  clear HN
  rw [← hv] at HX ⊢
  clear hv
  have hvb : v ≠ b := BlkW.ne_ HX.out HNN.out.hu (by decide)
  have hz := BlkW.lt HNN.out.hu
  have c4 := HNN.out.hu.line
  have f4 := HNN.out.hu.frozen 4
  rw [hl] at c4
  clear hl
  have kw : wrap64 7 = 7 := IntWalk.wrap64_in _ ⟨by decide, by decide⟩
  go_upto_region 4 with fail
  show Code.wp _ _ _ _ (W.setCell ⟨b, 4, none⟩ (.int .i64 7))
  have HN := Lib.hid (HNN.out.line 7)
  replace HX := Lib.hid (HX.out.far hvb (i := 4) (.int .i64 7))
  clear HNN c4 f4 hz kw
  generalize W.setCell ⟨b, 4, none⟩ (.int .i64 7) = W at HX HN ⊢
  have hz := BlkW.lt HN.out.hu
  obtain ⟨b0, b1, b2, b3, b4, b5⟩ := rep6 HX.out
  have hzx := BlkW.lt HX.out
  have f4 := HN.out.hu.frozen 4
  have c4 := HN.out.hu.line
  go_upto_region 29 with fail
  show Code.wp _ _ _ _ (W.setCell ⟨b, 4, none⟩ (.int .i64 3))
  replace HN := Lib.hid (HN.out.line 3)
  replace HX := Lib.hid (HX.out.far hvb (i := 4) (.int .i64 3))
  clear f4 c4 b0 b1 b2 b3 b4 b5 hz hzx
  generalize W.setCell ⟨b, 4, none⟩ (.int .i64 3) = W at HX HN ⊢
  have hz := BlkW.lt HN.out.hu
  obtain ⟨b0, b1, b2, b3, b4, b5⟩ := rep6 HX.out
  have hzx := BlkW.lt HX.out
  go_wp2_with fail
  refine (rroot_is 1 _).mono ?_
  rintro e wk ⟨rfl, hb⟩
  replace HN := Lib.hid (HN.out.below hb)
  clear hb hz
  try clear t0 t1 t2 t3 t4
  have hz := BlkW.lt HN.out.hu
  go_wp2_with (refine wp_store_c HN.out.hq rfl (.tmp 4) (.tmp 138) rfl (by rfl) (cProtect (0, 0, 1) 0) (by rfl) ?_; intro W9 k1 k2; have R9 := Lib.hid (HN.out.fin k1 k2); clear k1 k2)
  exact bodyPost_ret (v := cav (cProtect (0, 0, 1) 0)) (rresults rfl _ (by rfl) (rans_load R9.out.hq)) rfl ⟨rfl, Lib.hid R9.out.hu, Lib.hid R9.out.off⟩
set_option maxRecDepth 100000 in
set_option maxHeartbeats 1000000 in
theorem renq_3 (h : UAt w b u) (x : Wd × Bool) (hl : u.line = 3)  :
    Calls Tryd.prog 16 #[.pointer (some ⟨b, 0, none⟩), rpv x] w (UPost w b ({ u with line := 4, t := x.1 }) (cLoad (fld x.1 2))) := by
  have hb1 := below_alloc (Below.refl w.heap.size w) (.cells #[.int .i64 x.1.slot, .int .i64 x.1.gen, .int .i64 x.1.tag, .int .i64 x.1.num, .bool x.1.mark, .bool x.2] 44)
  have hb2 := below_alloc hb1 (.cells (cac za).toArray 41)
  have hbx := below_alloc (Below.refl (w.alloc (.cells #[.int .i64 x.1.slot, .int .i64 x.1.gen, .int .i64 x.1.tag, .int .i64 x.1.num, .bool x.1.mark, .bool x.2] 44)).heap.size (w.alloc (.cells #[.int .i64 x.1.slot, .int .i64 x.1.gen, .int .i64 x.1.tag, .int .i64 x.1.num, .bool x.1.mark, .bool x.2] 44))) (.cells (cac za).toArray 41)
  have HX := Lib.hid ((box_rep w x).below hbx)
  have hq := BlkW.new (w.alloc (.cells #[.int .i64 x.1.slot, .int .i64 x.1.gen, .int .i64 x.1.tag, .int .i64 x.1.num, .bool x.1.mark, .bool x.2] 44)) 41 (cac za).toArray
  rw [World.size_alloc] at hq
  have HN := Lib.hid (Ur.mk (h.below hb2) hq (Only.of_below hb2) (Nat.le_succ _))
  clear h hb1 hb2 hbx hq
  unfold rpv
  go_enter Tryd.func16, Tryd.ntmps16
  go_upto_region 1 with fail
  show Code.wp _ _ _ _ ((w.alloc (.cells #[.int .i64 x.1.slot, .int .i64 x.1.gen, .int .i64 x.1.tag, .int .i64 x.1.num, .bool x.1.mark, .bool x.2] 44)).alloc (.cells (cac za).toArray 41))
  generalize (w.alloc (.cells #[.int .i64 x.1.slot, .int .i64 x.1.gen, .int .i64 x.1.tag, .int .i64 x.1.num, .bool x.1.mark, .bool x.2] 44)).alloc (.cells (cac za).toArray 41) = W at HX HN ⊢
  obtain ⟨v, hv⟩ : ∃ v, v = w.heap.size := ⟨_, rfl⟩
  have HNN : Hid (Ur w W b (v + 1) u) := Lib.hid (by rw [hv]; exact HN.out)
  clear HN
  rw [← hv] at HX ⊢
  clear hv
  have hvb : v ≠ b := BlkW.ne_ HX.out HNN.out.hu (by decide)
  have hz := BlkW.lt HNN.out.hu
  have c4 := HNN.out.hu.line
  have f4 := HNN.out.hu.frozen 4
  rw [hl] at c4
  clear hl
  have kw : wrap64 4 = 4 := IntWalk.wrap64_in _ ⟨by decide, by decide⟩
  go_upto_region 4 with fail
  show Code.wp _ _ _ _ (W.setCell ⟨b, 4, none⟩ (.int .i64 4))
  have HN := Lib.hid (HNN.out.line 4)
  replace HX := Lib.hid (HX.out.far hvb (i := 4) (.int .i64 4))
  clear HNN c4 f4 hz kw
  generalize W.setCell ⟨b, 4, none⟩ (.int .i64 4) = W at HX HN ⊢
  have hz := BlkW.lt HN.out.hu
  obtain ⟨b0, b1, b2, b3, b4, b5⟩ := rep6 HX.out
  have hzx := BlkW.lt HX.out
  obtain ⟨t0, t1, t2, t3, t4⟩ := HN.out.hu.t5
  have fz : ∀ o, W.frozen? ⟨b, o, none⟩ = false := HN.out.hu.frozen
  go_upto_region 13 with fail
  show Code.wp _ _ _ _ (W.setCells b 15 (wc x.1))
  replace HN := Lib.hid (HN.out.puts 15 (wc x.1) (u' := { u with line := 4, t := x.1 }) (by kernel_rfl))
  clear t0 t1 t2 t3 t4 fz b0 b1 b2 b3 b4 b5 hz hzx HX
  generalize W.setCells b 15 (wc x.1) = W at HN ⊢
  have hz := BlkW.lt HN.out.hu
  obtain ⟨t0, t1, t2, t3, t4⟩ : W.cell? ⟨b, 15, none⟩ = some (.int .i64 x.1.slot) ∧ W.cell? ⟨b, 16, none⟩ = some (.int .i64 x.1.gen) ∧ W.cell? ⟨b, 17, none⟩ = some (.int .i64 x.1.tag) ∧ W.cell? ⟨b, 18, none⟩ = some (.int .i64 x.1.num) ∧ W.cell? ⟨b, 19, none⟩ = some (.bool x.1.mark) := HN.out.hu.t5
  go_wp2_with fail
  refine (at_is _ _ _ _ _ _ _).mono ?_
  rintro e wk ⟨rfl, hb⟩
  replace HN := Lib.hid (HN.out.below hb)
  clear hb hz
  try clear t0 t1 t2 t3 t4
  have hz := BlkW.lt HN.out.hu
  go_wp2_with (refine wp_store_c HN.out.hq rfl (.tmp 4) (.tmp 55) rfl (by rfl) (cLoad (fld x.1 2)) (by rfl) ?_; intro W9 k1 k2; have R9 := Lib.hid (HN.out.fin k1 k2); clear k1 k2)
  exact bodyPost_ret (v := cav (cLoad (fld x.1 2))) (rresults rfl _ (by rfl) (rans_load R9.out.hq)) rfl ⟨rfl, Lib.hid R9.out.hu, Lib.hid R9.out.off⟩
set_option maxRecDepth 100000 in
set_option maxHeartbeats 1000000 in
theorem renq_4 (h : UAt w b u) (x : Wd × Bool) (hl : u.line = 4)  :
    Calls Tryd.prog 16 #[.pointer (some ⟨b, 0, none⟩), rpv x] w (UPost w b ({ u with line := 5, n := x.1 }) (cLoad (0, 0, 1))) := by
  have hb1 := below_alloc (Below.refl w.heap.size w) (.cells #[.int .i64 x.1.slot, .int .i64 x.1.gen, .int .i64 x.1.tag, .int .i64 x.1.num, .bool x.1.mark, .bool x.2] 44)
  have hb2 := below_alloc hb1 (.cells (cac za).toArray 41)
  have hbx := below_alloc (Below.refl (w.alloc (.cells #[.int .i64 x.1.slot, .int .i64 x.1.gen, .int .i64 x.1.tag, .int .i64 x.1.num, .bool x.1.mark, .bool x.2] 44)).heap.size (w.alloc (.cells #[.int .i64 x.1.slot, .int .i64 x.1.gen, .int .i64 x.1.tag, .int .i64 x.1.num, .bool x.1.mark, .bool x.2] 44))) (.cells (cac za).toArray 41)
  have HX := Lib.hid ((box_rep w x).below hbx)
  have hq := BlkW.new (w.alloc (.cells #[.int .i64 x.1.slot, .int .i64 x.1.gen, .int .i64 x.1.tag, .int .i64 x.1.num, .bool x.1.mark, .bool x.2] 44)) 41 (cac za).toArray
  rw [World.size_alloc] at hq
  have HN := Lib.hid (Ur.mk (h.below hb2) hq (Only.of_below hb2) (Nat.le_succ _))
  clear h hb1 hb2 hbx hq
  unfold rpv
  go_enter Tryd.func16, Tryd.ntmps16
  go_upto_region 1 with fail
  show Code.wp _ _ _ _ ((w.alloc (.cells #[.int .i64 x.1.slot, .int .i64 x.1.gen, .int .i64 x.1.tag, .int .i64 x.1.num, .bool x.1.mark, .bool x.2] 44)).alloc (.cells (cac za).toArray 41))
  generalize (w.alloc (.cells #[.int .i64 x.1.slot, .int .i64 x.1.gen, .int .i64 x.1.tag, .int .i64 x.1.num, .bool x.1.mark, .bool x.2] 44)).alloc (.cells (cac za).toArray 41) = W at HX HN ⊢
  obtain ⟨v, hv⟩ : ∃ v, v = w.heap.size := ⟨_, rfl⟩
  have HNN : Hid (Ur w W b (v + 1) u) := Lib.hid (by rw [hv]; exact HN.out)
  clear HN
  rw [← hv] at HX ⊢
  clear hv
  have hvb : v ≠ b := BlkW.ne_ HX.out HNN.out.hu (by decide)
  have hz := BlkW.lt HNN.out.hu
  have c4 := HNN.out.hu.line
  have f4 := HNN.out.hu.frozen 4
  rw [hl] at c4
  clear hl
  have kw : wrap64 5 = 5 := IntWalk.wrap64_in _ ⟨by decide, by decide⟩
  go_upto_region 4 with fail
  show Code.wp _ _ _ _ (W.setCell ⟨b, 4, none⟩ (.int .i64 5))
  have HN := Lib.hid (HNN.out.line 5)
  replace HX := Lib.hid (HX.out.far hvb (i := 4) (.int .i64 5))
  clear HNN c4 f4 hz kw
  generalize W.setCell ⟨b, 4, none⟩ (.int .i64 5) = W at HX HN ⊢
  have hz := BlkW.lt HN.out.hu
  obtain ⟨b0, b1, b2, b3, b4, b5⟩ := rep6 HX.out
  have hzx := BlkW.lt HX.out
  obtain ⟨t0, t1, t2, t3, t4⟩ := HN.out.hu.n5
  have fz : ∀ o, W.frozen? ⟨b, o, none⟩ = false := HN.out.hu.frozen
  go_upto_region 16 with fail
  show Code.wp _ _ _ _ (W.setCells b 20 (wc x.1))
  replace HN := Lib.hid (HN.out.puts 20 (wc x.1) (u' := { u with line := 5, n := x.1 }) (by kernel_rfl))
  clear t0 t1 t2 t3 t4 fz b0 b1 b2 b3 b4 b5 hz hzx HX
  generalize W.setCells b 20 (wc x.1) = W at HN ⊢
  have hz := BlkW.lt HN.out.hu
  go_wp2_with fail
  refine (rroot_is 1 _).mono ?_
  rintro e wk ⟨rfl, hb⟩
  replace HN := Lib.hid (HN.out.below hb)
  clear hb hz
  try clear t0 t1 t2 t3 t4
  have hz := BlkW.lt HN.out.hu
  go_wp2_with (refine wp_store_c HN.out.hq rfl (.tmp 4) (.tmp 64) rfl (by rfl) (cLoad (0, 0, 1)) (by rfl) ?_; intro W9 k1 k2; have R9 := Lib.hid (HN.out.fin k1 k2); clear k1 k2)
  exact bodyPost_ret (v := cav (cLoad (0, 0, 1))) (rresults rfl _ (by rfl) (rans_load R9.out.hq)) rfl ⟨rfl, Lib.hid R9.out.hu, Lib.hid R9.out.off⟩
set_option maxRecDepth 100000 in
set_option maxHeartbeats 1000000 in
theorem renq_other (h : UAt w b u) (x : Wd × Bool) (hl : u.line = 5) (hx : sameW x.1 u.t = false) :
    Calls Tryd.prog 16 #[.pointer (some ⟨b, 0, none⟩), rpv x] w (UPost w b (u.at_ 3) (cProtect (0, 0, 1) 0)) := by
  have HXX := Lib.hid hx
  clear hx
  have hb1 := below_alloc (Below.refl w.heap.size w) (.cells #[.int .i64 x.1.slot, .int .i64 x.1.gen, .int .i64 x.1.tag, .int .i64 x.1.num, .bool x.1.mark, .bool x.2] 44)
  have hb2 := below_alloc hb1 (.cells (cac za).toArray 41)
  have hbx := below_alloc (Below.refl (w.alloc (.cells #[.int .i64 x.1.slot, .int .i64 x.1.gen, .int .i64 x.1.tag, .int .i64 x.1.num, .bool x.1.mark, .bool x.2] 44)).heap.size (w.alloc (.cells #[.int .i64 x.1.slot, .int .i64 x.1.gen, .int .i64 x.1.tag, .int .i64 x.1.num, .bool x.1.mark, .bool x.2] 44))) (.cells (cac za).toArray 41)
  have HX := Lib.hid ((box_rep w x).below hbx)
  have hq := BlkW.new (w.alloc (.cells #[.int .i64 x.1.slot, .int .i64 x.1.gen, .int .i64 x.1.tag, .int .i64 x.1.num, .bool x.1.mark, .bool x.2] 44)) 41 (cac za).toArray
  rw [World.size_alloc] at hq
  have HN := Lib.hid (Ur.mk (h.below hb2) hq (Only.of_below hb2) (Nat.le_succ _))
  clear h hb1 hb2 hbx hq
  unfold rpv
  go_enter Tryd.func16, Tryd.ntmps16
  go_upto_region 1 with fail
  show Code.wp _ _ _ _ ((w.alloc (.cells #[.int .i64 x.1.slot, .int .i64 x.1.gen, .int .i64 x.1.tag, .int .i64 x.1.num, .bool x.1.mark, .bool x.2] 44)).alloc (.cells (cac za).toArray 41))
  generalize (w.alloc (.cells #[.int .i64 x.1.slot, .int .i64 x.1.gen, .int .i64 x.1.tag, .int .i64 x.1.num, .bool x.1.mark, .bool x.2] 44)).alloc (.cells (cac za).toArray 41) = W at HX HN ⊢
  obtain ⟨v, hv⟩ : ∃ v, v = w.heap.size := ⟨_, rfl⟩
  have HNN : Hid (Ur w W b (v + 1) u) := Lib.hid (by rw [hv]; exact HN.out)
  clear HN
  rw [← hv] at HX ⊢
  clear hv
  have hvb : v ≠ b := BlkW.ne_ HX.out HNN.out.hu (by decide)
  have hz := BlkW.lt HNN.out.hu
  have c4 := HNN.out.hu.line
  have f4 := HNN.out.hu.frozen 4
  rw [hl] at c4
  clear hl
  have kw : wrap64 6 = 6 := IntWalk.wrap64_in _ ⟨by decide, by decide⟩
  go_upto_region 4 with fail
  show Code.wp _ _ _ _ (W.setCell ⟨b, 4, none⟩ (.int .i64 6))
  have HN := Lib.hid (HNN.out.line 6)
  replace HX := Lib.hid (HX.out.far hvb (i := 4) (.int .i64 6))
  clear HNN c4 f4 hz kw
  generalize W.setCell ⟨b, 4, none⟩ (.int .i64 6) = W at HX HN ⊢
  have hz := BlkW.lt HN.out.hu
  obtain ⟨b0, b1, b2, b3, b4, b5⟩ := rep6 HX.out
  have hzx := BlkW.lt HX.out
  go_upto_region 18 with fail
  replace b0 := cell_regrown b0
  replace b1 := cell_regrown b1
  replace b2 := cell_regrown b2
  replace b3 := cell_regrown b3
  replace b4 := cell_regrown b4
  obtain ⟨q0, q1, q2, q3, q4⟩ : W.cell? ⟨b, 15, none⟩ = some (.int .i64 u.t.slot) ∧ W.cell? ⟨b, 16, none⟩ = some (.int .i64 u.t.gen) ∧ W.cell? ⟨b, 17, none⟩ = some (.int .i64 u.t.tag) ∧ W.cell? ⟨b, 18, none⟩ = some (.int .i64 u.t.num) ∧ W.cell? ⟨b, 19, none⟩ = some (.bool u.t.mark) := HN.out.hu.t5
  replace q0 := cell_regrown q0
  replace q1 := cell_regrown q1
  replace q2 := cell_regrown q2
  replace q3 := cell_regrown q3
  replace q4 := cell_regrown q4
  have qn : W.cell? ⟨b, 20, none⟩ = some (.int .i64 u.n.slot) := HN.out.hu.n5.1
  replace qn := cell_regrown qn
  have HC : Hid (∀ d os, Calls Tryd.prog 34 #[.agg #[.int .i64 x.1.slot, .int .i64 x.1.gen, .int .i64 x.1.tag, .int .i64 x.1.num, .bool x.1.mark], .agg #[.int .i64 u.t.slot, .int .i64 u.t.gen, .int .i64 u.t.tag, .int .i64 u.t.num, .bool u.t.mark]] (grow (redrawn W d) os) fun e w'' => e = .returned (.bool false) ∧ ∃ p : Regrown, w'' = grow (redrawn W p.d) p.os) := Lib.hid (fun d os => Calls.regrown_of (rSame_is HXX.out _))
  refine wp_region_quiet_below (by kernel_rfl) (by kernel_rfl) ?_
  repeat (go_big_quiet_step ((first | with_reducible exact HC.out _ _)))
  refine wpQuiet_nil ?_
  intro _ hw'
  obtain ⟨⟨dq, osq⟩, hw''⟩ := hw'
  subst hw''
  have hb := below_regrown W dq osq
  replace HN := Lib.hid (HN.out.below hb)
  replace HX := Lib.hid (HX.out.below hb)
  clear b0 b1 b2 b3 b4 b5 hz hzx q0 q1 q2 q3 q4 HC hb
  try clear qn QN
  generalize grow (redrawn W dq) osq = W at HX HN ⊢
  have hz := BlkW.lt HN.out.hu
  obtain ⟨b0, b1, b2, b3, b4, b5⟩ := rep6 HX.out
  have hzx := BlkW.lt HX.out
  go_upto_region 20 with fail
  replace b0 := cell_regrown b0
  replace b1 := cell_regrown b1
  replace b2 := cell_regrown b2
  replace b3 := cell_regrown b3
  replace b4 := cell_regrown b4
  obtain ⟨q0, q1, q2, q3, q4⟩ : W.cell? ⟨b, 15, none⟩ = some (.int .i64 u.t.slot) ∧ W.cell? ⟨b, 16, none⟩ = some (.int .i64 u.t.gen) ∧ W.cell? ⟨b, 17, none⟩ = some (.int .i64 u.t.tag) ∧ W.cell? ⟨b, 18, none⟩ = some (.int .i64 u.t.num) ∧ W.cell? ⟨b, 19, none⟩ = some (.bool u.t.mark) := HN.out.hu.t5
  replace q0 := cell_regrown q0
  replace q1 := cell_regrown q1
  replace q2 := cell_regrown q2
  replace q3 := cell_regrown q3
  replace q4 := cell_regrown q4
  have HC : Hid (∀ d os, Calls Tryd.prog 34 #[.agg #[.int .i64 x.1.slot, .int .i64 x.1.gen, .int .i64 x.1.tag, .int .i64 x.1.num, .bool x.1.mark], .agg #[.int .i64 u.t.slot, .int .i64 u.t.gen, .int .i64 u.t.tag, .int .i64 u.t.num, .bool u.t.mark]] (grow (redrawn W d) os) fun e w'' => e = .returned (.bool false) ∧ ∃ p : Regrown, w'' = grow (redrawn W p.d) p.os) := Lib.hid (fun d os => Calls.regrown_of (rSame_is HXX.out _))
  refine wp_region_quiet_below (by kernel_rfl) (by kernel_rfl) ?_
  repeat (go_big_quiet_step ((first | with_reducible exact HC.out _ _)))
  refine wpQuiet_nil ?_
  intro _ hw'
  obtain ⟨⟨dq, osq⟩, hw''⟩ := hw'
  subst hw''
  have hb := below_regrown W dq osq
  replace HN := Lib.hid (HN.out.below hb)
  replace HX := Lib.hid (HX.out.below hb)
  clear b0 b1 b2 b3 b4 b5 hz hzx q0 q1 q2 q3 q4 HC hb
  try clear qn QN
  generalize grow (redrawn W dq) osq = W at HX HN ⊢
  have hz := BlkW.lt HN.out.hu
  obtain ⟨b0, b1, b2, b3, b4, b5⟩ := rep6 HX.out
  have hzx := BlkW.lt HX.out
  have f4 := HN.out.hu.frozen 4
  have c4 := HN.out.hu.line
  go_upto_region 29 with fail
  show Code.wp _ _ _ _ (W.setCell ⟨b, 4, none⟩ (.int .i64 3))
  replace HN := Lib.hid (HN.out.line 3)
  replace HX := Lib.hid (HX.out.far hvb (i := 4) (.int .i64 3))
  clear f4 c4 b0 b1 b2 b3 b4 b5 hz hzx
  generalize W.setCell ⟨b, 4, none⟩ (.int .i64 3) = W at HX HN ⊢
  have hz := BlkW.lt HN.out.hu
  obtain ⟨b0, b1, b2, b3, b4, b5⟩ := rep6 HX.out
  have hzx := BlkW.lt HX.out
  go_wp2_with fail
  refine (rroot_is 1 _).mono ?_
  rintro e wk ⟨rfl, hb⟩
  replace HN := Lib.hid (HN.out.below hb)
  clear hb hz
  try clear t0 t1 t2 t3 t4
  have hz := BlkW.lt HN.out.hu
  go_wp2_with (refine wp_store_c HN.out.hq rfl (.tmp 4) (.tmp 138) rfl (by rfl) (cProtect (0, 0, 1) 0) (by rfl) ?_; intro W9 k1 k2; have R9 := Lib.hid (HN.out.fin k1 k2); clear k1 k2)
  exact bodyPost_ret (v := cav (cProtect (0, 0, 1) 0)) (rresults rfl _ (by rfl) (rans_load R9.out.hq)) rfl ⟨rfl, Lib.hid R9.out.hu, Lib.hid R9.out.off⟩
set_option maxRecDepth 100000 in
set_option maxHeartbeats 1000000 in
theorem renq_bring (h : UAt w b u) (x : Wd × Bool) (hl : u.line = 5) (hx : sameW x.1 u.t = true) (hy : ¬ u.n.slot = 0) :
    Calls Tryd.prog 16 #[.pointer (some ⟨b, 0, none⟩), rpv x] w (UPost w b (u.at_ 6) ((cSwap (0, 0, 1) u.t u.n))) := by
  have HXX := Lib.hid hx
  clear hx
  have HYY := Lib.hid hy
  clear hy
  have hb1 := below_alloc (Below.refl w.heap.size w) (.cells #[.int .i64 x.1.slot, .int .i64 x.1.gen, .int .i64 x.1.tag, .int .i64 x.1.num, .bool x.1.mark, .bool x.2] 44)
  have hb2 := below_alloc hb1 (.cells (cac za).toArray 41)
  have hbx := below_alloc (Below.refl (w.alloc (.cells #[.int .i64 x.1.slot, .int .i64 x.1.gen, .int .i64 x.1.tag, .int .i64 x.1.num, .bool x.1.mark, .bool x.2] 44)).heap.size (w.alloc (.cells #[.int .i64 x.1.slot, .int .i64 x.1.gen, .int .i64 x.1.tag, .int .i64 x.1.num, .bool x.1.mark, .bool x.2] 44))) (.cells (cac za).toArray 41)
  have HX := Lib.hid ((box_rep w x).below hbx)
  have hq := BlkW.new (w.alloc (.cells #[.int .i64 x.1.slot, .int .i64 x.1.gen, .int .i64 x.1.tag, .int .i64 x.1.num, .bool x.1.mark, .bool x.2] 44)) 41 (cac za).toArray
  rw [World.size_alloc] at hq
  have HN := Lib.hid (Ur.mk (h.below hb2) hq (Only.of_below hb2) (Nat.le_succ _))
  clear h hb1 hb2 hbx hq
  unfold rpv
  go_enter Tryd.func16, Tryd.ntmps16
  go_upto_region 1 with fail
  show Code.wp _ _ _ _ ((w.alloc (.cells #[.int .i64 x.1.slot, .int .i64 x.1.gen, .int .i64 x.1.tag, .int .i64 x.1.num, .bool x.1.mark, .bool x.2] 44)).alloc (.cells (cac za).toArray 41))
  generalize (w.alloc (.cells #[.int .i64 x.1.slot, .int .i64 x.1.gen, .int .i64 x.1.tag, .int .i64 x.1.num, .bool x.1.mark, .bool x.2] 44)).alloc (.cells (cac za).toArray 41) = W at HX HN ⊢
  obtain ⟨v, hv⟩ : ∃ v, v = w.heap.size := ⟨_, rfl⟩
  have HNN : Hid (Ur w W b (v + 1) u) := Lib.hid (by rw [hv]; exact HN.out)
  clear HN
  rw [← hv] at HX ⊢
  clear hv
  have hvb : v ≠ b := BlkW.ne_ HX.out HNN.out.hu (by decide)
  have hz := BlkW.lt HNN.out.hu
  have c4 := HNN.out.hu.line
  have f4 := HNN.out.hu.frozen 4
  rw [hl] at c4
  clear hl
  have kw : wrap64 6 = 6 := IntWalk.wrap64_in _ ⟨by decide, by decide⟩
  go_upto_region 4 with fail
  show Code.wp _ _ _ _ (W.setCell ⟨b, 4, none⟩ (.int .i64 6))
  have HN := Lib.hid (HNN.out.line 6)
  replace HX := Lib.hid (HX.out.far hvb (i := 4) (.int .i64 6))
  clear HNN c4 f4 hz kw
  generalize W.setCell ⟨b, 4, none⟩ (.int .i64 6) = W at HX HN ⊢
  have hz := BlkW.lt HN.out.hu
  obtain ⟨b0, b1, b2, b3, b4, b5⟩ := rep6 HX.out
  have hzx := BlkW.lt HX.out
  go_upto_region 18 with fail
  replace b0 := cell_regrown b0
  replace b1 := cell_regrown b1
  replace b2 := cell_regrown b2
  replace b3 := cell_regrown b3
  replace b4 := cell_regrown b4
  obtain ⟨q0, q1, q2, q3, q4⟩ : W.cell? ⟨b, 15, none⟩ = some (.int .i64 u.t.slot) ∧ W.cell? ⟨b, 16, none⟩ = some (.int .i64 u.t.gen) ∧ W.cell? ⟨b, 17, none⟩ = some (.int .i64 u.t.tag) ∧ W.cell? ⟨b, 18, none⟩ = some (.int .i64 u.t.num) ∧ W.cell? ⟨b, 19, none⟩ = some (.bool u.t.mark) := HN.out.hu.t5
  replace q0 := cell_regrown q0
  replace q1 := cell_regrown q1
  replace q2 := cell_regrown q2
  replace q3 := cell_regrown q3
  replace q4 := cell_regrown q4
  have qn : W.cell? ⟨b, 20, none⟩ = some (.int .i64 u.n.slot) := HN.out.hu.n5.1
  replace qn := cell_regrown qn
  have QN : (u.n.slot != 0) = true := by have := HYY.out; simpa using this
  have HC : Hid (∀ d os, Calls Tryd.prog 34 #[.agg #[.int .i64 x.1.slot, .int .i64 x.1.gen, .int .i64 x.1.tag, .int .i64 x.1.num, .bool x.1.mark], .agg #[.int .i64 u.t.slot, .int .i64 u.t.gen, .int .i64 u.t.tag, .int .i64 u.t.num, .bool u.t.mark]] (grow (redrawn W d) os) fun e w'' => e = .returned (.bool true) ∧ ∃ p : Regrown, w'' = grow (redrawn W p.d) p.os) := Lib.hid (fun d os => Calls.regrown_of (rSame_is HXX.out _))
  refine wp_region_quiet_below (by kernel_rfl) (by kernel_rfl) ?_
  repeat (go_big_quiet_step ((first | with_reducible exact HC.out _ _)))
  refine wpQuiet_nil ?_
  intro _ hw'
  obtain ⟨⟨dq, osq⟩, hw''⟩ := hw'
  subst hw''
  have hb := below_regrown W dq osq
  replace HN := Lib.hid (HN.out.below hb)
  replace HX := Lib.hid (HX.out.below hb)
  clear b0 b1 b2 b3 b4 b5 hz hzx q0 q1 q2 q3 q4 HC hb
  try clear qn QN
  generalize grow (redrawn W dq) osq = W at HX HN ⊢
  have hz := BlkW.lt HN.out.hu
  obtain ⟨b0, b1, b2, b3, b4, b5⟩ := rep6 HX.out
  have hzx := BlkW.lt HX.out
  go_upto_region 19 with fail
  clear hvb b0 b1 b2 b3 b4 b5 hzx HX
  refine wp_region_held (S := fun W' => UAt W' b (u.at_ 6)) (by kernel_rfl) ?_
  have hS : UAt W.drew b (u.at_ 6) := HN.out.hu.drew
  replace HN := Lib.hid (HN.out.below (Below.refl _ _).drew)
  clear hz
  show wpAnyH _ _ _ _ _ 11 #[false, false, false, false, false, false, false, false, false, false, false] _ W.drew
  generalize W.drew = W at HN hS ⊢
  refine wpAnyH_take (i := 1) (v := .pointer (some ⟨b, 0, none⟩)) rfl (by kernel_rfl) (by kernel_rfl) (by kernel_rfl) (fun _ _ _ h => h) (Or.inl ⟨by rfl, fun w' _ => by go_simp⟩) hS ?_
  simp only [Act.put, List.getElem_toArray, List.getElem_cons_succ, List.getElem_cons_zero, List.setIfInBounds_toArray, List.set_cons_zero, List.set_cons_succ]
  refine wpAnyH_take (i := 2) (v := .pointer (some ⟨b, 0, none⟩)) rfl (by kernel_rfl) (by kernel_rfl) (by kernel_rfl) (fun _ _ _ h => h) (Or.inl ⟨by rfl, fun w' _ => by go_simp⟩) hS ?_
  simp only [Act.put, List.getElem_toArray, List.getElem_cons_succ, List.getElem_cons_zero, List.setIfInBounds_toArray, List.set_cons_zero, List.set_cons_succ]
  refine wpAnyH_take (i := 3) (v := .pointer (some ⟨b, 15, none⟩)) rfl (by kernel_rfl) (by kernel_rfl) (by kernel_rfl) (fun _ _ _ h => h) (Or.inl ⟨by rfl, fun w' _ => by go_simp⟩) hS ?_
  simp only [Act.put, List.getElem_toArray, List.getElem_cons_succ, List.getElem_cons_zero, List.setIfInBounds_toArray, List.set_cons_zero, List.set_cons_succ]
  refine wpAnyH_take (i := 4) (v := .agg (wc u.t).toArray) rfl (by kernel_rfl) (by kernel_rfl) (by kernel_rfl) (fun _ _ _ h => h) (yieldsIf_load_mid (by rfl) 37 (.tmp 85) rfl b 15 rfl (wc u.t) _ (fun w' h => UAt.range h 15 (wc u.t) (by kernel_rfl)) Tryd.underlying37 rfl infoWd) hS ?_
  simp only [Act.put, List.getElem_toArray, List.getElem_cons_succ, List.getElem_cons_zero, List.setIfInBounds_toArray, List.set_cons_zero, List.set_cons_succ]
  refine wpAnyH_take (i := 5) (v := .pointer (some ⟨b, 0, none⟩)) rfl (by kernel_rfl) (by kernel_rfl) (by kernel_rfl) (fun _ _ _ h => h) (Or.inl ⟨by rfl, fun w' _ => by go_simp⟩) hS ?_
  simp only [Act.put, List.getElem_toArray, List.getElem_cons_succ, List.getElem_cons_zero, List.setIfInBounds_toArray, List.set_cons_zero, List.set_cons_succ]
  refine wpAnyH_take (i := 6) (v := .pointer (some ⟨b, 0, none⟩)) rfl (by kernel_rfl) (by kernel_rfl) (by kernel_rfl) (fun _ _ _ h => h) (Or.inl ⟨by rfl, fun w' _ => by go_simp⟩) hS ?_
  simp only [Act.put, List.getElem_toArray, List.getElem_cons_succ, List.getElem_cons_zero, List.setIfInBounds_toArray, List.set_cons_zero, List.set_cons_succ]
  refine wpAnyH_take (i := 7) (v := .pointer (some ⟨b, 20, none⟩)) rfl (by kernel_rfl) (by kernel_rfl) (by kernel_rfl) (fun _ _ _ h => h) (Or.inl ⟨by rfl, fun w' _ => by go_simp⟩) hS ?_
  simp only [Act.put, List.getElem_toArray, List.getElem_cons_succ, List.getElem_cons_zero, List.setIfInBounds_toArray, List.set_cons_zero, List.set_cons_succ]
  refine wpAnyH_take (i := 8) (v := .agg (wc u.n).toArray) rfl (by kernel_rfl) (by kernel_rfl) (by kernel_rfl) (fun _ _ _ h => h) (yieldsIf_load_mid (by rfl) 37 (.tmp 89) rfl b 20 rfl (wc u.n) _ (fun w' h => UAt.range h 20 (wc u.n) (by kernel_rfl)) Tryd.underlying37 rfl infoWd) hS ?_
  simp only [Act.put, List.getElem_toArray, List.getElem_cons_succ, List.getElem_cons_zero, List.setIfInBounds_toArray, List.set_cons_zero, List.set_cons_succ]
  refine wpAnyH_ready (rs := [0]) (by kernel_rfl) (by simp) ?_
  refine AllReadyH.cons rfl (fun K hK => ?_) AllReadyH.nil
  rw [if_pos (by rfl)]
  go_simp
  refine (rroot_is 1 _).mono ?_
  rintro e wk ⟨rfl, hb⟩
  replace HN := Lib.hid (HN.out.below hb)
  refine hK.out _ _ (hS.below hb) (fun _ => ?_)
  replace hS := hS.below hb
  clear hb hK K
  refine wpAnyH_ready (rs := [9]) (by kernel_rfl) (by simp) ?_
  refine AllReadyH.cons rfl (fun K hK => ?_) AllReadyH.nil
  rw [if_pos (by rfl)]
  go_simp
  refine (rswap_is (0, 0, 1) u.t u.n _).mono ?_
  rintro e wk ⟨rfl, hb⟩
  replace HN := Lib.hid (HN.out.below hb)
  refine hK.out _ _ (hS.below hb) (fun _ => ?_)
  replace hS := hS.below hb
  clear hb hK K
  refine wpAnyH_ready (rs := [10]) (by kernel_rfl) (by simp) ?_
  refine AllReadyH.cons rfl (fun K hK => ?_) AllReadyH.nil
  refine step_store_c HN.out.hq rfl (.tmp 4) (.tmp 91) rfl (by rfl) (cSwap (0, 0, 1) u.t u.n) (by rfl) ?_
  intro W9 k1 k2
  have K9 := Lib.hid (HN.out.fin k1 k2)
  refine hK.out _ _ K9.out.hu (fun _ => ?_)
  refine wpAnyH_done (by kernel_rfl) ?_ _
  clear hK K hS HN k1 k2
  go_wp2
  exact bodyPost_ret (v := cav (cSwap (0, 0, 1) u.t u.n)) (rresults rfl _ (by rfl) (rans_load K9.out.hq)) rfl ⟨rfl, Lib.hid K9.out.hu, Lib.hid K9.out.off⟩
set_option maxRecDepth 100000 in
set_option maxHeartbeats 1000000 in
theorem renq_last (h : UAt w b u) (x : Wd × Bool) (hl : u.line = 5) (hx : sameW x.1 u.t = true) (hy : u.n.slot = 0) :
    Calls Tryd.prog 16 #[.pointer (some ⟨b, 0, none⟩), rpv x] w (UPost w b (u.at_ 7) ((cSwap (fld u.t 2) u.n u.node))) := by
  have HXX := Lib.hid hx
  clear hx
  have HYY := Lib.hid hy
  clear hy
  have hb1 := below_alloc (Below.refl w.heap.size w) (.cells #[.int .i64 x.1.slot, .int .i64 x.1.gen, .int .i64 x.1.tag, .int .i64 x.1.num, .bool x.1.mark, .bool x.2] 44)
  have hb2 := below_alloc hb1 (.cells (cac za).toArray 41)
  have hbx := below_alloc (Below.refl (w.alloc (.cells #[.int .i64 x.1.slot, .int .i64 x.1.gen, .int .i64 x.1.tag, .int .i64 x.1.num, .bool x.1.mark, .bool x.2] 44)).heap.size (w.alloc (.cells #[.int .i64 x.1.slot, .int .i64 x.1.gen, .int .i64 x.1.tag, .int .i64 x.1.num, .bool x.1.mark, .bool x.2] 44))) (.cells (cac za).toArray 41)
  have HX := Lib.hid ((box_rep w x).below hbx)
  have hq := BlkW.new (w.alloc (.cells #[.int .i64 x.1.slot, .int .i64 x.1.gen, .int .i64 x.1.tag, .int .i64 x.1.num, .bool x.1.mark, .bool x.2] 44)) 41 (cac za).toArray
  rw [World.size_alloc] at hq
  have HN := Lib.hid (Ur.mk (h.below hb2) hq (Only.of_below hb2) (Nat.le_succ _))
  clear h hb1 hb2 hbx hq
  unfold rpv
  go_enter Tryd.func16, Tryd.ntmps16
  go_upto_region 1 with fail
  show Code.wp _ _ _ _ ((w.alloc (.cells #[.int .i64 x.1.slot, .int .i64 x.1.gen, .int .i64 x.1.tag, .int .i64 x.1.num, .bool x.1.mark, .bool x.2] 44)).alloc (.cells (cac za).toArray 41))
  generalize (w.alloc (.cells #[.int .i64 x.1.slot, .int .i64 x.1.gen, .int .i64 x.1.tag, .int .i64 x.1.num, .bool x.1.mark, .bool x.2] 44)).alloc (.cells (cac za).toArray 41) = W at HX HN ⊢
  obtain ⟨v, hv⟩ : ∃ v, v = w.heap.size := ⟨_, rfl⟩
  have HNN : Hid (Ur w W b (v + 1) u) := Lib.hid (by rw [hv]; exact HN.out)
  clear HN
  rw [← hv] at HX ⊢
  clear hv
  have hvb : v ≠ b := BlkW.ne_ HX.out HNN.out.hu (by decide)
  have hz := BlkW.lt HNN.out.hu
  have c4 := HNN.out.hu.line
  have f4 := HNN.out.hu.frozen 4
  rw [hl] at c4
  clear hl
  have kw : wrap64 6 = 6 := IntWalk.wrap64_in _ ⟨by decide, by decide⟩
  go_upto_region 4 with fail
  show Code.wp _ _ _ _ (W.setCell ⟨b, 4, none⟩ (.int .i64 6))
  have HN := Lib.hid (HNN.out.line 6)
  replace HX := Lib.hid (HX.out.far hvb (i := 4) (.int .i64 6))
  clear HNN c4 f4 hz kw
  generalize W.setCell ⟨b, 4, none⟩ (.int .i64 6) = W at HX HN ⊢
  have hz := BlkW.lt HN.out.hu
  obtain ⟨b0, b1, b2, b3, b4, b5⟩ := rep6 HX.out
  have hzx := BlkW.lt HX.out
  go_upto_region 18 with fail
  replace b0 := cell_regrown b0
  replace b1 := cell_regrown b1
  replace b2 := cell_regrown b2
  replace b3 := cell_regrown b3
  replace b4 := cell_regrown b4
  obtain ⟨q0, q1, q2, q3, q4⟩ : W.cell? ⟨b, 15, none⟩ = some (.int .i64 u.t.slot) ∧ W.cell? ⟨b, 16, none⟩ = some (.int .i64 u.t.gen) ∧ W.cell? ⟨b, 17, none⟩ = some (.int .i64 u.t.tag) ∧ W.cell? ⟨b, 18, none⟩ = some (.int .i64 u.t.num) ∧ W.cell? ⟨b, 19, none⟩ = some (.bool u.t.mark) := HN.out.hu.t5
  replace q0 := cell_regrown q0
  replace q1 := cell_regrown q1
  replace q2 := cell_regrown q2
  replace q3 := cell_regrown q3
  replace q4 := cell_regrown q4
  have qn : W.cell? ⟨b, 20, none⟩ = some (.int .i64 u.n.slot) := HN.out.hu.n5.1
  replace qn := cell_regrown qn
  have QN : (u.n.slot != 0) = false := by have := HYY.out; simpa using this
  have HC : Hid (∀ d os, Calls Tryd.prog 34 #[.agg #[.int .i64 x.1.slot, .int .i64 x.1.gen, .int .i64 x.1.tag, .int .i64 x.1.num, .bool x.1.mark], .agg #[.int .i64 u.t.slot, .int .i64 u.t.gen, .int .i64 u.t.tag, .int .i64 u.t.num, .bool u.t.mark]] (grow (redrawn W d) os) fun e w'' => e = .returned (.bool true) ∧ ∃ p : Regrown, w'' = grow (redrawn W p.d) p.os) := Lib.hid (fun d os => Calls.regrown_of (rSame_is HXX.out _))
  refine wp_region_quiet_below (by kernel_rfl) (by kernel_rfl) ?_
  repeat (go_big_quiet_step ((first | with_reducible exact HC.out _ _)))
  refine wpQuiet_nil ?_
  intro _ hw'
  obtain ⟨⟨dq, osq⟩, hw''⟩ := hw'
  subst hw''
  have hb := below_regrown W dq osq
  replace HN := Lib.hid (HN.out.below hb)
  replace HX := Lib.hid (HX.out.below hb)
  clear b0 b1 b2 b3 b4 b5 hz hzx q0 q1 q2 q3 q4 HC hb
  try clear qn QN
  generalize grow (redrawn W dq) osq = W at HX HN ⊢
  have hz := BlkW.lt HN.out.hu
  obtain ⟨b0, b1, b2, b3, b4, b5⟩ := rep6 HX.out
  have hzx := BlkW.lt HX.out
  go_upto_region 20 with fail
  replace b0 := cell_regrown b0
  replace b1 := cell_regrown b1
  replace b2 := cell_regrown b2
  replace b3 := cell_regrown b3
  replace b4 := cell_regrown b4
  obtain ⟨q0, q1, q2, q3, q4⟩ : W.cell? ⟨b, 15, none⟩ = some (.int .i64 u.t.slot) ∧ W.cell? ⟨b, 16, none⟩ = some (.int .i64 u.t.gen) ∧ W.cell? ⟨b, 17, none⟩ = some (.int .i64 u.t.tag) ∧ W.cell? ⟨b, 18, none⟩ = some (.int .i64 u.t.num) ∧ W.cell? ⟨b, 19, none⟩ = some (.bool u.t.mark) := HN.out.hu.t5
  replace q0 := cell_regrown q0
  replace q1 := cell_regrown q1
  replace q2 := cell_regrown q2
  replace q3 := cell_regrown q3
  replace q4 := cell_regrown q4
  have HC : Hid (∀ d os, Calls Tryd.prog 34 #[.agg #[.int .i64 x.1.slot, .int .i64 x.1.gen, .int .i64 x.1.tag, .int .i64 x.1.num, .bool x.1.mark], .agg #[.int .i64 u.t.slot, .int .i64 u.t.gen, .int .i64 u.t.tag, .int .i64 u.t.num, .bool u.t.mark]] (grow (redrawn W d) os) fun e w'' => e = .returned (.bool true) ∧ ∃ p : Regrown, w'' = grow (redrawn W p.d) p.os) := Lib.hid (fun d os => Calls.regrown_of (rSame_is HXX.out _))
  refine wp_region_quiet_below (by kernel_rfl) (by kernel_rfl) ?_
  repeat (go_big_quiet_step ((first | with_reducible exact HC.out _ _)))
  refine wpQuiet_nil ?_
  intro _ hw'
  obtain ⟨⟨dq, osq⟩, hw''⟩ := hw'
  subst hw''
  have hb := below_regrown W dq osq
  replace HN := Lib.hid (HN.out.below hb)
  replace HX := Lib.hid (HX.out.below hb)
  clear b0 b1 b2 b3 b4 b5 hz hzx q0 q1 q2 q3 q4 HC hb
  try clear qn QN
  generalize grow (redrawn W dq) osq = W at HX HN ⊢
  have hz := BlkW.lt HN.out.hu
  obtain ⟨b0, b1, b2, b3, b4, b5⟩ := rep6 HX.out
  have hzx := BlkW.lt HX.out
  have f4 := HN.out.hu.frozen 4
  have c4 := HN.out.hu.line
  go_upto_region 22 with fail
  show Code.wp _ _ _ _ (W.setCell ⟨b, 4, none⟩ (.int .i64 7))
  replace HN := Lib.hid (HN.out.line 7)
  replace HX := Lib.hid (HX.out.far hvb (i := 4) (.int .i64 7))
  clear f4 c4 b0 b1 b2 b3 b4 b5 hz hzx
  generalize W.setCell ⟨b, 4, none⟩ (.int .i64 7) = W at HX HN ⊢
  have hz := BlkW.lt HN.out.hu
  obtain ⟨b0, b1, b2, b3, b4, b5⟩ := rep6 HX.out
  have hzx := BlkW.lt HX.out
  go_upto_region 22 with fail
  clear hvb b0 b1 b2 b3 b4 b5 hzx HX
  refine wp_region_held (S := fun W' => UAt W' b (u.at_ 7)) (by kernel_rfl) ?_
  have hS : UAt W.drew b (u.at_ 7) := HN.out.hu.drew
  replace HN := Lib.hid (HN.out.below (Below.refl _ _).drew)
  clear hz
  show wpAnyH _ _ _ _ _ 15 #[false, false, false, false, false, false, false, false, false, false, false, false, false, false, false] _ W.drew
  generalize W.drew = W at HN hS ⊢
  refine wpAnyH_take (i := 0) (v := .pointer (some ⟨b, 0, none⟩)) rfl (by kernel_rfl) (by kernel_rfl) (by kernel_rfl) (fun _ _ _ h => h) (Or.inl ⟨by rfl, fun w' _ => by go_simp⟩) hS ?_
  simp only [Act.put, List.getElem_toArray, List.getElem_cons_succ, List.getElem_cons_zero, List.setIfInBounds_toArray, List.set_cons_zero, List.set_cons_succ]
  refine wpAnyH_take (i := 1) (v := .pointer (some ⟨b, 0, none⟩)) rfl (by kernel_rfl) (by kernel_rfl) (by kernel_rfl) (fun _ _ _ h => h) (Or.inl ⟨by rfl, fun w' _ => by go_simp⟩) hS ?_
  simp only [Act.put, List.getElem_toArray, List.getElem_cons_succ, List.getElem_cons_zero, List.setIfInBounds_toArray, List.set_cons_zero, List.set_cons_succ]
  refine wpAnyH_take (i := 2) (v := .pointer (some ⟨b, 15, none⟩)) rfl (by kernel_rfl) (by kernel_rfl) (by kernel_rfl) (fun _ _ _ h => h) (Or.inl ⟨by rfl, fun w' _ => by go_simp⟩) hS ?_
  simp only [Act.put, List.getElem_toArray, List.getElem_cons_succ, List.getElem_cons_zero, List.setIfInBounds_toArray, List.set_cons_zero, List.set_cons_succ]
  refine wpAnyH_take (i := 3) (v := .agg (wc u.t).toArray) rfl (by kernel_rfl) (by kernel_rfl) (by kernel_rfl) (fun _ _ _ h => h) (yieldsIf_load_mid (by rfl) 37 (.tmp 104) rfl b 15 rfl (wc u.t) _ (fun w' h => UAt.range h 15 (wc u.t) (by kernel_rfl)) Tryd.underlying37 rfl infoWd) hS ?_
  simp only [Act.put, List.getElem_toArray, List.getElem_cons_succ, List.getElem_cons_zero, List.setIfInBounds_toArray, List.set_cons_zero, List.set_cons_succ]
  refine wpAnyH_take (i := 5) (v := .pointer (some ⟨b, 0, none⟩)) rfl (by kernel_rfl) (by kernel_rfl) (by kernel_rfl) (fun _ _ _ h => h) (Or.inl ⟨by rfl, fun w' _ => by go_simp⟩) hS ?_
  simp only [Act.put, List.getElem_toArray, List.getElem_cons_succ, List.getElem_cons_zero, List.setIfInBounds_toArray, List.set_cons_zero, List.set_cons_succ]
  refine wpAnyH_take (i := 6) (v := .pointer (some ⟨b, 0, none⟩)) rfl (by kernel_rfl) (by kernel_rfl) (by kernel_rfl) (fun _ _ _ h => h) (Or.inl ⟨by rfl, fun w' _ => by go_simp⟩) hS ?_
  simp only [Act.put, List.getElem_toArray, List.getElem_cons_succ, List.getElem_cons_zero, List.setIfInBounds_toArray, List.set_cons_zero, List.set_cons_succ]
  refine wpAnyH_take (i := 7) (v := .pointer (some ⟨b, 20, none⟩)) rfl (by kernel_rfl) (by kernel_rfl) (by kernel_rfl) (fun _ _ _ h => h) (Or.inl ⟨by rfl, fun w' _ => by go_simp⟩) hS ?_
  simp only [Act.put, List.getElem_toArray, List.getElem_cons_succ, List.getElem_cons_zero, List.setIfInBounds_toArray, List.set_cons_zero, List.set_cons_succ]
  refine wpAnyH_take (i := 8) (v := .agg (wc u.n).toArray) rfl (by kernel_rfl) (by kernel_rfl) (by kernel_rfl) (fun _ _ _ h => h) (yieldsIf_load_mid (by rfl) 37 (.tmp 109) rfl b 20 rfl (wc u.n) _ (fun w' h => UAt.range h 20 (wc u.n) (by kernel_rfl)) Tryd.underlying37 rfl infoWd) hS ?_
  simp only [Act.put, List.getElem_toArray, List.getElem_cons_succ, List.getElem_cons_zero, List.setIfInBounds_toArray, List.set_cons_zero, List.set_cons_succ]
  refine wpAnyH_take (i := 9) (v := .pointer (some ⟨b, 0, none⟩)) rfl (by kernel_rfl) (by kernel_rfl) (by kernel_rfl) (fun _ _ _ h => h) (Or.inl ⟨by rfl, fun w' _ => by go_simp⟩) hS ?_
  simp only [Act.put, List.getElem_toArray, List.getElem_cons_succ, List.getElem_cons_zero, List.setIfInBounds_toArray, List.set_cons_zero, List.set_cons_succ]
  refine wpAnyH_take (i := 10) (v := .pointer (some ⟨b, 0, none⟩)) rfl (by kernel_rfl) (by kernel_rfl) (by kernel_rfl) (fun _ _ _ h => h) (Or.inl ⟨by rfl, fun w' _ => by go_simp⟩) hS ?_
  simp only [Act.put, List.getElem_toArray, List.getElem_cons_succ, List.getElem_cons_zero, List.setIfInBounds_toArray, List.set_cons_zero, List.set_cons_succ]
  refine wpAnyH_take (i := 11) (v := .pointer (some ⟨b, 5, none⟩)) rfl (by kernel_rfl) (by kernel_rfl) (by kernel_rfl) (fun _ _ _ h => h) (Or.inl ⟨by rfl, fun w' _ => by go_simp⟩) hS ?_
  simp only [Act.put, List.getElem_toArray, List.getElem_cons_succ, List.getElem_cons_zero, List.setIfInBounds_toArray, List.set_cons_zero, List.set_cons_succ]
  refine wpAnyH_take (i := 12) (v := .agg (wc u.node).toArray) rfl (by kernel_rfl) (by kernel_rfl) (by kernel_rfl) (fun _ _ _ h => h) (yieldsIf_load_mid (by rfl) 37 (.tmp 113) rfl b 5 rfl (wc u.node) _ (fun w' h => UAt.range h 5 (wc u.node) (by kernel_rfl)) Tryd.underlying37 rfl infoWd) hS ?_
  simp only [Act.put, List.getElem_toArray, List.getElem_cons_succ, List.getElem_cons_zero, List.setIfInBounds_toArray, List.set_cons_zero, List.set_cons_succ]
  refine wpAnyH_ready (rs := [4]) (by kernel_rfl) (by simp) ?_
  refine AllReadyH.cons rfl (fun K hK => ?_) AllReadyH.nil
  rw [if_pos (by rfl)]
  go_simp
  refine (at_is u.t.slot u.t.gen u.t.tag u.t.num u.t.mark 2 _).mono ?_
  rintro e wk ⟨rfl, hb⟩
  replace HN := Lib.hid (HN.out.below hb)
  refine hK.out _ _ (hS.below hb) (fun _ => ?_)
  replace hS := hS.below hb
  clear hb hK K
  refine wpAnyH_ready (rs := [13]) (by kernel_rfl) (by simp) ?_
  refine AllReadyH.cons rfl (fun K hK => ?_) AllReadyH.nil
  rw [if_pos (by rfl)]
  go_simp
  refine (rswap_is (fld u.t 2) u.n u.node _).mono ?_
  rintro e wk ⟨rfl, hb⟩
  replace HN := Lib.hid (HN.out.below hb)
  refine hK.out _ _ (hS.below hb) (fun _ => ?_)
  replace hS := hS.below hb
  clear hb hK K
  refine wpAnyH_ready (rs := [14]) (by kernel_rfl) (by simp) ?_
  refine AllReadyH.cons rfl (fun K hK => ?_) AllReadyH.nil
  refine step_store_c HN.out.hq rfl (.tmp 4) (.tmp 115) rfl (by rfl) (cSwap (fld u.t 2) u.n u.node) (by rfl) ?_
  intro W9 k1 k2
  have K9 := Lib.hid (HN.out.fin k1 k2)
  refine hK.out _ _ K9.out.hu (fun _ => ?_)
  refine wpAnyH_done (by kernel_rfl) ?_ _
  clear hK K hS HN k1 k2
  go_wp2
  exact bodyPost_ret (v := cav (cSwap (fld u.t 2) u.n u.node)) (rresults rfl _ (by rfl) (rans_load K9.out.hq)) rfl ⟨rfl, Lib.hid K9.out.hu, Lib.hid K9.out.off⟩
set_option maxRecDepth 100000 in
set_option maxHeartbeats 1000000 in
theorem renq_linked (h : UAt w b u) (x : Wd × Bool) (hl : u.line = 7) (hx : x.2 = true) :
    Calls Tryd.prog 16 #[.pointer (some ⟨b, 0, none⟩), rpv x] w (UPost w b (u.at_ 8) ((cSwap (0, 0, 1) u.t u.node))) := by
  have HXX := Lib.hid hx
  clear hx
  have hb1 := below_alloc (Below.refl w.heap.size w) (.cells #[.int .i64 x.1.slot, .int .i64 x.1.gen, .int .i64 x.1.tag, .int .i64 x.1.num, .bool x.1.mark, .bool x.2] 44)
  have hb2 := below_alloc hb1 (.cells (cac za).toArray 41)
  have hbx := below_alloc (Below.refl (w.alloc (.cells #[.int .i64 x.1.slot, .int .i64 x.1.gen, .int .i64 x.1.tag, .int .i64 x.1.num, .bool x.1.mark, .bool x.2] 44)).heap.size (w.alloc (.cells #[.int .i64 x.1.slot, .int .i64 x.1.gen, .int .i64 x.1.tag, .int .i64 x.1.num, .bool x.1.mark, .bool x.2] 44))) (.cells (cac za).toArray 41)
  have HX := Lib.hid ((box_rep w x).below hbx)
  have hq := BlkW.new (w.alloc (.cells #[.int .i64 x.1.slot, .int .i64 x.1.gen, .int .i64 x.1.tag, .int .i64 x.1.num, .bool x.1.mark, .bool x.2] 44)) 41 (cac za).toArray
  rw [World.size_alloc] at hq
  have HN := Lib.hid (Ur.mk (h.below hb2) hq (Only.of_below hb2) (Nat.le_succ _))
  clear h hb1 hb2 hbx hq
  unfold rpv
  go_enter Tryd.func16, Tryd.ntmps16
  go_upto_region 1 with fail
  show Code.wp _ _ _ _ ((w.alloc (.cells #[.int .i64 x.1.slot, .int .i64 x.1.gen, .int .i64 x.1.tag, .int .i64 x.1.num, .bool x.1.mark, .bool x.2] 44)).alloc (.cells (cac za).toArray 41))
  generalize (w.alloc (.cells #[.int .i64 x.1.slot, .int .i64 x.1.gen, .int .i64 x.1.tag, .int .i64 x.1.num, .bool x.1.mark, .bool x.2] 44)).alloc (.cells (cac za).toArray 41) = W at HX HN ⊢
  obtain ⟨v, hv⟩ : ∃ v, v = w.heap.size := ⟨_, rfl⟩
  have HNN : Hid (Ur w W b (v + 1) u) := Lib.hid (by rw [hv]; exact HN.out)
  clear HN
  rw [← hv] at HX ⊢
  clear hv
  have hvb : v ≠ b := BlkW.ne_ HX.out HNN.out.hu (by decide)
  have hz := BlkW.lt HNN.out.hu
  have c4 := HNN.out.hu.line
  have f4 := HNN.out.hu.frozen 4
  rw [hl] at c4
  clear hl
  have kw : wrap64 8 = 8 := IntWalk.wrap64_in _ ⟨by decide, by decide⟩
  go_upto_region 4 with fail
  show Code.wp _ _ _ _ (W.setCell ⟨b, 4, none⟩ (.int .i64 8))
  have HN := Lib.hid (HNN.out.line 8)
  replace HX := Lib.hid (HX.out.far hvb (i := 4) (.int .i64 8))
  clear HNN c4 f4 hz kw
  generalize W.setCell ⟨b, 4, none⟩ (.int .i64 8) = W at HX HN ⊢
  have hz := BlkW.lt HN.out.hu
  obtain ⟨b0, b1, b2, b3, b4, b5⟩ := rep6 HX.out
  have hzx := BlkW.lt HX.out
  rw [HXX.out] at b5
  go_upto_region 25 with fail
  clear hvb b0 b1 b2 b3 b4 b5 hzx HX
  refine wp_region_held (S := fun W' => UAt W' b (u.at_ 8)) (by kernel_rfl) ?_
  have hS : UAt W.drew b (u.at_ 8) := HN.out.hu.drew
  replace HN := Lib.hid (HN.out.below (Below.refl _ _).drew)
  clear hz
  show wpAnyH _ _ _ _ _ 11 #[false, false, false, false, false, false, false, false, false, false, false] _ W.drew
  generalize W.drew = W at HN hS ⊢
  refine wpAnyH_take (i := 1) (v := .pointer (some ⟨b, 0, none⟩)) rfl (by kernel_rfl) (by kernel_rfl) (by kernel_rfl) (fun _ _ _ h => h) (Or.inl ⟨by rfl, fun w' _ => by go_simp⟩) hS ?_
  simp only [Act.put, List.getElem_toArray, List.getElem_cons_succ, List.getElem_cons_zero, List.setIfInBounds_toArray, List.set_cons_zero, List.set_cons_succ]
  refine wpAnyH_take (i := 2) (v := .pointer (some ⟨b, 0, none⟩)) rfl (by kernel_rfl) (by kernel_rfl) (by kernel_rfl) (fun _ _ _ h => h) (Or.inl ⟨by rfl, fun w' _ => by go_simp⟩) hS ?_
  simp only [Act.put, List.getElem_toArray, List.getElem_cons_succ, List.getElem_cons_zero, List.setIfInBounds_toArray, List.set_cons_zero, List.set_cons_succ]
  refine wpAnyH_take (i := 3) (v := .pointer (some ⟨b, 15, none⟩)) rfl (by kernel_rfl) (by kernel_rfl) (by kernel_rfl) (fun _ _ _ h => h) (Or.inl ⟨by rfl, fun w' _ => by go_simp⟩) hS ?_
  simp only [Act.put, List.getElem_toArray, List.getElem_cons_succ, List.getElem_cons_zero, List.setIfInBounds_toArray, List.set_cons_zero, List.set_cons_succ]
  refine wpAnyH_take (i := 4) (v := .agg (wc u.t).toArray) rfl (by kernel_rfl) (by kernel_rfl) (by kernel_rfl) (fun _ _ _ h => h) (yieldsIf_load_mid (by rfl) 37 (.tmp 123) rfl b 15 rfl (wc u.t) _ (fun w' h => UAt.range h 15 (wc u.t) (by kernel_rfl)) Tryd.underlying37 rfl infoWd) hS ?_
  simp only [Act.put, List.getElem_toArray, List.getElem_cons_succ, List.getElem_cons_zero, List.setIfInBounds_toArray, List.set_cons_zero, List.set_cons_succ]
  refine wpAnyH_take (i := 5) (v := .pointer (some ⟨b, 0, none⟩)) rfl (by kernel_rfl) (by kernel_rfl) (by kernel_rfl) (fun _ _ _ h => h) (Or.inl ⟨by rfl, fun w' _ => by go_simp⟩) hS ?_
  simp only [Act.put, List.getElem_toArray, List.getElem_cons_succ, List.getElem_cons_zero, List.setIfInBounds_toArray, List.set_cons_zero, List.set_cons_succ]
  refine wpAnyH_take (i := 6) (v := .pointer (some ⟨b, 0, none⟩)) rfl (by kernel_rfl) (by kernel_rfl) (by kernel_rfl) (fun _ _ _ h => h) (Or.inl ⟨by rfl, fun w' _ => by go_simp⟩) hS ?_
  simp only [Act.put, List.getElem_toArray, List.getElem_cons_succ, List.getElem_cons_zero, List.setIfInBounds_toArray, List.set_cons_zero, List.set_cons_succ]
  refine wpAnyH_take (i := 7) (v := .pointer (some ⟨b, 5, none⟩)) rfl (by kernel_rfl) (by kernel_rfl) (by kernel_rfl) (fun _ _ _ h => h) (Or.inl ⟨by rfl, fun w' _ => by go_simp⟩) hS ?_
  simp only [Act.put, List.getElem_toArray, List.getElem_cons_succ, List.getElem_cons_zero, List.setIfInBounds_toArray, List.set_cons_zero, List.set_cons_succ]
  refine wpAnyH_take (i := 8) (v := .agg (wc u.node).toArray) rfl (by kernel_rfl) (by kernel_rfl) (by kernel_rfl) (fun _ _ _ h => h) (yieldsIf_load_mid (by rfl) 37 (.tmp 127) rfl b 5 rfl (wc u.node) _ (fun w' h => UAt.range h 5 (wc u.node) (by kernel_rfl)) Tryd.underlying37 rfl infoWd) hS ?_
  simp only [Act.put, List.getElem_toArray, List.getElem_cons_succ, List.getElem_cons_zero, List.setIfInBounds_toArray, List.set_cons_zero, List.set_cons_succ]
  refine wpAnyH_ready (rs := [0]) (by kernel_rfl) (by simp) ?_
  refine AllReadyH.cons rfl (fun K hK => ?_) AllReadyH.nil
  rw [if_pos (by rfl)]
  go_simp
  refine (rroot_is 1 _).mono ?_
  rintro e wk ⟨rfl, hb⟩
  replace HN := Lib.hid (HN.out.below hb)
  refine hK.out _ _ (hS.below hb) (fun _ => ?_)
  replace hS := hS.below hb
  clear hb hK K
  refine wpAnyH_ready (rs := [9]) (by kernel_rfl) (by simp) ?_
  refine AllReadyH.cons rfl (fun K hK => ?_) AllReadyH.nil
  rw [if_pos (by rfl)]
  go_simp
  refine (rswap_is (0, 0, 1) u.t u.node _).mono ?_
  rintro e wk ⟨rfl, hb⟩
  replace HN := Lib.hid (HN.out.below hb)
  refine hK.out _ _ (hS.below hb) (fun _ => ?_)
  replace hS := hS.below hb
  clear hb hK K
  refine wpAnyH_ready (rs := [10]) (by kernel_rfl) (by simp) ?_
  refine AllReadyH.cons rfl (fun K hK => ?_) AllReadyH.nil
  refine step_store_c HN.out.hq rfl (.tmp 4) (.tmp 129) rfl (by rfl) (cSwap (0, 0, 1) u.t u.node) (by rfl) ?_
  intro W9 k1 k2
  have K9 := Lib.hid (HN.out.fin k1 k2)
  refine hK.out _ _ K9.out.hu (fun _ => ?_)
  refine wpAnyH_done (by kernel_rfl) ?_ _
  clear hK K hS HN k1 k2
  go_wp2
  exact bodyPost_ret (v := cav (cSwap (0, 0, 1) u.t u.node)) (rresults rfl _ (by rfl) (rans_load K9.out.hq)) rfl ⟨rfl, Lib.hid K9.out.hu, Lib.hid K9.out.off⟩
set_option maxRecDepth 100000 in
set_option maxHeartbeats 1000000 in
theorem renq_slow (h : UAt w b u) (x : Wd × Bool) (hl : u.line = 7) (hx : x.2 = false) :
    Calls Tryd.prog 16 #[.pointer (some ⟨b, 0, none⟩), rpv x] w (UPost w b (u.at_ 3) (cProtect (0, 0, 1) 0)) := by
  have HXX := Lib.hid hx
  clear hx
  have hb1 := below_alloc (Below.refl w.heap.size w) (.cells #[.int .i64 x.1.slot, .int .i64 x.1.gen, .int .i64 x.1.tag, .int .i64 x.1.num, .bool x.1.mark, .bool x.2] 44)
  have hb2 := below_alloc hb1 (.cells (cac za).toArray 41)
  have hbx := below_alloc (Below.refl (w.alloc (.cells #[.int .i64 x.1.slot, .int .i64 x.1.gen, .int .i64 x.1.tag, .int .i64 x.1.num, .bool x.1.mark, .bool x.2] 44)).heap.size (w.alloc (.cells #[.int .i64 x.1.slot, .int .i64 x.1.gen, .int .i64 x.1.tag, .int .i64 x.1.num, .bool x.1.mark, .bool x.2] 44))) (.cells (cac za).toArray 41)
  have HX := Lib.hid ((box_rep w x).below hbx)
  have hq := BlkW.new (w.alloc (.cells #[.int .i64 x.1.slot, .int .i64 x.1.gen, .int .i64 x.1.tag, .int .i64 x.1.num, .bool x.1.mark, .bool x.2] 44)) 41 (cac za).toArray
  rw [World.size_alloc] at hq
  have HN := Lib.hid (Ur.mk (h.below hb2) hq (Only.of_below hb2) (Nat.le_succ _))
  clear h hb1 hb2 hbx hq
  unfold rpv
  go_enter Tryd.func16, Tryd.ntmps16
  go_upto_region 1 with fail
  show Code.wp _ _ _ _ ((w.alloc (.cells #[.int .i64 x.1.slot, .int .i64 x.1.gen, .int .i64 x.1.tag, .int .i64 x.1.num, .bool x.1.mark, .bool x.2] 44)).alloc (.cells (cac za).toArray 41))
  generalize (w.alloc (.cells #[.int .i64 x.1.slot, .int .i64 x.1.gen, .int .i64 x.1.tag, .int .i64 x.1.num, .bool x.1.mark, .bool x.2] 44)).alloc (.cells (cac za).toArray 41) = W at HX HN ⊢
  obtain ⟨v, hv⟩ : ∃ v, v = w.heap.size := ⟨_, rfl⟩
  have HNN : Hid (Ur w W b (v + 1) u) := Lib.hid (by rw [hv]; exact HN.out)
  clear HN
  rw [← hv] at HX ⊢
  clear hv
  have hvb : v ≠ b := BlkW.ne_ HX.out HNN.out.hu (by decide)
  have hz := BlkW.lt HNN.out.hu
  have c4 := HNN.out.hu.line
  have f4 := HNN.out.hu.frozen 4
  rw [hl] at c4
  clear hl
  have kw : wrap64 8 = 8 := IntWalk.wrap64_in _ ⟨by decide, by decide⟩
  go_upto_region 4 with fail
  show Code.wp _ _ _ _ (W.setCell ⟨b, 4, none⟩ (.int .i64 8))
  have HN := Lib.hid (HNN.out.line 8)
  replace HX := Lib.hid (HX.out.far hvb (i := 4) (.int .i64 8))
  clear HNN c4 f4 hz kw
  generalize W.setCell ⟨b, 4, none⟩ (.int .i64 8) = W at HX HN ⊢
  have hz := BlkW.lt HN.out.hu
  obtain ⟨b0, b1, b2, b3, b4, b5⟩ := rep6 HX.out
  have hzx := BlkW.lt HX.out
  rw [HXX.out] at b5
  have f4 := HN.out.hu.frozen 4
  have c4 := HN.out.hu.line
  go_upto_region 29 with fail
  show Code.wp _ _ _ _ (W.setCell ⟨b, 4, none⟩ (.int .i64 3))
  replace HN := Lib.hid (HN.out.line 3)
  replace HX := Lib.hid (HX.out.far hvb (i := 4) (.int .i64 3))
  clear f4 c4 b0 b1 b2 b3 b4 b5 hz hzx
  generalize W.setCell ⟨b, 4, none⟩ (.int .i64 3) = W at HX HN ⊢
  have hz := BlkW.lt HN.out.hu
  obtain ⟨b0, b1, b2, b3, b4, b5⟩ := rep6 HX.out
  have hzx := BlkW.lt HX.out
  go_wp2_with fail
  refine (rroot_is 1 _).mono ?_
  rintro e wk ⟨rfl, hb⟩
  replace HN := Lib.hid (HN.out.below hb)
  clear hb hz
  try clear t0 t1 t2 t3 t4
  have hz := BlkW.lt HN.out.hu
  go_wp2_with (refine wp_store_c HN.out.hq rfl (.tmp 4) (.tmp 138) rfl (by rfl) (cProtect (0, 0, 1) 0) (by rfl) ?_; intro W9 k1 k2; have R9 := Lib.hid (HN.out.fin k1 k2); clear k1 k2)
  exact bodyPost_ret (v := cav (cProtect (0, 0, 1) 0)) (rresults rfl _ (by rfl) (rans_load R9.out.hq)) rfl ⟨rfl, Lib.hid R9.out.hu, Lib.hid R9.out.off⟩
set_option maxRecDepth 100000 in
set_option maxHeartbeats 1000000 in
theorem renq_8 (h : UAt w b u) (x : Wd × Bool) (hl : u.line = 8)  :
    Calls Tryd.prog 16 #[.pointer (some ⟨b, 0, none⟩), rpv x] w (UPost w b ((u.done 1 0).1) (cDone 1 0)) := by
  have hb1 := below_alloc (Below.refl w.heap.size w) (.cells #[.int .i64 x.1.slot, .int .i64 x.1.gen, .int .i64 x.1.tag, .int .i64 x.1.num, .bool x.1.mark, .bool x.2] 44)
  have hb2 := below_alloc hb1 (.cells (cac za).toArray 41)
  have hbx := below_alloc (Below.refl (w.alloc (.cells #[.int .i64 x.1.slot, .int .i64 x.1.gen, .int .i64 x.1.tag, .int .i64 x.1.num, .bool x.1.mark, .bool x.2] 44)).heap.size (w.alloc (.cells #[.int .i64 x.1.slot, .int .i64 x.1.gen, .int .i64 x.1.tag, .int .i64 x.1.num, .bool x.1.mark, .bool x.2] 44))) (.cells (cac za).toArray 41)
  have HX := Lib.hid ((box_rep w x).below hbx)
  have hq := BlkW.new (w.alloc (.cells #[.int .i64 x.1.slot, .int .i64 x.1.gen, .int .i64 x.1.tag, .int .i64 x.1.num, .bool x.1.mark, .bool x.2] 44)) 41 (cac za).toArray
  rw [World.size_alloc] at hq
  have HN := Lib.hid (Ur.mk (h.below hb2) hq (Only.of_below hb2) (Nat.le_succ _))
  clear h hb1 hb2 hbx hq
  unfold rpv
  go_enter Tryd.func16, Tryd.ntmps16
  go_upto_region 1 with fail
  show Code.wp _ _ _ _ ((w.alloc (.cells #[.int .i64 x.1.slot, .int .i64 x.1.gen, .int .i64 x.1.tag, .int .i64 x.1.num, .bool x.1.mark, .bool x.2] 44)).alloc (.cells (cac za).toArray 41))
  generalize (w.alloc (.cells #[.int .i64 x.1.slot, .int .i64 x.1.gen, .int .i64 x.1.tag, .int .i64 x.1.num, .bool x.1.mark, .bool x.2] 44)).alloc (.cells (cac za).toArray 41) = W at HX HN ⊢
  obtain ⟨v, hv⟩ : ∃ v, v = w.heap.size := ⟨_, rfl⟩
  have HNN : Hid (Ur w W b (v + 1) u) := Lib.hid (by rw [hv]; exact HN.out)
  clear HN
  rw [← hv] at HX ⊢
  clear hv
  have hvb : v ≠ b := BlkW.ne_ HX.out HNN.out.hu (by decide)
  have hz := BlkW.lt HNN.out.hu
  have c4 := HNN.out.hu.line
  have f4 := HNN.out.hu.frozen 4
  rw [hl] at c4
  clear hl
  have kw : wrap64 9 = 9 := IntWalk.wrap64_in _ ⟨by decide, by decide⟩
  go_upto_region 4 with fail
  show Code.wp _ _ _ _ (W.setCell ⟨b, 4, none⟩ (.int .i64 9))
  have HN := Lib.hid (HNN.out.line 9)
  replace HX := Lib.hid (HX.out.far hvb (i := 4) (.int .i64 9))
  clear HNN c4 f4 hz kw
  generalize W.setCell ⟨b, 4, none⟩ (.int .i64 9) = W at HX HN ⊢
  have hz := BlkW.lt HN.out.hu
  obtain ⟨b0, b1, b2, b3, b4, b5⟩ := rep6 HX.out
  have hzx := BlkW.lt HX.out
  go_wp2_with fail
  refine (rdone_is HN.out.hu 1 0).mono ?_
  rintro e wk ⟨rfl, h1, h2⟩
  replace HN := Lib.hid (HN.out.after h1.out h2.out)
  clear h1 h2 b0 b1 b2 b3 b4 b5 hz hzx HX
  go_wp2_with (refine wp_store_c HN.out.hq rfl (.tmp 4) (.tmp 133) rfl (by rfl) (cDone 1 0) (by rfl) ?_; intro W9 k1 k2; have R9 := Lib.hid (HN.out.fin k1 k2); clear k1 k2)
  exact bodyPost_ret (v := cav (cDone 1 0)) (rresults rfl _ (by rfl) (rans_load R9.out.hq)) rfl ⟨rfl, Lib.hid R9.out.hu, Lib.hid R9.out.off⟩
end
end Go.Proofs.YtihjklimcchkhaaDoor.Co
