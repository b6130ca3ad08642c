/- cortege: the reference's dequeue. A template (made by gen_XCs.py). -/
import Derived.Test.YtihjklimcchkhaaDoorCr
namespace Go.Proofs.YtihjklimcchkhaaDoor.Co
open Go.RowKit Go.Extern.Stop Go.Stop Go.Extern Go.Sort
section
variable {w w' : World} {b : Nat} {q : Nat} {u u' : Rf} {c : Ca}
set_option maxRecDepth 100000 in
set_option maxHeartbeats 1000000 in
theorem rdeq_0 (h : UAt w b u) (x : Wd × Bool) (hl : u.line = 0)  :
    Calls Tryd.prog 17 #[.pointer (some ⟨b, 0, none⟩), rpv x] w (UPost w b (u.at_ 1) (cProtect (0, 0, 0) 0)) := by
  have hb1 := below_alloc (Below.refl w.heap.size w) (.cells #[.int .i64 x.1.slot, .int .i64 x.1.gen, .int .i64 x.1.tag, .int .i64 x.1.num, .bool x.1.mark, .bool x.2] 44)
  have hb2 := below_alloc hb1 (.cells (cac za).toArray 41)
  have hbx := below_alloc (Below.refl (w.alloc (.cells #[.int .i64 x.1.slot, .int .i64 x.1.gen, .int .i64 x.1.tag, .int .i64 x.1.num, .bool x.1.mark, .bool x.2] 44)).heap.size (w.alloc (.cells #[.int .i64 x.1.slot, .int .i64 x.1.gen, .int .i64 x.1.tag, .int .i64 x.1.num, .bool x.1.mark, .bool x.2] 44))) (.cells (cac za).toArray 41)
  have HX := Lib.hid ((box_rep w x).below hbx)
  have hq := BlkW.new (w.alloc (.cells #[.int .i64 x.1.slot, .int .i64 x.1.gen, .int .i64 x.1.tag, .int .i64 x.1.num, .bool x.1.mark, .bool x.2] 44)) 41 (cac za).toArray
  rw [World.size_alloc] at hq
  have HN := Lib.hid (Ur.mk (h.below hb2) hq (Only.of_below hb2) (Nat.le_succ _))
  clear h hb1 hb2 hbx hq
  unfold rpv
  go_enter Tryd.func17, Tryd.ntmps17
  go_upto_region 1 with fail
  show Code.wp _ _ _ _ ((w.alloc (.cells #[.int .i64 x.1.slot, .int .i64 x.1.gen, .int .i64 x.1.tag, .int .i64 x.1.num, .bool x.1.mark, .bool x.2] 44)).alloc (.cells (cac za).toArray 41))
  generalize (w.alloc (.cells #[.int .i64 x.1.slot, .int .i64 x.1.gen, .int .i64 x.1.tag, .int .i64 x.1.num, .bool x.1.mark, .bool x.2] 44)).alloc (.cells (cac za).toArray 41) = W at HX HN ⊢
  obtain ⟨v, hv⟩ : ∃ v, v = w.heap.size := ⟨_, rfl⟩
  have HNN : Hid (Ur w W b (v + 1) u) := Lib.hid (by rw [hv]; exact HN.out)
  clear HN
  rw [← hv] at HX ⊢
  clear hv
  have hvb : v ≠ b := BlkW.ne_ HX.out HNN.out.hu (by decide)
  have hz := BlkW.lt HNN.out.hu
  have c4 := HNN.out.hu.line
  have f4 := HNN.out.hu.frozen 4
  rw [hl] at c4
  clear hl
  have kw : wrap64 1 = 1 := IntWalk.wrap64_in _ ⟨by decide, by decide⟩
  go_upto_region 4 with fail
  show Code.wp _ _ _ _ (W.setCell ⟨b, 4, none⟩ (.int .i64 1))
  have HN := Lib.hid (HNN.out.line 1)
  replace HX := Lib.hid (HX.out.far hvb (i := 4) (.int .i64 1))
  clear HNN c4 f4 hz kw
  generalize W.setCell ⟨b, 4, none⟩ (.int .i64 1) = W at HX HN ⊢
  have hz := BlkW.lt HN.out.hu
  obtain ⟨b0, b1, b2, b3, b4, b5⟩ := rep6 HX.out
  have hzx := BlkW.lt HX.out
  have f4 := HN.out.hu.frozen 4
  have c4 := HN.out.hu.line
  go_upto_region 30 with fail
  show Code.wp _ _ _ _ (W.setCell ⟨b, 4, none⟩ (.int .i64 1))
  replace HN := Lib.hid (HN.out.line 1)
  replace HX := Lib.hid (HX.out.far hvb (i := 4) (.int .i64 1))
  clear f4 c4 b0 b1 b2 b3 b4 b5 hz hzx
  generalize W.setCell ⟨b, 4, none⟩ (.int .i64 1) = W at HX HN ⊢
  have hz := BlkW.lt HN.out.hu
  obtain ⟨b0, b1, b2, b3, b4, b5⟩ := rep6 HX.out
  have hzx := BlkW.lt HX.out
  go_wp2_with fail
  refine (rroot_is 0 _).mono ?_
  rintro e wk ⟨rfl, hb⟩
  replace HN := Lib.hid (HN.out.below hb)
  clear hb hz
  try clear t0 t1 t2 t3 t4
  have hz := BlkW.lt HN.out.hu
  go_wp2_with (refine wp_store_c HN.out.hq rfl (.tmp 4) (.tmp 133) rfl (by rfl) (cProtect (0, 0, 0) 0) (by rfl) ?_; intro W9 k1 k2; have R9 := Lib.hid (HN.out.fin k1 k2); clear k1 k2)
  exact bodyPost_ret (v := cav (cProtect (0, 0, 0) 0)) (rresults rfl _ (by rfl) (rans_load R9.out.hq)) rfl ⟨rfl, Lib.hid R9.out.hu, Lib.hid R9.out.off⟩
set_option maxRecDepth 100000 in
set_option maxHeartbeats 1000000 in
theorem rdeq_5 (h : UAt w b u) (x : Wd × Bool) (hl : u.line = 5)  :
    Calls Tryd.prog 17 #[.pointer (some ⟨b, 0, none⟩), rpv x] w (UPost w b (u.at_ 1) (cProtect (0, 0, 0) 0)) := by
  have hb1 := below_alloc (Below.refl w.heap.size w) (.cells #[.int .i64 x.1.slot, .int .i64 x.1.gen, .int .i64 x.1.tag, .int .i64 x.1.num, .bool x.1.mark, .bool x.2] 44)
  have hb2 := below_alloc hb1 (.cells (cac za).toArray 41)
  have hbx := below_alloc (Below.refl (w.alloc (.cells #[.int .i64 x.1.slot, .int .i64 x.1.gen, .int .i64 x.1.tag, .int .i64 x.1.num, .bool x.1.mark, .bool x.2] 44)).heap.size (w.alloc (.cells #[.int .i64 x.1.slot, .int .i64 x.1.gen, .int .i64 x.1.tag, .int .i64 x.1.num, .bool x.1.mark, .bool x.2] 44))) (.cells (cac za).toArray 41)
  have HX := Lib.hid ((box_rep w x).below hbx)
  have hq := BlkW.new (w.alloc (.cells #[.int .i64 x.1.slot, .int .i64 x.1.gen, .int .i64 x.1.tag, .int .i64 x.1.num, .bool x.1.mark, .bool x.2] 44)) 41 (cac za).toArray
  rw [World.size_alloc] at hq
  have HN := Lib.hid (Ur.mk (h.below hb2) hq (Only.of_below hb2) (Nat.le_succ _))
  clear h hb1 hb2 hbx hq
  unfold rpv
  go_enter Tryd.func17, Tryd.ntmps17
  go_upto_region 1 with fail
  show Code.wp _ _ _ _ ((w.alloc (.cells #[.int .i64 x.1.slot, .int .i64 x.1.gen, .int .i64 x.1.tag, .int .i64 x.1.num, .bool x.1.mark, .bool x.2] 44)).alloc (.cells (cac za).toArray 41))
  generalize (w.alloc (.cells #[.int .i64 x.1.slot, .int .i64 x.1.gen, .int .i64 x.1.tag, .int .i64 x.1.num, .bool x.1.mark, .bool x.2] 44)).alloc (.cells (cac za).toArray 41) = W at HX HN ⊢
  obtain ⟨v, hv⟩ : ∃ v, v = w.heap.size := ⟨_, rfl⟩
  have HNN : Hid (Ur w W b (v + 1) u) := Lib.hid (by rw [hv]; exact HN.out)
  clear HN
  rw [← hv] at HX ⊢
  clear hv
  have hvb : v ≠ b := BlkW.ne_ HX.out HNN.out.hu (by decide)
  have hz := BlkW.lt HNN.out.hu
  have c4 := HNN.out.hu.line
  have f4 := HNN.out.hu.frozen 4
  rw [hl] at c4
  clear hl
  have kw : wrap64 6 = 6 := IntWalk.wrap64_in _ ⟨by decide, by decide⟩
  go_upto_region 4 with fail
  show Code.wp _ _ _ _ (W.setCell ⟨b, 4, none⟩ (.int .i64 6))
  have HN := Lib.hid (HNN.out.line 6)
  replace HX := Lib.hid (HX.out.far hvb (i := 4) (.int .i64 6))
  clear HNN c4 f4 hz kw
  generalize W.setCell ⟨b, 4, none⟩ (.int .i64 6) = W at HX HN ⊢
  have hz := BlkW.lt HN.out.hu
  obtain ⟨b0, b1, b2, b3, b4, b5⟩ := rep6 HX.out
  have hzx := BlkW.lt HX.out
  have f4 := HN.out.hu.frozen 4
  have c4 := HN.out.hu.line
  go_upto_region 30 with fail
  show Code.wp _ _ _ _ (W.setCell ⟨b, 4, none⟩ (.int .i64 1))
  replace HN := Lib.hid (HN.out.line 1)
  replace HX := Lib.hid (HX.out.far hvb (i := 4) (.int .i64 1))
  clear f4 c4 b0 b1 b2 b3 b4 b5 hz hzx
  generalize W.setCell ⟨b, 4, none⟩ (.int .i64 1) = W at HX HN ⊢
  have hz := BlkW.lt HN.out.hu
  obtain ⟨b0, b1, b2, b3, b4, b5⟩ := rep6 HX.out
  have hzx := BlkW.lt HX.out
  go_wp2_with fail
  refine (rroot_is 0 _).mono ?_
  rintro e wk ⟨rfl, hb⟩
  replace HN := Lib.hid (HN.out.below hb)
  clear hb hz
  try clear t0 t1 t2 t3 t4
  have hz := BlkW.lt HN.out.hu
  go_wp2_with (refine wp_store_c HN.out.hq rfl (.tmp 4) (.tmp 133) rfl (by rfl) (cProtect (0, 0, 0) 0) (by rfl) ?_; intro W9 k1 k2; have R9 := Lib.hid (HN.out.fin k1 k2); clear k1 k2)
  exact bodyPost_ret (v := cav (cProtect (0, 0, 0) 0)) (rresults rfl _ (by rfl) (rans_load R9.out.hq)) rfl ⟨rfl, Lib.hid R9.out.hu, Lib.hid R9.out.off⟩
set_option maxRecDepth 100000 in
set_option maxHeartbeats 1000000 in
theorem rdeq_1 (h : UAt w b u) (x : Wd × Bool) (hl : u.line = 1)  :
    Calls Tryd.prog 17 #[.pointer (some ⟨b, 0, none⟩), rpv x] w (UPost w b ({ u with line := 2, h := x.1 }) (cLoad (0, 0, 1))) := by
  have hb1 := below_alloc (Below.refl w.heap.size w) (.cells #[.int .i64 x.1.slot, .int .i64 x.1.gen, .int .i64 x.1.tag, .int .i64 x.1.num, .bool x.1.mark, .bool x.2] 44)
  have hb2 := below_alloc hb1 (.cells (cac za).toArray 41)
  have hbx := below_alloc (Below.refl (w.alloc (.cells #[.int .i64 x.1.slot, .int .i64 x.1.gen, .int .i64 x.1.tag, .int .i64 x.1.num, .bool x.1.mark, .bool x.2] 44)).heap.size (w.alloc (.cells #[.int .i64 x.1.slot, .int .i64 x.1.gen, .int .i64 x.1.tag, .int .i64 x.1.num, .bool x.1.mark, .bool x.2] 44))) (.cells (cac za).toArray 41)
  have HX := Lib.hid ((box_rep w x).below hbx)
  have hq := BlkW.new (w.alloc (.cells #[.int .i64 x.1.slot, .int .i64 x.1.gen, .int .i64 x.1.tag, .int .i64 x.1.num, .bool x.1.mark, .bool x.2] 44)) 41 (cac za).toArray
  rw [World.size_alloc] at hq
  have HN := Lib.hid (Ur.mk (h.below hb2) hq (Only.of_below hb2) (Nat.le_succ _))
  clear h hb1 hb2 hbx hq
  unfold rpv
  go_enter Tryd.func17, Tryd.ntmps17
  go_upto_region 1 with fail
  show Code.wp _ _ _ _ ((w.alloc (.cells #[.int .i64 x.1.slot, .int .i64 x.1.gen, .int .i64 x.1.tag, .int .i64 x.1.num, .bool x.1.mark, .bool x.2] 44)).alloc (.cells (cac za).toArray 41))
  generalize (w.alloc (.cells #[.int .i64 x.1.slot, .int .i64 x.1.gen, .int .i64 x.1.tag, .int .i64 x.1.num, .bool x.1.mark, .bool x.2] 44)).alloc (.cells (cac za).toArray 41) = W at HX HN ⊢
  obtain ⟨v, hv⟩ : ∃ v, v = w.heap.size := ⟨_, rfl⟩
  have HNN : Hid (Ur w W b (v + 1) u) := Lib.hid (by rw [hv]; exact HN.out)
  clear HN
  rw [← hv] at HX ⊢
  clear hv
  have hvb : v ≠ b := BlkW.ne_ HX.out HNN.out.hu (by decide)
  have hz := BlkW.lt HNN.out.hu
  have c4 := HNN.out.hu.line
  have f4 := HNN.out.hu.frozen 4
  rw [hl] at c4
  clear hl
  have kw : wrap64 2 = 2 := IntWalk.wrap64_in _ ⟨by decide, by decide⟩
  go_upto_region 4 with fail
  show Code.wp _ _ _ _ (W.setCell ⟨b, 4, none⟩ (.int .i64 2))
  have HN := Lib.hid (HNN.out.line 2)
  replace HX := Lib.hid (HX.out.far hvb (i := 4) (.int .i64 2))
  clear HNN c4 f4 hz kw
  generalize W.setCell ⟨b, 4, none⟩ (.int .i64 2) = W at HX HN ⊢
  have hz := BlkW.lt HN.out.hu
  obtain ⟨b0, b1, b2, b3, b4, b5⟩ := rep6 HX.out
  have hzx := BlkW.lt HX.out
  obtain ⟨t0, t1, t2, t3, t4⟩ := HN.out.hu.h5
  have fz : ∀ o, W.frozen? ⟨b, o, none⟩ = false := HN.out.hu.frozen
  go_upto_region 6 with fail
  show Code.wp _ _ _ _ (W.setCells b 10 (wc x.1))
  replace HN := Lib.hid (HN.out.puts 10 (wc x.1) (u' := { u with line := 2, h := x.1 }) (by kernel_rfl))
  clear t0 t1 t2 t3 t4 fz b0 b1 b2 b3 b4 b5 hz hzx HX
  generalize W.setCells b 10 (wc x.1) = W at HN ⊢
  have hz := BlkW.lt HN.out.hu
  go_wp2_with fail
  refine (rroot_is 1 _).mono ?_
  rintro e wk ⟨rfl, hb⟩
  replace HN := Lib.hid (HN.out.below hb)
  clear hb hz
  try clear t0 t1 t2 t3 t4
  have hz := BlkW.lt HN.out.hu
  go_wp2_with (refine wp_store_c HN.out.hq rfl (.tmp 4) (.tmp 24) rfl (by rfl) (cLoad (0, 0, 1)) (by rfl) ?_; intro W9 k1 k2; have R9 := Lib.hid (HN.out.fin k1 k2); clear k1 k2)
  exact bodyPost_ret (v := cav (cLoad (0, 0, 1))) (rresults rfl _ (by rfl) (rans_load R9.out.hq)) rfl ⟨rfl, Lib.hid R9.out.hu, Lib.hid R9.out.off⟩
set_option maxRecDepth 100000 in
set_option maxHeartbeats 1000000 in
theorem rdeq_2 (h : UAt w b u) (x : Wd × Bool) (hl : u.line = 2)  :
    Calls Tryd.prog 17 #[.pointer (some ⟨b, 0, none⟩), rpv x] w (UPost w b ({ u with line := 3, t := x.1 }) (cProtect (fld u.h 2) 1)) := by
  have hb1 := below_alloc (Below.refl w.heap.size w) (.cells #[.int .i64 x.1.slot, .int .i64 x.1.gen, .int .i64 x.1.tag, .int .i64 x.1.num, .bool x.1.mark, .bool x.2] 44)
  have hb2 := below_alloc hb1 (.cells (cac za).toArray 41)
  have hbx := below_alloc (Below.refl (w.alloc (.cells #[.int .i64 x.1.slot, .int .i64 x.1.gen, .int .i64 x.1.tag, .int .i64 x.1.num, .bool x.1.mark, .bool x.2] 44)).heap.size (w.alloc (.cells #[.int .i64 x.1.slot, .int .i64 x.1.gen, .int .i64 x.1.tag, .int .i64 x.1.num, .bool x.1.mark, .bool x.2] 44))) (.cells (cac za).toArray 41)
  have HX := Lib.hid ((box_rep w x).below hbx)
  have hq := BlkW.new (w.alloc (.cells #[.int .i64 x.1.slot, .int .i64 x.1.gen, .int .i64 x.1.tag, .int .i64 x.1.num, .bool x.1.mark, .bool x.2] 44)) 41 (cac za).toArray
  rw [World.size_alloc] at hq
  have HN := Lib.hid (Ur.mk (h.below hb2) hq (Only.of_below hb2) (Nat.le_succ _))
  clear h hb1 hb2 hbx hq
  unfold rpv
  go_enter Tryd.func17, Tryd.ntmps17
  go_upto_region 1 with fail
  show Code.wp _ _ _ _ ((w.alloc (.cells #[.int .i64 x.1.slot, .int .i64 x.1.gen, .int .i64 x.1.tag, .int .i64 x.1.num, .bool x.1.mark, .bool x.2] 44)).alloc (.cells (cac za).toArray 41))
  generalize (w.alloc (.cells #[.int .i64 x.1.slot, .int .i64 x.1.gen, .int .i64 x.1.tag, .int .i64 x.1.num, .bool x.1.mark, .bool x.2] 44)).alloc (.cells (cac za).toArray 41) = W at HX HN ⊢
  obtain ⟨v, hv⟩ : ∃ v, v = w.heap.size := ⟨_, rfl⟩
  have HNN : Hid (Ur w W b (v + 1) u) := Lib.hid (by rw [hv]; exact HN.out)
  clear HN
  rw [← hv] at HX ⊢
  clear hv
  have hvb : v ≠ b := BlkW.ne_ HX.out HNN.out.hu (by decide)
  have hz := BlkW.lt HNN.out.hu
  have c4 := HNN.out.hu.line
  have f4 := HNN.out.hu.frozen 4
  rw [hl] at c4
  clear hl
  have kw : wrap64 3 = 3 := IntWalk.wrap64_in _ ⟨by decide, by decide⟩
  go_upto_region 4 with fail
  show Code.wp _ _ _ _ (W.setCell ⟨b, 4, none⟩ (.int .i64 3))
  have HN := Lib.hid (HNN.out.line 3)
  replace HX := Lib.hid (HX.out.far hvb (i := 4) (.int .i64 3))
  clear HNN c4 f4 hz kw
  generalize W.setCell ⟨b, 4, none⟩ (.int .i64 3) = W at HX HN ⊢
  have hz := BlkW.lt HN.out.hu
  obtain ⟨b0, b1, b2, b3, b4, b5⟩ := rep6 HX.out
  have hzx := BlkW.lt HX.out
  obtain ⟨t0, t1, t2, t3, t4⟩ := HN.out.hu.t5
  have fz : ∀ o, W.frozen? ⟨b, o, none⟩ = false := HN.out.hu.frozen
  go_upto_region 9 with fail
  show Code.wp _ _ _ _ (W.setCells b 15 (wc x.1))
  replace HN := Lib.hid (HN.out.puts 15 (wc x.1) (u' := { u with line := 3, t := x.1 }) (by kernel_rfl))
  clear t0 t1 t2 t3 t4 fz b0 b1 b2 b3 b4 b5 hz hzx HX
  generalize W.setCells b 15 (wc x.1) = W at HN ⊢
  have hz := BlkW.lt HN.out.hu
  obtain ⟨t0, t1, t2, t3, t4⟩ : W.cell? ⟨b, 10, none⟩ = some (.int .i64 u.h.slot) ∧ W.cell? ⟨b, 11, none⟩ = some (.int .i64 u.h.gen) ∧ W.cell? ⟨b, 12, none⟩ = some (.int .i64 u.h.tag) ∧ W.cell? ⟨b, 13, none⟩ = some (.int .i64 u.h.num) ∧ W.cell? ⟨b, 14, none⟩ = some (.bool u.h.mark) := HN.out.hu.h5
  go_wp2_with fail
  refine (at_is _ _ _ _ _ _ _).mono ?_
  rintro e wk ⟨rfl, hb⟩
  replace HN := Lib.hid (HN.out.below hb)
  clear hb hz
  try clear t0 t1 t2 t3 t4
  have hz := BlkW.lt HN.out.hu
  go_wp2_with (refine wp_store_c HN.out.hq rfl (.tmp 4) (.tmp 37) rfl (by rfl) (cProtect (fld u.h 2) 1) (by rfl) ?_; intro W9 k1 k2; have R9 := Lib.hid (HN.out.fin k1 k2); clear k1 k2)
  exact bodyPost_ret (v := cav (cProtect (fld u.h 2) 1)) (rresults rfl _ (by rfl) (rans_load R9.out.hq)) rfl ⟨rfl, Lib.hid R9.out.hu, Lib.hid R9.out.off⟩
set_option maxRecDepth 100000 in
set_option maxHeartbeats 1000000 in
theorem rdeq_3 (h : UAt w b u) (x : Wd × Bool) (hl : u.line = 3)  :
    Calls Tryd.prog 17 #[.pointer (some ⟨b, 0, none⟩), rpv x] w (UPost w b ({ u with line := 4, n := x.1 }) (cLoad (0, 0, 0))) := by
  have hb1 := below_alloc (Below.refl w.heap.size w) (.cells #[.int .i64 x.1.slot, .int .i64 x.1.gen, .int .i64 x.1.tag, .int .i64 x.1.num, .bool x.1.mark, .bool x.2] 44)
  have hb2 := below_alloc hb1 (.cells (cac za).toArray 41)
  have hbx := below_alloc (Below.refl (w.alloc (.cells #[.int .i64 x.1.slot, .int .i64 x.1.gen, .int .i64 x.1.tag, .int .i64 x.1.num, .bool x.1.mark, .bool x.2] 44)).heap.size (w.alloc (.cells #[.int .i64 x.1.slot, .int .i64 x.1.gen, .int .i64 x.1.tag, .int .i64 x.1.num, .bool x.1.mark, .bool x.2] 44))) (.cells (cac za).toArray 41)
  have HX := Lib.hid ((box_rep w x).below hbx)
  have hq := BlkW.new (w.alloc (.cells #[.int .i64 x.1.slot, .int .i64 x.1.gen, .int .i64 x.1.tag, .int .i64 x.1.num, .bool x.1.mark, .bool x.2] 44)) 41 (cac za).toArray
  rw [World.size_alloc] at hq
  have HN := Lib.hid (Ur.mk (h.below hb2) hq (Only.of_below hb2) (Nat.le_succ _))
  clear h hb1 hb2 hbx hq
  unfold rpv
  go_enter Tryd.func17, Tryd.ntmps17
  go_upto_region 1 with fail
  show Code.wp _ _ _ _ ((w.alloc (.cells #[.int .i64 x.1.slot, .int .i64 x.1.gen, .int .i64 x.1.tag, .int .i64 x.1.num, .bool x.1.mark, .bool x.2] 44)).alloc (.cells (cac za).toArray 41))
  generalize (w.alloc (.cells #[.int .i64 x.1.slot, .int .i64 x.1.gen, .int .i64 x.1.tag, .int .i64 x.1.num, .bool x.1.mark, .bool x.2] 44)).alloc (.cells (cac za).toArray 41) = W at HX HN ⊢
  obtain ⟨v, hv⟩ : ∃ v, v = w.heap.size := ⟨_, rfl⟩
  have HNN : Hid (Ur w W b (v + 1) u) := Lib.hid (by rw [hv]; exact HN.out)
  clear HN
  rw [← hv] at HX ⊢
  clear hv
  have hvb : v ≠ b := BlkW.ne_ HX.out HNN.out.hu (by decide)
  have hz := BlkW.lt HNN.out.hu
  have c4 := HNN.out.hu.line
  have f4 := HNN.out.hu.frozen 4
  rw [hl] at c4
  clear hl
  have kw : wrap64 4 = 4 := IntWalk.wrap64_in _ ⟨by decide, by decide⟩
  go_upto_region 4 with fail
  show Code.wp _ _ _ _ (W.setCell ⟨b, 4, none⟩ (.int .i64 4))
  have HN := Lib.hid (HNN.out.line 4)
  replace HX := Lib.hid (HX.out.far hvb (i := 4) (.int .i64 4))
  clear HNN c4 f4 hz kw
  generalize W.setCell ⟨b, 4, none⟩ (.int .i64 4) = W at HX HN ⊢
  have hz := BlkW.lt HN.out.hu
  obtain ⟨b0, b1, b2, b3, b4, b5⟩ := rep6 HX.out
  have hzx := BlkW.lt HX.out
  obtain ⟨t0, t1, t2, t3, t4⟩ := HN.out.hu.n5
  have fz : ∀ o, W.frozen? ⟨b, o, none⟩ = false := HN.out.hu.frozen
  go_upto_region 12 with fail
  show Code.wp _ _ _ _ (W.setCells b 20 (wc x.1))
  replace HN := Lib.hid (HN.out.puts 20 (wc x.1) (u' := { u with line := 4, n := x.1 }) (by kernel_rfl))
  clear t0 t1 t2 t3 t4 fz b0 b1 b2 b3 b4 b5 hz hzx HX
  generalize W.setCells b 20 (wc x.1) = W at HN ⊢
  have hz := BlkW.lt HN.out.hu
  go_wp2_with fail
  refine (rroot_is 0 _).mono ?_
  rintro e wk ⟨rfl, hb⟩
  replace HN := Lib.hid (HN.out.below hb)
  clear hb hz
  try clear t0 t1 t2 t3 t4
  have hz := BlkW.lt HN.out.hu
  go_wp2_with (refine wp_store_c HN.out.hq rfl (.tmp 4) (.tmp 46) rfl (by rfl) (cLoad (0, 0, 0)) (by rfl) ?_; intro W9 k1 k2; have R9 := Lib.hid (HN.out.fin k1 k2); clear k1 k2)
  exact bodyPost_ret (v := cav (cLoad (0, 0, 0))) (rresults rfl _ (by rfl) (rans_load R9.out.hq)) rfl ⟨rfl, Lib.hid R9.out.hu, Lib.hid R9.out.off⟩
set_option maxRecDepth 100000 in
set_option maxHeartbeats 1000000 in
theorem rdeq_other (h : UAt w b u) (x : Wd × Bool) (hl : u.line = 4) (hx : sameW x.1 u.h = false) :
    Calls Tryd.prog 17 #[.pointer (some ⟨b, 0, none⟩), rpv x] w (UPost w b (u.at_ 1) (cProtect (0, 0, 0) 0)) := by
  have HXX := Lib.hid hx
  clear hx
  have hb1 := below_alloc (Below.refl w.heap.size w) (.cells #[.int .i64 x.1.slot, .int .i64 x.1.gen, .int .i64 x.1.tag, .int .i64 x.1.num, .bool x.1.mark, .bool x.2] 44)
  have hb2 := below_alloc hb1 (.cells (cac za).toArray 41)
  have hbx := below_alloc (Below.refl (w.alloc (.cells #[.int .i64 x.1.slot, .int .i64 x.1.gen, .int .i64 x.1.tag, .int .i64 x.1.num, .bool x.1.mark, .bool x.2] 44)).heap.size (w.alloc (.cells #[.int .i64 x.1.slot, .int .i64 x.1.gen, .int .i64 x.1.tag, .int .i64 x.1.num, .bool x.1.mark, .bool x.2] 44))) (.cells (cac za).toArray 41)
  have HX := Lib.hid ((box_rep w x).below hbx)
  have hq := BlkW.new (w.alloc (.cells #[.int .i64 x.1.slot, .int .i64 x.1.gen, .int .i64 x.1.tag, .int .i64 x.1.num, .bool x.1.mark, .bool x.2] 44)) 41 (cac za).toArray
  rw [World.size_alloc] at hq
  have HN := Lib.hid (Ur.mk (h.below hb2) hq (Only.of_below hb2) (Nat.le_succ _))
  clear h hb1 hb2 hbx hq
  unfold rpv
  go_enter Tryd.func17, Tryd.ntmps17
  go_upto_region 1 with fail
  show Code.wp _ _ _ _ ((w.alloc (.cells #[.int .i64 x.1.slot, .int .i64 x.1.gen, .int .i64 x.1.tag, .int .i64 x.1.num, .bool x.1.mark, .bool x.2] 44)).alloc (.cells (cac za).toArray 41))
  generalize (w.alloc (.cells #[.int .i64 x.1.slot, .int .i64 x.1.gen, .int .i64 x.1.tag, .int .i64 x.1.num, .bool x.1.mark, .bool x.2] 44)).alloc (.cells (cac za).toArray 41) = W at HX HN ⊢
  obtain ⟨v, hv⟩ : ∃ v, v = w.heap.size := ⟨_, rfl⟩
  have HNN : Hid (Ur w W b (v + 1) u) := Lib.hid (by rw [hv]; exact HN.out)
  clear HN
  rw [← hv] at HX ⊢
  clear hv
  have hvb : v ≠ b := BlkW.ne_ HX.out HNN.out.hu (by decide)
  have hz := BlkW.lt HNN.out.hu
  have c4 := HNN.out.hu.line
  have f4 := HNN.out.hu.frozen 4
  rw [hl] at c4
  clear hl
  have kw : wrap64 5 = 5 := IntWalk.wrap64_in _ ⟨by decide, by decide⟩
  go_upto_region 4 with fail
  show Code.wp _ _ _ _ (W.setCell ⟨b, 4, none⟩ (.int .i64 5))
  have HN := Lib.hid (HNN.out.line 5)
  replace HX := Lib.hid (HX.out.far hvb (i := 4) (.int .i64 5))
  clear HNN c4 f4 hz kw
  generalize W.setCell ⟨b, 4, none⟩ (.int .i64 5) = W at HX HN ⊢
  have hz := BlkW.lt HN.out.hu
  obtain ⟨b0, b1, b2, b3, b4, b5⟩ := rep6 HX.out
  have hzx := BlkW.lt HX.out
  go_upto_region 14 with fail
  replace b0 := cell_regrown b0
  replace b1 := cell_regrown b1
  replace b2 := cell_regrown b2
  replace b3 := cell_regrown b3
  replace b4 := cell_regrown b4
  obtain ⟨q0, q1, q2, q3, q4⟩ : W.cell? ⟨b, 10, none⟩ = some (.int .i64 u.h.slot) ∧ W.cell? ⟨b, 11, none⟩ = some (.int .i64 u.h.gen) ∧ W.cell? ⟨b, 12, none⟩ = some (.int .i64 u.h.tag) ∧ W.cell? ⟨b, 13, none⟩ = some (.int .i64 u.h.num) ∧ W.cell? ⟨b, 14, none⟩ = some (.bool u.h.mark) := HN.out.hu.h5
  replace q0 := cell_regrown q0
  replace q1 := cell_regrown q1
  replace q2 := cell_regrown q2
  replace q3 := cell_regrown q3
  replace q4 := cell_regrown q4
  have HC : Hid (∀ d os, Calls Tryd.prog 34 #[.agg #[.int .i64 x.1.slot, .int .i64 x.1.gen, .int .i64 x.1.tag, .int .i64 x.1.num, .bool x.1.mark], .agg #[.int .i64 u.h.slot, .int .i64 u.h.gen, .int .i64 u.h.tag, .int .i64 u.h.num, .bool u.h.mark]] (grow (redrawn W d) os) fun e w'' => e = .returned (.bool false) ∧ ∃ p : Regrown, w'' = grow (redrawn W p.d) p.os) := Lib.hid (fun d os => Calls.regrown_of (rSame_is HXX.out _))
  refine wp_region_quiet_below (by kernel_rfl) (by kernel_rfl) ?_
  repeat (go_big_quiet_step ((first | with_reducible exact HC.out _ _)))
  refine wpQuiet_nil ?_
  intro _ hw'
  obtain ⟨⟨dq, osq⟩, hw''⟩ := hw'
  subst hw''
  have hb := below_regrown W dq osq
  replace HN := Lib.hid (HN.out.below hb)
  replace HX := Lib.hid (HX.out.below hb)
  clear b0 b1 b2 b3 b4 b5 hz hzx q0 q1 q2 q3 q4 HC hb
  try clear qn QN
  generalize grow (redrawn W dq) osq = W at HX HN ⊢
  have hz := BlkW.lt HN.out.hu
  obtain ⟨b0, b1, b2, b3, b4, b5⟩ := rep6 HX.out
  have hzx := BlkW.lt HX.out
  have f4 := HN.out.hu.frozen 4
  have c4 := HN.out.hu.line
  go_upto_region 30 with fail
  show Code.wp _ _ _ _ (W.setCell ⟨b, 4, none⟩ (.int .i64 1))
  replace HN := Lib.hid (HN.out.line 1)
  replace HX := Lib.hid (HX.out.far hvb (i := 4) (.int .i64 1))
  clear f4 c4 b0 b1 b2 b3 b4 b5 hz hzx
  generalize W.setCell ⟨b, 4, none⟩ (.int .i64 1) = W at HX HN ⊢
  have hz := BlkW.lt HN.out.hu
  obtain ⟨b0, b1, b2, b3, b4, b5⟩ := rep6 HX.out
  have hzx := BlkW.lt HX.out
  go_wp2_with fail
  refine (rroot_is 0 _).mono ?_
  rintro e wk ⟨rfl, hb⟩
  replace HN := Lib.hid (HN.out.below hb)
  clear hb hz
  try clear t0 t1 t2 t3 t4
  have hz := BlkW.lt HN.out.hu
  go_wp2_with (refine wp_store_c HN.out.hq rfl (.tmp 4) (.tmp 133) rfl (by rfl) (cProtect (0, 0, 0) 0) (by rfl) ?_; intro W9 k1 k2; have R9 := Lib.hid (HN.out.fin k1 k2); clear k1 k2)
  exact bodyPost_ret (v := cav (cProtect (0, 0, 0) 0)) (rresults rfl _ (by rfl) (rans_load R9.out.hq)) rfl ⟨rfl, Lib.hid R9.out.hu, Lib.hid R9.out.off⟩
set_option maxRecDepth 100000 in
set_option maxHeartbeats 1000000 in
theorem rdeq_none (h : UAt w b u) (x : Wd × Bool) (hl : u.line = 4) (hx : sameW x.1 u.h = true) (hy : u.n.slot = 0) :
    Calls Tryd.prog 17 #[.pointer (some ⟨b, 0, none⟩), rpv x] w (UPost w b ((u.done 2 0).1) (cDone 2 0)) := by
  have HXX := Lib.hid hx
  clear hx
  have HYY := Lib.hid hy
  clear hy
  have hb1 := below_alloc (Below.refl w.heap.size w) (.cells #[.int .i64 x.1.slot, .int .i64 x.1.gen, .int .i64 x.1.tag, .int .i64 x.1.num, .bool x.1.mark, .bool x.2] 44)
  have hb2 := below_alloc hb1 (.cells (cac za).toArray 41)
  have hbx := below_alloc (Below.refl (w.alloc (.cells #[.int .i64 x.1.slot, .int .i64 x.1.gen, .int .i64 x.1.tag, .int .i64 x.1.num, .bool x.1.mark, .bool x.2] 44)).heap.size (w.alloc (.cells #[.int .i64 x.1.slot, .int .i64 x.1.gen, .int .i64 x.1.tag, .int .i64 x.1.num, .bool x.1.mark, .bool x.2] 44))) (.cells (cac za).toArray 41)
  have HX := Lib.hid ((box_rep w x).below hbx)
  have hq := BlkW.new (w.alloc (.cells #[.int .i64 x.1.slot, .int .i64 x.1.gen, .int .i64 x.1.tag, .int .i64 x.1.num, .bool x.1.mark, .bool x.2] 44)) 41 (cac za).toArray
  rw [World.size_alloc] at hq
  have HN := Lib.hid (Ur.mk (h.below hb2) hq (Only.of_below hb2) (Nat.le_succ _))
  clear h hb1 hb2 hbx hq
  unfold rpv
  go_enter Tryd.func17, Tryd.ntmps17
  go_upto_region 1 with fail
  show Code.wp _ _ _ _ ((w.alloc (.cells #[.int .i64 x.1.slot, .int .i64 x.1.gen, .int .i64 x.1.tag, .int .i64 x.1.num, .bool x.1.mark, .bool x.2] 44)).alloc (.cells (cac za).toArray 41))
  generalize (w.alloc (.cells #[.int .i64 x.1.slot, .int .i64 x.1.gen, .int .i64 x.1.tag, .int .i64 x.1.num, .bool x.1.mark, .bool x.2] 44)).alloc (.cells (cac za).toArray 41) = W at HX HN ⊢
  obtain ⟨v, hv⟩ : ∃ v, v = w.heap.size := ⟨_, rfl⟩
  have HNN : Hid (Ur w W b (v + 1) u) := Lib.hid (by rw [hv]; exact HN.out)
  clear HN
  rw [← hv] at HX ⊢
  clear hv
  have hvb : v ≠ b := BlkW.ne_ HX.out HNN.out.hu (by decide)
  have hz := BlkW.lt HNN.out.hu
  have c4 := HNN.out.hu.line
  have f4 := HNN.out.hu.frozen 4
  rw [hl] at c4
  clear hl
  have kw : wrap64 5 = 5 := IntWalk.wrap64_in _ ⟨by decide, by decide⟩
  go_upto_region 4 with fail
  show Code.wp _ _ _ _ (W.setCell ⟨b, 4, none⟩ (.int .i64 5))
  have HN := Lib.hid (HNN.out.line 5)
  replace HX := Lib.hid (HX.out.far hvb (i := 4) (.int .i64 5))
  clear HNN c4 f4 hz kw
  generalize W.setCell ⟨b, 4, none⟩ (.int .i64 5) = W at HX HN ⊢
  have hz := BlkW.lt HN.out.hu
  obtain ⟨b0, b1, b2, b3, b4, b5⟩ := rep6 HX.out
  have hzx := BlkW.lt HX.out
  go_upto_region 14 with fail
  replace b0 := cell_regrown b0
  replace b1 := cell_regrown b1
  replace b2 := cell_regrown b2
  replace b3 := cell_regrown b3
  replace b4 := cell_regrown b4
  obtain ⟨q0, q1, q2, q3, q4⟩ : W.cell? ⟨b, 10, none⟩ = some (.int .i64 u.h.slot) ∧ W.cell? ⟨b, 11, none⟩ = some (.int .i64 u.h.gen) ∧ W.cell? ⟨b, 12, none⟩ = some (.int .i64 u.h.tag) ∧ W.cell? ⟨b, 13, none⟩ = some (.int .i64 u.h.num) ∧ W.cell? ⟨b, 14, none⟩ = some (.bool u.h.mark) := HN.out.hu.h5
  replace q0 := cell_regrown q0
  replace q1 := cell_regrown q1
  replace q2 := cell_regrown q2
  replace q3 := cell_regrown q3
  replace q4 := cell_regrown q4
  have HC : Hid (∀ d os, Calls Tryd.prog 34 #[.agg #[.int .i64 x.1.slot, .int .i64 x.1.gen, .int .i64 x.1.tag, .int .i64 x.1.num, .bool x.1.mark], .agg #[.int .i64 u.h.slot, .int .i64 u.h.gen, .int .i64 u.h.tag, .int .i64 u.h.num, .bool u.h.mark]] (grow (redrawn W d) os) fun e w'' => e = .returned (.bool true) ∧ ∃ p : Regrown, w'' = grow (redrawn W p.d) p.os) := Lib.hid (fun d os => Calls.regrown_of (rSame_is HXX.out _))
  refine wp_region_quiet_below (by kernel_rfl) (by kernel_rfl) ?_
  repeat (go_big_quiet_step ((first | with_reducible exact HC.out _ _)))
  refine wpQuiet_nil ?_
  intro _ hw'
  obtain ⟨⟨dq, osq⟩, hw''⟩ := hw'
  subst hw''
  have hb := below_regrown W dq osq
  replace HN := Lib.hid (HN.out.below hb)
  replace HX := Lib.hid (HX.out.below hb)
  clear b0 b1 b2 b3 b4 b5 hz hzx q0 q1 q2 q3 q4 HC hb
  try clear qn QN
  generalize grow (redrawn W dq) osq = W at HX HN ⊢
  have hz := BlkW.lt HN.out.hu
  obtain ⟨b0, b1, b2, b3, b4, b5⟩ := rep6 HX.out
  have hzx := BlkW.lt HX.out
  have qs : W.cell? ⟨b, 20, none⟩ = some (.int .i64 u.n.slot) := HN.out.hu.n5.1
  have QS : (u.n.slot == 0) = true := by have := HYY.out; simpa using this
  go_wp2_with fail
  refine (rdone_is HN.out.hu 2 0).mono ?_
  rintro e wk ⟨rfl, h1, h2⟩
  replace HN := Lib.hid (HN.out.after h1.out h2.out)
  clear qs QS h1 h2 b0 b1 b2 b3 b4 b5 hz hzx HX
  go_wp2_with (refine wp_store_c HN.out.hq rfl (.tmp 4) (.tmp 63) rfl (by rfl) (cDone 2 0) (by rfl) ?_; intro W9 k1 k2; have R9 := Lib.hid (HN.out.fin k1 k2); clear k1 k2)
  exact bodyPost_ret (v := cav (cDone 2 0)) (rresults rfl _ (by rfl) (rans_load R9.out.hq)) rfl ⟨rfl, Lib.hid R9.out.hu, Lib.hid R9.out.off⟩
set_option maxRecDepth 100000 in
set_option maxHeartbeats 1000000 in
theorem rdeq_bring (h : UAt w b u) (x : Wd × Bool) (hl : u.line = 4) (hx : sameW x.1 u.h = true) (hy : ¬ u.n.slot = 0) (hz : u.h.slot = u.t.slot) :
    Calls Tryd.prog 17 #[.pointer (some ⟨b, 0, none⟩), rpv x] w (UPost w b (u.at_ 5) ((cSwap (0, 0, 1) u.t u.n))) := by
  have HXX := Lib.hid hx
  clear hx
  have HYY := Lib.hid hy
  clear hy
  have HZZ := Lib.hid hz
  clear hz
  have hb1 := below_alloc (Below.refl w.heap.size w) (.cells #[.int .i64 x.1.slot, .int .i64 x.1.gen, .int .i64 x.1.tag, .int .i64 x.1.num, .bool x.1.mark, .bool x.2] 44)
  have hb2 := below_alloc hb1 (.cells (cac za).toArray 41)
  have hbx := below_alloc (Below.refl (w.alloc (.cells #[.int .i64 x.1.slot, .int .i64 x.1.gen, .int .i64 x.1.tag, .int .i64 x.1.num, .bool x.1.mark, .bool x.2] 44)).heap.size (w.alloc (.cells #[.int .i64 x.1.slot, .int .i64 x.1.gen, .int .i64 x.1.tag, .int .i64 x.1.num, .bool x.1.mark, .bool x.2] 44))) (.cells (cac za).toArray 41)
  have HX := Lib.hid ((box_rep w x).below hbx)
  have hq := BlkW.new (w.alloc (.cells #[.int .i64 x.1.slot, .int .i64 x.1.gen, .int .i64 x.1.tag, .int .i64 x.1.num, .bool x.1.mark, .bool x.2] 44)) 41 (cac za).toArray
  rw [World.size_alloc] at hq
  have HN := Lib.hid (Ur.mk (h.below hb2) hq (Only.of_below hb2) (Nat.le_succ _))
  clear h hb1 hb2 hbx hq
  unfold rpv
  go_enter Tryd.func17, Tryd.ntmps17
  go_upto_region 1 with fail
  show Code.wp _ _ _ _ ((w.alloc (.cells #[.int .i64 x.1.slot, .int .i64 x.1.gen, .int .i64 x.1.tag, .int .i64 x.1.num, .bool x.1.mark, .bool x.2] 44)).alloc (.cells (cac za).toArray 41))
  generalize (w.alloc (.cells #[.int .i64 x.1.slot, .int .i64 x.1.gen, .int .i64 x.1.tag, .int .i64 x.1.num, .bool x.1.mark, .bool x.2] 44)).alloc (.cells (cac za).toArray 41) = W at HX HN ⊢
  obtain ⟨v, hv⟩ : ∃ v, v = w.heap.size := ⟨_, rfl⟩
  have HNN : Hid (Ur w W b (v + 1) u) := Lib.hid (by rw [hv]; exact HN.out)
  clear HN
  rw [← hv] at HX ⊢
  clear hv
  have hvb : v ≠ b := BlkW.ne_ HX.out HNN.out.hu (by decide)
  have hz := BlkW.lt HNN.out.hu
  have c4 := HNN.out.hu.line
  have f4 := HNN.out.hu.frozen 4
  rw [hl] at c4
  clear hl
  have kw : wrap64 5 = 5 := IntWalk.wrap64_in _ ⟨by decide, by decide⟩
  go_upto_region 4 with fail
  show Code.wp _ _ _ _ (W.setCell ⟨b, 4, none⟩ (.int .i64 5))
  have HN := Lib.hid (HNN.out.line 5)
  replace HX := Lib.hid (HX.out.far hvb (i := 4) (.int .i64 5))
  clear HNN c4 f4 hz kw
  generalize W.setCell ⟨b, 4, none⟩ (.int .i64 5) = W at HX HN ⊢
  have hz := BlkW.lt HN.out.hu
  obtain ⟨b0, b1, b2, b3, b4, b5⟩ := rep6 HX.out
  have hzx := BlkW.lt HX.out
  go_upto_region 14 with fail
  replace b0 := cell_regrown b0
  replace b1 := cell_regrown b1
  replace b2 := cell_regrown b2
  replace b3 := cell_regrown b3
  replace b4 := cell_regrown b4
  obtain ⟨q0, q1, q2, q3, q4⟩ : W.cell? ⟨b, 10, none⟩ = some (.int .i64 u.h.slot) ∧ W.cell? ⟨b, 11, none⟩ = some (.int .i64 u.h.gen) ∧ W.cell? ⟨b, 12, none⟩ = some (.int .i64 u.h.tag) ∧ W.cell? ⟨b, 13, none⟩ = some (.int .i64 u.h.num) ∧ W.cell? ⟨b, 14, none⟩ = some (.bool u.h.mark) := HN.out.hu.h5
  replace q0 := cell_regrown q0
  replace q1 := cell_regrown q1
  replace q2 := cell_regrown q2
  replace q3 := cell_regrown q3
  replace q4 := cell_regrown q4
  have HC : Hid (∀ d os, Calls Tryd.prog 34 #[.agg #[.int .i64 x.1.slot, .int .i64 x.1.gen, .int .i64 x.1.tag, .int .i64 x.1.num, .bool x.1.mark], .agg #[.int .i64 u.h.slot, .int .i64 u.h.gen, .int .i64 u.h.tag, .int .i64 u.h.num, .bool u.h.mark]] (grow (redrawn W d) os) fun e w'' => e = .returned (.bool true) ∧ ∃ p : Regrown, w'' = grow (redrawn W p.d) p.os) := Lib.hid (fun d os => Calls.regrown_of (rSame_is HXX.out _))
  refine wp_region_quiet_below (by kernel_rfl) (by kernel_rfl) ?_
  repeat (go_big_quiet_step ((first | with_reducible exact HC.out _ _)))
  refine wpQuiet_nil ?_
  intro _ hw'
  obtain ⟨⟨dq, osq⟩, hw''⟩ := hw'
  subst hw''
  have hb := below_regrown W dq osq
  replace HN := Lib.hid (HN.out.below hb)
  replace HX := Lib.hid (HX.out.below hb)
  clear b0 b1 b2 b3 b4 b5 hz hzx q0 q1 q2 q3 q4 HC hb
  try clear qn QN
  generalize grow (redrawn W dq) osq = W at HX HN ⊢
  have hz := BlkW.lt HN.out.hu
  obtain ⟨b0, b1, b2, b3, b4, b5⟩ := rep6 HX.out
  have hzx := BlkW.lt HX.out
  have qs : W.cell? ⟨b, 20, none⟩ = some (.int .i64 u.n.slot) := HN.out.hu.n5.1
  have QS : (u.n.slot == 0) = false := by have := HYY.out; simpa using this
  go_upto_region 17 with fail
  clear qs QS
  have qa : W.cell? ⟨b, 10, none⟩ = some (.int .i64 u.h.slot) := HN.out.hu.h5.1
  have qb : W.cell? ⟨b, 15, none⟩ = some (.int .i64 u.t.slot) := HN.out.hu.t5.1
  have QE : (u.h.slot == u.t.slot) = true := by have := HZZ.out; simpa using this
  replace qa := cell_regrown qa
  replace qb := cell_regrown qb
  refine wp_region_quiet_below (by kernel_rfl) (by kernel_rfl) ?_
  repeat (go_big_quiet_step (fail))
  refine wpQuiet_nil ?_
  intro _ hw'
  obtain ⟨⟨dq, osq⟩, hw''⟩ := hw'
  subst hw''
  have hb := below_regrown W dq osq
  replace HN := Lib.hid (HN.out.below hb)
  replace HX := Lib.hid (HX.out.below hb)
  clear b0 b1 b2 b3 b4 b5 hz hzx hb qa qb
  generalize grow (redrawn W dq) osq = W at HX HN ⊢
  have hz := BlkW.lt HN.out.hu
  obtain ⟨b0, b1, b2, b3, b4, b5⟩ := rep6 HX.out
  have hzx := BlkW.lt HX.out
  go_upto_region 18 with fail
  clear hvb b0 b1 b2 b3 b4 b5 hzx HX
  refine wp_region_held (S := fun W' => UAt W' b (u.at_ 5)) (by kernel_rfl) ?_
  have hS : UAt W.drew b (u.at_ 5) := HN.out.hu.drew
  replace HN := Lib.hid (HN.out.below (Below.refl _ _).drew)
  clear hz
  show wpAnyH _ _ _ _ _ 11 #[false, false, false, false, false, false, false, false, false, false, false] _ W.drew
  generalize W.drew = W at HN hS ⊢
  refine wpAnyH_take (i := 1) (v := .pointer (some ⟨b, 0, none⟩)) rfl (by kernel_rfl) (by kernel_rfl) (by kernel_rfl) (fun _ _ _ h => h) (Or.inl ⟨by rfl, fun w' _ => by go_simp⟩) hS ?_
  simp only [Act.put, List.getElem_toArray, List.getElem_cons_succ, List.getElem_cons_zero, List.setIfInBounds_toArray, List.set_cons_zero, List.set_cons_succ]
  refine wpAnyH_take (i := 2) (v := .pointer (some ⟨b, 0, none⟩)) rfl (by kernel_rfl) (by kernel_rfl) (by kernel_rfl) (fun _ _ _ h => h) (Or.inl ⟨by rfl, fun w' _ => by go_simp⟩) hS ?_
  simp only [Act.put, List.getElem_toArray, List.getElem_cons_succ, List.getElem_cons_zero, List.setIfInBounds_toArray, List.set_cons_zero, List.set_cons_succ]
  refine wpAnyH_take (i := 3) (v := .pointer (some ⟨b, 15, none⟩)) rfl (by kernel_rfl) (by kernel_rfl) (by kernel_rfl) (fun _ _ _ h => h) (Or.inl ⟨by rfl, fun w' _ => by go_simp⟩) hS ?_
  simp only [Act.put, List.getElem_toArray, List.getElem_cons_succ, List.getElem_cons_zero, List.setIfInBounds_toArray, List.set_cons_zero, List.set_cons_succ]
  refine wpAnyH_take (i := 4) (v := .agg (wc u.t).toArray) rfl (by kernel_rfl) (by kernel_rfl) (by kernel_rfl) (fun _ _ _ h => h) (yieldsIf_load_mid (by rfl) 37 (.tmp 78) rfl b 15 rfl (wc u.t) _ (fun w' h => UAt.range h 15 (wc u.t) (by kernel_rfl)) Tryd.underlying37 rfl infoWd) hS ?_
  simp only [Act.put, List.getElem_toArray, List.getElem_cons_succ, List.getElem_cons_zero, List.setIfInBounds_toArray, List.set_cons_zero, List.set_cons_succ]
  refine wpAnyH_take (i := 5) (v := .pointer (some ⟨b, 0, none⟩)) rfl (by kernel_rfl) (by kernel_rfl) (by kernel_rfl) (fun _ _ _ h => h) (Or.inl ⟨by rfl, fun w' _ => by go_simp⟩) hS ?_
  simp only [Act.put, List.getElem_toArray, List.getElem_cons_succ, List.getElem_cons_zero, List.setIfInBounds_toArray, List.set_cons_zero, List.set_cons_succ]
  refine wpAnyH_take (i := 6) (v := .pointer (some ⟨b, 0, none⟩)) rfl (by kernel_rfl) (by kernel_rfl) (by kernel_rfl) (fun _ _ _ h => h) (Or.inl ⟨by rfl, fun w' _ => by go_simp⟩) hS ?_
  simp only [Act.put, List.getElem_toArray, List.getElem_cons_succ, List.getElem_cons_zero, List.setIfInBounds_toArray, List.set_cons_zero, List.set_cons_succ]
  refine wpAnyH_take (i := 7) (v := .pointer (some ⟨b, 20, none⟩)) rfl (by kernel_rfl) (by kernel_rfl) (by kernel_rfl) (fun _ _ _ h => h) (Or.inl ⟨by rfl, fun w' _ => by go_simp⟩) hS ?_
  simp only [Act.put, List.getElem_toArray, List.getElem_cons_succ, List.getElem_cons_zero, List.setIfInBounds_toArray, List.set_cons_zero, List.set_cons_succ]
  refine wpAnyH_take (i := 8) (v := .agg (wc u.n).toArray) rfl (by kernel_rfl) (by kernel_rfl) (by kernel_rfl) (fun _ _ _ h => h) (yieldsIf_load_mid (by rfl) 37 (.tmp 82) rfl b 20 rfl (wc u.n) _ (fun w' h => UAt.range h 20 (wc u.n) (by kernel_rfl)) Tryd.underlying37 rfl infoWd) hS ?_
  simp only [Act.put, List.getElem_toArray, List.getElem_cons_succ, List.getElem_cons_zero, List.setIfInBounds_toArray, List.set_cons_zero, List.set_cons_succ]
  refine wpAnyH_ready (rs := [0]) (by kernel_rfl) (by simp) ?_
  refine AllReadyH.cons rfl (fun K hK => ?_) AllReadyH.nil
  rw [if_pos (by rfl)]
  go_simp
  refine (rroot_is 1 _).mono ?_
  rintro e wk ⟨rfl, hb⟩
  replace HN := Lib.hid (HN.out.below hb)
  refine hK.out _ _ (hS.below hb) (fun _ => ?_)
  replace hS := hS.below hb
  clear hb hK K
  refine wpAnyH_ready (rs := [9]) (by kernel_rfl) (by simp) ?_
  refine AllReadyH.cons rfl (fun K hK => ?_) AllReadyH.nil
  rw [if_pos (by rfl)]
  go_simp
  refine (rswap_is (0, 0, 1) u.t u.n _).mono ?_
  rintro e wk ⟨rfl, hb⟩
  replace HN := Lib.hid (HN.out.below hb)
  refine hK.out _ _ (hS.below hb) (fun _ => ?_)
  replace hS := hS.below hb
  clear hb hK K
  refine wpAnyH_ready (rs := [10]) (by kernel_rfl) (by simp) ?_
  refine AllReadyH.cons rfl (fun K hK => ?_) AllReadyH.nil
  refine step_store_c HN.out.hq rfl (.tmp 4) (.tmp 84) rfl (by rfl) (cSwap (0, 0, 1) u.t u.n) (by rfl) ?_
  intro W9 k1 k2
  have K9 := Lib.hid (HN.out.fin k1 k2)
  refine hK.out _ _ K9.out.hu (fun _ => ?_)
  refine wpAnyH_done (by kernel_rfl) ?_ _
  clear hK K hS HN k1 k2
  go_wp2
  exact bodyPost_ret (v := cav (cSwap (0, 0, 1) u.t u.n)) (rresults rfl _ (by rfl) (rans_load K9.out.hq)) rfl ⟨rfl, Lib.hid K9.out.hu, Lib.hid K9.out.off⟩
set_option maxRecDepth 100000 in
set_option maxHeartbeats 1000000 in
theorem rdeq_read (h : UAt w b u) (x : Wd × Bool) (hl : u.line = 4) (hx : sameW x.1 u.h = true) (hy : ¬ u.n.slot = 0) (hz : ¬ u.h.slot = u.t.slot) :
    Calls Tryd.prog 17 #[.pointer (some ⟨b, 0, none⟩), rpv x] w (UPost w b (u.at_ 6) (cLoad (fld u.n 1))) := by
  have HXX := Lib.hid hx
  clear hx
  have HYY := Lib.hid hy
  clear hy
  have HZZ := Lib.hid hz
  clear hz
  have hb1 := below_alloc (Below.refl w.heap.size w) (.cells #[.int .i64 x.1.slot, .int .i64 x.1.gen, .int .i64 x.1.tag, .int .i64 x.1.num, .bool x.1.mark, .bool x.2] 44)
  have hb2 := below_alloc hb1 (.cells (cac za).toArray 41)
  have hbx := below_alloc (Below.refl (w.alloc (.cells #[.int .i64 x.1.slot, .int .i64 x.1.gen, .int .i64 x.1.tag, .int .i64 x.1.num, .bool x.1.mark, .bool x.2] 44)).heap.size (w.alloc (.cells #[.int .i64 x.1.slot, .int .i64 x.1.gen, .int .i64 x.1.tag, .int .i64 x.1.num, .bool x.1.mark, .bool x.2] 44))) (.cells (cac za).toArray 41)
  have HX := Lib.hid ((box_rep w x).below hbx)
  have hq := BlkW.new (w.alloc (.cells #[.int .i64 x.1.slot, .int .i64 x.1.gen, .int .i64 x.1.tag, .int .i64 x.1.num, .bool x.1.mark, .bool x.2] 44)) 41 (cac za).toArray
  rw [World.size_alloc] at hq
  have HN := Lib.hid (Ur.mk (h.below hb2) hq (Only.of_below hb2) (Nat.le_succ _))
  clear h hb1 hb2 hbx hq
  unfold rpv
  go_enter Tryd.func17, Tryd.ntmps17
  go_upto_region 1 with fail
  show Code.wp _ _ _ _ ((w.alloc (.cells #[.int .i64 x.1.slot, .int .i64 x.1.gen, .int .i64 x.1.tag, .int .i64 x.1.num, .bool x.1.mark, .bool x.2] 44)).alloc (.cells (cac za).toArray 41))
  generalize (w.alloc (.cells #[.int .i64 x.1.slot, .int .i64 x.1.gen, .int .i64 x.1.tag, .int .i64 x.1.num, .bool x.1.mark, .bool x.2] 44)).alloc (.cells (cac za).toArray 41) = W at HX HN ⊢
  obtain ⟨v, hv⟩ : ∃ v, v = w.heap.size := ⟨_, rfl⟩
  have HNN : Hid (Ur w W b (v + 1) u) := Lib.hid (by rw [hv]; exact HN.out)
  clear HN
  rw [← hv] at HX ⊢
  clear hv
  have hvb : v ≠ b := BlkW.ne_ HX.out HNN.out.hu (by decide)
  have hz := BlkW.lt HNN.out.hu
  have c4 := HNN.out.hu.line
  have f4 := HNN.out.hu.frozen 4
  rw [hl] at c4
  clear hl
  have kw : wrap64 5 = 5 := IntWalk.wrap64_in _ ⟨by decide, by decide⟩
  go_upto_region 4 with fail
  show Code.wp _ _ _ _ (W.setCell ⟨b, 4, none⟩ (.int .i64 5))
  have HN := Lib.hid (HNN.out.line 5)
  replace HX := Lib.hid (HX.out.far hvb (i := 4) (.int .i64 5))
  clear HNN c4 f4 hz kw
  generalize W.setCell ⟨b, 4, none⟩ (.int .i64 5) = W at HX HN ⊢
  have hz := BlkW.lt HN.out.hu
  obtain ⟨b0, b1, b2, b3, b4, b5⟩ := rep6 HX.out
  have hzx := BlkW.lt HX.out
  go_upto_region 14 with fail
  replace b0 := cell_regrown b0
  replace b1 := cell_regrown b1
  replace b2 := cell_regrown b2
  replace b3 := cell_regrown b3
  replace b4 := cell_regrown b4
  obtain ⟨q0, q1, q2, q3, q4⟩ : W.cell? ⟨b, 10, none⟩ = some (.int .i64 u.h.slot) ∧ W.cell? ⟨b, 11, none⟩ = some (.int .i64 u.h.gen) ∧ W.cell? ⟨b, 12, none⟩ = some (.int .i64 u.h.tag) ∧ W.cell? ⟨b, 13, none⟩ = some (.int .i64 u.h.num) ∧ W.cell? ⟨b, 14, none⟩ = some (.bool u.h.mark) := HN.out.hu.h5
  replace q0 := cell_regrown q0
  replace q1 := cell_regrown q1
  replace q2 := cell_regrown q2
  replace q3 := cell_regrown q3
  replace q4 := cell_regrown q4
  have HC : Hid (∀ d os, Calls Tryd.prog 34 #[.agg #[.int .i64 x.1.slot, .int .i64 x.1.gen, .int .i64 x.1.tag, .int .i64 x.1.num, .bool x.1.mark], .agg #[.int .i64 u.h.slot, .int .i64 u.h.gen, .int .i64 u.h.tag, .int .i64 u.h.num, .bool u.h.mark]] (grow (redrawn W d) os) fun e w'' => e = .returned (.bool true) ∧ ∃ p : Regrown, w'' = grow (redrawn W p.d) p.os) := Lib.hid (fun d os => Calls.regrown_of (rSame_is HXX.out _))
  refine wp_region_quiet_below (by kernel_rfl) (by kernel_rfl) ?_
  repeat (go_big_quiet_step ((first | with_reducible exact HC.out _ _)))
  refine wpQuiet_nil ?_
  intro _ hw'
  obtain ⟨⟨dq, osq⟩, hw''⟩ := hw'
  subst hw''
  have hb := below_regrown W dq osq
  replace HN := Lib.hid (HN.out.below hb)
  replace HX := Lib.hid (HX.out.below hb)
  clear b0 b1 b2 b3 b4 b5 hz hzx q0 q1 q2 q3 q4 HC hb
  try clear qn QN
  generalize grow (redrawn W dq) osq = W at HX HN ⊢
  have hz := BlkW.lt HN.out.hu
  obtain ⟨b0, b1, b2, b3, b4, b5⟩ := rep6 HX.out
  have hzx := BlkW.lt HX.out
  have qs : W.cell? ⟨b, 20, none⟩ = some (.int .i64 u.n.slot) := HN.out.hu.n5.1
  have QS : (u.n.slot == 0) = false := by have := HYY.out; simpa using this
  go_upto_region 17 with fail
  clear qs QS
  have qa : W.cell? ⟨b, 10, none⟩ = some (.int .i64 u.h.slot) := HN.out.hu.h5.1
  have qb : W.cell? ⟨b, 15, none⟩ = some (.int .i64 u.t.slot) := HN.out.hu.t5.1
  have QE : (u.h.slot == u.t.slot) = false := by have := HZZ.out; simpa using this
  replace qa := cell_regrown qa
  replace qb := cell_regrown qb
  refine wp_region_quiet_below (by kernel_rfl) (by kernel_rfl) ?_
  repeat (go_big_quiet_step (fail))
  refine wpQuiet_nil ?_
  intro _ hw'
  obtain ⟨⟨dq, osq⟩, hw''⟩ := hw'
  subst hw''
  have hb := below_regrown W dq osq
  replace HN := Lib.hid (HN.out.below hb)
  replace HX := Lib.hid (HX.out.below hb)
  clear b0 b1 b2 b3 b4 b5 hz hzx hb qa qb
  generalize grow (redrawn W dq) osq = W at HX HN ⊢
  have hz := BlkW.lt HN.out.hu
  obtain ⟨b0, b1, b2, b3, b4, b5⟩ := rep6 HX.out
  have hzx := BlkW.lt HX.out
  have f4 := HN.out.hu.frozen 4
  have c4 := HN.out.hu.line
  go_upto_region 20 with fail
  show Code.wp _ _ _ _ (W.setCell ⟨b, 4, none⟩ (.int .i64 6))
  replace HN := Lib.hid (HN.out.line 6)
  replace HX := Lib.hid (HX.out.far hvb (i := 4) (.int .i64 6))
  clear f4 c4 b0 b1 b2 b3 b4 b5 hz hzx
  generalize W.setCell ⟨b, 4, none⟩ (.int .i64 6) = W at HX HN ⊢
  have hz := BlkW.lt HN.out.hu
  obtain ⟨b0, b1, b2, b3, b4, b5⟩ := rep6 HX.out
  have hzx := BlkW.lt HX.out
  obtain ⟨t0, t1, t2, t3, t4⟩ : W.cell? ⟨b, 20, none⟩ = some (.int .i64 u.n.slot) ∧ W.cell? ⟨b, 21, none⟩ = some (.int .i64 u.n.gen) ∧ W.cell? ⟨b, 22, none⟩ = some (.int .i64 u.n.tag) ∧ W.cell? ⟨b, 23, none⟩ = some (.int .i64 u.n.num) ∧ W.cell? ⟨b, 24, none⟩ = some (.bool u.n.mark) := HN.out.hu.n5
  go_wp2_with fail
  refine (at_is _ _ _ _ _ _ _).mono ?_
  rintro e wk ⟨rfl, hb⟩
  replace HN := Lib.hid (HN.out.below hb)
  clear hb hz
  try clear t0 t1 t2 t3 t4
  have hz := BlkW.lt HN.out.hu
  go_wp2_with (refine wp_store_c HN.out.hq rfl (.tmp 4) (.tmp 93) rfl (by rfl) (cLoad (fld u.n 1)) (by rfl) ?_; intro W9 k1 k2; have R9 := Lib.hid (HN.out.fin k1 k2); clear k1 k2)
  exact bodyPost_ret (v := cav (cLoad (fld u.n 1))) (rresults rfl _ (by rfl) (rans_load R9.out.hq)) rfl ⟨rfl, Lib.hid R9.out.hu, Lib.hid R9.out.off⟩
set_option maxRecDepth 100000 in
set_option maxHeartbeats 1000000 in
theorem rdeq_6 (h : UAt w b u) (x : Wd × Bool) (hl : u.line = 6)  :
    Calls Tryd.prog 17 #[.pointer (some ⟨b, 0, none⟩), rpv x] w (UPost w b ({ u with line := 7, num := x.1.num }) ((cSwap (0, 0, 0) u.h u.n))) := by
  have hb1 := below_alloc (Below.refl w.heap.size w) (.cells #[.int .i64 x.1.slot, .int .i64 x.1.gen, .int .i64 x.1.tag, .int .i64 x.1.num, .bool x.1.mark, .bool x.2] 44)
  have hb2 := below_alloc hb1 (.cells (cac za).toArray 41)
  have hbx := below_alloc (Below.refl (w.alloc (.cells #[.int .i64 x.1.slot, .int .i64 x.1.gen, .int .i64 x.1.tag, .int .i64 x.1.num, .bool x.1.mark, .bool x.2] 44)).heap.size (w.alloc (.cells #[.int .i64 x.1.slot, .int .i64 x.1.gen, .int .i64 x.1.tag, .int .i64 x.1.num, .bool x.1.mark, .bool x.2] 44))) (.cells (cac za).toArray 41)
  have HX := Lib.hid ((box_rep w x).below hbx)
  have hq := BlkW.new (w.alloc (.cells #[.int .i64 x.1.slot, .int .i64 x.1.gen, .int .i64 x.1.tag, .int .i64 x.1.num, .bool x.1.mark, .bool x.2] 44)) 41 (cac za).toArray
  rw [World.size_alloc] at hq
  have HN := Lib.hid (Ur.mk (h.below hb2) hq (Only.of_below hb2) (Nat.le_succ _))
  clear h hb1 hb2 hbx hq
  unfold rpv
  go_enter Tryd.func17, Tryd.ntmps17
  go_upto_region 1 with fail
  show Code.wp _ _ _ _ ((w.alloc (.cells #[.int .i64 x.1.slot, .int .i64 x.1.gen, .int .i64 x.1.tag, .int .i64 x.1.num, .bool x.1.mark, .bool x.2] 44)).alloc (.cells (cac za).toArray 41))
  generalize (w.alloc (.cells #[.int .i64 x.1.slot, .int .i64 x.1.gen, .int .i64 x.1.tag, .int .i64 x.1.num, .bool x.1.mark, .bool x.2] 44)).alloc (.cells (cac za).toArray 41) = W at HX HN ⊢
  obtain ⟨v, hv⟩ : ∃ v, v = w.heap.size := ⟨_, rfl⟩
  have HNN : Hid (Ur w W b (v + 1) u) := Lib.hid (by rw [hv]; exact HN.out)
  clear HN
  rw [← hv] at HX ⊢
  clear hv
  have hvb : v ≠ b := BlkW.ne_ HX.out HNN.out.hu (by decide)
  have hz := BlkW.lt HNN.out.hu
  have c4 := HNN.out.hu.line
  have f4 := HNN.out.hu.frozen 4
  rw [hl] at c4
  clear hl
  have kw : wrap64 7 = 7 := IntWalk.wrap64_in _ ⟨by decide, by decide⟩
  go_upto_region 4 with fail
  show Code.wp _ _ _ _ (W.setCell ⟨b, 4, none⟩ (.int .i64 7))
  have HN := Lib.hid (HNN.out.line 7)
  replace HX := Lib.hid (HX.out.far hvb (i := 4) (.int .i64 7))
  clear HNN c4 f4 hz kw
  generalize W.setCell ⟨b, 4, none⟩ (.int .i64 7) = W at HX HN ⊢
  have hz := BlkW.lt HN.out.hu
  obtain ⟨b0, b1, b2, b3, b4, b5⟩ := rep6 HX.out
  have hzx := BlkW.lt HX.out
  have cn := HN.out.hu.num
  have fn := HN.out.hu.frozen 25
  go_upto_region 23 with fail
  show Code.wp _ _ _ _ (W.setCell ⟨b, 25, none⟩ (.int .i64 x.1.num))
  replace HN := Lib.hid (HN.out.set 25 (.int .i64 x.1.num) (u' := { u with line := 7, num := x.1.num }) (by kernel_rfl))
  clear cn fn b0 b1 b2 b3 b4 b5 hz hzx HX
  generalize W.setCell ⟨b, 25, none⟩ (.int .i64 x.1.num) = W at HN ⊢
  have hz := BlkW.lt HN.out.hu
  go_upto_region 23 with fail
  clear hvb
  refine wp_region_held (S := fun W' => UAt W' b { u with line := 7, num := x.1.num }) (by kernel_rfl) ?_
  have hS : UAt W.drew b { u with line := 7, num := x.1.num } := HN.out.hu.drew
  replace HN := Lib.hid (HN.out.below (Below.refl _ _).drew)
  clear hz
  show wpAnyH _ _ _ _ _ 11 #[false, false, false, false, false, false, false, false, false, false, false] _ W.drew
  generalize W.drew = W at HN hS ⊢
  refine wpAnyH_take (i := 1) (v := .pointer (some ⟨b, 0, none⟩)) rfl (by kernel_rfl) (by kernel_rfl) (by kernel_rfl) (fun _ _ _ h => h) (Or.inl ⟨by rfl, fun w' _ => by go_simp⟩) hS ?_
  simp only [Act.put, List.getElem_toArray, List.getElem_cons_succ, List.getElem_cons_zero, List.setIfInBounds_toArray, List.set_cons_zero, List.set_cons_succ]
  refine wpAnyH_take (i := 2) (v := .pointer (some ⟨b, 0, none⟩)) rfl (by kernel_rfl) (by kernel_rfl) (by kernel_rfl) (fun _ _ _ h => h) (Or.inl ⟨by rfl, fun w' _ => by go_simp⟩) hS ?_
  simp only [Act.put, List.getElem_toArray, List.getElem_cons_succ, List.getElem_cons_zero, List.setIfInBounds_toArray, List.set_cons_zero, List.set_cons_succ]
  refine wpAnyH_take (i := 3) (v := .pointer (some ⟨b, 10, none⟩)) rfl (by kernel_rfl) (by kernel_rfl) (by kernel_rfl) (fun _ _ _ h => h) (Or.inl ⟨by rfl, fun w' _ => by go_simp⟩) hS ?_
  simp only [Act.put, List.getElem_toArray, List.getElem_cons_succ, List.getElem_cons_zero, List.setIfInBounds_toArray, List.set_cons_zero, List.set_cons_succ]
  refine wpAnyH_take (i := 4) (v := .agg (wc u.h).toArray) rfl (by kernel_rfl) (by kernel_rfl) (by kernel_rfl) (fun _ _ _ h => h) (yieldsIf_load_mid (by rfl) 37 (.tmp 105) rfl b 10 rfl (wc u.h) _ (fun w' h => UAt.range h 10 (wc u.h) (by kernel_rfl)) Tryd.underlying37 rfl infoWd) hS ?_
  simp only [Act.put, List.getElem_toArray, List.getElem_cons_succ, List.getElem_cons_zero, List.setIfInBounds_toArray, List.set_cons_zero, List.set_cons_succ]
  refine wpAnyH_take (i := 5) (v := .pointer (some ⟨b, 0, none⟩)) rfl (by kernel_rfl) (by kernel_rfl) (by kernel_rfl) (fun _ _ _ h => h) (Or.inl ⟨by rfl, fun w' _ => by go_simp⟩) hS ?_
  simp only [Act.put, List.getElem_toArray, List.getElem_cons_succ, List.getElem_cons_zero, List.setIfInBounds_toArray, List.set_cons_zero, List.set_cons_succ]
  refine wpAnyH_take (i := 6) (v := .pointer (some ⟨b, 0, none⟩)) rfl (by kernel_rfl) (by kernel_rfl) (by kernel_rfl) (fun _ _ _ h => h) (Or.inl ⟨by rfl, fun w' _ => by go_simp⟩) hS ?_
  simp only [Act.put, List.getElem_toArray, List.getElem_cons_succ, List.getElem_cons_zero, List.setIfInBounds_toArray, List.set_cons_zero, List.set_cons_succ]
  refine wpAnyH_take (i := 7) (v := .pointer (some ⟨b, 20, none⟩)) rfl (by kernel_rfl) (by kernel_rfl) (by kernel_rfl) (fun _ _ _ h => h) (Or.inl ⟨by rfl, fun w' _ => by go_simp⟩) hS ?_
  simp only [Act.put, List.getElem_toArray, List.getElem_cons_succ, List.getElem_cons_zero, List.setIfInBounds_toArray, List.set_cons_zero, List.set_cons_succ]
  refine wpAnyH_take (i := 8) (v := .agg (wc u.n).toArray) rfl (by kernel_rfl) (by kernel_rfl) (by kernel_rfl) (fun _ _ _ h => h) (yieldsIf_load_mid (by rfl) 37 (.tmp 109) rfl b 20 rfl (wc u.n) _ (fun w' h => UAt.range h 20 (wc u.n) (by kernel_rfl)) Tryd.underlying37 rfl infoWd) hS ?_
  simp only [Act.put, List.getElem_toArray, List.getElem_cons_succ, List.getElem_cons_zero, List.setIfInBounds_toArray, List.set_cons_zero, List.set_cons_succ]
  refine wpAnyH_ready (rs := [0]) (by kernel_rfl) (by simp) ?_
  refine AllReadyH.cons rfl (fun K hK => ?_) AllReadyH.nil
  rw [if_pos (by rfl)]
  go_simp
  refine (rroot_is 0 _).mono ?_
  rintro e wk ⟨rfl, hb⟩
  replace HN := Lib.hid (HN.out.below hb)
  refine hK.out _ _ (hS.below hb) (fun _ => ?_)
  replace hS := hS.below hb
  clear hb hK K
  refine wpAnyH_ready (rs := [9]) (by kernel_rfl) (by simp) ?_
  refine AllReadyH.cons rfl (fun K hK => ?_) AllReadyH.nil
  rw [if_pos (by rfl)]
  go_simp
  refine (rswap_is (0, 0, 0) u.h u.n _).mono ?_
  rintro e wk ⟨rfl, hb⟩
  replace HN := Lib.hid (HN.out.below hb)
  refine hK.out _ _ (hS.below hb) (fun _ => ?_)
  replace hS := hS.below hb
  clear hb hK K
  refine wpAnyH_ready (rs := [10]) (by kernel_rfl) (by simp) ?_
  refine AllReadyH.cons rfl (fun K hK => ?_) AllReadyH.nil
  refine step_store_c HN.out.hq rfl (.tmp 4) (.tmp 111) rfl (by rfl) (cSwap (0, 0, 0) u.h u.n) (by rfl) ?_
  intro W9 k1 k2
  have K9 := Lib.hid (HN.out.fin k1 k2)
  refine hK.out _ _ K9.out.hu (fun _ => ?_)
  refine wpAnyH_done (by kernel_rfl) ?_ _
  clear hK K hS HN k1 k2
  go_wp2
  exact bodyPost_ret (v := cav (cSwap (0, 0, 0) u.h u.n)) (rresults rfl _ (by rfl) (rans_load K9.out.hq)) rfl ⟨rfl, Lib.hid K9.out.hu, Lib.hid K9.out.off⟩
set_option maxRecDepth 100000 in
set_option maxHeartbeats 1000000 in
theorem rdeq_swapped (h : UAt w b u) (x : Wd × Bool) (hl : u.line = 7) (hx : x.2 = true) :
    Calls Tryd.prog 17 #[.pointer (some ⟨b, 0, none⟩), rpv x] w (UPost w b (u.at_ 8) (cRetire u.h)) := by
  have HXX := Lib.hid hx
  clear hx
  have hb1 := below_alloc (Below.refl w.heap.size w) (.cells #[.int .i64 x.1.slot, .int .i64 x.1.gen, .int .i64 x.1.tag, .int .i64 x.1.num, .bool x.1.mark, .bool x.2] 44)
  have hb2 := below_alloc hb1 (.cells (cac za).toArray 41)
  have hbx := below_alloc (Below.refl (w.alloc (.cells #[.int .i64 x.1.slot, .int .i64 x.1.gen, .int .i64 x.1.tag, .int .i64 x.1.num, .bool x.1.mark, .bool x.2] 44)).heap.size (w.alloc (.cells #[.int .i64 x.1.slot, .int .i64 x.1.gen, .int .i64 x.1.tag, .int .i64 x.1.num, .bool x.1.mark, .bool x.2] 44))) (.cells (cac za).toArray 41)
  have HX := Lib.hid ((box_rep w x).below hbx)
  have hq := BlkW.new (w.alloc (.cells #[.int .i64 x.1.slot, .int .i64 x.1.gen, .int .i64 x.1.tag, .int .i64 x.1.num, .bool x.1.mark, .bool x.2] 44)) 41 (cac za).toArray
  rw [World.size_alloc] at hq
  have HN := Lib.hid (Ur.mk (h.below hb2) hq (Only.of_below hb2) (Nat.le_succ _))
  clear h hb1 hb2 hbx hq
  unfold rpv
  go_enter Tryd.func17, Tryd.ntmps17
  go_upto_region 1 with fail
  show Code.wp _ _ _ _ ((w.alloc (.cells #[.int .i64 x.1.slot, .int .i64 x.1.gen, .int .i64 x.1.tag, .int .i64 x.1.num, .bool x.1.mark, .bool x.2] 44)).alloc (.cells (cac za).toArray 41))
  generalize (w.alloc (.cells #[.int .i64 x.1.slot, .int .i64 x.1.gen, .int .i64 x.1.tag, .int .i64 x.1.num, .bool x.1.mark, .bool x.2] 44)).alloc (.cells (cac za).toArray 41) = W at HX HN ⊢
  obtain ⟨v, hv⟩ : ∃ v, v = w.heap.size := ⟨_, rfl⟩
  have HNN : Hid (Ur w W b (v + 1) u) := Lib.hid (by rw [hv]; exact HN.out)
  clear HN
  rw [← hv] at HX ⊢
  clear hv
  have hvb : v ≠ b := BlkW.ne_ HX.out HNN.out.hu (by decide)
  have hz := BlkW.lt HNN.out.hu
  have c4 := HNN.out.hu.line
  have f4 := HNN.out.hu.frozen 4
  rw [hl] at c4
  clear hl
  have kw : wrap64 8 = 8 := IntWalk.wrap64_in _ ⟨by decide, by decide⟩
  go_upto_region 4 with fail
  show Code.wp _ _ _ _ (W.setCell ⟨b, 4, none⟩ (.int .i64 8))
  have HN := Lib.hid (HNN.out.line 8)
  replace HX := Lib.hid (HX.out.far hvb (i := 4) (.int .i64 8))
  clear HNN c4 f4 hz kw
  generalize W.setCell ⟨b, 4, none⟩ (.int .i64 8) = W at HX HN ⊢
  have hz := BlkW.lt HN.out.hu
  obtain ⟨b0, b1, b2, b3, b4, b5⟩ := rep6 HX.out
  have hzx := BlkW.lt HX.out
  rw [HXX.out] at b5
  obtain ⟨t0, t1, t2, t3, t4⟩ : W.cell? ⟨b, 10, none⟩ = some (.int .i64 u.h.slot) ∧ W.cell? ⟨b, 11, none⟩ = some (.int .i64 u.h.gen) ∧ W.cell? ⟨b, 12, none⟩ = some (.int .i64 u.h.tag) ∧ W.cell? ⟨b, 13, none⟩ = some (.int .i64 u.h.num) ∧ W.cell? ⟨b, 14, none⟩ = some (.bool u.h.mark) := HN.out.hu.h5
  go_wp2_with (refine wp_store_c HN.out.hq rfl (.tmp 4) (.tmp 120) rfl (by rfl) (cRetire u.h) (by rfl) ?_; intro W9 k1 k2; have R9 := Lib.hid (HN.out.fin k1 k2); clear k1 k2)
  exact bodyPost_ret (v := cav (cRetire u.h)) (rresults rfl _ (by rfl) (rans_load R9.out.hq)) rfl ⟨rfl, Lib.hid R9.out.hu, Lib.hid R9.out.off⟩
set_option maxRecDepth 100000 in
set_option maxHeartbeats 1000000 in
theorem rdeq_slow (h : UAt w b u) (x : Wd × Bool) (hl : u.line = 7) (hx : x.2 = false) :
    Calls Tryd.prog 17 #[.pointer (some ⟨b, 0, none⟩), rpv x] w (UPost w b (u.at_ 1) (cProtect (0, 0, 0) 0)) := by
  have HXX := Lib.hid hx
  clear hx
  have hb1 := below_alloc (Below.refl w.heap.size w) (.cells #[.int .i64 x.1.slot, .int .i64 x.1.gen, .int .i64 x.1.tag, .int .i64 x.1.num, .bool x.1.mark, .bool x.2] 44)
  have hb2 := below_alloc hb1 (.cells (cac za).toArray 41)
  have hbx := below_alloc (Below.refl (w.alloc (.cells #[.int .i64 x.1.slot, .int .i64 x.1.gen, .int .i64 x.1.tag, .int .i64 x.1.num, .bool x.1.mark, .bool x.2] 44)).heap.size (w.alloc (.cells #[.int .i64 x.1.slot, .int .i64 x.1.gen, .int .i64 x.1.tag, .int .i64 x.1.num, .bool x.1.mark, .bool x.2] 44))) (.cells (cac za).toArray 41)
  have HX := Lib.hid ((box_rep w x).below hbx)
  have hq := BlkW.new (w.alloc (.cells #[.int .i64 x.1.slot, .int .i64 x.1.gen, .int .i64 x.1.tag, .int .i64 x.1.num, .bool x.1.mark, .bool x.2] 44)) 41 (cac za).toArray
  rw [World.size_alloc] at hq
  have HN := Lib.hid (Ur.mk (h.below hb2) hq (Only.of_below hb2) (Nat.le_succ _))
  clear h hb1 hb2 hbx hq
  unfold rpv
  go_enter Tryd.func17, Tryd.ntmps17
  go_upto_region 1 with fail
  show Code.wp _ _ _ _ ((w.alloc (.cells #[.int .i64 x.1.slot, .int .i64 x.1.gen, .int .i64 x.1.tag, .int .i64 x.1.num, .bool x.1.mark, .bool x.2] 44)).alloc (.cells (cac za).toArray 41))
  generalize (w.alloc (.cells #[.int .i64 x.1.slot, .int .i64 x.1.gen, .int .i64 x.1.tag, .int .i64 x.1.num, .bool x.1.mark, .bool x.2] 44)).alloc (.cells (cac za).toArray 41) = W at HX HN ⊢
  obtain ⟨v, hv⟩ : ∃ v, v = w.heap.size := ⟨_, rfl⟩
  have HNN : Hid (Ur w W b (v + 1) u) := Lib.hid (by rw [hv]; exact HN.out)
  clear HN
  rw [← hv] at HX ⊢
  clear hv
  have hvb : v ≠ b := BlkW.ne_ HX.out HNN.out.hu (by decide)
  have hz := BlkW.lt HNN.out.hu
  have c4 := HNN.out.hu.line
  have f4 := HNN.out.hu.frozen 4
  rw [hl] at c4
  clear hl
  have kw : wrap64 8 = 8 := IntWalk.wrap64_in _ ⟨by decide, by decide⟩
  go_upto_region 4 with fail
  show Code.wp _ _ _ _ (W.setCell ⟨b, 4, none⟩ (.int .i64 8))
  have HN := Lib.hid (HNN.out.line 8)
  replace HX := Lib.hid (HX.out.far hvb (i := 4) (.int .i64 8))
  clear HNN c4 f4 hz kw
  generalize W.setCell ⟨b, 4, none⟩ (.int .i64 8) = W at HX HN ⊢
  have hz := BlkW.lt HN.out.hu
  obtain ⟨b0, b1, b2, b3, b4, b5⟩ := rep6 HX.out
  have hzx := BlkW.lt HX.out
  rw [HXX.out] at b5
  have f4 := HN.out.hu.frozen 4
  have c4 := HN.out.hu.line
  go_upto_region 30 with fail
  show Code.wp _ _ _ _ (W.setCell ⟨b, 4, none⟩ (.int .i64 1))
  replace HN := Lib.hid (HN.out.line 1)
  replace HX := Lib.hid (HX.out.far hvb (i := 4) (.int .i64 1))
  clear f4 c4 b0 b1 b2 b3 b4 b5 hz hzx
  generalize W.setCell ⟨b, 4, none⟩ (.int .i64 1) = W at HX HN ⊢
  have hz := BlkW.lt HN.out.hu
  obtain ⟨b0, b1, b2, b3, b4, b5⟩ := rep6 HX.out
  have hzx := BlkW.lt HX.out
  go_wp2_with fail
  refine (rroot_is 0 _).mono ?_
  rintro e wk ⟨rfl, hb⟩
  replace HN := Lib.hid (HN.out.below hb)
  clear hb hz
  try clear t0 t1 t2 t3 t4
  have hz := BlkW.lt HN.out.hu
  go_wp2_with (refine wp_store_c HN.out.hq rfl (.tmp 4) (.tmp 133) rfl (by rfl) (cProtect (0, 0, 0) 0) (by rfl) ?_; intro W9 k1 k2; have R9 := Lib.hid (HN.out.fin k1 k2); clear k1 k2)
  exact bodyPost_ret (v := cav (cProtect (0, 0, 0) 0)) (rresults rfl _ (by rfl) (rans_load R9.out.hq)) rfl ⟨rfl, Lib.hid R9.out.hu, Lib.hid R9.out.off⟩
set_option maxRecDepth 100000 in
set_option maxHeartbeats 1000000 in
theorem rdeq_8 (h : UAt w b u) (x : Wd × Bool) (hl : u.line = 8)  :
    Calls Tryd.prog 17 #[.pointer (some ⟨b, 0, none⟩), rpv x] w (UPost w b ((u.done 1 u.num).1) (cDone 1 u.num)) := by
  have hb1 := below_alloc (Below.refl w.heap.size w) (.cells #[.int .i64 x.1.slot, .int .i64 x.1.gen, .int .i64 x.1.tag, .int .i64 x.1.num, .bool x.1.mark, .bool x.2] 44)
  have hb2 := below_alloc hb1 (.cells (cac za).toArray 41)
  have hbx := below_alloc (Below.refl (w.alloc (.cells #[.int .i64 x.1.slot, .int .i64 x.1.gen, .int .i64 x.1.tag, .int .i64 x.1.num, .bool x.1.mark, .bool x.2] 44)).heap.size (w.alloc (.cells #[.int .i64 x.1.slot, .int .i64 x.1.gen, .int .i64 x.1.tag, .int .i64 x.1.num, .bool x.1.mark, .bool x.2] 44))) (.cells (cac za).toArray 41)
  have HX := Lib.hid ((box_rep w x).below hbx)
  have hq := BlkW.new (w.alloc (.cells #[.int .i64 x.1.slot, .int .i64 x.1.gen, .int .i64 x.1.tag, .int .i64 x.1.num, .bool x.1.mark, .bool x.2] 44)) 41 (cac za).toArray
  rw [World.size_alloc] at hq
  have HN := Lib.hid (Ur.mk (h.below hb2) hq (Only.of_below hb2) (Nat.le_succ _))
  clear h hb1 hb2 hbx hq
  unfold rpv
  go_enter Tryd.func17, Tryd.ntmps17
  go_upto_region 1 with fail
  show Code.wp _ _ _ _ ((w.alloc (.cells #[.int .i64 x.1.slot, .int .i64 x.1.gen, .int .i64 x.1.tag, .int .i64 x.1.num, .bool x.1.mark, .bool x.2] 44)).alloc (.cells (cac za).toArray 41))
  generalize (w.alloc (.cells #[.int .i64 x.1.slot, .int .i64 x.1.gen, .int .i64 x.1.tag, .int .i64 x.1.num, .bool x.1.mark, .bool x.2] 44)).alloc (.cells (cac za).toArray 41) = W at HX HN ⊢
  obtain ⟨v, hv⟩ : ∃ v, v = w.heap.size := ⟨_, rfl⟩
  have HNN : Hid (Ur w W b (v + 1) u) := Lib.hid (by rw [hv]; exact HN.out)
  clear HN
  rw [← hv] at HX ⊢
  clear hv
  have hvb : v ≠ b := BlkW.ne_ HX.out HNN.out.hu (by decide)
  have hz := BlkW.lt HNN.out.hu
  have c4 := HNN.out.hu.line
  have f4 := HNN.out.hu.frozen 4
  rw [hl] at c4
  clear hl
  have kw : wrap64 9 = 9 := IntWalk.wrap64_in _ ⟨by decide, by decide⟩
  go_upto_region 4 with fail
  show Code.wp _ _ _ _ (W.setCell ⟨b, 4, none⟩ (.int .i64 9))
  have HN := Lib.hid (HNN.out.line 9)
  replace HX := Lib.hid (HX.out.far hvb (i := 4) (.int .i64 9))
  clear HNN c4 f4 hz kw
  generalize W.setCell ⟨b, 4, none⟩ (.int .i64 9) = W at HX HN ⊢
  have hz := BlkW.lt HN.out.hu
  obtain ⟨b0, b1, b2, b3, b4, b5⟩ := rep6 HX.out
  have hzx := BlkW.lt HX.out
  have cn := HN.out.hu.num
  go_wp2_with fail
  refine (rdone_is HN.out.hu 1 u.num).mono ?_
  rintro e wk ⟨rfl, h1, h2⟩
  replace HN := Lib.hid (HN.out.after h1.out h2.out)
  clear cn h1 h2 b0 b1 b2 b3 b4 b5 hz hzx HX
  go_wp2_with (refine wp_store_c HN.out.hq rfl (.tmp 4) (.tmp 128) rfl (by rfl) (cDone 1 u.num) (by rfl) ?_; intro W9 k1 k2; have R9 := Lib.hid (HN.out.fin k1 k2); clear k1 k2)
  exact bodyPost_ret (v := cav (cDone 1 u.num)) (rresults rfl _ (by rfl) (rans_load R9.out.hq)) rfl ⟨rfl, Lib.hid R9.out.hu, Lib.hid R9.out.off⟩
end
end Go.Proofs.YtihjklimcchkhaaDoor.Co
