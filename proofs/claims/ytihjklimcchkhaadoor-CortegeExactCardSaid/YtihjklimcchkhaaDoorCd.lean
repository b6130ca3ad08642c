/- cortege: the steps of enqueue. A template (made by gen_XCd.py). -/
import Derived.Test.YtihjklimcchkhaaDoorCc
namespace Go.Proofs.YtihjklimcchkhaaDoor.Co
open Go.RowKit Go.Extern.Stop Go.Stop Go.Extern Go.Sort
section
variable {w w' : World} {b : Nat} {j j' : Jb}
set_option maxRecDepth 100000 in
set_option maxHeartbeats 1000000 in
theorem enq_0 (h : JAt w b j) (x : Wd × Bool) (hd : j.done = 0) :
    Calls Tryd.prog 14 #[.pointer (some ⟨b, 0, none⟩), rpv x] w (JLeaf w b (j.ask cAlloc 1)) := by
  have h1 := h.below (below_alloc (Below.refl _ _) (.cells #[.int .i64 x.1.slot, .int .i64 x.1.gen, .int .i64 x.1.tag, .int .i64 x.1.num, .bool x.1.mark, .bool x.2] 44))
  have HX := Lib.hid (box_rep w x)
  have HO := Lib.hid (Only.of_below (r := b) (below_alloc (Below.refl w.heap.size w) (.cells #[.int .i64 x.1.slot, .int .i64 x.1.gen, .int .i64 x.1.tag, .int .i64 x.1.num, .bool x.1.mark, .bool x.2] 44)))
  have HR := Lib.hid h1
  clear h h1
  unfold rpv
  go_enter Tryd.func14, Tryd.ntmps14
  go_upto_region 1 with fail
  generalize w.alloc (.cells #[.int .i64 x.1.slot, .int .i64 x.1.gen, .int .i64 x.1.tag, .int .i64 x.1.num, .bool x.1.mark, .bool x.2] 44) = W at HR HX HO ⊢
  have hX := HX.out
  have hzx := BlkW.lt hX
  have hrx : w.heap.size ≠ b := fun e => BlkW.ne_ hX HR.out (by decide) e
  obtain ⟨b0, b1, b2, b3, b4, b5⟩ := rep6 hX
  have hz := BlkW.lt HR.out
  have cd := HR.out.done
  clear hX HX
  generalize w.heap.size = g at hzx hrx b0 b1 b2 b3 b4 b5 ⊢
  rw [hd] at cd
  clear hd
  go_wp2_with fail
  refine (jask_any HR.out cAlloc 1).mono ?_
  rintro e w2 ⟨rfl, h1, h2⟩
  go_wp2
  first
    | go_end0
    | refine bodyPost_ret (results_none rfl _ _ _) rfl ?_
  exact ⟨rfl, h1, Lib.hid (HO.out.trans h2.out)⟩
set_option maxRecDepth 100000 in
set_option maxHeartbeats 1000000 in
theorem enq_full (h : JAt w b j) (x : Wd × Bool) (hd : j.done = 1) (hx : x.2 = false) :
    Calls Tryd.prog 14 #[.pointer (some ⟨b, 0, none⟩), rpv x] w (JLeaf w b (j.end_ 4 0)) := by
  have HXX := Lib.hid hx
  clear hx
  have h1 := h.below (below_alloc (Below.refl _ _) (.cells #[.int .i64 x.1.slot, .int .i64 x.1.gen, .int .i64 x.1.tag, .int .i64 x.1.num, .bool x.1.mark, .bool x.2] 44))
  have HX := Lib.hid (box_rep w x)
  have HO := Lib.hid (Only.of_below (r := b) (below_alloc (Below.refl w.heap.size w) (.cells #[.int .i64 x.1.slot, .int .i64 x.1.gen, .int .i64 x.1.tag, .int .i64 x.1.num, .bool x.1.mark, .bool x.2] 44)))
  have HR := Lib.hid h1
  clear h h1
  unfold rpv
  go_enter Tryd.func14, Tryd.ntmps14
  go_upto_region 1 with fail
  generalize w.alloc (.cells #[.int .i64 x.1.slot, .int .i64 x.1.gen, .int .i64 x.1.tag, .int .i64 x.1.num, .bool x.1.mark, .bool x.2] 44) = W at HR HX HO ⊢
  have hX := HX.out
  have hzx := BlkW.lt hX
  have hrx : w.heap.size ≠ b := fun e => BlkW.ne_ hX HR.out (by decide) e
  obtain ⟨b0, b1, b2, b3, b4, b5⟩ := rep6 hX
  have hz := BlkW.lt HR.out
  have cd := HR.out.done
  clear hX HX
  generalize w.heap.size = g at hzx hrx b0 b1 b2 b3 b4 b5 ⊢
  rw [hd] at cd
  clear hd
  rw [HXX.out] at b5
  go_wp2_with fail
  refine (jend_any HR.out 4 0).mono ?_
  rintro e w2 ⟨rfl, h1, h2⟩
  go_wp2
  first
    | go_end0
    | refine bodyPost_ret (results_none rfl _ _ _) rfl ?_
  exact ⟨rfl, h1, Lib.hid (HO.out.trans h2.out)⟩
set_option maxRecDepth 100000 in
set_option maxHeartbeats 1000000 in
theorem enq_given (h : JAt w b j) (x : Wd × Bool) (hd : j.done = 1) (hx : x.2 = true) :
    Calls Tryd.prog 14 #[.pointer (some ⟨b, 0, none⟩), rpv x] w (JLeaf w b ((j.setNode x.1).ask (cStore (fld x.1 1) (nw j.op.val)) 2)) := by
  have HXX := Lib.hid hx
  clear hx
  have h1 := h.below (below_alloc (Below.refl _ _) (.cells #[.int .i64 x.1.slot, .int .i64 x.1.gen, .int .i64 x.1.tag, .int .i64 x.1.num, .bool x.1.mark, .bool x.2] 44))
  have HX := Lib.hid (box_rep w x)
  have HO := Lib.hid (Only.of_below (r := b) (below_alloc (Below.refl w.heap.size w) (.cells #[.int .i64 x.1.slot, .int .i64 x.1.gen, .int .i64 x.1.tag, .int .i64 x.1.num, .bool x.1.mark, .bool x.2] 44)))
  have HR := Lib.hid h1
  clear h h1
  unfold rpv
  go_enter Tryd.func14, Tryd.ntmps14
  go_upto_region 1 with fail
  generalize w.alloc (.cells #[.int .i64 x.1.slot, .int .i64 x.1.gen, .int .i64 x.1.tag, .int .i64 x.1.num, .bool x.1.mark, .bool x.2] 44) = W at HR HX HO ⊢
  have hX := HX.out
  have hzx := BlkW.lt hX
  have hrx : w.heap.size ≠ b := fun e => BlkW.ne_ hX HR.out (by decide) e
  obtain ⟨b0, b1, b2, b3, b4, b5⟩ := rep6 hX
  have hz := BlkW.lt HR.out
  have cd := HR.out.done
  clear hX HX
  generalize w.heap.size = g at hzx hrx b0 b1 b2 b3 b4 b5 ⊢
  rw [hd] at cd
  clear hd
  rw [HXX.out] at b5
  obtain ⟨t0, t1, t2, t3, t4⟩ := HR.out.node5
  have fz : ∀ o, W.frozen? ⟨b, o, none⟩ = false := HR.out.frozen
  go_upto_region 15 with fail
  have RS := Lib.hid (HR.out.setNode x.1)
  have OS := Lib.hid (HO.out.trans (Only.sets (r := b) (w := W) 19 (wc x.1)))
  show Code.wp _ _ _ _ (W.setCells b 19 (wc x.1))
  clear t0 t1 t2 t3 t4 fz b0 b1 b2 b3 b4 b5 cd HR HO hz hzx
  generalize W.setCells b 19 (wc x.1) = W2 at RS OS ⊢
  have hz := BlkW.lt RS.out
  have HD := Lib.hid RS.out.drew
  obtain ⟨no0, no1, no2, no3, no4⟩ : W2.cell? ⟨b, 19, none⟩ = some (.int .i64 x.1.slot) ∧ W2.cell? ⟨b, 20, none⟩ = some (.int .i64 x.1.gen) ∧ W2.cell? ⟨b, 21, none⟩ = some (.int .i64 x.1.tag) ∧ W2.cell? ⟨b, 22, none⟩ = some (.int .i64 x.1.num) ∧ W2.cell? ⟨b, 23, none⟩ = some (.bool x.1.mark) := RS.out.node5
  have cv : W2.cell? ⟨b, 42, none⟩ = some (.int .i64 j.op.val) := JAt.oval (j := j.setNode x.1) RS.out
  go_region_held3 (fun w' => ((w'.cell? ⟨b, 19, none⟩ = some (.int .i64 x.1.slot) ∧ w'.cell? ⟨b, 20, none⟩ = some (.int .i64 x.1.gen) ∧ w'.cell? ⟨b, 21, none⟩ = some (.int .i64 x.1.tag) ∧ w'.cell? ⟨b, 22, none⟩ = some (.int .i64 x.1.num) ∧ w'.cell? ⟨b, 23, none⟩ = some (.bool x.1.mark))) ∧ w'.cell? ⟨b, 42, none⟩ = some (.int .i64 j.op.val))
    (first | go_keep | trivial | exact ⟨JAt.node5 (j := j.setNode x.1) (HD.out.below hb), JAt.oval (j := j.setNode x.1) (HD.out.below hb)⟩ | exact ⟨JAt.node5 (j := j.setNode x.1) ((HD.out.below hb).below hb2), JAt.oval (j := j.setNode x.1) ((HD.out.below hb).below hb2)⟩ | exact ⟨JAt.node5 (j := ((j.setNode x.1).ask (cStore (fld x.1 1) (nw j.op.val)) 2)) h1.out, JAt.oval (j := ((j.setNode x.1).ask (cStore (fld x.1 1) (nw j.op.val)) 2)) h1.out⟩)
    (first
    | (go_at_call 21; refine (Field_at _ _ _ _ _ _ _).mono ?_; rintro e w2 ⟨rfl, hb⟩)
    | (go_at_call 22; refine (Num_at _ _).mono ?_; rintro e w3 ⟨rfl, hb2⟩; have HA := Lib.hid (jstore_any ((HD.out.below hb).below hb2) (fld x.1 1) (nw j.op.val) 2))
    | (go_at_call 20; refine HA.out.mono ?_; rintro e w4 ⟨rfl, h1, h2⟩))
  all_goals
    go_wp2
    first
      | go_end0
      | refine bodyPost_ret (results_none rfl _ _ _) rfl ?_
    exact ⟨rfl, h1, Lib.hid ((((OS.out.trans Only.drew).trans (Only.of_below hb)).trans (Only.of_below hb2)).trans h2.out)⟩
set_option maxRecDepth 100000 in
set_option maxHeartbeats 1000000 in
theorem enq_linked (h : JAt w b j) (x : Wd × Bool) (hd : j.done = 8) (hx : x.2 = true) :
    Calls Tryd.prog 14 #[.pointer (some ⟨b, 0, none⟩), rpv x] w (JLeaf w b (j.ask (cSwap (0, 0, 1) j.tail j.node) 9)) := by
  have HXX := Lib.hid hx
  clear hx
  have h1 := h.below (below_alloc (Below.refl _ _) (.cells #[.int .i64 x.1.slot, .int .i64 x.1.gen, .int .i64 x.1.tag, .int .i64 x.1.num, .bool x.1.mark, .bool x.2] 44))
  have HX := Lib.hid (box_rep w x)
  have HO := Lib.hid (Only.of_below (r := b) (below_alloc (Below.refl w.heap.size w) (.cells #[.int .i64 x.1.slot, .int .i64 x.1.gen, .int .i64 x.1.tag, .int .i64 x.1.num, .bool x.1.mark, .bool x.2] 44)))
  have HR := Lib.hid h1
  clear h h1
  unfold rpv
  go_enter Tryd.func14, Tryd.ntmps14
  go_upto_region 1 with fail
  generalize w.alloc (.cells #[.int .i64 x.1.slot, .int .i64 x.1.gen, .int .i64 x.1.tag, .int .i64 x.1.num, .bool x.1.mark, .bool x.2] 44) = W at HR HX HO ⊢
  have hX := HX.out
  have hzx := BlkW.lt hX
  have hrx : w.heap.size ≠ b := fun e => BlkW.ne_ hX HR.out (by decide) e
  obtain ⟨b0, b1, b2, b3, b4, b5⟩ := rep6 hX
  have hz := BlkW.lt HR.out
  have cd := HR.out.done
  clear hX HX
  generalize w.heap.size = g at hzx hrx b0 b1 b2 b3 b4 b5 ⊢
  rw [hd] at cd
  clear hd
  rw [HXX.out] at b5
  have HD := Lib.hid HR.out.drew
  go_upto_region 17 with fail
  obtain ⟨ta0, ta1, ta2, ta3, ta4⟩ := HR.out.tail5
  obtain ⟨no0, no1, no2, no3, no4⟩ := HR.out.node5
  go_region_held3 (fun w' => (w'.cell? ⟨b, 29, none⟩ = some (.int .i64 j.tail.slot) ∧ w'.cell? ⟨b, 30, none⟩ = some (.int .i64 j.tail.gen) ∧ w'.cell? ⟨b, 31, none⟩ = some (.int .i64 j.tail.tag) ∧ w'.cell? ⟨b, 32, none⟩ = some (.int .i64 j.tail.num) ∧ w'.cell? ⟨b, 33, none⟩ = some (.bool j.tail.mark)) ∧ (w'.cell? ⟨b, 19, none⟩ = some (.int .i64 j.node.slot) ∧ w'.cell? ⟨b, 20, none⟩ = some (.int .i64 j.node.gen) ∧ w'.cell? ⟨b, 21, none⟩ = some (.int .i64 j.node.tag) ∧ w'.cell? ⟨b, 22, none⟩ = some (.int .i64 j.node.num) ∧ w'.cell? ⟨b, 23, none⟩ = some (.bool j.node.mark)))
    (first | go_keep | trivial | exact ⟨JAt.tail5 (j := j) (HD.out.below hb), JAt.node5 (j := j) (HD.out.below hb)⟩ | exact ⟨JAt.tail5 (j := (j.ask (cSwap (0, 0, 1) j.tail j.node) 9)) h1.out, JAt.node5 (j := (j.ask (cSwap (0, 0, 1) j.tail j.node) 9)) h1.out⟩)
    (first
    | (go_at_call 24; refine (root1 _).mono ?_; rintro e w2 ⟨rfl, hb⟩; have HA := Lib.hid (jswap_any (HD.out.below hb) (0, 0, 1) j.tail j.node 9))
    | (go_at_call 23; refine HA.out.mono ?_; rintro e w3 ⟨rfl, h1, h2⟩))
  all_goals
    go_wp2
    first
      | go_end0
      | refine bodyPost_ret (results_none rfl _ _ _) rfl ?_
    exact ⟨rfl, h1, Lib.hid (((HO.out.trans Only.drew).trans (Only.of_below hb)).trans h2.out)⟩
set_option maxRecDepth 100000 in
set_option maxHeartbeats 1000000 in
theorem enq_slow (h : JAt w b j) (x : Wd × Bool) (hd : j.done = 8) (hx : x.2 = false) :
    Calls Tryd.prog 14 #[.pointer (some ⟨b, 0, none⟩), rpv x] w (JLeaf w b (j.lookT)) := by
  have HXX := Lib.hid hx
  clear hx
  have h1 := h.below (below_alloc (Below.refl _ _) (.cells #[.int .i64 x.1.slot, .int .i64 x.1.gen, .int .i64 x.1.tag, .int .i64 x.1.num, .bool x.1.mark, .bool x.2] 44))
  have HX := Lib.hid (box_rep w x)
  have HO := Lib.hid (Only.of_below (r := b) (below_alloc (Below.refl w.heap.size w) (.cells #[.int .i64 x.1.slot, .int .i64 x.1.gen, .int .i64 x.1.tag, .int .i64 x.1.num, .bool x.1.mark, .bool x.2] 44)))
  have HR := Lib.hid h1
  clear h h1
  unfold rpv
  go_enter Tryd.func14, Tryd.ntmps14
  go_upto_region 1 with fail
  generalize w.alloc (.cells #[.int .i64 x.1.slot, .int .i64 x.1.gen, .int .i64 x.1.tag, .int .i64 x.1.num, .bool x.1.mark, .bool x.2] 44) = W at HR HX HO ⊢
  have hX := HX.out
  have hzx := BlkW.lt hX
  have hrx : w.heap.size ≠ b := fun e => BlkW.ne_ hX HR.out (by decide) e
  obtain ⟨b0, b1, b2, b3, b4, b5⟩ := rep6 hX
  have hz := BlkW.lt HR.out
  have cd := HR.out.done
  clear hX HX
  generalize w.heap.size = g at hzx hrx b0 b1 b2 b3 b4 b5 ⊢
  rw [hd] at cd
  clear hd
  rw [HXX.out] at b5
  go_wp2_with fail
  refine (jlookT HR.out).mono ?_
  rintro e w2 ⟨rfl, h1, h2⟩
  go_wp2
  first
    | go_end0
    | refine bodyPost_ret (results_none rfl _ _ _) rfl ?_
  exact ⟨rfl, h1, Lib.hid (HO.out.trans h2.out)⟩
set_option maxRecDepth 100000 in
set_option maxHeartbeats 1000000 in
theorem enq_2 (h : JAt w b j) (x : Wd × Bool) (hd : j.done = 2) :
    Calls Tryd.prog 14 #[.pointer (some ⟨b, 0, none⟩), rpv x] w (JLeaf w b (j.lookT)) := by
  have h1 := h.below (below_alloc (Below.refl _ _) (.cells #[.int .i64 x.1.slot, .int .i64 x.1.gen, .int .i64 x.1.tag, .int .i64 x.1.num, .bool x.1.mark, .bool x.2] 44))
  have HX := Lib.hid (box_rep w x)
  have HO := Lib.hid (Only.of_below (r := b) (below_alloc (Below.refl w.heap.size w) (.cells #[.int .i64 x.1.slot, .int .i64 x.1.gen, .int .i64 x.1.tag, .int .i64 x.1.num, .bool x.1.mark, .bool x.2] 44)))
  have HR := Lib.hid h1
  clear h h1
  unfold rpv
  go_enter Tryd.func14, Tryd.ntmps14
  go_upto_region 1 with fail
  generalize w.alloc (.cells #[.int .i64 x.1.slot, .int .i64 x.1.gen, .int .i64 x.1.tag, .int .i64 x.1.num, .bool x.1.mark, .bool x.2] 44) = W at HR HX HO ⊢
  have hX := HX.out
  have hzx := BlkW.lt hX
  have hrx : w.heap.size ≠ b := fun e => BlkW.ne_ hX HR.out (by decide) e
  obtain ⟨b0, b1, b2, b3, b4, b5⟩ := rep6 hX
  have hz := BlkW.lt HR.out
  have cd := HR.out.done
  clear hX HX
  generalize w.heap.size = g at hzx hrx b0 b1 b2 b3 b4 b5 ⊢
  rw [hd] at cd
  clear hd
  go_wp2_with fail
  refine (jlookT HR.out).mono ?_
  rintro e w2 ⟨rfl, h1, h2⟩
  go_wp2
  first
    | go_end0
    | refine bodyPost_ret (results_none rfl _ _ _) rfl ?_
  exact ⟨rfl, h1, Lib.hid (HO.out.trans h2.out)⟩
set_option maxRecDepth 100000 in
set_option maxHeartbeats 1000000 in
theorem enq_7 (h : JAt w b j) (x : Wd × Bool) (hd : j.done = 7) :
    Calls Tryd.prog 14 #[.pointer (some ⟨b, 0, none⟩), rpv x] w (JLeaf w b (j.lookT)) := by
  have h1 := h.below (below_alloc (Below.refl _ _) (.cells #[.int .i64 x.1.slot, .int .i64 x.1.gen, .int .i64 x.1.tag, .int .i64 x.1.num, .bool x.1.mark, .bool x.2] 44))
  have HX := Lib.hid (box_rep w x)
  have HO := Lib.hid (Only.of_below (r := b) (below_alloc (Below.refl w.heap.size w) (.cells #[.int .i64 x.1.slot, .int .i64 x.1.gen, .int .i64 x.1.tag, .int .i64 x.1.num, .bool x.1.mark, .bool x.2] 44)))
  have HR := Lib.hid h1
  clear h h1
  unfold rpv
  go_enter Tryd.func14, Tryd.ntmps14
  go_upto_region 1 with fail
  generalize w.alloc (.cells #[.int .i64 x.1.slot, .int .i64 x.1.gen, .int .i64 x.1.tag, .int .i64 x.1.num, .bool x.1.mark, .bool x.2] 44) = W at HR HX HO ⊢
  have hX := HX.out
  have hzx := BlkW.lt hX
  have hrx : w.heap.size ≠ b := fun e => BlkW.ne_ hX HR.out (by decide) e
  obtain ⟨b0, b1, b2, b3, b4, b5⟩ := rep6 hX
  have hz := BlkW.lt HR.out
  have cd := HR.out.done
  clear hX HX
  generalize w.heap.size = g at hzx hrx b0 b1 b2 b3 b4 b5 ⊢
  rw [hd] at cd
  clear hd
  go_wp2_with fail
  refine (jlookT HR.out).mono ?_
  rintro e w2 ⟨rfl, h1, h2⟩
  go_wp2
  first
    | go_end0
    | refine bodyPost_ret (results_none rfl _ _ _) rfl ?_
  exact ⟨rfl, h1, Lib.hid (HO.out.trans h2.out)⟩
set_option maxRecDepth 100000 in
set_option maxHeartbeats 1000000 in
theorem enq_looked (h : JAt w b j) (x : Wd × Bool) (hd : j.done = 3) :
    Calls Tryd.prog 14 #[.pointer (some ⟨b, 0, none⟩), rpv x] w (JLeaf w b ((j.setTail x.1).ask (cLoad (fld x.1 2)) 5)) := by
  have h1 := h.below (below_alloc (Below.refl _ _) (.cells #[.int .i64 x.1.slot, .int .i64 x.1.gen, .int .i64 x.1.tag, .int .i64 x.1.num, .bool x.1.mark, .bool x.2] 44))
  have HX := Lib.hid (box_rep w x)
  have HO := Lib.hid (Only.of_below (r := b) (below_alloc (Below.refl w.heap.size w) (.cells #[.int .i64 x.1.slot, .int .i64 x.1.gen, .int .i64 x.1.tag, .int .i64 x.1.num, .bool x.1.mark, .bool x.2] 44)))
  have HR := Lib.hid h1
  clear h h1
  unfold rpv
  go_enter Tryd.func14, Tryd.ntmps14
  go_upto_region 1 with fail
  generalize w.alloc (.cells #[.int .i64 x.1.slot, .int .i64 x.1.gen, .int .i64 x.1.tag, .int .i64 x.1.num, .bool x.1.mark, .bool x.2] 44) = W at HR HX HO ⊢
  have hX := HX.out
  have hzx := BlkW.lt hX
  have hrx : w.heap.size ≠ b := fun e => BlkW.ne_ hX HR.out (by decide) e
  obtain ⟨b0, b1, b2, b3, b4, b5⟩ := rep6 hX
  have hz := BlkW.lt HR.out
  have cd := HR.out.done
  clear hX HX
  generalize w.heap.size = g at hzx hrx b0 b1 b2 b3 b4 b5 ⊢
  rw [hd] at cd
  clear hd
  obtain ⟨t0, t1, t2, t3, t4⟩ := HR.out.tail5
  have fz : ∀ o, W.frozen? ⟨b, o, none⟩ = false := HR.out.frozen
  go_upto_region 20 with fail
  have RS := Lib.hid (HR.out.setTail x.1)
  have OS := Lib.hid (HO.out.trans (Only.sets (r := b) (w := W) 29 (wc x.1)))
  show Code.wp _ _ _ _ (W.setCells b 29 (wc x.1))
  clear t0 t1 t2 t3 t4 fz b0 b1 b2 b3 b4 b5 cd HR HO hz hzx
  generalize W.setCells b 29 (wc x.1) = W2 at RS OS ⊢
  have hz := BlkW.lt RS.out
  have HD := Lib.hid RS.out.drew
  obtain ⟨ta0, ta1, ta2, ta3, ta4⟩ : W2.cell? ⟨b, 29, none⟩ = some (.int .i64 x.1.slot) ∧ W2.cell? ⟨b, 30, none⟩ = some (.int .i64 x.1.gen) ∧ W2.cell? ⟨b, 31, none⟩ = some (.int .i64 x.1.tag) ∧ W2.cell? ⟨b, 32, none⟩ = some (.int .i64 x.1.num) ∧ W2.cell? ⟨b, 33, none⟩ = some (.bool x.1.mark) := RS.out.tail5
  go_region_held3 (fun w' => (w'.cell? ⟨b, 29, none⟩ = some (.int .i64 x.1.slot) ∧ w'.cell? ⟨b, 30, none⟩ = some (.int .i64 x.1.gen) ∧ w'.cell? ⟨b, 31, none⟩ = some (.int .i64 x.1.tag) ∧ w'.cell? ⟨b, 32, none⟩ = some (.int .i64 x.1.num) ∧ w'.cell? ⟨b, 33, none⟩ = some (.bool x.1.mark)))
    (first | go_keep | trivial | exact JAt.tail5 (j := j.setTail x.1) (HD.out.below hb) | exact JAt.tail5 (j := ((j.setTail x.1).ask (cLoad (fld x.1 2)) 5)) h1.out)
    (first
    | (go_at_call 21; refine (Field_at _ _ _ _ _ _ _).mono ?_; rintro e w2 ⟨rfl, hb⟩; have HA := Lib.hid (jload_any (HD.out.below hb) (fld x.1 2) 5))
    | (go_at_call 26; refine HA.out.mono ?_; rintro e w3 ⟨rfl, h1, h2⟩))
  all_goals
    go_wp2
    first
      | go_end0
      | refine bodyPost_ret (results_none rfl _ _ _) rfl ?_
    exact ⟨rfl, h1, Lib.hid (((OS.out.trans Only.drew).trans (Only.of_below hb)).trans h2.out)⟩
set_option maxRecDepth 100000 in
set_option maxHeartbeats 1000000 in
theorem enq_followed (h : JAt w b j) (x : Wd × Bool) (hd : j.done = 5) :
    Calls Tryd.prog 14 #[.pointer (some ⟨b, 0, none⟩), rpv x] w (JLeaf w b ((j.setNext x.1).ask (cLoad (0, 0, 1)) 6)) := by
  have h1 := h.below (below_alloc (Below.refl _ _) (.cells #[.int .i64 x.1.slot, .int .i64 x.1.gen, .int .i64 x.1.tag, .int .i64 x.1.num, .bool x.1.mark, .bool x.2] 44))
  have HX := Lib.hid (box_rep w x)
  have HO := Lib.hid (Only.of_below (r := b) (below_alloc (Below.refl w.heap.size w) (.cells #[.int .i64 x.1.slot, .int .i64 x.1.gen, .int .i64 x.1.tag, .int .i64 x.1.num, .bool x.1.mark, .bool x.2] 44)))
  have HR := Lib.hid h1
  clear h h1
  unfold rpv
  go_enter Tryd.func14, Tryd.ntmps14
  go_upto_region 1 with fail
  generalize w.alloc (.cells #[.int .i64 x.1.slot, .int .i64 x.1.gen, .int .i64 x.1.tag, .int .i64 x.1.num, .bool x.1.mark, .bool x.2] 44) = W at HR HX HO ⊢
  have hX := HX.out
  have hzx := BlkW.lt hX
  have hrx : w.heap.size ≠ b := fun e => BlkW.ne_ hX HR.out (by decide) e
  obtain ⟨b0, b1, b2, b3, b4, b5⟩ := rep6 hX
  have hz := BlkW.lt HR.out
  have cd := HR.out.done
  clear hX HX
  generalize w.heap.size = g at hzx hrx b0 b1 b2 b3 b4 b5 ⊢
  rw [hd] at cd
  clear hd
  obtain ⟨t0, t1, t2, t3, t4⟩ := HR.out.next5
  have fz : ∀ o, W.frozen? ⟨b, o, none⟩ = false := HR.out.frozen
  go_upto_region 22 with fail
  have RS := Lib.hid (HR.out.setNext x.1)
  have OS := Lib.hid (HO.out.trans (Only.sets (r := b) (w := W) 34 (wc x.1)))
  show Code.wp _ _ _ _ (W.setCells b 34 (wc x.1))
  clear t0 t1 t2 t3 t4 fz b0 b1 b2 b3 b4 b5 cd HR HO hz hzx
  generalize W.setCells b 34 (wc x.1) = W2 at RS OS ⊢
  have hz := BlkW.lt RS.out
  have HD := Lib.hid RS.out.drew
  go_region_held3 (fun w' => True)
    (first | trivial | go_keep)
    (first
    | (go_at_call 24; refine (root1 _).mono ?_; rintro e w2 ⟨rfl, hb⟩; have HA := Lib.hid (jload_any (HD.out.below hb) (0, 0, 1) 6))
    | (go_at_call 26; refine HA.out.mono ?_; rintro e w3 ⟨rfl, h1, h2⟩))
  all_goals
    go_wp2
    first
      | go_end0
      | refine bodyPost_ret (results_none rfl _ _ _) rfl ?_
    exact ⟨rfl, h1, Lib.hid (((OS.out.trans Only.drew).trans (Only.of_below hb)).trans h2.out)⟩
set_option maxRecDepth 100000 in
set_option maxHeartbeats 1000000 in
theorem enq_checked (h : JAt w b j) (x : Wd × Bool) (hd : j.done = 6) :
    Calls Tryd.prog 14 #[.pointer (some ⟨b, 0, none⟩), rpv x] w (JLeaf w b (j.link x.1)) := by
  have h1 := h.below (below_alloc (Below.refl _ _) (.cells #[.int .i64 x.1.slot, .int .i64 x.1.gen, .int .i64 x.1.tag, .int .i64 x.1.num, .bool x.1.mark, .bool x.2] 44))
  have HX := Lib.hid (box_rep w x)
  have HO := Lib.hid (Only.of_below (r := b) (below_alloc (Below.refl w.heap.size w) (.cells #[.int .i64 x.1.slot, .int .i64 x.1.gen, .int .i64 x.1.tag, .int .i64 x.1.num, .bool x.1.mark, .bool x.2] 44)))
  have HR := Lib.hid h1
  clear h h1
  unfold rpv
  go_enter Tryd.func14, Tryd.ntmps14
  go_upto_region 1 with fail
  generalize w.alloc (.cells #[.int .i64 x.1.slot, .int .i64 x.1.gen, .int .i64 x.1.tag, .int .i64 x.1.num, .bool x.1.mark, .bool x.2] 44) = W at HR HX HO ⊢
  have hX := HX.out
  have hzx := BlkW.lt hX
  have hrx : w.heap.size ≠ b := fun e => BlkW.ne_ hX HR.out (by decide) e
  obtain ⟨b0, b1, b2, b3, b4, b5⟩ := rep6 hX
  have hz := BlkW.lt HR.out
  have cd := HR.out.done
  clear hX HX
  generalize w.heap.size = g at hzx hrx b0 b1 b2 b3 b4 b5 ⊢
  rw [hd] at cd
  clear hd
  go_wp2_with fail
  refine (jlink HR.out x.1).mono ?_
  rintro e w2 ⟨rfl, h1, h2⟩
  go_wp2
  first
    | go_end0
    | refine bodyPost_ret (results_none rfl _ _ _) rfl ?_
  exact ⟨rfl, h1, Lib.hid (HO.out.trans h2.out)⟩
set_option maxRecDepth 100000 in
set_option maxHeartbeats 1000000 in
theorem enq_brought (h : JAt w b j) (x : Wd × Bool) (hd : j.done = 9) :
    Calls Tryd.prog 14 #[.pointer (some ⟨b, 0, none⟩), rpv x] w (JLeaf w b (j.end_ 1 0)) := by
  have h1 := h.below (below_alloc (Below.refl _ _) (.cells #[.int .i64 x.1.slot, .int .i64 x.1.gen, .int .i64 x.1.tag, .int .i64 x.1.num, .bool x.1.mark, .bool x.2] 44))
  have HX := Lib.hid (box_rep w x)
  have HO := Lib.hid (Only.of_below (r := b) (below_alloc (Below.refl w.heap.size w) (.cells #[.int .i64 x.1.slot, .int .i64 x.1.gen, .int .i64 x.1.tag, .int .i64 x.1.num, .bool x.1.mark, .bool x.2] 44)))
  have HR := Lib.hid h1
  clear h h1
  unfold rpv
  go_enter Tryd.func14, Tryd.ntmps14
  go_upto_region 1 with fail
  generalize w.alloc (.cells #[.int .i64 x.1.slot, .int .i64 x.1.gen, .int .i64 x.1.tag, .int .i64 x.1.num, .bool x.1.mark, .bool x.2] 44) = W at HR HX HO ⊢
  have hX := HX.out
  have hzx := BlkW.lt hX
  have hrx : w.heap.size ≠ b := fun e => BlkW.ne_ hX HR.out (by decide) e
  obtain ⟨b0, b1, b2, b3, b4, b5⟩ := rep6 hX
  have hz := BlkW.lt HR.out
  have cd := HR.out.done
  clear hX HX
  generalize w.heap.size = g at hzx hrx b0 b1 b2 b3 b4 b5 ⊢
  rw [hd] at cd
  clear hd
  go_wp2_with fail
  refine (jend_any HR.out 1 0).mono ?_
  rintro e w2 ⟨rfl, h1, h2⟩
  go_wp2
  first
    | go_end0
    | refine bodyPost_ret (results_none rfl _ _ _) rfl ?_
  exact ⟨rfl, h1, Lib.hid (HO.out.trans h2.out)⟩
set_option maxRecDepth 100000 in
set_option maxHeartbeats 1000000 in
theorem enq_13 (h : JAt w b j) (x : Wd × Bool) (hd : j.done = 13) :
    Calls Tryd.prog 14 #[.pointer (some ⟨b, 0, none⟩), rpv x] w (JLeaf w b (j)) := by
  have h1 := h.below (below_alloc (Below.refl _ _) (.cells #[.int .i64 x.1.slot, .int .i64 x.1.gen, .int .i64 x.1.tag, .int .i64 x.1.num, .bool x.1.mark, .bool x.2] 44))
  have HX := Lib.hid (box_rep w x)
  have HO := Lib.hid (Only.of_below (r := b) (below_alloc (Below.refl w.heap.size w) (.cells #[.int .i64 x.1.slot, .int .i64 x.1.gen, .int .i64 x.1.tag, .int .i64 x.1.num, .bool x.1.mark, .bool x.2] 44)))
  have HR := Lib.hid h1
  clear h h1
  unfold rpv
  go_enter Tryd.func14, Tryd.ntmps14
  go_upto_region 1 with fail
  generalize w.alloc (.cells #[.int .i64 x.1.slot, .int .i64 x.1.gen, .int .i64 x.1.tag, .int .i64 x.1.num, .bool x.1.mark, .bool x.2] 44) = W at HR HX HO ⊢
  have hX := HX.out
  have hzx := BlkW.lt hX
  have hrx : w.heap.size ≠ b := fun e => BlkW.ne_ hX HR.out (by decide) e
  obtain ⟨b0, b1, b2, b3, b4, b5⟩ := rep6 hX
  have hz := BlkW.lt HR.out
  have cd := HR.out.done
  clear hX HX
  generalize w.heap.size = g at hzx hrx b0 b1 b2 b3 b4 b5 ⊢
  rw [hd] at cd
  clear hd
  go_wp2
  first
    | go_end0
    | refine bodyPost_ret (results_none rfl _ _ _) rfl ?_
  exact ⟨rfl, HR, HO⟩
end
end Go.Proofs.YtihjklimcchkhaaDoor.Co
