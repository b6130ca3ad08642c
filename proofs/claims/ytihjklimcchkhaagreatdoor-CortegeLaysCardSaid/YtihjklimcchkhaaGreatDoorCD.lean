/- cortege: the steps of enqueue. A template (made by gen_XCd.py). -/
/- cortege: the steps of dequeue. A template (made by gen_XCd.py). -/
/- cortege: Next, by kinds. A template (made by gen_XCd.py). -/
import Derived.Test.YtihjklimcchkhaaGreatDoorCW
namespace Go.Proofs.YtihjklimcchkhaaGreatDoor.Co
open Go.RowKit Go.Extern.Stop Go.Stop Go.Extern Go.Sort
section
variable {w w' : World} {b : Nat} {j j' : Jb}
set_option maxRecDepth 100000 in
set_option maxHeartbeats 1000000 in
theorem enq_0 (h : JAt w b j) (x : Wd × Bool) (hd : j.done = 0) :
    Calls Tryz.prog 102 #[.pointer (some ⟨b, 0, none⟩), rpv x] w (JLeaf w b (j.ask cAlloc 1)) := by
  have h1 := h.below (below_alloc (Below.refl _ _) (.cells #[.int .i64 x.1.slot, .int .i64 x.1.gen, .int .i64 x.1.tag, .int .i64 x.1.num, .bool x.1.mark, .bool x.2] 63))
  have HX := Lib.hid (box_rep w x)
  have HO := Lib.hid (Only.of_below (r := b) (below_alloc (Below.refl w.heap.size w) (.cells #[.int .i64 x.1.slot, .int .i64 x.1.gen, .int .i64 x.1.tag, .int .i64 x.1.num, .bool x.1.mark, .bool x.2] 63)))
  have HR := Lib.hid h1
  clear h h1
  unfold rpv
  go_enter Tryz.func102, Tryz.ntmps102
  go_upto_region 1 with fail
  generalize w.alloc (.cells #[.int .i64 x.1.slot, .int .i64 x.1.gen, .int .i64 x.1.tag, .int .i64 x.1.num, .bool x.1.mark, .bool x.2] 63) = W at HR HX HO ⊢
  have hX := HX.out
  have hzx := BlkW.lt hX
  have hrx : w.heap.size ≠ b := fun e => BlkW.ne_ hX HR.out (by decide) e
  obtain ⟨b0, b1, b2, b3, b4, b5⟩ := rep6 hX
  have hz := BlkW.lt HR.out
  have cd := HR.out.done
  clear hX HX
  generalize w.heap.size = g at hzx hrx b0 b1 b2 b3 b4 b5 ⊢
  rw [hd] at cd
  clear hd
  go_wp2_with fail
  refine (jask_any HR.out cAlloc 1).mono ?_
  rintro e w2 ⟨rfl, h1, h2⟩
  go_wp2
  first
    | go_end0
    | refine bodyPost_ret (results_none rfl _ _ _) rfl ?_
  exact ⟨rfl, h1, Lib.hid (HO.out.trans h2.out)⟩
set_option maxRecDepth 100000 in
set_option maxHeartbeats 1000000 in
theorem enq_full (h : JAt w b j) (x : Wd × Bool) (hd : j.done = 1) (hx : x.2 = false) :
    Calls Tryz.prog 102 #[.pointer (some ⟨b, 0, none⟩), rpv x] w (JLeaf w b (j.end_ 4 0)) := by
  have HXX := Lib.hid hx
  clear hx
  have h1 := h.below (below_alloc (Below.refl _ _) (.cells #[.int .i64 x.1.slot, .int .i64 x.1.gen, .int .i64 x.1.tag, .int .i64 x.1.num, .bool x.1.mark, .bool x.2] 63))
  have HX := Lib.hid (box_rep w x)
  have HO := Lib.hid (Only.of_below (r := b) (below_alloc (Below.refl w.heap.size w) (.cells #[.int .i64 x.1.slot, .int .i64 x.1.gen, .int .i64 x.1.tag, .int .i64 x.1.num, .bool x.1.mark, .bool x.2] 63)))
  have HR := Lib.hid h1
  clear h h1
  unfold rpv
  go_enter Tryz.func102, Tryz.ntmps102
  go_upto_region 1 with fail
  generalize w.alloc (.cells #[.int .i64 x.1.slot, .int .i64 x.1.gen, .int .i64 x.1.tag, .int .i64 x.1.num, .bool x.1.mark, .bool x.2] 63) = W at HR HX HO ⊢
  have hX := HX.out
  have hzx := BlkW.lt hX
  have hrx : w.heap.size ≠ b := fun e => BlkW.ne_ hX HR.out (by decide) e
  obtain ⟨b0, b1, b2, b3, b4, b5⟩ := rep6 hX
  have hz := BlkW.lt HR.out
  have cd := HR.out.done
  clear hX HX
  generalize w.heap.size = g at hzx hrx b0 b1 b2 b3 b4 b5 ⊢
  rw [hd] at cd
  clear hd
  rw [HXX.out] at b5
  go_wp2_with fail
  refine (jend_any HR.out 4 0).mono ?_
  rintro e w2 ⟨rfl, h1, h2⟩
  go_wp2
  first
    | go_end0
    | refine bodyPost_ret (results_none rfl _ _ _) rfl ?_
  exact ⟨rfl, h1, Lib.hid (HO.out.trans h2.out)⟩
set_option maxRecDepth 100000 in
set_option maxHeartbeats 1000000 in
theorem enq_given (h : JAt w b j) (x : Wd × Bool) (hd : j.done = 1) (hx : x.2 = true) :
    Calls Tryz.prog 102 #[.pointer (some ⟨b, 0, none⟩), rpv x] w (JLeaf w b ((j.setNode x.1).ask (cStore (fld x.1 1) (nw j.op.val)) 2)) := by
  have HXX := Lib.hid hx
  clear hx
  have h1 := h.below (below_alloc (Below.refl _ _) (.cells #[.int .i64 x.1.slot, .int .i64 x.1.gen, .int .i64 x.1.tag, .int .i64 x.1.num, .bool x.1.mark, .bool x.2] 63))
  have HX := Lib.hid (box_rep w x)
  have HO := Lib.hid (Only.of_below (r := b) (below_alloc (Below.refl w.heap.size w) (.cells #[.int .i64 x.1.slot, .int .i64 x.1.gen, .int .i64 x.1.tag, .int .i64 x.1.num, .bool x.1.mark, .bool x.2] 63)))
  have HR := Lib.hid h1
  clear h h1
  unfold rpv
  go_enter Tryz.func102, Tryz.ntmps102
  go_upto_region 1 with fail
  generalize w.alloc (.cells #[.int .i64 x.1.slot, .int .i64 x.1.gen, .int .i64 x.1.tag, .int .i64 x.1.num, .bool x.1.mark, .bool x.2] 63) = W at HR HX HO ⊢
  have hX := HX.out
  have hzx := BlkW.lt hX
  have hrx : w.heap.size ≠ b := fun e => BlkW.ne_ hX HR.out (by decide) e
  obtain ⟨b0, b1, b2, b3, b4, b5⟩ := rep6 hX
  have hz := BlkW.lt HR.out
  have cd := HR.out.done
  clear hX HX
  generalize w.heap.size = g at hzx hrx b0 b1 b2 b3 b4 b5 ⊢
  rw [hd] at cd
  clear hd
  rw [HXX.out] at b5
  obtain ⟨t0, t1, t2, t3, t4⟩ := HR.out.node5
  have fz : ∀ o, W.frozen? ⟨b, o, none⟩ = false := HR.out.frozen
  go_upto_region 15 with fail
  have RS := Lib.hid (HR.out.setNode x.1)
  have OS := Lib.hid (HO.out.trans (Only.sets (r := b) (w := W) 19 (wc x.1)))
  show Code.wp _ _ _ _ (W.setCells b 19 (wc x.1))
  clear t0 t1 t2 t3 t4 fz b0 b1 b2 b3 b4 b5 cd HR HO hz hzx
  generalize W.setCells b 19 (wc x.1) = W2 at RS OS ⊢
  have hz := BlkW.lt RS.out
  have HD := Lib.hid RS.out.drew
  obtain ⟨no0, no1, no2, no3, no4⟩ : W2.cell? ⟨b, 19, none⟩ = some (.int .i64 x.1.slot) ∧ W2.cell? ⟨b, 20, none⟩ = some (.int .i64 x.1.gen) ∧ W2.cell? ⟨b, 21, none⟩ = some (.int .i64 x.1.tag) ∧ W2.cell? ⟨b, 22, none⟩ = some (.int .i64 x.1.num) ∧ W2.cell? ⟨b, 23, none⟩ = some (.bool x.1.mark) := RS.out.node5
  have cv : W2.cell? ⟨b, 42, none⟩ = some (.int .i64 j.op.val) := JAt.oval (j := j.setNode x.1) RS.out
  go_region_held3 (fun w' => ((w'.cell? ⟨b, 19, none⟩ = some (.int .i64 x.1.slot) ∧ w'.cell? ⟨b, 20, none⟩ = some (.int .i64 x.1.gen) ∧ w'.cell? ⟨b, 21, none⟩ = some (.int .i64 x.1.tag) ∧ w'.cell? ⟨b, 22, none⟩ = some (.int .i64 x.1.num) ∧ w'.cell? ⟨b, 23, none⟩ = some (.bool x.1.mark))) ∧ w'.cell? ⟨b, 42, none⟩ = some (.int .i64 j.op.val))
    (first | go_keep | trivial | exact ⟨JAt.node5 (j := j.setNode x.1) (HD.out.below hb), JAt.oval (j := j.setNode x.1) (HD.out.below hb)⟩ | exact ⟨JAt.node5 (j := j.setNode x.1) ((HD.out.below hb).below hb2), JAt.oval (j := j.setNode x.1) ((HD.out.below hb).below hb2)⟩ | exact ⟨JAt.node5 (j := ((j.setNode x.1).ask (cStore (fld x.1 1) (nw j.op.val)) 2)) h1.out, JAt.oval (j := ((j.setNode x.1).ask (cStore (fld x.1 1) (nw j.op.val)) 2)) h1.out⟩)
    (first
    | (go_at_call 72; refine (Field_at _ _ _ _ _ _ _).mono ?_; rintro e w2 ⟨rfl, hb⟩)
    | (go_at_call 81; refine (Num_at _ _).mono ?_; rintro e w3 ⟨rfl, hb2⟩; have HA := Lib.hid (jstore_any ((HD.out.below hb).below hb2) (fld x.1 1) (nw j.op.val) 2))
    | (go_at_call 139; refine HA.out.mono ?_; rintro e w4 ⟨rfl, h1, h2⟩))
  all_goals
    go_wp2
    first
      | go_end0
      | refine bodyPost_ret (results_none rfl _ _ _) rfl ?_
    exact ⟨rfl, h1, Lib.hid ((((OS.out.trans Only.drew).trans (Only.of_below hb)).trans (Only.of_below hb2)).trans h2.out)⟩
set_option maxRecDepth 100000 in
set_option maxHeartbeats 1000000 in
theorem enq_linked (h : JAt w b j) (x : Wd × Bool) (hd : j.done = 8) (hx : x.2 = true) :
    Calls Tryz.prog 102 #[.pointer (some ⟨b, 0, none⟩), rpv x] w (JLeaf w b (j.ask (cSwap (0, 0, 1) j.tail j.node) 9)) := by
  have HXX := Lib.hid hx
  clear hx
  have h1 := h.below (below_alloc (Below.refl _ _) (.cells #[.int .i64 x.1.slot, .int .i64 x.1.gen, .int .i64 x.1.tag, .int .i64 x.1.num, .bool x.1.mark, .bool x.2] 63))
  have HX := Lib.hid (box_rep w x)
  have HO := Lib.hid (Only.of_below (r := b) (below_alloc (Below.refl w.heap.size w) (.cells #[.int .i64 x.1.slot, .int .i64 x.1.gen, .int .i64 x.1.tag, .int .i64 x.1.num, .bool x.1.mark, .bool x.2] 63)))
  have HR := Lib.hid h1
  clear h h1
  unfold rpv
  go_enter Tryz.func102, Tryz.ntmps102
  go_upto_region 1 with fail
  generalize w.alloc (.cells #[.int .i64 x.1.slot, .int .i64 x.1.gen, .int .i64 x.1.tag, .int .i64 x.1.num, .bool x.1.mark, .bool x.2] 63) = W at HR HX HO ⊢
  have hX := HX.out
  have hzx := BlkW.lt hX
  have hrx : w.heap.size ≠ b := fun e => BlkW.ne_ hX HR.out (by decide) e
  obtain ⟨b0, b1, b2, b3, b4, b5⟩ := rep6 hX
  have hz := BlkW.lt HR.out
  have cd := HR.out.done
  clear hX HX
  generalize w.heap.size = g at hzx hrx b0 b1 b2 b3 b4 b5 ⊢
  rw [hd] at cd
  clear hd
  rw [HXX.out] at b5
  have HD := Lib.hid HR.out.drew
  go_upto_region 17 with fail
  obtain ⟨ta0, ta1, ta2, ta3, ta4⟩ := HR.out.tail5
  obtain ⟨no0, no1, no2, no3, no4⟩ := HR.out.node5
  go_region_held3 (fun w' => (w'.cell? ⟨b, 29, none⟩ = some (.int .i64 j.tail.slot) ∧ w'.cell? ⟨b, 30, none⟩ = some (.int .i64 j.tail.gen) ∧ w'.cell? ⟨b, 31, none⟩ = some (.int .i64 j.tail.tag) ∧ w'.cell? ⟨b, 32, none⟩ = some (.int .i64 j.tail.num) ∧ w'.cell? ⟨b, 33, none⟩ = some (.bool j.tail.mark)) ∧ (w'.cell? ⟨b, 19, none⟩ = some (.int .i64 j.node.slot) ∧ w'.cell? ⟨b, 20, none⟩ = some (.int .i64 j.node.gen) ∧ w'.cell? ⟨b, 21, none⟩ = some (.int .i64 j.node.tag) ∧ w'.cell? ⟨b, 22, none⟩ = some (.int .i64 j.node.num) ∧ w'.cell? ⟨b, 23, none⟩ = some (.bool j.node.mark)))
    (first | go_keep | trivial | exact ⟨JAt.tail5 (j := j) (HD.out.below hb), JAt.node5 (j := j) (HD.out.below hb)⟩ | exact ⟨JAt.tail5 (j := (j.ask (cSwap (0, 0, 1) j.tail j.node) 9)) h1.out, JAt.node5 (j := (j.ask (cSwap (0, 0, 1) j.tail j.node) 9)) h1.out⟩)
    (first
    | (go_at_call 75; refine (root1 _).mono ?_; rintro e w2 ⟨rfl, hb⟩; have HA := Lib.hid (jswap_any (HD.out.below hb) (0, 0, 1) j.tail j.node 9))
    | (go_at_call 140; refine HA.out.mono ?_; rintro e w3 ⟨rfl, h1, h2⟩))
  all_goals
    go_wp2
    first
      | go_end0
      | refine bodyPost_ret (results_none rfl _ _ _) rfl ?_
    exact ⟨rfl, h1, Lib.hid (((HO.out.trans Only.drew).trans (Only.of_below hb)).trans h2.out)⟩
set_option maxRecDepth 100000 in
set_option maxHeartbeats 1000000 in
theorem enq_slow (h : JAt w b j) (x : Wd × Bool) (hd : j.done = 8) (hx : x.2 = false) :
    Calls Tryz.prog 102 #[.pointer (some ⟨b, 0, none⟩), rpv x] w (JLeaf w b (j.lookT)) := by
  have HXX := Lib.hid hx
  clear hx
  have h1 := h.below (below_alloc (Below.refl _ _) (.cells #[.int .i64 x.1.slot, .int .i64 x.1.gen, .int .i64 x.1.tag, .int .i64 x.1.num, .bool x.1.mark, .bool x.2] 63))
  have HX := Lib.hid (box_rep w x)
  have HO := Lib.hid (Only.of_below (r := b) (below_alloc (Below.refl w.heap.size w) (.cells #[.int .i64 x.1.slot, .int .i64 x.1.gen, .int .i64 x.1.tag, .int .i64 x.1.num, .bool x.1.mark, .bool x.2] 63)))
  have HR := Lib.hid h1
  clear h h1
  unfold rpv
  go_enter Tryz.func102, Tryz.ntmps102
  go_upto_region 1 with fail
  generalize w.alloc (.cells #[.int .i64 x.1.slot, .int .i64 x.1.gen, .int .i64 x.1.tag, .int .i64 x.1.num, .bool x.1.mark, .bool x.2] 63) = W at HR HX HO ⊢
  have hX := HX.out
  have hzx := BlkW.lt hX
  have hrx : w.heap.size ≠ b := fun e => BlkW.ne_ hX HR.out (by decide) e
  obtain ⟨b0, b1, b2, b3, b4, b5⟩ := rep6 hX
  have hz := BlkW.lt HR.out
  have cd := HR.out.done
  clear hX HX
  generalize w.heap.size = g at hzx hrx b0 b1 b2 b3 b4 b5 ⊢
  rw [hd] at cd
  clear hd
  rw [HXX.out] at b5
  go_wp2_with fail
  refine (jlookT HR.out).mono ?_
  rintro e w2 ⟨rfl, h1, h2⟩
  go_wp2
  first
    | go_end0
    | refine bodyPost_ret (results_none rfl _ _ _) rfl ?_
  exact ⟨rfl, h1, Lib.hid (HO.out.trans h2.out)⟩
set_option maxRecDepth 100000 in
set_option maxHeartbeats 1000000 in
theorem enq_2 (h : JAt w b j) (x : Wd × Bool) (hd : j.done = 2) :
    Calls Tryz.prog 102 #[.pointer (some ⟨b, 0, none⟩), rpv x] w (JLeaf w b (j.lookT)) := by
  have h1 := h.below (below_alloc (Below.refl _ _) (.cells #[.int .i64 x.1.slot, .int .i64 x.1.gen, .int .i64 x.1.tag, .int .i64 x.1.num, .bool x.1.mark, .bool x.2] 63))
  have HX := Lib.hid (box_rep w x)
  have HO := Lib.hid (Only.of_below (r := b) (below_alloc (Below.refl w.heap.size w) (.cells #[.int .i64 x.1.slot, .int .i64 x.1.gen, .int .i64 x.1.tag, .int .i64 x.1.num, .bool x.1.mark, .bool x.2] 63)))
  have HR := Lib.hid h1
  clear h h1
  unfold rpv
  go_enter Tryz.func102, Tryz.ntmps102
  go_upto_region 1 with fail
  generalize w.alloc (.cells #[.int .i64 x.1.slot, .int .i64 x.1.gen, .int .i64 x.1.tag, .int .i64 x.1.num, .bool x.1.mark, .bool x.2] 63) = W at HR HX HO ⊢
  have hX := HX.out
  have hzx := BlkW.lt hX
  have hrx : w.heap.size ≠ b := fun e => BlkW.ne_ hX HR.out (by decide) e
  obtain ⟨b0, b1, b2, b3, b4, b5⟩ := rep6 hX
  have hz := BlkW.lt HR.out
  have cd := HR.out.done
  clear hX HX
  generalize w.heap.size = g at hzx hrx b0 b1 b2 b3 b4 b5 ⊢
  rw [hd] at cd
  clear hd
  go_wp2_with fail
  refine (jlookT HR.out).mono ?_
  rintro e w2 ⟨rfl, h1, h2⟩
  go_wp2
  first
    | go_end0
    | refine bodyPost_ret (results_none rfl _ _ _) rfl ?_
  exact ⟨rfl, h1, Lib.hid (HO.out.trans h2.out)⟩
set_option maxRecDepth 100000 in
set_option maxHeartbeats 1000000 in
theorem enq_7 (h : JAt w b j) (x : Wd × Bool) (hd : j.done = 7) :
    Calls Tryz.prog 102 #[.pointer (some ⟨b, 0, none⟩), rpv x] w (JLeaf w b (j.lookT)) := by
  have h1 := h.below (below_alloc (Below.refl _ _) (.cells #[.int .i64 x.1.slot, .int .i64 x.1.gen, .int .i64 x.1.tag, .int .i64 x.1.num, .bool x.1.mark, .bool x.2] 63))
  have HX := Lib.hid (box_rep w x)
  have HO := Lib.hid (Only.of_below (r := b) (below_alloc (Below.refl w.heap.size w) (.cells #[.int .i64 x.1.slot, .int .i64 x.1.gen, .int .i64 x.1.tag, .int .i64 x.1.num, .bool x.1.mark, .bool x.2] 63)))
  have HR := Lib.hid h1
  clear h h1
  unfold rpv
  go_enter Tryz.func102, Tryz.ntmps102
  go_upto_region 1 with fail
  generalize w.alloc (.cells #[.int .i64 x.1.slot, .int .i64 x.1.gen, .int .i64 x.1.tag, .int .i64 x.1.num, .bool x.1.mark, .bool x.2] 63) = W at HR HX HO ⊢
  have hX := HX.out
  have hzx := BlkW.lt hX
  have hrx : w.heap.size ≠ b := fun e => BlkW.ne_ hX HR.out (by decide) e
  obtain ⟨b0, b1, b2, b3, b4, b5⟩ := rep6 hX
  have hz := BlkW.lt HR.out
  have cd := HR.out.done
  clear hX HX
  generalize w.heap.size = g at hzx hrx b0 b1 b2 b3 b4 b5 ⊢
  rw [hd] at cd
  clear hd
  go_wp2_with fail
  refine (jlookT HR.out).mono ?_
  rintro e w2 ⟨rfl, h1, h2⟩
  go_wp2
  first
    | go_end0
    | refine bodyPost_ret (results_none rfl _ _ _) rfl ?_
  exact ⟨rfl, h1, Lib.hid (HO.out.trans h2.out)⟩
set_option maxRecDepth 100000 in
set_option maxHeartbeats 1000000 in
theorem enq_looked (h : JAt w b j) (x : Wd × Bool) (hd : j.done = 3) :
    Calls Tryz.prog 102 #[.pointer (some ⟨b, 0, none⟩), rpv x] w (JLeaf w b ((j.setTail x.1).ask (cLoad (fld x.1 2)) 5)) := by
  have h1 := h.below (below_alloc (Below.refl _ _) (.cells #[.int .i64 x.1.slot, .int .i64 x.1.gen, .int .i64 x.1.tag, .int .i64 x.1.num, .bool x.1.mark, .bool x.2] 63))
  have HX := Lib.hid (box_rep w x)
  have HO := Lib.hid (Only.of_below (r := b) (below_alloc (Below.refl w.heap.size w) (.cells #[.int .i64 x.1.slot, .int .i64 x.1.gen, .int .i64 x.1.tag, .int .i64 x.1.num, .bool x.1.mark, .bool x.2] 63)))
  have HR := Lib.hid h1
  clear h h1
  unfold rpv
  go_enter Tryz.func102, Tryz.ntmps102
  go_upto_region 1 with fail
  generalize w.alloc (.cells #[.int .i64 x.1.slot, .int .i64 x.1.gen, .int .i64 x.1.tag, .int .i64 x.1.num, .bool x.1.mark, .bool x.2] 63) = W at HR HX HO ⊢
  have hX := HX.out
  have hzx := BlkW.lt hX
  have hrx : w.heap.size ≠ b := fun e => BlkW.ne_ hX HR.out (by decide) e
  obtain ⟨b0, b1, b2, b3, b4, b5⟩ := rep6 hX
  have hz := BlkW.lt HR.out
  have cd := HR.out.done
  clear hX HX
  generalize w.heap.size = g at hzx hrx b0 b1 b2 b3 b4 b5 ⊢
  rw [hd] at cd
  clear hd
  obtain ⟨t0, t1, t2, t3, t4⟩ := HR.out.tail5
  have fz : ∀ o, W.frozen? ⟨b, o, none⟩ = false := HR.out.frozen
  go_upto_region 20 with fail
  have RS := Lib.hid (HR.out.setTail x.1)
  have OS := Lib.hid (HO.out.trans (Only.sets (r := b) (w := W) 29 (wc x.1)))
  show Code.wp _ _ _ _ (W.setCells b 29 (wc x.1))
  clear t0 t1 t2 t3 t4 fz b0 b1 b2 b3 b4 b5 cd HR HO hz hzx
  generalize W.setCells b 29 (wc x.1) = W2 at RS OS ⊢
  have hz := BlkW.lt RS.out
  have HD := Lib.hid RS.out.drew
  obtain ⟨ta0, ta1, ta2, ta3, ta4⟩ : W2.cell? ⟨b, 29, none⟩ = some (.int .i64 x.1.slot) ∧ W2.cell? ⟨b, 30, none⟩ = some (.int .i64 x.1.gen) ∧ W2.cell? ⟨b, 31, none⟩ = some (.int .i64 x.1.tag) ∧ W2.cell? ⟨b, 32, none⟩ = some (.int .i64 x.1.num) ∧ W2.cell? ⟨b, 33, none⟩ = some (.bool x.1.mark) := RS.out.tail5
  go_region_held3 (fun w' => (w'.cell? ⟨b, 29, none⟩ = some (.int .i64 x.1.slot) ∧ w'.cell? ⟨b, 30, none⟩ = some (.int .i64 x.1.gen) ∧ w'.cell? ⟨b, 31, none⟩ = some (.int .i64 x.1.tag) ∧ w'.cell? ⟨b, 32, none⟩ = some (.int .i64 x.1.num) ∧ w'.cell? ⟨b, 33, none⟩ = some (.bool x.1.mark)))
    (first | go_keep | trivial | exact JAt.tail5 (j := j.setTail x.1) (HD.out.below hb) | exact JAt.tail5 (j := ((j.setTail x.1).ask (cLoad (fld x.1 2)) 5)) h1.out)
    (first
    | (go_at_call 72; refine (Field_at _ _ _ _ _ _ _).mono ?_; rintro e w2 ⟨rfl, hb⟩; have HA := Lib.hid (jload_any (HD.out.below hb) (fld x.1 2) 5))
    | (go_at_call 142; refine HA.out.mono ?_; rintro e w3 ⟨rfl, h1, h2⟩))
  all_goals
    go_wp2
    first
      | go_end0
      | refine bodyPost_ret (results_none rfl _ _ _) rfl ?_
    exact ⟨rfl, h1, Lib.hid (((OS.out.trans Only.drew).trans (Only.of_below hb)).trans h2.out)⟩
set_option maxRecDepth 100000 in
set_option maxHeartbeats 1000000 in
theorem enq_followed (h : JAt w b j) (x : Wd × Bool) (hd : j.done = 5) :
    Calls Tryz.prog 102 #[.pointer (some ⟨b, 0, none⟩), rpv x] w (JLeaf w b ((j.setNext x.1).ask (cLoad (0, 0, 1)) 6)) := by
  have h1 := h.below (below_alloc (Below.refl _ _) (.cells #[.int .i64 x.1.slot, .int .i64 x.1.gen, .int .i64 x.1.tag, .int .i64 x.1.num, .bool x.1.mark, .bool x.2] 63))
  have HX := Lib.hid (box_rep w x)
  have HO := Lib.hid (Only.of_below (r := b) (below_alloc (Below.refl w.heap.size w) (.cells #[.int .i64 x.1.slot, .int .i64 x.1.gen, .int .i64 x.1.tag, .int .i64 x.1.num, .bool x.1.mark, .bool x.2] 63)))
  have HR := Lib.hid h1
  clear h h1
  unfold rpv
  go_enter Tryz.func102, Tryz.ntmps102
  go_upto_region 1 with fail
  generalize w.alloc (.cells #[.int .i64 x.1.slot, .int .i64 x.1.gen, .int .i64 x.1.tag, .int .i64 x.1.num, .bool x.1.mark, .bool x.2] 63) = W at HR HX HO ⊢
  have hX := HX.out
  have hzx := BlkW.lt hX
  have hrx : w.heap.size ≠ b := fun e => BlkW.ne_ hX HR.out (by decide) e
  obtain ⟨b0, b1, b2, b3, b4, b5⟩ := rep6 hX
  have hz := BlkW.lt HR.out
  have cd := HR.out.done
  clear hX HX
  generalize w.heap.size = g at hzx hrx b0 b1 b2 b3 b4 b5 ⊢
  rw [hd] at cd
  clear hd
  obtain ⟨t0, t1, t2, t3, t4⟩ := HR.out.next5
  have fz : ∀ o, W.frozen? ⟨b, o, none⟩ = false := HR.out.frozen
  go_upto_region 22 with fail
  have RS := Lib.hid (HR.out.setNext x.1)
  have OS := Lib.hid (HO.out.trans (Only.sets (r := b) (w := W) 34 (wc x.1)))
  show Code.wp _ _ _ _ (W.setCells b 34 (wc x.1))
  clear t0 t1 t2 t3 t4 fz b0 b1 b2 b3 b4 b5 cd HR HO hz hzx
  generalize W.setCells b 34 (wc x.1) = W2 at RS OS ⊢
  have hz := BlkW.lt RS.out
  have HD := Lib.hid RS.out.drew
  go_region_held3 (fun w' => True)
    (first | trivial | go_keep)
    (first
    | (go_at_call 75; refine (root1 _).mono ?_; rintro e w2 ⟨rfl, hb⟩; have HA := Lib.hid (jload_any (HD.out.below hb) (0, 0, 1) 6))
    | (go_at_call 142; refine HA.out.mono ?_; rintro e w3 ⟨rfl, h1, h2⟩))
  all_goals
    go_wp2
    first
      | go_end0
      | refine bodyPost_ret (results_none rfl _ _ _) rfl ?_
    exact ⟨rfl, h1, Lib.hid (((OS.out.trans Only.drew).trans (Only.of_below hb)).trans h2.out)⟩
set_option maxRecDepth 100000 in
set_option maxHeartbeats 1000000 in
theorem enq_checked (h : JAt w b j) (x : Wd × Bool) (hd : j.done = 6) :
    Calls Tryz.prog 102 #[.pointer (some ⟨b, 0, none⟩), rpv x] w (JLeaf w b (j.link x.1)) := by
  have h1 := h.below (below_alloc (Below.refl _ _) (.cells #[.int .i64 x.1.slot, .int .i64 x.1.gen, .int .i64 x.1.tag, .int .i64 x.1.num, .bool x.1.mark, .bool x.2] 63))
  have HX := Lib.hid (box_rep w x)
  have HO := Lib.hid (Only.of_below (r := b) (below_alloc (Below.refl w.heap.size w) (.cells #[.int .i64 x.1.slot, .int .i64 x.1.gen, .int .i64 x.1.tag, .int .i64 x.1.num, .bool x.1.mark, .bool x.2] 63)))
  have HR := Lib.hid h1
  clear h h1
  unfold rpv
  go_enter Tryz.func102, Tryz.ntmps102
  go_upto_region 1 with fail
  generalize w.alloc (.cells #[.int .i64 x.1.slot, .int .i64 x.1.gen, .int .i64 x.1.tag, .int .i64 x.1.num, .bool x.1.mark, .bool x.2] 63) = W at HR HX HO ⊢
  have hX := HX.out
  have hzx := BlkW.lt hX
  have hrx : w.heap.size ≠ b := fun e => BlkW.ne_ hX HR.out (by decide) e
  obtain ⟨b0, b1, b2, b3, b4, b5⟩ := rep6 hX
  have hz := BlkW.lt HR.out
  have cd := HR.out.done
  clear hX HX
  generalize w.heap.size = g at hzx hrx b0 b1 b2 b3 b4 b5 ⊢
  rw [hd] at cd
  clear hd
  go_wp2_with fail
  refine (jlink HR.out x.1).mono ?_
  rintro e w2 ⟨rfl, h1, h2⟩
  go_wp2
  first
    | go_end0
    | refine bodyPost_ret (results_none rfl _ _ _) rfl ?_
  exact ⟨rfl, h1, Lib.hid (HO.out.trans h2.out)⟩
set_option maxRecDepth 100000 in
set_option maxHeartbeats 1000000 in
theorem enq_brought (h : JAt w b j) (x : Wd × Bool) (hd : j.done = 9) :
    Calls Tryz.prog 102 #[.pointer (some ⟨b, 0, none⟩), rpv x] w (JLeaf w b (j.end_ 1 0)) := by
  have h1 := h.below (below_alloc (Below.refl _ _) (.cells #[.int .i64 x.1.slot, .int .i64 x.1.gen, .int .i64 x.1.tag, .int .i64 x.1.num, .bool x.1.mark, .bool x.2] 63))
  have HX := Lib.hid (box_rep w x)
  have HO := Lib.hid (Only.of_below (r := b) (below_alloc (Below.refl w.heap.size w) (.cells #[.int .i64 x.1.slot, .int .i64 x.1.gen, .int .i64 x.1.tag, .int .i64 x.1.num, .bool x.1.mark, .bool x.2] 63)))
  have HR := Lib.hid h1
  clear h h1
  unfold rpv
  go_enter Tryz.func102, Tryz.ntmps102
  go_upto_region 1 with fail
  generalize w.alloc (.cells #[.int .i64 x.1.slot, .int .i64 x.1.gen, .int .i64 x.1.tag, .int .i64 x.1.num, .bool x.1.mark, .bool x.2] 63) = W at HR HX HO ⊢
  have hX := HX.out
  have hzx := BlkW.lt hX
  have hrx : w.heap.size ≠ b := fun e => BlkW.ne_ hX HR.out (by decide) e
  obtain ⟨b0, b1, b2, b3, b4, b5⟩ := rep6 hX
  have hz := BlkW.lt HR.out
  have cd := HR.out.done
  clear hX HX
  generalize w.heap.size = g at hzx hrx b0 b1 b2 b3 b4 b5 ⊢
  rw [hd] at cd
  clear hd
  go_wp2_with fail
  refine (jend_any HR.out 1 0).mono ?_
  rintro e w2 ⟨rfl, h1, h2⟩
  go_wp2
  first
    | go_end0
    | refine bodyPost_ret (results_none rfl _ _ _) rfl ?_
  exact ⟨rfl, h1, Lib.hid (HO.out.trans h2.out)⟩
set_option maxRecDepth 100000 in
set_option maxHeartbeats 1000000 in
theorem enq_13 (h : JAt w b j) (x : Wd × Bool) (hd : j.done = 13) :
    Calls Tryz.prog 102 #[.pointer (some ⟨b, 0, none⟩), rpv x] w (JLeaf w b (j)) := by
  have h1 := h.below (below_alloc (Below.refl _ _) (.cells #[.int .i64 x.1.slot, .int .i64 x.1.gen, .int .i64 x.1.tag, .int .i64 x.1.num, .bool x.1.mark, .bool x.2] 63))
  have HX := Lib.hid (box_rep w x)
  have HO := Lib.hid (Only.of_below (r := b) (below_alloc (Below.refl w.heap.size w) (.cells #[.int .i64 x.1.slot, .int .i64 x.1.gen, .int .i64 x.1.tag, .int .i64 x.1.num, .bool x.1.mark, .bool x.2] 63)))
  have HR := Lib.hid h1
  clear h h1
  unfold rpv
  go_enter Tryz.func102, Tryz.ntmps102
  go_upto_region 1 with fail
  generalize w.alloc (.cells #[.int .i64 x.1.slot, .int .i64 x.1.gen, .int .i64 x.1.tag, .int .i64 x.1.num, .bool x.1.mark, .bool x.2] 63) = W at HR HX HO ⊢
  have hX := HX.out
  have hzx := BlkW.lt hX
  have hrx : w.heap.size ≠ b := fun e => BlkW.ne_ hX HR.out (by decide) e
  obtain ⟨b0, b1, b2, b3, b4, b5⟩ := rep6 hX
  have hz := BlkW.lt HR.out
  have cd := HR.out.done
  clear hX HX
  generalize w.heap.size = g at hzx hrx b0 b1 b2 b3 b4 b5 ⊢
  rw [hd] at cd
  clear hd
  go_wp2
  first
    | go_end0
    | refine bodyPost_ret (results_none rfl _ _ _) rfl ?_
  exact ⟨rfl, HR, HO⟩
end
end Go.Proofs.YtihjklimcchkhaaGreatDoor.Co

namespace Go.Proofs.YtihjklimcchkhaaGreatDoor.Co
open Go.RowKit Go.Extern.Stop Go.Stop Go.Extern Go.Sort
section
variable {w w' : World} {b : Nat} {j j' : Jb}
set_option maxRecDepth 100000 in
set_option maxHeartbeats 1000000 in
theorem deq_swapped (h : JAt w b j) (x : Wd × Bool) (hd : j.done = 11) (hx : x.2 = true) :
    Calls Tryz.prog 103 #[.pointer (some ⟨b, 0, none⟩), rpv x] w (JLeaf w b (j.ask (cRetire j.head) 12)) := by
  have HXX := Lib.hid hx
  clear hx
  have h1 := h.below (below_alloc (Below.refl _ _) (.cells #[.int .i64 x.1.slot, .int .i64 x.1.gen, .int .i64 x.1.tag, .int .i64 x.1.num, .bool x.1.mark, .bool x.2] 63))
  have HX := Lib.hid (box_rep w x)
  have HO := Lib.hid (Only.of_below (r := b) (below_alloc (Below.refl w.heap.size w) (.cells #[.int .i64 x.1.slot, .int .i64 x.1.gen, .int .i64 x.1.tag, .int .i64 x.1.num, .bool x.1.mark, .bool x.2] 63)))
  have HR := Lib.hid h1
  clear h h1
  unfold rpv
  go_enter Tryz.func103, Tryz.ntmps103
  go_upto_region 1 with fail
  generalize w.alloc (.cells #[.int .i64 x.1.slot, .int .i64 x.1.gen, .int .i64 x.1.tag, .int .i64 x.1.num, .bool x.1.mark, .bool x.2] 63) = W at HR HX HO ⊢
  have hX := HX.out
  have hzx := BlkW.lt hX
  have hrx : w.heap.size ≠ b := fun e => BlkW.ne_ hX HR.out (by decide) e
  obtain ⟨b0, b1, b2, b3, b4, b5⟩ := rep6 hX
  have hz := BlkW.lt HR.out
  have cd := HR.out.done
  clear hX HX
  generalize w.heap.size = g at hzx hrx b0 b1 b2 b3 b4 b5 ⊢
  rw [hd] at cd
  clear hd
  rw [HXX.out] at b5
  have HD := Lib.hid HR.out.drew
  have HA := Lib.hid (jask_any HD.out (cRetire j.head) 12)
  go_upto_region 12 with fail
  obtain ⟨he0, he1, he2, he3, he4⟩ := HR.out.head5
  go_region_held3 (fun w' => (w'.cell? ⟨b, 24, none⟩ = some (.int .i64 j.head.slot) ∧ w'.cell? ⟨b, 25, none⟩ = some (.int .i64 j.head.gen) ∧ w'.cell? ⟨b, 26, none⟩ = some (.int .i64 j.head.tag) ∧ w'.cell? ⟨b, 27, none⟩ = some (.int .i64 j.head.num) ∧ w'.cell? ⟨b, 28, none⟩ = some (.bool j.head.mark)))
    (first | go_keep | trivial | exact JAt.head5 (j := (j.ask (cRetire j.head) 12)) h1.out)
    (first
    | (go_at_call 137; refine HA.out.mono ?_; rintro e w3 ⟨rfl, h1, h2⟩))
  all_goals
    go_wp2
    first
      | go_end0
      | refine bodyPost_ret (results_none rfl _ _ _) rfl ?_
    exact ⟨rfl, h1, Lib.hid ((HO.out.trans Only.drew).trans h2.out)⟩
set_option maxRecDepth 100000 in
set_option maxHeartbeats 1000000 in
theorem deq_slow (h : JAt w b j) (x : Wd × Bool) (hd : j.done = 11) (hx : x.2 = false) :
    Calls Tryz.prog 103 #[.pointer (some ⟨b, 0, none⟩), rpv x] w (JLeaf w b (j.lookH)) := by
  have HXX := Lib.hid hx
  clear hx
  have h1 := h.below (below_alloc (Below.refl _ _) (.cells #[.int .i64 x.1.slot, .int .i64 x.1.gen, .int .i64 x.1.tag, .int .i64 x.1.num, .bool x.1.mark, .bool x.2] 63))
  have HX := Lib.hid (box_rep w x)
  have HO := Lib.hid (Only.of_below (r := b) (below_alloc (Below.refl w.heap.size w) (.cells #[.int .i64 x.1.slot, .int .i64 x.1.gen, .int .i64 x.1.tag, .int .i64 x.1.num, .bool x.1.mark, .bool x.2] 63)))
  have HR := Lib.hid h1
  clear h h1
  unfold rpv
  go_enter Tryz.func103, Tryz.ntmps103
  go_upto_region 1 with fail
  generalize w.alloc (.cells #[.int .i64 x.1.slot, .int .i64 x.1.gen, .int .i64 x.1.tag, .int .i64 x.1.num, .bool x.1.mark, .bool x.2] 63) = W at HR HX HO ⊢
  have hX := HX.out
  have hzx := BlkW.lt hX
  have hrx : w.heap.size ≠ b := fun e => BlkW.ne_ hX HR.out (by decide) e
  obtain ⟨b0, b1, b2, b3, b4, b5⟩ := rep6 hX
  have hz := BlkW.lt HR.out
  have cd := HR.out.done
  clear hX HX
  generalize w.heap.size = g at hzx hrx b0 b1 b2 b3 b4 b5 ⊢
  rw [hd] at cd
  clear hd
  rw [HXX.out] at b5
  go_wp2_with fail
  refine (jlookH HR.out).mono ?_
  rintro e w2 ⟨rfl, h1, h2⟩
  go_wp2
  first
    | go_end0
    | refine bodyPost_ret (results_none rfl _ _ _) rfl ?_
  exact ⟨rfl, h1, Lib.hid (HO.out.trans h2.out)⟩
set_option maxRecDepth 100000 in
set_option maxHeartbeats 1000000 in
theorem deq_0 (h : JAt w b j) (x : Wd × Bool) (hd : j.done = 0) :
    Calls Tryz.prog 103 #[.pointer (some ⟨b, 0, none⟩), rpv x] w (JLeaf w b (j.lookH)) := by
  have h1 := h.below (below_alloc (Below.refl _ _) (.cells #[.int .i64 x.1.slot, .int .i64 x.1.gen, .int .i64 x.1.tag, .int .i64 x.1.num, .bool x.1.mark, .bool x.2] 63))
  have HX := Lib.hid (box_rep w x)
  have HO := Lib.hid (Only.of_below (r := b) (below_alloc (Below.refl w.heap.size w) (.cells #[.int .i64 x.1.slot, .int .i64 x.1.gen, .int .i64 x.1.tag, .int .i64 x.1.num, .bool x.1.mark, .bool x.2] 63)))
  have HR := Lib.hid h1
  clear h h1
  unfold rpv
  go_enter Tryz.func103, Tryz.ntmps103
  go_upto_region 1 with fail
  generalize w.alloc (.cells #[.int .i64 x.1.slot, .int .i64 x.1.gen, .int .i64 x.1.tag, .int .i64 x.1.num, .bool x.1.mark, .bool x.2] 63) = W at HR HX HO ⊢
  have hX := HX.out
  have hzx := BlkW.lt hX
  have hrx : w.heap.size ≠ b := fun e => BlkW.ne_ hX HR.out (by decide) e
  obtain ⟨b0, b1, b2, b3, b4, b5⟩ := rep6 hX
  have hz := BlkW.lt HR.out
  have cd := HR.out.done
  clear hX HX
  generalize w.heap.size = g at hzx hrx b0 b1 b2 b3 b4 b5 ⊢
  rw [hd] at cd
  clear hd
  go_wp2_with fail
  refine (jlookH HR.out).mono ?_
  rintro e w2 ⟨rfl, h1, h2⟩
  go_wp2
  first
    | go_end0
    | refine bodyPost_ret (results_none rfl _ _ _) rfl ?_
  exact ⟨rfl, h1, Lib.hid (HO.out.trans h2.out)⟩
set_option maxRecDepth 100000 in
set_option maxHeartbeats 1000000 in
theorem deq_7 (h : JAt w b j) (x : Wd × Bool) (hd : j.done = 7) :
    Calls Tryz.prog 103 #[.pointer (some ⟨b, 0, none⟩), rpv x] w (JLeaf w b (j.lookH)) := by
  have h1 := h.below (below_alloc (Below.refl _ _) (.cells #[.int .i64 x.1.slot, .int .i64 x.1.gen, .int .i64 x.1.tag, .int .i64 x.1.num, .bool x.1.mark, .bool x.2] 63))
  have HX := Lib.hid (box_rep w x)
  have HO := Lib.hid (Only.of_below (r := b) (below_alloc (Below.refl w.heap.size w) (.cells #[.int .i64 x.1.slot, .int .i64 x.1.gen, .int .i64 x.1.tag, .int .i64 x.1.num, .bool x.1.mark, .bool x.2] 63)))
  have HR := Lib.hid h1
  clear h h1
  unfold rpv
  go_enter Tryz.func103, Tryz.ntmps103
  go_upto_region 1 with fail
  generalize w.alloc (.cells #[.int .i64 x.1.slot, .int .i64 x.1.gen, .int .i64 x.1.tag, .int .i64 x.1.num, .bool x.1.mark, .bool x.2] 63) = W at HR HX HO ⊢
  have hX := HX.out
  have hzx := BlkW.lt hX
  have hrx : w.heap.size ≠ b := fun e => BlkW.ne_ hX HR.out (by decide) e
  obtain ⟨b0, b1, b2, b3, b4, b5⟩ := rep6 hX
  have hz := BlkW.lt HR.out
  have cd := HR.out.done
  clear hX HX
  generalize w.heap.size = g at hzx hrx b0 b1 b2 b3 b4 b5 ⊢
  rw [hd] at cd
  clear hd
  go_wp2_with fail
  refine (jlookH HR.out).mono ?_
  rintro e w2 ⟨rfl, h1, h2⟩
  go_wp2
  first
    | go_end0
    | refine bodyPost_ret (results_none rfl _ _ _) rfl ?_
  exact ⟨rfl, h1, Lib.hid (HO.out.trans h2.out)⟩
set_option maxRecDepth 100000 in
set_option maxHeartbeats 1000000 in
theorem deq_looked (h : JAt w b j) (x : Wd × Bool) (hd : j.done = 3) :
    Calls Tryz.prog 103 #[.pointer (some ⟨b, 0, none⟩), rpv x] w (JLeaf w b ((j.setHead x.1).ask (cLoad (0, 0, 1)) 4)) := by
  have h1 := h.below (below_alloc (Below.refl _ _) (.cells #[.int .i64 x.1.slot, .int .i64 x.1.gen, .int .i64 x.1.tag, .int .i64 x.1.num, .bool x.1.mark, .bool x.2] 63))
  have HX := Lib.hid (box_rep w x)
  have HO := Lib.hid (Only.of_below (r := b) (below_alloc (Below.refl w.heap.size w) (.cells #[.int .i64 x.1.slot, .int .i64 x.1.gen, .int .i64 x.1.tag, .int .i64 x.1.num, .bool x.1.mark, .bool x.2] 63)))
  have HR := Lib.hid h1
  clear h h1
  unfold rpv
  go_enter Tryz.func103, Tryz.ntmps103
  go_upto_region 1 with fail
  generalize w.alloc (.cells #[.int .i64 x.1.slot, .int .i64 x.1.gen, .int .i64 x.1.tag, .int .i64 x.1.num, .bool x.1.mark, .bool x.2] 63) = W at HR HX HO ⊢
  have hX := HX.out
  have hzx := BlkW.lt hX
  have hrx : w.heap.size ≠ b := fun e => BlkW.ne_ hX HR.out (by decide) e
  obtain ⟨b0, b1, b2, b3, b4, b5⟩ := rep6 hX
  have hz := BlkW.lt HR.out
  have cd := HR.out.done
  clear hX HX
  generalize w.heap.size = g at hzx hrx b0 b1 b2 b3 b4 b5 ⊢
  rw [hd] at cd
  clear hd
  obtain ⟨t0, t1, t2, t3, t4⟩ := HR.out.head5
  have fz : ∀ o, W.frozen? ⟨b, o, none⟩ = false := HR.out.frozen
  go_upto_region 15 with fail
  have RS := Lib.hid (HR.out.setHead x.1)
  have OS := Lib.hid (HO.out.trans (Only.sets (r := b) (w := W) 24 (wc x.1)))
  show Code.wp _ _ _ _ (W.setCells b 24 (wc x.1))
  clear t0 t1 t2 t3 t4 fz b0 b1 b2 b3 b4 b5 cd HR HO hz hzx
  generalize W.setCells b 24 (wc x.1) = W2 at RS OS ⊢
  have hz := BlkW.lt RS.out
  have HD := Lib.hid RS.out.drew
  go_region_held3 (fun w' => True)
    (first | trivial | go_keep)
    (first
    | (go_at_call 75; refine (root1 _).mono ?_; rintro e w2 ⟨rfl, hb⟩; have HA := Lib.hid (jload_any (HD.out.below hb) (0, 0, 1) 4))
    | (go_at_call 142; refine HA.out.mono ?_; rintro e w3 ⟨rfl, h1, h2⟩))
  all_goals
    go_wp2
    first
      | go_end0
      | refine bodyPost_ret (results_none rfl _ _ _) rfl ?_
    exact ⟨rfl, h1, Lib.hid (((OS.out.trans Only.drew).trans (Only.of_below hb)).trans h2.out)⟩
set_option maxRecDepth 100000 in
set_option maxHeartbeats 1000000 in
theorem deq_sighted (h : JAt w b j) (x : Wd × Bool) (hd : j.done = 4) :
    Calls Tryz.prog 103 #[.pointer (some ⟨b, 0, none⟩), rpv x] w (JLeaf w b ((j.setTail x.1).ask (cProtect (fld j.head 2) 1) 5)) := by
  have h1 := h.below (below_alloc (Below.refl _ _) (.cells #[.int .i64 x.1.slot, .int .i64 x.1.gen, .int .i64 x.1.tag, .int .i64 x.1.num, .bool x.1.mark, .bool x.2] 63))
  have HX := Lib.hid (box_rep w x)
  have HO := Lib.hid (Only.of_below (r := b) (below_alloc (Below.refl w.heap.size w) (.cells #[.int .i64 x.1.slot, .int .i64 x.1.gen, .int .i64 x.1.tag, .int .i64 x.1.num, .bool x.1.mark, .bool x.2] 63)))
  have HR := Lib.hid h1
  clear h h1
  unfold rpv
  go_enter Tryz.func103, Tryz.ntmps103
  go_upto_region 1 with fail
  generalize w.alloc (.cells #[.int .i64 x.1.slot, .int .i64 x.1.gen, .int .i64 x.1.tag, .int .i64 x.1.num, .bool x.1.mark, .bool x.2] 63) = W at HR HX HO ⊢
  have hX := HX.out
  have hzx := BlkW.lt hX
  have hrx : w.heap.size ≠ b := fun e => BlkW.ne_ hX HR.out (by decide) e
  obtain ⟨b0, b1, b2, b3, b4, b5⟩ := rep6 hX
  have hz := BlkW.lt HR.out
  have cd := HR.out.done
  clear hX HX
  generalize w.heap.size = g at hzx hrx b0 b1 b2 b3 b4 b5 ⊢
  rw [hd] at cd
  clear hd
  obtain ⟨t0, t1, t2, t3, t4⟩ := HR.out.tail5
  have fz : ∀ o, W.frozen? ⟨b, o, none⟩ = false := HR.out.frozen
  go_upto_region 17 with fail
  have RS := Lib.hid (HR.out.setTail x.1)
  have OS := Lib.hid (HO.out.trans (Only.sets (r := b) (w := W) 29 (wc x.1)))
  show Code.wp _ _ _ _ (W.setCells b 29 (wc x.1))
  clear t0 t1 t2 t3 t4 fz b0 b1 b2 b3 b4 b5 cd HR HO hz hzx
  generalize W.setCells b 29 (wc x.1) = W2 at RS OS ⊢
  have hz := BlkW.lt RS.out
  have HD := Lib.hid RS.out.drew
  obtain ⟨he0, he1, he2, he3, he4⟩ : W2.cell? ⟨b, 24, none⟩ = some (.int .i64 j.head.slot) ∧ W2.cell? ⟨b, 25, none⟩ = some (.int .i64 j.head.gen) ∧ W2.cell? ⟨b, 26, none⟩ = some (.int .i64 j.head.tag) ∧ W2.cell? ⟨b, 27, none⟩ = some (.int .i64 j.head.num) ∧ W2.cell? ⟨b, 28, none⟩ = some (.bool j.head.mark) := RS.out.head5
  go_region_held3 (fun w' => (w'.cell? ⟨b, 24, none⟩ = some (.int .i64 j.head.slot) ∧ w'.cell? ⟨b, 25, none⟩ = some (.int .i64 j.head.gen) ∧ w'.cell? ⟨b, 26, none⟩ = some (.int .i64 j.head.tag) ∧ w'.cell? ⟨b, 27, none⟩ = some (.int .i64 j.head.num) ∧ w'.cell? ⟨b, 28, none⟩ = some (.bool j.head.mark)))
    (first | go_keep | trivial | exact JAt.head5 (j := j.setTail x.1) (HD.out.below hb) | exact JAt.head5 (j := ((j.setTail x.1).ask (cProtect (fld j.head 2) 1) 5)) h1.out)
    (first
    | (go_at_call 72; refine (Field_at _ _ _ _ _ _ _).mono ?_; rintro e w2 ⟨rfl, hb⟩; have HA := Lib.hid (jprotect_any (HD.out.below hb) (fld j.head 2) 1 5))
    | (go_at_call 145; refine HA.out.mono ?_; rintro e w3 ⟨rfl, h1, h2⟩))
  all_goals
    go_wp2
    first
      | go_end0
      | refine bodyPost_ret (results_none rfl _ _ _) rfl ?_
    exact ⟨rfl, h1, Lib.hid (((OS.out.trans Only.drew).trans (Only.of_below hb)).trans h2.out)⟩
set_option maxRecDepth 100000 in
set_option maxHeartbeats 1000000 in
theorem deq_followed (h : JAt w b j) (x : Wd × Bool) (hd : j.done = 5) :
    Calls Tryz.prog 103 #[.pointer (some ⟨b, 0, none⟩), rpv x] w (JLeaf w b ((j.setNext x.1).ask (cLoad (0, 0, 0)) 6)) := by
  have h1 := h.below (below_alloc (Below.refl _ _) (.cells #[.int .i64 x.1.slot, .int .i64 x.1.gen, .int .i64 x.1.tag, .int .i64 x.1.num, .bool x.1.mark, .bool x.2] 63))
  have HX := Lib.hid (box_rep w x)
  have HO := Lib.hid (Only.of_below (r := b) (below_alloc (Below.refl w.heap.size w) (.cells #[.int .i64 x.1.slot, .int .i64 x.1.gen, .int .i64 x.1.tag, .int .i64 x.1.num, .bool x.1.mark, .bool x.2] 63)))
  have HR := Lib.hid h1
  clear h h1
  unfold rpv
  go_enter Tryz.func103, Tryz.ntmps103
  go_upto_region 1 with fail
  generalize w.alloc (.cells #[.int .i64 x.1.slot, .int .i64 x.1.gen, .int .i64 x.1.tag, .int .i64 x.1.num, .bool x.1.mark, .bool x.2] 63) = W at HR HX HO ⊢
  have hX := HX.out
  have hzx := BlkW.lt hX
  have hrx : w.heap.size ≠ b := fun e => BlkW.ne_ hX HR.out (by decide) e
  obtain ⟨b0, b1, b2, b3, b4, b5⟩ := rep6 hX
  have hz := BlkW.lt HR.out
  have cd := HR.out.done
  clear hX HX
  generalize w.heap.size = g at hzx hrx b0 b1 b2 b3 b4 b5 ⊢
  rw [hd] at cd
  clear hd
  obtain ⟨t0, t1, t2, t3, t4⟩ := HR.out.next5
  have fz : ∀ o, W.frozen? ⟨b, o, none⟩ = false := HR.out.frozen
  go_upto_region 19 with fail
  have RS := Lib.hid (HR.out.setNext x.1)
  have OS := Lib.hid (HO.out.trans (Only.sets (r := b) (w := W) 34 (wc x.1)))
  show Code.wp _ _ _ _ (W.setCells b 34 (wc x.1))
  clear t0 t1 t2 t3 t4 fz b0 b1 b2 b3 b4 b5 cd HR HO hz hzx
  generalize W.setCells b 34 (wc x.1) = W2 at RS OS ⊢
  have hz := BlkW.lt RS.out
  have HD := Lib.hid RS.out.drew
  go_region_held3 (fun w' => True)
    (first | trivial | go_keep)
    (first
    | (go_at_call 75; refine (root0 _).mono ?_; rintro e w2 ⟨rfl, hb⟩; have HA := Lib.hid (jload_any (HD.out.below hb) (0, 0, 0) 6))
    | (go_at_call 142; refine HA.out.mono ?_; rintro e w3 ⟨rfl, h1, h2⟩))
  all_goals
    go_wp2
    first
      | go_end0
      | refine bodyPost_ret (results_none rfl _ _ _) rfl ?_
    exact ⟨rfl, h1, Lib.hid (((OS.out.trans Only.drew).trans (Only.of_below hb)).trans h2.out)⟩
set_option maxRecDepth 100000 in
set_option maxHeartbeats 1000000 in
theorem deq_checked (h : JAt w b j) (x : Wd × Bool) (hd : j.done = 6) :
    Calls Tryz.prog 103 #[.pointer (some ⟨b, 0, none⟩), rpv x] w (JLeaf w b (j.take x.1)) := by
  have h1 := h.below (below_alloc (Below.refl _ _) (.cells #[.int .i64 x.1.slot, .int .i64 x.1.gen, .int .i64 x.1.tag, .int .i64 x.1.num, .bool x.1.mark, .bool x.2] 63))
  have HX := Lib.hid (box_rep w x)
  have HO := Lib.hid (Only.of_below (r := b) (below_alloc (Below.refl w.heap.size w) (.cells #[.int .i64 x.1.slot, .int .i64 x.1.gen, .int .i64 x.1.tag, .int .i64 x.1.num, .bool x.1.mark, .bool x.2] 63)))
  have HR := Lib.hid h1
  clear h h1
  unfold rpv
  go_enter Tryz.func103, Tryz.ntmps103
  go_upto_region 1 with fail
  generalize w.alloc (.cells #[.int .i64 x.1.slot, .int .i64 x.1.gen, .int .i64 x.1.tag, .int .i64 x.1.num, .bool x.1.mark, .bool x.2] 63) = W at HR HX HO ⊢
  have hX := HX.out
  have hzx := BlkW.lt hX
  have hrx : w.heap.size ≠ b := fun e => BlkW.ne_ hX HR.out (by decide) e
  obtain ⟨b0, b1, b2, b3, b4, b5⟩ := rep6 hX
  have hz := BlkW.lt HR.out
  have cd := HR.out.done
  clear hX HX
  generalize w.heap.size = g at hzx hrx b0 b1 b2 b3 b4 b5 ⊢
  rw [hd] at cd
  clear hd
  go_wp2_with fail
  refine (jtake HR.out x.1).mono ?_
  rintro e w2 ⟨rfl, h1, h2⟩
  go_wp2
  first
    | go_end0
    | refine bodyPost_ret (results_none rfl _ _ _) rfl ?_
  exact ⟨rfl, h1, Lib.hid (HO.out.trans h2.out)⟩
set_option maxRecDepth 100000 in
set_option maxHeartbeats 1000000 in
theorem deq_read (h : JAt w b j) (x : Wd × Bool) (hd : j.done = 10) :
    Calls Tryz.prog 103 #[.pointer (some ⟨b, 0, none⟩), rpv x] w (JLeaf w b ((j.setVal x.1.num).ask (cSwap (0, 0, 0) j.head j.next) 11)) := by
  have h1 := h.below (below_alloc (Below.refl _ _) (.cells #[.int .i64 x.1.slot, .int .i64 x.1.gen, .int .i64 x.1.tag, .int .i64 x.1.num, .bool x.1.mark, .bool x.2] 63))
  have HX := Lib.hid (box_rep w x)
  have HO := Lib.hid (Only.of_below (r := b) (below_alloc (Below.refl w.heap.size w) (.cells #[.int .i64 x.1.slot, .int .i64 x.1.gen, .int .i64 x.1.tag, .int .i64 x.1.num, .bool x.1.mark, .bool x.2] 63)))
  have HR := Lib.hid h1
  clear h h1
  unfold rpv
  go_enter Tryz.func103, Tryz.ntmps103
  go_upto_region 1 with fail
  generalize w.alloc (.cells #[.int .i64 x.1.slot, .int .i64 x.1.gen, .int .i64 x.1.tag, .int .i64 x.1.num, .bool x.1.mark, .bool x.2] 63) = W at HR HX HO ⊢
  have hX := HX.out
  have hzx := BlkW.lt hX
  have hrx : w.heap.size ≠ b := fun e => BlkW.ne_ hX HR.out (by decide) e
  obtain ⟨b0, b1, b2, b3, b4, b5⟩ := rep6 hX
  have hz := BlkW.lt HR.out
  have cd := HR.out.done
  clear hX HX
  generalize w.heap.size = g at hzx hrx b0 b1 b2 b3 b4 b5 ⊢
  rw [hd] at cd
  clear hd
  have cv := HR.out.val
  have fz : ∀ o, W.frozen? ⟨b, o, none⟩ = false := HR.out.frozen
  go_upto_region 22 with fail
  have RS := Lib.hid (HR.out.setVal x.1.num)
  have OS := Lib.hid (HO.out.trans (((show Off (fun i => i = b) W _ from Off.refl _ W).set (.inl rfl) 39 (.int .i64 x.1.num))))
  show Code.wp _ _ _ _ (W.setCell ⟨b, 39, none⟩ (.int .i64 x.1.num))
  clear cv fz b0 b1 b2 b3 b4 b5 cd HR HO hz hzx
  generalize W.setCell ⟨b, 39, none⟩ (.int .i64 x.1.num) = W2 at RS OS ⊢
  have hz := BlkW.lt RS.out
  have HD := Lib.hid RS.out.drew
  obtain ⟨he0, he1, he2, he3, he4⟩ : W2.cell? ⟨b, 24, none⟩ = some (.int .i64 j.head.slot) ∧ W2.cell? ⟨b, 25, none⟩ = some (.int .i64 j.head.gen) ∧ W2.cell? ⟨b, 26, none⟩ = some (.int .i64 j.head.tag) ∧ W2.cell? ⟨b, 27, none⟩ = some (.int .i64 j.head.num) ∧ W2.cell? ⟨b, 28, none⟩ = some (.bool j.head.mark) := RS.out.head5
  obtain ⟨ne0, ne1, ne2, ne3, ne4⟩ : W2.cell? ⟨b, 34, none⟩ = some (.int .i64 j.next.slot) ∧ W2.cell? ⟨b, 35, none⟩ = some (.int .i64 j.next.gen) ∧ W2.cell? ⟨b, 36, none⟩ = some (.int .i64 j.next.tag) ∧ W2.cell? ⟨b, 37, none⟩ = some (.int .i64 j.next.num) ∧ W2.cell? ⟨b, 38, none⟩ = some (.bool j.next.mark) := RS.out.next5
  go_region_held3 (fun w' => (w'.cell? ⟨b, 24, none⟩ = some (.int .i64 j.head.slot) ∧ w'.cell? ⟨b, 25, none⟩ = some (.int .i64 j.head.gen) ∧ w'.cell? ⟨b, 26, none⟩ = some (.int .i64 j.head.tag) ∧ w'.cell? ⟨b, 27, none⟩ = some (.int .i64 j.head.num) ∧ w'.cell? ⟨b, 28, none⟩ = some (.bool j.head.mark)) ∧ (w'.cell? ⟨b, 34, none⟩ = some (.int .i64 j.next.slot) ∧ w'.cell? ⟨b, 35, none⟩ = some (.int .i64 j.next.gen) ∧ w'.cell? ⟨b, 36, none⟩ = some (.int .i64 j.next.tag) ∧ w'.cell? ⟨b, 37, none⟩ = some (.int .i64 j.next.num) ∧ w'.cell? ⟨b, 38, none⟩ = some (.bool j.next.mark)))
    (first | go_keep | trivial | exact ⟨JAt.head5 (j := j.setVal x.1.num) (HD.out.below hb), JAt.next5 (j := j.setVal x.1.num) (HD.out.below hb)⟩ | exact ⟨JAt.head5 (j := ((j.setVal x.1.num).ask (cSwap (0, 0, 0) j.head j.next) 11)) h1.out, JAt.next5 (j := ((j.setVal x.1.num).ask (cSwap (0, 0, 0) j.head j.next) 11)) h1.out⟩)
    (first
    | (go_at_call 75; refine (root0 _).mono ?_; rintro e w2 ⟨rfl, hb⟩; have HA := Lib.hid (jswap_any (HD.out.below hb) (0, 0, 0) j.head j.next 11))
    | (go_at_call 140; refine HA.out.mono ?_; rintro e w3 ⟨rfl, h1, h2⟩))
  all_goals
    go_wp2
    first
      | go_end0
      | refine bodyPost_ret (results_none rfl _ _ _) rfl ?_
    exact ⟨rfl, h1, Lib.hid (((OS.out.trans Only.drew).trans (Only.of_below hb)).trans h2.out)⟩
set_option maxRecDepth 100000 in
set_option maxHeartbeats 1000000 in
theorem deq_over (h : JAt w b j) (x : Wd × Bool) (hd : j.done = 12) :
    Calls Tryz.prog 103 #[.pointer (some ⟨b, 0, none⟩), rpv x] w (JLeaf w b (j.end_ 1 j.val)) := by
  have h1 := h.below (below_alloc (Below.refl _ _) (.cells #[.int .i64 x.1.slot, .int .i64 x.1.gen, .int .i64 x.1.tag, .int .i64 x.1.num, .bool x.1.mark, .bool x.2] 63))
  have HX := Lib.hid (box_rep w x)
  have HO := Lib.hid (Only.of_below (r := b) (below_alloc (Below.refl w.heap.size w) (.cells #[.int .i64 x.1.slot, .int .i64 x.1.gen, .int .i64 x.1.tag, .int .i64 x.1.num, .bool x.1.mark, .bool x.2] 63)))
  have HR := Lib.hid h1
  clear h h1
  unfold rpv
  go_enter Tryz.func103, Tryz.ntmps103
  go_upto_region 1 with fail
  generalize w.alloc (.cells #[.int .i64 x.1.slot, .int .i64 x.1.gen, .int .i64 x.1.tag, .int .i64 x.1.num, .bool x.1.mark, .bool x.2] 63) = W at HR HX HO ⊢
  have hX := HX.out
  have hzx := BlkW.lt hX
  have hrx : w.heap.size ≠ b := fun e => BlkW.ne_ hX HR.out (by decide) e
  obtain ⟨b0, b1, b2, b3, b4, b5⟩ := rep6 hX
  have hz := BlkW.lt HR.out
  have cd := HR.out.done
  clear hX HX
  generalize w.heap.size = g at hzx hrx b0 b1 b2 b3 b4 b5 ⊢
  rw [hd] at cd
  clear hd
  have cv := HR.out.val
  have HA := Lib.hid (jend_any HR.out.drew 1 j.val)
  go_upto_region 23 with fail
  go_region_with (first | (go_at_call 138; refine HA.out.mono ?_; rintro e w3 ⟨rfl, h1, h2⟩))
  all_goals
    go_wp2
    first
      | go_end0
      | refine bodyPost_ret (results_none rfl _ _ _) rfl ?_
    exact ⟨rfl, h1, Lib.hid ((HO.out.trans Only.drew).trans h2.out)⟩
set_option maxRecDepth 100000 in
set_option maxHeartbeats 1000000 in
theorem deq_13 (h : JAt w b j) (x : Wd × Bool) (hd : j.done = 13) :
    Calls Tryz.prog 103 #[.pointer (some ⟨b, 0, none⟩), rpv x] w (JLeaf w b (j)) := by
  have h1 := h.below (below_alloc (Below.refl _ _) (.cells #[.int .i64 x.1.slot, .int .i64 x.1.gen, .int .i64 x.1.tag, .int .i64 x.1.num, .bool x.1.mark, .bool x.2] 63))
  have HX := Lib.hid (box_rep w x)
  have HO := Lib.hid (Only.of_below (r := b) (below_alloc (Below.refl w.heap.size w) (.cells #[.int .i64 x.1.slot, .int .i64 x.1.gen, .int .i64 x.1.tag, .int .i64 x.1.num, .bool x.1.mark, .bool x.2] 63)))
  have HR := Lib.hid h1
  clear h h1
  unfold rpv
  go_enter Tryz.func103, Tryz.ntmps103
  go_upto_region 1 with fail
  generalize w.alloc (.cells #[.int .i64 x.1.slot, .int .i64 x.1.gen, .int .i64 x.1.tag, .int .i64 x.1.num, .bool x.1.mark, .bool x.2] 63) = W at HR HX HO ⊢
  have hX := HX.out
  have hzx := BlkW.lt hX
  have hrx : w.heap.size ≠ b := fun e => BlkW.ne_ hX HR.out (by decide) e
  obtain ⟨b0, b1, b2, b3, b4, b5⟩ := rep6 hX
  have hz := BlkW.lt HR.out
  have cd := HR.out.done
  clear hX HX
  generalize w.heap.size = g at hzx hrx b0 b1 b2 b3 b4 b5 ⊢
  rw [hd] at cd
  clear hd
  go_wp2
  first
    | go_end0
    | refine bodyPost_ret (results_none rfl _ _ _) rfl ?_
  exact ⟨rfl, HR, HO⟩
end
end Go.Proofs.YtihjklimcchkhaaGreatDoor.Co

namespace Go.Proofs.YtihjklimcchkhaaGreatDoor.Co
open Go.RowKit Go.Extern.Stop Go.Stop Go.Extern Go.Sort
section
variable {w w' : World} {b : Nat} {j j' : Jb}
/-- What Next leaves. -/
def JNext (w : World) (b : Nat) (j : Jb) (e : Ending) (w' : World) : Prop := e = .returned (cav j.ca) ∧ Hid (JAt w' b j) ∧ Hid (Only b w w')
theorem wp_store_ans {ops : Array Oper} {rest : List Oper} {op : Oper} {a : Act} {W : World} {Q : Exit → Act → World → Prop} {q : Nat} (hj : JAt W b j) (hq : BlkW W q 51 (cac za).toArray) (ho : Only b w W) (hf : w.heap.size ≤ q) (hgd : op.guard = none) (px py : Operand) (hop : op.op = .store 51 px py)
    (hx : a.eval px = .pointer (some ⟨q, 0, none⟩)) (c : Ca) (hy : a.eval py = .agg (cac c).toArray)
    (k : ∀ w', JAt w' b j → BlkW w' q 51 (cac c).toArray → Only b w w' → wpList Tryz.prog ops Q rest (a.put op.dst undef) w') : wpList Tryz.prog ops Q (op :: rest) a W := by
  refine wpList_store_mid hgd 51 px py hop q 0 (cac c).toArray hx hy (there_of_blk hq 0 18 (by decide)) (show (Tryz.prog.info? 51).map (·.size) = some (cac c).toArray.size from infoCl) (cac_one c) ?_
  have h1 : BlkW (W.setCells q 0 (cac c)) q 51 (cac c).toArray := by
    have h1 := blk_puts (cac c) 0 hq
    rwa [show putL (cac za) 0 (cac c) = cac c from by kernel_rfl] at h1
  have h2 : Off (fun j => j = q) W (W.setCells q 0 (cac c)) := Off.sets (K := fun j => j = q) (.inl rfl) _ 0 (Off.refl _ W)
  exact k _ (h2.blk hj (BlkW.ne_ hj hq (by decide))) h1 (Off.sets (K := fun j => j = b) (.inr hf) _ 0 ho)
theorem ans_load {W : World} {q : Nat} {c : Ca} (h : BlkW W q 51 (cac c).toArray) : (loadVar 51 ⟨q, 0, none⟩).run Tryz.prog W = .ok (cav c) W := by
  have hr : W.rangeAt q 0 (cac c) := fun j v hv => by rw [Nat.zero_add]; exact (BlkW.cell h j).trans (by rw [List.getElem?_toArray]; exact hv)
  exact run_loadVar_mid W q 0 51 (cac c) _ hr Tryz.underlying51 rfl infoCl
theorem results_cellc {P : Program} {fn : Func} {a : Tmp} {t : TypeId} (h : fn.results = #[.cell a t]) (tmps : Array Value) {q : Nat} {w : World} {v : Value} (ht : tmps.getD a undef = .pointer (some ⟨q, 0, none⟩)) (hl : (loadVar t ⟨q, 0, none⟩).run P w = .ok v w) : (results fn tmps).run P w = .ok v w := by
  have e : tmps[a]?.getD undef = .pointer (some ⟨q, 0, none⟩) := by rw [← ht]; simp
  simp [results, h, e, asAddr, hl]
set_option maxRecDepth 100000 in
set_option maxHeartbeats 1000000 in
theorem jnext_enq (h : JAt w b j) (x : Wd × Bool) (hk : j.op.kind = 4) (hC : ∀ W, JAt W b j → Calls Tryz.prog 102 #[.pointer (some ⟨b, 0, none⟩), rpv x] W (JLeaf W b j')) :
    Calls Tryz.prog 74 #[.pointer (some ⟨b, 0, none⟩), rpv x] w (JNext w b j') := by
  have hb1 := below_alloc (Below.refl w.heap.size w) (.cells #[.int .i64 x.1.slot, .int .i64 x.1.gen, .int .i64 x.1.tag, .int .i64 x.1.num, .bool x.1.mark, .bool x.2] 63)
  have hb2 := below_alloc hb1 (.cells (cac za).toArray 51)
  have hbx := below_alloc (Below.refl (w.alloc (.cells #[.int .i64 x.1.slot, .int .i64 x.1.gen, .int .i64 x.1.tag, .int .i64 x.1.num, .bool x.1.mark, .bool x.2] 63)).heap.size (w.alloc (.cells #[.int .i64 x.1.slot, .int .i64 x.1.gen, .int .i64 x.1.tag, .int .i64 x.1.num, .bool x.1.mark, .bool x.2] 63))) (.cells (cac za).toArray 51)
  have HO := Lib.hid (Only.of_below (r := b) hb2)
  have HX := Lib.hid ((box_rep w x).below hbx)
  have hq := BlkW.new (w.alloc (.cells #[.int .i64 x.1.slot, .int .i64 x.1.gen, .int .i64 x.1.tag, .int .i64 x.1.num, .bool x.1.mark, .bool x.2] 63)) 51 (cac za).toArray
  rw [World.size_alloc] at hq
  have HQ := Lib.hid hq
  have HR := Lib.hid (h.below hb2)
  have HC := Lib.hid hC
  have HK := Lib.hid hk
  have HF := Lib.hid (show w.heap.size ≤ w.heap.size + 1 by omega)
  clear h hC hk hb1 hb2 hbx hq
  unfold rpv
  go_enter Tryz.func74, Tryz.ntmps74
  go_upto_region 1 with fail
  show Code.wp _ _ _ _ ((w.alloc (.cells #[.int .i64 x.1.slot, .int .i64 x.1.gen, .int .i64 x.1.tag, .int .i64 x.1.num, .bool x.1.mark, .bool x.2] 63)).alloc (.cells (cac za).toArray 51))
  generalize ((w.alloc (.cells #[.int .i64 x.1.slot, .int .i64 x.1.gen, .int .i64 x.1.tag, .int .i64 x.1.num, .bool x.1.mark, .bool x.2] 63)).alloc (.cells (cac za).toArray 51)) = W at HR HX HO HQ ⊢
  obtain ⟨v, hv⟩ : ∃ v, v = w.heap.size := ⟨_, rfl⟩
  rw [← hv] at HX HQ HF ⊢
  have hX := HX.out
  have hzx := BlkW.lt hX
  have hrx : v ≠ b := fun e => BlkW.ne_ hX HR.out (by decide) e
  obtain ⟨b0, b1, b2, b3, b4, b5⟩ := rep6 hX
  have hz := BlkW.lt HR.out
  have hzq := BlkW.lt HQ.out
  have hqb : v + 1 ≠ b := fun e => BlkW.ne_ HQ.out HR.out (by decide) e
  have ck := HR.out.kind
  rw [HK.out] at ck
  clear hX HX
  have HV := Lib.hid hv
  clear hv
  have HCW := Lib.hid (HC.out W HR.out)
  unfold rpv at HCW
  go_wp2_with fail
  refine HCW.out.mono ?_
  rintro e w2 ⟨rfl, h1, h2⟩
  have HQ2 := Lib.hid (h2.out.blk HQ.out hqb)
  have H1 := Lib.hid h1.out
  have HO2 := Lib.hid (HO.out.trans h2.out)
  have hz2 := BlkW.lt H1.out
  clear h1 h2 HCW HC HR HQ HO b0 b1 b2 b3 b4 b5 ck hz hzq hzx
  have HRG := Lib.hid (H1.out.range 0 (cac j'.ca) (by kernel_rfl))
  generalize hG : Value.agg (cac j'.ca).toArray = G
  have HG := Lib.hid hG
  clear hG
  go_wp2_with (first
    | (refine wpList_load_mid rfl 51 (.tmp 26) rfl b 0 rfl (cac j'.ca) _ HRG.out Tryz.underlying51 rfl infoCl ?_; rw [HG.out])
    | (refine wp_store_ans H1.out HQ2.out HO2.out (HV.out ▸ HF.out) rfl (.tmp 4) (.tmp 27) rfl (by rfl) j'.ca HG.out.symm ?_; intro W3 k1 k2 k3; have K1 := Lib.hid k1; have K2 := Lib.hid k2; have K3 := Lib.hid k3; clear k1 k2 k3))
  exact bodyPost_ret (v := cav j'.ca) (results_cellc (q := v + 1) rfl _ (by rfl) (ans_load K2.out)) rfl ⟨rfl, K1, K3⟩
set_option maxRecDepth 100000 in
set_option maxHeartbeats 1000000 in
theorem jnext_deq (h : JAt w b j) (x : Wd × Bool) (hk : j.op.kind = 5) (hC : ∀ W, JAt W b j → Calls Tryz.prog 103 #[.pointer (some ⟨b, 0, none⟩), rpv x] W (JLeaf W b j')) :
    Calls Tryz.prog 74 #[.pointer (some ⟨b, 0, none⟩), rpv x] w (JNext w b j') := by
  have hb1 := below_alloc (Below.refl w.heap.size w) (.cells #[.int .i64 x.1.slot, .int .i64 x.1.gen, .int .i64 x.1.tag, .int .i64 x.1.num, .bool x.1.mark, .bool x.2] 63)
  have hb2 := below_alloc hb1 (.cells (cac za).toArray 51)
  have hbx := below_alloc (Below.refl (w.alloc (.cells #[.int .i64 x.1.slot, .int .i64 x.1.gen, .int .i64 x.1.tag, .int .i64 x.1.num, .bool x.1.mark, .bool x.2] 63)).heap.size (w.alloc (.cells #[.int .i64 x.1.slot, .int .i64 x.1.gen, .int .i64 x.1.tag, .int .i64 x.1.num, .bool x.1.mark, .bool x.2] 63))) (.cells (cac za).toArray 51)
  have HO := Lib.hid (Only.of_below (r := b) hb2)
  have HX := Lib.hid ((box_rep w x).below hbx)
  have hq := BlkW.new (w.alloc (.cells #[.int .i64 x.1.slot, .int .i64 x.1.gen, .int .i64 x.1.tag, .int .i64 x.1.num, .bool x.1.mark, .bool x.2] 63)) 51 (cac za).toArray
  rw [World.size_alloc] at hq
  have HQ := Lib.hid hq
  have HR := Lib.hid (h.below hb2)
  have HC := Lib.hid hC
  have HK := Lib.hid hk
  have HF := Lib.hid (show w.heap.size ≤ w.heap.size + 1 by omega)
  clear h hC hk hb1 hb2 hbx hq
  unfold rpv
  go_enter Tryz.func74, Tryz.ntmps74
  go_upto_region 1 with fail
  show Code.wp _ _ _ _ ((w.alloc (.cells #[.int .i64 x.1.slot, .int .i64 x.1.gen, .int .i64 x.1.tag, .int .i64 x.1.num, .bool x.1.mark, .bool x.2] 63)).alloc (.cells (cac za).toArray 51))
  generalize ((w.alloc (.cells #[.int .i64 x.1.slot, .int .i64 x.1.gen, .int .i64 x.1.tag, .int .i64 x.1.num, .bool x.1.mark, .bool x.2] 63)).alloc (.cells (cac za).toArray 51)) = W at HR HX HO HQ ⊢
  obtain ⟨v, hv⟩ : ∃ v, v = w.heap.size := ⟨_, rfl⟩
  rw [← hv] at HX HQ HF ⊢
  have hX := HX.out
  have hzx := BlkW.lt hX
  have hrx : v ≠ b := fun e => BlkW.ne_ hX HR.out (by decide) e
  obtain ⟨b0, b1, b2, b3, b4, b5⟩ := rep6 hX
  have hz := BlkW.lt HR.out
  have hzq := BlkW.lt HQ.out
  have hqb : v + 1 ≠ b := fun e => BlkW.ne_ HQ.out HR.out (by decide) e
  have ck := HR.out.kind
  rw [HK.out] at ck
  clear hX HX
  have HV := Lib.hid hv
  clear hv
  have HCW := Lib.hid (HC.out W HR.out)
  unfold rpv at HCW
  go_wp2_with fail
  refine HCW.out.mono ?_
  rintro e w2 ⟨rfl, h1, h2⟩
  have HQ2 := Lib.hid (h2.out.blk HQ.out hqb)
  have H1 := Lib.hid h1.out
  have HO2 := Lib.hid (HO.out.trans h2.out)
  have hz2 := BlkW.lt H1.out
  clear h1 h2 HCW HC HR HQ HO b0 b1 b2 b3 b4 b5 ck hz hzq hzx
  have HRG := Lib.hid (H1.out.range 0 (cac j'.ca) (by kernel_rfl))
  generalize hG : Value.agg (cac j'.ca).toArray = G
  have HG := Lib.hid hG
  clear hG
  go_wp2_with (first
    | (refine wpList_load_mid rfl 51 (.tmp 26) rfl b 0 rfl (cac j'.ca) _ HRG.out Tryz.underlying51 rfl infoCl ?_; rw [HG.out])
    | (refine wp_store_ans H1.out HQ2.out HO2.out (HV.out ▸ HF.out) rfl (.tmp 4) (.tmp 27) rfl (by rfl) j'.ca HG.out.symm ?_; intro W3 k1 k2 k3; have K1 := Lib.hid k1; have K2 := Lib.hid k2; have K3 := Lib.hid k3; clear k1 k2 k3))
  exact bodyPost_ret (v := cav j'.ca) (results_cellc (q := v + 1) rfl _ (by rfl) (ans_load K2.out)) rfl ⟨rfl, K1, K3⟩
/-- What a job must be for a contract to speak of its next step. -/
def JOk (j : Jb) : Prop := (j.op.kind = 4 ∧ (j.done = 0 ∨ j.done = 1 ∨ j.done = 8 ∨ j.done = 2 ∨ j.done = 7 ∨ j.done = 3 ∨ j.done = 5 ∨ j.done = 6 ∨ j.done = 9 ∨ j.done = 13)) ∨ (j.op.kind = 5 ∧ (j.done = 11 ∨ j.done = 0 ∨ j.done = 7 ∨ j.done = 3 ∨ j.done = 4 ∨ j.done = 5 ∨ j.done = 6 ∨ j.done = 10 ∨ j.done = 12 ∨ j.done = 13))
theorem enq_is (h : JAt w b j) (x : Wd × Bool) (hd : j.done = 0 ∨ j.done = 1 ∨ j.done = 8 ∨ j.done = 2 ∨ j.done = 7 ∨ j.done = 3 ∨ j.done = 5 ∨ j.done = 6 ∨ j.done = 9 ∨ j.done = 13) :
    Calls Tryz.prog 102 #[.pointer (some ⟨b, 0, none⟩), rpv x] w (JLeaf w b (j.enq x)) := by
  rcases hd with hd | hd | hd | hd | hd | hd | hd | hd | hd | hd
  · rw [show j.enq x = j.ask cAlloc 1 by unfold Jb.enq; rw [if_pos hd]]
    exact enq_0 h x hd
  · cases hx : x.2 with
    | true =>
      rw [show j.enq x = (j.setNode x.1).ask (cStore (fld x.1 1) (nw j.op.val)) 2 by unfold Jb.enq; rw [if_neg (by rw [hd]; decide), if_pos hd, if_pos hx]]
      exact enq_given h x hd hx
    | false =>
      rw [show j.enq x = j.end_ 4 0 by unfold Jb.enq; rw [if_neg (by rw [hd]; decide), if_pos hd, if_neg (by rw [hx]; decide)]]
      exact enq_full h x hd hx
  · cases hx : x.2 with
    | true =>
      rw [show j.enq x = j.ask (cSwap (0, 0, 1) j.tail j.node) 9 by unfold Jb.enq; rw [if_neg (by rw [hd]; decide), if_neg (by rw [hd]; decide), if_pos hd, if_pos hx]]
      exact enq_linked h x hd hx
    | false =>
      rw [show j.enq x = j.lookT by unfold Jb.enq; rw [if_neg (by rw [hd]; decide), if_neg (by rw [hd]; decide), if_pos hd, if_neg (by rw [hx]; decide)]]
      exact enq_slow h x hd hx
  · rw [show j.enq x = j.lookT by unfold Jb.enq; rw [if_neg (by rw [hd]; decide), if_neg (by rw [hd]; decide), if_neg (by rw [hd]; decide), if_pos hd]]
    exact enq_2 h x hd
  · rw [show j.enq x = j.lookT by unfold Jb.enq; rw [if_neg (by rw [hd]; decide), if_neg (by rw [hd]; decide), if_neg (by rw [hd]; decide), if_neg (by rw [hd]; decide), if_pos hd]]
    exact enq_7 h x hd
  · rw [show j.enq x = (j.setTail x.1).ask (cLoad (fld x.1 2)) 5 by unfold Jb.enq; rw [if_neg (by rw [hd]; decide), if_neg (by rw [hd]; decide), if_neg (by rw [hd]; decide), if_neg (by rw [hd]; decide), if_neg (by rw [hd]; decide), if_pos hd]]
    exact enq_looked h x hd
  · rw [show j.enq x = (j.setNext x.1).ask (cLoad (0, 0, 1)) 6 by unfold Jb.enq; rw [if_neg (by rw [hd]; decide), if_neg (by rw [hd]; decide), if_neg (by rw [hd]; decide), if_neg (by rw [hd]; decide), if_neg (by rw [hd]; decide), if_neg (by rw [hd]; decide), if_pos hd]]
    exact enq_followed h x hd
  · rw [show j.enq x = j.link x.1 by unfold Jb.enq; rw [if_neg (by rw [hd]; decide), if_neg (by rw [hd]; decide), if_neg (by rw [hd]; decide), if_neg (by rw [hd]; decide), if_neg (by rw [hd]; decide), if_neg (by rw [hd]; decide), if_neg (by rw [hd]; decide), if_pos hd]]
    exact enq_checked h x hd
  · rw [show j.enq x = j.end_ 1 0 by unfold Jb.enq; rw [if_neg (by rw [hd]; decide), if_neg (by rw [hd]; decide), if_neg (by rw [hd]; decide), if_neg (by rw [hd]; decide), if_neg (by rw [hd]; decide), if_neg (by rw [hd]; decide), if_neg (by rw [hd]; decide), if_neg (by rw [hd]; decide), if_pos hd]]
    exact enq_brought h x hd
  · rw [show j.enq x = j by unfold Jb.enq; rw [if_neg (by rw [hd]; decide), if_neg (by rw [hd]; decide), if_neg (by rw [hd]; decide), if_neg (by rw [hd]; decide), if_neg (by rw [hd]; decide), if_neg (by rw [hd]; decide), if_neg (by rw [hd]; decide), if_neg (by rw [hd]; decide), if_neg (by rw [hd]; decide)]]
    exact enq_13 h x hd
theorem deq_is (h : JAt w b j) (x : Wd × Bool) (hd : j.done = 11 ∨ j.done = 0 ∨ j.done = 7 ∨ j.done = 3 ∨ j.done = 4 ∨ j.done = 5 ∨ j.done = 6 ∨ j.done = 10 ∨ j.done = 12 ∨ j.done = 13) :
    Calls Tryz.prog 103 #[.pointer (some ⟨b, 0, none⟩), rpv x] w (JLeaf w b (j.deq x)) := by
  rcases hd with hd | hd | hd | hd | hd | hd | hd | hd | hd | hd
  · cases hx : x.2 with
    | true =>
      rw [show j.deq x = j.ask (cRetire j.head) 12 by unfold Jb.deq; rw [if_pos hd, if_pos hx]]
      exact deq_swapped h x hd hx
    | false =>
      rw [show j.deq x = j.lookH by unfold Jb.deq; rw [if_pos hd, if_neg (by rw [hx]; decide)]]
      exact deq_slow h x hd hx
  · rw [show j.deq x = j.lookH by unfold Jb.deq; rw [if_neg (by rw [hd]; decide), if_pos hd]]
    exact deq_0 h x hd
  · rw [show j.deq x = j.lookH by unfold Jb.deq; rw [if_neg (by rw [hd]; decide), if_neg (by rw [hd]; decide), if_pos hd]]
    exact deq_7 h x hd
  · rw [show j.deq x = (j.setHead x.1).ask (cLoad (0, 0, 1)) 4 by unfold Jb.deq; rw [if_neg (by rw [hd]; decide), if_neg (by rw [hd]; decide), if_neg (by rw [hd]; decide), if_pos hd]]
    exact deq_looked h x hd
  · rw [show j.deq x = (j.setTail x.1).ask (cProtect (fld j.head 2) 1) 5 by unfold Jb.deq; rw [if_neg (by rw [hd]; decide), if_neg (by rw [hd]; decide), if_neg (by rw [hd]; decide), if_neg (by rw [hd]; decide), if_pos hd]]
    exact deq_sighted h x hd
  · rw [show j.deq x = (j.setNext x.1).ask (cLoad (0, 0, 0)) 6 by unfold Jb.deq; rw [if_neg (by rw [hd]; decide), if_neg (by rw [hd]; decide), if_neg (by rw [hd]; decide), if_neg (by rw [hd]; decide), if_neg (by rw [hd]; decide), if_pos hd]]
    exact deq_followed h x hd
  · rw [show j.deq x = j.take x.1 by unfold Jb.deq; rw [if_neg (by rw [hd]; decide), if_neg (by rw [hd]; decide), if_neg (by rw [hd]; decide), if_neg (by rw [hd]; decide), if_neg (by rw [hd]; decide), if_neg (by rw [hd]; decide), if_pos hd]]
    exact deq_checked h x hd
  · rw [show j.deq x = (j.setVal x.1.num).ask (cSwap (0, 0, 0) j.head j.next) 11 by unfold Jb.deq; rw [if_neg (by rw [hd]; decide), if_neg (by rw [hd]; decide), if_neg (by rw [hd]; decide), if_neg (by rw [hd]; decide), if_neg (by rw [hd]; decide), if_neg (by rw [hd]; decide), if_neg (by rw [hd]; decide), if_pos hd]]
    exact deq_read h x hd
  · rw [show j.deq x = j.end_ 1 j.val by unfold Jb.deq; rw [if_neg (by rw [hd]; decide), if_neg (by rw [hd]; decide), if_neg (by rw [hd]; decide), if_neg (by rw [hd]; decide), if_neg (by rw [hd]; decide), if_neg (by rw [hd]; decide), if_neg (by rw [hd]; decide), if_neg (by rw [hd]; decide), if_pos hd]]
    exact deq_over h x hd
  · rw [show j.deq x = j by unfold Jb.deq; rw [if_neg (by rw [hd]; decide), if_neg (by rw [hd]; decide), if_neg (by rw [hd]; decide), if_neg (by rw [hd]; decide), if_neg (by rw [hd]; decide), if_neg (by rw [hd]; decide), if_neg (by rw [hd]; decide), if_neg (by rw [hd]; decide), if_neg (by rw [hd]; decide)]]
    exact deq_13 h x hd
theorem jnext_is (h : JAt w b j) (x : Wd × Bool) (ok : JOk j) :
    Calls Tryz.prog 74 #[.pointer (some ⟨b, 0, none⟩), rpv x] w (JNext w b (j.go x)) := by
  rcases ok with ⟨hk, hd⟩ | ⟨hk, hd⟩
  · rw [show j.go x = j.enq x by unfold Jb.go; rw [if_pos hk]]
    exact jnext_enq h x hk fun W h' => enq_is h' x hd
  · rw [show j.go x = j.deq x by unfold Jb.go; rw [if_neg (by rw [hk]; decide), if_pos hk]]
    exact jnext_deq h x hk fun W h' => deq_is h' x hd
end
end Go.Proofs.YtihjklimcchkhaaGreatDoor.Co
