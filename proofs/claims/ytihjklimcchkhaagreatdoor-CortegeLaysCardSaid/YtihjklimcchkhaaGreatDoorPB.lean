/- pile: the steps of push, pop and peek. A template (made by gen_XPc.py). -/
/- pile: the steps that call glyph. A template (made by gen_XPd.py). -/
/- pile: the steps that call glyph. A template (made by gen_XPd.py). -/
/- pile: Next. A template (made by gen_XPf.py). -/
import Derived.Test.YtihjklimcchkhaaGreatDoorPA
import Derived.Test.YtihjklimcchkhaaGreatDoorRB
namespace Go.Proofs.YtihjklimcchkhaaGreatDoor
open Go.RowKit Go.Extern.Stop Go.Stop Go.Extern Go.Sort
section
variable {w w' : World} {b : Nat} {j j' : Jb}
theorem JAt.drew (h : JAt w b j) : JAt w.drew b j := h.below (Below.refl _ _).drew
theorem proot_is (w : World) : Calls Tryz.prog 71 #[] w fun e w' => e = .returned (.agg #[.int .i64 0, .int .i64 0, .int .i64 0]) ∧ Below w.heap.size w w' := proot_any w
set_option maxRecDepth 100000 in
set_option maxHeartbeats 1000000 in
theorem pop_begun (h : JAt w b j) (x : Wd × Bool) (hd : j.done = 0) :
    Calls Tryz.prog 99 #[.pointer (some ⟨b, 0, none⟩), rpv x] w (JLeaf w b (j.protectTop)) := by
  have h1 := h.below (below_alloc (Below.refl _ _) (.cells #[.int .i64 x.1.slot, .int .i64 x.1.gen, .int .i64 x.1.tag, .int .i64 x.1.num, .bool x.1.mark, .bool x.2] 63))
  have HX := Lib.hid (box_rep w x)
  have HO := Lib.hid (Only.of_below (r := b) (below_alloc (Below.refl w.heap.size w) (.cells #[.int .i64 x.1.slot, .int .i64 x.1.gen, .int .i64 x.1.tag, .int .i64 x.1.num, .bool x.1.mark, .bool x.2] 63)))
  have HR := Lib.hid h1
  clear h h1
  unfold rpv
  go_enter Tryz.func99, Tryz.ntmps99
  go_upto_region 1 with fail
  generalize w.alloc (.cells #[.int .i64 x.1.slot, .int .i64 x.1.gen, .int .i64 x.1.tag, .int .i64 x.1.num, .bool x.1.mark, .bool x.2] 63) = W at HR HX HO ⊢
  have hX := HX.out
  have hzx := BlkW.lt hX
  have hrx : w.heap.size ≠ b := fun e => BlkW.ne_ hX HR.out (by decide) e
  obtain ⟨b0, b1, b2, b3, b4, b5⟩ := rep6 hX
  have hz := BlkW.lt HR.out
  have cd := HR.out.done
  clear hX HX
  generalize w.heap.size = g at hzx hrx b0 b1 b2 b3 b4 b5 ⊢
  rw [hd] at cd
  clear hd
  go_wp2_with fail
  refine (jprotect_any HR.out).mono ?_
  rintro e w2 ⟨rfl, h1, h2⟩
  go_wp2
  first
    | go_end0
    | refine bodyPost_ret (results_none rfl _ _ _) rfl ?_
  exact ⟨rfl, h1, Lib.hid (HO.out.trans h2.out)⟩
set_option maxRecDepth 100000 in
set_option maxHeartbeats 1000000 in
theorem peek_begun (h : JAt w b j) (x : Wd × Bool) (hd : j.done = 0) :
    Calls Tryz.prog 100 #[.pointer (some ⟨b, 0, none⟩), rpv x] w (JLeaf w b (j.protectTop)) := by
  have h1 := h.below (below_alloc (Below.refl _ _) (.cells #[.int .i64 x.1.slot, .int .i64 x.1.gen, .int .i64 x.1.tag, .int .i64 x.1.num, .bool x.1.mark, .bool x.2] 63))
  have HX := Lib.hid (box_rep w x)
  have HO := Lib.hid (Only.of_below (r := b) (below_alloc (Below.refl w.heap.size w) (.cells #[.int .i64 x.1.slot, .int .i64 x.1.gen, .int .i64 x.1.tag, .int .i64 x.1.num, .bool x.1.mark, .bool x.2] 63)))
  have HR := Lib.hid h1
  clear h h1
  unfold rpv
  go_enter Tryz.func100, Tryz.ntmps100
  go_upto_region 1 with fail
  generalize w.alloc (.cells #[.int .i64 x.1.slot, .int .i64 x.1.gen, .int .i64 x.1.tag, .int .i64 x.1.num, .bool x.1.mark, .bool x.2] 63) = W at HR HX HO ⊢
  have hX := HX.out
  have hzx := BlkW.lt hX
  have hrx : w.heap.size ≠ b := fun e => BlkW.ne_ hX HR.out (by decide) e
  obtain ⟨b0, b1, b2, b3, b4, b5⟩ := rep6 hX
  have hz := BlkW.lt HR.out
  have cd := HR.out.done
  clear hX HX
  generalize w.heap.size = g at hzx hrx b0 b1 b2 b3 b4 b5 ⊢
  rw [hd] at cd
  clear hd
  go_wp2_with fail
  refine (jprotect_any HR.out).mono ?_
  rintro e w2 ⟨rfl, h1, h2⟩
  go_wp2
  first
    | go_end0
    | refine bodyPost_ret (results_none rfl _ _ _) rfl ?_
  exact ⟨rfl, h1, Lib.hid (HO.out.trans h2.out)⟩
set_option maxRecDepth 100000 in
set_option maxHeartbeats 1000000 in
theorem pop_slow (h : JAt w b j) (x : Wd × Bool) (hd : j.done = 6) (hx : x.2 = false) :
    Calls Tryz.prog 99 #[.pointer (some ⟨b, 0, none⟩), rpv x] w (JLeaf w b (j.protectTop)) := by
  have HXX := Lib.hid hx
  clear hx
  have h1 := h.below (below_alloc (Below.refl _ _) (.cells #[.int .i64 x.1.slot, .int .i64 x.1.gen, .int .i64 x.1.tag, .int .i64 x.1.num, .bool x.1.mark, .bool x.2] 63))
  have HX := Lib.hid (box_rep w x)
  have HO := Lib.hid (Only.of_below (r := b) (below_alloc (Below.refl w.heap.size w) (.cells #[.int .i64 x.1.slot, .int .i64 x.1.gen, .int .i64 x.1.tag, .int .i64 x.1.num, .bool x.1.mark, .bool x.2] 63)))
  have HR := Lib.hid h1
  clear h h1
  unfold rpv
  go_enter Tryz.func99, Tryz.ntmps99
  go_upto_region 1 with fail
  generalize w.alloc (.cells #[.int .i64 x.1.slot, .int .i64 x.1.gen, .int .i64 x.1.tag, .int .i64 x.1.num, .bool x.1.mark, .bool x.2] 63) = W at HR HX HO ⊢
  have hX := HX.out
  have hzx := BlkW.lt hX
  have hrx : w.heap.size ≠ b := fun e => BlkW.ne_ hX HR.out (by decide) e
  obtain ⟨b0, b1, b2, b3, b4, b5⟩ := rep6 hX
  have hz := BlkW.lt HR.out
  have cd := HR.out.done
  clear hX HX
  generalize w.heap.size = g at hzx hrx b0 b1 b2 b3 b4 b5 ⊢
  rw [hd] at cd
  clear hd
  rw [HXX.out] at b5
  go_wp2_with fail
  refine (jprotect_any HR.out).mono ?_
  rintro e w2 ⟨rfl, h1, h2⟩
  go_wp2
  first
    | go_end0
    | refine bodyPost_ret (results_none rfl _ _ _) rfl ?_
  exact ⟨rfl, h1, Lib.hid (HO.out.trans h2.out)⟩
set_option maxRecDepth 100000 in
set_option maxHeartbeats 1000000 in
theorem pop_over (h : JAt w b j) (x : Wd × Bool) (hd : j.done = 8) :
    Calls Tryz.prog 99 #[.pointer (some ⟨b, 0, none⟩), rpv x] w (JLeaf w b (j.end_ 1 j.val)) := by
  have h1 := h.below (below_alloc (Below.refl _ _) (.cells #[.int .i64 x.1.slot, .int .i64 x.1.gen, .int .i64 x.1.tag, .int .i64 x.1.num, .bool x.1.mark, .bool x.2] 63))
  have HX := Lib.hid (box_rep w x)
  have HO := Lib.hid (Only.of_below (r := b) (below_alloc (Below.refl w.heap.size w) (.cells #[.int .i64 x.1.slot, .int .i64 x.1.gen, .int .i64 x.1.tag, .int .i64 x.1.num, .bool x.1.mark, .bool x.2] 63)))
  have HR := Lib.hid h1
  clear h h1
  unfold rpv
  go_enter Tryz.func99, Tryz.ntmps99
  go_upto_region 1 with fail
  generalize w.alloc (.cells #[.int .i64 x.1.slot, .int .i64 x.1.gen, .int .i64 x.1.tag, .int .i64 x.1.num, .bool x.1.mark, .bool x.2] 63) = W at HR HX HO ⊢
  have hX := HX.out
  have hzx := BlkW.lt hX
  have hrx : w.heap.size ≠ b := fun e => BlkW.ne_ hX HR.out (by decide) e
  obtain ⟨b0, b1, b2, b3, b4, b5⟩ := rep6 hX
  have hz := BlkW.lt HR.out
  have cd := HR.out.done
  clear hX HX
  generalize w.heap.size = g at hzx hrx b0 b1 b2 b3 b4 b5 ⊢
  rw [hd] at cd
  clear hd
  have cv := HR.out.val
  have HA := Lib.hid (jend_any HR.out.drew 1 j.val)
  go_upto_region 18 with fail
  go_region_with (first | (go_at_call 132; refine HA.out.mono ?_; rintro e w3 ⟨rfl, h1, h2⟩))
  all_goals
    go_wp2
    first
      | go_end0
      | refine bodyPost_ret (results_none rfl _ _ _) rfl ?_
    exact ⟨rfl, h1, Lib.hid ((HO.out.trans Only.drew).trans h2.out)⟩
set_option maxRecDepth 100000 in
set_option maxHeartbeats 1000000 in
theorem peek_over (h : JAt w b j) (x : Wd × Bool) (hd : j.done = 7) :
    Calls Tryz.prog 100 #[.pointer (some ⟨b, 0, none⟩), rpv x] w (JLeaf w b (j.end_ 1 x.1.num)) := by
  have h1 := h.below (below_alloc (Below.refl _ _) (.cells #[.int .i64 x.1.slot, .int .i64 x.1.gen, .int .i64 x.1.tag, .int .i64 x.1.num, .bool x.1.mark, .bool x.2] 63))
  have HX := Lib.hid (box_rep w x)
  have HO := Lib.hid (Only.of_below (r := b) (below_alloc (Below.refl w.heap.size w) (.cells #[.int .i64 x.1.slot, .int .i64 x.1.gen, .int .i64 x.1.tag, .int .i64 x.1.num, .bool x.1.mark, .bool x.2] 63)))
  have HR := Lib.hid h1
  clear h h1
  unfold rpv
  go_enter Tryz.func100, Tryz.ntmps100
  go_upto_region 1 with fail
  generalize w.alloc (.cells #[.int .i64 x.1.slot, .int .i64 x.1.gen, .int .i64 x.1.tag, .int .i64 x.1.num, .bool x.1.mark, .bool x.2] 63) = W at HR HX HO ⊢
  have hX := HX.out
  have hzx := BlkW.lt hX
  have hrx : w.heap.size ≠ b := fun e => BlkW.ne_ hX HR.out (by decide) e
  obtain ⟨b0, b1, b2, b3, b4, b5⟩ := rep6 hX
  have hz := BlkW.lt HR.out
  have cd := HR.out.done
  clear hX HX
  generalize w.heap.size = g at hzx hrx b0 b1 b2 b3 b4 b5 ⊢
  rw [hd] at cd
  clear hd
  have HA := Lib.hid (jend_any HR.out.drew 1 x.1.num)
  go_upto_region 9 with fail
  go_region_with (first | (go_at_call 132; refine HA.out.mono ?_; rintro e w3 ⟨rfl, h1, h2⟩))
  all_goals
    go_wp2
    first
      | go_end0
      | refine bodyPost_ret (results_none rfl _ _ _) rfl ?_
    exact ⟨rfl, h1, Lib.hid ((HO.out.trans Only.drew).trans h2.out)⟩
set_option maxRecDepth 100000 in
set_option maxHeartbeats 1000000 in
theorem push_begun (h : JAt w b j) (x : Wd × Bool) (hd : j.done = 0) :
    Calls Tryz.prog 98 #[.pointer (some ⟨b, 0, none⟩), rpv x] w (JLeaf w b (j.ask { zc with kind := 8 } 1)) := by
  have h1 := h.below (below_alloc (Below.refl _ _) (.cells #[.int .i64 x.1.slot, .int .i64 x.1.gen, .int .i64 x.1.tag, .int .i64 x.1.num, .bool x.1.mark, .bool x.2] 63))
  have HX := Lib.hid (box_rep w x)
  have HO := Lib.hid (Only.of_below (r := b) (below_alloc (Below.refl w.heap.size w) (.cells #[.int .i64 x.1.slot, .int .i64 x.1.gen, .int .i64 x.1.tag, .int .i64 x.1.num, .bool x.1.mark, .bool x.2] 63)))
  have HR := Lib.hid h1
  clear h h1
  unfold rpv
  go_enter Tryz.func98, Tryz.ntmps98
  go_upto_region 1 with fail
  generalize w.alloc (.cells #[.int .i64 x.1.slot, .int .i64 x.1.gen, .int .i64 x.1.tag, .int .i64 x.1.num, .bool x.1.mark, .bool x.2] 63) = W at HR HX HO ⊢
  have hX := HX.out
  have hzx := BlkW.lt hX
  have hrx : w.heap.size ≠ b := fun e => BlkW.ne_ hX HR.out (by decide) e
  obtain ⟨b0, b1, b2, b3, b4, b5⟩ := rep6 hX
  have hz := BlkW.lt HR.out
  have cd := HR.out.done
  clear hX HX
  generalize w.heap.size = g at hzx hrx b0 b1 b2 b3 b4 b5 ⊢
  rw [hd] at cd
  clear hd
  go_wp2_with fail
  refine (jask_any HR.out { zc with kind := 8 } 0 0 1).mono ?_
  rintro e w2 ⟨rfl, h1, h2⟩
  go_wp2
  first
    | go_end0
    | refine bodyPost_ret (results_none rfl _ _ _) rfl ?_
  exact ⟨rfl, h1, Lib.hid (HO.out.trans h2.out)⟩
set_option maxRecDepth 100000 in
set_option maxHeartbeats 1000000 in
theorem push_full (h : JAt w b j) (x : Wd × Bool) (hd : j.done = 1) (hx : x.2 = false) :
    Calls Tryz.prog 98 #[.pointer (some ⟨b, 0, none⟩), rpv x] w (JLeaf w b (j.end_ 4 0)) := by
  have HXX := Lib.hid hx
  clear hx
  have h1 := h.below (below_alloc (Below.refl _ _) (.cells #[.int .i64 x.1.slot, .int .i64 x.1.gen, .int .i64 x.1.tag, .int .i64 x.1.num, .bool x.1.mark, .bool x.2] 63))
  have HX := Lib.hid (box_rep w x)
  have HO := Lib.hid (Only.of_below (r := b) (below_alloc (Below.refl w.heap.size w) (.cells #[.int .i64 x.1.slot, .int .i64 x.1.gen, .int .i64 x.1.tag, .int .i64 x.1.num, .bool x.1.mark, .bool x.2] 63)))
  have HR := Lib.hid h1
  clear h h1
  unfold rpv
  go_enter Tryz.func98, Tryz.ntmps98
  go_upto_region 1 with fail
  generalize w.alloc (.cells #[.int .i64 x.1.slot, .int .i64 x.1.gen, .int .i64 x.1.tag, .int .i64 x.1.num, .bool x.1.mark, .bool x.2] 63) = W at HR HX HO ⊢
  have hX := HX.out
  have hzx := BlkW.lt hX
  have hrx : w.heap.size ≠ b := fun e => BlkW.ne_ hX HR.out (by decide) e
  obtain ⟨b0, b1, b2, b3, b4, b5⟩ := rep6 hX
  have hz := BlkW.lt HR.out
  have cd := HR.out.done
  clear hX HX
  generalize w.heap.size = g at hzx hrx b0 b1 b2 b3 b4 b5 ⊢
  rw [hd] at cd
  clear hd
  rw [HXX.out] at b5
  go_wp2_with fail
  refine (jend_any HR.out 4 0).mono ?_
  rintro e w2 ⟨rfl, h1, h2⟩
  go_wp2
  first
    | go_end0
    | refine bodyPost_ret (results_none rfl _ _ _) rfl ?_
  exact ⟨rfl, h1, Lib.hid (HO.out.trans h2.out)⟩
set_option maxRecDepth 100000 in
set_option maxHeartbeats 1000000 in
theorem push_done (h : JAt w b j) (x : Wd × Bool) (hd : j.done = 6) (hx : x.2 = true) :
    Calls Tryz.prog 98 #[.pointer (some ⟨b, 0, none⟩), rpv x] w (JLeaf w b (j.end_ 1 0)) := by
  have HXX := Lib.hid hx
  clear hx
  have h1 := h.below (below_alloc (Below.refl _ _) (.cells #[.int .i64 x.1.slot, .int .i64 x.1.gen, .int .i64 x.1.tag, .int .i64 x.1.num, .bool x.1.mark, .bool x.2] 63))
  have HX := Lib.hid (box_rep w x)
  have HO := Lib.hid (Only.of_below (r := b) (below_alloc (Below.refl w.heap.size w) (.cells #[.int .i64 x.1.slot, .int .i64 x.1.gen, .int .i64 x.1.tag, .int .i64 x.1.num, .bool x.1.mark, .bool x.2] 63)))
  have HR := Lib.hid h1
  clear h h1
  unfold rpv
  go_enter Tryz.func98, Tryz.ntmps98
  go_upto_region 1 with fail
  generalize w.alloc (.cells #[.int .i64 x.1.slot, .int .i64 x.1.gen, .int .i64 x.1.tag, .int .i64 x.1.num, .bool x.1.mark, .bool x.2] 63) = W at HR HX HO ⊢
  have hX := HX.out
  have hzx := BlkW.lt hX
  have hrx : w.heap.size ≠ b := fun e => BlkW.ne_ hX HR.out (by decide) e
  obtain ⟨b0, b1, b2, b3, b4, b5⟩ := rep6 hX
  have hz := BlkW.lt HR.out
  have cd := HR.out.done
  clear hX HX
  generalize w.heap.size = g at hzx hrx b0 b1 b2 b3 b4 b5 ⊢
  rw [hd] at cd
  clear hd
  rw [HXX.out] at b5
  go_wp2_with fail
  refine (jend_any HR.out 1 0).mono ?_
  rintro e w2 ⟨rfl, h1, h2⟩
  go_wp2
  first
    | go_end0
    | refine bodyPost_ret (results_none rfl _ _ _) rfl ?_
  exact ⟨rfl, h1, Lib.hid (HO.out.trans h2.out)⟩
set_option maxRecDepth 100000 in
set_option maxHeartbeats 1000000 in
theorem push_slow (h : JAt w b j) (x : Wd × Bool) (hd : j.done = 6) (hx : x.2 = false) :
    Calls Tryz.prog 98 #[.pointer (some ⟨b, 0, none⟩), rpv x] w (JLeaf w b (j.load (0, 0, 0) 3)) := by
  have HXX := Lib.hid hx
  clear hx
  have h1 := h.below (below_alloc (Below.refl _ _) (.cells #[.int .i64 x.1.slot, .int .i64 x.1.gen, .int .i64 x.1.tag, .int .i64 x.1.num, .bool x.1.mark, .bool x.2] 63))
  have HX := Lib.hid (box_rep w x)
  have HO := Lib.hid (Only.of_below (r := b) (below_alloc (Below.refl w.heap.size w) (.cells #[.int .i64 x.1.slot, .int .i64 x.1.gen, .int .i64 x.1.tag, .int .i64 x.1.num, .bool x.1.mark, .bool x.2] 63)))
  have HR := Lib.hid h1
  clear h h1
  unfold rpv
  go_enter Tryz.func98, Tryz.ntmps98
  go_upto_region 1 with fail
  generalize w.alloc (.cells #[.int .i64 x.1.slot, .int .i64 x.1.gen, .int .i64 x.1.tag, .int .i64 x.1.num, .bool x.1.mark, .bool x.2] 63) = W at HR HX HO ⊢
  have hX := HX.out
  have hzx := BlkW.lt hX
  have hrx : w.heap.size ≠ b := fun e => BlkW.ne_ hX HR.out (by decide) e
  obtain ⟨b0, b1, b2, b3, b4, b5⟩ := rep6 hX
  have hz := BlkW.lt HR.out
  have cd := HR.out.done
  clear hX HX
  generalize w.heap.size = g at hzx hrx b0 b1 b2 b3 b4 b5 ⊢
  rw [hd] at cd
  clear hd
  rw [HXX.out] at b5
  have HD := Lib.hid HR.out.drew
  go_upto_region 15 with fail
  go_region_held3 (fun w' => True)
    (first | trivial | go_keep)
    (first
    | (go_at_call 71; refine (proot_is _).mono ?_; rintro e w2 ⟨rfl, hb⟩; have HA := Lib.hid (jload_any (HD.out.below hb) (0, 0, 0) 3))
    | (go_at_call 134; refine HA.out.mono ?_; rintro e w3 ⟨rfl, h1, h2⟩))
  all_goals
    go_wp2
    first
      | go_end0
      | refine bodyPost_ret (results_none rfl _ _ _) rfl ?_
    exact ⟨rfl, h1, Lib.hid (((HO.out.trans Only.drew).trans (Only.of_below hb)).trans h2.out)⟩
set_option maxRecDepth 100000 in
set_option maxHeartbeats 1000000 in
theorem push_filled (h : JAt w b j) (x : Wd × Bool) (hd : j.done = 2) :
    Calls Tryz.prog 98 #[.pointer (some ⟨b, 0, none⟩), rpv x] w (JLeaf w b (j.load (0, 0, 0) 3)) := by
  have h1 := h.below (below_alloc (Below.refl _ _) (.cells #[.int .i64 x.1.slot, .int .i64 x.1.gen, .int .i64 x.1.tag, .int .i64 x.1.num, .bool x.1.mark, .bool x.2] 63))
  have HX := Lib.hid (box_rep w x)
  have HO := Lib.hid (Only.of_below (r := b) (below_alloc (Below.refl w.heap.size w) (.cells #[.int .i64 x.1.slot, .int .i64 x.1.gen, .int .i64 x.1.tag, .int .i64 x.1.num, .bool x.1.mark, .bool x.2] 63)))
  have HR := Lib.hid h1
  clear h h1
  unfold rpv
  go_enter Tryz.func98, Tryz.ntmps98
  go_upto_region 1 with fail
  generalize w.alloc (.cells #[.int .i64 x.1.slot, .int .i64 x.1.gen, .int .i64 x.1.tag, .int .i64 x.1.num, .bool x.1.mark, .bool x.2] 63) = W at HR HX HO ⊢
  have hX := HX.out
  have hzx := BlkW.lt hX
  have hrx : w.heap.size ≠ b := fun e => BlkW.ne_ hX HR.out (by decide) e
  obtain ⟨b0, b1, b2, b3, b4, b5⟩ := rep6 hX
  have hz := BlkW.lt HR.out
  have cd := HR.out.done
  clear hX HX
  generalize w.heap.size = g at hzx hrx b0 b1 b2 b3 b4 b5 ⊢
  rw [hd] at cd
  clear hd
  have HD := Lib.hid HR.out.drew
  go_upto_region 15 with fail
  go_region_held3 (fun w' => True)
    (first | trivial | go_keep)
    (first
    | (go_at_call 71; refine (proot_is _).mono ?_; rintro e w2 ⟨rfl, hb⟩; have HA := Lib.hid (jload_any (HD.out.below hb) (0, 0, 0) 3))
    | (go_at_call 134; refine HA.out.mono ?_; rintro e w3 ⟨rfl, h1, h2⟩))
  all_goals
    go_wp2
    first
      | go_end0
      | refine bodyPost_ret (results_none rfl _ _ _) rfl ?_
    exact ⟨rfl, h1, Lib.hid (((HO.out.trans Only.drew).trans (Only.of_below hb)).trans h2.out)⟩
end
end Go.Proofs.YtihjklimcchkhaaGreatDoor

namespace Go.Proofs.YtihjklimcchkhaaGreatDoor
open Go.RowKit Go.Extern.Stop Go.Stop Go.Extern Go.Sort
theorem Field_at (s g t n : Int) (m : Bool) (f : Int) (w : World) :
    Calls Tryz.prog 72 #[.agg #[.int .i64 s, .int .i64 g, .int .i64 t, .int .i64 n, .bool m], .int .i64 f] w fun e w' => e = .returned (.agg #[.int .i64 s, .int .i64 g, .int .i64 f]) ∧ Below w.heap.size w w' := by
  go_enter Tryz.func72, Tryz.ntmps72
  go_wp2
  exact bodyPost_ret (v := .agg #[.int .i64 s, .int .i64 g, .int .i64 f]) (by simp [results, Tryz.results72, go_sem]) rfl ⟨rfl, below_alloc (below_alloc (Below.refl _ _) _) _⟩
theorem To_is (s g t n : Int) (m : Bool) (s' g' t' n' : Int) (m' : Bool) (q : Int) (hq : wrap64 (t + 1) = q) (w : World) :
    Calls Tryz.prog 82 #[.agg #[.int .i64 s, .int .i64 g, .int .i64 t, .int .i64 n, .bool m], .agg #[.int .i64 s', .int .i64 g', .int .i64 t', .int .i64 n', .bool m']] w fun e w' => e = .returned (.agg #[.int .i64 s', .int .i64 g', .int .i64 q, .int .i64 0, .bool false]) ∧ Below w.heap.size w w' := hq ▸ To_any s g t n m s' g' t' n' m' w
theorem Nil_is (s g t n : Int) (m q : Bool) (hq : (s == 0) = q) (w : World) : Calls Tryz.prog 21 #[.agg #[.int .i64 s, .int .i64 g, .int .i64 t, .int .i64 n, .bool m]] w fun e w' => e = .returned (.bool q) ∧ Below w.heap.size w w' := hq ▸ Nil_any s g t n m w
section
variable {w w' : World} {b : Nat} {j j' : Jb}
set_option maxRecDepth 100000 in
set_option maxHeartbeats 1000000 in
theorem pop_nil (h : JAt w b j) (x : Wd × Bool) (hd : j.done = 3) (hx : x.1.slot = 0) :
    Calls Tryz.prog 99 #[.pointer (some ⟨b, 0, none⟩), rpv x] w (JLeaf w b ((j.setTop x.1).end_ 2 0)) := by
  have HXX := Lib.hid hx
  clear hx
  have h1 := h.below (below_alloc (Below.refl _ _) (.cells #[.int .i64 x.1.slot, .int .i64 x.1.gen, .int .i64 x.1.tag, .int .i64 x.1.num, .bool x.1.mark, .bool x.2] 63))
  have HX := Lib.hid (box_rep w x)
  have HO := Lib.hid (Only.of_below (r := b) (below_alloc (Below.refl w.heap.size w) (.cells #[.int .i64 x.1.slot, .int .i64 x.1.gen, .int .i64 x.1.tag, .int .i64 x.1.num, .bool x.1.mark, .bool x.2] 63)))
  have HR := Lib.hid h1
  clear h h1
  unfold rpv
  go_enter Tryz.func99, Tryz.ntmps99
  go_upto_region 1 with fail
  generalize w.alloc (.cells #[.int .i64 x.1.slot, .int .i64 x.1.gen, .int .i64 x.1.tag, .int .i64 x.1.num, .bool x.1.mark, .bool x.2] 63) = W at HR HX HO ⊢
  have hX := HX.out
  have hzx := BlkW.lt hX
  have hrx : w.heap.size ≠ b := fun e => BlkW.ne_ hX HR.out (by decide) e
  obtain ⟨b0, b1, b2, b3, b4, b5⟩ := rep6 hX
  have hz := BlkW.lt HR.out
  have cd := HR.out.done
  clear hX HX
  generalize w.heap.size = g at hzx hrx b0 b1 b2 b3 b4 b5 ⊢
  rw [hd] at cd
  obtain ⟨t0, t1, t2, t3, t4⟩ := HR.out.top5
  clear hd
  have fz : ∀ o, W.frozen? ⟨b, o, none⟩ = false := HR.out.frozen
  have HQ := Lib.hid (show (x.1.slot == 0) = true by have := HXX.out; simpa using this)
  go_wp2_with fail
  have RS := Lib.hid (HR.out.setTop x.1)
  have OS := Lib.hid (Only.sets (r := b) (w := W) 24 (wc x.1))
  show Calls _ _ _ (W.setCells b 24 (wc x.1)) _
  clear t0 t1 t2 t3 t4 fz b0 b1 b2 b3 b4 b5 cd HR hz hzx
  generalize W.setCells b 24 (wc x.1) = W2 at RS OS ⊢
  refine (Nil_is _ _ _ _ _ _ HQ.out _).mono ?_
  rintro e w1 ⟨rfl, hb1⟩
  have RN := Lib.hid (RS.out.below hb1)
  have ON := Lib.hid ((HO.out.trans OS.out).trans (Only.of_below hb1))
  clear hb1 RS OS
  have hz := BlkW.lt RN.out
  obtain ⟨t0, t1, t2, t3, t4⟩ : w1.cell? ⟨b, 24, none⟩ = some (.int .i64 x.1.slot) ∧ w1.cell? ⟨b, 25, none⟩ = some (.int .i64 x.1.gen) ∧ w1.cell? ⟨b, 26, none⟩ = some (.int .i64 x.1.tag) ∧ w1.cell? ⟨b, 27, none⟩ = some (.int .i64 x.1.num) ∧ w1.cell? ⟨b, 28, none⟩ = some (.bool x.1.mark) := RN.out.top5
  go_wp2_with fail
  refine (jend_any RN.out 2 0).mono ?_
  rintro e w2 ⟨rfl, h1, h2⟩
  go_wp2
  first
    | go_end0
    | refine bodyPost_ret (results_none rfl _ _ _) rfl ?_
  exact ⟨rfl, h1, Lib.hid (ON.out.trans h2.out)⟩
set_option maxRecDepth 100000 in
set_option maxHeartbeats 1000000 in
theorem pop_looked (h : JAt w b j) (x : Wd × Bool) (hd : j.done = 3) (hx : ¬ x.1.slot = 0) :
    Calls Tryz.prog 99 #[.pointer (some ⟨b, 0, none⟩), rpv x] w (JLeaf w b ((j.setTop x.1).load (x.1.slot, x.1.gen, 2) 5)) := by
  have HXX := Lib.hid hx
  clear hx
  have h1 := h.below (below_alloc (Below.refl _ _) (.cells #[.int .i64 x.1.slot, .int .i64 x.1.gen, .int .i64 x.1.tag, .int .i64 x.1.num, .bool x.1.mark, .bool x.2] 63))
  have HX := Lib.hid (box_rep w x)
  have HO := Lib.hid (Only.of_below (r := b) (below_alloc (Below.refl w.heap.size w) (.cells #[.int .i64 x.1.slot, .int .i64 x.1.gen, .int .i64 x.1.tag, .int .i64 x.1.num, .bool x.1.mark, .bool x.2] 63)))
  have HR := Lib.hid h1
  clear h h1
  unfold rpv
  go_enter Tryz.func99, Tryz.ntmps99
  go_upto_region 1 with fail
  generalize w.alloc (.cells #[.int .i64 x.1.slot, .int .i64 x.1.gen, .int .i64 x.1.tag, .int .i64 x.1.num, .bool x.1.mark, .bool x.2] 63) = W at HR HX HO ⊢
  have hX := HX.out
  have hzx := BlkW.lt hX
  have hrx : w.heap.size ≠ b := fun e => BlkW.ne_ hX HR.out (by decide) e
  obtain ⟨b0, b1, b2, b3, b4, b5⟩ := rep6 hX
  have hz := BlkW.lt HR.out
  have cd := HR.out.done
  clear hX HX
  generalize w.heap.size = g at hzx hrx b0 b1 b2 b3 b4 b5 ⊢
  rw [hd] at cd
  obtain ⟨t0, t1, t2, t3, t4⟩ := HR.out.top5
  clear hd
  have fz : ∀ o, W.frozen? ⟨b, o, none⟩ = false := HR.out.frozen
  have HQ := Lib.hid (show (x.1.slot == 0) = false by have := HXX.out; simpa using this)
  go_wp2_with fail
  have RS := Lib.hid (HR.out.setTop x.1)
  have OS := Lib.hid (Only.sets (r := b) (w := W) 24 (wc x.1))
  show Calls _ _ _ (W.setCells b 24 (wc x.1)) _
  clear t0 t1 t2 t3 t4 fz b0 b1 b2 b3 b4 b5 cd HR hz hzx
  generalize W.setCells b 24 (wc x.1) = W2 at RS OS ⊢
  refine (Nil_is _ _ _ _ _ _ HQ.out _).mono ?_
  rintro e w1 ⟨rfl, hb1⟩
  have RN := Lib.hid (RS.out.below hb1)
  have ON := Lib.hid ((HO.out.trans OS.out).trans (Only.of_below hb1))
  clear hb1 RS OS
  have hz := BlkW.lt RN.out
  obtain ⟨t0, t1, t2, t3, t4⟩ : w1.cell? ⟨b, 24, none⟩ = some (.int .i64 x.1.slot) ∧ w1.cell? ⟨b, 25, none⟩ = some (.int .i64 x.1.gen) ∧ w1.cell? ⟨b, 26, none⟩ = some (.int .i64 x.1.tag) ∧ w1.cell? ⟨b, 27, none⟩ = some (.int .i64 x.1.num) ∧ w1.cell? ⟨b, 28, none⟩ = some (.bool x.1.mark) := RN.out.top5
  have HD := Lib.hid RN.out.drew
  go_upto_region 11 with fail
  go_region_held3 (fun w' => w'.cell? ⟨b, 24, none⟩ = some (.int .i64 x.1.slot) ∧ w'.cell? ⟨b, 25, none⟩ = some (.int .i64 x.1.gen) ∧ w'.cell? ⟨b, 26, none⟩ = some (.int .i64 x.1.tag) ∧ w'.cell? ⟨b, 27, none⟩ = some (.int .i64 x.1.num) ∧ w'.cell? ⟨b, 28, none⟩ = some (.bool x.1.mark))
    (first | go_keep | exact JAt.top5 (j := j.setTop x.1) (HD.out.below hb) | exact JAt.top5 (j := (j.setTop x.1).load (x.1.slot, x.1.gen, 2) 5) h1.out)
    (first
    | (go_at_call 72; refine (Field_at _ _ _ _ _ _ _).mono ?_; rintro e w2 ⟨rfl, hb⟩; have HA := Lib.hid (jload_any (HD.out.below hb) (x.1.slot, x.1.gen, 2) 5))
    | (go_at_call 134; refine HA.out.mono ?_; rintro e w3 ⟨rfl, h1, h2⟩))
  all_goals
    go_wp2
    first
      | go_end0
      | refine bodyPost_ret (results_none rfl _ _ _) rfl ?_
    exact ⟨rfl, h1, Lib.hid ((((ON.out).trans Only.drew).trans (Only.of_below hb)).trans h2.out)⟩
set_option maxRecDepth 100000 in
set_option maxHeartbeats 1000000 in
theorem pop_quick (h : JAt w b j) (x : Wd × Bool) (hd : j.done = 6) (hx : x.2 = true) :
    Calls Tryz.prog 99 #[.pointer (some ⟨b, 0, none⟩), rpv x] w (JLeaf w b (j.load (j.top.slot, j.top.gen, 1) 7)) := by
  have HXX := Lib.hid hx
  clear hx
  have h1 := h.below (below_alloc (Below.refl _ _) (.cells #[.int .i64 x.1.slot, .int .i64 x.1.gen, .int .i64 x.1.tag, .int .i64 x.1.num, .bool x.1.mark, .bool x.2] 63))
  have HX := Lib.hid (box_rep w x)
  have HO := Lib.hid (Only.of_below (r := b) (below_alloc (Below.refl w.heap.size w) (.cells #[.int .i64 x.1.slot, .int .i64 x.1.gen, .int .i64 x.1.tag, .int .i64 x.1.num, .bool x.1.mark, .bool x.2] 63)))
  have HR := Lib.hid h1
  clear h h1
  unfold rpv
  go_enter Tryz.func99, Tryz.ntmps99
  go_upto_region 1 with fail
  generalize w.alloc (.cells #[.int .i64 x.1.slot, .int .i64 x.1.gen, .int .i64 x.1.tag, .int .i64 x.1.num, .bool x.1.mark, .bool x.2] 63) = W at HR HX HO ⊢
  have hX := HX.out
  have hzx := BlkW.lt hX
  have hrx : w.heap.size ≠ b := fun e => BlkW.ne_ hX HR.out (by decide) e
  obtain ⟨b0, b1, b2, b3, b4, b5⟩ := rep6 hX
  have hz := BlkW.lt HR.out
  have cd := HR.out.done
  clear hX HX
  generalize w.heap.size = g at hzx hrx b0 b1 b2 b3 b4 b5 ⊢
  rw [hd] at cd
  obtain ⟨t0, t1, t2, t3, t4⟩ := HR.out.top5
  clear hd
  rw [HXX.out] at b5
  have HD := Lib.hid HR.out.drew
  go_upto_region 4 with fail
  go_region_held3 (fun w' => w'.cell? ⟨b, 24, none⟩ = some (.int .i64 j.top.slot) ∧ w'.cell? ⟨b, 25, none⟩ = some (.int .i64 j.top.gen) ∧ w'.cell? ⟨b, 26, none⟩ = some (.int .i64 j.top.tag) ∧ w'.cell? ⟨b, 27, none⟩ = some (.int .i64 j.top.num) ∧ w'.cell? ⟨b, 28, none⟩ = some (.bool j.top.mark))
    (first | go_keep | exact (HD.out.below hb).top5 | exact JAt.top5 (j := j.load (j.top.slot, j.top.gen, 1) 7) h1.out)
    (first
    | (go_at_call 72; refine (Field_at _ _ _ _ _ _ _).mono ?_; rintro e w2 ⟨rfl, hb⟩; have HA := Lib.hid (jload_any (HD.out.below hb) (j.top.slot, j.top.gen, 1) 7))
    | (go_at_call 134; refine HA.out.mono ?_; rintro e w3 ⟨rfl, h1, h2⟩))
  all_goals
    go_wp2
    first
      | go_end0
      | refine bodyPost_ret (results_none rfl _ _ _) rfl ?_
    exact ⟨rfl, h1, Lib.hid ((((HO.out).trans Only.drew).trans (Only.of_below hb)).trans h2.out)⟩
set_option maxRecDepth 100000 in
set_option maxHeartbeats 1000000 in
theorem peek_nil (h : JAt w b j) (x : Wd × Bool) (hd : j.done = 3) (hx : x.1.slot = 0) :
    Calls Tryz.prog 100 #[.pointer (some ⟨b, 0, none⟩), rpv x] w (JLeaf w b (j.end_ 2 0)) := by
  have HXX := Lib.hid hx
  clear hx
  have h1 := h.below (below_alloc (Below.refl _ _) (.cells #[.int .i64 x.1.slot, .int .i64 x.1.gen, .int .i64 x.1.tag, .int .i64 x.1.num, .bool x.1.mark, .bool x.2] 63))
  have HX := Lib.hid (box_rep w x)
  have HO := Lib.hid (Only.of_below (r := b) (below_alloc (Below.refl w.heap.size w) (.cells #[.int .i64 x.1.slot, .int .i64 x.1.gen, .int .i64 x.1.tag, .int .i64 x.1.num, .bool x.1.mark, .bool x.2] 63)))
  have HR := Lib.hid h1
  clear h h1
  unfold rpv
  go_enter Tryz.func100, Tryz.ntmps100
  go_upto_region 1 with fail
  generalize w.alloc (.cells #[.int .i64 x.1.slot, .int .i64 x.1.gen, .int .i64 x.1.tag, .int .i64 x.1.num, .bool x.1.mark, .bool x.2] 63) = W at HR HX HO ⊢
  have hX := HX.out
  have hzx := BlkW.lt hX
  have hrx : w.heap.size ≠ b := fun e => BlkW.ne_ hX HR.out (by decide) e
  obtain ⟨b0, b1, b2, b3, b4, b5⟩ := rep6 hX
  have hz := BlkW.lt HR.out
  have cd := HR.out.done
  clear hX HX
  generalize w.heap.size = g at hzx hrx b0 b1 b2 b3 b4 b5 ⊢
  rw [hd] at cd
  clear hd
  have HQ := Lib.hid (show (x.1.slot == 0) = true by have := HXX.out; simpa using this)
  go_wp2_with fail
  refine (Nil_is _ _ _ _ _ _ HQ.out _).mono ?_
  rintro e w1 ⟨rfl, hb1⟩
  have RN := Lib.hid (HR.out.below hb1)
  have ON := Lib.hid (HO.out.trans (Only.of_below hb1))
  have oq := ON.out
  have hzx1 := Nat.lt_of_lt_of_le hzx hb1.size
  replace b0 := keep_cell hb1 b0
  replace b1 := keep_cell hb1 b1
  replace b2 := keep_cell hb1 b2
  replace b3 := keep_cell hb1 b3
  replace b4 := keep_cell hb1 b4
  replace b5 := keep_cell hb1 b5
  clear hb1 HR HO oq cd
  have hz := BlkW.lt RN.out
  go_wp2_with fail
  refine (jend_any RN.out 2 0).mono ?_
  rintro e w2 ⟨rfl, h1, h2⟩
  go_wp2
  first
    | go_end0
    | refine bodyPost_ret (results_none rfl _ _ _) rfl ?_
  exact ⟨rfl, h1, Lib.hid (ON.out.trans h2.out)⟩
set_option maxRecDepth 100000 in
set_option maxHeartbeats 1000000 in
theorem peek_looked (h : JAt w b j) (x : Wd × Bool) (hd : j.done = 3) (hx : ¬ x.1.slot = 0) :
    Calls Tryz.prog 100 #[.pointer (some ⟨b, 0, none⟩), rpv x] w (JLeaf w b (j.load (x.1.slot, x.1.gen, 1) 7)) := by
  have HXX := Lib.hid hx
  clear hx
  have h1 := h.below (below_alloc (Below.refl _ _) (.cells #[.int .i64 x.1.slot, .int .i64 x.1.gen, .int .i64 x.1.tag, .int .i64 x.1.num, .bool x.1.mark, .bool x.2] 63))
  have HX := Lib.hid (box_rep w x)
  have HO := Lib.hid (Only.of_below (r := b) (below_alloc (Below.refl w.heap.size w) (.cells #[.int .i64 x.1.slot, .int .i64 x.1.gen, .int .i64 x.1.tag, .int .i64 x.1.num, .bool x.1.mark, .bool x.2] 63)))
  have HR := Lib.hid h1
  clear h h1
  unfold rpv
  go_enter Tryz.func100, Tryz.ntmps100
  go_upto_region 1 with fail
  generalize w.alloc (.cells #[.int .i64 x.1.slot, .int .i64 x.1.gen, .int .i64 x.1.tag, .int .i64 x.1.num, .bool x.1.mark, .bool x.2] 63) = W at HR HX HO ⊢
  have hX := HX.out
  have hzx := BlkW.lt hX
  have hrx : w.heap.size ≠ b := fun e => BlkW.ne_ hX HR.out (by decide) e
  obtain ⟨b0, b1, b2, b3, b4, b5⟩ := rep6 hX
  have hz := BlkW.lt HR.out
  have cd := HR.out.done
  clear hX HX
  generalize w.heap.size = g at hzx hrx b0 b1 b2 b3 b4 b5 ⊢
  rw [hd] at cd
  clear hd
  have HQ := Lib.hid (show (x.1.slot == 0) = false by have := HXX.out; simpa using this)
  go_wp2_with fail
  refine (Nil_is _ _ _ _ _ _ HQ.out _).mono ?_
  rintro e w1 ⟨rfl, hb1⟩
  have RN := Lib.hid (HR.out.below hb1)
  have ON := Lib.hid (HO.out.trans (Only.of_below hb1))
  have oq := ON.out
  have hzx1 := Nat.lt_of_lt_of_le hzx hb1.size
  replace b0 := keep_cell hb1 b0
  replace b1 := keep_cell hb1 b1
  replace b2 := keep_cell hb1 b2
  replace b3 := keep_cell hb1 b3
  replace b4 := keep_cell hb1 b4
  replace b5 := keep_cell hb1 b5
  clear hb1 HR HO oq cd
  have hz := BlkW.lt RN.out
  have HD := Lib.hid RN.out.drew
  go_upto_region 7 with fail
  go_region_held3 (fun w' => w'.cell? ⟨g, 0, none⟩ = some (.int .i64 x.1.slot) ∧ w'.cell? ⟨g, 1, none⟩ = some (.int .i64 x.1.gen) ∧ w'.cell? ⟨g, 2, none⟩ = some (.int .i64 x.1.tag) ∧ w'.cell? ⟨g, 3, none⟩ = some (.int .i64 x.1.num) ∧ w'.cell? ⟨g, 4, none⟩ = some (.bool x.1.mark) ∧ w'.cell? ⟨g, 5, none⟩ = some (.bool x.2))
    (first | go_keep | (have hq := Only.of_below (r := b) hb; exact ⟨hq.cell hzx1 hrx b0, hq.cell hzx1 hrx b1, hq.cell hzx1 hrx b2, hq.cell hzx1 hrx b3, hq.cell hzx1 hrx b4, hq.cell hzx1 hrx b5⟩) | (have hq := (Only.of_below (r := b) hb).trans h2.out; exact ⟨hq.cell hzx1 hrx b0, hq.cell hzx1 hrx b1, hq.cell hzx1 hrx b2, hq.cell hzx1 hrx b3, hq.cell hzx1 hrx b4, hq.cell hzx1 hrx b5⟩))
    (first
    | (go_at_call 72; refine (Field_at _ _ _ _ _ _ _).mono ?_; rintro e w2 ⟨rfl, hb⟩; have HA := Lib.hid (jload_any (HD.out.below hb) (x.1.slot, x.1.gen, 1) 7))
    | (go_at_call 134; refine HA.out.mono ?_; rintro e w3 ⟨rfl, h1, h2⟩))
  all_goals
    go_wp2
    first
      | go_end0
      | refine bodyPost_ret (results_none rfl _ _ _) rfl ?_
    exact ⟨rfl, h1, Lib.hid ((((ON.out).trans Only.drew).trans (Only.of_below hb)).trans h2.out)⟩
set_option maxRecDepth 100000 in
set_option maxHeartbeats 1000000 in
theorem jswap_any (h : JAt w b j) (ref : Wd) (ht : wrap64 (j.top.tag + 1) = j.top.tag + 1) :
    Calls Tryz.prog 135 #[.pointer (some ⟨b, 0, none⟩), wv ref] w (JLeaf w b (j.swapTop ref)) := by
  have HR := Lib.hid (h.below (below_alloc (Below.refl _ _) (.cells #[.int .i64 ref.slot, .int .i64 ref.gen, .int .i64 ref.tag, .int .i64 ref.num, .bool ref.mark] 34)))
  have HT := Lib.hid ht
  clear h ht
  unfold wv
  go_enter Tryz.func135, Tryz.ntmps135
  go_upto_region 1 with fail
  have HO := Lib.hid (Only.of_below (r := b) (below_alloc (Below.refl w.heap.size w) (.cells #[.int .i64 ref.slot, .int .i64 ref.gen, .int .i64 ref.tag, .int .i64 ref.num, .bool ref.mark] 34)))
  have hX := BlkW.new w 34 #[.int .i64 ref.slot, .int .i64 ref.gen, .int .i64 ref.tag, .int .i64 ref.num, .bool ref.mark]
  generalize w.alloc (.cells #[.int .i64 ref.slot, .int .i64 ref.gen, .int .i64 ref.tag, .int .i64 ref.num, .bool ref.mark] 34) = W at HR HO hX ⊢
  have hzx := BlkW.lt hX
  have hrx : w.heap.size ≠ b := fun e => BlkW.ne_ hX HR.out (by decide) e
  have b0 := hX.cell 0
  have b1 := hX.cell 1
  have b2 := hX.cell 2
  have b3 := hX.cell 3
  have b4 := hX.cell 4
  clear hX
  replace b0 : W.cell? ⟨w.heap.size, 0, none⟩ = some (.int .i64 ref.slot) := b0
  replace b1 : W.cell? ⟨w.heap.size, 1, none⟩ = some (.int .i64 ref.gen) := b1
  replace b2 : W.cell? ⟨w.heap.size, 2, none⟩ = some (.int .i64 ref.tag) := b2
  replace b3 : W.cell? ⟨w.heap.size, 3, none⟩ = some (.int .i64 ref.num) := b3
  replace b4 : W.cell? ⟨w.heap.size, 4, none⟩ = some (.bool ref.mark) := b4
  generalize w.heap.size = g at hzx hrx b0 b1 b2 b3 b4 ⊢
  have hz := BlkW.lt HR.out
  obtain ⟨t0, t1, t2, t3, t4⟩ := HR.out.top5
  have HD := Lib.hid HR.out.drew
  go_region_held3 (fun w' => (w'.cell? ⟨b, 24, none⟩ = some (.int .i64 j.top.slot) ∧ w'.cell? ⟨b, 25, none⟩ = some (.int .i64 j.top.gen) ∧ w'.cell? ⟨b, 26, none⟩ = some (.int .i64 j.top.tag) ∧ w'.cell? ⟨b, 27, none⟩ = some (.int .i64 j.top.num) ∧ w'.cell? ⟨b, 28, none⟩ = some (.bool j.top.mark)) ∧ w'.cell? ⟨g, 0, none⟩ = some (.int .i64 ref.slot) ∧ w'.cell? ⟨g, 1, none⟩ = some (.int .i64 ref.gen) ∧ w'.cell? ⟨g, 2, none⟩ = some (.int .i64 ref.tag) ∧ w'.cell? ⟨g, 3, none⟩ = some (.int .i64 ref.num) ∧ w'.cell? ⟨g, 4, none⟩ = some (.bool ref.mark))
    (first | go_keep | (have hq := Only.of_below (r := b) hb; exact ⟨(HD.out.below hb).top5, hq.cell hzx hrx b0, hq.cell hzx hrx b1, hq.cell hzx hrx b2, hq.cell hzx hrx b3, hq.cell hzx hrx b4⟩) | (have hq := (Only.of_below (r := b) hb).trans (Only.of_below hb2); exact ⟨((HD.out.below hb).below hb2).top5, hq.cell hzx hrx b0, hq.cell hzx hrx b1, hq.cell hzx hrx b2, hq.cell hzx hrx b3, hq.cell hzx hrx b4⟩) | (have hq := ((Only.of_below (r := b) hb).trans (Only.of_below hb2)).trans h2.out; exact ⟨JAt.top5 (j := j.swapTop ref) h1.out, hq.cell hzx hrx b0, hq.cell hzx hrx b1, hq.cell hzx hrx b2, hq.cell hzx hrx b3, hq.cell hzx hrx b4⟩))
    (first
    | (go_at_call 71; refine (proot_is _).mono ?_; rintro e w2 ⟨rfl, hb⟩)
    | (go_at_call 82; refine (To_is _ _ _ _ _ _ _ _ _ _ _ HT.out _).mono ?_; rintro e w3 ⟨rfl, hb2⟩; have HA := Lib.hid (jask_any ((HD.out.below hb).below hb2) { zc with kind := 5, old := j.top, new := j.top.to ref } 0 0 6))
    | (go_at_call 131; refine HA.out.mono ?_; rintro e w4 ⟨rfl, h1, h2⟩))
  all_goals
    go_wp2
    first
      | go_end0
      | refine bodyPost_ret (results_none rfl _ _ _) rfl ?_
    exact ⟨rfl, h1, Lib.hid ((((HO.out.trans Only.drew).trans (Only.of_below hb)).trans (Only.of_below hb2)).trans h2.out)⟩
end
end Go.Proofs.YtihjklimcchkhaaGreatDoor

namespace Go.Proofs.YtihjklimcchkhaaGreatDoor
open Go.RowKit Go.Extern.Stop Go.Stop Go.Extern Go.Sort
theorem JAt.setVal {w : World} {b : Nat} {j : Jb} (h : JAt w b j) (v : Int) : JAt (w.setCell ⟨b, 29, none⟩ (.int .i64 v)) b (j.setVal v) := h.set 29 _ (by kernel_rfl)
theorem JAt.val2 {w : World} {b : Nat} {j : Jb} (h : JAt w b j) : w.cell? ⟨b, 32, none⟩ = some (.int .i64 j.op.val) := h.cell 32 (by kernel_rfl)
theorem Num_at (n : Int) (w : World) : Calls Tryz.prog 81 #[.int .i64 n] w fun e w' => e = .returned (.agg #[.int .i64 0, .int .i64 0, .int .i64 0, .int .i64 n, .bool false]) ∧ Below w.heap.size w w' := Num_any n w
section
variable {w w' : World} {b : Nat} {j j' : Jb}
set_option maxRecDepth 100000 in
set_option maxHeartbeats 1000000 in
theorem pop_followed (h : JAt w b j) (x : Wd × Bool) (hd : j.done = 5) (ht : wrap64 (j.top.tag + 1) = j.top.tag + 1) :
    Calls Tryz.prog 99 #[.pointer (some ⟨b, 0, none⟩), rpv x] w (JLeaf w b (j.swapTop x.1)) := by
  have h1 := h.below (below_alloc (Below.refl _ _) (.cells #[.int .i64 x.1.slot, .int .i64 x.1.gen, .int .i64 x.1.tag, .int .i64 x.1.num, .bool x.1.mark, .bool x.2] 63))
  have HX := Lib.hid (box_rep w x)
  have HO := Lib.hid (Only.of_below (r := b) (below_alloc (Below.refl w.heap.size w) (.cells #[.int .i64 x.1.slot, .int .i64 x.1.gen, .int .i64 x.1.tag, .int .i64 x.1.num, .bool x.1.mark, .bool x.2] 63)))
  have HR := Lib.hid h1
  clear h h1
  unfold rpv
  go_enter Tryz.func99, Tryz.ntmps99
  go_upto_region 1 with fail
  generalize w.alloc (.cells #[.int .i64 x.1.slot, .int .i64 x.1.gen, .int .i64 x.1.tag, .int .i64 x.1.num, .bool x.1.mark, .bool x.2] 63) = W at HR HX HO ⊢
  have hX := HX.out
  have hzx := BlkW.lt hX
  have hrx : w.heap.size ≠ b := fun e => BlkW.ne_ hX HR.out (by decide) e
  obtain ⟨b0, b1, b2, b3, b4, b5⟩ := rep6 hX
  have hz := BlkW.lt HR.out
  have cd := HR.out.done
  clear hX HX
  generalize w.heap.size = g at hzx hrx b0 b1 b2 b3 b4 b5 ⊢
  rw [hd] at cd
  clear hd
  have HT := Lib.hid ht
  clear ht
  have HA := Lib.hid (jswap_any HR.out.drew x.1 HT.out)
  have HD := Lib.hid HR.out.drew
  go_upto_region 15 with fail
  go_region_held3 (fun w' => w'.cell? ⟨g, 0, none⟩ = some (.int .i64 x.1.slot) ∧ w'.cell? ⟨g, 1, none⟩ = some (.int .i64 x.1.gen) ∧ w'.cell? ⟨g, 2, none⟩ = some (.int .i64 x.1.tag) ∧ w'.cell? ⟨g, 3, none⟩ = some (.int .i64 x.1.num) ∧ w'.cell? ⟨g, 4, none⟩ = some (.bool x.1.mark) ∧ w'.cell? ⟨g, 5, none⟩ = some (.bool x.2))
    (first | go_keep | (have hq := Only.drew.trans h2.out; exact ⟨hq.cell hzx hrx b0, hq.cell hzx hrx b1, hq.cell hzx hrx b2, hq.cell hzx hrx b3, hq.cell hzx hrx b4, hq.cell hzx hrx b5⟩) | (have hq := h2.out; exact ⟨hq.cell hzx hrx b0, hq.cell hzx hrx b1, hq.cell hzx hrx b2, hq.cell hzx hrx b3, hq.cell hzx hrx b4, hq.cell hzx hrx b5⟩))
    (first
    | (go_at_call 135; refine HA.out.mono ?_; rintro e w3 ⟨rfl, h1, h2⟩))
  all_goals
    go_wp2
    first
      | go_end0
      | refine bodyPost_ret (results_none rfl _ _ _) rfl ?_
    exact ⟨rfl, h1, Lib.hid ((HO.out.trans Only.drew).trans h2.out)⟩
set_option maxRecDepth 100000 in
set_option maxHeartbeats 1000000 in
theorem push_linked (h : JAt w b j) (x : Wd × Bool) (hd : j.done = 4) (ht : wrap64 (j.top.tag + 1) = j.top.tag + 1) :
    Calls Tryz.prog 98 #[.pointer (some ⟨b, 0, none⟩), rpv x] w (JLeaf w b (j.swapTop j.node)) := by
  have h1 := h.below (below_alloc (Below.refl _ _) (.cells #[.int .i64 x.1.slot, .int .i64 x.1.gen, .int .i64 x.1.tag, .int .i64 x.1.num, .bool x.1.mark, .bool x.2] 63))
  have HX := Lib.hid (box_rep w x)
  have HO := Lib.hid (Only.of_below (r := b) (below_alloc (Below.refl w.heap.size w) (.cells #[.int .i64 x.1.slot, .int .i64 x.1.gen, .int .i64 x.1.tag, .int .i64 x.1.num, .bool x.1.mark, .bool x.2] 63)))
  have HR := Lib.hid h1
  clear h h1
  unfold rpv
  go_enter Tryz.func98, Tryz.ntmps98
  go_upto_region 1 with fail
  generalize w.alloc (.cells #[.int .i64 x.1.slot, .int .i64 x.1.gen, .int .i64 x.1.tag, .int .i64 x.1.num, .bool x.1.mark, .bool x.2] 63) = W at HR HX HO ⊢
  have hX := HX.out
  have hzx := BlkW.lt hX
  have hrx : w.heap.size ≠ b := fun e => BlkW.ne_ hX HR.out (by decide) e
  obtain ⟨b0, b1, b2, b3, b4, b5⟩ := rep6 hX
  have hz := BlkW.lt HR.out
  have cd := HR.out.done
  clear hX HX
  generalize w.heap.size = g at hzx hrx b0 b1 b2 b3 b4 b5 ⊢
  rw [hd] at cd
  obtain ⟨n0, n1, n2, n3, n4⟩ := HR.out.node5
  clear hd
  have HT := Lib.hid ht
  clear ht
  have HA := Lib.hid (jswap_any HR.out.drew j.node HT.out)
  have HD := Lib.hid HR.out.drew
  go_upto_region 18 with fail
  go_region_held3 (fun w' => w'.cell? ⟨b, 19, none⟩ = some (.int .i64 j.node.slot) ∧ w'.cell? ⟨b, 20, none⟩ = some (.int .i64 j.node.gen) ∧ w'.cell? ⟨b, 21, none⟩ = some (.int .i64 j.node.tag) ∧ w'.cell? ⟨b, 22, none⟩ = some (.int .i64 j.node.num) ∧ w'.cell? ⟨b, 23, none⟩ = some (.bool j.node.mark))
    (first | go_keep | exact JAt.node5 (j := j.swapTop j.node) h1.out)
    (first
    | (go_at_call 135; refine HA.out.mono ?_; rintro e w3 ⟨rfl, h1, h2⟩))
  all_goals
    go_wp2
    first
      | go_end0
      | refine bodyPost_ret (results_none rfl _ _ _) rfl ?_
    exact ⟨rfl, h1, Lib.hid ((HO.out.trans Only.drew).trans h2.out)⟩
set_option maxRecDepth 100000 in
set_option maxHeartbeats 1000000 in
theorem pop_read (h : JAt w b j) (x : Wd × Bool) (hd : j.done = 7) :
    Calls Tryz.prog 99 #[.pointer (some ⟨b, 0, none⟩), rpv x] w (JLeaf w b ((j.setVal x.1.num).ask { zc with kind := 10, old := j.top } 8)) := by
  have h1 := h.below (below_alloc (Below.refl _ _) (.cells #[.int .i64 x.1.slot, .int .i64 x.1.gen, .int .i64 x.1.tag, .int .i64 x.1.num, .bool x.1.mark, .bool x.2] 63))
  have HX := Lib.hid (box_rep w x)
  have HO := Lib.hid (Only.of_below (r := b) (below_alloc (Below.refl w.heap.size w) (.cells #[.int .i64 x.1.slot, .int .i64 x.1.gen, .int .i64 x.1.tag, .int .i64 x.1.num, .bool x.1.mark, .bool x.2] 63)))
  have HR := Lib.hid h1
  clear h h1
  unfold rpv
  go_enter Tryz.func99, Tryz.ntmps99
  go_upto_region 1 with fail
  generalize w.alloc (.cells #[.int .i64 x.1.slot, .int .i64 x.1.gen, .int .i64 x.1.tag, .int .i64 x.1.num, .bool x.1.mark, .bool x.2] 63) = W at HR HX HO ⊢
  have hX := HX.out
  have hzx := BlkW.lt hX
  have hrx : w.heap.size ≠ b := fun e => BlkW.ne_ hX HR.out (by decide) e
  obtain ⟨b0, b1, b2, b3, b4, b5⟩ := rep6 hX
  have hz := BlkW.lt HR.out
  have cd := HR.out.done
  clear hX HX
  generalize w.heap.size = g at hzx hrx b0 b1 b2 b3 b4 b5 ⊢
  rw [hd] at cd
  obtain ⟨t0, t1, t2, t3, t4⟩ := HR.out.top5
  clear hd
  have cv := HR.out.val
  have fz : ∀ o, W.frozen? ⟨b, o, none⟩ = false := HR.out.frozen
  go_upto_region 17 with fail
  have RS := Lib.hid (HR.out.setVal x.1.num)
  have OS := Lib.hid (HO.out.trans (((show Off (fun i => i = b) W _ from Off.refl _ W).set (.inl rfl) 29 (.int .i64 x.1.num))))
  show Code.wp _ _ _ _ (W.setCell ⟨b, 29, none⟩ (.int .i64 x.1.num))
  clear t0 t1 t2 t3 t4 cv fz b0 b1 b2 b3 b4 b5 cd HR HO hz hzx
  generalize W.setCell ⟨b, 29, none⟩ (.int .i64 x.1.num) = W2 at RS OS ⊢
  have hz := BlkW.lt RS.out
  have HD := Lib.hid RS.out.drew
  obtain ⟨t0, t1, t2, t3, t4⟩ : W2.cell? ⟨b, 24, none⟩ = some (.int .i64 j.top.slot) ∧ W2.cell? ⟨b, 25, none⟩ = some (.int .i64 j.top.gen) ∧ W2.cell? ⟨b, 26, none⟩ = some (.int .i64 j.top.tag) ∧ W2.cell? ⟨b, 27, none⟩ = some (.int .i64 j.top.num) ∧ W2.cell? ⟨b, 28, none⟩ = some (.bool j.top.mark) := RS.out.top5
  have HA := Lib.hid (jask_any RS.out.drew { zc with kind := 10, old := j.top } 0 0 8)
  go_region_held3 (fun w' => w'.cell? ⟨b, 24, none⟩ = some (.int .i64 j.top.slot) ∧ w'.cell? ⟨b, 25, none⟩ = some (.int .i64 j.top.gen) ∧ w'.cell? ⟨b, 26, none⟩ = some (.int .i64 j.top.tag) ∧ w'.cell? ⟨b, 27, none⟩ = some (.int .i64 j.top.num) ∧ w'.cell? ⟨b, 28, none⟩ = some (.bool j.top.mark))
    (first | go_keep | exact JAt.top5 (j := (j.setVal x.1.num).ask { zc with kind := 10, old := j.top } 8) h1.out)
    (first
    | (go_at_call 131; refine HA.out.mono ?_; rintro e w3 ⟨rfl, h1, h2⟩))
  all_goals
    go_wp2
    first
      | go_end0
      | refine bodyPost_ret (results_none rfl _ _ _) rfl ?_
    exact ⟨rfl, h1, Lib.hid ((OS.out.trans Only.drew).trans h2.out)⟩
set_option maxRecDepth 100000 in
set_option maxHeartbeats 1000000 in
theorem push_given (h : JAt w b j) (x : Wd × Bool) (hd : j.done = 1) (hx : x.2 = true) :
    Calls Tryz.prog 98 #[.pointer (some ⟨b, 0, none⟩), rpv x] w (JLeaf w b ((j.setNode x.1).store (x.1.slot, x.1.gen, 1) (nw j.op.val) 2)) := by
  have HXX := Lib.hid hx
  clear hx
  have h1 := h.below (below_alloc (Below.refl _ _) (.cells #[.int .i64 x.1.slot, .int .i64 x.1.gen, .int .i64 x.1.tag, .int .i64 x.1.num, .bool x.1.mark, .bool x.2] 63))
  have HX := Lib.hid (box_rep w x)
  have HO := Lib.hid (Only.of_below (r := b) (below_alloc (Below.refl w.heap.size w) (.cells #[.int .i64 x.1.slot, .int .i64 x.1.gen, .int .i64 x.1.tag, .int .i64 x.1.num, .bool x.1.mark, .bool x.2] 63)))
  have HR := Lib.hid h1
  clear h h1
  unfold rpv
  go_enter Tryz.func98, Tryz.ntmps98
  go_upto_region 1 with fail
  generalize w.alloc (.cells #[.int .i64 x.1.slot, .int .i64 x.1.gen, .int .i64 x.1.tag, .int .i64 x.1.num, .bool x.1.mark, .bool x.2] 63) = W at HR HX HO ⊢
  have hX := HX.out
  have hzx := BlkW.lt hX
  have hrx : w.heap.size ≠ b := fun e => BlkW.ne_ hX HR.out (by decide) e
  obtain ⟨b0, b1, b2, b3, b4, b5⟩ := rep6 hX
  have hz := BlkW.lt HR.out
  have cd := HR.out.done
  clear hX HX
  generalize w.heap.size = g at hzx hrx b0 b1 b2 b3 b4 b5 ⊢
  rw [hd] at cd
  obtain ⟨n0, n1, n2, n3, n4⟩ := HR.out.node5
  clear hd
  rw [HXX.out] at b5
  have fz : ∀ o, W.frozen? ⟨b, o, none⟩ = false := HR.out.frozen
  go_upto_region 12 with fail
  have RS := Lib.hid (HR.out.setNode x.1)
  have OS := Lib.hid (HO.out.trans (Only.sets (r := b) (w := W) 19 (wc x.1)))
  show Code.wp _ _ _ _ (W.setCells b 19 (wc x.1))
  clear n0 n1 n2 n3 n4 fz b0 b1 b2 b3 b4 b5 cd HR HO hz hzx
  generalize W.setCells b 19 (wc x.1) = W2 at RS OS ⊢
  have hz := BlkW.lt RS.out
  have HD := Lib.hid RS.out.drew
  obtain ⟨n0, n1, n2, n3, n4⟩ : W2.cell? ⟨b, 19, none⟩ = some (.int .i64 x.1.slot) ∧ W2.cell? ⟨b, 20, none⟩ = some (.int .i64 x.1.gen) ∧ W2.cell? ⟨b, 21, none⟩ = some (.int .i64 x.1.tag) ∧ W2.cell? ⟨b, 22, none⟩ = some (.int .i64 x.1.num) ∧ W2.cell? ⟨b, 23, none⟩ = some (.bool x.1.mark) := RS.out.node5
  have cv : W2.cell? ⟨b, 32, none⟩ = some (.int .i64 j.op.val) := RS.out.val2
  go_region_held3 (fun w' => (w'.cell? ⟨b, 19, none⟩ = some (.int .i64 x.1.slot) ∧ w'.cell? ⟨b, 20, none⟩ = some (.int .i64 x.1.gen) ∧ w'.cell? ⟨b, 21, none⟩ = some (.int .i64 x.1.tag) ∧ w'.cell? ⟨b, 22, none⟩ = some (.int .i64 x.1.num) ∧ w'.cell? ⟨b, 23, none⟩ = some (.bool x.1.mark)) ∧ w'.cell? ⟨b, 32, none⟩ = some (.int .i64 j.op.val))
    (first | go_keep | exact ⟨JAt.node5 (j := j.setNode x.1) (HD.out.below hb), JAt.val2 (j := j.setNode x.1) (HD.out.below hb)⟩ | exact ⟨JAt.node5 (j := j.setNode x.1) ((HD.out.below hb).below hb2), JAt.val2 (j := j.setNode x.1) ((HD.out.below hb).below hb2)⟩ | exact ⟨JAt.node5 (j := (j.setNode x.1).store (x.1.slot, x.1.gen, 1) (nw j.op.val) 2) h1.out, JAt.val2 (j := (j.setNode x.1).store (x.1.slot, x.1.gen, 1) (nw j.op.val) 2) h1.out⟩)
    (first
    | (go_at_call 72; refine (Field_at _ _ _ _ _ _ _).mono ?_; rintro e w2 ⟨rfl, hb⟩)
    | (go_at_call 81; refine (Num_at _ _).mono ?_; rintro e w3 ⟨rfl, hb2⟩; have HA := Lib.hid (jstore_any ((HD.out.below hb).below hb2) (x.1.slot, x.1.gen, 1) (nw j.op.val) 2))
    | (go_at_call 133; refine HA.out.mono ?_; rintro e w4 ⟨rfl, h1, h2⟩))
  all_goals
    go_wp2
    first
      | go_end0
      | refine bodyPost_ret (results_none rfl _ _ _) rfl ?_
    exact ⟨rfl, h1, Lib.hid (((((OS.out).trans Only.drew).trans (Only.of_below hb)).trans (Only.of_below hb2)).trans h2.out)⟩
set_option maxRecDepth 100000 in
set_option maxHeartbeats 1000000 in
theorem push_looked (h : JAt w b j) (x : Wd × Bool) (hd : j.done = 3) :
    Calls Tryz.prog 98 #[.pointer (some ⟨b, 0, none⟩), rpv x] w (JLeaf w b ((j.setTop x.1).store (j.node.slot, j.node.gen, 2) x.1.ref 4)) := by
  have h1 := h.below (below_alloc (Below.refl _ _) (.cells #[.int .i64 x.1.slot, .int .i64 x.1.gen, .int .i64 x.1.tag, .int .i64 x.1.num, .bool x.1.mark, .bool x.2] 63))
  have HX := Lib.hid (box_rep w x)
  have HO := Lib.hid (Only.of_below (r := b) (below_alloc (Below.refl w.heap.size w) (.cells #[.int .i64 x.1.slot, .int .i64 x.1.gen, .int .i64 x.1.tag, .int .i64 x.1.num, .bool x.1.mark, .bool x.2] 63)))
  have HR := Lib.hid h1
  clear h h1
  unfold rpv
  go_enter Tryz.func98, Tryz.ntmps98
  go_upto_region 1 with fail
  generalize w.alloc (.cells #[.int .i64 x.1.slot, .int .i64 x.1.gen, .int .i64 x.1.tag, .int .i64 x.1.num, .bool x.1.mark, .bool x.2] 63) = W at HR HX HO ⊢
  have hX := HX.out
  have hzx := BlkW.lt hX
  have hrx : w.heap.size ≠ b := fun e => BlkW.ne_ hX HR.out (by decide) e
  obtain ⟨b0, b1, b2, b3, b4, b5⟩ := rep6 hX
  have hz := BlkW.lt HR.out
  have cd := HR.out.done
  clear hX HX
  generalize w.heap.size = g at hzx hrx b0 b1 b2 b3 b4 b5 ⊢
  rw [hd] at cd
  obtain ⟨t0, t1, t2, t3, t4⟩ := HR.out.top5
  obtain ⟨n0, n1, n2, n3, n4⟩ := HR.out.node5
  clear hd
  have fz : ∀ o, W.frozen? ⟨b, o, none⟩ = false := HR.out.frozen
  go_upto_region 17 with fail
  have RS := Lib.hid (HR.out.setTop x.1)
  have OS := Lib.hid (HO.out.trans (Only.sets (r := b) (w := W) 24 (wc x.1)))
  show Code.wp _ _ _ _ (W.setCells b 24 (wc x.1))
  clear t0 t1 t2 t3 t4 n0 n1 n2 n3 n4 fz b0 b1 b2 b3 b4 b5 cd HR HO hz hzx
  generalize W.setCells b 24 (wc x.1) = W2 at RS OS ⊢
  have hz := BlkW.lt RS.out
  have HD := Lib.hid RS.out.drew
  obtain ⟨n0, n1, n2, n3, n4⟩ : W2.cell? ⟨b, 19, none⟩ = some (.int .i64 j.node.slot) ∧ W2.cell? ⟨b, 20, none⟩ = some (.int .i64 j.node.gen) ∧ W2.cell? ⟨b, 21, none⟩ = some (.int .i64 j.node.tag) ∧ W2.cell? ⟨b, 22, none⟩ = some (.int .i64 j.node.num) ∧ W2.cell? ⟨b, 23, none⟩ = some (.bool j.node.mark) := RS.out.node5
  obtain ⟨t0, t1, t2, t3, t4⟩ : W2.cell? ⟨b, 24, none⟩ = some (.int .i64 x.1.slot) ∧ W2.cell? ⟨b, 25, none⟩ = some (.int .i64 x.1.gen) ∧ W2.cell? ⟨b, 26, none⟩ = some (.int .i64 x.1.tag) ∧ W2.cell? ⟨b, 27, none⟩ = some (.int .i64 x.1.num) ∧ W2.cell? ⟨b, 28, none⟩ = some (.bool x.1.mark) := RS.out.top5
  go_region_held3 (fun w' => (w'.cell? ⟨b, 19, none⟩ = some (.int .i64 j.node.slot) ∧ w'.cell? ⟨b, 20, none⟩ = some (.int .i64 j.node.gen) ∧ w'.cell? ⟨b, 21, none⟩ = some (.int .i64 j.node.tag) ∧ w'.cell? ⟨b, 22, none⟩ = some (.int .i64 j.node.num) ∧ w'.cell? ⟨b, 23, none⟩ = some (.bool j.node.mark)) ∧ (w'.cell? ⟨b, 24, none⟩ = some (.int .i64 x.1.slot) ∧ w'.cell? ⟨b, 25, none⟩ = some (.int .i64 x.1.gen) ∧ w'.cell? ⟨b, 26, none⟩ = some (.int .i64 x.1.tag) ∧ w'.cell? ⟨b, 27, none⟩ = some (.int .i64 x.1.num) ∧ w'.cell? ⟨b, 28, none⟩ = some (.bool x.1.mark)))
    (first | go_keep | exact ⟨JAt.node5 (j := j.setTop x.1) (HD.out.below hb), JAt.top5 (j := j.setTop x.1) (HD.out.below hb)⟩ | exact ⟨JAt.node5 (j := j.setTop x.1) ((HD.out.below hb).below hb2), JAt.top5 (j := j.setTop x.1) ((HD.out.below hb).below hb2)⟩ | exact ⟨JAt.node5 (j := (j.setTop x.1).store (j.node.slot, j.node.gen, 2) x.1.ref 4) h1.out, JAt.top5 (j := (j.setTop x.1).store (j.node.slot, j.node.gen, 2) x.1.ref 4) h1.out⟩)
    (first
    | (go_at_call 72; refine (Field_at _ _ _ _ _ _ _).mono ?_; rintro e w2 ⟨rfl, hb⟩)
    | (go_at_call 45; refine (Ref_any _ _ _ _ _ _).mono ?_; rintro e w3 ⟨rfl, hb2⟩; have HA := Lib.hid (jstore_any ((HD.out.below hb).below hb2) (j.node.slot, j.node.gen, 2) x.1.ref 4))
    | (go_at_call 133; refine HA.out.mono ?_; rintro e w4 ⟨rfl, h1, h2⟩))
  all_goals
    go_wp2
    first
      | go_end0
      | refine bodyPost_ret (results_none rfl _ _ _) rfl ?_
    exact ⟨rfl, h1, Lib.hid (((((OS.out).trans Only.drew).trans (Only.of_below hb)).trans (Only.of_below hb2)).trans h2.out)⟩
end
end Go.Proofs.YtihjklimcchkhaaGreatDoor

namespace Go.Proofs.YtihjklimcchkhaaGreatDoor
open Go.RowKit Go.Extern.Stop Go.Stop Go.Extern Go.Sort
section
variable {w w' : World} {b : Nat} {j j' : Jb}
/-- What Next leaves. -/
def JNext (w : World) (b : Nat) (j : Jb) (e : Ending) (w' : World) : Prop := e = .returned (cav j.call j.code j.aval) ∧ Hid (JAt w' b j) ∧ Hid (Only b w w')
theorem wp_store_ans {ops : Array Oper} {rest : List Oper} {op : Oper} {a : Act} {W : World} {Q : Exit → Act → World → Prop} {q : Nat} (hj : JAt W b j) (hq : BlkW W q 51 (clc zc).toArray) (ho : Only b w W) (hf : w.heap.size ≤ q) (hgd : op.guard = none) (px py : Operand) (hop : op.op = .store 51 px py)
    (hx : a.eval px = .pointer (some ⟨q, 0, none⟩)) (c : Cl) (x y : Int) (hy : a.eval py = .agg (cac c x y).toArray)
    (k : ∀ w', JAt w' b j → BlkW w' q 51 (cac c x y).toArray → Only b w w' → wpList Tryz.prog ops Q rest (a.put op.dst undef) w') : wpList Tryz.prog ops Q (op :: rest) a W := by
  refine wpList_store_mid hgd 51 px py hop q 0 (cac c x y).toArray hx hy (there_of_blk hq 0 18 (by decide)) (show (Tryz.prog.info? 51).map (·.size) = some (cac c x y).toArray.size from infoCl) (cac_one c x y) ?_
  have h1 : BlkW (W.setCells q 0 (cac c x y)) q 51 (cac c x y).toArray := by
    have h1 := blk_puts (cac c x y) 0 hq
    rwa [show putL (clc zc) 0 (cac c x y) = cac c x y from by kernel_rfl] at h1
  have h2 : Off (fun j => j = q) W (W.setCells q 0 (cac c x y)) := Off.sets (K := fun j => j = q) (.inl rfl) _ 0 (Off.refl _ W)
  exact k _ (h2.blk hj (BlkW.ne_ hj hq (by decide))) h1 (Off.sets (K := fun j => j = b) (.inr hf) _ 0 ho)
theorem ans_load {W : World} {q : Nat} {c : Cl} {x y : Int} (h : BlkW W q 51 (cac c x y).toArray) : (loadVar 51 ⟨q, 0, none⟩).run Tryz.prog W = .ok (cav c x y) W := by
  have hr : W.rangeAt q 0 (cac c x y) := fun j v hv => by rw [Nat.zero_add]; exact (BlkW.cell h j).trans (by rw [List.getElem?_toArray]; exact hv)
  exact run_loadVar_mid W q 0 51 (cac c x y) _ hr Tryz.underlying51 rfl infoCl
theorem results_cellc {P : Program} {fn : Func} {a : Tmp} {t : TypeId} (h : fn.results = #[.cell a t]) (tmps : Array Value) {q : Nat} {w : World} {v : Value} (ht : tmps.getD a undef = .pointer (some ⟨q, 0, none⟩)) (hl : (loadVar t ⟨q, 0, none⟩).run P w = .ok v w) : (results fn tmps).run P w = .ok v w := by
  have e : tmps[a]?.getD undef = .pointer (some ⟨q, 0, none⟩) := by rw [← ht]; simp
  simp [results, h, e, asAddr, hl]
set_option maxRecDepth 100000 in
set_option maxHeartbeats 1000000 in
theorem jnext_push (h : JAt w b j) (x : Wd × Bool) (hk : j.op.kind = 1) (hC : ∀ W, JAt W b j → Calls Tryz.prog 98 #[.pointer (some ⟨b, 0, none⟩), rpv x] W (JLeaf W b j')) :
    Calls Tryz.prog 69 #[.pointer (some ⟨b, 0, none⟩), rpv x] w (JNext w b j') := by
  have hb1 := below_alloc (Below.refl w.heap.size w) (.cells #[.int .i64 x.1.slot, .int .i64 x.1.gen, .int .i64 x.1.tag, .int .i64 x.1.num, .bool x.1.mark, .bool x.2] 63)
  have hb2 := below_alloc hb1 (.cells (clc zc).toArray 51)
  have hbx := below_alloc (Below.refl (w.alloc (.cells #[.int .i64 x.1.slot, .int .i64 x.1.gen, .int .i64 x.1.tag, .int .i64 x.1.num, .bool x.1.mark, .bool x.2] 63)).heap.size (w.alloc (.cells #[.int .i64 x.1.slot, .int .i64 x.1.gen, .int .i64 x.1.tag, .int .i64 x.1.num, .bool x.1.mark, .bool x.2] 63))) (.cells (clc zc).toArray 51)
  have HO := Lib.hid (Only.of_below (r := b) hb2)
  have HX := Lib.hid ((box_rep w x).below hbx)
  have hq := BlkW.new (w.alloc (.cells #[.int .i64 x.1.slot, .int .i64 x.1.gen, .int .i64 x.1.tag, .int .i64 x.1.num, .bool x.1.mark, .bool x.2] 63)) 51 (clc zc).toArray
  rw [World.size_alloc] at hq
  have HQ := Lib.hid hq
  have HR := Lib.hid (h.below hb2)
  have HC := Lib.hid hC
  have HK := Lib.hid hk
  have HF := Lib.hid (show w.heap.size ≤ w.heap.size + 1 by omega)
  clear h hC hk hb1 hb2 hbx hq
  unfold rpv
  go_enter Tryz.func69, Tryz.ntmps69
  go_upto_region 1 with fail
  show Code.wp _ _ _ _ ((w.alloc (.cells #[.int .i64 x.1.slot, .int .i64 x.1.gen, .int .i64 x.1.tag, .int .i64 x.1.num, .bool x.1.mark, .bool x.2] 63)).alloc (.cells (clc zc).toArray 51))
  generalize ((w.alloc (.cells #[.int .i64 x.1.slot, .int .i64 x.1.gen, .int .i64 x.1.tag, .int .i64 x.1.num, .bool x.1.mark, .bool x.2] 63)).alloc (.cells (clc zc).toArray 51)) = W at HR HX HO HQ ⊢
  obtain ⟨v, hv⟩ : ∃ v, v = w.heap.size := ⟨_, rfl⟩
  rw [← hv] at HX HQ HF ⊢
  have hX := HX.out
  have hzx := BlkW.lt hX
  have hrx : v ≠ b := fun e => BlkW.ne_ hX HR.out (by decide) e
  obtain ⟨b0, b1, b2, b3, b4, b5⟩ := rep6 hX
  have hz := BlkW.lt HR.out
  have hzq := BlkW.lt HQ.out
  have hqb : v + 1 ≠ b := fun e => BlkW.ne_ HQ.out HR.out (by decide) e
  have ck := HR.out.kind
  rw [HK.out] at ck
  clear hX HX
  have HV := Lib.hid hv
  clear hv
  have HCW := Lib.hid (HC.out W HR.out)
  unfold rpv at HCW
  go_wp2_with fail
  refine HCW.out.mono ?_
  rintro e w2 ⟨rfl, h1, h2⟩
  have HQ2 := Lib.hid (h2.out.blk HQ.out hqb)
  have H1 := Lib.hid h1.out
  have HO2 := Lib.hid (HO.out.trans h2.out)
  have hz2 := BlkW.lt H1.out
  clear h1 h2 HCW HC HR HQ HO b0 b1 b2 b3 b4 b5 ck hz hzq hzx
  have HRG := Lib.hid (H1.out.range 0 (cac j'.call j'.code j'.aval) (by kernel_rfl))
  generalize hG : Value.agg (cac j'.call j'.code j'.aval).toArray = G
  have HG := Lib.hid hG
  clear hG
  go_wp2_with (first
    | (refine wpList_load_mid rfl 51 (.tmp 31) rfl b 0 rfl (cac j'.call j'.code j'.aval) _ HRG.out Tryz.underlying51 rfl infoCl ?_; rw [HG.out])
    | (refine wp_store_ans H1.out HQ2.out HO2.out (HV.out ▸ HF.out) rfl (.tmp 4) (.tmp 32) rfl (by rfl) j'.call j'.code j'.aval HG.out.symm ?_; intro W3 k1 k2 k3; have K1 := Lib.hid k1; have K2 := Lib.hid k2; have K3 := Lib.hid k3; clear k1 k2 k3))
  exact bodyPost_ret (v := cav j'.call j'.code j'.aval) (results_cellc (q := v + 1) rfl _ (by rfl) (ans_load K2.out)) rfl ⟨rfl, K1, K3⟩
set_option maxRecDepth 100000 in
set_option maxHeartbeats 1000000 in
theorem jnext_pop (h : JAt w b j) (x : Wd × Bool) (hk : j.op.kind = 2) (hC : ∀ W, JAt W b j → Calls Tryz.prog 99 #[.pointer (some ⟨b, 0, none⟩), rpv x] W (JLeaf W b j')) :
    Calls Tryz.prog 69 #[.pointer (some ⟨b, 0, none⟩), rpv x] w (JNext w b j') := by
  have hb1 := below_alloc (Below.refl w.heap.size w) (.cells #[.int .i64 x.1.slot, .int .i64 x.1.gen, .int .i64 x.1.tag, .int .i64 x.1.num, .bool x.1.mark, .bool x.2] 63)
  have hb2 := below_alloc hb1 (.cells (clc zc).toArray 51)
  have hbx := below_alloc (Below.refl (w.alloc (.cells #[.int .i64 x.1.slot, .int .i64 x.1.gen, .int .i64 x.1.tag, .int .i64 x.1.num, .bool x.1.mark, .bool x.2] 63)).heap.size (w.alloc (.cells #[.int .i64 x.1.slot, .int .i64 x.1.gen, .int .i64 x.1.tag, .int .i64 x.1.num, .bool x.1.mark, .bool x.2] 63))) (.cells (clc zc).toArray 51)
  have HO := Lib.hid (Only.of_below (r := b) hb2)
  have HX := Lib.hid ((box_rep w x).below hbx)
  have hq := BlkW.new (w.alloc (.cells #[.int .i64 x.1.slot, .int .i64 x.1.gen, .int .i64 x.1.tag, .int .i64 x.1.num, .bool x.1.mark, .bool x.2] 63)) 51 (clc zc).toArray
  rw [World.size_alloc] at hq
  have HQ := Lib.hid hq
  have HR := Lib.hid (h.below hb2)
  have HC := Lib.hid hC
  have HK := Lib.hid hk
  have HF := Lib.hid (show w.heap.size ≤ w.heap.size + 1 by omega)
  clear h hC hk hb1 hb2 hbx hq
  unfold rpv
  go_enter Tryz.func69, Tryz.ntmps69
  go_upto_region 1 with fail
  show Code.wp _ _ _ _ ((w.alloc (.cells #[.int .i64 x.1.slot, .int .i64 x.1.gen, .int .i64 x.1.tag, .int .i64 x.1.num, .bool x.1.mark, .bool x.2] 63)).alloc (.cells (clc zc).toArray 51))
  generalize ((w.alloc (.cells #[.int .i64 x.1.slot, .int .i64 x.1.gen, .int .i64 x.1.tag, .int .i64 x.1.num, .bool x.1.mark, .bool x.2] 63)).alloc (.cells (clc zc).toArray 51)) = W at HR HX HO HQ ⊢
  obtain ⟨v, hv⟩ : ∃ v, v = w.heap.size := ⟨_, rfl⟩
  rw [← hv] at HX HQ HF ⊢
  have hX := HX.out
  have hzx := BlkW.lt hX
  have hrx : v ≠ b := fun e => BlkW.ne_ hX HR.out (by decide) e
  obtain ⟨b0, b1, b2, b3, b4, b5⟩ := rep6 hX
  have hz := BlkW.lt HR.out
  have hzq := BlkW.lt HQ.out
  have hqb : v + 1 ≠ b := fun e => BlkW.ne_ HQ.out HR.out (by decide) e
  have ck := HR.out.kind
  rw [HK.out] at ck
  clear hX HX
  have HV := Lib.hid hv
  clear hv
  have HCW := Lib.hid (HC.out W HR.out)
  unfold rpv at HCW
  go_wp2_with fail
  refine HCW.out.mono ?_
  rintro e w2 ⟨rfl, h1, h2⟩
  have HQ2 := Lib.hid (h2.out.blk HQ.out hqb)
  have H1 := Lib.hid h1.out
  have HO2 := Lib.hid (HO.out.trans h2.out)
  have hz2 := BlkW.lt H1.out
  clear h1 h2 HCW HC HR HQ HO b0 b1 b2 b3 b4 b5 ck hz hzq hzx
  have HRG := Lib.hid (H1.out.range 0 (cac j'.call j'.code j'.aval) (by kernel_rfl))
  generalize hG : Value.agg (cac j'.call j'.code j'.aval).toArray = G
  have HG := Lib.hid hG
  clear hG
  go_wp2_with (first
    | (refine wpList_load_mid rfl 51 (.tmp 31) rfl b 0 rfl (cac j'.call j'.code j'.aval) _ HRG.out Tryz.underlying51 rfl infoCl ?_; rw [HG.out])
    | (refine wp_store_ans H1.out HQ2.out HO2.out (HV.out ▸ HF.out) rfl (.tmp 4) (.tmp 32) rfl (by rfl) j'.call j'.code j'.aval HG.out.symm ?_; intro W3 k1 k2 k3; have K1 := Lib.hid k1; have K2 := Lib.hid k2; have K3 := Lib.hid k3; clear k1 k2 k3))
  exact bodyPost_ret (v := cav j'.call j'.code j'.aval) (results_cellc (q := v + 1) rfl _ (by rfl) (ans_load K2.out)) rfl ⟨rfl, K1, K3⟩
set_option maxRecDepth 100000 in
set_option maxHeartbeats 1000000 in
theorem jnext_peek (h : JAt w b j) (x : Wd × Bool) (hk : j.op.kind = 3) (hC : ∀ W, JAt W b j → Calls Tryz.prog 100 #[.pointer (some ⟨b, 0, none⟩), rpv x] W (JLeaf W b j')) :
    Calls Tryz.prog 69 #[.pointer (some ⟨b, 0, none⟩), rpv x] w (JNext w b j') := by
  have hb1 := below_alloc (Below.refl w.heap.size w) (.cells #[.int .i64 x.1.slot, .int .i64 x.1.gen, .int .i64 x.1.tag, .int .i64 x.1.num, .bool x.1.mark, .bool x.2] 63)
  have hb2 := below_alloc hb1 (.cells (clc zc).toArray 51)
  have hbx := below_alloc (Below.refl (w.alloc (.cells #[.int .i64 x.1.slot, .int .i64 x.1.gen, .int .i64 x.1.tag, .int .i64 x.1.num, .bool x.1.mark, .bool x.2] 63)).heap.size (w.alloc (.cells #[.int .i64 x.1.slot, .int .i64 x.1.gen, .int .i64 x.1.tag, .int .i64 x.1.num, .bool x.1.mark, .bool x.2] 63))) (.cells (clc zc).toArray 51)
  have HO := Lib.hid (Only.of_below (r := b) hb2)
  have HX := Lib.hid ((box_rep w x).below hbx)
  have hq := BlkW.new (w.alloc (.cells #[.int .i64 x.1.slot, .int .i64 x.1.gen, .int .i64 x.1.tag, .int .i64 x.1.num, .bool x.1.mark, .bool x.2] 63)) 51 (clc zc).toArray
  rw [World.size_alloc] at hq
  have HQ := Lib.hid hq
  have HR := Lib.hid (h.below hb2)
  have HC := Lib.hid hC
  have HK := Lib.hid hk
  have HF := Lib.hid (show w.heap.size ≤ w.heap.size + 1 by omega)
  clear h hC hk hb1 hb2 hbx hq
  unfold rpv
  go_enter Tryz.func69, Tryz.ntmps69
  go_upto_region 1 with fail
  show Code.wp _ _ _ _ ((w.alloc (.cells #[.int .i64 x.1.slot, .int .i64 x.1.gen, .int .i64 x.1.tag, .int .i64 x.1.num, .bool x.1.mark, .bool x.2] 63)).alloc (.cells (clc zc).toArray 51))
  generalize ((w.alloc (.cells #[.int .i64 x.1.slot, .int .i64 x.1.gen, .int .i64 x.1.tag, .int .i64 x.1.num, .bool x.1.mark, .bool x.2] 63)).alloc (.cells (clc zc).toArray 51)) = W at HR HX HO HQ ⊢
  obtain ⟨v, hv⟩ : ∃ v, v = w.heap.size := ⟨_, rfl⟩
  rw [← hv] at HX HQ HF ⊢
  have hX := HX.out
  have hzx := BlkW.lt hX
  have hrx : v ≠ b := fun e => BlkW.ne_ hX HR.out (by decide) e
  obtain ⟨b0, b1, b2, b3, b4, b5⟩ := rep6 hX
  have hz := BlkW.lt HR.out
  have hzq := BlkW.lt HQ.out
  have hqb : v + 1 ≠ b := fun e => BlkW.ne_ HQ.out HR.out (by decide) e
  have ck := HR.out.kind
  rw [HK.out] at ck
  clear hX HX
  have HV := Lib.hid hv
  clear hv
  have HCW := Lib.hid (HC.out W HR.out)
  unfold rpv at HCW
  go_wp2_with fail
  refine HCW.out.mono ?_
  rintro e w2 ⟨rfl, h1, h2⟩
  have HQ2 := Lib.hid (h2.out.blk HQ.out hqb)
  have H1 := Lib.hid h1.out
  have HO2 := Lib.hid (HO.out.trans h2.out)
  have hz2 := BlkW.lt H1.out
  clear h1 h2 HCW HC HR HQ HO b0 b1 b2 b3 b4 b5 ck hz hzq hzx
  have HRG := Lib.hid (H1.out.range 0 (cac j'.call j'.code j'.aval) (by kernel_rfl))
  generalize hG : Value.agg (cac j'.call j'.code j'.aval).toArray = G
  have HG := Lib.hid hG
  clear hG
  go_wp2_with (first
    | (refine wpList_load_mid rfl 51 (.tmp 31) rfl b 0 rfl (cac j'.call j'.code j'.aval) _ HRG.out Tryz.underlying51 rfl infoCl ?_; rw [HG.out])
    | (refine wp_store_ans H1.out HQ2.out HO2.out (HV.out ▸ HF.out) rfl (.tmp 4) (.tmp 32) rfl (by rfl) j'.call j'.code j'.aval HG.out.symm ?_; intro W3 k1 k2 k3; have K1 := Lib.hid k1; have K2 := Lib.hid k2; have K3 := Lib.hid k3; clear k1 k2 k3))
  exact bodyPost_ret (v := cav j'.call j'.code j'.aval) (results_cellc (q := v + 1) rfl _ (by rfl) (ans_load K2.out)) rfl ⟨rfl, K1, K3⟩
end
end Go.Proofs.YtihjklimcchkhaaGreatDoor
