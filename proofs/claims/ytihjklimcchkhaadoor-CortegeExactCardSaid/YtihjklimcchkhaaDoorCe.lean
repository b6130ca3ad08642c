/- cortege: the steps of dequeue. A template (made by gen_XCd.py). -/
import Derived.Test.YtihjklimcchkhaaDoorCc
namespace Go.Proofs.YtihjklimcchkhaaDoor.Co
open Go.RowKit Go.Extern.Stop Go.Stop Go.Extern Go.Sort
section
variable {w w' : World} {b : Nat} {j j' : Jb}
set_option maxRecDepth 100000 in
set_option maxHeartbeats 1000000 in
theorem deq_swapped (h : JAt w b j) (x : Wd × Bool) (hd : j.done = 11) (hx : x.2 = true) :
    Calls Tryd.prog 15 #[.pointer (some ⟨b, 0, none⟩), rpv x] w (JLeaf w b (j.ask (cRetire j.head) 12)) := by
  have HXX := Lib.hid hx
  clear hx
  have h1 := h.below (below_alloc (Below.refl _ _) (.cells #[.int .i64 x.1.slot, .int .i64 x.1.gen, .int .i64 x.1.tag, .int .i64 x.1.num, .bool x.1.mark, .bool x.2] 44))
  have HX := Lib.hid (box_rep w x)
  have HO := Lib.hid (Only.of_below (r := b) (below_alloc (Below.refl w.heap.size w) (.cells #[.int .i64 x.1.slot, .int .i64 x.1.gen, .int .i64 x.1.tag, .int .i64 x.1.num, .bool x.1.mark, .bool x.2] 44)))
  have HR := Lib.hid h1
  clear h h1
  unfold rpv
  go_enter Tryd.func15, Tryd.ntmps15
  go_upto_region 1 with fail
  generalize w.alloc (.cells #[.int .i64 x.1.slot, .int .i64 x.1.gen, .int .i64 x.1.tag, .int .i64 x.1.num, .bool x.1.mark, .bool x.2] 44) = W at HR HX HO ⊢
  have hX := HX.out
  have hzx := BlkW.lt hX
  have hrx : w.heap.size ≠ b := fun e => BlkW.ne_ hX HR.out (by decide) e
  obtain ⟨b0, b1, b2, b3, b4, b5⟩ := rep6 hX
  have hz := BlkW.lt HR.out
  have cd := HR.out.done
  clear hX HX
  generalize w.heap.size = g at hzx hrx b0 b1 b2 b3 b4 b5 ⊢
  rw [hd] at cd
  clear hd
  rw [HXX.out] at b5
  have HD := Lib.hid HR.out.drew
  have HA := Lib.hid (jask_any HD.out (cRetire j.head) 12)
  go_upto_region 12 with fail
  obtain ⟨he0, he1, he2, he3, he4⟩ := HR.out.head5
  go_region_held3 (fun w' => (w'.cell? ⟨b, 24, none⟩ = some (.int .i64 j.head.slot) ∧ w'.cell? ⟨b, 25, none⟩ = some (.int .i64 j.head.gen) ∧ w'.cell? ⟨b, 26, none⟩ = some (.int .i64 j.head.tag) ∧ w'.cell? ⟨b, 27, none⟩ = some (.int .i64 j.head.num) ∧ w'.cell? ⟨b, 28, none⟩ = some (.bool j.head.mark)))
    (first | go_keep | trivial | exact JAt.head5 (j := (j.ask (cRetire j.head) 12)) h1.out)
    (first
    | (go_at_call 18; refine HA.out.mono ?_; rintro e w3 ⟨rfl, h1, h2⟩))
  all_goals
    go_wp2
    first
      | go_end0
      | refine bodyPost_ret (results_none rfl _ _ _) rfl ?_
    exact ⟨rfl, h1, Lib.hid ((HO.out.trans Only.drew).trans h2.out)⟩
set_option maxRecDepth 100000 in
set_option maxHeartbeats 1000000 in
theorem deq_slow (h : JAt w b j) (x : Wd × Bool) (hd : j.done = 11) (hx : x.2 = false) :
    Calls Tryd.prog 15 #[.pointer (some ⟨b, 0, none⟩), rpv x] w (JLeaf w b (j.lookH)) := by
  have HXX := Lib.hid hx
  clear hx
  have h1 := h.below (below_alloc (Below.refl _ _) (.cells #[.int .i64 x.1.slot, .int .i64 x.1.gen, .int .i64 x.1.tag, .int .i64 x.1.num, .bool x.1.mark, .bool x.2] 44))
  have HX := Lib.hid (box_rep w x)
  have HO := Lib.hid (Only.of_below (r := b) (below_alloc (Below.refl w.heap.size w) (.cells #[.int .i64 x.1.slot, .int .i64 x.1.gen, .int .i64 x.1.tag, .int .i64 x.1.num, .bool x.1.mark, .bool x.2] 44)))
  have HR := Lib.hid h1
  clear h h1
  unfold rpv
  go_enter Tryd.func15, Tryd.ntmps15
  go_upto_region 1 with fail
  generalize w.alloc (.cells #[.int .i64 x.1.slot, .int .i64 x.1.gen, .int .i64 x.1.tag, .int .i64 x.1.num, .bool x.1.mark, .bool x.2] 44) = W at HR HX HO ⊢
  have hX := HX.out
  have hzx := BlkW.lt hX
  have hrx : w.heap.size ≠ b := fun e => BlkW.ne_ hX HR.out (by decide) e
  obtain ⟨b0, b1, b2, b3, b4, b5⟩ := rep6 hX
  have hz := BlkW.lt HR.out
  have cd := HR.out.done
  clear hX HX
  generalize w.heap.size = g at hzx hrx b0 b1 b2 b3 b4 b5 ⊢
  rw [hd] at cd
  clear hd
  rw [HXX.out] at b5
  go_wp2_with fail
  refine (jlookH HR.out).mono ?_
  rintro e w2 ⟨rfl, h1, h2⟩
  go_wp2
  first
    | go_end0
    | refine bodyPost_ret (results_none rfl _ _ _) rfl ?_
  exact ⟨rfl, h1, Lib.hid (HO.out.trans h2.out)⟩
set_option maxRecDepth 100000 in
set_option maxHeartbeats 1000000 in
theorem deq_0 (h : JAt w b j) (x : Wd × Bool) (hd : j.done = 0) :
    Calls Tryd.prog 15 #[.pointer (some ⟨b, 0, none⟩), rpv x] w (JLeaf w b (j.lookH)) := by
  have h1 := h.below (below_alloc (Below.refl _ _) (.cells #[.int .i64 x.1.slot, .int .i64 x.1.gen, .int .i64 x.1.tag, .int .i64 x.1.num, .bool x.1.mark, .bool x.2] 44))
  have HX := Lib.hid (box_rep w x)
  have HO := Lib.hid (Only.of_below (r := b) (below_alloc (Below.refl w.heap.size w) (.cells #[.int .i64 x.1.slot, .int .i64 x.1.gen, .int .i64 x.1.tag, .int .i64 x.1.num, .bool x.1.mark, .bool x.2] 44)))
  have HR := Lib.hid h1
  clear h h1
  unfold rpv
  go_enter Tryd.func15, Tryd.ntmps15
  go_upto_region 1 with fail
  generalize w.alloc (.cells #[.int .i64 x.1.slot, .int .i64 x.1.gen, .int .i64 x.1.tag, .int .i64 x.1.num, .bool x.1.mark, .bool x.2] 44) = W at HR HX HO ⊢
  have hX := HX.out
  have hzx := BlkW.lt hX
  have hrx : w.heap.size ≠ b := fun e => BlkW.ne_ hX HR.out (by decide) e
  obtain ⟨b0, b1, b2, b3, b4, b5⟩ := rep6 hX
  have hz := BlkW.lt HR.out
  have cd := HR.out.done
  clear hX HX
  generalize w.heap.size = g at hzx hrx b0 b1 b2 b3 b4 b5 ⊢
  rw [hd] at cd
  clear hd
  go_wp2_with fail
  refine (jlookH HR.out).mono ?_
  rintro e w2 ⟨rfl, h1, h2⟩
  go_wp2
  first
    | go_end0
    | refine bodyPost_ret (results_none rfl _ _ _) rfl ?_
  exact ⟨rfl, h1, Lib.hid (HO.out.trans h2.out)⟩
set_option maxRecDepth 100000 in
set_option maxHeartbeats 1000000 in
theorem deq_7 (h : JAt w b j) (x : Wd × Bool) (hd : j.done = 7) :
    Calls Tryd.prog 15 #[.pointer (some ⟨b, 0, none⟩), rpv x] w (JLeaf w b (j.lookH)) := by
  have h1 := h.below (below_alloc (Below.refl _ _) (.cells #[.int .i64 x.1.slot, .int .i64 x.1.gen, .int .i64 x.1.tag, .int .i64 x.1.num, .bool x.1.mark, .bool x.2] 44))
  have HX := Lib.hid (box_rep w x)
  have HO := Lib.hid (Only.of_below (r := b) (below_alloc (Below.refl w.heap.size w) (.cells #[.int .i64 x.1.slot, .int .i64 x.1.gen, .int .i64 x.1.tag, .int .i64 x.1.num, .bool x.1.mark, .bool x.2] 44)))
  have HR := Lib.hid h1
  clear h h1
  unfold rpv
  go_enter Tryd.func15, Tryd.ntmps15
  go_upto_region 1 with fail
  generalize w.alloc (.cells #[.int .i64 x.1.slot, .int .i64 x.1.gen, .int .i64 x.1.tag, .int .i64 x.1.num, .bool x.1.mark, .bool x.2] 44) = W at HR HX HO ⊢
  have hX := HX.out
  have hzx := BlkW.lt hX
  have hrx : w.heap.size ≠ b := fun e => BlkW.ne_ hX HR.out (by decide) e
  obtain ⟨b0, b1, b2, b3, b4, b5⟩ := rep6 hX
  have hz := BlkW.lt HR.out
  have cd := HR.out.done
  clear hX HX
  generalize w.heap.size = g at hzx hrx b0 b1 b2 b3 b4 b5 ⊢
  rw [hd] at cd
  clear hd
  go_wp2_with fail
  refine (jlookH HR.out).mono ?_
  rintro e w2 ⟨rfl, h1, h2⟩
  go_wp2
  first
    | go_end0
    | refine bodyPost_ret (results_none rfl _ _ _) rfl ?_
  exact ⟨rfl, h1, Lib.hid (HO.out.trans h2.out)⟩
set_option maxRecDepth 100000 in
set_option maxHeartbeats 1000000 in
theorem deq_looked (h : JAt w b j) (x : Wd × Bool) (hd : j.done = 3) :
    Calls Tryd.prog 15 #[.pointer (some ⟨b, 0, none⟩), rpv x] w (JLeaf w b ((j.setHead x.1).ask (cLoad (0, 0, 1)) 4)) := by
  have h1 := h.below (below_alloc (Below.refl _ _) (.cells #[.int .i64 x.1.slot, .int .i64 x.1.gen, .int .i64 x.1.tag, .int .i64 x.1.num, .bool x.1.mark, .bool x.2] 44))
  have HX := Lib.hid (box_rep w x)
  have HO := Lib.hid (Only.of_below (r := b) (below_alloc (Below.refl w.heap.size w) (.cells #[.int .i64 x.1.slot, .int .i64 x.1.gen, .int .i64 x.1.tag, .int .i64 x.1.num, .bool x.1.mark, .bool x.2] 44)))
  have HR := Lib.hid h1
  clear h h1
  unfold rpv
  go_enter Tryd.func15, Tryd.ntmps15
  go_upto_region 1 with fail
  generalize w.alloc (.cells #[.int .i64 x.1.slot, .int .i64 x.1.gen, .int .i64 x.1.tag, .int .i64 x.1.num, .bool x.1.mark, .bool x.2] 44) = W at HR HX HO ⊢
  have hX := HX.out
  have hzx := BlkW.lt hX
  have hrx : w.heap.size ≠ b := fun e => BlkW.ne_ hX HR.out (by decide) e
  obtain ⟨b0, b1, b2, b3, b4, b5⟩ := rep6 hX
  have hz := BlkW.lt HR.out
  have cd := HR.out.done
  clear hX HX
  generalize w.heap.size = g at hzx hrx b0 b1 b2 b3 b4 b5 ⊢
  rw [hd] at cd
  clear hd
  obtain ⟨t0, t1, t2, t3, t4⟩ := HR.out.head5
  have fz : ∀ o, W.frozen? ⟨b, o, none⟩ = false := HR.out.frozen
  go_upto_region 15 with fail
  have RS := Lib.hid (HR.out.setHead x.1)
  have OS := Lib.hid (HO.out.trans (Only.sets (r := b) (w := W) 24 (wc x.1)))
  show Code.wp _ _ _ _ (W.setCells b 24 (wc x.1))
  clear t0 t1 t2 t3 t4 fz b0 b1 b2 b3 b4 b5 cd HR HO hz hzx
  generalize W.setCells b 24 (wc x.1) = W2 at RS OS ⊢
  have hz := BlkW.lt RS.out
  have HD := Lib.hid RS.out.drew
  go_region_held3 (fun w' => True)
    (first | trivial | go_keep)
    (first
    | (go_at_call 24; refine (root1 _).mono ?_; rintro e w2 ⟨rfl, hb⟩; have HA := Lib.hid (jload_any (HD.out.below hb) (0, 0, 1) 4))
    | (go_at_call 26; refine HA.out.mono ?_; rintro e w3 ⟨rfl, h1, h2⟩))
  all_goals
    go_wp2
    first
      | go_end0
      | refine bodyPost_ret (results_none rfl _ _ _) rfl ?_
    exact ⟨rfl, h1, Lib.hid (((OS.out.trans Only.drew).trans (Only.of_below hb)).trans h2.out)⟩
set_option maxRecDepth 100000 in
set_option maxHeartbeats 1000000 in
theorem deq_sighted (h : JAt w b j) (x : Wd × Bool) (hd : j.done = 4) :
    Calls Tryd.prog 15 #[.pointer (some ⟨b, 0, none⟩), rpv x] w (JLeaf w b ((j.setTail x.1).ask (cProtect (fld j.head 2) 1) 5)) := by
  have h1 := h.below (below_alloc (Below.refl _ _) (.cells #[.int .i64 x.1.slot, .int .i64 x.1.gen, .int .i64 x.1.tag, .int .i64 x.1.num, .bool x.1.mark, .bool x.2] 44))
  have HX := Lib.hid (box_rep w x)
  have HO := Lib.hid (Only.of_below (r := b) (below_alloc (Below.refl w.heap.size w) (.cells #[.int .i64 x.1.slot, .int .i64 x.1.gen, .int .i64 x.1.tag, .int .i64 x.1.num, .bool x.1.mark, .bool x.2] 44)))
  have HR := Lib.hid h1
  clear h h1
  unfold rpv
  go_enter Tryd.func15, Tryd.ntmps15
  go_upto_region 1 with fail
  generalize w.alloc (.cells #[.int .i64 x.1.slot, .int .i64 x.1.gen, .int .i64 x.1.tag, .int .i64 x.1.num, .bool x.1.mark, .bool x.2] 44) = W at HR HX HO ⊢
  have hX := HX.out
  have hzx := BlkW.lt hX
  have hrx : w.heap.size ≠ b := fun e => BlkW.ne_ hX HR.out (by decide) e
  obtain ⟨b0, b1, b2, b3, b4, b5⟩ := rep6 hX
  have hz := BlkW.lt HR.out
  have cd := HR.out.done
  clear hX HX
  generalize w.heap.size = g at hzx hrx b0 b1 b2 b3 b4 b5 ⊢
  rw [hd] at cd
  clear hd
  obtain ⟨t0, t1, t2, t3, t4⟩ := HR.out.tail5
  have fz : ∀ o, W.frozen? ⟨b, o, none⟩ = false := HR.out.frozen
  go_upto_region 17 with fail
  have RS := Lib.hid (HR.out.setTail x.1)
  have OS := Lib.hid (HO.out.trans (Only.sets (r := b) (w := W) 29 (wc x.1)))
  show Code.wp _ _ _ _ (W.setCells b 29 (wc x.1))
  clear t0 t1 t2 t3 t4 fz b0 b1 b2 b3 b4 b5 cd HR HO hz hzx
  generalize W.setCells b 29 (wc x.1) = W2 at RS OS ⊢
  have hz := BlkW.lt RS.out
  have HD := Lib.hid RS.out.drew
  obtain ⟨he0, he1, he2, he3, he4⟩ : W2.cell? ⟨b, 24, none⟩ = some (.int .i64 j.head.slot) ∧ W2.cell? ⟨b, 25, none⟩ = some (.int .i64 j.head.gen) ∧ W2.cell? ⟨b, 26, none⟩ = some (.int .i64 j.head.tag) ∧ W2.cell? ⟨b, 27, none⟩ = some (.int .i64 j.head.num) ∧ W2.cell? ⟨b, 28, none⟩ = some (.bool j.head.mark) := RS.out.head5
  go_region_held3 (fun w' => (w'.cell? ⟨b, 24, none⟩ = some (.int .i64 j.head.slot) ∧ w'.cell? ⟨b, 25, none⟩ = some (.int .i64 j.head.gen) ∧ w'.cell? ⟨b, 26, none⟩ = some (.int .i64 j.head.tag) ∧ w'.cell? ⟨b, 27, none⟩ = some (.int .i64 j.head.num) ∧ w'.cell? ⟨b, 28, none⟩ = some (.bool j.head.mark)))
    (first | go_keep | trivial | exact JAt.head5 (j := j.setTail x.1) (HD.out.below hb) | exact JAt.head5 (j := ((j.setTail x.1).ask (cProtect (fld j.head 2) 1) 5)) h1.out)
    (first
    | (go_at_call 21; refine (Field_at _ _ _ _ _ _ _).mono ?_; rintro e w2 ⟨rfl, hb⟩; have HA := Lib.hid (jprotect_any (HD.out.below hb) (fld j.head 2) 1 5))
    | (go_at_call 29; refine HA.out.mono ?_; rintro e w3 ⟨rfl, h1, h2⟩))
  all_goals
    go_wp2
    first
      | go_end0
      | refine bodyPost_ret (results_none rfl _ _ _) rfl ?_
    exact ⟨rfl, h1, Lib.hid (((OS.out.trans Only.drew).trans (Only.of_below hb)).trans h2.out)⟩
set_option maxRecDepth 100000 in
set_option maxHeartbeats 1000000 in
theorem deq_followed (h : JAt w b j) (x : Wd × Bool) (hd : j.done = 5) :
    Calls Tryd.prog 15 #[.pointer (some ⟨b, 0, none⟩), rpv x] w (JLeaf w b ((j.setNext x.1).ask (cLoad (0, 0, 0)) 6)) := by
  have h1 := h.below (below_alloc (Below.refl _ _) (.cells #[.int .i64 x.1.slot, .int .i64 x.1.gen, .int .i64 x.1.tag, .int .i64 x.1.num, .bool x.1.mark, .bool x.2] 44))
  have HX := Lib.hid (box_rep w x)
  have HO := Lib.hid (Only.of_below (r := b) (below_alloc (Below.refl w.heap.size w) (.cells #[.int .i64 x.1.slot, .int .i64 x.1.gen, .int .i64 x.1.tag, .int .i64 x.1.num, .bool x.1.mark, .bool x.2] 44)))
  have HR := Lib.hid h1
  clear h h1
  unfold rpv
  go_enter Tryd.func15, Tryd.ntmps15
  go_upto_region 1 with fail
  generalize w.alloc (.cells #[.int .i64 x.1.slot, .int .i64 x.1.gen, .int .i64 x.1.tag, .int .i64 x.1.num, .bool x.1.mark, .bool x.2] 44) = W at HR HX HO ⊢
  have hX := HX.out
  have hzx := BlkW.lt hX
  have hrx : w.heap.size ≠ b := fun e => BlkW.ne_ hX HR.out (by decide) e
  obtain ⟨b0, b1, b2, b3, b4, b5⟩ := rep6 hX
  have hz := BlkW.lt HR.out
  have cd := HR.out.done
  clear hX HX
  generalize w.heap.size = g at hzx hrx b0 b1 b2 b3 b4 b5 ⊢
  rw [hd] at cd
  clear hd
  obtain ⟨t0, t1, t2, t3, t4⟩ := HR.out.next5
  have fz : ∀ o, W.frozen? ⟨b, o, none⟩ = false := HR.out.frozen
  go_upto_region 19 with fail
  have RS := Lib.hid (HR.out.setNext x.1)
  have OS := Lib.hid (HO.out.trans (Only.sets (r := b) (w := W) 34 (wc x.1)))
  show Code.wp _ _ _ _ (W.setCells b 34 (wc x.1))
  clear t0 t1 t2 t3 t4 fz b0 b1 b2 b3 b4 b5 cd HR HO hz hzx
  generalize W.setCells b 34 (wc x.1) = W2 at RS OS ⊢
  have hz := BlkW.lt RS.out
  have HD := Lib.hid RS.out.drew
  go_region_held3 (fun w' => True)
    (first | trivial | go_keep)
    (first
    | (go_at_call 24; refine (root0 _).mono ?_; rintro e w2 ⟨rfl, hb⟩; have HA := Lib.hid (jload_any (HD.out.below hb) (0, 0, 0) 6))
    | (go_at_call 26; refine HA.out.mono ?_; rintro e w3 ⟨rfl, h1, h2⟩))
  all_goals
    go_wp2
    first
      | go_end0
      | refine bodyPost_ret (results_none rfl _ _ _) rfl ?_
    exact ⟨rfl, h1, Lib.hid (((OS.out.trans Only.drew).trans (Only.of_below hb)).trans h2.out)⟩
set_option maxRecDepth 100000 in
set_option maxHeartbeats 1000000 in
theorem deq_checked (h : JAt w b j) (x : Wd × Bool) (hd : j.done = 6) :
    Calls Tryd.prog 15 #[.pointer (some ⟨b, 0, none⟩), rpv x] w (JLeaf w b (j.take x.1)) := by
  have h1 := h.below (below_alloc (Below.refl _ _) (.cells #[.int .i64 x.1.slot, .int .i64 x.1.gen, .int .i64 x.1.tag, .int .i64 x.1.num, .bool x.1.mark, .bool x.2] 44))
  have HX := Lib.hid (box_rep w x)
  have HO := Lib.hid (Only.of_below (r := b) (below_alloc (Below.refl w.heap.size w) (.cells #[.int .i64 x.1.slot, .int .i64 x.1.gen, .int .i64 x.1.tag, .int .i64 x.1.num, .bool x.1.mark, .bool x.2] 44)))
  have HR := Lib.hid h1
  clear h h1
  unfold rpv
  go_enter Tryd.func15, Tryd.ntmps15
  go_upto_region 1 with fail
  generalize w.alloc (.cells #[.int .i64 x.1.slot, .int .i64 x.1.gen, .int .i64 x.1.tag, .int .i64 x.1.num, .bool x.1.mark, .bool x.2] 44) = W at HR HX HO ⊢
  have hX := HX.out
  have hzx := BlkW.lt hX
  have hrx : w.heap.size ≠ b := fun e => BlkW.ne_ hX HR.out (by decide) e
  obtain ⟨b0, b1, b2, b3, b4, b5⟩ := rep6 hX
  have hz := BlkW.lt HR.out
  have cd := HR.out.done
  clear hX HX
  generalize w.heap.size = g at hzx hrx b0 b1 b2 b3 b4 b5 ⊢
  rw [hd] at cd
  clear hd
  go_wp2_with fail
  refine (jtake HR.out x.1).mono ?_
  rintro e w2 ⟨rfl, h1, h2⟩
  go_wp2
  first
    | go_end0
    | refine bodyPost_ret (results_none rfl _ _ _) rfl ?_
  exact ⟨rfl, h1, Lib.hid (HO.out.trans h2.out)⟩
set_option maxRecDepth 100000 in
set_option maxHeartbeats 1000000 in
theorem deq_read (h : JAt w b j) (x : Wd × Bool) (hd : j.done = 10) :
    Calls Tryd.prog 15 #[.pointer (some ⟨b, 0, none⟩), rpv x] w (JLeaf w b ((j.setVal x.1.num).ask (cSwap (0, 0, 0) j.head j.next) 11)) := by
  have h1 := h.below (below_alloc (Below.refl _ _) (.cells #[.int .i64 x.1.slot, .int .i64 x.1.gen, .int .i64 x.1.tag, .int .i64 x.1.num, .bool x.1.mark, .bool x.2] 44))
  have HX := Lib.hid (box_rep w x)
  have HO := Lib.hid (Only.of_below (r := b) (below_alloc (Below.refl w.heap.size w) (.cells #[.int .i64 x.1.slot, .int .i64 x.1.gen, .int .i64 x.1.tag, .int .i64 x.1.num, .bool x.1.mark, .bool x.2] 44)))
  have HR := Lib.hid h1
  clear h h1
  unfold rpv
  go_enter Tryd.func15, Tryd.ntmps15
  go_upto_region 1 with fail
  generalize w.alloc (.cells #[.int .i64 x.1.slot, .int .i64 x.1.gen, .int .i64 x.1.tag, .int .i64 x.1.num, .bool x.1.mark, .bool x.2] 44) = W at HR HX HO ⊢
  have hX := HX.out
  have hzx := BlkW.lt hX
  have hrx : w.heap.size ≠ b := fun e => BlkW.ne_ hX HR.out (by decide) e
  obtain ⟨b0, b1, b2, b3, b4, b5⟩ := rep6 hX
  have hz := BlkW.lt HR.out
  have cd := HR.out.done
  clear hX HX
  generalize w.heap.size = g at hzx hrx b0 b1 b2 b3 b4 b5 ⊢
  rw [hd] at cd
  clear hd
  have cv := HR.out.val
  have fz : ∀ o, W.frozen? ⟨b, o, none⟩ = false := HR.out.frozen
  go_upto_region 22 with fail
  have RS := Lib.hid (HR.out.setVal x.1.num)
  have OS := Lib.hid (HO.out.trans (((show Off (fun i => i = b) W _ from Off.refl _ W).set (.inl rfl) 39 (.int .i64 x.1.num))))
  show Code.wp _ _ _ _ (W.setCell ⟨b, 39, none⟩ (.int .i64 x.1.num))
  clear cv fz b0 b1 b2 b3 b4 b5 cd HR HO hz hzx
  generalize W.setCell ⟨b, 39, none⟩ (.int .i64 x.1.num) = W2 at RS OS ⊢
  have hz := BlkW.lt RS.out
  have HD := Lib.hid RS.out.drew
  obtain ⟨he0, he1, he2, he3, he4⟩ : W2.cell? ⟨b, 24, none⟩ = some (.int .i64 j.head.slot) ∧ W2.cell? ⟨b, 25, none⟩ = some (.int .i64 j.head.gen) ∧ W2.cell? ⟨b, 26, none⟩ = some (.int .i64 j.head.tag) ∧ W2.cell? ⟨b, 27, none⟩ = some (.int .i64 j.head.num) ∧ W2.cell? ⟨b, 28, none⟩ = some (.bool j.head.mark) := RS.out.head5
  obtain ⟨ne0, ne1, ne2, ne3, ne4⟩ : W2.cell? ⟨b, 34, none⟩ = some (.int .i64 j.next.slot) ∧ W2.cell? ⟨b, 35, none⟩ = some (.int .i64 j.next.gen) ∧ W2.cell? ⟨b, 36, none⟩ = some (.int .i64 j.next.tag) ∧ W2.cell? ⟨b, 37, none⟩ = some (.int .i64 j.next.num) ∧ W2.cell? ⟨b, 38, none⟩ = some (.bool j.next.mark) := RS.out.next5
  go_region_held3 (fun w' => (w'.cell? ⟨b, 24, none⟩ = some (.int .i64 j.head.slot) ∧ w'.cell? ⟨b, 25, none⟩ = some (.int .i64 j.head.gen) ∧ w'.cell? ⟨b, 26, none⟩ = some (.int .i64 j.head.tag) ∧ w'.cell? ⟨b, 27, none⟩ = some (.int .i64 j.head.num) ∧ w'.cell? ⟨b, 28, none⟩ = some (.bool j.head.mark)) ∧ (w'.cell? ⟨b, 34, none⟩ = some (.int .i64 j.next.slot) ∧ w'.cell? ⟨b, 35, none⟩ = some (.int .i64 j.next.gen) ∧ w'.cell? ⟨b, 36, none⟩ = some (.int .i64 j.next.tag) ∧ w'.cell? ⟨b, 37, none⟩ = some (.int .i64 j.next.num) ∧ w'.cell? ⟨b, 38, none⟩ = some (.bool j.next.mark)))
    (first | go_keep | trivial | exact ⟨JAt.head5 (j := j.setVal x.1.num) (HD.out.below hb), JAt.next5 (j := j.setVal x.1.num) (HD.out.below hb)⟩ | exact ⟨JAt.head5 (j := ((j.setVal x.1.num).ask (cSwap (0, 0, 0) j.head j.next) 11)) h1.out, JAt.next5 (j := ((j.setVal x.1.num).ask (cSwap (0, 0, 0) j.head j.next) 11)) h1.out⟩)
    (first
    | (go_at_call 24; refine (root0 _).mono ?_; rintro e w2 ⟨rfl, hb⟩; have HA := Lib.hid (jswap_any (HD.out.below hb) (0, 0, 0) j.head j.next 11))
    | (go_at_call 23; refine HA.out.mono ?_; rintro e w3 ⟨rfl, h1, h2⟩))
  all_goals
    go_wp2
    first
      | go_end0
      | refine bodyPost_ret (results_none rfl _ _ _) rfl ?_
    exact ⟨rfl, h1, Lib.hid (((OS.out.trans Only.drew).trans (Only.of_below hb)).trans h2.out)⟩
set_option maxRecDepth 100000 in
set_option maxHeartbeats 1000000 in
theorem deq_over (h : JAt w b j) (x : Wd × Bool) (hd : j.done = 12) :
    Calls Tryd.prog 15 #[.pointer (some ⟨b, 0, none⟩), rpv x] w (JLeaf w b (j.end_ 1 j.val)) := by
  have h1 := h.below (below_alloc (Below.refl _ _) (.cells #[.int .i64 x.1.slot, .int .i64 x.1.gen, .int .i64 x.1.tag, .int .i64 x.1.num, .bool x.1.mark, .bool x.2] 44))
  have HX := Lib.hid (box_rep w x)
  have HO := Lib.hid (Only.of_below (r := b) (below_alloc (Below.refl w.heap.size w) (.cells #[.int .i64 x.1.slot, .int .i64 x.1.gen, .int .i64 x.1.tag, .int .i64 x.1.num, .bool x.1.mark, .bool x.2] 44)))
  have HR := Lib.hid h1
  clear h h1
  unfold rpv
  go_enter Tryd.func15, Tryd.ntmps15
  go_upto_region 1 with fail
  generalize w.alloc (.cells #[.int .i64 x.1.slot, .int .i64 x.1.gen, .int .i64 x.1.tag, .int .i64 x.1.num, .bool x.1.mark, .bool x.2] 44) = W at HR HX HO ⊢
  have hX := HX.out
  have hzx := BlkW.lt hX
  have hrx : w.heap.size ≠ b := fun e => BlkW.ne_ hX HR.out (by decide) e
  obtain ⟨b0, b1, b2, b3, b4, b5⟩ := rep6 hX
  have hz := BlkW.lt HR.out
  have cd := HR.out.done
  clear hX HX
  generalize w.heap.size = g at hzx hrx b0 b1 b2 b3 b4 b5 ⊢
  rw [hd] at cd
  clear hd
  have cv := HR.out.val
  have HA := Lib.hid (jend_any HR.out.drew 1 j.val)
  go_upto_region 23 with fail
  go_region_with (first | (go_at_call 19; refine HA.out.mono ?_; rintro e w3 ⟨rfl, h1, h2⟩))
  all_goals
    go_wp2
    first
      | go_end0
      | refine bodyPost_ret (results_none rfl _ _ _) rfl ?_
    exact ⟨rfl, h1, Lib.hid ((HO.out.trans Only.drew).trans h2.out)⟩
set_option maxRecDepth 100000 in
set_option maxHeartbeats 1000000 in
theorem deq_13 (h : JAt w b j) (x : Wd × Bool) (hd : j.done = 13) :
    Calls Tryd.prog 15 #[.pointer (some ⟨b, 0, none⟩), rpv x] w (JLeaf w b (j)) := by
  have h1 := h.below (below_alloc (Below.refl _ _) (.cells #[.int .i64 x.1.slot, .int .i64 x.1.gen, .int .i64 x.1.tag, .int .i64 x.1.num, .bool x.1.mark, .bool x.2] 44))
  have HX := Lib.hid (box_rep w x)
  have HO := Lib.hid (Only.of_below (r := b) (below_alloc (Below.refl w.heap.size w) (.cells #[.int .i64 x.1.slot, .int .i64 x.1.gen, .int .i64 x.1.tag, .int .i64 x.1.num, .bool x.1.mark, .bool x.2] 44)))
  have HR := Lib.hid h1
  clear h h1
  unfold rpv
  go_enter Tryd.func15, Tryd.ntmps15
  go_upto_region 1 with fail
  generalize w.alloc (.cells #[.int .i64 x.1.slot, .int .i64 x.1.gen, .int .i64 x.1.tag, .int .i64 x.1.num, .bool x.1.mark, .bool x.2] 44) = W at HR HX HO ⊢
  have hX := HX.out
  have hzx := BlkW.lt hX
  have hrx : w.heap.size ≠ b := fun e => BlkW.ne_ hX HR.out (by decide) e
  obtain ⟨b0, b1, b2, b3, b4, b5⟩ := rep6 hX
  have hz := BlkW.lt HR.out
  have cd := HR.out.done
  clear hX HX
  generalize w.heap.size = g at hzx hrx b0 b1 b2 b3 b4 b5 ⊢
  rw [hd] at cd
  clear hd
  go_wp2
  first
    | go_end0
    | refine bodyPost_ret (results_none rfl _ _ _) rfl ?_
  exact ⟨rfl, HR, HO⟩
end
end Go.Proofs.YtihjklimcchkhaaDoor.Co
