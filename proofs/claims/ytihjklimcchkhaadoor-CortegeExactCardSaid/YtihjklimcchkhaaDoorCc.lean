/- cortege: swap, bring, the looks, link, take. A template (made by gen_XCc.py). -/
import Derived.Test.YtihjklimcchkhaaDoorCb
namespace Go.Proofs.YtihjklimcchkhaaDoor.Co
open Go.RowKit Go.Extern.Stop Go.Stop Go.Extern Go.Sort
section
variable {w w' : World} {b : Nat} {j j' : Jb}
set_option maxRecDepth 100000 in
set_option maxHeartbeats 1000000 in
theorem jswap_any (h : JAt w b j) (x : Int × Int × Int) (s r : Wd) (d : Int) :
    Calls Tryd.prog 23 #[.pointer (some ⟨b, 0, none⟩), adv x, wv s, wv r, .int .i64 d] w (JLeaf w b (j.ask (cSwap x s r) d)) := by
  have hlt := BlkW.lt h
  have hb := below_alloc (below_alloc (below_alloc (Below.refl w.heap.size w) (.cells #[.int .i64 x.1, .int .i64 x.2.1, .int .i64 x.2.2] 35)) (.cells #[.int .i64 s.slot, .int .i64 s.gen, .int .i64 s.tag, .int .i64 s.num, .bool s.mark] 37)) (.cells #[.int .i64 r.slot, .int .i64 r.gen, .int .i64 r.tag, .int .i64 r.num, .bool r.mark] 37)
  have HR := Lib.hid (h.below hb)
  have HO := Lib.hid (Only.of_below (r := b) hb)
  obtain ⟨hA, hS, hR⟩ := blk3 w #[.int .i64 x.1, .int .i64 x.2.1, .int .i64 x.2.2] #[.int .i64 s.slot, .int .i64 s.gen, .int .i64 s.tag, .int .i64 s.num, .bool s.mark] #[.int .i64 r.slot, .int .i64 r.gen, .int .i64 r.tag, .int .i64 r.num, .bool r.mark] 35 37 37
  clear h hb
  unfold adv wv
  go_enter Tryd.func23, Tryd.ntmps23
  go_upto_region 1 with fail
  show Code.wp _ _ _ _ (((w.alloc (.cells #[.int .i64 x.1, .int .i64 x.2.1, .int .i64 x.2.2] 35)).alloc (.cells #[.int .i64 s.slot, .int .i64 s.gen, .int .i64 s.tag, .int .i64 s.num, .bool s.mark] 37)).alloc (.cells #[.int .i64 r.slot, .int .i64 r.gen, .int .i64 r.tag, .int .i64 r.num, .bool r.mark] 37))
  generalize ((w.alloc (.cells #[.int .i64 x.1, .int .i64 x.2.1, .int .i64 x.2.2] 35)).alloc (.cells #[.int .i64 s.slot, .int .i64 s.gen, .int .i64 s.tag, .int .i64 s.num, .bool s.mark] 37)).alloc (.cells #[.int .i64 r.slot, .int .i64 r.gen, .int .i64 r.tag, .int .i64 r.num, .bool r.mark] 37) = W at HR HO hA hS hR ⊢
  have z0 := hA.lt
  have z1 := hS.lt
  have z2 := hR.lt
  have a0 : W.cell? ⟨w.heap.size, 0, none⟩ = some (.int .i64 x.1) := hA.cell 0
  have a1 : W.cell? ⟨w.heap.size, 1, none⟩ = some (.int .i64 x.2.1) := hA.cell 1
  have a2 : W.cell? ⟨w.heap.size, 2, none⟩ = some (.int .i64 x.2.2) := hA.cell 2
  have s0 : W.cell? ⟨w.heap.size + 1, 0, none⟩ = some (.int .i64 s.slot) := hS.cell 0
  have s1 : W.cell? ⟨w.heap.size + 1, 1, none⟩ = some (.int .i64 s.gen) := hS.cell 1
  have s2 : W.cell? ⟨w.heap.size + 1, 2, none⟩ = some (.int .i64 s.tag) := hS.cell 2
  have s3 : W.cell? ⟨w.heap.size + 1, 3, none⟩ = some (.int .i64 s.num) := hS.cell 3
  have s4 : W.cell? ⟨w.heap.size + 1, 4, none⟩ = some (.bool s.mark) := hS.cell 4
  have r0 : W.cell? ⟨w.heap.size + 1 + 1, 0, none⟩ = some (.int .i64 r.slot) := hR.cell 0
  have r1 : W.cell? ⟨w.heap.size + 1 + 1, 1, none⟩ = some (.int .i64 r.gen) := hR.cell 1
  have r2 : W.cell? ⟨w.heap.size + 1 + 1, 2, none⟩ = some (.int .i64 r.tag) := hR.cell 2
  have r3 : W.cell? ⟨w.heap.size + 1 + 1, 3, none⟩ = some (.int .i64 r.num) := hR.cell 3
  have r4 : W.cell? ⟨w.heap.size + 1 + 1, 4, none⟩ = some (.bool r.mark) := hR.cell 4
  have n0 : w.heap.size ≠ b := by omega
  have n1 : w.heap.size + 1 ≠ b := by omega
  have n2 : w.heap.size + 1 + 1 ≠ b := by omega
  clear hA hS hR hlt
  generalize w.heap.size = g at z0 z1 z2 n0 n1 n2 a0 a1 a2 s0 s1 s2 s3 s4 r0 r1 r2 r3 r4 ⊢
  have hz := BlkW.lt HR.out
  have HD := Lib.hid HR.out.drew
  go_region_held3 (fun w' => w'.cell? ⟨g, 0, none⟩ = some (.int .i64 x.1) ∧ w'.cell? ⟨g, 1, none⟩ = some (.int .i64 x.2.1) ∧ w'.cell? ⟨g, 2, none⟩ = some (.int .i64 x.2.2) ∧ w'.cell? ⟨g + 1, 0, none⟩ = some (.int .i64 s.slot) ∧ w'.cell? ⟨g + 1, 1, none⟩ = some (.int .i64 s.gen) ∧ w'.cell? ⟨g + 1, 2, none⟩ = some (.int .i64 s.tag) ∧ w'.cell? ⟨g + 1, 3, none⟩ = some (.int .i64 s.num) ∧ w'.cell? ⟨g + 1, 4, none⟩ = some (.bool s.mark) ∧ w'.cell? ⟨g + 1 + 1, 0, none⟩ = some (.int .i64 r.slot) ∧ w'.cell? ⟨g + 1 + 1, 1, none⟩ = some (.int .i64 r.gen) ∧ w'.cell? ⟨g + 1 + 1, 2, none⟩ = some (.int .i64 r.tag) ∧ w'.cell? ⟨g + 1 + 1, 3, none⟩ = some (.int .i64 r.num) ∧ w'.cell? ⟨g + 1 + 1, 4, none⟩ = some (.bool r.mark))
    (first | go_keep | trivial | (have hq := Only.of_below (r := b) hb; exact ⟨hq.cell z0 n0 a0, hq.cell z0 n0 a1, hq.cell z0 n0 a2, hq.cell z1 n1 s0, hq.cell z1 n1 s1, hq.cell z1 n1 s2, hq.cell z1 n1 s3, hq.cell z1 n1 s4, hq.cell z2 n2 r0, hq.cell z2 n2 r1, hq.cell z2 n2 r2, hq.cell z2 n2 r3, hq.cell z2 n2 r4⟩) | (have hq := (Only.of_below (r := b) hb).trans h2.out; exact ⟨hq.cell z0 n0 a0, hq.cell z0 n0 a1, hq.cell z0 n0 a2, hq.cell z1 n1 s0, hq.cell z1 n1 s1, hq.cell z1 n1 s2, hq.cell z1 n1 s3, hq.cell z1 n1 s4, hq.cell z2 n2 r0, hq.cell z2 n2 r1, hq.cell z2 n2 r2, hq.cell z2 n2 r3, hq.cell z2 n2 r4⟩))
    (first
    | (go_at_call 36; refine (To_at _ _ _ _ _ _ _ _ _ _ _).mono ?_; rintro e w2 ⟨rfl, hb⟩; have HA := Lib.hid (jask_any (HD.out.below hb) (cSwap x s r) d))
    | (go_at_call 18; refine HA.out.mono ?_; rintro e w3 ⟨rfl, h1, h2⟩))
  all_goals
    go_wp2
    first
      | go_end0
      | refine bodyPost_ret (results_none rfl _ _ _) rfl ?_
    exact ⟨rfl, h1, Lib.hid (((HO.out.trans Only.drew).trans (Only.of_below hb)).trans h2.out)⟩
set_option maxRecDepth 100000 in
set_option maxHeartbeats 1000000 in
theorem jlookT (h : JAt w b j) : Calls Tryd.prog 25 #[.pointer (some ⟨b, 0, none⟩)] w (JLeaf w b j.lookT) := by
  have HR := Lib.hid h
  have hz := BlkW.lt h
  clear h
  have HD := Lib.hid HR.out.drew
  go_enter Tryd.func25, Tryd.ntmps25
  go_upto_region 0 with fail
  go_region_held3 (fun w' => True)
    (first | trivial | go_keep)
    (first
    | (go_at_call 24; refine (root1 _).mono ?_; rintro e w2 ⟨rfl, hb⟩; have HA := Lib.hid (jprotect_any (HD.out.below hb) (0, 0, 1) 0 3))
    | (go_at_call 29; refine HA.out.mono ?_; rintro e w3 ⟨rfl, h1, h2⟩))
  all_goals
    go_wp2
    first
      | go_end0
      | refine bodyPost_ret (results_none rfl _ _ _) rfl ?_
    exact ⟨rfl, h1, Lib.hid ((Only.drew.trans (Only.of_below hb)).trans h2.out)⟩
set_option maxRecDepth 100000 in
set_option maxHeartbeats 1000000 in
theorem jlookH (h : JAt w b j) : Calls Tryd.prog 28 #[.pointer (some ⟨b, 0, none⟩)] w (JLeaf w b j.lookH) := by
  have HR := Lib.hid h
  have hz := BlkW.lt h
  clear h
  have HD := Lib.hid HR.out.drew
  go_enter Tryd.func28, Tryd.ntmps28
  go_upto_region 0 with fail
  go_region_held3 (fun w' => True)
    (first | trivial | go_keep)
    (first
    | (go_at_call 24; refine (root0 _).mono ?_; rintro e w2 ⟨rfl, hb⟩; have HA := Lib.hid (jprotect_any (HD.out.below hb) (0, 0, 0) 0 3))
    | (go_at_call 29; refine HA.out.mono ?_; rintro e w3 ⟨rfl, h1, h2⟩))
  all_goals
    go_wp2
    first
      | go_end0
      | refine bodyPost_ret (results_none rfl _ _ _) rfl ?_
    exact ⟨rfl, h1, Lib.hid ((Only.drew.trans (Only.of_below hb)).trans h2.out)⟩
set_option maxRecDepth 100000 in
set_option maxHeartbeats 1000000 in
theorem jbring (h : JAt w b j) : Calls Tryd.prog 40 #[.pointer (some ⟨b, 0, none⟩)] w (JLeaf w b j.bring) := by
  have HR := Lib.hid h
  have hz := BlkW.lt h
  clear h
  have HD := Lib.hid HR.out.drew
  go_enter Tryd.func40, Tryd.ntmps40
  go_upto_region 0 with fail
  obtain ⟨ta0, ta1, ta2, ta3, ta4⟩ := HR.out.tail5
  obtain ⟨ne0, ne1, ne2, ne3, ne4⟩ := HR.out.next5
  go_region_held3 (fun w' => (w'.cell? ⟨b, 29, none⟩ = some (.int .i64 j.tail.slot) ∧ w'.cell? ⟨b, 30, none⟩ = some (.int .i64 j.tail.gen) ∧ w'.cell? ⟨b, 31, none⟩ = some (.int .i64 j.tail.tag) ∧ w'.cell? ⟨b, 32, none⟩ = some (.int .i64 j.tail.num) ∧ w'.cell? ⟨b, 33, none⟩ = some (.bool j.tail.mark)) ∧ (w'.cell? ⟨b, 34, none⟩ = some (.int .i64 j.next.slot) ∧ w'.cell? ⟨b, 35, none⟩ = some (.int .i64 j.next.gen) ∧ w'.cell? ⟨b, 36, none⟩ = some (.int .i64 j.next.tag) ∧ w'.cell? ⟨b, 37, none⟩ = some (.int .i64 j.next.num) ∧ w'.cell? ⟨b, 38, none⟩ = some (.bool j.next.mark)))
    (first | go_keep | trivial | exact ⟨JAt.tail5 (j := j) (HD.out.below hb), JAt.next5 (j := j) (HD.out.below hb)⟩ | exact ⟨JAt.tail5 (j := j.bring) h1.out, JAt.next5 (j := j.bring) h1.out⟩)
    (first
    | (go_at_call 24; refine (root1 _).mono ?_; rintro e w2 ⟨rfl, hb⟩; have HA := Lib.hid (jswap_any (HD.out.below hb) (0, 0, 1) j.tail j.next 7))
    | (go_at_call 23; refine HA.out.mono ?_; rintro e w3 ⟨rfl, h1, h2⟩))
  all_goals
    go_wp2
    first
      | go_end0
      | refine bodyPost_ret (results_none rfl _ _ _) rfl ?_
    exact ⟨rfl, h1, Lib.hid ((Only.drew.trans (Only.of_below hb)).trans h2.out)⟩
theorem Same_is {a c : Wd} {q : Bool} (h : sameW a c = q) (w : World) : Calls Tryd.prog 38 #[.agg #[.int .i64 a.slot, .int .i64 a.gen, .int .i64 a.tag, .int .i64 a.num, .bool a.mark], .agg #[.int .i64 c.slot, .int .i64 c.gen, .int .i64 c.tag, .int .i64 c.num, .bool c.mark]] w fun e w' => e = .returned (.bool q) ∧ Below w.heap.size w w' := h ▸ Same_any a.slot a.gen a.tag a.num a.mark c.slot c.gen c.tag c.num c.mark w
set_option maxRecDepth 100000 in
set_option maxHeartbeats 1000000 in
theorem link_other (h : JAt w b j) (now : Wd) (hs : sameW now j.tail = false) :
    Calls Tryd.prog 27 #[.pointer (some ⟨b, 0, none⟩), wv now] w (JLeaf w b (j.lookT)) := by
  have HS := Lib.hid hs
  clear hs
  have HR := Lib.hid (h.below (below_alloc (Below.refl w.heap.size w) (.cells #[.int .i64 now.slot, .int .i64 now.gen, .int .i64 now.tag, .int .i64 now.num, .bool now.mark] 37)))
  have HO := Lib.hid (Only.of_below (r := b) (below_alloc (Below.refl w.heap.size w) (.cells #[.int .i64 now.slot, .int .i64 now.gen, .int .i64 now.tag, .int .i64 now.num, .bool now.mark] 37)))
  have hX := BlkW.new w 37 #[.int .i64 now.slot, .int .i64 now.gen, .int .i64 now.tag, .int .i64 now.num, .bool now.mark]
  clear h
  unfold wv
  go_enter Tryd.func27, Tryd.ntmps27
  go_upto_region 2 with fail
  generalize w.alloc (.cells #[.int .i64 now.slot, .int .i64 now.gen, .int .i64 now.tag, .int .i64 now.num, .bool now.mark] 37) = W at HR HO hX ⊢
  have b0 := cell_regrown (show W.cell? ⟨w.heap.size, 0, none⟩ = some (.int .i64 now.slot) from hX.cell 0)
  have b1 := cell_regrown (show W.cell? ⟨w.heap.size, 1, none⟩ = some (.int .i64 now.gen) from hX.cell 1)
  have b2 := cell_regrown (show W.cell? ⟨w.heap.size, 2, none⟩ = some (.int .i64 now.tag) from hX.cell 2)
  have b3 := cell_regrown (show W.cell? ⟨w.heap.size, 3, none⟩ = some (.int .i64 now.num) from hX.cell 3)
  have b4 := cell_regrown (show W.cell? ⟨w.heap.size, 4, none⟩ = some (.bool now.mark) from hX.cell 4)
  clear hX
  generalize w.heap.size = g at b0 b1 b2 b3 b4 ⊢
  obtain ⟨q0, q1, q2, q3, q4⟩ := HR.out.tail5
  replace q0 := cell_regrown q0
  replace q1 := cell_regrown q1
  replace q2 := cell_regrown q2
  replace q3 := cell_regrown q3
  replace q4 := cell_regrown q4
  have HN : Hid (∀ d os, Calls Tryd.prog 38 #[.agg #[.int .i64 now.slot, .int .i64 now.gen, .int .i64 now.tag, .int .i64 now.num, .bool now.mark], .agg #[.int .i64 j.tail.slot, .int .i64 j.tail.gen, .int .i64 j.tail.tag, .int .i64 j.tail.num, .bool j.tail.mark]] (grow (redrawn W d) os) fun e w'' => e = .returned (.bool false) ∧ ∃ p : Regrown, w'' = grow (redrawn W p.d) p.os) := Lib.hid (fun d os => Calls.regrown_of (Same_is HS.out _))
  refine wp_region_quiet_below (by kernel_rfl) (by kernel_rfl) ?_
  repeat (go_big_quiet_step ((first | with_reducible exact HN.out _ _)))
  refine wpQuiet_nil ?_
  intro _ hw'
  obtain ⟨⟨dq, osq⟩, hw''⟩ := hw'
  subst hw''
  have hb := below_regrown W dq osq
  generalize grow (redrawn W dq) osq = w1 at hb ⊢
  have HR1 := Lib.hid (HR.out.below hb)
  have HO1 := Lib.hid (HO.out.trans (Only.of_below (r := b) hb))
  clear HR HO hb b0 b1 b2 b3 b4 q0 q1 q2 q3 q4 HN HS
  have hz := BlkW.lt HR1.out
  go_wp2_with fail
  refine (jlookT HR1.out).mono ?_
  rintro e w2 ⟨rfl, h1, h2⟩
  go_wp2
  first
    | go_end0
    | refine bodyPost_ret (results_none rfl _ _ _) rfl ?_
  exact ⟨rfl, h1, Lib.hid (HO1.out.trans h2.out)⟩
set_option maxRecDepth 100000 in
set_option maxHeartbeats 1000000 in
theorem link_bring (h : JAt w b j) (now : Wd) (hs : sameW now j.tail = true) (hx : ¬ j.next.slot = 0) :
    Calls Tryd.prog 27 #[.pointer (some ⟨b, 0, none⟩), wv now] w (JLeaf w b (j.bring)) := by
  have HS := Lib.hid hs
  clear hs
  have HX := Lib.hid hx
  clear hx
  have HR := Lib.hid (h.below (below_alloc (Below.refl w.heap.size w) (.cells #[.int .i64 now.slot, .int .i64 now.gen, .int .i64 now.tag, .int .i64 now.num, .bool now.mark] 37)))
  have HO := Lib.hid (Only.of_below (r := b) (below_alloc (Below.refl w.heap.size w) (.cells #[.int .i64 now.slot, .int .i64 now.gen, .int .i64 now.tag, .int .i64 now.num, .bool now.mark] 37)))
  have hX := BlkW.new w 37 #[.int .i64 now.slot, .int .i64 now.gen, .int .i64 now.tag, .int .i64 now.num, .bool now.mark]
  clear h
  unfold wv
  go_enter Tryd.func27, Tryd.ntmps27
  go_upto_region 2 with fail
  generalize w.alloc (.cells #[.int .i64 now.slot, .int .i64 now.gen, .int .i64 now.tag, .int .i64 now.num, .bool now.mark] 37) = W at HR HO hX ⊢
  have b0 := cell_regrown (show W.cell? ⟨w.heap.size, 0, none⟩ = some (.int .i64 now.slot) from hX.cell 0)
  have b1 := cell_regrown (show W.cell? ⟨w.heap.size, 1, none⟩ = some (.int .i64 now.gen) from hX.cell 1)
  have b2 := cell_regrown (show W.cell? ⟨w.heap.size, 2, none⟩ = some (.int .i64 now.tag) from hX.cell 2)
  have b3 := cell_regrown (show W.cell? ⟨w.heap.size, 3, none⟩ = some (.int .i64 now.num) from hX.cell 3)
  have b4 := cell_regrown (show W.cell? ⟨w.heap.size, 4, none⟩ = some (.bool now.mark) from hX.cell 4)
  clear hX
  generalize w.heap.size = g at b0 b1 b2 b3 b4 ⊢
  obtain ⟨q0, q1, q2, q3, q4⟩ := HR.out.tail5
  replace q0 := cell_regrown q0
  replace q1 := cell_regrown q1
  replace q2 := cell_regrown q2
  replace q3 := cell_regrown q3
  replace q4 := cell_regrown q4
  have HN : Hid (∀ d os, Calls Tryd.prog 38 #[.agg #[.int .i64 now.slot, .int .i64 now.gen, .int .i64 now.tag, .int .i64 now.num, .bool now.mark], .agg #[.int .i64 j.tail.slot, .int .i64 j.tail.gen, .int .i64 j.tail.tag, .int .i64 j.tail.num, .bool j.tail.mark]] (grow (redrawn W d) os) fun e w'' => e = .returned (.bool true) ∧ ∃ p : Regrown, w'' = grow (redrawn W p.d) p.os) := Lib.hid (fun d os => Calls.regrown_of (Same_is HS.out _))
  refine wp_region_quiet_below (by kernel_rfl) (by kernel_rfl) ?_
  repeat (go_big_quiet_step ((first | with_reducible exact HN.out _ _)))
  refine wpQuiet_nil ?_
  intro _ hw'
  obtain ⟨⟨dq, osq⟩, hw''⟩ := hw'
  subst hw''
  have hb := below_regrown W dq osq
  generalize grow (redrawn W dq) osq = w1 at hb ⊢
  have HR1 := Lib.hid (HR.out.below hb)
  have HO1 := Lib.hid (HO.out.trans (Only.of_below (r := b) hb))
  clear HR HO hb b0 b1 b2 b3 b4 q0 q1 q2 q3 q4 HN HS
  have hz := BlkW.lt HR1.out
  obtain ⟨q0, q1, q2, q3, q4⟩ := HR1.out.next5
  have HQ := Lib.hid (show (j.next.slot == 0) = false by have := HX.out; simpa using this)
  go_wp2_with fail
  refine (Nil_is _ _ _ _ _ _ HQ.out _).mono ?_
  rintro e w2 ⟨rfl, hb⟩
  have HR2 := Lib.hid (HR1.out.below hb)
  have HO2 := Lib.hid (HO1.out.trans (Only.of_below (r := b) hb))
  clear HR1 HO1 hb q0 q1 q2 q3 q4 HQ HX hz
  have hz := BlkW.lt HR2.out
  go_wp2_with fail
  refine (jbring HR2.out).mono ?_
  rintro e w3 ⟨rfl, h1, h2⟩
  go_wp2
  first
    | go_end0
    | refine bodyPost_ret (results_none rfl _ _ _) rfl ?_
  exact ⟨rfl, h1, Lib.hid (HO2.out.trans h2.out)⟩
set_option maxRecDepth 100000 in
set_option maxHeartbeats 1000000 in
theorem link_last (h : JAt w b j) (now : Wd) (hs : sameW now j.tail = true) (hx : j.next.slot = 0) :
    Calls Tryd.prog 27 #[.pointer (some ⟨b, 0, none⟩), wv now] w (JLeaf w b (j.ask (cSwap (fld j.tail 2) j.next j.node) 8)) := by
  have HS := Lib.hid hs
  clear hs
  have HX := Lib.hid hx
  clear hx
  have HR := Lib.hid (h.below (below_alloc (Below.refl w.heap.size w) (.cells #[.int .i64 now.slot, .int .i64 now.gen, .int .i64 now.tag, .int .i64 now.num, .bool now.mark] 37)))
  have HO := Lib.hid (Only.of_below (r := b) (below_alloc (Below.refl w.heap.size w) (.cells #[.int .i64 now.slot, .int .i64 now.gen, .int .i64 now.tag, .int .i64 now.num, .bool now.mark] 37)))
  have hX := BlkW.new w 37 #[.int .i64 now.slot, .int .i64 now.gen, .int .i64 now.tag, .int .i64 now.num, .bool now.mark]
  clear h
  unfold wv
  go_enter Tryd.func27, Tryd.ntmps27
  go_upto_region 2 with fail
  generalize w.alloc (.cells #[.int .i64 now.slot, .int .i64 now.gen, .int .i64 now.tag, .int .i64 now.num, .bool now.mark] 37) = W at HR HO hX ⊢
  have b0 := cell_regrown (show W.cell? ⟨w.heap.size, 0, none⟩ = some (.int .i64 now.slot) from hX.cell 0)
  have b1 := cell_regrown (show W.cell? ⟨w.heap.size, 1, none⟩ = some (.int .i64 now.gen) from hX.cell 1)
  have b2 := cell_regrown (show W.cell? ⟨w.heap.size, 2, none⟩ = some (.int .i64 now.tag) from hX.cell 2)
  have b3 := cell_regrown (show W.cell? ⟨w.heap.size, 3, none⟩ = some (.int .i64 now.num) from hX.cell 3)
  have b4 := cell_regrown (show W.cell? ⟨w.heap.size, 4, none⟩ = some (.bool now.mark) from hX.cell 4)
  clear hX
  generalize w.heap.size = g at b0 b1 b2 b3 b4 ⊢
  obtain ⟨q0, q1, q2, q3, q4⟩ := HR.out.tail5
  replace q0 := cell_regrown q0
  replace q1 := cell_regrown q1
  replace q2 := cell_regrown q2
  replace q3 := cell_regrown q3
  replace q4 := cell_regrown q4
  have HN : Hid (∀ d os, Calls Tryd.prog 38 #[.agg #[.int .i64 now.slot, .int .i64 now.gen, .int .i64 now.tag, .int .i64 now.num, .bool now.mark], .agg #[.int .i64 j.tail.slot, .int .i64 j.tail.gen, .int .i64 j.tail.tag, .int .i64 j.tail.num, .bool j.tail.mark]] (grow (redrawn W d) os) fun e w'' => e = .returned (.bool true) ∧ ∃ p : Regrown, w'' = grow (redrawn W p.d) p.os) := Lib.hid (fun d os => Calls.regrown_of (Same_is HS.out _))
  refine wp_region_quiet_below (by kernel_rfl) (by kernel_rfl) ?_
  repeat (go_big_quiet_step ((first | with_reducible exact HN.out _ _)))
  refine wpQuiet_nil ?_
  intro _ hw'
  obtain ⟨⟨dq, osq⟩, hw''⟩ := hw'
  subst hw''
  have hb := below_regrown W dq osq
  generalize grow (redrawn W dq) osq = w1 at hb ⊢
  have HR1 := Lib.hid (HR.out.below hb)
  have HO1 := Lib.hid (HO.out.trans (Only.of_below (r := b) hb))
  clear HR HO hb b0 b1 b2 b3 b4 q0 q1 q2 q3 q4 HN HS
  have hz := BlkW.lt HR1.out
  obtain ⟨q0, q1, q2, q3, q4⟩ := HR1.out.next5
  have HQ := Lib.hid (show (j.next.slot == 0) = true by have := HX.out; simpa using this)
  go_wp2_with fail
  refine (Nil_is _ _ _ _ _ _ HQ.out _).mono ?_
  rintro e w2 ⟨rfl, hb⟩
  have HR2 := Lib.hid (HR1.out.below hb)
  have HO2 := Lib.hid (HO1.out.trans (Only.of_below (r := b) hb))
  clear HR1 HO1 hb q0 q1 q2 q3 q4 HQ HX hz
  have hz := BlkW.lt HR2.out
  have HD := Lib.hid HR2.out.drew
  go_upto_region 1 with fail
  obtain ⟨ta0, ta1, ta2, ta3, ta4⟩ := HR2.out.tail5
  obtain ⟨ne0, ne1, ne2, ne3, ne4⟩ := HR2.out.next5
  obtain ⟨no0, no1, no2, no3, no4⟩ := HR2.out.node5
  go_region_held3 (fun w' => (w'.cell? ⟨b, 29, none⟩ = some (.int .i64 j.tail.slot) ∧ w'.cell? ⟨b, 30, none⟩ = some (.int .i64 j.tail.gen) ∧ w'.cell? ⟨b, 31, none⟩ = some (.int .i64 j.tail.tag) ∧ w'.cell? ⟨b, 32, none⟩ = some (.int .i64 j.tail.num) ∧ w'.cell? ⟨b, 33, none⟩ = some (.bool j.tail.mark)) ∧ (w'.cell? ⟨b, 34, none⟩ = some (.int .i64 j.next.slot) ∧ w'.cell? ⟨b, 35, none⟩ = some (.int .i64 j.next.gen) ∧ w'.cell? ⟨b, 36, none⟩ = some (.int .i64 j.next.tag) ∧ w'.cell? ⟨b, 37, none⟩ = some (.int .i64 j.next.num) ∧ w'.cell? ⟨b, 38, none⟩ = some (.bool j.next.mark)) ∧ (w'.cell? ⟨b, 19, none⟩ = some (.int .i64 j.node.slot) ∧ w'.cell? ⟨b, 20, none⟩ = some (.int .i64 j.node.gen) ∧ w'.cell? ⟨b, 21, none⟩ = some (.int .i64 j.node.tag) ∧ w'.cell? ⟨b, 22, none⟩ = some (.int .i64 j.node.num) ∧ w'.cell? ⟨b, 23, none⟩ = some (.bool j.node.mark)))
    (first | go_keep | trivial | exact ⟨JAt.tail5 (j := j) (HD.out.below hb), JAt.next5 (j := j) (HD.out.below hb), JAt.node5 (j := j) (HD.out.below hb)⟩ | exact ⟨JAt.tail5 (j := (j.ask (cSwap (fld j.tail 2) j.next j.node) 8)) h1.out, JAt.next5 (j := (j.ask (cSwap (fld j.tail 2) j.next j.node) 8)) h1.out, JAt.node5 (j := (j.ask (cSwap (fld j.tail 2) j.next j.node) 8)) h1.out⟩)
    (first
    | (go_at_call 21; refine (Field_at _ _ _ _ _ _ _).mono ?_; rintro e w3 ⟨rfl, hb⟩; have HA := Lib.hid (jswap_any (HD.out.below hb) (fld j.tail 2) j.next j.node 8))
    | (go_at_call 23; refine HA.out.mono ?_; rintro e w4 ⟨rfl, h1, h2⟩))
  all_goals
    go_wp2
    first
      | go_end0
      | refine bodyPost_ret (results_none rfl _ _ _) rfl ?_
    exact ⟨rfl, h1, Lib.hid (((HO2.out.trans Only.drew).trans (Only.of_below hb)).trans h2.out)⟩
set_option maxRecDepth 100000 in
set_option maxHeartbeats 1000000 in
theorem take_other (h : JAt w b j) (now : Wd) (hs : sameW now j.head = false) :
    Calls Tryd.prog 30 #[.pointer (some ⟨b, 0, none⟩), wv now] w (JLeaf w b (j.lookH)) := by
  have HS := Lib.hid hs
  clear hs
  have HR := Lib.hid (h.below (below_alloc (Below.refl w.heap.size w) (.cells #[.int .i64 now.slot, .int .i64 now.gen, .int .i64 now.tag, .int .i64 now.num, .bool now.mark] 37)))
  have HO := Lib.hid (Only.of_below (r := b) (below_alloc (Below.refl w.heap.size w) (.cells #[.int .i64 now.slot, .int .i64 now.gen, .int .i64 now.tag, .int .i64 now.num, .bool now.mark] 37)))
  have hX := BlkW.new w 37 #[.int .i64 now.slot, .int .i64 now.gen, .int .i64 now.tag, .int .i64 now.num, .bool now.mark]
  clear h
  unfold wv
  go_enter Tryd.func30, Tryd.ntmps30
  go_upto_region 2 with fail
  generalize w.alloc (.cells #[.int .i64 now.slot, .int .i64 now.gen, .int .i64 now.tag, .int .i64 now.num, .bool now.mark] 37) = W at HR HO hX ⊢
  have b0 := cell_regrown (show W.cell? ⟨w.heap.size, 0, none⟩ = some (.int .i64 now.slot) from hX.cell 0)
  have b1 := cell_regrown (show W.cell? ⟨w.heap.size, 1, none⟩ = some (.int .i64 now.gen) from hX.cell 1)
  have b2 := cell_regrown (show W.cell? ⟨w.heap.size, 2, none⟩ = some (.int .i64 now.tag) from hX.cell 2)
  have b3 := cell_regrown (show W.cell? ⟨w.heap.size, 3, none⟩ = some (.int .i64 now.num) from hX.cell 3)
  have b4 := cell_regrown (show W.cell? ⟨w.heap.size, 4, none⟩ = some (.bool now.mark) from hX.cell 4)
  clear hX
  generalize w.heap.size = g at b0 b1 b2 b3 b4 ⊢
  obtain ⟨q0, q1, q2, q3, q4⟩ := HR.out.head5
  replace q0 := cell_regrown q0
  replace q1 := cell_regrown q1
  replace q2 := cell_regrown q2
  replace q3 := cell_regrown q3
  replace q4 := cell_regrown q4
  have HN : Hid (∀ d os, Calls Tryd.prog 38 #[.agg #[.int .i64 now.slot, .int .i64 now.gen, .int .i64 now.tag, .int .i64 now.num, .bool now.mark], .agg #[.int .i64 j.head.slot, .int .i64 j.head.gen, .int .i64 j.head.tag, .int .i64 j.head.num, .bool j.head.mark]] (grow (redrawn W d) os) fun e w'' => e = .returned (.bool false) ∧ ∃ p : Regrown, w'' = grow (redrawn W p.d) p.os) := Lib.hid (fun d os => Calls.regrown_of (Same_is HS.out _))
  refine wp_region_quiet_below (by kernel_rfl) (by kernel_rfl) ?_
  repeat (go_big_quiet_step ((first | with_reducible exact HN.out _ _)))
  refine wpQuiet_nil ?_
  intro _ hw'
  obtain ⟨⟨dq, osq⟩, hw''⟩ := hw'
  subst hw''
  have hb := below_regrown W dq osq
  generalize grow (redrawn W dq) osq = w1 at hb ⊢
  have HR1 := Lib.hid (HR.out.below hb)
  have HO1 := Lib.hid (HO.out.trans (Only.of_below (r := b) hb))
  clear HR HO hb b0 b1 b2 b3 b4 q0 q1 q2 q3 q4 HN HS
  have hz := BlkW.lt HR1.out
  go_wp2_with fail
  refine (jlookH HR1.out).mono ?_
  rintro e w2 ⟨rfl, h1, h2⟩
  go_wp2
  first
    | go_end0
    | refine bodyPost_ret (results_none rfl _ _ _) rfl ?_
  exact ⟨rfl, h1, Lib.hid (HO1.out.trans h2.out)⟩
set_option maxRecDepth 100000 in
set_option maxHeartbeats 1000000 in
theorem take_none (h : JAt w b j) (now : Wd) (hs : sameW now j.head = true) (hx : j.next.slot = 0) :
    Calls Tryd.prog 30 #[.pointer (some ⟨b, 0, none⟩), wv now] w (JLeaf w b (j.end_ 2 0)) := by
  have HS := Lib.hid hs
  clear hs
  have HX := Lib.hid hx
  clear hx
  have HR := Lib.hid (h.below (below_alloc (Below.refl w.heap.size w) (.cells #[.int .i64 now.slot, .int .i64 now.gen, .int .i64 now.tag, .int .i64 now.num, .bool now.mark] 37)))
  have HO := Lib.hid (Only.of_below (r := b) (below_alloc (Below.refl w.heap.size w) (.cells #[.int .i64 now.slot, .int .i64 now.gen, .int .i64 now.tag, .int .i64 now.num, .bool now.mark] 37)))
  have hX := BlkW.new w 37 #[.int .i64 now.slot, .int .i64 now.gen, .int .i64 now.tag, .int .i64 now.num, .bool now.mark]
  clear h
  unfold wv
  go_enter Tryd.func30, Tryd.ntmps30
  go_upto_region 2 with fail
  generalize w.alloc (.cells #[.int .i64 now.slot, .int .i64 now.gen, .int .i64 now.tag, .int .i64 now.num, .bool now.mark] 37) = W at HR HO hX ⊢
  have b0 := cell_regrown (show W.cell? ⟨w.heap.size, 0, none⟩ = some (.int .i64 now.slot) from hX.cell 0)
  have b1 := cell_regrown (show W.cell? ⟨w.heap.size, 1, none⟩ = some (.int .i64 now.gen) from hX.cell 1)
  have b2 := cell_regrown (show W.cell? ⟨w.heap.size, 2, none⟩ = some (.int .i64 now.tag) from hX.cell 2)
  have b3 := cell_regrown (show W.cell? ⟨w.heap.size, 3, none⟩ = some (.int .i64 now.num) from hX.cell 3)
  have b4 := cell_regrown (show W.cell? ⟨w.heap.size, 4, none⟩ = some (.bool now.mark) from hX.cell 4)
  clear hX
  generalize w.heap.size = g at b0 b1 b2 b3 b4 ⊢
  obtain ⟨q0, q1, q2, q3, q4⟩ := HR.out.head5
  replace q0 := cell_regrown q0
  replace q1 := cell_regrown q1
  replace q2 := cell_regrown q2
  replace q3 := cell_regrown q3
  replace q4 := cell_regrown q4
  have HN : Hid (∀ d os, Calls Tryd.prog 38 #[.agg #[.int .i64 now.slot, .int .i64 now.gen, .int .i64 now.tag, .int .i64 now.num, .bool now.mark], .agg #[.int .i64 j.head.slot, .int .i64 j.head.gen, .int .i64 j.head.tag, .int .i64 j.head.num, .bool j.head.mark]] (grow (redrawn W d) os) fun e w'' => e = .returned (.bool true) ∧ ∃ p : Regrown, w'' = grow (redrawn W p.d) p.os) := Lib.hid (fun d os => Calls.regrown_of (Same_is HS.out _))
  refine wp_region_quiet_below (by kernel_rfl) (by kernel_rfl) ?_
  repeat (go_big_quiet_step ((first | with_reducible exact HN.out _ _)))
  refine wpQuiet_nil ?_
  intro _ hw'
  obtain ⟨⟨dq, osq⟩, hw''⟩ := hw'
  subst hw''
  have hb := below_regrown W dq osq
  generalize grow (redrawn W dq) osq = w1 at hb ⊢
  have HR1 := Lib.hid (HR.out.below hb)
  have HO1 := Lib.hid (HO.out.trans (Only.of_below (r := b) hb))
  clear HR HO hb b0 b1 b2 b3 b4 q0 q1 q2 q3 q4 HN HS
  have hz := BlkW.lt HR1.out
  obtain ⟨q0, q1, q2, q3, q4⟩ := HR1.out.next5
  have HQ := Lib.hid (show (j.next.slot == 0) = true by have := HX.out; simpa using this)
  go_wp2_with fail
  refine (Nil_is _ _ _ _ _ _ HQ.out _).mono ?_
  rintro e w2 ⟨rfl, hb⟩
  have HR2 := Lib.hid (HR1.out.below hb)
  have HO2 := Lib.hid (HO1.out.trans (Only.of_below (r := b) hb))
  clear HR1 HO1 hb q0 q1 q2 q3 q4 HQ HX hz
  have hz := BlkW.lt HR2.out
  go_wp2_with fail
  refine (jend_any HR2.out 2 0).mono ?_
  rintro e w3 ⟨rfl, h1, h2⟩
  go_wp2
  first
    | go_end0
    | refine bodyPost_ret (results_none rfl _ _ _) rfl ?_
  exact ⟨rfl, h1, Lib.hid (HO2.out.trans h2.out)⟩
set_option maxRecDepth 100000 in
set_option maxHeartbeats 1000000 in
theorem take_bring (h : JAt w b j) (now : Wd) (hs : sameW now j.head = true) (hx : ¬ j.next.slot = 0) (hy : j.head.slot = j.tail.slot) :
    Calls Tryd.prog 30 #[.pointer (some ⟨b, 0, none⟩), wv now] w (JLeaf w b (j.bring)) := by
  have HS := Lib.hid hs
  clear hs
  have HX := Lib.hid hx
  clear hx
  have HY := Lib.hid hy
  clear hy
  have HR := Lib.hid (h.below (below_alloc (Below.refl w.heap.size w) (.cells #[.int .i64 now.slot, .int .i64 now.gen, .int .i64 now.tag, .int .i64 now.num, .bool now.mark] 37)))
  have HO := Lib.hid (Only.of_below (r := b) (below_alloc (Below.refl w.heap.size w) (.cells #[.int .i64 now.slot, .int .i64 now.gen, .int .i64 now.tag, .int .i64 now.num, .bool now.mark] 37)))
  have hX := BlkW.new w 37 #[.int .i64 now.slot, .int .i64 now.gen, .int .i64 now.tag, .int .i64 now.num, .bool now.mark]
  clear h
  unfold wv
  go_enter Tryd.func30, Tryd.ntmps30
  go_upto_region 2 with fail
  generalize w.alloc (.cells #[.int .i64 now.slot, .int .i64 now.gen, .int .i64 now.tag, .int .i64 now.num, .bool now.mark] 37) = W at HR HO hX ⊢
  have b0 := cell_regrown (show W.cell? ⟨w.heap.size, 0, none⟩ = some (.int .i64 now.slot) from hX.cell 0)
  have b1 := cell_regrown (show W.cell? ⟨w.heap.size, 1, none⟩ = some (.int .i64 now.gen) from hX.cell 1)
  have b2 := cell_regrown (show W.cell? ⟨w.heap.size, 2, none⟩ = some (.int .i64 now.tag) from hX.cell 2)
  have b3 := cell_regrown (show W.cell? ⟨w.heap.size, 3, none⟩ = some (.int .i64 now.num) from hX.cell 3)
  have b4 := cell_regrown (show W.cell? ⟨w.heap.size, 4, none⟩ = some (.bool now.mark) from hX.cell 4)
  clear hX
  generalize w.heap.size = g at b0 b1 b2 b3 b4 ⊢
  obtain ⟨q0, q1, q2, q3, q4⟩ := HR.out.head5
  replace q0 := cell_regrown q0
  replace q1 := cell_regrown q1
  replace q2 := cell_regrown q2
  replace q3 := cell_regrown q3
  replace q4 := cell_regrown q4
  have HN : Hid (∀ d os, Calls Tryd.prog 38 #[.agg #[.int .i64 now.slot, .int .i64 now.gen, .int .i64 now.tag, .int .i64 now.num, .bool now.mark], .agg #[.int .i64 j.head.slot, .int .i64 j.head.gen, .int .i64 j.head.tag, .int .i64 j.head.num, .bool j.head.mark]] (grow (redrawn W d) os) fun e w'' => e = .returned (.bool true) ∧ ∃ p : Regrown, w'' = grow (redrawn W p.d) p.os) := Lib.hid (fun d os => Calls.regrown_of (Same_is HS.out _))
  refine wp_region_quiet_below (by kernel_rfl) (by kernel_rfl) ?_
  repeat (go_big_quiet_step ((first | with_reducible exact HN.out _ _)))
  refine wpQuiet_nil ?_
  intro _ hw'
  obtain ⟨⟨dq, osq⟩, hw''⟩ := hw'
  subst hw''
  have hb := below_regrown W dq osq
  generalize grow (redrawn W dq) osq = w1 at hb ⊢
  have HR1 := Lib.hid (HR.out.below hb)
  have HO1 := Lib.hid (HO.out.trans (Only.of_below (r := b) hb))
  clear HR HO hb b0 b1 b2 b3 b4 q0 q1 q2 q3 q4 HN HS
  have hz := BlkW.lt HR1.out
  obtain ⟨q0, q1, q2, q3, q4⟩ := HR1.out.next5
  have HQ := Lib.hid (show (j.next.slot == 0) = false by have := HX.out; simpa using this)
  go_wp2_with fail
  refine (Nil_is _ _ _ _ _ _ HQ.out _).mono ?_
  rintro e w2 ⟨rfl, hb⟩
  have HR2 := Lib.hid (HR1.out.below hb)
  have HO2 := Lib.hid (HO1.out.trans (Only.of_below (r := b) hb))
  clear HR1 HO1 hb q0 q1 q2 q3 q4 HQ HX hz
  have hz := BlkW.lt HR2.out
  have HE := Lib.hid (show (j.head.slot == j.tail.slot) = true by have := HY.out; simpa using this)
  have qa : w2.cell? ⟨b, 24, none⟩ = some (.int .i64 j.head.slot) := HR2.out.head5.1
  have qb : w2.cell? ⟨b, 29, none⟩ = some (.int .i64 j.tail.slot) := HR2.out.tail5.1
  have HE2 := HE.out
  go_upto_region 6 with fail
  replace qa := cell_regrown qa
  replace qb := cell_regrown qb
  refine wp_region_quiet_below (by kernel_rfl) (by kernel_rfl) ?_
  repeat (go_big_quiet_step (fail))
  refine wpQuiet_nil ?_
  intro _ hw'
  obtain ⟨⟨dq, osq⟩, hw''⟩ := hw'
  subst hw''
  have hb := below_regrown w2 dq osq
  generalize grow (redrawn w2 dq) osq = w3 at hb ⊢
  have HR3 := Lib.hid (HR2.out.below hb)
  have HO3 := Lib.hid (HO2.out.trans (Only.of_below (r := b) hb))
  clear HR2 HO2 hb qa qb HE HE2 HY hz
  have hz := BlkW.lt HR3.out
  go_wp2_with fail
  refine (jbring HR3.out).mono ?_
  rintro e w4 ⟨rfl, h1, h2⟩
  go_wp2
  first
    | go_end0
    | refine bodyPost_ret (results_none rfl _ _ _) rfl ?_
  exact ⟨rfl, h1, Lib.hid (HO3.out.trans h2.out)⟩
set_option maxRecDepth 100000 in
set_option maxHeartbeats 1000000 in
theorem take_read (h : JAt w b j) (now : Wd) (hs : sameW now j.head = true) (hx : ¬ j.next.slot = 0) (hy : ¬ j.head.slot = j.tail.slot) :
    Calls Tryd.prog 30 #[.pointer (some ⟨b, 0, none⟩), wv now] w (JLeaf w b (j.ask (cLoad (fld j.next 1)) 10)) := by
  have HS := Lib.hid hs
  clear hs
  have HX := Lib.hid hx
  clear hx
  have HY := Lib.hid hy
  clear hy
  have HR := Lib.hid (h.below (below_alloc (Below.refl w.heap.size w) (.cells #[.int .i64 now.slot, .int .i64 now.gen, .int .i64 now.tag, .int .i64 now.num, .bool now.mark] 37)))
  have HO := Lib.hid (Only.of_below (r := b) (below_alloc (Below.refl w.heap.size w) (.cells #[.int .i64 now.slot, .int .i64 now.gen, .int .i64 now.tag, .int .i64 now.num, .bool now.mark] 37)))
  have hX := BlkW.new w 37 #[.int .i64 now.slot, .int .i64 now.gen, .int .i64 now.tag, .int .i64 now.num, .bool now.mark]
  clear h
  unfold wv
  go_enter Tryd.func30, Tryd.ntmps30
  go_upto_region 2 with fail
  generalize w.alloc (.cells #[.int .i64 now.slot, .int .i64 now.gen, .int .i64 now.tag, .int .i64 now.num, .bool now.mark] 37) = W at HR HO hX ⊢
  have b0 := cell_regrown (show W.cell? ⟨w.heap.size, 0, none⟩ = some (.int .i64 now.slot) from hX.cell 0)
  have b1 := cell_regrown (show W.cell? ⟨w.heap.size, 1, none⟩ = some (.int .i64 now.gen) from hX.cell 1)
  have b2 := cell_regrown (show W.cell? ⟨w.heap.size, 2, none⟩ = some (.int .i64 now.tag) from hX.cell 2)
  have b3 := cell_regrown (show W.cell? ⟨w.heap.size, 3, none⟩ = some (.int .i64 now.num) from hX.cell 3)
  have b4 := cell_regrown (show W.cell? ⟨w.heap.size, 4, none⟩ = some (.bool now.mark) from hX.cell 4)
  clear hX
  generalize w.heap.size = g at b0 b1 b2 b3 b4 ⊢
  obtain ⟨q0, q1, q2, q3, q4⟩ := HR.out.head5
  replace q0 := cell_regrown q0
  replace q1 := cell_regrown q1
  replace q2 := cell_regrown q2
  replace q3 := cell_regrown q3
  replace q4 := cell_regrown q4
  have HN : Hid (∀ d os, Calls Tryd.prog 38 #[.agg #[.int .i64 now.slot, .int .i64 now.gen, .int .i64 now.tag, .int .i64 now.num, .bool now.mark], .agg #[.int .i64 j.head.slot, .int .i64 j.head.gen, .int .i64 j.head.tag, .int .i64 j.head.num, .bool j.head.mark]] (grow (redrawn W d) os) fun e w'' => e = .returned (.bool true) ∧ ∃ p : Regrown, w'' = grow (redrawn W p.d) p.os) := Lib.hid (fun d os => Calls.regrown_of (Same_is HS.out _))
  refine wp_region_quiet_below (by kernel_rfl) (by kernel_rfl) ?_
  repeat (go_big_quiet_step ((first | with_reducible exact HN.out _ _)))
  refine wpQuiet_nil ?_
  intro _ hw'
  obtain ⟨⟨dq, osq⟩, hw''⟩ := hw'
  subst hw''
  have hb := below_regrown W dq osq
  generalize grow (redrawn W dq) osq = w1 at hb ⊢
  have HR1 := Lib.hid (HR.out.below hb)
  have HO1 := Lib.hid (HO.out.trans (Only.of_below (r := b) hb))
  clear HR HO hb b0 b1 b2 b3 b4 q0 q1 q2 q3 q4 HN HS
  have hz := BlkW.lt HR1.out
  obtain ⟨q0, q1, q2, q3, q4⟩ := HR1.out.next5
  have HQ := Lib.hid (show (j.next.slot == 0) = false by have := HX.out; simpa using this)
  go_wp2_with fail
  refine (Nil_is _ _ _ _ _ _ HQ.out _).mono ?_
  rintro e w2 ⟨rfl, hb⟩
  have HR2 := Lib.hid (HR1.out.below hb)
  have HO2 := Lib.hid (HO1.out.trans (Only.of_below (r := b) hb))
  clear HR1 HO1 hb q0 q1 q2 q3 q4 HQ HX hz
  have hz := BlkW.lt HR2.out
  have HE := Lib.hid (show (j.head.slot == j.tail.slot) = false by have := HY.out; simpa using this)
  have qa : w2.cell? ⟨b, 24, none⟩ = some (.int .i64 j.head.slot) := HR2.out.head5.1
  have qb : w2.cell? ⟨b, 29, none⟩ = some (.int .i64 j.tail.slot) := HR2.out.tail5.1
  have HE2 := HE.out
  go_upto_region 6 with fail
  replace qa := cell_regrown qa
  replace qb := cell_regrown qb
  refine wp_region_quiet_below (by kernel_rfl) (by kernel_rfl) ?_
  repeat (go_big_quiet_step (fail))
  refine wpQuiet_nil ?_
  intro _ hw'
  obtain ⟨⟨dq, osq⟩, hw''⟩ := hw'
  subst hw''
  have hb := below_regrown w2 dq osq
  generalize grow (redrawn w2 dq) osq = w3 at hb ⊢
  have HR3 := Lib.hid (HR2.out.below hb)
  have HO3 := Lib.hid (HO2.out.trans (Only.of_below (r := b) hb))
  clear HR2 HO2 hb qa qb HE HE2 HY hz
  have hz := BlkW.lt HR3.out
  have HD := Lib.hid HR3.out.drew
  go_upto_region 1 with fail
  obtain ⟨ne0, ne1, ne2, ne3, ne4⟩ := HR3.out.next5
  go_region_held3 (fun w' => (w'.cell? ⟨b, 34, none⟩ = some (.int .i64 j.next.slot) ∧ w'.cell? ⟨b, 35, none⟩ = some (.int .i64 j.next.gen) ∧ w'.cell? ⟨b, 36, none⟩ = some (.int .i64 j.next.tag) ∧ w'.cell? ⟨b, 37, none⟩ = some (.int .i64 j.next.num) ∧ w'.cell? ⟨b, 38, none⟩ = some (.bool j.next.mark)))
    (first | go_keep | trivial | exact JAt.next5 (j := j) (HD.out.below hb) | exact JAt.next5 (j := (j.ask (cLoad (fld j.next 1)) 10)) h1.out)
    (first
    | (go_at_call 21; refine (Field_at _ _ _ _ _ _ _).mono ?_; rintro e w4 ⟨rfl, hb⟩; have HA := Lib.hid (jload_any (HD.out.below hb) (fld j.next 1) 10))
    | (go_at_call 26; refine HA.out.mono ?_; rintro e w5 ⟨rfl, h1, h2⟩))
  all_goals
    go_wp2
    first
      | go_end0
      | refine bodyPost_ret (results_none rfl _ _ _) rfl ?_
    exact ⟨rfl, h1, Lib.hid (((HO3.out.trans Only.drew).trans (Only.of_below hb)).trans h2.out)⟩
theorem jlink (h : JAt w b j) (now : Wd) : Calls Tryd.prog 27 #[.pointer (some ⟨b, 0, none⟩), wv now] w (JLeaf w b (j.link now)) := by
  unfold Jb.link
  by_cases hs : sameW now j.tail = false
  · rw [if_pos hs]; exact link_other h now hs
  · rw [if_neg hs]
    have hs : sameW now j.tail = true := by simpa using hs
    by_cases hx : j.next.slot = 0
    · rw [if_pos hx]; exact link_last h now hs hx
    · rw [if_neg hx]; exact link_bring h now hs hx
theorem jtake (h : JAt w b j) (now : Wd) : Calls Tryd.prog 30 #[.pointer (some ⟨b, 0, none⟩), wv now] w (JLeaf w b (j.take now)) := by
  unfold Jb.take
  by_cases hs : sameW now j.head = false
  · rw [if_pos hs]; exact take_other h now hs
  · rw [if_neg hs]
    have hs : sameW now j.head = true := by simpa using hs
    by_cases hx : j.next.slot = 0
    · rw [if_pos hx]; exact take_none h now hs hx
    · rw [if_neg hx]
      by_cases hy : j.head.slot = j.tail.slot
      · rw [if_pos hy]; exact take_bring h now hs hx hy
      · rw [if_neg hy]; exact take_read h now hs hx hy
end
end Go.Proofs.YtihjklimcchkhaaDoor.Co
