/- rite: drop, alloc, enter, protect. A template (made by gen_XRc.py). -/
import Derived.Test.YtjilhncnbkaebaaGreatDoorRc
namespace Go.Proofs.YtjilhncnbkaebaaGreatDoor
open Go.RowKit Go.Extern.Stop Go.Stop Go.Extern Go.Sort
section
variable {w : World} {r : Nat} {sv fv nv : Value} {m : Rt}
theorem RtAt.seen5 (h : RtAt w r sv fv nv m) : w.cell? ⟨r, 40, none⟩ = some (.int .i64 m.st.seen.slot) ∧ w.cell? ⟨r, 41, none⟩ = some (.int .i64 m.st.seen.gen) ∧ w.cell? ⟨r, 42, none⟩ = some (.int .i64 m.st.seen.tag) ∧ w.cell? ⟨r, 43, none⟩ = some (.int .i64 m.st.seen.num) ∧ w.cell? ⟨r, 44, none⟩ = some (.bool m.st.seen.mark) := by
  have hh := h.range 40 (wc m.st.seen) (by kernel_rfl)
  exact ⟨hh 0 _ rfl, hh 1 _ rfl, hh 2 _ rfl, hh 3 _ rfl, hh 4 _ rfl⟩
theorem RtAt.clock5 (h : RtAt w r sv fv nv m) : w.cell? ⟨r, 45, none⟩ = some (.int .i64 m.st.clock.slot) ∧ w.cell? ⟨r, 46, none⟩ = some (.int .i64 m.st.clock.gen) ∧ w.cell? ⟨r, 47, none⟩ = some (.int .i64 m.st.clock.tag) ∧ w.cell? ⟨r, 48, none⟩ = some (.int .i64 m.st.clock.num) ∧ w.cell? ⟨r, 49, none⟩ = some (.bool m.st.clock.mark) := by
  have hh := h.range 45 (wc m.st.clock) (by kernel_rfl)
  exact ⟨hh 0 _ rfl, hh 1 _ rfl, hh 2 _ rfl, hh 3 _ rfl, hh 4 _ rfl⟩
theorem RtAt.see (h : RtAt w r sv fv nv m) (d : Wd) : RtAt (w.setCells r 40 (wc d)) r sv fv nv (m.see d) := h.puts 40 (wc d) (by kernel_rfl)
theorem RtAt.setClock (h : RtAt w r sv fv nv m) (d : Wd) : RtAt (w.setCells r 45 (wc d)) r sv fv nv (m.setClock d) := h.puts 45 (wc d) (by kernel_rfl)
theorem Only.sets {r : Nat} {w : World} (o : Nat) (l : List Value) : Only r w (w.setCells r o l) := Off.sets (K := fun j => j = r) (.inl rfl) _ _ (Off.refl _ w)
theorem Only.drew {r : Nat} {w : World} : Only r w w.drew := Only.of_below (Below.refl _ _).drew
set_option maxRecDepth 100000 in
set_option maxHeartbeats 1000000 in
theorem drop_end (h : RtAt w r sv fv nv m) (hd : m.st.done = 1) :
    Calls Tryz.prog 80 #[.pointer (some ⟨r, 0, none⟩)] w (Leaf w r nilS nilS nv m.ok) := by
  have HR := Lib.hid h
  have cd := h.done
  have hz := BlkW.lt h
  rw [hd] at cd
  clear hd h
  go_enter Tryz.func80, Tryz.ntmps80
  go_wp2_with fail
  refine (succeed_any HR.out).mono ?_
  rintro e w1 ⟨rfl, h1, h2⟩
  go_wp2
  refine bodyPost_ret (results_none rfl _ _ _) rfl ?_
  exact ⟨rfl, h1, h2⟩
theorem RtAt.old5 (h : RtAt w r sv fv nv m) : w.cell? ⟨r, 11, none⟩ = some (.int .i64 m.st.call.old.slot) ∧ w.cell? ⟨r, 12, none⟩ = some (.int .i64 m.st.call.old.gen) ∧ w.cell? ⟨r, 13, none⟩ = some (.int .i64 m.st.call.old.tag) ∧ w.cell? ⟨r, 14, none⟩ = some (.int .i64 m.st.call.old.num) ∧ w.cell? ⟨r, 15, none⟩ = some (.bool m.st.call.old.mark) := by
  obtain ⟨q0, q1, q2, q3, q4, q5, q6, q7, q8, q9, q10, q11, q12, q13, _⟩ := h.calls
  exact ⟨q4, q5, q6, q7, q8⟩
theorem old5_ask {a : Ac} {d : Int} (h : RtAt w r sv fv nv (m.ask a d)) : w.cell? ⟨r, 11, none⟩ = some (.int .i64 m.st.call.old.slot) ∧ w.cell? ⟨r, 12, none⟩ = some (.int .i64 m.st.call.old.gen) ∧ w.cell? ⟨r, 13, none⟩ = some (.int .i64 m.st.call.old.tag) ∧ w.cell? ⟨r, 14, none⟩ = some (.int .i64 m.st.call.old.num) ∧ w.cell? ⟨r, 15, none⟩ = some (.bool m.st.call.old.mark) := RtAt.old5 (m := m.ask a d) h
theorem RtAt.at3 (h : RtAt w r sv fv nv m) : w.cell? ⟨r, 8, none⟩ = some (.int .i64 m.st.call.s) ∧ w.cell? ⟨r, 9, none⟩ = some (.int .i64 m.st.call.g) ∧ w.cell? ⟨r, 10, none⟩ = some (.int .i64 m.st.call.f) := by
  obtain ⟨q0, q1, q2, q3, q4, q5, q6, q7, q8, q9, q10, q11, q12, q13, _⟩ := h.calls
  exact ⟨q1, q2, q3⟩
theorem at3_load {a : Int × Int × Int} {d : Int} (h : RtAt w r sv fv nv (m.load a d)) : w.cell? ⟨r, 8, none⟩ = some (.int .i64 m.st.call.s) ∧ w.cell? ⟨r, 9, none⟩ = some (.int .i64 m.st.call.g) ∧ w.cell? ⟨r, 10, none⟩ = some (.int .i64 m.st.call.f) := RtAt.at3 (m := m.load a d) h
set_option maxRecDepth 100000 in
set_option maxHeartbeats 1000000 in
theorem drop_ask (h : RtAt w r sv fv nv m) (hd : m.st.done = 0) :
    Calls Tryz.prog 80 #[.pointer (some ⟨r, 0, none⟩)] w (Leaf w r sv fv nv (m.ask ⟨5, 0, 0, 0, m.st.call.old, zw⟩ 1)) := by
  have cd := h.done
  have hz := BlkW.lt h
  obtain ⟨q4, q5, q6, q7, q8⟩ := h.old5
  have HA := Lib.hid (ask_any h.drew ⟨5, 0, 0, 0, m.st.call.old, zw⟩ 1)
  rw [hd] at cd
  clear hd h
  go_enter Tryz.func80, Tryz.ntmps80
  go_upto_region 2 with fail
  go_region_held3 (fun w' => w'.cell? ⟨r, 11, none⟩ = some (.int .i64 m.st.call.old.slot) ∧ w'.cell? ⟨r, 12, none⟩ = some (.int .i64 m.st.call.old.gen) ∧ w'.cell? ⟨r, 13, none⟩ = some (.int .i64 m.st.call.old.tag) ∧ w'.cell? ⟨r, 14, none⟩ = some (.int .i64 m.st.call.old.num) ∧ w'.cell? ⟨r, 15, none⟩ = some (.bool m.st.call.old.mark))
    (first | go_keep | exact old5_ask h1.out)
    (first | (go_at_call 104; refine HA.out.mono ?_; rintro e w3 ⟨rfl, h1, h2⟩))
  all_goals
    go_end0
    exact ⟨rfl, h1, Lib.hid (Only.drew.trans h2.out)⟩
set_option maxRecDepth 100000 in
set_option maxHeartbeats 1000000 in
theorem enter_ok (h : RtAt w r sv fv nv m) (x : Wd × Bool) (hd : m.st.done = 0) (hs : m.saysSpan = false) :
    Calls Tryz.prog 74 #[.pointer (some ⟨r, 0, none⟩), rpv x] w (Leaf w r nilS nilS nv m.ok) := by
  have h1 := h.below (below_alloc (Below.refl _ _) (.cells #[.int .i64 x.1.slot, .int .i64 x.1.gen, .int .i64 x.1.tag, .int .i64 x.1.num, .bool x.1.mark, .bool x.2] 63))
  have HX := Lib.hid (box_rep w x)
  have HO := Lib.hid (Only.of_below (r := r) (below_alloc (Below.refl w.heap.size w) (.cells #[.int .i64 x.1.slot, .int .i64 x.1.gen, .int .i64 x.1.tag, .int .i64 x.1.num, .bool x.1.mark, .bool x.2] 63)))
  have HR := Lib.hid h1
  clear h h1
  unfold rpv
  go_enter Tryz.func74, Tryz.ntmps74
  go_upto_region 1 with fail
  generalize w.alloc (.cells #[.int .i64 x.1.slot, .int .i64 x.1.gen, .int .i64 x.1.tag, .int .i64 x.1.num, .bool x.1.mark, .bool x.2] 63) = W at HR HX HO ⊢
  have hX := HX.out
  have hzx := BlkW.lt hX
  have hrx : w.heap.size ≠ r := fun e => BlkW.ne_ hX HR.out (by decide) e
  obtain ⟨b0, b1, b2, b3, b4, b5⟩ := rep6 hX
  have hz := BlkW.lt HR.out
  have cd := HR.out.done
  have ce := HR.out.fix.1
  clear hX HX
  generalize w.heap.size = g at hzx hrx b0 b1 b2 b3 b4 b5 ⊢
  rw [hd] at cd
  clear hd
  go_wp2_with fail
  refine (saysSpan_any HR.out).mono ?_
  rintro e w1 ⟨rfl, rfl⟩
  rw [hs]
  go_wp2_with fail
  refine (succeed_any HR.out).mono ?_
  rintro e w3 ⟨rfl, h1, h2⟩
  go_wp2
  go_end0
  exact ⟨rfl, h1, Lib.hid (HO.out.trans h2.out)⟩
theorem Num_is (n : Int) (w : World) : Calls Tryz.prog 69 #[.int .i64 n] w fun e w' => e = .returned (wv (nw n)) ∧ Below w.heap.size w w' := Num_any n w
set_option maxRecDepth 100000 in
set_option maxHeartbeats 1000000 in
theorem alloc_end (h : RtAt w r sv fv nv m) (x : Wd × Bool) (hd : m.st.done = 1) :
    Calls Tryz.prog 79 #[.pointer (some ⟨r, 0, none⟩), rpv x] w (Leaf w r nilS nilS nv (m.end_ x)) := by
  have h1 := h.below (below_alloc (Below.refl _ _) (.cells #[.int .i64 x.1.slot, .int .i64 x.1.gen, .int .i64 x.1.tag, .int .i64 x.1.num, .bool x.1.mark, .bool x.2] 63))
  have HX := Lib.hid (box_rep w x)
  have HO := Lib.hid (Only.of_below (r := r) (below_alloc (Below.refl w.heap.size w) (.cells #[.int .i64 x.1.slot, .int .i64 x.1.gen, .int .i64 x.1.tag, .int .i64 x.1.num, .bool x.1.mark, .bool x.2] 63)))
  have HR := Lib.hid h1
  clear h h1
  unfold rpv
  go_enter Tryz.func79, Tryz.ntmps79
  go_upto_region 1 with fail
  generalize w.alloc (.cells #[.int .i64 x.1.slot, .int .i64 x.1.gen, .int .i64 x.1.tag, .int .i64 x.1.num, .bool x.1.mark, .bool x.2] 63) = W at HR HX HO ⊢
  have hX := HX.out
  have hzx := BlkW.lt hX
  have hrx : w.heap.size ≠ r := fun e => BlkW.ne_ hX HR.out (by decide) e
  obtain ⟨b0, b1, b2, b3, b4, b5⟩ := rep6 hX
  have hz := BlkW.lt HR.out
  have cd := HR.out.done
  have ce := HR.out.fix.1
  clear hX HX
  generalize w.heap.size = g at hzx hrx b0 b1 b2 b3 b4 b5 ⊢
  rw [hd] at cd
  clear hd
  have HA := Lib.hid (end_any (HR.out.drew) x)
  go_upto_region 8 with fail
  go_region_held3 (fun w' => w'.cell? ⟨g, 0, none⟩ = some (.int .i64 x.1.slot) ∧ w'.cell? ⟨g, 1, none⟩ = some (.int .i64 x.1.gen) ∧ w'.cell? ⟨g, 2, none⟩ = some (.int .i64 x.1.tag) ∧ w'.cell? ⟨g, 3, none⟩ = some (.int .i64 x.1.num) ∧ w'.cell? ⟨g, 4, none⟩ = some (.bool x.1.mark) ∧ w'.cell? ⟨g, 5, none⟩ = some (.bool x.2))
    (first | go_keep | (have hq := h2.out; exact ⟨hq.cell hzx hrx b0, hq.cell hzx hrx b1, hq.cell hzx hrx b2, hq.cell hzx hrx b3, hq.cell hzx hrx b4, hq.cell hzx hrx b5⟩))
    (first | (go_at_call 103; refine HA.out.mono ?_; rintro e w3 ⟨rfl, h1, h2⟩))
  go_wp2
  all_goals
    first
      | go_end0
      | refine bodyPost_ret (results_none rfl _ _ _) rfl ?_
    exact ⟨rfl, h1, Lib.hid ((HO.out.trans Only.drew).trans h2.out)⟩
set_option maxRecDepth 100000 in
set_option maxHeartbeats 1000000 in
theorem alloc_ask (h : RtAt w r sv fv nv m) (x : Wd × Bool) (hd : m.st.done = 0) (hs : m.countsEras = false) :
    Calls Tryz.prog 79 #[.pointer (some ⟨r, 0, none⟩), rpv x] w (Leaf w r sv fv nv (m.askNew x.1.num)) := by
  have h1 := h.below (below_alloc (Below.refl _ _) (.cells #[.int .i64 x.1.slot, .int .i64 x.1.gen, .int .i64 x.1.tag, .int .i64 x.1.num, .bool x.1.mark, .bool x.2] 63))
  have HX := Lib.hid (box_rep w x)
  have HO := Lib.hid (Only.of_below (r := r) (below_alloc (Below.refl w.heap.size w) (.cells #[.int .i64 x.1.slot, .int .i64 x.1.gen, .int .i64 x.1.tag, .int .i64 x.1.num, .bool x.1.mark, .bool x.2] 63)))
  have HR := Lib.hid h1
  clear h h1
  unfold rpv
  go_enter Tryz.func79, Tryz.ntmps79
  go_upto_region 1 with fail
  generalize w.alloc (.cells #[.int .i64 x.1.slot, .int .i64 x.1.gen, .int .i64 x.1.tag, .int .i64 x.1.num, .bool x.1.mark, .bool x.2] 63) = W at HR HX HO ⊢
  have hX := HX.out
  have hzx := BlkW.lt hX
  have hrx : w.heap.size ≠ r := fun e => BlkW.ne_ hX HR.out (by decide) e
  obtain ⟨b0, b1, b2, b3, b4, b5⟩ := rep6 hX
  have hz := BlkW.lt HR.out
  have cd := HR.out.done
  have ce := HR.out.fix.1
  clear hX HX
  generalize w.heap.size = g at hzx hrx b0 b1 b2 b3 b4 b5 ⊢
  rw [hd] at cd
  clear hd
  go_wp2_with fail
  refine (countsEras_any HR.out).mono ?_
  rintro e w1 ⟨rfl, rfl⟩
  rw [hs]
  go_upto_region 7 with fail
  have HD := Lib.hid HR.out.drew
  go_region_held3 (fun w' => w'.cell? ⟨g, 0, none⟩ = some (.int .i64 x.1.slot) ∧ w'.cell? ⟨g, 1, none⟩ = some (.int .i64 x.1.gen) ∧ w'.cell? ⟨g, 2, none⟩ = some (.int .i64 x.1.tag) ∧ w'.cell? ⟨g, 3, none⟩ = some (.int .i64 x.1.num) ∧ w'.cell? ⟨g, 4, none⟩ = some (.bool x.1.mark) ∧ w'.cell? ⟨g, 5, none⟩ = some (.bool x.2))
    (first | go_keep | (have hq := Only.of_below (r := r) hb; exact ⟨hq.cell hzx hrx b0, hq.cell hzx hrx b1, hq.cell hzx hrx b2, hq.cell hzx hrx b3, hq.cell hzx hrx b4, hq.cell hzx hrx b5⟩) | (have hq := (Only.of_below (r := r) hb).trans h2.out; exact ⟨hq.cell hzx hrx b0, hq.cell hzx hrx b1, hq.cell hzx hrx b2, hq.cell hzx hrx b3, hq.cell hzx hrx b4, hq.cell hzx hrx b5⟩))
    (first
    | (go_at_call 69; refine (Num_any _ _).mono ?_; rintro e w2 ⟨rfl, hb⟩; have HE := Lib.hid (HD.out.below hb))
    | (go_at_call 104; refine (ask_any HE.out ⟨4, 0, 0, 0, zw, nw x.1.num⟩ 1).mono ?_; rintro e w3 ⟨rfl, h1, h2⟩))
  all_goals
    go_wp2
    first
      | go_end0
      | refine bodyPost_ret (results_none rfl _ _ _) rfl ?_
    exact ⟨rfl, h1, Lib.hid (((HO.out.trans Only.drew).trans (Only.of_below hb)).trans h2.out)⟩
set_option maxRecDepth 100000 in
set_option maxHeartbeats 1000000 in
theorem alloc_ask4 (h : RtAt w r sv fv nv m) (x : Wd × Bool) (hd : m.st.done = 4) :
    Calls Tryz.prog 79 #[.pointer (some ⟨r, 0, none⟩), rpv x] w (Leaf w r sv fv nv (m.askNew x.1.num)) := by
  have h1 := h.below (below_alloc (Below.refl _ _) (.cells #[.int .i64 x.1.slot, .int .i64 x.1.gen, .int .i64 x.1.tag, .int .i64 x.1.num, .bool x.1.mark, .bool x.2] 63))
  have HX := Lib.hid (box_rep w x)
  have HO := Lib.hid (Only.of_below (r := r) (below_alloc (Below.refl w.heap.size w) (.cells #[.int .i64 x.1.slot, .int .i64 x.1.gen, .int .i64 x.1.tag, .int .i64 x.1.num, .bool x.1.mark, .bool x.2] 63)))
  have HR := Lib.hid h1
  clear h h1
  unfold rpv
  go_enter Tryz.func79, Tryz.ntmps79
  go_upto_region 1 with fail
  generalize w.alloc (.cells #[.int .i64 x.1.slot, .int .i64 x.1.gen, .int .i64 x.1.tag, .int .i64 x.1.num, .bool x.1.mark, .bool x.2] 63) = W at HR HX HO ⊢
  have hX := HX.out
  have hzx := BlkW.lt hX
  have hrx : w.heap.size ≠ r := fun e => BlkW.ne_ hX HR.out (by decide) e
  obtain ⟨b0, b1, b2, b3, b4, b5⟩ := rep6 hX
  have hz := BlkW.lt HR.out
  have cd := HR.out.done
  have ce := HR.out.fix.1
  clear hX HX
  generalize w.heap.size = g at hzx hrx b0 b1 b2 b3 b4 b5 ⊢
  rw [hd] at cd
  clear hd
  go_upto_region 7 with fail
  have HD := Lib.hid HR.out.drew
  go_region_held3 (fun w' => w'.cell? ⟨g, 0, none⟩ = some (.int .i64 x.1.slot) ∧ w'.cell? ⟨g, 1, none⟩ = some (.int .i64 x.1.gen) ∧ w'.cell? ⟨g, 2, none⟩ = some (.int .i64 x.1.tag) ∧ w'.cell? ⟨g, 3, none⟩ = some (.int .i64 x.1.num) ∧ w'.cell? ⟨g, 4, none⟩ = some (.bool x.1.mark) ∧ w'.cell? ⟨g, 5, none⟩ = some (.bool x.2))
    (first | go_keep | (have hq := Only.of_below (r := r) hb; exact ⟨hq.cell hzx hrx b0, hq.cell hzx hrx b1, hq.cell hzx hrx b2, hq.cell hzx hrx b3, hq.cell hzx hrx b4, hq.cell hzx hrx b5⟩) | (have hq := (Only.of_below (r := r) hb).trans h2.out; exact ⟨hq.cell hzx hrx b0, hq.cell hzx hrx b1, hq.cell hzx hrx b2, hq.cell hzx hrx b3, hq.cell hzx hrx b4, hq.cell hzx hrx b5⟩))
    (first
    | (go_at_call 69; refine (Num_any _ _).mono ?_; rintro e w2 ⟨rfl, hb⟩; have HE := Lib.hid (HD.out.below hb))
    | (go_at_call 104; refine (ask_any HE.out ⟨4, 0, 0, 0, zw, nw x.1.num⟩ 1).mono ?_; rintro e w3 ⟨rfl, h1, h2⟩))
  all_goals
    go_wp2
    first
      | go_end0
      | refine bodyPost_ret (results_none rfl _ _ _) rfl ?_
    exact ⟨rfl, h1, Lib.hid (((HO.out.trans Only.drew).trans (Only.of_below hb)).trans h2.out)⟩
set_option maxRecDepth 100000 in
set_option maxHeartbeats 1000000 in
theorem alloc_clock (h : RtAt w r sv fv nv m) (x : Wd × Bool) (hd : m.st.done = 0) (hs : m.countsEras = true) :
    Calls Tryz.prog 79 #[.pointer (some ⟨r, 0, none⟩), rpv x] w (Leaf w r sv fv nv (m.loadClock 4)) := by
  have h1 := h.below (below_alloc (Below.refl _ _) (.cells #[.int .i64 x.1.slot, .int .i64 x.1.gen, .int .i64 x.1.tag, .int .i64 x.1.num, .bool x.1.mark, .bool x.2] 63))
  have HX := Lib.hid (box_rep w x)
  have HO := Lib.hid (Only.of_below (r := r) (below_alloc (Below.refl w.heap.size w) (.cells #[.int .i64 x.1.slot, .int .i64 x.1.gen, .int .i64 x.1.tag, .int .i64 x.1.num, .bool x.1.mark, .bool x.2] 63)))
  have HR := Lib.hid h1
  clear h h1
  unfold rpv
  go_enter Tryz.func79, Tryz.ntmps79
  go_upto_region 1 with fail
  generalize w.alloc (.cells #[.int .i64 x.1.slot, .int .i64 x.1.gen, .int .i64 x.1.tag, .int .i64 x.1.num, .bool x.1.mark, .bool x.2] 63) = W at HR HX HO ⊢
  have hX := HX.out
  have hzx := BlkW.lt hX
  have hrx : w.heap.size ≠ r := fun e => BlkW.ne_ hX HR.out (by decide) e
  obtain ⟨b0, b1, b2, b3, b4, b5⟩ := rep6 hX
  have hz := BlkW.lt HR.out
  have cd := HR.out.done
  have ce := HR.out.fix.1
  clear hX HX
  generalize w.heap.size = g at hzx hrx b0 b1 b2 b3 b4 b5 ⊢
  rw [hd] at cd
  clear hd
  go_wp2_with fail
  refine (countsEras_any HR.out).mono ?_
  rintro e w1 ⟨rfl, rfl⟩
  rw [hs]
  go_wp2_with fail
  refine (loadClock_any HR.out 4).mono ?_
  rintro e w3 ⟨rfl, h1, h2⟩
  go_wp2
  refine bodyPost_ret (results_none rfl _ _ _) rfl ?_
  exact ⟨rfl, h1, Lib.hid (HO.out.trans h2.out)⟩
set_option maxRecDepth 100000 in
set_option maxHeartbeats 1000000 in
theorem protect_load (h : RtAt w r sv fv nv m) (x : Wd × Bool) (hd : m.st.done = 0 ∨ m.st.done = 2) :
    Calls Tryz.prog 77 #[.pointer (some ⟨r, 0, none⟩), rpv x] w (Leaf w r sv fv nv (m.load (m.st.call.s, m.st.call.g, m.st.call.f) 1)) := by
  have h1 := h.below (below_alloc (Below.refl _ _) (.cells #[.int .i64 x.1.slot, .int .i64 x.1.gen, .int .i64 x.1.tag, .int .i64 x.1.num, .bool x.1.mark, .bool x.2] 63))
  have HX := Lib.hid (box_rep w x)
  have HO := Lib.hid (Only.of_below (r := r) (below_alloc (Below.refl w.heap.size w) (.cells #[.int .i64 x.1.slot, .int .i64 x.1.gen, .int .i64 x.1.tag, .int .i64 x.1.num, .bool x.1.mark, .bool x.2] 63)))
  have HR := Lib.hid h1
  clear h h1
  unfold rpv
  go_enter Tryz.func77, Tryz.ntmps77
  go_upto_region 1 with fail
  generalize w.alloc (.cells #[.int .i64 x.1.slot, .int .i64 x.1.gen, .int .i64 x.1.tag, .int .i64 x.1.num, .bool x.1.mark, .bool x.2] 63) = W at HR HX HO ⊢
  have hX := HX.out
  have hzx := BlkW.lt hX
  have hrx : w.heap.size ≠ r := fun e => BlkW.ne_ hX HR.out (by decide) e
  obtain ⟨b0, b1, b2, b3, b4, b5⟩ := rep6 hX
  have hz := BlkW.lt HR.out
  have cd := HR.out.done
  have ce := HR.out.fix.1
  clear hX HX
  generalize w.heap.size = g at hzx hrx b0 b1 b2 b3 b4 b5 ⊢
  obtain ⟨q0, q1, q2⟩ := HR.out.at3
  have HA := Lib.hid (load_any HR.out.drew (m.st.call.s, m.st.call.g, m.st.call.f) 1)
  rcases hd with hd | hd
  all_goals
    rw [hd] at cd
    clear hd
    go_upto_region 6 with fail
    go_region_held3 (fun w' => w'.cell? ⟨r, 8, none⟩ = some (.int .i64 m.st.call.s) ∧ w'.cell? ⟨r, 9, none⟩ = some (.int .i64 m.st.call.g) ∧ w'.cell? ⟨r, 10, none⟩ = some (.int .i64 m.st.call.f))
      (first | go_keep | exact at3_load h1.out)
      (first | (go_at_call 105; refine HA.out.mono ?_; rintro e w3 ⟨rfl, h1, h2⟩))
    all_goals
      go_wp2
      first
        | go_end0
        | refine bodyPost_ret (results_none rfl _ _ _) rfl ?_
      exact ⟨rfl, h1, Lib.hid ((HO.out.trans Only.drew).trans h2.out)⟩
end
end Go.Proofs.YtjilhncnbkaebaaGreatDoor
