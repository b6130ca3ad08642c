/- rite: keep by announcements of slots; protect's end. A template (made by gen_XRe.py). -/
import Derived.Test.YtjilhncnbkaebaaGreatDoorRd
namespace Go.Proofs.YtjilhncnbkaebaaGreatDoor
open Go.RowKit Go.Extern.Stop Go.Stop Go.Extern Go.Sort
section
variable {w : World} {r : Nat} {sv fv nv : Value} {m : Rt}
theorem keep_cell {w w' : World} {a : Addr} {v : Value} (hb : Below w.heap.size w w') (h : w.cell? a = some v) : w'.cell? a = some v := by rw [hb.cell (lt_of_cell h)]; exact h
theorem RtAt.keep9 (h : RtAt w r sv fv nv m) {n : Nat} (hn : n < 9) : w.cell? ⟨r, 57 + n * 5, none⟩ = some (.int .i64 (m.kept n).slot) ∧ w.cell? ⟨r, 57 + n * 5 + 1, none⟩ = some (.int .i64 (m.kept n).gen) ∧ w.cell? ⟨r, 57 + n * 5 + 2, none⟩ = some (.int .i64 (m.kept n).tag) ∧ w.cell? ⟨r, 57 + n * 5 + 3, none⟩ = some (.int .i64 (m.kept n).num) ∧ w.cell? ⟨r, 57 + n * 5 + 4, none⟩ = some (.bool (m.kept n).mark) :=
  ⟨h.kept9 hn 0 _ rfl, h.kept9 hn 1 _ rfl, h.kept9 hn 2 _ rfl, h.kept9 hn 3 _ rfl, h.kept9 hn 4 _ rfl⟩
theorem RtAt.callI (h : RtAt w r sv fv nv m) : w.cell? ⟨r, 21, none⟩ = some (.int .i64 m.st.call.i) ∧ w.cell? ⟨r, 22, none⟩ = some (.int .i64 m.st.call.j) := by
  obtain ⟨q0, q1, q2, q3, q4, q5, q6, q7, q8, q9, q10, q11, q12, q13, q14, q15⟩ := h.calls
  exact ⟨q14, q15⟩
theorem nil_at (s g : Int) (b : Bool) (hb : (s == 0) = b) (w : World) : Calls Tryz.prog 19 #[.agg #[.int .i64 s, .int .i64 g, .int .i64 0, .int .i64 0, .bool false]] w fun e w' => e = .returned (.bool b) ∧ Below w.heap.size w w' := hb ▸ Nil_any s g 0 0 false w
set_option maxRecDepth 100000 in
set_option maxHeartbeats 1000000 in
theorem keep_haz_nil (h : RtAt w r sv fv nv m) (he : m.eng = 2) (n : Nat) (hn : n < 9) (hi : m.st.call.i = (n : Int)) (hs : m.st.seen.slot = 0) (now : Int) :
    Calls Tryz.prog 107 #[.pointer (some ⟨r, 0, none⟩), .int .i64 now] w (Leaf w r nilS nilS nv (m.end_ (m.st.seen, true))) := by
  have HR := Lib.hid h
  have ce := h.fix.1
  have ci := h.callI.1
  obtain ⟨s0, s1, s2, s3, s4⟩ := h.seen5
  have hz := BlkW.lt h
  rw [he] at ce
  rw [hi] at ci
  have hi1 : (0 : Int) ≤ (n : Int) := by omega
  have hi2 : (n : Int) < 9 := by omega
  have k1 := noHeld
  have k2 := noGuard
  have k3 := ne23
  have eb := eqB_iff (m.kept n) m.st.seen.ref
  unfold Wd.ref at eb
  dsimp only at eb
  have HN0 := Lib.hid (nil_at m.st.seen.slot m.st.seen.gen true (by simpa using hs))
  clear h he hi hs
  go_enter Tryz.func107, Tryz.ntmps107
  go_wp2_with fail
  refine (Ref_any _ _ _ _ _ _).mono ?_
  rintro e w1 ⟨rfl, hb⟩
  have HR1 := Lib.hid (HR.out.below hb)
  have HO1 := Lib.hid (Only.of_below (r := r) hb)
  have t0 := keep_cell hb s0
  have t1 := keep_cell hb s1
  have t2 := keep_cell hb s2
  have t3 := keep_cell hb s3
  have t4 := keep_cell hb s4
  have hz1 := Only.lt (Only.of_below (r := r) hb) hz
  clear hb s0 s1 s2 s3 s4 HR ce ci hz
  go_upto_region 4 with fail
  have HX := Lib.hid (BlkW.new w1 34 #[.int .i64 m.st.seen.slot, .int .i64 m.st.seen.gen, .int .i64 0, .int .i64 0, .bool false])
  have HO := Lib.hid (HO1.out.trans (Only.of_below (r := r) (below_alloc (Below.refl _ _) (.cells #[.int .i64 m.st.seen.slot, .int .i64 m.st.seen.gen, .int .i64 0, .int .i64 0, .bool false] 34))))
  have HR := Lib.hid (HR1.out.below (below_alloc (Below.refl _ _) (.cells #[.int .i64 m.st.seen.slot, .int .i64 m.st.seen.gen, .int .i64 0, .int .i64 0, .bool false] 34)))
  clear HO1 HR1 t0 t1 t2 t3 t4 hz1
  generalize w1.alloc (.cells #[.int .i64 m.st.seen.slot, .int .i64 m.st.seen.gen, .int .i64 0, .int .i64 0, .bool false] 34) = W at HX HO HR ⊢
  have hX := HX.out
  have hrx : w1.heap.size ≠ r := fun e => BlkW.ne_ hX HR.out (by decide) e
  have hzx := BlkW.lt hX
  obtain ⟨b0, b1, b2, b3, b4⟩ := cell5 hX
  clear HX hX
  generalize w1.heap.size = g at hrx hzx b0 b1 b2 b3 b4 ⊢
  obtain ⟨q0, q1, q2, q3, q4⟩ := HR.out.keep9 hn
  have hz := BlkW.lt HR.out
  obtain ⟨x0, x1, x2, x3, x4⟩ : (∀ d os, (grow (redrawn W d) os).cell? ⟨g, 0, none⟩ = some _) ∧ (∀ d os, (grow (redrawn W d) os).cell? ⟨g, 1, none⟩ = some _) ∧ (∀ d os, (grow (redrawn W d) os).cell? ⟨g, 2, none⟩ = some _) ∧ (∀ d os, (grow (redrawn W d) os).cell? ⟨g, 3, none⟩ = some _) ∧ (∀ d os, (grow (redrawn W d) os).cell? ⟨g, 4, none⟩ = some _) := ⟨cell_regrown b0, cell_regrown b1, cell_regrown b2, cell_regrown b3, cell_regrown b4⟩
  have HN : Hid (∀ d os, Calls Tryz.prog 19 #[.agg #[.int .i64 m.st.seen.slot, .int .i64 m.st.seen.gen, .int .i64 0, .int .i64 0, .bool false]] (grow (redrawn W d) os) fun e w'' => e = .returned (.bool true) ∧ ∃ p : Regrown, w'' = grow (redrawn W p.d) p.os) := Lib.hid (fun d os => Calls.regrown_of (HN0.out _))
  refine wp_region_quiet_below (by kernel_rfl) (by kernel_rfl) ?_
  repeat (go_big_quiet_step ((first | with_reducible exact HN.out _ _)))
  refine wpQuiet_nil ?_
  intro _ hw'
  obtain ⟨⟨dq, osq⟩, hw''⟩ := hw'
  subst hw''
  have hb : Below W.drew.heap.size W.drew (grow (redrawn W dq) osq) := ⟨(below_regrown W dq osq).os, (below_regrown W dq osq).tape, (below_regrown W dq osq).output, (below_regrown W dq osq).size, (below_regrown W dq osq).block⟩
  generalize grow (redrawn W dq) osq = w2 at hb ⊢
  all_goals
    have HR2 := Lib.hid ((HR.out.drew).below hb)
    have HO2 := Lib.hid ((HO.out.trans Only.drew).trans (Only.of_below (r := r) hb))
    clear HR HO hb b0 b1 b2 b3 b4 q0 q1 q2 q3 q4
    obtain ⟨s0, s1, s2, s3, s4⟩ := HR2.out.seen5
    have hz2 := BlkW.lt HR2.out
    have HA := Lib.hid (end_any HR2.out.drew (m.st.seen, true))
    go_upto_region 12 with fail
    go_region_with (first | (go_at_call 103; refine HA.out.mono ?_; rintro e w3 ⟨rfl, h1, h2⟩))
    all_goals
      go_wp2
      first
        | go_end0
        | refine bodyPost_ret (results_none rfl _ _ _) rfl ?_
      exact ⟨rfl, h1, Lib.hid ((HO2.out.trans Only.drew).trans h2.out)⟩
set_option maxRecDepth 100000 in
set_option maxHeartbeats 1000000 in
theorem keep_haz_same (h : RtAt w r sv fv nv m) (he : m.eng = 2) (n : Nat) (hn : n < 9) (hi : m.st.call.i = (n : Int)) (hs : ¬ m.st.seen.slot = 0) (hq : m.kept n = m.st.seen.ref) (now : Int) :
    Calls Tryz.prog 107 #[.pointer (some ⟨r, 0, none⟩), .int .i64 now] w (Leaf w r nilS nilS nv (m.end_ (m.st.seen, true))) := by
  have HR := Lib.hid h
  have ce := h.fix.1
  have ci := h.callI.1
  obtain ⟨s0, s1, s2, s3, s4⟩ := h.seen5
  have hz := BlkW.lt h
  rw [he] at ce
  rw [hi] at ci
  have hi1 : (0 : Int) ≤ (n : Int) := by omega
  have hi2 : (n : Int) < 9 := by omega
  have k1 := noHeld
  have k2 := noGuard
  have k3 := ne23
  have eb := eqB_iff (m.kept n) m.st.seen.ref
  rw [decide_eq_true hq] at eb
  unfold Wd.ref at eb
  dsimp only at eb
  have HN := Lib.hid (nil_at m.st.seen.slot m.st.seen.gen false (by simpa using hs))
  clear h he hi hs hq
  go_enter Tryz.func107, Tryz.ntmps107
  go_wp2_with fail
  refine (Ref_any _ _ _ _ _ _).mono ?_
  rintro e w1 ⟨rfl, hb⟩
  have HR1 := Lib.hid (HR.out.below hb)
  have HO1 := Lib.hid (Only.of_below (r := r) hb)
  have t0 := keep_cell hb s0
  have t1 := keep_cell hb s1
  have t2 := keep_cell hb s2
  have t3 := keep_cell hb s3
  have t4 := keep_cell hb s4
  have hz1 := Only.lt (Only.of_below (r := r) hb) hz
  clear hb s0 s1 s2 s3 s4 HR ce ci hz
  go_upto_region 4 with fail
  have HX := Lib.hid (BlkW.new w1 34 #[.int .i64 m.st.seen.slot, .int .i64 m.st.seen.gen, .int .i64 0, .int .i64 0, .bool false])
  have HO := Lib.hid (HO1.out.trans (Only.of_below (r := r) (below_alloc (Below.refl _ _) (.cells #[.int .i64 m.st.seen.slot, .int .i64 m.st.seen.gen, .int .i64 0, .int .i64 0, .bool false] 34))))
  have HR := Lib.hid (HR1.out.below (below_alloc (Below.refl _ _) (.cells #[.int .i64 m.st.seen.slot, .int .i64 m.st.seen.gen, .int .i64 0, .int .i64 0, .bool false] 34)))
  clear HO1 HR1 t0 t1 t2 t3 t4 hz1
  generalize w1.alloc (.cells #[.int .i64 m.st.seen.slot, .int .i64 m.st.seen.gen, .int .i64 0, .int .i64 0, .bool false] 34) = W at HX HO HR ⊢
  have hX := HX.out
  have hrx : w1.heap.size ≠ r := fun e => BlkW.ne_ hX HR.out (by decide) e
  have hzx := BlkW.lt hX
  obtain ⟨b0, b1, b2, b3, b4⟩ := cell5 hX
  clear HX hX
  generalize w1.heap.size = g at hrx hzx b0 b1 b2 b3 b4 ⊢
  obtain ⟨q0, q1, q2, q3, q4⟩ := HR.out.keep9 hn
  have hz := BlkW.lt HR.out
  go_region_held3 (fun w' => w'.cell? ⟨g, 0, none⟩ = some (.int .i64 m.st.seen.slot) ∧ w'.cell? ⟨g, 1, none⟩ = some (.int .i64 m.st.seen.gen) ∧ w'.cell? ⟨g, 2, none⟩ = some (.int .i64 0) ∧ w'.cell? ⟨g, 3, none⟩ = some (.int .i64 0) ∧ w'.cell? ⟨g, 4, none⟩ = some (.bool false) ∧ w'.cell? ⟨r, 57 + n * 5, none⟩ = some (.int .i64 (m.kept n).slot) ∧ w'.cell? ⟨r, 57 + n * 5 + 1, none⟩ = some (.int .i64 (m.kept n).gen) ∧ w'.cell? ⟨r, 57 + n * 5 + 2, none⟩ = some (.int .i64 (m.kept n).tag) ∧ w'.cell? ⟨r, 57 + n * 5 + 3, none⟩ = some (.int .i64 (m.kept n).num) ∧ w'.cell? ⟨r, 57 + n * 5 + 4, none⟩ = some (.bool (m.kept n).mark))
    (first | go_keep | exact ⟨keep_cell hb b0, keep_cell hb b1, keep_cell hb b2, keep_cell hb b3, keep_cell hb b4, keep_cell hb q0, keep_cell hb q1, keep_cell hb q2, keep_cell hb q3, keep_cell hb q4⟩)
    (first | (go_at_call 19; refine (HN.out _).mono ?_; rintro e w2 ⟨rfl, hb⟩))
  all_goals
    have HR2 := Lib.hid ((HR.out.drew).below hb)
    have HO2 := Lib.hid ((HO.out.trans Only.drew).trans (Only.of_below (r := r) hb))
    clear HR HO hb b0 b1 b2 b3 b4 q0 q1 q2 q3 q4
    obtain ⟨s0, s1, s2, s3, s4⟩ := HR2.out.seen5
    have hz2 := BlkW.lt HR2.out
    have HA := Lib.hid (end_any HR2.out.drew (m.st.seen, true))
    go_upto_region 12 with fail
    go_region_with (first | (go_at_call 103; refine HA.out.mono ?_; rintro e w3 ⟨rfl, h1, h2⟩))
    all_goals
      go_wp2
      first
        | go_end0
        | refine bodyPost_ret (results_none rfl _ _ _) rfl ?_
      exact ⟨rfl, h1, Lib.hid ((HO2.out.trans Only.drew).trans h2.out)⟩
set_option maxRecDepth 100000 in
set_option maxHeartbeats 1000000 in
theorem keep_haz_say (h : RtAt w r sv fv nv m) (he : m.eng = 2) (n : Nat) (hn : n < 9) (hi : m.st.call.i = (n : Int)) (hs : ¬ m.st.seen.slot = 0) (hm : m.me < 6) (hq : ¬ m.kept n = m.st.seen.ref) (now : Int) :
    Calls Tryz.prog 107 #[.pointer (some ⟨r, 0, none⟩), .int .i64 now] w (Leaf w r sv fv nv (m.say n m.st.seen.ref)) := by
  have HR := Lib.hid h
  have ce := h.fix.1
  have ci := h.callI.1
  obtain ⟨s0, s1, s2, s3, s4⟩ := h.seen5
  have hz := BlkW.lt h
  rw [he] at ce
  rw [hi] at ci
  have hi1 : (0 : Int) ≤ (n : Int) := by omega
  have hi2 : (n : Int) < 9 := by omega
  have k1 := noHeld
  have k2 := noGuard
  have k3 := ne23
  have eb := eqB_iff (m.kept n) m.st.seen.ref
  rw [decide_eq_false hq] at eb
  unfold Wd.ref at eb
  dsimp only at eb
  have HN := Lib.hid (nil_at m.st.seen.slot m.st.seen.gen false (by simpa using hs))
  clear h he hi hs hq
  go_enter Tryz.func107, Tryz.ntmps107
  go_wp2_with fail
  refine (Ref_any _ _ _ _ _ _).mono ?_
  rintro e w1 ⟨rfl, hb⟩
  have HR1 := Lib.hid (HR.out.below hb)
  have HO1 := Lib.hid (Only.of_below (r := r) hb)
  have t0 := keep_cell hb s0
  have t1 := keep_cell hb s1
  have t2 := keep_cell hb s2
  have t3 := keep_cell hb s3
  have t4 := keep_cell hb s4
  have hz1 := Only.lt (Only.of_below (r := r) hb) hz
  clear hb s0 s1 s2 s3 s4 HR ce ci hz
  go_upto_region 4 with fail
  have HX := Lib.hid (BlkW.new w1 34 #[.int .i64 m.st.seen.slot, .int .i64 m.st.seen.gen, .int .i64 0, .int .i64 0, .bool false])
  have HO := Lib.hid (HO1.out.trans (Only.of_below (r := r) (below_alloc (Below.refl _ _) (.cells #[.int .i64 m.st.seen.slot, .int .i64 m.st.seen.gen, .int .i64 0, .int .i64 0, .bool false] 34))))
  have HR := Lib.hid (HR1.out.below (below_alloc (Below.refl _ _) (.cells #[.int .i64 m.st.seen.slot, .int .i64 m.st.seen.gen, .int .i64 0, .int .i64 0, .bool false] 34)))
  clear HO1 HR1 t0 t1 t2 t3 t4 hz1
  generalize w1.alloc (.cells #[.int .i64 m.st.seen.slot, .int .i64 m.st.seen.gen, .int .i64 0, .int .i64 0, .bool false] 34) = W at HX HO HR ⊢
  have hX := HX.out
  have hrx : w1.heap.size ≠ r := fun e => BlkW.ne_ hX HR.out (by decide) e
  have hzx := BlkW.lt hX
  obtain ⟨b0, b1, b2, b3, b4⟩ := cell5 hX
  clear HX hX
  generalize w1.heap.size = g at hrx hzx b0 b1 b2 b3 b4 ⊢
  obtain ⟨q0, q1, q2, q3, q4⟩ := HR.out.keep9 hn
  have hz := BlkW.lt HR.out
  go_region_held3 (fun w' => w'.cell? ⟨g, 0, none⟩ = some (.int .i64 m.st.seen.slot) ∧ w'.cell? ⟨g, 1, none⟩ = some (.int .i64 m.st.seen.gen) ∧ w'.cell? ⟨g, 2, none⟩ = some (.int .i64 0) ∧ w'.cell? ⟨g, 3, none⟩ = some (.int .i64 0) ∧ w'.cell? ⟨g, 4, none⟩ = some (.bool false) ∧ w'.cell? ⟨r, 57 + n * 5, none⟩ = some (.int .i64 (m.kept n).slot) ∧ w'.cell? ⟨r, 57 + n * 5 + 1, none⟩ = some (.int .i64 (m.kept n).gen) ∧ w'.cell? ⟨r, 57 + n * 5 + 2, none⟩ = some (.int .i64 (m.kept n).tag) ∧ w'.cell? ⟨r, 57 + n * 5 + 3, none⟩ = some (.int .i64 (m.kept n).num) ∧ w'.cell? ⟨r, 57 + n * 5 + 4, none⟩ = some (.bool (m.kept n).mark))
    (first | go_keep | exact ⟨keep_cell hb b0, keep_cell hb b1, keep_cell hb b2, keep_cell hb b3, keep_cell hb b4, keep_cell hb q0, keep_cell hb q1, keep_cell hb q2, keep_cell hb q3, keep_cell hb q4⟩)
    (first | (go_at_call 19; refine (HN.out _).mono ?_; rintro e w2 ⟨rfl, hb⟩))
  all_goals
    have HR2 := Lib.hid ((HR.out.drew).below hb)
    have HO2 := Lib.hid ((HO.out.trans Only.drew).trans (Only.of_below (r := r) hb))
    have p0 := keep_cell hb b0
    have p1 := keep_cell hb b1
    have p2 := keep_cell hb b2
    have p3 := keep_cell hb b3
    have p4 := keep_cell hb b4
    clear HR HO hb b0 b1 b2 b3 b4 q0 q1 q2 q3 q4
    go_wp2_with fail
    refine (say_any HR2.out hm n hn m.st.seen.ref).mono ?_
    rintro e w3 ⟨rfl, h1, h2⟩
    go_wp2
    first
      | go_end0
      | refine bodyPost_ret (results_none rfl _ _ _) rfl ?_
    exact ⟨rfl, h1, Lib.hid (HO2.out.trans h2.out)⟩
set_option maxRecDepth 100000 in
set_option maxHeartbeats 1000000 in
theorem protect_see (h : RtAt w r sv fv nv m) (x : Wd × Bool) (hd : m.st.done = 1) (hs : m.countsEras = false) (sv' fv' nv' : Value) (m' : Rt) (hK : ∀ W, RtAt W r sv fv nv (m.see x.1) → Calls Tryz.prog 107 #[.pointer (some ⟨r, 0, none⟩), .int .i64 x.1.num] W (Leaf W r sv' fv' nv' m')) :
    Calls Tryz.prog 77 #[.pointer (some ⟨r, 0, none⟩), rpv x] w (Leaf w r sv' fv' nv' m') := by
  have h1 := h.below (below_alloc (Below.refl _ _) (.cells #[.int .i64 x.1.slot, .int .i64 x.1.gen, .int .i64 x.1.tag, .int .i64 x.1.num, .bool x.1.mark, .bool x.2] 63))
  have HX := Lib.hid (box_rep w x)
  have HO := Lib.hid (Only.of_below (r := r) (below_alloc (Below.refl w.heap.size w) (.cells #[.int .i64 x.1.slot, .int .i64 x.1.gen, .int .i64 x.1.tag, .int .i64 x.1.num, .bool x.1.mark, .bool x.2] 63)))
  have HR := Lib.hid h1
  clear h h1
  unfold rpv
  go_enter Tryz.func77, Tryz.ntmps77
  go_upto_region 1 with fail
  generalize w.alloc (.cells #[.int .i64 x.1.slot, .int .i64 x.1.gen, .int .i64 x.1.tag, .int .i64 x.1.num, .bool x.1.mark, .bool x.2] 63) = W at HR HX HO ⊢
  have hX := HX.out
  have hzx := BlkW.lt hX
  have hrx : w.heap.size ≠ r := fun e => BlkW.ne_ hX HR.out (by decide) e
  obtain ⟨b0, b1, b2, b3, b4, b5⟩ := rep6 hX
  have hz := BlkW.lt HR.out
  have cd := HR.out.done
  have ce := HR.out.fix.1
  clear hX HX
  generalize w.heap.size = g at hzx hrx b0 b1 b2 b3 b4 b5 ⊢
  have HK := Lib.hid hK
  clear hK
  rw [hd] at cd
  clear hd
  obtain ⟨s0, s1, s2, s3, s4⟩ := HR.out.seen5
  have fz : ∀ o, W.frozen? ⟨r, o, none⟩ = false := HR.out.frozen
  have RS := Lib.hid (HR.out.see x.1)
  have OS := Lib.hid (Only.sets (r := r) (w := W) 40 (wc x.1))
  have d3 := OS.out.cell hzx hrx b3
  clear d3
  go_wp2_with fail
  have RS2 : RtAt (W.setCells r 40 (wc x.1)) r sv fv nv (m.see x.1) := RS.out
  have hcE := Lib.hid (countsEras_any RS2)
  have d0 := OS.out.cell hzx hrx b0
  have d1 := OS.out.cell hzx hrx b1
  have d2 := OS.out.cell hzx hrx b2
  have d3 := OS.out.cell hzx hrx b3
  have d4 := OS.out.cell hzx hrx b4
  have hz1 := Only.lt OS.out hzx
  have hz2 := Only.lt OS.out hz
  show Calls _ _ _ (W.setCells r 40 (wc x.1)) _
  clear RS2 s0 s1 s2 s3 s4 fz b0 b1 b2 b3 b4 b5 cd
  generalize W.setCells r 40 (wc x.1) = W1 at RS OS hcE d0 d1 d2 d3 d4 hz1 hz2 ⊢
  refine hcE.out.mono ?_
  rintro e w1 ⟨rfl, rfl⟩
  rw [show (m.see x.1).countsEras = m.countsEras from rfl, hs]
  go_wp2_with fail
  refine (HK.out _ RS.out).mono ?_
  rintro e w3 ⟨rfl, h1, h2⟩
  go_wp2
  first
    | go_end0
    | refine bodyPost_ret (results_none rfl _ _ _) rfl ?_
  exact ⟨rfl, h1, Lib.hid ((HO.out.trans OS.out).trans h2.out)⟩
set_option maxRecDepth 100000 in
set_option maxHeartbeats 1000000 in
theorem protect_clock (h : RtAt w r sv fv nv m) (x : Wd × Bool) (hd : m.st.done = 1) (hs : m.countsEras = true) :
    Calls Tryz.prog 77 #[.pointer (some ⟨r, 0, none⟩), rpv x] w (Leaf w r sv fv nv ((m.see x.1).loadClock 4)) := by
  have h1 := h.below (below_alloc (Below.refl _ _) (.cells #[.int .i64 x.1.slot, .int .i64 x.1.gen, .int .i64 x.1.tag, .int .i64 x.1.num, .bool x.1.mark, .bool x.2] 63))
  have HX := Lib.hid (box_rep w x)
  have HO := Lib.hid (Only.of_below (r := r) (below_alloc (Below.refl w.heap.size w) (.cells #[.int .i64 x.1.slot, .int .i64 x.1.gen, .int .i64 x.1.tag, .int .i64 x.1.num, .bool x.1.mark, .bool x.2] 63)))
  have HR := Lib.hid h1
  clear h h1
  unfold rpv
  go_enter Tryz.func77, Tryz.ntmps77
  go_upto_region 1 with fail
  generalize w.alloc (.cells #[.int .i64 x.1.slot, .int .i64 x.1.gen, .int .i64 x.1.tag, .int .i64 x.1.num, .bool x.1.mark, .bool x.2] 63) = W at HR HX HO ⊢
  have hX := HX.out
  have hzx := BlkW.lt hX
  have hrx : w.heap.size ≠ r := fun e => BlkW.ne_ hX HR.out (by decide) e
  obtain ⟨b0, b1, b2, b3, b4, b5⟩ := rep6 hX
  have hz := BlkW.lt HR.out
  have cd := HR.out.done
  have ce := HR.out.fix.1
  clear hX HX
  generalize w.heap.size = g at hzx hrx b0 b1 b2 b3 b4 b5 ⊢
  rw [hd] at cd
  clear hd
  obtain ⟨s0, s1, s2, s3, s4⟩ := HR.out.seen5
  have fz : ∀ o, W.frozen? ⟨r, o, none⟩ = false := HR.out.frozen
  have RS := Lib.hid (HR.out.see x.1)
  have OS := Lib.hid (Only.sets (r := r) (w := W) 40 (wc x.1))
  have d3 := OS.out.cell hzx hrx b3
  clear d3
  go_wp2_with fail
  have RS2 : RtAt (W.setCells r 40 (wc x.1)) r sv fv nv (m.see x.1) := RS.out
  have hcE := Lib.hid (countsEras_any RS2)
  have d0 := OS.out.cell hzx hrx b0
  have d1 := OS.out.cell hzx hrx b1
  have d2 := OS.out.cell hzx hrx b2
  have d3 := OS.out.cell hzx hrx b3
  have d4 := OS.out.cell hzx hrx b4
  have hz1 := Only.lt OS.out hzx
  have hz2 := Only.lt OS.out hz
  show Calls _ _ _ (W.setCells r 40 (wc x.1)) _
  clear RS2 s0 s1 s2 s3 s4 fz b0 b1 b2 b3 b4 b5 cd
  generalize W.setCells r 40 (wc x.1) = W1 at RS OS hcE d0 d1 d2 d3 d4 hz1 hz2 ⊢
  refine hcE.out.mono ?_
  rintro e w1 ⟨rfl, rfl⟩
  rw [show (m.see x.1).countsEras = m.countsEras from rfl, hs]
  go_wp2_with fail
  refine (loadClock_any RS.out 4).mono ?_
  rintro e w3 ⟨rfl, h1, h2⟩
  go_wp2
  first
    | go_end0
    | refine bodyPost_ret (results_none rfl _ _ _) rfl ?_
  exact ⟨rfl, h1, Lib.hid ((HO.out.trans OS.out).trans h2.out)⟩
set_option maxRecDepth 100000 in
set_option maxHeartbeats 1000000 in
theorem protect_keep4 (h : RtAt w r sv fv nv m) (x : Wd × Bool) (hd : m.st.done = 4) (sv' fv' nv' : Value) (m' : Rt) (hK : ∀ W, RtAt W r sv fv nv m → Calls Tryz.prog 107 #[.pointer (some ⟨r, 0, none⟩), .int .i64 x.1.num] W (Leaf W r sv' fv' nv' m')) :
    Calls Tryz.prog 77 #[.pointer (some ⟨r, 0, none⟩), rpv x] w (Leaf w r sv' fv' nv' m') := by
  have h1 := h.below (below_alloc (Below.refl _ _) (.cells #[.int .i64 x.1.slot, .int .i64 x.1.gen, .int .i64 x.1.tag, .int .i64 x.1.num, .bool x.1.mark, .bool x.2] 63))
  have HX := Lib.hid (box_rep w x)
  have HO := Lib.hid (Only.of_below (r := r) (below_alloc (Below.refl w.heap.size w) (.cells #[.int .i64 x.1.slot, .int .i64 x.1.gen, .int .i64 x.1.tag, .int .i64 x.1.num, .bool x.1.mark, .bool x.2] 63)))
  have HR := Lib.hid h1
  clear h h1
  unfold rpv
  go_enter Tryz.func77, Tryz.ntmps77
  go_upto_region 1 with fail
  generalize w.alloc (.cells #[.int .i64 x.1.slot, .int .i64 x.1.gen, .int .i64 x.1.tag, .int .i64 x.1.num, .bool x.1.mark, .bool x.2] 63) = W at HR HX HO ⊢
  have hX := HX.out
  have hzx := BlkW.lt hX
  have hrx : w.heap.size ≠ r := fun e => BlkW.ne_ hX HR.out (by decide) e
  obtain ⟨b0, b1, b2, b3, b4, b5⟩ := rep6 hX
  have hz := BlkW.lt HR.out
  have cd := HR.out.done
  have ce := HR.out.fix.1
  clear hX HX
  generalize w.heap.size = g at hzx hrx b0 b1 b2 b3 b4 b5 ⊢
  have HK := Lib.hid hK
  clear hK
  rw [hd] at cd
  clear hd
  go_wp2_with fail
  refine (HK.out _ HR.out).mono ?_
  rintro e w3 ⟨rfl, h1, h2⟩
  go_wp2
  first
    | go_end0
    | refine bodyPost_ret (results_none rfl _ _ _) rfl ?_
  exact ⟨rfl, h1, Lib.hid (HO.out.trans h2.out)⟩
end
end Go.Proofs.YtjilhncnbkaebaaGreatDoor
