/- rite: touch, drop, alloc, enter, protect. A template (made by gen_XRc.py). -/
import Derived.Test.YtjilhncnbkaebaaGreatDoorRb
namespace Go.Proofs.YtjilhncnbkaebaaGreatDoor
open Go.RowKit Go.Extern.Stop Go.Stop Go.Extern Go.Sort
section
variable {w : World} {r : Nat} {sv fv nv : Value} {m : Rt}
theorem RtAt.calls (h : RtAt w r sv fv nv m) : w.cell? ⟨r, 7, none⟩ = some (.int .i64 m.st.call.kind) ∧ w.cell? ⟨r, 8, none⟩ = some (.int .i64 m.st.call.s) ∧ w.cell? ⟨r, 9, none⟩ = some (.int .i64 m.st.call.g) ∧ w.cell? ⟨r, 10, none⟩ = some (.int .i64 m.st.call.f) ∧ w.cell? ⟨r, 11, none⟩ = some (.int .i64 m.st.call.old.slot) ∧ w.cell? ⟨r, 12, none⟩ = some (.int .i64 m.st.call.old.gen) ∧ w.cell? ⟨r, 13, none⟩ = some (.int .i64 m.st.call.old.tag) ∧ w.cell? ⟨r, 14, none⟩ = some (.int .i64 m.st.call.old.num) ∧ w.cell? ⟨r, 15, none⟩ = some (.bool m.st.call.old.mark) ∧ w.cell? ⟨r, 16, none⟩ = some (.int .i64 m.st.call.new.slot) ∧ w.cell? ⟨r, 17, none⟩ = some (.int .i64 m.st.call.new.gen) ∧ w.cell? ⟨r, 18, none⟩ = some (.int .i64 m.st.call.new.tag) ∧ w.cell? ⟨r, 19, none⟩ = some (.int .i64 m.st.call.new.num) ∧ w.cell? ⟨r, 20, none⟩ = some (.bool m.st.call.new.mark) ∧ w.cell? ⟨r, 21, none⟩ = some (.int .i64 m.st.call.i) ∧ w.cell? ⟨r, 22, none⟩ = some (.int .i64 m.st.call.j) := by
  have hh := h.range 7 (clc m.st.call) (by kernel_rfl)
  exact ⟨hh 0 _ rfl, hh 1 _ rfl, hh 2 _ rfl, hh 3 _ rfl, hh 4 _ rfl, hh 5 _ rfl, hh 6 _ rfl, hh 7 _ rfl, hh 8 _ rfl, hh 9 _ rfl, hh 10 _ rfl, hh 11 _ rfl, hh 12 _ rfl, hh 13 _ rfl, hh 14 _ rfl, hh 15 _ rfl⟩
theorem RtAt.callS (h : RtAt w r sv fv nv m) : w.cell? ⟨r, 8, none⟩ = some (.int .i64 m.st.call.s) ∧ w.cell? ⟨r, 9, none⟩ = some (.int .i64 m.st.call.g) ∧ w.cell? ⟨r, 10, none⟩ = some (.int .i64 m.st.call.f) ∧ w.cell? ⟨r, 11, none⟩ = some (.int .i64 m.st.call.old.slot) ∧ w.cell? ⟨r, 12, none⟩ = some (.int .i64 m.st.call.old.gen) ∧ w.cell? ⟨r, 13, none⟩ = some (.int .i64 m.st.call.old.tag) ∧ w.cell? ⟨r, 14, none⟩ = some (.int .i64 m.st.call.old.num) ∧ w.cell? ⟨r, 15, none⟩ = some (.bool m.st.call.old.mark) ∧ w.cell? ⟨r, 16, none⟩ = some (.int .i64 m.st.call.new.slot) ∧ w.cell? ⟨r, 17, none⟩ = some (.int .i64 m.st.call.new.gen) ∧ w.cell? ⟨r, 18, none⟩ = some (.int .i64 m.st.call.new.tag) ∧ w.cell? ⟨r, 19, none⟩ = some (.int .i64 m.st.call.new.num) ∧ w.cell? ⟨r, 20, none⟩ = some (.bool m.st.call.new.mark) := by
  obtain ⟨q0, q1, q2, q3, q4, q5, q6, q7, q8, q9, q10, q11, q12, q13, _⟩ := h.calls
  exact ⟨q1, q2, q3, q4, q5, q6, q7, q8, q9, q10, q11, q12, q13⟩
theorem callS_ask {a : Ac} {d : Int} (h : RtAt w r sv fv nv (m.ask a d)) : w.cell? ⟨r, 8, none⟩ = some (.int .i64 m.st.call.s) ∧ w.cell? ⟨r, 9, none⟩ = some (.int .i64 m.st.call.g) ∧ w.cell? ⟨r, 10, none⟩ = some (.int .i64 m.st.call.f) ∧ w.cell? ⟨r, 11, none⟩ = some (.int .i64 m.st.call.old.slot) ∧ w.cell? ⟨r, 12, none⟩ = some (.int .i64 m.st.call.old.gen) ∧ w.cell? ⟨r, 13, none⟩ = some (.int .i64 m.st.call.old.tag) ∧ w.cell? ⟨r, 14, none⟩ = some (.int .i64 m.st.call.old.num) ∧ w.cell? ⟨r, 15, none⟩ = some (.bool m.st.call.old.mark) ∧ w.cell? ⟨r, 16, none⟩ = some (.int .i64 m.st.call.new.slot) ∧ w.cell? ⟨r, 17, none⟩ = some (.int .i64 m.st.call.new.gen) ∧ w.cell? ⟨r, 18, none⟩ = some (.int .i64 m.st.call.new.tag) ∧ w.cell? ⟨r, 19, none⟩ = some (.int .i64 m.st.call.new.num) ∧ w.cell? ⟨r, 20, none⟩ = some (.bool m.st.call.new.mark) := RtAt.callS (m := m.ask a d) h
/-- A rite at whose box x lies what came in. -/
theorem box_rep (w : World) (x : Wd × Bool) : BlkW (w.alloc (.cells #[.int .i64 x.1.slot, .int .i64 x.1.gen, .int .i64 x.1.tag, .int .i64 x.1.num, .bool x.1.mark, .bool x.2] 63)) w.heap.size 63 (rpc x).toArray := BlkW.new _ _ _
theorem rep6 {w : World} {g : Nat} {x : Wd × Bool} (h : BlkW w g 63 (rpc x).toArray) : w.cell? ⟨g, 0, none⟩ = some (.int .i64 x.1.slot) ∧ w.cell? ⟨g, 1, none⟩ = some (.int .i64 x.1.gen) ∧ w.cell? ⟨g, 2, none⟩ = some (.int .i64 x.1.tag) ∧ w.cell? ⟨g, 3, none⟩ = some (.int .i64 x.1.num) ∧ w.cell? ⟨g, 4, none⟩ = some (.bool x.1.mark) ∧ w.cell? ⟨g, 5, none⟩ = some (.bool x.2) := ⟨h.cell 0, h.cell 1, h.cell 2, h.cell 3, h.cell 4, h.cell 5⟩
set_option maxRecDepth 100000 in
set_option maxHeartbeats 1000000 in
theorem touch_end (h : RtAt w r sv fv nv m) (x : Wd × Bool) (hd : m.st.done = 1) :
    Calls Tryz.prog 76 #[.pointer (some ⟨r, 0, none⟩), rpv x] w (Leaf w r nilS nilS nv (m.end_ x)) := by
  have h1 := h.below (below_alloc (Below.refl _ _) (.cells #[.int .i64 x.1.slot, .int .i64 x.1.gen, .int .i64 x.1.tag, .int .i64 x.1.num, .bool x.1.mark, .bool x.2] 63))
  have HX := Lib.hid (box_rep w x)
  have HO := Lib.hid (Only.of_below (r := r) (below_alloc (Below.refl w.heap.size w) (.cells #[.int .i64 x.1.slot, .int .i64 x.1.gen, .int .i64 x.1.tag, .int .i64 x.1.num, .bool x.1.mark, .bool x.2] 63)))
  have HR := Lib.hid h1
  clear h h1
  unfold rpv
  go_enter Tryz.func76, Tryz.ntmps76
  go_upto_region 1 with fail
  generalize w.alloc (.cells #[.int .i64 x.1.slot, .int .i64 x.1.gen, .int .i64 x.1.tag, .int .i64 x.1.num, .bool x.1.mark, .bool x.2] 63) = W at HR HX HO ⊢
  have hX := HX.out
  have hzx := BlkW.lt hX
  have hrx : w.heap.size ≠ r := fun e => BlkW.ne_ hX HR.out (by decide) e
  obtain ⟨b0, b1, b2, b3, b4, b5⟩ := rep6 hX
  have hz := BlkW.lt HR.out
  have cd := HR.out.done
  have ce := HR.out.fix.1
  clear hX HX
  generalize w.heap.size = g at hzx hrx b0 b1 b2 b3 b4 b5 ⊢
  rw [hd] at cd
  clear hd
  have HA := Lib.hid (end_any (HR.out.drew) x)
  go_upto_region 2 with fail
  go_region_held3 (fun w' => w'.cell? ⟨g, 0, none⟩ = some (.int .i64 x.1.slot) ∧ w'.cell? ⟨g, 1, none⟩ = some (.int .i64 x.1.gen) ∧ w'.cell? ⟨g, 2, none⟩ = some (.int .i64 x.1.tag) ∧ w'.cell? ⟨g, 3, none⟩ = some (.int .i64 x.1.num) ∧ w'.cell? ⟨g, 4, none⟩ = some (.bool x.1.mark) ∧ w'.cell? ⟨g, 5, none⟩ = some (.bool x.2))
    (first | go_keep | (have hq := h2.out; exact ⟨hq.cell hzx hrx b0, hq.cell hzx hrx b1, hq.cell hzx hrx b2, hq.cell hzx hrx b3, hq.cell hzx hrx b4, hq.cell hzx hrx b5⟩))
    (first | (go_at_call 103; refine HA.out.mono ?_; rintro e w3 ⟨rfl, h1, h2⟩))
  go_wp2
  all_goals
    refine bodyPost_ret (results_none rfl _ _ _) rfl ?_
    exact ⟨rfl, h1, Lib.hid ((HO.out.trans (Only.of_below (Below.refl _ _).drew)).trans h2.out)⟩
set_option maxRecDepth 100000 in
set_option maxHeartbeats 1000000 in
theorem touch_ask (h : RtAt w r sv fv nv m) (x : Wd × Bool) (hd : m.st.done = 0) (j : Int) (hk : m.st.call.kind = 2 + j) (hj : j = 1 ∨ j = 2 ∨ j = 3) :
    Calls Tryz.prog 76 #[.pointer (some ⟨r, 0, none⟩), rpv x] w (Leaf w r sv fv nv (m.ask ⟨j, m.st.call.s, m.st.call.g, m.st.call.f, m.st.call.old, m.st.call.new⟩ 1)) := by
  have h1 := h.below (below_alloc (Below.refl _ _) (.cells #[.int .i64 x.1.slot, .int .i64 x.1.gen, .int .i64 x.1.tag, .int .i64 x.1.num, .bool x.1.mark, .bool x.2] 63))
  have HX := Lib.hid (box_rep w x)
  have HO := Lib.hid (Only.of_below (r := r) (below_alloc (Below.refl w.heap.size w) (.cells #[.int .i64 x.1.slot, .int .i64 x.1.gen, .int .i64 x.1.tag, .int .i64 x.1.num, .bool x.1.mark, .bool x.2] 63)))
  have HR := Lib.hid h1
  clear h h1
  unfold rpv
  go_enter Tryz.func76, Tryz.ntmps76
  go_upto_region 1 with fail
  generalize w.alloc (.cells #[.int .i64 x.1.slot, .int .i64 x.1.gen, .int .i64 x.1.tag, .int .i64 x.1.num, .bool x.1.mark, .bool x.2] 63) = W at HR HX HO ⊢
  have hX := HX.out
  have hzx := BlkW.lt hX
  have hrx : w.heap.size ≠ r := fun e => BlkW.ne_ hX HR.out (by decide) e
  obtain ⟨b0, b1, b2, b3, b4, b5⟩ := rep6 hX
  have hz := BlkW.lt HR.out
  have cd := HR.out.done
  have ce := HR.out.fix.1
  clear hX HX
  generalize w.heap.size = g at hzx hrx b0 b1 b2 b3 b4 b5 ⊢
  rw [hd] at cd
  clear hd
  obtain ⟨q0, q1, q2, q3, q4, q5, q6, q7, q8, q9, q10, q11, q12, q13, _⟩ := HR.out.calls
  rw [hk] at q0
  clear hk
  have HA := Lib.hid (ask_any (HR.out.drew) ⟨j, m.st.call.s, m.st.call.g, m.st.call.f, m.st.call.old, m.st.call.new⟩ 1)
  rcases hj with rfl | rfl | rfl
  all_goals
    go_upto_region 4 with fail
    go_region_held3 (fun w' => w'.cell? ⟨r, 8, none⟩ = some (.int .i64 m.st.call.s) ∧ w'.cell? ⟨r, 9, none⟩ = some (.int .i64 m.st.call.g) ∧ w'.cell? ⟨r, 10, none⟩ = some (.int .i64 m.st.call.f) ∧ w'.cell? ⟨r, 11, none⟩ = some (.int .i64 m.st.call.old.slot) ∧ w'.cell? ⟨r, 12, none⟩ = some (.int .i64 m.st.call.old.gen) ∧ w'.cell? ⟨r, 13, none⟩ = some (.int .i64 m.st.call.old.tag) ∧ w'.cell? ⟨r, 14, none⟩ = some (.int .i64 m.st.call.old.num) ∧ w'.cell? ⟨r, 15, none⟩ = some (.bool m.st.call.old.mark) ∧ w'.cell? ⟨r, 16, none⟩ = some (.int .i64 m.st.call.new.slot) ∧ w'.cell? ⟨r, 17, none⟩ = some (.int .i64 m.st.call.new.gen) ∧ w'.cell? ⟨r, 18, none⟩ = some (.int .i64 m.st.call.new.tag) ∧ w'.cell? ⟨r, 19, none⟩ = some (.int .i64 m.st.call.new.num) ∧ w'.cell? ⟨r, 20, none⟩ = some (.bool m.st.call.new.mark))
      (first | go_keep | exact callS_ask h1.out)
      (first | (go_at_call 104; refine HA.out.mono ?_; rintro e w3 ⟨rfl, h1, h2⟩))
    all_goals
      go_end0
      exact ⟨rfl, h1, Lib.hid ((HO.out.trans (Only.of_below (Below.refl _ _).drew)).trans h2.out)⟩
end
end Go.Proofs.YtjilhncnbkaebaaGreatDoor
