/- rite: what an engine says; an announcement that is stored. A template (fill.py). -/
/- rite: touch, drop, alloc, enter, protect. A template (made by gen_XRc.py). -/
/- rite: drop, alloc, enter, protect. A template (made by gen_XRc.py). -/
/- rite: keep by announcements of slots; protect's end. A template (made by gen_XRe.py). -/
import Derived.Test.YtihjklimcchkhaaGreatDoorRa
namespace Go.Proofs.YtihjklimcchkhaaGreatDoor
open Go.RowKit Go.Extern.Stop Go.Stop Go.Extern Go.Sort
section
variable {w : World} {r : Nat} {sv fv nv : Value} {m : Rt}
theorem saysSpan_any (h : RtAt w r sv fv nv m) :
    Calls Tryz.prog 111 #[.pointer (some ⟨r, 0, none⟩)] w fun e w' => e = .returned (.bool m.saysSpan) ∧ w = w' := by
  have c := h.fix.1
  have hz := BlkW.lt h
  unfold Rt.saysSpan
  clear h
  by_cases e1 : m.eng = 4
  · rw [e1] at c ⊢
    go_enter Tryz.func111, Tryz.ntmps111
    go_wp2
    go_ret
    exact ⟨rfl, rfl⟩
  · have e2 : (m.eng == 4) = false := by simpa using e1
    go_enter Tryz.func111, Tryz.ntmps111
    go_wp2
    go_ret
    refine ⟨?_, rfl⟩
    by_cases e3 : m.eng = 5 <;> simp [e1, e3]
theorem saysWords_any (h : RtAt w r sv fv nv m) :
    Calls Tryz.prog 158 #[.pointer (some ⟨r, 0, none⟩)] w fun e w' => e = .returned (.bool m.saysWords) ∧ w = w' := by
  have c := h.fix.1
  have hz := BlkW.lt h
  unfold Rt.saysWords
  clear h
  by_cases e1 : m.eng = 2
  · rw [e1] at c ⊢
    go_enter Tryz.func158, Tryz.ntmps158
    go_wp2
    go_ret
    exact ⟨rfl, rfl⟩
  · have e2 : (m.eng == 2) = false := by simpa using e1
    go_enter Tryz.func158, Tryz.ntmps158
    go_wp2
    go_ret
    refine ⟨?_, rfl⟩
    by_cases e3 : m.eng = 3 <;> simp [e1, e3]
theorem countsEras_any (h : RtAt w r sv fv nv m) :
    Calls Tryz.prog 121 #[.pointer (some ⟨r, 0, none⟩)] w fun e w' => e = .returned (.bool m.countsEras) ∧ w = w' := by
  have c := h.fix.1
  have hz := BlkW.lt h
  unfold Rt.countsEras
  clear h
  by_cases e1 : m.eng = 3
  · rw [e1] at c ⊢
    go_enter Tryz.func121, Tryz.ntmps121
    go_wp2
    go_ret
    exact ⟨rfl, rfl⟩
  · have e2 : (m.eng == 3) = false := by simpa using e1
    go_enter Tryz.func121, Tryz.ntmps121
    go_wp2
    go_ret
    refine ⟨?_, rfl⟩
    by_cases e3 : m.eng = 5 <;> simp [e1, e3]
/-! ### an announcement -/
theorem keep_is (u n : Nat) (hu : u < 6) (hn : n < 9) (w : World) : Calls Tryz.prog 24 #[.int .i64 (u : Int), .int .i64 (n : Int)] w fun e w' => e = .returned (.tuple #[.agg #[.int .i64 0, .int .i64 0, .int .i64 ((keepAt u n : Nat) : Int)], .nilIface]) ∧ Below w.heap.size w w' := by
  have e : ((keepAt u n : Nat) : Int) = 25 + (u : Int) * 9 + n := by unfold keepAt; omega
  rw [e]
  exact Bd.Keep_yes (u : Int) n ⟨by omega, by omega⟩ w
theorem span_is (u : Nat) (hu : u < 6) (w : World) : Calls Tryz.prog 23 #[.int .i64 (u : Int)] w fun e w' => e = .returned (.tuple #[.agg #[.int .i64 0, .int .i64 0, .int .i64 ((spanAt u : Nat) : Int)], .nilIface]) ∧ Below w.heap.size w w' := by
  have e : ((spanAt u : Nat) : Int) = 79 + (u : Int) := by unfold spanAt; omega
  rw [e]
  exact Bd.Span_yes (u : Int) ⟨by omega, by omega⟩ w
def setK (m : Rt) (n : Nat) (d : Wd) : Rt := { m with kept := fun k => if k = n then d else m.kept k }
theorem RtAt.kept9 (h : RtAt w r sv fv nv m) {n : Nat} (hn : n < 9) : w.rangeAt r (57 + n * 5) (wc (m.kept n)) := by
  match n, hn with
  | 0, _ | 1, _ | 2, _ | 3, _ | 4, _ | 5, _ | 6, _ | 7, _ | 8, _ => exact h.range _ _ (by kernel_rfl)
theorem RtAt.setK (h : RtAt w r sv fv nv m) {n : Nat} (hn : n < 9) (d : Wd) : RtAt (w.setCells r (57 + n * 5) (wc d)) r sv fv nv (setK m n d) := by
  match n, hn with
  | 0, _ | 1, _ | 2, _ | 3, _ | 4, _ | 5, _ | 6, _ | 7, _ | 8, _ => exact h.puts _ _ (by kernel_rfl)
set_option maxRecDepth 100000 in
set_option maxHeartbeats 1000000 in
theorem say_any (h : RtAt w r sv fv nv m) (hm : m.me < 6) (n : Nat) (hn : n < 9) (d : Wd) :
    Calls Tryz.prog 117 #[.pointer (some ⟨r, 0, none⟩), .int .i64 (n : Int), wv d] w (Leaf w r sv fv nv (m.say n d)) := by
  have h1 := h.below (below_alloc (Below.refl _ _) (.cells #[.int .i64 d.slot, .int .i64 d.gen, .int .i64 d.tag, .int .i64 d.num, .bool d.mark] 34))
  have HO := Lib.hid (Only.of_below (r := r) (below_alloc (Below.refl w.heap.size w) (.cells #[.int .i64 d.slot, .int .i64 d.gen, .int .i64 d.tag, .int .i64 d.num, .bool d.mark] 34)))
  have HX := Lib.hid (BlkW.new w 34 #[.int .i64 d.slot, .int .i64 d.gen, .int .i64 d.tag, .int .i64 d.num, .bool d.mark])
  have hz := BlkW.lt h1
  have HR := Lib.hid h1
  have hi1 : (0 : Int) ≤ (n : Int) := by omega
  have hi2 : (n : Int) < 9 := by omega
  clear h h1
  unfold wv
  go_enter Tryz.func117, Tryz.ntmps117
  go_upto_region 1 with fail
  generalize w.alloc (.cells #[.int .i64 d.slot, .int .i64 d.gen, .int .i64 d.tag, .int .i64 d.num, .bool d.mark] 34) = W at HR HX HO hz ⊢
  have hX := HX.out
  have hzx := BlkW.lt hX
  have hrx : w.heap.size ≠ r := fun e => BlkW.ne_ hX HR.out (by decide) e
  obtain ⟨b0, b1, b2, b3, b4⟩ := cell5 hX
  have k0 : W.cell? ⟨r, 57 + n * 5, none⟩ = some (.int .i64 (m.kept n).slot) := HR.out.kept9 hn 0 _ rfl
  have k1 : W.cell? ⟨r, 57 + n * 5 + 1, none⟩ = some (.int .i64 (m.kept n).gen) := HR.out.kept9 hn 1 _ rfl
  have k2 : W.cell? ⟨r, 57 + n * 5 + 2, none⟩ = some (.int .i64 (m.kept n).tag) := HR.out.kept9 hn 2 _ rfl
  have k3 : W.cell? ⟨r, 57 + n * 5 + 3, none⟩ = some (.int .i64 (m.kept n).num) := HR.out.kept9 hn 3 _ rfl
  have k4 : W.cell? ⟨r, 57 + n * 5 + 4, none⟩ = some (.bool (m.kept n).mark) := HR.out.kept9 hn 4 _ rfl
  have fz : ∀ o, W.frozen? ⟨r, o, none⟩ = false := HR.out.frozen
  clear hX HX
  generalize w.heap.size = g at *
  go_region
  have R1 : RtAt (W.setCells r (57 + n * 5) (wc d)).drew r sv fv nv (setK m n d) := (HR.out.setK hn d).drew
  have O1 : Only r W (W.setCells r (57 + n * 5) (wc d)).drew := (Off.sets (K := fun j => j = r) (.inl rfl) _ _ (Off.refl _ W)).then (Below.refl _ _).drew
  have c0 := O1.cell hzx hrx b0
  have c1 := O1.cell hzx hrx b1
  have c2 := O1.cell hzx hrx b2
  have c3 := O1.cell hzx hrx b3
  have c4 := O1.cell hzx hrx b4
  have hz1 := Only.lt O1 hzx
  have HO1 := Lib.hid (HO.out.trans O1)
  clear b0 b1 b2 b3 b4 k0 k1 k2 k3 k4 fz HR HO O1
  show Exit.then _ _ _ _ (W.setCells r (57 + n * 5) (wc d)).drew
  generalize (W.setCells r (57 + n * 5) (wc d)).drew = W1 at R1 c0 c1 c2 c3 c4 hz1 HO1 ⊢
  have cm := R1.fix.2.1
  have hz2 := BlkW.lt R1
  have HR := Lib.hid R1
  clear R1 hz hzx
  go_wp2_with fail
  refine (keep_is m.me n hm hn _).mono ?_
  rintro e w2 ⟨rfl, hb⟩
  have HR2 := Lib.hid (HR.out.below hb)
  have HO2 := Lib.hid (HO1.out.trans (Only.of_below hb))
  have k0 := Only.cell (Only.of_below (r := r) hb) hz1 hrx c0
  have k1 := Only.cell (Only.of_below (r := r) hb) hz1 hrx c1
  have k2 := Only.cell (Only.of_below (r := r) hb) hz1 hrx c2
  have k3 := Only.cell (Only.of_below (r := r) hb) hz1 hrx c3
  have k4 := Only.cell (Only.of_below (r := r) hb) hz1 hrx c4
  have hz3 := Only.lt (Only.of_below (r := r) hb) hz1
  clear hb c0 c1 c2 c3 c4 cm hz1 hz2 HR HO1
  go_upto_region 3 with fail
  have hD := (HR2.out.below (below_alloc (Below.refl _ _) (.cells #[.int .i64 0, .int .i64 0, .int .i64 ((keepAt m.me n : Nat) : Int)] 47))).drew
  have HD := Lib.hid hD
  have HA := Lib.hid (announce_any hD ((keepAt m.me n : Nat) : Int) d)
  clear hD
  go_region_with (first | (go_at_call 154; refine HA.out.mono ?_; rintro e w3 ⟨rfl, h1, h2⟩))
  all_goals
    go_end0
    exact ⟨rfl, h1, Lib.hid ((HO2.out.trans (Only.of_below (below_alloc (Below.refl _ _) _).drew)).trans h2.out)⟩
end
end Go.Proofs.YtihjklimcchkhaaGreatDoor

namespace Go.Proofs.YtihjklimcchkhaaGreatDoor
open Go.RowKit Go.Extern.Stop Go.Stop Go.Extern Go.Sort
section
variable {w : World} {r : Nat} {sv fv nv : Value} {m : Rt}
theorem RtAt.calls (h : RtAt w r sv fv nv m) : w.cell? ⟨r, 7, none⟩ = some (.int .i64 m.st.call.kind) ∧ w.cell? ⟨r, 8, none⟩ = some (.int .i64 m.st.call.s) ∧ w.cell? ⟨r, 9, none⟩ = some (.int .i64 m.st.call.g) ∧ w.cell? ⟨r, 10, none⟩ = some (.int .i64 m.st.call.f) ∧ w.cell? ⟨r, 11, none⟩ = some (.int .i64 m.st.call.old.slot) ∧ w.cell? ⟨r, 12, none⟩ = some (.int .i64 m.st.call.old.gen) ∧ w.cell? ⟨r, 13, none⟩ = some (.int .i64 m.st.call.old.tag) ∧ w.cell? ⟨r, 14, none⟩ = some (.int .i64 m.st.call.old.num) ∧ w.cell? ⟨r, 15, none⟩ = some (.bool m.st.call.old.mark) ∧ w.cell? ⟨r, 16, none⟩ = some (.int .i64 m.st.call.new.slot) ∧ w.cell? ⟨r, 17, none⟩ = some (.int .i64 m.st.call.new.gen) ∧ w.cell? ⟨r, 18, none⟩ = some (.int .i64 m.st.call.new.tag) ∧ w.cell? ⟨r, 19, none⟩ = some (.int .i64 m.st.call.new.num) ∧ w.cell? ⟨r, 20, none⟩ = some (.bool m.st.call.new.mark) ∧ w.cell? ⟨r, 21, none⟩ = some (.int .i64 m.st.call.i) ∧ w.cell? ⟨r, 22, none⟩ = some (.int .i64 m.st.call.j) := by
  have hh := h.range 7 (clc m.st.call) (by kernel_rfl)
  exact ⟨hh 0 _ rfl, hh 1 _ rfl, hh 2 _ rfl, hh 3 _ rfl, hh 4 _ rfl, hh 5 _ rfl, hh 6 _ rfl, hh 7 _ rfl, hh 8 _ rfl, hh 9 _ rfl, hh 10 _ rfl, hh 11 _ rfl, hh 12 _ rfl, hh 13 _ rfl, hh 14 _ rfl, hh 15 _ rfl⟩
theorem RtAt.callS (h : RtAt w r sv fv nv m) : w.cell? ⟨r, 8, none⟩ = some (.int .i64 m.st.call.s) ∧ w.cell? ⟨r, 9, none⟩ = some (.int .i64 m.st.call.g) ∧ w.cell? ⟨r, 10, none⟩ = some (.int .i64 m.st.call.f) ∧ w.cell? ⟨r, 11, none⟩ = some (.int .i64 m.st.call.old.slot) ∧ w.cell? ⟨r, 12, none⟩ = some (.int .i64 m.st.call.old.gen) ∧ w.cell? ⟨r, 13, none⟩ = some (.int .i64 m.st.call.old.tag) ∧ w.cell? ⟨r, 14, none⟩ = some (.int .i64 m.st.call.old.num) ∧ w.cell? ⟨r, 15, none⟩ = some (.bool m.st.call.old.mark) ∧ w.cell? ⟨r, 16, none⟩ = some (.int .i64 m.st.call.new.slot) ∧ w.cell? ⟨r, 17, none⟩ = some (.int .i64 m.st.call.new.gen) ∧ w.cell? ⟨r, 18, none⟩ = some (.int .i64 m.st.call.new.tag) ∧ w.cell? ⟨r, 19, none⟩ = some (.int .i64 m.st.call.new.num) ∧ w.cell? ⟨r, 20, none⟩ = some (.bool m.st.call.new.mark) := by
  obtain ⟨q0, q1, q2, q3, q4, q5, q6, q7, q8, q9, q10, q11, q12, q13, _⟩ := h.calls
  exact ⟨q1, q2, q3, q4, q5, q6, q7, q8, q9, q10, q11, q12, q13⟩
theorem callS_ask {a : Ac} {d : Int} (h : RtAt w r sv fv nv (m.ask a d)) : w.cell? ⟨r, 8, none⟩ = some (.int .i64 m.st.call.s) ∧ w.cell? ⟨r, 9, none⟩ = some (.int .i64 m.st.call.g) ∧ w.cell? ⟨r, 10, none⟩ = some (.int .i64 m.st.call.f) ∧ w.cell? ⟨r, 11, none⟩ = some (.int .i64 m.st.call.old.slot) ∧ w.cell? ⟨r, 12, none⟩ = some (.int .i64 m.st.call.old.gen) ∧ w.cell? ⟨r, 13, none⟩ = some (.int .i64 m.st.call.old.tag) ∧ w.cell? ⟨r, 14, none⟩ = some (.int .i64 m.st.call.old.num) ∧ w.cell? ⟨r, 15, none⟩ = some (.bool m.st.call.old.mark) ∧ w.cell? ⟨r, 16, none⟩ = some (.int .i64 m.st.call.new.slot) ∧ w.cell? ⟨r, 17, none⟩ = some (.int .i64 m.st.call.new.gen) ∧ w.cell? ⟨r, 18, none⟩ = some (.int .i64 m.st.call.new.tag) ∧ w.cell? ⟨r, 19, none⟩ = some (.int .i64 m.st.call.new.num) ∧ w.cell? ⟨r, 20, none⟩ = some (.bool m.st.call.new.mark) := RtAt.callS (m := m.ask a d) h
/-- A rite at whose box x lies what came in. -/
theorem box_rep (w : World) (x : Wd × Bool) : BlkW (w.alloc (.cells #[.int .i64 x.1.slot, .int .i64 x.1.gen, .int .i64 x.1.tag, .int .i64 x.1.num, .bool x.1.mark, .bool x.2] 63)) w.heap.size 63 (rpc x).toArray := BlkW.new _ _ _
theorem rep6 {w : World} {g : Nat} {x : Wd × Bool} (h : BlkW w g 63 (rpc x).toArray) : w.cell? ⟨g, 0, none⟩ = some (.int .i64 x.1.slot) ∧ w.cell? ⟨g, 1, none⟩ = some (.int .i64 x.1.gen) ∧ w.cell? ⟨g, 2, none⟩ = some (.int .i64 x.1.tag) ∧ w.cell? ⟨g, 3, none⟩ = some (.int .i64 x.1.num) ∧ w.cell? ⟨g, 4, none⟩ = some (.bool x.1.mark) ∧ w.cell? ⟨g, 5, none⟩ = some (.bool x.2) := ⟨h.cell 0, h.cell 1, h.cell 2, h.cell 3, h.cell 4, h.cell 5⟩
set_option maxRecDepth 100000 in
set_option maxHeartbeats 1000000 in
theorem touch_end (h : RtAt w r sv fv nv m) (x : Wd × Bool) (hd : m.st.done = 1) :
    Calls Tryz.prog 88 #[.pointer (some ⟨r, 0, none⟩), rpv x] w (Leaf w r nilS nilS nv (m.end_ x)) := by
  have h1 := h.below (below_alloc (Below.refl _ _) (.cells #[.int .i64 x.1.slot, .int .i64 x.1.gen, .int .i64 x.1.tag, .int .i64 x.1.num, .bool x.1.mark, .bool x.2] 63))
  have HX := Lib.hid (box_rep w x)
  have HO := Lib.hid (Only.of_below (r := r) (below_alloc (Below.refl w.heap.size w) (.cells #[.int .i64 x.1.slot, .int .i64 x.1.gen, .int .i64 x.1.tag, .int .i64 x.1.num, .bool x.1.mark, .bool x.2] 63)))
  have HR := Lib.hid h1
  clear h h1
  unfold rpv
  go_enter Tryz.func88, Tryz.ntmps88
  go_upto_region 1 with fail
  generalize w.alloc (.cells #[.int .i64 x.1.slot, .int .i64 x.1.gen, .int .i64 x.1.tag, .int .i64 x.1.num, .bool x.1.mark, .bool x.2] 63) = W at HR HX HO ⊢
  have hX := HX.out
  have hzx := BlkW.lt hX
  have hrx : w.heap.size ≠ r := fun e => BlkW.ne_ hX HR.out (by decide) e
  obtain ⟨b0, b1, b2, b3, b4, b5⟩ := rep6 hX
  have hz := BlkW.lt HR.out
  have cd := HR.out.done
  have ce := HR.out.fix.1
  clear hX HX
  generalize w.heap.size = g at hzx hrx b0 b1 b2 b3 b4 b5 ⊢
  rw [hd] at cd
  clear hd
  have HA := Lib.hid (end_any (HR.out.drew) x)
  go_upto_region 2 with fail
  go_region_held3 (fun w' => w'.cell? ⟨g, 0, none⟩ = some (.int .i64 x.1.slot) ∧ w'.cell? ⟨g, 1, none⟩ = some (.int .i64 x.1.gen) ∧ w'.cell? ⟨g, 2, none⟩ = some (.int .i64 x.1.tag) ∧ w'.cell? ⟨g, 3, none⟩ = some (.int .i64 x.1.num) ∧ w'.cell? ⟨g, 4, none⟩ = some (.bool x.1.mark) ∧ w'.cell? ⟨g, 5, none⟩ = some (.bool x.2))
    (first | go_keep | (have hq := h2.out; exact ⟨hq.cell hzx hrx b0, hq.cell hzx hrx b1, hq.cell hzx hrx b2, hq.cell hzx hrx b3, hq.cell hzx hrx b4, hq.cell hzx hrx b5⟩))
    (first | (go_at_call 118; refine HA.out.mono ?_; rintro e w3 ⟨rfl, h1, h2⟩))
  go_wp2
  all_goals
    refine bodyPost_ret (results_none rfl _ _ _) rfl ?_
    exact ⟨rfl, h1, Lib.hid ((HO.out.trans (Only.of_below (Below.refl _ _).drew)).trans h2.out)⟩
set_option maxRecDepth 100000 in
set_option maxHeartbeats 1000000 in
theorem touch_ask (h : RtAt w r sv fv nv m) (x : Wd × Bool) (hd : m.st.done = 0) (j : Int) (hk : m.st.call.kind = 2 + j) (hj : j = 1 ∨ j = 2 ∨ j = 3) :
    Calls Tryz.prog 88 #[.pointer (some ⟨r, 0, none⟩), rpv x] w (Leaf w r sv fv nv (m.ask ⟨j, m.st.call.s, m.st.call.g, m.st.call.f, m.st.call.old, m.st.call.new⟩ 1)) := by
  have h1 := h.below (below_alloc (Below.refl _ _) (.cells #[.int .i64 x.1.slot, .int .i64 x.1.gen, .int .i64 x.1.tag, .int .i64 x.1.num, .bool x.1.mark, .bool x.2] 63))
  have HX := Lib.hid (box_rep w x)
  have HO := Lib.hid (Only.of_below (r := r) (below_alloc (Below.refl w.heap.size w) (.cells #[.int .i64 x.1.slot, .int .i64 x.1.gen, .int .i64 x.1.tag, .int .i64 x.1.num, .bool x.1.mark, .bool x.2] 63)))
  have HR := Lib.hid h1
  clear h h1
  unfold rpv
  go_enter Tryz.func88, Tryz.ntmps88
  go_upto_region 1 with fail
  generalize w.alloc (.cells #[.int .i64 x.1.slot, .int .i64 x.1.gen, .int .i64 x.1.tag, .int .i64 x.1.num, .bool x.1.mark, .bool x.2] 63) = W at HR HX HO ⊢
  have hX := HX.out
  have hzx := BlkW.lt hX
  have hrx : w.heap.size ≠ r := fun e => BlkW.ne_ hX HR.out (by decide) e
  obtain ⟨b0, b1, b2, b3, b4, b5⟩ := rep6 hX
  have hz := BlkW.lt HR.out
  have cd := HR.out.done
  have ce := HR.out.fix.1
  clear hX HX
  generalize w.heap.size = g at hzx hrx b0 b1 b2 b3 b4 b5 ⊢
  rw [hd] at cd
  clear hd
  obtain ⟨q0, q1, q2, q3, q4, q5, q6, q7, q8, q9, q10, q11, q12, q13, _⟩ := HR.out.calls
  rw [hk] at q0
  clear hk
  have HA := Lib.hid (ask_any (HR.out.drew) ⟨j, m.st.call.s, m.st.call.g, m.st.call.f, m.st.call.old, m.st.call.new⟩ 1)
  rcases hj with rfl | rfl | rfl
  all_goals
    go_upto_region 4 with fail
    go_region_held3 (fun w' => w'.cell? ⟨r, 8, none⟩ = some (.int .i64 m.st.call.s) ∧ w'.cell? ⟨r, 9, none⟩ = some (.int .i64 m.st.call.g) ∧ w'.cell? ⟨r, 10, none⟩ = some (.int .i64 m.st.call.f) ∧ w'.cell? ⟨r, 11, none⟩ = some (.int .i64 m.st.call.old.slot) ∧ w'.cell? ⟨r, 12, none⟩ = some (.int .i64 m.st.call.old.gen) ∧ w'.cell? ⟨r, 13, none⟩ = some (.int .i64 m.st.call.old.tag) ∧ w'.cell? ⟨r, 14, none⟩ = some (.int .i64 m.st.call.old.num) ∧ w'.cell? ⟨r, 15, none⟩ = some (.bool m.st.call.old.mark) ∧ w'.cell? ⟨r, 16, none⟩ = some (.int .i64 m.st.call.new.slot) ∧ w'.cell? ⟨r, 17, none⟩ = some (.int .i64 m.st.call.new.gen) ∧ w'.cell? ⟨r, 18, none⟩ = some (.int .i64 m.st.call.new.tag) ∧ w'.cell? ⟨r, 19, none⟩ = some (.int .i64 m.st.call.new.num) ∧ w'.cell? ⟨r, 20, none⟩ = some (.bool m.st.call.new.mark))
      (first | go_keep | exact callS_ask h1.out)
      (first | (go_at_call 119; refine HA.out.mono ?_; rintro e w3 ⟨rfl, h1, h2⟩))
    all_goals
      go_end0
      exact ⟨rfl, h1, Lib.hid ((HO.out.trans (Only.of_below (Below.refl _ _).drew)).trans h2.out)⟩
end
end Go.Proofs.YtihjklimcchkhaaGreatDoor

namespace Go.Proofs.YtihjklimcchkhaaGreatDoor
open Go.RowKit Go.Extern.Stop Go.Stop Go.Extern Go.Sort
section
variable {w : World} {r : Nat} {sv fv nv : Value} {m : Rt}
theorem RtAt.seen5 (h : RtAt w r sv fv nv m) : w.cell? ⟨r, 40, none⟩ = some (.int .i64 m.st.seen.slot) ∧ w.cell? ⟨r, 41, none⟩ = some (.int .i64 m.st.seen.gen) ∧ w.cell? ⟨r, 42, none⟩ = some (.int .i64 m.st.seen.tag) ∧ w.cell? ⟨r, 43, none⟩ = some (.int .i64 m.st.seen.num) ∧ w.cell? ⟨r, 44, none⟩ = some (.bool m.st.seen.mark) := by
  have hh := h.range 40 (wc m.st.seen) (by kernel_rfl)
  exact ⟨hh 0 _ rfl, hh 1 _ rfl, hh 2 _ rfl, hh 3 _ rfl, hh 4 _ rfl⟩
theorem RtAt.clock5 (h : RtAt w r sv fv nv m) : w.cell? ⟨r, 45, none⟩ = some (.int .i64 m.st.clock.slot) ∧ w.cell? ⟨r, 46, none⟩ = some (.int .i64 m.st.clock.gen) ∧ w.cell? ⟨r, 47, none⟩ = some (.int .i64 m.st.clock.tag) ∧ w.cell? ⟨r, 48, none⟩ = some (.int .i64 m.st.clock.num) ∧ w.cell? ⟨r, 49, none⟩ = some (.bool m.st.clock.mark) := by
  have hh := h.range 45 (wc m.st.clock) (by kernel_rfl)
  exact ⟨hh 0 _ rfl, hh 1 _ rfl, hh 2 _ rfl, hh 3 _ rfl, hh 4 _ rfl⟩
theorem RtAt.see (h : RtAt w r sv fv nv m) (d : Wd) : RtAt (w.setCells r 40 (wc d)) r sv fv nv (m.see d) := h.puts 40 (wc d) (by kernel_rfl)
theorem RtAt.setClock (h : RtAt w r sv fv nv m) (d : Wd) : RtAt (w.setCells r 45 (wc d)) r sv fv nv (m.setClock d) := h.puts 45 (wc d) (by kernel_rfl)
theorem Only.sets {r : Nat} {w : World} (o : Nat) (l : List Value) : Only r w (w.setCells r o l) := Off.sets (K := fun j => j = r) (.inl rfl) _ _ (Off.refl _ w)
theorem Only.drew {r : Nat} {w : World} : Only r w w.drew := Only.of_below (Below.refl _ _).drew
set_option maxRecDepth 100000 in
set_option maxHeartbeats 1000000 in
theorem drop_end (h : RtAt w r sv fv nv m) (hd : m.st.done = 1) :
    Calls Tryz.prog 92 #[.pointer (some ⟨r, 0, none⟩)] w (Leaf w r nilS nilS nv m.ok) := by
  have HR := Lib.hid h
  have cd := h.done
  have hz := BlkW.lt h
  rw [hd] at cd
  clear hd h
  go_enter Tryz.func92, Tryz.ntmps92
  go_wp2_with fail
  refine (succeed_any HR.out).mono ?_
  rintro e w1 ⟨rfl, h1, h2⟩
  go_wp2
  refine bodyPost_ret (results_none rfl _ _ _) rfl ?_
  exact ⟨rfl, h1, h2⟩
theorem RtAt.old5 (h : RtAt w r sv fv nv m) : w.cell? ⟨r, 11, none⟩ = some (.int .i64 m.st.call.old.slot) ∧ w.cell? ⟨r, 12, none⟩ = some (.int .i64 m.st.call.old.gen) ∧ w.cell? ⟨r, 13, none⟩ = some (.int .i64 m.st.call.old.tag) ∧ w.cell? ⟨r, 14, none⟩ = some (.int .i64 m.st.call.old.num) ∧ w.cell? ⟨r, 15, none⟩ = some (.bool m.st.call.old.mark) := by
  obtain ⟨q0, q1, q2, q3, q4, q5, q6, q7, q8, q9, q10, q11, q12, q13, _⟩ := h.calls
  exact ⟨q4, q5, q6, q7, q8⟩
theorem old5_ask {a : Ac} {d : Int} (h : RtAt w r sv fv nv (m.ask a d)) : w.cell? ⟨r, 11, none⟩ = some (.int .i64 m.st.call.old.slot) ∧ w.cell? ⟨r, 12, none⟩ = some (.int .i64 m.st.call.old.gen) ∧ w.cell? ⟨r, 13, none⟩ = some (.int .i64 m.st.call.old.tag) ∧ w.cell? ⟨r, 14, none⟩ = some (.int .i64 m.st.call.old.num) ∧ w.cell? ⟨r, 15, none⟩ = some (.bool m.st.call.old.mark) := RtAt.old5 (m := m.ask a d) h
theorem RtAt.at3 (h : RtAt w r sv fv nv m) : w.cell? ⟨r, 8, none⟩ = some (.int .i64 m.st.call.s) ∧ w.cell? ⟨r, 9, none⟩ = some (.int .i64 m.st.call.g) ∧ w.cell? ⟨r, 10, none⟩ = some (.int .i64 m.st.call.f) := by
  obtain ⟨q0, q1, q2, q3, q4, q5, q6, q7, q8, q9, q10, q11, q12, q13, _⟩ := h.calls
  exact ⟨q1, q2, q3⟩
theorem at3_load {a : Int × Int × Int} {d : Int} (h : RtAt w r sv fv nv (m.load a d)) : w.cell? ⟨r, 8, none⟩ = some (.int .i64 m.st.call.s) ∧ w.cell? ⟨r, 9, none⟩ = some (.int .i64 m.st.call.g) ∧ w.cell? ⟨r, 10, none⟩ = some (.int .i64 m.st.call.f) := RtAt.at3 (m := m.load a d) h
set_option maxRecDepth 100000 in
set_option maxHeartbeats 1000000 in
theorem drop_ask (h : RtAt w r sv fv nv m) (hd : m.st.done = 0) :
    Calls Tryz.prog 92 #[.pointer (some ⟨r, 0, none⟩)] w (Leaf w r sv fv nv (m.ask ⟨5, 0, 0, 0, m.st.call.old, zw⟩ 1)) := by
  have cd := h.done
  have hz := BlkW.lt h
  obtain ⟨q4, q5, q6, q7, q8⟩ := h.old5
  have HA := Lib.hid (ask_any h.drew ⟨5, 0, 0, 0, m.st.call.old, zw⟩ 1)
  rw [hd] at cd
  clear hd h
  go_enter Tryz.func92, Tryz.ntmps92
  go_upto_region 2 with fail
  go_region_held3 (fun w' => w'.cell? ⟨r, 11, none⟩ = some (.int .i64 m.st.call.old.slot) ∧ w'.cell? ⟨r, 12, none⟩ = some (.int .i64 m.st.call.old.gen) ∧ w'.cell? ⟨r, 13, none⟩ = some (.int .i64 m.st.call.old.tag) ∧ w'.cell? ⟨r, 14, none⟩ = some (.int .i64 m.st.call.old.num) ∧ w'.cell? ⟨r, 15, none⟩ = some (.bool m.st.call.old.mark))
    (first | go_keep | exact old5_ask h1.out)
    (first | (go_at_call 119; refine HA.out.mono ?_; rintro e w3 ⟨rfl, h1, h2⟩))
  all_goals
    go_end0
    exact ⟨rfl, h1, Lib.hid (Only.drew.trans h2.out)⟩
set_option maxRecDepth 100000 in
set_option maxHeartbeats 1000000 in
theorem enter_ok (h : RtAt w r sv fv nv m) (x : Wd × Bool) (hd : m.st.done = 0) (hs : m.saysSpan = false) :
    Calls Tryz.prog 86 #[.pointer (some ⟨r, 0, none⟩), rpv x] w (Leaf w r nilS nilS nv m.ok) := by
  have h1 := h.below (below_alloc (Below.refl _ _) (.cells #[.int .i64 x.1.slot, .int .i64 x.1.gen, .int .i64 x.1.tag, .int .i64 x.1.num, .bool x.1.mark, .bool x.2] 63))
  have HX := Lib.hid (box_rep w x)
  have HO := Lib.hid (Only.of_below (r := r) (below_alloc (Below.refl w.heap.size w) (.cells #[.int .i64 x.1.slot, .int .i64 x.1.gen, .int .i64 x.1.tag, .int .i64 x.1.num, .bool x.1.mark, .bool x.2] 63)))
  have HR := Lib.hid h1
  clear h h1
  unfold rpv
  go_enter Tryz.func86, Tryz.ntmps86
  go_upto_region 1 with fail
  generalize w.alloc (.cells #[.int .i64 x.1.slot, .int .i64 x.1.gen, .int .i64 x.1.tag, .int .i64 x.1.num, .bool x.1.mark, .bool x.2] 63) = W at HR HX HO ⊢
  have hX := HX.out
  have hzx := BlkW.lt hX
  have hrx : w.heap.size ≠ r := fun e => BlkW.ne_ hX HR.out (by decide) e
  obtain ⟨b0, b1, b2, b3, b4, b5⟩ := rep6 hX
  have hz := BlkW.lt HR.out
  have cd := HR.out.done
  have ce := HR.out.fix.1
  clear hX HX
  generalize w.heap.size = g at hzx hrx b0 b1 b2 b3 b4 b5 ⊢
  rw [hd] at cd
  clear hd
  go_wp2_with fail
  refine (saysSpan_any HR.out).mono ?_
  rintro e w1 ⟨rfl, rfl⟩
  rw [hs]
  go_wp2_with fail
  refine (succeed_any HR.out).mono ?_
  rintro e w3 ⟨rfl, h1, h2⟩
  go_wp2
  go_end0
  exact ⟨rfl, h1, Lib.hid (HO.out.trans h2.out)⟩
theorem Num_is (n : Int) (w : World) : Calls Tryz.prog 81 #[.int .i64 n] w fun e w' => e = .returned (wv (nw n)) ∧ Below w.heap.size w w' := Num_any n w
set_option maxRecDepth 100000 in
set_option maxHeartbeats 1000000 in
theorem alloc_end (h : RtAt w r sv fv nv m) (x : Wd × Bool) (hd : m.st.done = 1) :
    Calls Tryz.prog 91 #[.pointer (some ⟨r, 0, none⟩), rpv x] w (Leaf w r nilS nilS nv (m.end_ x)) := by
  have h1 := h.below (below_alloc (Below.refl _ _) (.cells #[.int .i64 x.1.slot, .int .i64 x.1.gen, .int .i64 x.1.tag, .int .i64 x.1.num, .bool x.1.mark, .bool x.2] 63))
  have HX := Lib.hid (box_rep w x)
  have HO := Lib.hid (Only.of_below (r := r) (below_alloc (Below.refl w.heap.size w) (.cells #[.int .i64 x.1.slot, .int .i64 x.1.gen, .int .i64 x.1.tag, .int .i64 x.1.num, .bool x.1.mark, .bool x.2] 63)))
  have HR := Lib.hid h1
  clear h h1
  unfold rpv
  go_enter Tryz.func91, Tryz.ntmps91
  go_upto_region 1 with fail
  generalize w.alloc (.cells #[.int .i64 x.1.slot, .int .i64 x.1.gen, .int .i64 x.1.tag, .int .i64 x.1.num, .bool x.1.mark, .bool x.2] 63) = W at HR HX HO ⊢
  have hX := HX.out
  have hzx := BlkW.lt hX
  have hrx : w.heap.size ≠ r := fun e => BlkW.ne_ hX HR.out (by decide) e
  obtain ⟨b0, b1, b2, b3, b4, b5⟩ := rep6 hX
  have hz := BlkW.lt HR.out
  have cd := HR.out.done
  have ce := HR.out.fix.1
  clear hX HX
  generalize w.heap.size = g at hzx hrx b0 b1 b2 b3 b4 b5 ⊢
  rw [hd] at cd
  clear hd
  have HA := Lib.hid (end_any (HR.out.drew) x)
  go_upto_region 8 with fail
  go_region_held3 (fun w' => w'.cell? ⟨g, 0, none⟩ = some (.int .i64 x.1.slot) ∧ w'.cell? ⟨g, 1, none⟩ = some (.int .i64 x.1.gen) ∧ w'.cell? ⟨g, 2, none⟩ = some (.int .i64 x.1.tag) ∧ w'.cell? ⟨g, 3, none⟩ = some (.int .i64 x.1.num) ∧ w'.cell? ⟨g, 4, none⟩ = some (.bool x.1.mark) ∧ w'.cell? ⟨g, 5, none⟩ = some (.bool x.2))
    (first | go_keep | (have hq := h2.out; exact ⟨hq.cell hzx hrx b0, hq.cell hzx hrx b1, hq.cell hzx hrx b2, hq.cell hzx hrx b3, hq.cell hzx hrx b4, hq.cell hzx hrx b5⟩))
    (first | (go_at_call 118; refine HA.out.mono ?_; rintro e w3 ⟨rfl, h1, h2⟩))
  go_wp2
  all_goals
    first
      | go_end0
      | refine bodyPost_ret (results_none rfl _ _ _) rfl ?_
    exact ⟨rfl, h1, Lib.hid ((HO.out.trans Only.drew).trans h2.out)⟩
set_option maxRecDepth 100000 in
set_option maxHeartbeats 1000000 in
theorem alloc_ask (h : RtAt w r sv fv nv m) (x : Wd × Bool) (hd : m.st.done = 0) (hs : m.countsEras = false) :
    Calls Tryz.prog 91 #[.pointer (some ⟨r, 0, none⟩), rpv x] w (Leaf w r sv fv nv (m.askNew x.1.num)) := by
  have h1 := h.below (below_alloc (Below.refl _ _) (.cells #[.int .i64 x.1.slot, .int .i64 x.1.gen, .int .i64 x.1.tag, .int .i64 x.1.num, .bool x.1.mark, .bool x.2] 63))
  have HX := Lib.hid (box_rep w x)
  have HO := Lib.hid (Only.of_below (r := r) (below_alloc (Below.refl w.heap.size w) (.cells #[.int .i64 x.1.slot, .int .i64 x.1.gen, .int .i64 x.1.tag, .int .i64 x.1.num, .bool x.1.mark, .bool x.2] 63)))
  have HR := Lib.hid h1
  clear h h1
  unfold rpv
  go_enter Tryz.func91, Tryz.ntmps91
  go_upto_region 1 with fail
  generalize w.alloc (.cells #[.int .i64 x.1.slot, .int .i64 x.1.gen, .int .i64 x.1.tag, .int .i64 x.1.num, .bool x.1.mark, .bool x.2] 63) = W at HR HX HO ⊢
  have hX := HX.out
  have hzx := BlkW.lt hX
  have hrx : w.heap.size ≠ r := fun e => BlkW.ne_ hX HR.out (by decide) e
  obtain ⟨b0, b1, b2, b3, b4, b5⟩ := rep6 hX
  have hz := BlkW.lt HR.out
  have cd := HR.out.done
  have ce := HR.out.fix.1
  clear hX HX
  generalize w.heap.size = g at hzx hrx b0 b1 b2 b3 b4 b5 ⊢
  rw [hd] at cd
  clear hd
  go_wp2_with fail
  refine (countsEras_any HR.out).mono ?_
  rintro e w1 ⟨rfl, rfl⟩
  rw [hs]
  go_upto_region 7 with fail
  have HD := Lib.hid HR.out.drew
  go_region_held3 (fun w' => w'.cell? ⟨g, 0, none⟩ = some (.int .i64 x.1.slot) ∧ w'.cell? ⟨g, 1, none⟩ = some (.int .i64 x.1.gen) ∧ w'.cell? ⟨g, 2, none⟩ = some (.int .i64 x.1.tag) ∧ w'.cell? ⟨g, 3, none⟩ = some (.int .i64 x.1.num) ∧ w'.cell? ⟨g, 4, none⟩ = some (.bool x.1.mark) ∧ w'.cell? ⟨g, 5, none⟩ = some (.bool x.2))
    (first | go_keep | (have hq := Only.of_below (r := r) hb; exact ⟨hq.cell hzx hrx b0, hq.cell hzx hrx b1, hq.cell hzx hrx b2, hq.cell hzx hrx b3, hq.cell hzx hrx b4, hq.cell hzx hrx b5⟩) | (have hq := (Only.of_below (r := r) hb).trans h2.out; exact ⟨hq.cell hzx hrx b0, hq.cell hzx hrx b1, hq.cell hzx hrx b2, hq.cell hzx hrx b3, hq.cell hzx hrx b4, hq.cell hzx hrx b5⟩))
    (first
    | (go_at_call 81; refine (Num_any _ _).mono ?_; rintro e w2 ⟨rfl, hb⟩; have HE := Lib.hid (HD.out.below hb))
    | (go_at_call 119; refine (ask_any HE.out ⟨4, 0, 0, 0, zw, nw x.1.num⟩ 1).mono ?_; rintro e w3 ⟨rfl, h1, h2⟩))
  all_goals
    go_wp2
    first
      | go_end0
      | refine bodyPost_ret (results_none rfl _ _ _) rfl ?_
    exact ⟨rfl, h1, Lib.hid (((HO.out.trans Only.drew).trans (Only.of_below hb)).trans h2.out)⟩
set_option maxRecDepth 100000 in
set_option maxHeartbeats 1000000 in
theorem alloc_ask4 (h : RtAt w r sv fv nv m) (x : Wd × Bool) (hd : m.st.done = 4) :
    Calls Tryz.prog 91 #[.pointer (some ⟨r, 0, none⟩), rpv x] w (Leaf w r sv fv nv (m.askNew x.1.num)) := by
  have h1 := h.below (below_alloc (Below.refl _ _) (.cells #[.int .i64 x.1.slot, .int .i64 x.1.gen, .int .i64 x.1.tag, .int .i64 x.1.num, .bool x.1.mark, .bool x.2] 63))
  have HX := Lib.hid (box_rep w x)
  have HO := Lib.hid (Only.of_below (r := r) (below_alloc (Below.refl w.heap.size w) (.cells #[.int .i64 x.1.slot, .int .i64 x.1.gen, .int .i64 x.1.tag, .int .i64 x.1.num, .bool x.1.mark, .bool x.2] 63)))
  have HR := Lib.hid h1
  clear h h1
  unfold rpv
  go_enter Tryz.func91, Tryz.ntmps91
  go_upto_region 1 with fail
  generalize w.alloc (.cells #[.int .i64 x.1.slot, .int .i64 x.1.gen, .int .i64 x.1.tag, .int .i64 x.1.num, .bool x.1.mark, .bool x.2] 63) = W at HR HX HO ⊢
  have hX := HX.out
  have hzx := BlkW.lt hX
  have hrx : w.heap.size ≠ r := fun e => BlkW.ne_ hX HR.out (by decide) e
  obtain ⟨b0, b1, b2, b3, b4, b5⟩ := rep6 hX
  have hz := BlkW.lt HR.out
  have cd := HR.out.done
  have ce := HR.out.fix.1
  clear hX HX
  generalize w.heap.size = g at hzx hrx b0 b1 b2 b3 b4 b5 ⊢
  rw [hd] at cd
  clear hd
  go_upto_region 7 with fail
  have HD := Lib.hid HR.out.drew
  go_region_held3 (fun w' => w'.cell? ⟨g, 0, none⟩ = some (.int .i64 x.1.slot) ∧ w'.cell? ⟨g, 1, none⟩ = some (.int .i64 x.1.gen) ∧ w'.cell? ⟨g, 2, none⟩ = some (.int .i64 x.1.tag) ∧ w'.cell? ⟨g, 3, none⟩ = some (.int .i64 x.1.num) ∧ w'.cell? ⟨g, 4, none⟩ = some (.bool x.1.mark) ∧ w'.cell? ⟨g, 5, none⟩ = some (.bool x.2))
    (first | go_keep | (have hq := Only.of_below (r := r) hb; exact ⟨hq.cell hzx hrx b0, hq.cell hzx hrx b1, hq.cell hzx hrx b2, hq.cell hzx hrx b3, hq.cell hzx hrx b4, hq.cell hzx hrx b5⟩) | (have hq := (Only.of_below (r := r) hb).trans h2.out; exact ⟨hq.cell hzx hrx b0, hq.cell hzx hrx b1, hq.cell hzx hrx b2, hq.cell hzx hrx b3, hq.cell hzx hrx b4, hq.cell hzx hrx b5⟩))
    (first
    | (go_at_call 81; refine (Num_any _ _).mono ?_; rintro e w2 ⟨rfl, hb⟩; have HE := Lib.hid (HD.out.below hb))
    | (go_at_call 119; refine (ask_any HE.out ⟨4, 0, 0, 0, zw, nw x.1.num⟩ 1).mono ?_; rintro e w3 ⟨rfl, h1, h2⟩))
  all_goals
    go_wp2
    first
      | go_end0
      | refine bodyPost_ret (results_none rfl _ _ _) rfl ?_
    exact ⟨rfl, h1, Lib.hid (((HO.out.trans Only.drew).trans (Only.of_below hb)).trans h2.out)⟩
set_option maxRecDepth 100000 in
set_option maxHeartbeats 1000000 in
theorem alloc_clock (h : RtAt w r sv fv nv m) (x : Wd × Bool) (hd : m.st.done = 0) (hs : m.countsEras = true) :
    Calls Tryz.prog 91 #[.pointer (some ⟨r, 0, none⟩), rpv x] w (Leaf w r sv fv nv (m.loadClock 4)) := by
  have h1 := h.below (below_alloc (Below.refl _ _) (.cells #[.int .i64 x.1.slot, .int .i64 x.1.gen, .int .i64 x.1.tag, .int .i64 x.1.num, .bool x.1.mark, .bool x.2] 63))
  have HX := Lib.hid (box_rep w x)
  have HO := Lib.hid (Only.of_below (r := r) (below_alloc (Below.refl w.heap.size w) (.cells #[.int .i64 x.1.slot, .int .i64 x.1.gen, .int .i64 x.1.tag, .int .i64 x.1.num, .bool x.1.mark, .bool x.2] 63)))
  have HR := Lib.hid h1
  clear h h1
  unfold rpv
  go_enter Tryz.func91, Tryz.ntmps91
  go_upto_region 1 with fail
  generalize w.alloc (.cells #[.int .i64 x.1.slot, .int .i64 x.1.gen, .int .i64 x.1.tag, .int .i64 x.1.num, .bool x.1.mark, .bool x.2] 63) = W at HR HX HO ⊢
  have hX := HX.out
  have hzx := BlkW.lt hX
  have hrx : w.heap.size ≠ r := fun e => BlkW.ne_ hX HR.out (by decide) e
  obtain ⟨b0, b1, b2, b3, b4, b5⟩ := rep6 hX
  have hz := BlkW.lt HR.out
  have cd := HR.out.done
  have ce := HR.out.fix.1
  clear hX HX
  generalize w.heap.size = g at hzx hrx b0 b1 b2 b3 b4 b5 ⊢
  rw [hd] at cd
  clear hd
  go_wp2_with fail
  refine (countsEras_any HR.out).mono ?_
  rintro e w1 ⟨rfl, rfl⟩
  rw [hs]
  go_wp2_with fail
  refine (loadClock_any HR.out 4).mono ?_
  rintro e w3 ⟨rfl, h1, h2⟩
  go_wp2
  refine bodyPost_ret (results_none rfl _ _ _) rfl ?_
  exact ⟨rfl, h1, Lib.hid (HO.out.trans h2.out)⟩
set_option maxRecDepth 100000 in
set_option maxHeartbeats 1000000 in
theorem protect_load (h : RtAt w r sv fv nv m) (x : Wd × Bool) (hd : m.st.done = 0 ∨ m.st.done = 2) :
    Calls Tryz.prog 89 #[.pointer (some ⟨r, 0, none⟩), rpv x] w (Leaf w r sv fv nv (m.load (m.st.call.s, m.st.call.g, m.st.call.f) 1)) := by
  have h1 := h.below (below_alloc (Below.refl _ _) (.cells #[.int .i64 x.1.slot, .int .i64 x.1.gen, .int .i64 x.1.tag, .int .i64 x.1.num, .bool x.1.mark, .bool x.2] 63))
  have HX := Lib.hid (box_rep w x)
  have HO := Lib.hid (Only.of_below (r := r) (below_alloc (Below.refl w.heap.size w) (.cells #[.int .i64 x.1.slot, .int .i64 x.1.gen, .int .i64 x.1.tag, .int .i64 x.1.num, .bool x.1.mark, .bool x.2] 63)))
  have HR := Lib.hid h1
  clear h h1
  unfold rpv
  go_enter Tryz.func89, Tryz.ntmps89
  go_upto_region 1 with fail
  generalize w.alloc (.cells #[.int .i64 x.1.slot, .int .i64 x.1.gen, .int .i64 x.1.tag, .int .i64 x.1.num, .bool x.1.mark, .bool x.2] 63) = W at HR HX HO ⊢
  have hX := HX.out
  have hzx := BlkW.lt hX
  have hrx : w.heap.size ≠ r := fun e => BlkW.ne_ hX HR.out (by decide) e
  obtain ⟨b0, b1, b2, b3, b4, b5⟩ := rep6 hX
  have hz := BlkW.lt HR.out
  have cd := HR.out.done
  have ce := HR.out.fix.1
  clear hX HX
  generalize w.heap.size = g at hzx hrx b0 b1 b2 b3 b4 b5 ⊢
  obtain ⟨q0, q1, q2⟩ := HR.out.at3
  have HA := Lib.hid (load_any HR.out.drew (m.st.call.s, m.st.call.g, m.st.call.f) 1)
  rcases hd with hd | hd
  all_goals
    rw [hd] at cd
    clear hd
    go_upto_region 6 with fail
    go_region_held3 (fun w' => w'.cell? ⟨r, 8, none⟩ = some (.int .i64 m.st.call.s) ∧ w'.cell? ⟨r, 9, none⟩ = some (.int .i64 m.st.call.g) ∧ w'.cell? ⟨r, 10, none⟩ = some (.int .i64 m.st.call.f))
      (first | go_keep | exact at3_load h1.out)
      (first | (go_at_call 120; refine HA.out.mono ?_; rintro e w3 ⟨rfl, h1, h2⟩))
    all_goals
      go_wp2
      first
        | go_end0
        | refine bodyPost_ret (results_none rfl _ _ _) rfl ?_
      exact ⟨rfl, h1, Lib.hid ((HO.out.trans Only.drew).trans h2.out)⟩
end
end Go.Proofs.YtihjklimcchkhaaGreatDoor

namespace Go.Proofs.YtihjklimcchkhaaGreatDoor
open Go.RowKit Go.Extern.Stop Go.Stop Go.Extern Go.Sort
section
variable {w : World} {r : Nat} {sv fv nv : Value} {m : Rt}
theorem keep_cell {w w' : World} {a : Addr} {v : Value} (hb : Below w.heap.size w w') (h : w.cell? a = some v) : w'.cell? a = some v := by rw [hb.cell (lt_of_cell h)]; exact h
theorem RtAt.keep9 (h : RtAt w r sv fv nv m) {n : Nat} (hn : n < 9) : w.cell? ⟨r, 57 + n * 5, none⟩ = some (.int .i64 (m.kept n).slot) ∧ w.cell? ⟨r, 57 + n * 5 + 1, none⟩ = some (.int .i64 (m.kept n).gen) ∧ w.cell? ⟨r, 57 + n * 5 + 2, none⟩ = some (.int .i64 (m.kept n).tag) ∧ w.cell? ⟨r, 57 + n * 5 + 3, none⟩ = some (.int .i64 (m.kept n).num) ∧ w.cell? ⟨r, 57 + n * 5 + 4, none⟩ = some (.bool (m.kept n).mark) :=
  ⟨h.kept9 hn 0 _ rfl, h.kept9 hn 1 _ rfl, h.kept9 hn 2 _ rfl, h.kept9 hn 3 _ rfl, h.kept9 hn 4 _ rfl⟩
theorem RtAt.callI (h : RtAt w r sv fv nv m) : w.cell? ⟨r, 21, none⟩ = some (.int .i64 m.st.call.i) ∧ w.cell? ⟨r, 22, none⟩ = some (.int .i64 m.st.call.j) := by
  obtain ⟨q0, q1, q2, q3, q4, q5, q6, q7, q8, q9, q10, q11, q12, q13, q14, q15⟩ := h.calls
  exact ⟨q14, q15⟩
theorem nil_at (s g : Int) (b : Bool) (hb : (s == 0) = b) (w : World) : Calls Tryz.prog 21 #[.agg #[.int .i64 s, .int .i64 g, .int .i64 0, .int .i64 0, .bool false]] w fun e w' => e = .returned (.bool b) ∧ Below w.heap.size w w' := hb ▸ Nil_any s g 0 0 false w
set_option maxRecDepth 100000 in
set_option maxHeartbeats 1000000 in
theorem keep_haz_nil (h : RtAt w r sv fv nv m) (he : m.eng = 2) (n : Nat) (hn : n < 9) (hi : m.st.call.i = (n : Int)) (hs : m.st.seen.slot = 0) (now : Int) :
    Calls Tryz.prog 122 #[.pointer (some ⟨r, 0, none⟩), .int .i64 now] w (Leaf w r nilS nilS nv (m.end_ (m.st.seen, true))) := by
  have HR := Lib.hid h
  have ce := h.fix.1
  have ci := h.callI.1
  obtain ⟨s0, s1, s2, s3, s4⟩ := h.seen5
  have hz := BlkW.lt h
  rw [he] at ce
  rw [hi] at ci
  have hi1 : (0 : Int) ≤ (n : Int) := by omega
  have hi2 : (n : Int) < 9 := by omega
  have k1 := noHeld
  have k2 := noGuard
  have k3 := ne23
  have eb := eqB_iff (m.kept n) m.st.seen.ref
  unfold Wd.ref at eb
  dsimp only at eb
  have HN0 := Lib.hid (nil_at m.st.seen.slot m.st.seen.gen true (by simpa using hs))
  clear h he hi hs
  go_enter Tryz.func122, Tryz.ntmps122
  go_wp2_with fail
  refine (Ref_any _ _ _ _ _ _).mono ?_
  rintro e w1 ⟨rfl, hb⟩
  have HR1 := Lib.hid (HR.out.below hb)
  have HO1 := Lib.hid (Only.of_below (r := r) hb)
  have t0 := keep_cell hb s0
  have t1 := keep_cell hb s1
  have t2 := keep_cell hb s2
  have t3 := keep_cell hb s3
  have t4 := keep_cell hb s4
  have hz1 := Only.lt (Only.of_below (r := r) hb) hz
  clear hb s0 s1 s2 s3 s4 HR ce ci hz
  go_upto_region 4 with fail
  have HX := Lib.hid (BlkW.new w1 34 #[.int .i64 m.st.seen.slot, .int .i64 m.st.seen.gen, .int .i64 0, .int .i64 0, .bool false])
  have HO := Lib.hid (HO1.out.trans (Only.of_below (r := r) (below_alloc (Below.refl _ _) (.cells #[.int .i64 m.st.seen.slot, .int .i64 m.st.seen.gen, .int .i64 0, .int .i64 0, .bool false] 34))))
  have HR := Lib.hid (HR1.out.below (below_alloc (Below.refl _ _) (.cells #[.int .i64 m.st.seen.slot, .int .i64 m.st.seen.gen, .int .i64 0, .int .i64 0, .bool false] 34)))
  clear HO1 HR1 t0 t1 t2 t3 t4 hz1
  generalize w1.alloc (.cells #[.int .i64 m.st.seen.slot, .int .i64 m.st.seen.gen, .int .i64 0, .int .i64 0, .bool false] 34) = W at HX HO HR ⊢
  have hX := HX.out
  have hrx : w1.heap.size ≠ r := fun e => BlkW.ne_ hX HR.out (by decide) e
  have hzx := BlkW.lt hX
  obtain ⟨b0, b1, b2, b3, b4⟩ := cell5 hX
  clear HX hX
  generalize w1.heap.size = g at hrx hzx b0 b1 b2 b3 b4 ⊢
  obtain ⟨q0, q1, q2, q3, q4⟩ := HR.out.keep9 hn
  have hz := BlkW.lt HR.out
  obtain ⟨x0, x1, x2, x3, x4⟩ : (∀ d os, (grow (redrawn W d) os).cell? ⟨g, 0, none⟩ = some _) ∧ (∀ d os, (grow (redrawn W d) os).cell? ⟨g, 1, none⟩ = some _) ∧ (∀ d os, (grow (redrawn W d) os).cell? ⟨g, 2, none⟩ = some _) ∧ (∀ d os, (grow (redrawn W d) os).cell? ⟨g, 3, none⟩ = some _) ∧ (∀ d os, (grow (redrawn W d) os).cell? ⟨g, 4, none⟩ = some _) := ⟨cell_regrown b0, cell_regrown b1, cell_regrown b2, cell_regrown b3, cell_regrown b4⟩
  have HN : Hid (∀ d os, Calls Tryz.prog 21 #[.agg #[.int .i64 m.st.seen.slot, .int .i64 m.st.seen.gen, .int .i64 0, .int .i64 0, .bool false]] (grow (redrawn W d) os) fun e w'' => e = .returned (.bool true) ∧ ∃ p : Regrown, w'' = grow (redrawn W p.d) p.os) := Lib.hid (fun d os => Calls.regrown_of (HN0.out _))
  refine wp_region_quiet_below (by kernel_rfl) (by kernel_rfl) ?_
  repeat (go_big_quiet_step ((first | with_reducible exact HN.out _ _)))
  refine wpQuiet_nil ?_
  intro _ hw'
  obtain ⟨⟨dq, osq⟩, hw''⟩ := hw'
  subst hw''
  have hb : Below W.drew.heap.size W.drew (grow (redrawn W dq) osq) := ⟨(below_regrown W dq osq).os, (below_regrown W dq osq).tape, (below_regrown W dq osq).output, (below_regrown W dq osq).size, (below_regrown W dq osq).block⟩
  generalize grow (redrawn W dq) osq = w2 at hb ⊢
  all_goals
    have HR2 := Lib.hid ((HR.out.drew).below hb)
    have HO2 := Lib.hid ((HO.out.trans Only.drew).trans (Only.of_below (r := r) hb))
    clear HR HO hb b0 b1 b2 b3 b4 q0 q1 q2 q3 q4
    obtain ⟨s0, s1, s2, s3, s4⟩ := HR2.out.seen5
    have hz2 := BlkW.lt HR2.out
    have HA := Lib.hid (end_any HR2.out.drew (m.st.seen, true))
    go_upto_region 12 with fail
    go_region_with (first | (go_at_call 118; refine HA.out.mono ?_; rintro e w3 ⟨rfl, h1, h2⟩))
    all_goals
      go_wp2
      first
        | go_end0
        | refine bodyPost_ret (results_none rfl _ _ _) rfl ?_
      exact ⟨rfl, h1, Lib.hid ((HO2.out.trans Only.drew).trans h2.out)⟩
set_option maxRecDepth 100000 in
set_option maxHeartbeats 1000000 in
theorem keep_haz_same (h : RtAt w r sv fv nv m) (he : m.eng = 2) (n : Nat) (hn : n < 9) (hi : m.st.call.i = (n : Int)) (hs : ¬ m.st.seen.slot = 0) (hq : m.kept n = m.st.seen.ref) (now : Int) :
    Calls Tryz.prog 122 #[.pointer (some ⟨r, 0, none⟩), .int .i64 now] w (Leaf w r nilS nilS nv (m.end_ (m.st.seen, true))) := by
  have HR := Lib.hid h
  have ce := h.fix.1
  have ci := h.callI.1
  obtain ⟨s0, s1, s2, s3, s4⟩ := h.seen5
  have hz := BlkW.lt h
  rw [he] at ce
  rw [hi] at ci
  have hi1 : (0 : Int) ≤ (n : Int) := by omega
  have hi2 : (n : Int) < 9 := by omega
  have k1 := noHeld
  have k2 := noGuard
  have k3 := ne23
  have eb := eqB_iff (m.kept n) m.st.seen.ref
  rw [decide_eq_true hq] at eb
  unfold Wd.ref at eb
  dsimp only at eb
  have HN := Lib.hid (nil_at m.st.seen.slot m.st.seen.gen false (by simpa using hs))
  clear h he hi hs hq
  go_enter Tryz.func122, Tryz.ntmps122
  go_wp2_with fail
  refine (Ref_any _ _ _ _ _ _).mono ?_
  rintro e w1 ⟨rfl, hb⟩
  have HR1 := Lib.hid (HR.out.below hb)
  have HO1 := Lib.hid (Only.of_below (r := r) hb)
  have t0 := keep_cell hb s0
  have t1 := keep_cell hb s1
  have t2 := keep_cell hb s2
  have t3 := keep_cell hb s3
  have t4 := keep_cell hb s4
  have hz1 := Only.lt (Only.of_below (r := r) hb) hz
  clear hb s0 s1 s2 s3 s4 HR ce ci hz
  go_upto_region 4 with fail
  have HX := Lib.hid (BlkW.new w1 34 #[.int .i64 m.st.seen.slot, .int .i64 m.st.seen.gen, .int .i64 0, .int .i64 0, .bool false])
  have HO := Lib.hid (HO1.out.trans (Only.of_below (r := r) (below_alloc (Below.refl _ _) (.cells #[.int .i64 m.st.seen.slot, .int .i64 m.st.seen.gen, .int .i64 0, .int .i64 0, .bool false] 34))))
  have HR := Lib.hid (HR1.out.below (below_alloc (Below.refl _ _) (.cells #[.int .i64 m.st.seen.slot, .int .i64 m.st.seen.gen, .int .i64 0, .int .i64 0, .bool false] 34)))
  clear HO1 HR1 t0 t1 t2 t3 t4 hz1
  generalize w1.alloc (.cells #[.int .i64 m.st.seen.slot, .int .i64 m.st.seen.gen, .int .i64 0, .int .i64 0, .bool false] 34) = W at HX HO HR ⊢
  have hX := HX.out
  have hrx : w1.heap.size ≠ r := fun e => BlkW.ne_ hX HR.out (by decide) e
  have hzx := BlkW.lt hX
  obtain ⟨b0, b1, b2, b3, b4⟩ := cell5 hX
  clear HX hX
  generalize w1.heap.size = g at hrx hzx b0 b1 b2 b3 b4 ⊢
  obtain ⟨q0, q1, q2, q3, q4⟩ := HR.out.keep9 hn
  have hz := BlkW.lt HR.out
  go_region_held3 (fun w' => w'.cell? ⟨g, 0, none⟩ = some (.int .i64 m.st.seen.slot) ∧ w'.cell? ⟨g, 1, none⟩ = some (.int .i64 m.st.seen.gen) ∧ w'.cell? ⟨g, 2, none⟩ = some (.int .i64 0) ∧ w'.cell? ⟨g, 3, none⟩ = some (.int .i64 0) ∧ w'.cell? ⟨g, 4, none⟩ = some (.bool false) ∧ w'.cell? ⟨r, 57 + n * 5, none⟩ = some (.int .i64 (m.kept n).slot) ∧ w'.cell? ⟨r, 57 + n * 5 + 1, none⟩ = some (.int .i64 (m.kept n).gen) ∧ w'.cell? ⟨r, 57 + n * 5 + 2, none⟩ = some (.int .i64 (m.kept n).tag) ∧ w'.cell? ⟨r, 57 + n * 5 + 3, none⟩ = some (.int .i64 (m.kept n).num) ∧ w'.cell? ⟨r, 57 + n * 5 + 4, none⟩ = some (.bool (m.kept n).mark))
    (first | go_keep | exact ⟨keep_cell hb b0, keep_cell hb b1, keep_cell hb b2, keep_cell hb b3, keep_cell hb b4, keep_cell hb q0, keep_cell hb q1, keep_cell hb q2, keep_cell hb q3, keep_cell hb q4⟩)
    (first | (go_at_call 21; refine (HN.out _).mono ?_; rintro e w2 ⟨rfl, hb⟩))
  all_goals
    have HR2 := Lib.hid ((HR.out.drew).below hb)
    have HO2 := Lib.hid ((HO.out.trans Only.drew).trans (Only.of_below (r := r) hb))
    clear HR HO hb b0 b1 b2 b3 b4 q0 q1 q2 q3 q4
    obtain ⟨s0, s1, s2, s3, s4⟩ := HR2.out.seen5
    have hz2 := BlkW.lt HR2.out
    have HA := Lib.hid (end_any HR2.out.drew (m.st.seen, true))
    go_upto_region 12 with fail
    go_region_with (first | (go_at_call 118; refine HA.out.mono ?_; rintro e w3 ⟨rfl, h1, h2⟩))
    all_goals
      go_wp2
      first
        | go_end0
        | refine bodyPost_ret (results_none rfl _ _ _) rfl ?_
      exact ⟨rfl, h1, Lib.hid ((HO2.out.trans Only.drew).trans h2.out)⟩
set_option maxRecDepth 100000 in
set_option maxHeartbeats 1000000 in
theorem keep_haz_say (h : RtAt w r sv fv nv m) (he : m.eng = 2) (n : Nat) (hn : n < 9) (hi : m.st.call.i = (n : Int)) (hs : ¬ m.st.seen.slot = 0) (hm : m.me < 6) (hq : ¬ m.kept n = m.st.seen.ref) (now : Int) :
    Calls Tryz.prog 122 #[.pointer (some ⟨r, 0, none⟩), .int .i64 now] w (Leaf w r sv fv nv (m.say n m.st.seen.ref)) := by
  have HR := Lib.hid h
  have ce := h.fix.1
  have ci := h.callI.1
  obtain ⟨s0, s1, s2, s3, s4⟩ := h.seen5
  have hz := BlkW.lt h
  rw [he] at ce
  rw [hi] at ci
  have hi1 : (0 : Int) ≤ (n : Int) := by omega
  have hi2 : (n : Int) < 9 := by omega
  have k1 := noHeld
  have k2 := noGuard
  have k3 := ne23
  have eb := eqB_iff (m.kept n) m.st.seen.ref
  rw [decide_eq_false hq] at eb
  unfold Wd.ref at eb
  dsimp only at eb
  have HN := Lib.hid (nil_at m.st.seen.slot m.st.seen.gen false (by simpa using hs))
  clear h he hi hs hq
  go_enter Tryz.func122, Tryz.ntmps122
  go_wp2_with fail
  refine (Ref_any _ _ _ _ _ _).mono ?_
  rintro e w1 ⟨rfl, hb⟩
  have HR1 := Lib.hid (HR.out.below hb)
  have HO1 := Lib.hid (Only.of_below (r := r) hb)
  have t0 := keep_cell hb s0
  have t1 := keep_cell hb s1
  have t2 := keep_cell hb s2
  have t3 := keep_cell hb s3
  have t4 := keep_cell hb s4
  have hz1 := Only.lt (Only.of_below (r := r) hb) hz
  clear hb s0 s1 s2 s3 s4 HR ce ci hz
  go_upto_region 4 with fail
  have HX := Lib.hid (BlkW.new w1 34 #[.int .i64 m.st.seen.slot, .int .i64 m.st.seen.gen, .int .i64 0, .int .i64 0, .bool false])
  have HO := Lib.hid (HO1.out.trans (Only.of_below (r := r) (below_alloc (Below.refl _ _) (.cells #[.int .i64 m.st.seen.slot, .int .i64 m.st.seen.gen, .int .i64 0, .int .i64 0, .bool false] 34))))
  have HR := Lib.hid (HR1.out.below (below_alloc (Below.refl _ _) (.cells #[.int .i64 m.st.seen.slot, .int .i64 m.st.seen.gen, .int .i64 0, .int .i64 0, .bool false] 34)))
  clear HO1 HR1 t0 t1 t2 t3 t4 hz1
  generalize w1.alloc (.cells #[.int .i64 m.st.seen.slot, .int .i64 m.st.seen.gen, .int .i64 0, .int .i64 0, .bool false] 34) = W at HX HO HR ⊢
  have hX := HX.out
  have hrx : w1.heap.size ≠ r := fun e => BlkW.ne_ hX HR.out (by decide) e
  have hzx := BlkW.lt hX
  obtain ⟨b0, b1, b2, b3, b4⟩ := cell5 hX
  clear HX hX
  generalize w1.heap.size = g at hrx hzx b0 b1 b2 b3 b4 ⊢
  obtain ⟨q0, q1, q2, q3, q4⟩ := HR.out.keep9 hn
  have hz := BlkW.lt HR.out
  go_region_held3 (fun w' => w'.cell? ⟨g, 0, none⟩ = some (.int .i64 m.st.seen.slot) ∧ w'.cell? ⟨g, 1, none⟩ = some (.int .i64 m.st.seen.gen) ∧ w'.cell? ⟨g, 2, none⟩ = some (.int .i64 0) ∧ w'.cell? ⟨g, 3, none⟩ = some (.int .i64 0) ∧ w'.cell? ⟨g, 4, none⟩ = some (.bool false) ∧ w'.cell? ⟨r, 57 + n * 5, none⟩ = some (.int .i64 (m.kept n).slot) ∧ w'.cell? ⟨r, 57 + n * 5 + 1, none⟩ = some (.int .i64 (m.kept n).gen) ∧ w'.cell? ⟨r, 57 + n * 5 + 2, none⟩ = some (.int .i64 (m.kept n).tag) ∧ w'.cell? ⟨r, 57 + n * 5 + 3, none⟩ = some (.int .i64 (m.kept n).num) ∧ w'.cell? ⟨r, 57 + n * 5 + 4, none⟩ = some (.bool (m.kept n).mark))
    (first | go_keep | exact ⟨keep_cell hb b0, keep_cell hb b1, keep_cell hb b2, keep_cell hb b3, keep_cell hb b4, keep_cell hb q0, keep_cell hb q1, keep_cell hb q2, keep_cell hb q3, keep_cell hb q4⟩)
    (first | (go_at_call 21; refine (HN.out _).mono ?_; rintro e w2 ⟨rfl, hb⟩))
  all_goals
    have HR2 := Lib.hid ((HR.out.drew).below hb)
    have HO2 := Lib.hid ((HO.out.trans Only.drew).trans (Only.of_below (r := r) hb))
    have p0 := keep_cell hb b0
    have p1 := keep_cell hb b1
    have p2 := keep_cell hb b2
    have p3 := keep_cell hb b3
    have p4 := keep_cell hb b4
    clear HR HO hb b0 b1 b2 b3 b4 q0 q1 q2 q3 q4
    go_wp2_with fail
    refine (say_any HR2.out hm n hn m.st.seen.ref).mono ?_
    rintro e w3 ⟨rfl, h1, h2⟩
    go_wp2
    first
      | go_end0
      | refine bodyPost_ret (results_none rfl _ _ _) rfl ?_
    exact ⟨rfl, h1, Lib.hid (HO2.out.trans h2.out)⟩
set_option maxRecDepth 100000 in
set_option maxHeartbeats 1000000 in
theorem protect_see (h : RtAt w r sv fv nv m) (x : Wd × Bool) (hd : m.st.done = 1) (hs : m.countsEras = false) (sv' fv' nv' : Value) (m' : Rt) (hK : ∀ W, RtAt W r sv fv nv (m.see x.1) → Calls Tryz.prog 122 #[.pointer (some ⟨r, 0, none⟩), .int .i64 x.1.num] W (Leaf W r sv' fv' nv' m')) :
    Calls Tryz.prog 89 #[.pointer (some ⟨r, 0, none⟩), rpv x] w (Leaf w r sv' fv' nv' m') := by
  have h1 := h.below (below_alloc (Below.refl _ _) (.cells #[.int .i64 x.1.slot, .int .i64 x.1.gen, .int .i64 x.1.tag, .int .i64 x.1.num, .bool x.1.mark, .bool x.2] 63))
  have HX := Lib.hid (box_rep w x)
  have HO := Lib.hid (Only.of_below (r := r) (below_alloc (Below.refl w.heap.size w) (.cells #[.int .i64 x.1.slot, .int .i64 x.1.gen, .int .i64 x.1.tag, .int .i64 x.1.num, .bool x.1.mark, .bool x.2] 63)))
  have HR := Lib.hid h1
  clear h h1
  unfold rpv
  go_enter Tryz.func89, Tryz.ntmps89
  go_upto_region 1 with fail
  generalize w.alloc (.cells #[.int .i64 x.1.slot, .int .i64 x.1.gen, .int .i64 x.1.tag, .int .i64 x.1.num, .bool x.1.mark, .bool x.2] 63) = W at HR HX HO ⊢
  have hX := HX.out
  have hzx := BlkW.lt hX
  have hrx : w.heap.size ≠ r := fun e => BlkW.ne_ hX HR.out (by decide) e
  obtain ⟨b0, b1, b2, b3, b4, b5⟩ := rep6 hX
  have hz := BlkW.lt HR.out
  have cd := HR.out.done
  have ce := HR.out.fix.1
  clear hX HX
  generalize w.heap.size = g at hzx hrx b0 b1 b2 b3 b4 b5 ⊢
  have HK := Lib.hid hK
  clear hK
  rw [hd] at cd
  clear hd
  obtain ⟨s0, s1, s2, s3, s4⟩ := HR.out.seen5
  have fz : ∀ o, W.frozen? ⟨r, o, none⟩ = false := HR.out.frozen
  have RS := Lib.hid (HR.out.see x.1)
  have OS := Lib.hid (Only.sets (r := r) (w := W) 40 (wc x.1))
  have d3 := OS.out.cell hzx hrx b3
  clear d3
  go_wp2_with fail
  have RS2 : RtAt (W.setCells r 40 (wc x.1)) r sv fv nv (m.see x.1) := RS.out
  have hcE := Lib.hid (countsEras_any RS2)
  have d0 := OS.out.cell hzx hrx b0
  have d1 := OS.out.cell hzx hrx b1
  have d2 := OS.out.cell hzx hrx b2
  have d3 := OS.out.cell hzx hrx b3
  have d4 := OS.out.cell hzx hrx b4
  have hz1 := Only.lt OS.out hzx
  have hz2 := Only.lt OS.out hz
  show Calls _ _ _ (W.setCells r 40 (wc x.1)) _
  clear RS2 s0 s1 s2 s3 s4 fz b0 b1 b2 b3 b4 b5 cd
  generalize W.setCells r 40 (wc x.1) = W1 at RS OS hcE d0 d1 d2 d3 d4 hz1 hz2 ⊢
  refine hcE.out.mono ?_
  rintro e w1 ⟨rfl, rfl⟩
  rw [show (m.see x.1).countsEras = m.countsEras from rfl, hs]
  go_wp2_with fail
  refine (HK.out _ RS.out).mono ?_
  rintro e w3 ⟨rfl, h1, h2⟩
  go_wp2
  first
    | go_end0
    | refine bodyPost_ret (results_none rfl _ _ _) rfl ?_
  exact ⟨rfl, h1, Lib.hid ((HO.out.trans OS.out).trans h2.out)⟩
set_option maxRecDepth 100000 in
set_option maxHeartbeats 1000000 in
theorem protect_clock (h : RtAt w r sv fv nv m) (x : Wd × Bool) (hd : m.st.done = 1) (hs : m.countsEras = true) :
    Calls Tryz.prog 89 #[.pointer (some ⟨r, 0, none⟩), rpv x] w (Leaf w r sv fv nv ((m.see x.1).loadClock 4)) := by
  have h1 := h.below (below_alloc (Below.refl _ _) (.cells #[.int .i64 x.1.slot, .int .i64 x.1.gen, .int .i64 x.1.tag, .int .i64 x.1.num, .bool x.1.mark, .bool x.2] 63))
  have HX := Lib.hid (box_rep w x)
  have HO := Lib.hid (Only.of_below (r := r) (below_alloc (Below.refl w.heap.size w) (.cells #[.int .i64 x.1.slot, .int .i64 x.1.gen, .int .i64 x.1.tag, .int .i64 x.1.num, .bool x.1.mark, .bool x.2] 63)))
  have HR := Lib.hid h1
  clear h h1
  unfold rpv
  go_enter Tryz.func89, Tryz.ntmps89
  go_upto_region 1 with fail
  generalize w.alloc (.cells #[.int .i64 x.1.slot, .int .i64 x.1.gen, .int .i64 x.1.tag, .int .i64 x.1.num, .bool x.1.mark, .bool x.2] 63) = W at HR HX HO ⊢
  have hX := HX.out
  have hzx := BlkW.lt hX
  have hrx : w.heap.size ≠ r := fun e => BlkW.ne_ hX HR.out (by decide) e
  obtain ⟨b0, b1, b2, b3, b4, b5⟩ := rep6 hX
  have hz := BlkW.lt HR.out
  have cd := HR.out.done
  have ce := HR.out.fix.1
  clear hX HX
  generalize w.heap.size = g at hzx hrx b0 b1 b2 b3 b4 b5 ⊢
  rw [hd] at cd
  clear hd
  obtain ⟨s0, s1, s2, s3, s4⟩ := HR.out.seen5
  have fz : ∀ o, W.frozen? ⟨r, o, none⟩ = false := HR.out.frozen
  have RS := Lib.hid (HR.out.see x.1)
  have OS := Lib.hid (Only.sets (r := r) (w := W) 40 (wc x.1))
  have d3 := OS.out.cell hzx hrx b3
  clear d3
  go_wp2_with fail
  have RS2 : RtAt (W.setCells r 40 (wc x.1)) r sv fv nv (m.see x.1) := RS.out
  have hcE := Lib.hid (countsEras_any RS2)
  have d0 := OS.out.cell hzx hrx b0
  have d1 := OS.out.cell hzx hrx b1
  have d2 := OS.out.cell hzx hrx b2
  have d3 := OS.out.cell hzx hrx b3
  have d4 := OS.out.cell hzx hrx b4
  have hz1 := Only.lt OS.out hzx
  have hz2 := Only.lt OS.out hz
  show Calls _ _ _ (W.setCells r 40 (wc x.1)) _
  clear RS2 s0 s1 s2 s3 s4 fz b0 b1 b2 b3 b4 b5 cd
  generalize W.setCells r 40 (wc x.1) = W1 at RS OS hcE d0 d1 d2 d3 d4 hz1 hz2 ⊢
  refine hcE.out.mono ?_
  rintro e w1 ⟨rfl, rfl⟩
  rw [show (m.see x.1).countsEras = m.countsEras from rfl, hs]
  go_wp2_with fail
  refine (loadClock_any RS.out 4).mono ?_
  rintro e w3 ⟨rfl, h1, h2⟩
  go_wp2
  first
    | go_end0
    | refine bodyPost_ret (results_none rfl _ _ _) rfl ?_
  exact ⟨rfl, h1, Lib.hid ((HO.out.trans OS.out).trans h2.out)⟩
set_option maxRecDepth 100000 in
set_option maxHeartbeats 1000000 in
theorem protect_keep4 (h : RtAt w r sv fv nv m) (x : Wd × Bool) (hd : m.st.done = 4) (sv' fv' nv' : Value) (m' : Rt) (hK : ∀ W, RtAt W r sv fv nv m → Calls Tryz.prog 122 #[.pointer (some ⟨r, 0, none⟩), .int .i64 x.1.num] W (Leaf W r sv' fv' nv' m')) :
    Calls Tryz.prog 89 #[.pointer (some ⟨r, 0, none⟩), rpv x] w (Leaf w r sv' fv' nv' m') := by
  have h1 := h.below (below_alloc (Below.refl _ _) (.cells #[.int .i64 x.1.slot, .int .i64 x.1.gen, .int .i64 x.1.tag, .int .i64 x.1.num, .bool x.1.mark, .bool x.2] 63))
  have HX := Lib.hid (box_rep w x)
  have HO := Lib.hid (Only.of_below (r := r) (below_alloc (Below.refl w.heap.size w) (.cells #[.int .i64 x.1.slot, .int .i64 x.1.gen, .int .i64 x.1.tag, .int .i64 x.1.num, .bool x.1.mark, .bool x.2] 63)))
  have HR := Lib.hid h1
  clear h h1
  unfold rpv
  go_enter Tryz.func89, Tryz.ntmps89
  go_upto_region 1 with fail
  generalize w.alloc (.cells #[.int .i64 x.1.slot, .int .i64 x.1.gen, .int .i64 x.1.tag, .int .i64 x.1.num, .bool x.1.mark, .bool x.2] 63) = W at HR HX HO ⊢
  have hX := HX.out
  have hzx := BlkW.lt hX
  have hrx : w.heap.size ≠ r := fun e => BlkW.ne_ hX HR.out (by decide) e
  obtain ⟨b0, b1, b2, b3, b4, b5⟩ := rep6 hX
  have hz := BlkW.lt HR.out
  have cd := HR.out.done
  have ce := HR.out.fix.1
  clear hX HX
  generalize w.heap.size = g at hzx hrx b0 b1 b2 b3 b4 b5 ⊢
  have HK := Lib.hid hK
  clear hK
  rw [hd] at cd
  clear hd
  go_wp2_with fail
  refine (HK.out _ HR.out).mono ?_
  rintro e w3 ⟨rfl, h1, h2⟩
  go_wp2
  first
    | go_end0
    | refine bodyPost_ret (results_none rfl _ _ _) rfl ?_
  exact ⟨rfl, h1, Lib.hid (HO.out.trans h2.out)⟩
end
end Go.Proofs.YtihjklimcchkhaaGreatDoor
