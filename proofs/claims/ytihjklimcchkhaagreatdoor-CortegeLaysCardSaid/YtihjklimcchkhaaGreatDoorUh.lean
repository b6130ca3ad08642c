/- rite: retire by the other engines. A template (made by gen_XUh.py). -/
import Derived.Test.YtihjklimcchkhaaGreatDoorUF
namespace Go.Proofs.YtihjklimcchkhaaGreatDoor
open Go.RowKit Go.Extern.Stop Go.Stop Go.Extern Go.Sort
theorem Field_is (s g t n : Int) (m : Bool) (f : Int) (w : World) :
    Calls Tryz.prog 72 #[.agg #[.int .i64 s, .int .i64 g, .int .i64 t, .int .i64 n, .bool m], .int .i64 f] w fun e w' => e = .returned (.agg #[.int .i64 s, .int .i64 g, .int .i64 f]) ∧ Below w.heap.size w w' := by
  go_enter Tryz.func72, Tryz.ntmps72
  go_wp2
  exact bodyPost_ret (v := .agg #[.int .i64 s, .int .i64 g, .int .i64 f]) (by simp [results, Tryz.results72, go_sem]) rfl ⟨rfl, below_alloc (below_alloc (Below.refl _ _) _) _⟩
section
variable {w w' : World} {B r : Nat} {sv fv nv : Value} {m : Rt} {K : Nat → Prop}
set_option maxRecDepth 100000 in
set_option maxHeartbeats 1000000 in
theorem retire_never (h : RiteP w B r sv fv nv m K) (x : Wd × Bool) (hd : m.st.done = 0) (he : m.eng = 1) :
    Calls Tryz.prog 93 #[.pointer (some ⟨r, 0, none⟩), rpv x] w (RPost w B r K (m.ok)) := by
  have HRL := Lib.hid (fun b (e : K b) => (show b ≠ w.heap.size from Nat.ne_of_lt (h.low b e).2))
  replace HRL : Hid (∀ b, K b → b ≠ w.heap.size) := HRL
  have h1 := h.below (below_alloc (Below.refl _ _) (.cells #[.int .i64 x.1.slot, .int .i64 x.1.gen, .int .i64 x.1.tag, .int .i64 x.1.num, .bool x.1.mark, .bool x.2] 63))
  have HX := Lib.hid (box_rep w x)
  have HB0 := Lib.hid (below_alloc (Below.refl w.heap.size w) (.cells #[.int .i64 x.1.slot, .int .i64 x.1.gen, .int .i64 x.1.tag, .int .i64 x.1.num, .bool x.1.mark, .bool x.2] 63))
  have HR := Lib.hid h1
  clear h h1
  unfold rpv
  go_enter Tryz.func93, Tryz.ntmps93
  go_upto_region 1 with fail
  generalize w.alloc (.cells #[.int .i64 x.1.slot, .int .i64 x.1.gen, .int .i64 x.1.tag, .int .i64 x.1.num, .bool x.1.mark, .bool x.2] 63) = W at HR HX HB0 ⊢
  have hX := HX.out
  have hzx := BlkW.lt hX
  have hrx : w.heap.size ≠ r := fun e => BlkW.ne_ hX HR.out.at_ (by decide) e
  have hkx : ¬ K w.heap.size := fun e => HRL.out _ e rfl
  obtain ⟨b0, b1, b2, b3, b4, b5⟩ := rep6 hX
  have hz := BlkW.lt HR.out.at_
  have cd := HR.out.at_.done
  have ce := HR.out.at_.fix.1
  clear hX HX
  generalize w.heap.size = g at hzx hrx hkx b0 b1 b2 b3 b4 b5 ⊢
  rw [hd] at cd
  rw [he] at ce
  clear hd he
  go_wp2_with fail
  refine (succeed_any HR.out.at_).mono ?_
  rintro e w2 ⟨rfl, h1, h2⟩
  go_wp2
  first
    | go_end0
    | refine bodyPost_ret (results_none rfl _ _ _) rfl ?_
  exact ⟨rfl, Lib.hid (RStep.below HB0.out (HR.out.step_only h1.out h2.out (.inr ⟨rfl, rfl⟩) (.inr ⟨rfl, rfl⟩) rfl))⟩
set_option maxRecDepth 100000 in
set_option maxHeartbeats 1000000 in
theorem retire_seen (h : RiteP w B r sv fv nv m K) (x : Wd × Bool) (hd : m.st.done = 3) (he : m.eng = 3 ∨ m.eng = 5) :
    Calls Tryz.prog 93 #[.pointer (some ⟨r, 0, none⟩), rpv x] w (RPost w B r K ((m.see x.1).loadClock 4)) := by
  have HRL := Lib.hid (fun b (e : K b) => (show b ≠ w.heap.size from Nat.ne_of_lt (h.low b e).2))
  replace HRL : Hid (∀ b, K b → b ≠ w.heap.size) := HRL
  have h1 := h.below (below_alloc (Below.refl _ _) (.cells #[.int .i64 x.1.slot, .int .i64 x.1.gen, .int .i64 x.1.tag, .int .i64 x.1.num, .bool x.1.mark, .bool x.2] 63))
  have HX := Lib.hid (box_rep w x)
  have HB0 := Lib.hid (below_alloc (Below.refl w.heap.size w) (.cells #[.int .i64 x.1.slot, .int .i64 x.1.gen, .int .i64 x.1.tag, .int .i64 x.1.num, .bool x.1.mark, .bool x.2] 63))
  have HR := Lib.hid h1
  clear h h1
  unfold rpv
  go_enter Tryz.func93, Tryz.ntmps93
  go_upto_region 1 with fail
  generalize w.alloc (.cells #[.int .i64 x.1.slot, .int .i64 x.1.gen, .int .i64 x.1.tag, .int .i64 x.1.num, .bool x.1.mark, .bool x.2] 63) = W at HR HX HB0 ⊢
  have hX := HX.out
  have hzx := BlkW.lt hX
  have hrx : w.heap.size ≠ r := fun e => BlkW.ne_ hX HR.out.at_ (by decide) e
  have hkx : ¬ K w.heap.size := fun e => HRL.out _ e rfl
  obtain ⟨b0, b1, b2, b3, b4, b5⟩ := rep6 hX
  have hz := BlkW.lt HR.out.at_
  have cd := HR.out.at_.done
  have ce := HR.out.at_.fix.1
  clear hX HX
  generalize w.heap.size = g at hzx hrx hkx b0 b1 b2 b3 b4 b5 ⊢
  rw [hd] at cd
  obtain ⟨s0, s1, s2, s3, s4⟩ := HR.out.at_.seen5
  have fz : ∀ o, W.frozen? ⟨r, o, none⟩ = false := HR.out.at_.frozen
  have RS := Lib.hid (HR.out.only (sv' := sv) (fv' := fv) (m' := m.see x.1) (HR.out.at_.see x.1) (Only.sets (r := r) 40 (wc x.1)) (.inl ⟨rfl, rfl⟩) (.inl ⟨rfl, rfl⟩) rfl)
  have OS := Lib.hid (Only.sets (r := r) (w := W) 40 (wc x.1))
  clear hd
  rcases he with he | he
  all_goals
    rw [he] at ce
    clear he
    go_wp2_with fail
    show Calls _ _ _ (W.setCells r 40 (wc x.1)) _
    generalize W.setCells r 40 (wc x.1) = W2 at RS OS ⊢
    refine (loadClock_any RS.out.at_ 4).mono ?_
    rintro e w2 ⟨rfl, h1, h2⟩
    go_wp2
    first
      | go_end0
      | refine bodyPost_ret (results_none rfl _ _ _) rfl ?_
    exact ⟨rfl, Lib.hid (RStep.below HB0.out (RStep.trans (K' := K) ⟨OS.out.os, OS.out.tape, OS.out.output, OS.out.size, fun j hj hn => OS.out.block j hj (fun e => hn (by subst e; exact RS.out.kr))⟩ (fun _ e => .inl e) (RS.out.step_only h1.out h2.out (.inl ⟨rfl, rfl⟩) (.inl ⟨rfl, rfl⟩) rfl)))⟩
set_option maxRecDepth 100000 in
set_option maxHeartbeats 1000000 in
theorem retire_first_epochs (h : RiteP w B r sv fv nv m K) (x : Wd × Bool) (hd : m.st.done = 0) (he : m.eng = 4) :
    Calls Tryz.prog 93 #[.pointer (some ⟨r, 0, none⟩), rpv x] w (RPost w B r K ((m.see x.1).loadClock 4)) := by
  have HRL := Lib.hid (fun b (e : K b) => (show b ≠ w.heap.size from Nat.ne_of_lt (h.low b e).2))
  replace HRL : Hid (∀ b, K b → b ≠ w.heap.size) := HRL
  have h1 := h.below (below_alloc (Below.refl _ _) (.cells #[.int .i64 x.1.slot, .int .i64 x.1.gen, .int .i64 x.1.tag, .int .i64 x.1.num, .bool x.1.mark, .bool x.2] 63))
  have HX := Lib.hid (box_rep w x)
  have HB0 := Lib.hid (below_alloc (Below.refl w.heap.size w) (.cells #[.int .i64 x.1.slot, .int .i64 x.1.gen, .int .i64 x.1.tag, .int .i64 x.1.num, .bool x.1.mark, .bool x.2] 63))
  have HR := Lib.hid h1
  clear h h1
  unfold rpv
  go_enter Tryz.func93, Tryz.ntmps93
  go_upto_region 1 with fail
  generalize w.alloc (.cells #[.int .i64 x.1.slot, .int .i64 x.1.gen, .int .i64 x.1.tag, .int .i64 x.1.num, .bool x.1.mark, .bool x.2] 63) = W at HR HX HB0 ⊢
  have hX := HX.out
  have hzx := BlkW.lt hX
  have hrx : w.heap.size ≠ r := fun e => BlkW.ne_ hX HR.out.at_ (by decide) e
  have hkx : ¬ K w.heap.size := fun e => HRL.out _ e rfl
  obtain ⟨b0, b1, b2, b3, b4, b5⟩ := rep6 hX
  have hz := BlkW.lt HR.out.at_
  have cd := HR.out.at_.done
  have ce := HR.out.at_.fix.1
  clear hX HX
  generalize w.heap.size = g at hzx hrx hkx b0 b1 b2 b3 b4 b5 ⊢
  rw [hd] at cd
  rw [he] at ce
  have hcE : m.countsEras = false := by unfold Rt.countsEras; rw [he]; rfl
  have HCE := Lib.hid hcE
  obtain ⟨s0, s1, s2, s3, s4⟩ := HR.out.at_.seen5
  have fz : ∀ o, W.frozen? ⟨r, o, none⟩ = false := HR.out.at_.frozen
  have RS := Lib.hid (HR.out.only (sv' := sv) (fv' := fv) (m' := m.see x.1) (HR.out.at_.see x.1) (Only.sets (r := r) 40 (wc x.1)) (.inl ⟨rfl, rfl⟩) (.inl ⟨rfl, rfl⟩) rfl)
  have OS := Lib.hid (Only.sets (r := r) (w := W) 40 (wc x.1))
  clear hd he hcE
  go_wp2_with fail
  refine (countsEras_any HR.out.at_).mono ?_
  rintro e w1 ⟨rfl, rfl⟩
  rw [HCE.out]
  go_wp2_with fail
  show Calls _ _ _ (W.setCells r 40 (wc x.1)) _
  generalize W.setCells r 40 (wc x.1) = W2 at RS OS ⊢
  refine (loadClock_any RS.out.at_ 4).mono ?_
  rintro e w2 ⟨rfl, h1, h2⟩
  go_wp2
  first
    | go_end0
    | refine bodyPost_ret (results_none rfl _ _ _) rfl ?_
  exact ⟨rfl, Lib.hid (RStep.below HB0.out (RStep.trans (K' := K) ⟨OS.out.os, OS.out.tape, OS.out.output, OS.out.size, fun j hj hn => OS.out.block j hj (fun e => hn (by subst e; exact RS.out.kr))⟩ (fun _ e => .inl e) (RS.out.step_only h1.out h2.out (.inl ⟨rfl, rfl⟩) (.inl ⟨rfl, rfl⟩) rfl)))⟩
set_option maxRecDepth 100000 in
set_option maxHeartbeats 1000000 in
theorem retire_noted_eras (h : RiteP w B r sv fv nv m K) (x : Wd × Bool) (hd : m.st.done = 4) (hcE : m.countsEras = true) (he : m.eng = 3 ∨ m.eng = 5) (hl : m.notes.length ≤ 900) (ht1 : wrap64 (x.1.tag + 1) = x.1.tag + 1) (ht2 : wrap64 (x.1.num + 1) = x.1.num + 1) :
    Calls Tryz.prog 93 #[.pointer (some ⟨r, 0, none⟩), rpv x] w (RPost w B r K (((m.setClock x.1).note).turn)) := by
  have HRL := Lib.hid (fun b (e : K b) => (show b ≠ w.heap.size from Nat.ne_of_lt (h.low b e).2))
  replace HRL : Hid (∀ b, K b → b ≠ w.heap.size) := HRL
  have h1 := h.below (below_alloc (Below.refl _ _) (.cells #[.int .i64 x.1.slot, .int .i64 x.1.gen, .int .i64 x.1.tag, .int .i64 x.1.num, .bool x.1.mark, .bool x.2] 63))
  have HX := Lib.hid (box_rep w x)
  have HB0 := Lib.hid (below_alloc (Below.refl w.heap.size w) (.cells #[.int .i64 x.1.slot, .int .i64 x.1.gen, .int .i64 x.1.tag, .int .i64 x.1.num, .bool x.1.mark, .bool x.2] 63))
  have HR := Lib.hid h1
  clear h h1
  unfold rpv
  go_enter Tryz.func93, Tryz.ntmps93
  go_upto_region 1 with fail
  generalize w.alloc (.cells #[.int .i64 x.1.slot, .int .i64 x.1.gen, .int .i64 x.1.tag, .int .i64 x.1.num, .bool x.1.mark, .bool x.2] 63) = W at HR HX HB0 ⊢
  have hX := HX.out
  have hzx := BlkW.lt hX
  have hrx : w.heap.size ≠ r := fun e => BlkW.ne_ hX HR.out.at_ (by decide) e
  have hkx : ¬ K w.heap.size := fun e => HRL.out _ e rfl
  obtain ⟨b0, b1, b2, b3, b4, b5⟩ := rep6 hX
  have hz := BlkW.lt HR.out.at_
  have cd := HR.out.at_.done
  have ce := HR.out.at_.fix.1
  clear hX HX
  generalize w.heap.size = g at hzx hrx hkx b0 b1 b2 b3 b4 b5 ⊢
  rw [hd] at cd
  have HCE := Lib.hid hcE
  have HEN := Lib.hid he
  have HLN := Lib.hid hl
  obtain ⟨s0, s1, s2, s3, s4⟩ := HR.out.at_.clock5
  have fz : ∀ o, W.frozen? ⟨r, o, none⟩ = false := HR.out.at_.frozen
  have RT := Lib.hid (HR.out.only (sv' := sv) (fv' := fv) (m' := m.setClock x.1) (HR.out.at_.setClock x.1) (Only.sets (r := r) 45 (wc x.1)) (.inl ⟨rfl, rfl⟩) (.inl ⟨rfl, rfl⟩) rfl)
  have OT := Lib.hid (Only.sets (r := r) (w := W) 45 (wc x.1))
  have HT1 := Lib.hid (show wrap64 (((m.setClock x.1).note).st.clock.tag + 1) = ((m.setClock x.1).note).st.clock.tag + 1 from ht1)
  have HT2 := Lib.hid (show wrap64 (((m.setClock x.1).note).st.clock.num + 1) = ((m.setClock x.1).note).st.clock.num + 1 from ht2)
  clear hd hcE he hl ht1 ht2
  go_wp2_with fail
  show Calls _ _ _ (W.setCells r 45 (wc x.1)) _
  clear s0 s1 s2 s3 s4 fz
  generalize W.setCells r 45 (wc x.1) = W3 at RT OT ⊢
  have HNT := Lib.hid (note_any RT.out (by show m.notes.length ≤ 1000; have := HLN.out; omega))
  refine HNT.out.mono ?_
  rintro e w4 ⟨rfl, h4⟩
  obtain ⟨K4, ⟨sv4, fv4, nv4, hp4⟩, ho4, hk4⟩ := h4.out
  have HP4 := Lib.hid hp4
  have HO4 := Lib.hid ho4
  have HK4 := Lib.hid hk4
  clear hp4 ho4 hk4 h4
  go_wp2_with fail
  refine (countsEras_any HP4.out.at_).mono ?_
  rintro e w5 ⟨rfl, rfl⟩
  rw [show ((m.setClock x.1).note).countsEras = m.countsEras from rfl, HCE.out]
  go_wp2_with fail
  refine (turn_any HP4.out.at_ HT1.out HT2.out).mono ?_
  rintro e w6 ⟨rfl, h1, h2⟩
  go_wp2
  first
    | go_end0
    | refine bodyPost_ret (results_none rfl _ _ _) rfl ?_
  exact ⟨rfl, Lib.hid (RStep.below HB0.out (RStep.trans (K' := K) ⟨OT.out.os, OT.out.tape, OT.out.output, OT.out.size, fun j hj hn => OT.out.block j hj (fun e => hn (by subst e; exact RT.out.kr))⟩ (fun _ e => .inl e) (RStep.trans HO4.out HK4.out (HP4.out.step_only h1.out h2.out (.inl ⟨rfl, rfl⟩) (.inl ⟨rfl, rfl⟩) rfl))))⟩
set_option maxRecDepth 100000 in
set_option maxHeartbeats 1000000 in
theorem retire_born (h : RiteP w B r sv fv nv m K) (x : Wd × Bool) (hd : m.st.done = 0) (hcE : m.countsEras = true) (he : m.eng = 3 ∨ m.eng = 5) :
    Calls Tryz.prog 93 #[.pointer (some ⟨r, 0, none⟩), rpv x] w (RPost w B r K (m.load (m.st.call.old.slot, m.st.call.old.gen, 9) 3)) := by
  have HRL := Lib.hid (fun b (e : K b) => (show b ≠ w.heap.size from Nat.ne_of_lt (h.low b e).2))
  replace HRL : Hid (∀ b, K b → b ≠ w.heap.size) := HRL
  have h1 := h.below (below_alloc (Below.refl _ _) (.cells #[.int .i64 x.1.slot, .int .i64 x.1.gen, .int .i64 x.1.tag, .int .i64 x.1.num, .bool x.1.mark, .bool x.2] 63))
  have HX := Lib.hid (box_rep w x)
  have HB0 := Lib.hid (below_alloc (Below.refl w.heap.size w) (.cells #[.int .i64 x.1.slot, .int .i64 x.1.gen, .int .i64 x.1.tag, .int .i64 x.1.num, .bool x.1.mark, .bool x.2] 63))
  have HR := Lib.hid h1
  clear h h1
  unfold rpv
  go_enter Tryz.func93, Tryz.ntmps93
  go_upto_region 1 with fail
  generalize w.alloc (.cells #[.int .i64 x.1.slot, .int .i64 x.1.gen, .int .i64 x.1.tag, .int .i64 x.1.num, .bool x.1.mark, .bool x.2] 63) = W at HR HX HB0 ⊢
  have hX := HX.out
  have hzx := BlkW.lt hX
  have hrx : w.heap.size ≠ r := fun e => BlkW.ne_ hX HR.out.at_ (by decide) e
  have hkx : ¬ K w.heap.size := fun e => HRL.out _ e rfl
  obtain ⟨b0, b1, b2, b3, b4, b5⟩ := rep6 hX
  have hz := BlkW.lt HR.out.at_
  have cd := HR.out.at_.done
  have ce := HR.out.at_.fix.1
  clear hX HX
  generalize w.heap.size = g at hzx hrx hkx b0 b1 b2 b3 b4 b5 ⊢
  rw [hd] at cd
  have HCE := Lib.hid hcE
  have HEN := Lib.hid he
  obtain ⟨q0, q1, q2, q3, q4⟩ := HR.out.at_.old5
  clear hd hcE
  rcases he with he | he
  all_goals
    rw [he] at ce
    clear he
    go_wp2_with fail
    refine (countsEras_any HR.out.at_).mono ?_
    rintro e w1 ⟨rfl, rfl⟩
    rw [HCE.out]
    go_upto_region 9 with fail
    have HF := Lib.hid (Field_is m.st.call.old.slot m.st.call.old.gen m.st.call.old.tag m.st.call.old.num m.st.call.old.mark 9 W.drew)
    have HD := Lib.hid HR.out.at_.drew
    go_region_held3 (fun w' => w'.cell? ⟨r, 11, none⟩ = some (.int .i64 m.st.call.old.slot) ∧ w'.cell? ⟨r, 12, none⟩ = some (.int .i64 m.st.call.old.gen) ∧ w'.cell? ⟨r, 13, none⟩ = some (.int .i64 m.st.call.old.tag) ∧ w'.cell? ⟨r, 14, none⟩ = some (.int .i64 m.st.call.old.num) ∧ w'.cell? ⟨r, 15, none⟩ = some (.bool m.st.call.old.mark))
      (first | go_keep | exact RtAt.old5 (m := m.load (m.st.call.old.slot, m.st.call.old.gen, 9) 3) g1.out | exact (HD.out.below hb2).old5)
      (first
      | (go_at_call 72; refine HF.out.mono ?_; rintro e w2 ⟨rfl, hb2⟩; have HA := Lib.hid (load_any (HD.out.below hb2) (m.st.call.old.slot, m.st.call.old.gen, 9) 3))
      | (go_at_call 120; refine HA.out.mono ?_; rintro e w3 ⟨rfl, g1, g2⟩))
    all_goals
      go_wp2
      first
        | go_end0
        | refine bodyPost_ret (results_none rfl _ _ _) rfl ?_
      exact ⟨rfl, Lib.hid (RStep.below HB0.out (HR.out.step_only g1.out (Only.drew.trans ((Only.of_below hb2).trans g2.out)) (.inl ⟨rfl, rfl⟩) (.inl ⟨rfl, rfl⟩) rfl))⟩
set_option maxRecDepth 100000 in
set_option maxHeartbeats 1000000 in
theorem retire_turned_few (h : RiteP w B r sv fv nv m K) (x : Wd × Bool) (hd : m.st.done = 5) (hq : m.notes.length < m.most) :
    Calls Tryz.prog 93 #[.pointer (some ⟨r, 0, none⟩), rpv x] w (RPost w B r K (m.ok)) := by
  have HRL := Lib.hid (fun b (e : K b) => (show b ≠ w.heap.size from Nat.ne_of_lt (h.low b e).2))
  replace HRL : Hid (∀ b, K b → b ≠ w.heap.size) := HRL
  have h1 := h.below (below_alloc (Below.refl _ _) (.cells #[.int .i64 x.1.slot, .int .i64 x.1.gen, .int .i64 x.1.tag, .int .i64 x.1.num, .bool x.1.mark, .bool x.2] 63))
  have HX := Lib.hid (box_rep w x)
  have HB0 := Lib.hid (below_alloc (Below.refl w.heap.size w) (.cells #[.int .i64 x.1.slot, .int .i64 x.1.gen, .int .i64 x.1.tag, .int .i64 x.1.num, .bool x.1.mark, .bool x.2] 63))
  have HR := Lib.hid h1
  clear h h1
  unfold rpv
  go_enter Tryz.func93, Tryz.ntmps93
  go_upto_region 1 with fail
  generalize w.alloc (.cells #[.int .i64 x.1.slot, .int .i64 x.1.gen, .int .i64 x.1.tag, .int .i64 x.1.num, .bool x.1.mark, .bool x.2] 63) = W at HR HX HB0 ⊢
  have hX := HX.out
  have hzx := BlkW.lt hX
  have hrx : w.heap.size ≠ r := fun e => BlkW.ne_ hX HR.out.at_ (by decide) e
  have hkx : ¬ K w.heap.size := fun e => HRL.out _ e rfl
  obtain ⟨b0, b1, b2, b3, b4, b5⟩ := rep6 hX
  have hz := BlkW.lt HR.out.at_
  have cd := HR.out.at_.done
  have ce := HR.out.at_.fix.1
  clear hX HX
  generalize w.heap.size = g at hzx hrx hkx b0 b1 b2 b3 b4 b5 ⊢
  rw [hd] at cd
  have HQ := Lib.hid hq
  have HP4 := Lib.hid HR.out
  clear hd hq
  obtain ⟨ao4, cp4, en4⟩ := Sv.own_slice HP4.out.notes
  have c105 := HP4.out.at_.n105
  rw [en4] at c105
  have c56 := HP4.out.at_.fix.2.2.2
  have hz4 := BlkW.lt HP4.out.at_
  clear en4
  obtain ⟨L, hL⟩ : ∃ L : Nat, L = m.notes.length := ⟨_, rfl⟩
  rw [← hL] at c105
  obtain ⟨M, hM⟩ : ∃ M : Nat, M = m.most := ⟨_, rfl⟩
  have e56 : W.cell? ⟨r, 56, none⟩ = some (.int .i64 (M : Int)) := by rw [hM]; exact c56
  have j1 : (L : Int) < (M : Int) := by have := HQ.out; omega
  have HMM := Lib.hid hM
  clear c56 hM
  have HLL := Lib.hid hL
  clear hL
  go_upto_region 17 with fail
  go_region_held3 (fun w' => w'.cell? ⟨r, 105, none⟩ = some (.slice ao4 L cp4) ∧ w'.cell? ⟨r, 56, none⟩ = some (.int .i64 (M : Int)))
    (first | go_keep)
    (first | fail)
  have HP5 := Lib.hid (HP4.out.below ((Below.refl W.heap.size W).drew))
  go_wp2_with fail
  refine (succeed_any HP5.out.at_).mono ?_
  rintro e w6 ⟨rfl, h1, h2⟩
  go_wp2
  first
    | go_end0
    | refine bodyPost_ret (results_none rfl _ _ _) rfl ?_
  exact ⟨rfl, Lib.hid (RStep.below HB0.out (RStep.below ((Below.refl W.heap.size W).drew) (HP5.out.step_only h1.out h2.out (.inr ⟨rfl, rfl⟩) (.inr ⟨rfl, rfl⟩) rfl)))⟩
set_option maxRecDepth 100000 in
set_option maxHeartbeats 1000000 in
theorem retire_turned_eras (h : RiteP w B r sv fv nv m K) (x : Wd × Bool) (hd : m.st.done = 5) (hq : ¬ m.notes.length < m.most) (he : m.eng = 3) (ht : 1 ≤ m.thr ∧ m.thr ≤ 6) :
    Calls Tryz.prog 93 #[.pointer (some ⟨r, 0, none⟩), rpv x] w (RPost w B r K (((scanning m).setClock zw).hear)) := by
  have HRL := Lib.hid (fun b (e : K b) => (show b ≠ w.heap.size from Nat.ne_of_lt (h.low b e).2))
  replace HRL : Hid (∀ b, K b → b ≠ w.heap.size) := HRL
  have h1 := h.below (below_alloc (Below.refl _ _) (.cells #[.int .i64 x.1.slot, .int .i64 x.1.gen, .int .i64 x.1.tag, .int .i64 x.1.num, .bool x.1.mark, .bool x.2] 63))
  have HX := Lib.hid (box_rep w x)
  have HB0 := Lib.hid (below_alloc (Below.refl w.heap.size w) (.cells #[.int .i64 x.1.slot, .int .i64 x.1.gen, .int .i64 x.1.tag, .int .i64 x.1.num, .bool x.1.mark, .bool x.2] 63))
  have HR := Lib.hid h1
  clear h h1
  unfold rpv
  go_enter Tryz.func93, Tryz.ntmps93
  go_upto_region 1 with fail
  generalize w.alloc (.cells #[.int .i64 x.1.slot, .int .i64 x.1.gen, .int .i64 x.1.tag, .int .i64 x.1.num, .bool x.1.mark, .bool x.2] 63) = W at HR HX HB0 ⊢
  have hX := HX.out
  have hzx := BlkW.lt hX
  have hrx : w.heap.size ≠ r := fun e => BlkW.ne_ hX HR.out.at_ (by decide) e
  have hkx : ¬ K w.heap.size := fun e => HRL.out _ e rfl
  obtain ⟨b0, b1, b2, b3, b4, b5⟩ := rep6 hX
  have hz := BlkW.lt HR.out.at_
  have cd := HR.out.at_.done
  have ce := HR.out.at_.fix.1
  clear hX HX
  generalize w.heap.size = g at hzx hrx hkx b0 b1 b2 b3 b4 b5 ⊢
  rw [hd] at cd
  have HQ := Lib.hid hq
  have HEN := Lib.hid he
  have HT := Lib.hid ht
  clear he ht
  have HP4 := Lib.hid HR.out
  clear hd hq
  obtain ⟨ao4, cp4, en4⟩ := Sv.own_slice HP4.out.notes
  have c105 := HP4.out.at_.n105
  rw [en4] at c105
  have c56 := HP4.out.at_.fix.2.2.2
  have hz4 := BlkW.lt HP4.out.at_
  clear en4
  obtain ⟨L, hL⟩ : ∃ L : Nat, L = m.notes.length := ⟨_, rfl⟩
  rw [← hL] at c105
  obtain ⟨M, hM⟩ : ∃ M : Nat, M = m.most := ⟨_, rfl⟩
  have e56 : W.cell? ⟨r, 56, none⟩ = some (.int .i64 (M : Int)) := by rw [hM]; exact c56
  have j1 : (M : Int) ≤ (L : Int) := by have := HQ.out; omega
  have HMM := Lib.hid hM
  clear c56 hM
  have HLL := Lib.hid hL
  clear hL
  go_upto_region 17 with fail
  go_region_held3 (fun w' => w'.cell? ⟨r, 105, none⟩ = some (.slice ao4 L cp4) ∧ w'.cell? ⟨r, 56, none⟩ = some (.int .i64 (M : Int)))
    (first | go_keep)
    (first | fail)
  have HP5 := Lib.hid (HP4.out.below ((Below.refl W.heap.size W).drew))
  have j2 : ¬ (L : Int) < (M : Int) := by omega
  have HBG := Lib.hid (begin_any HP5.out.at_ { zc with kind := 11 })
  go_wp2_with fail
  refine HBG.out.mono ?_
  rintro e w6 ⟨rfl, h1, h2⟩
  have HP6 := Lib.hid (HP5.out.only (m' := scanning m) h1.out h2.out (.inr ⟨rfl, rfl⟩) (.inr ⟨rfl, rfl⟩) rfl)
  have HO6 := Lib.hid h2.out
  have HSC := Lib.hid (scan_first_eras HP6.out (zw, false) rfl HEN.out rfl HT.out)
  go_wp2_with fail
  refine HSC.out.mono ?_
  rintro e w7 ⟨rfl, h7⟩
  go_wp2
  first
    | go_end0
    | refine bodyPost_ret (results_none rfl _ _ _) rfl ?_
  exact ⟨rfl, Lib.hid (RStep.below HB0.out (RStep.below ((Below.refl W.heap.size W).drew) (RStep.trans (K' := K) ⟨HO6.out.os, HO6.out.tape, HO6.out.output, HO6.out.size, fun j hj hn => HO6.out.block j hj (fun e => hn (by subst e; exact HP5.out.kr))⟩ (fun _ e => .inl e) h7.out)))⟩
set_option maxRecDepth 100000 in
set_option maxHeartbeats 1000000 in
theorem retire_turned_int (h : RiteP w B r sv fv nv m K) (x : Wd × Bool) (hd : m.st.done = 5) (hq : ¬ m.notes.length < m.most) (he : m.eng = 5) (ht : 1 ≤ m.thr ∧ m.thr ≤ 6) :
    Calls Tryz.prog 93 #[.pointer (some ⟨r, 0, none⟩), rpv x] w (RPost w B r K (((scanning m).setClock zw).hear)) := by
  have HRL := Lib.hid (fun b (e : K b) => (show b ≠ w.heap.size from Nat.ne_of_lt (h.low b e).2))
  replace HRL : Hid (∀ b, K b → b ≠ w.heap.size) := HRL
  have h1 := h.below (below_alloc (Below.refl _ _) (.cells #[.int .i64 x.1.slot, .int .i64 x.1.gen, .int .i64 x.1.tag, .int .i64 x.1.num, .bool x.1.mark, .bool x.2] 63))
  have HX := Lib.hid (box_rep w x)
  have HB0 := Lib.hid (below_alloc (Below.refl w.heap.size w) (.cells #[.int .i64 x.1.slot, .int .i64 x.1.gen, .int .i64 x.1.tag, .int .i64 x.1.num, .bool x.1.mark, .bool x.2] 63))
  have HR := Lib.hid h1
  clear h h1
  unfold rpv
  go_enter Tryz.func93, Tryz.ntmps93
  go_upto_region 1 with fail
  generalize w.alloc (.cells #[.int .i64 x.1.slot, .int .i64 x.1.gen, .int .i64 x.1.tag, .int .i64 x.1.num, .bool x.1.mark, .bool x.2] 63) = W at HR HX HB0 ⊢
  have hX := HX.out
  have hzx := BlkW.lt hX
  have hrx : w.heap.size ≠ r := fun e => BlkW.ne_ hX HR.out.at_ (by decide) e
  have hkx : ¬ K w.heap.size := fun e => HRL.out _ e rfl
  obtain ⟨b0, b1, b2, b3, b4, b5⟩ := rep6 hX
  have hz := BlkW.lt HR.out.at_
  have cd := HR.out.at_.done
  have ce := HR.out.at_.fix.1
  clear hX HX
  generalize w.heap.size = g at hzx hrx hkx b0 b1 b2 b3 b4 b5 ⊢
  rw [hd] at cd
  have HQ := Lib.hid hq
  have HEN := Lib.hid he
  have HT := Lib.hid ht
  clear he ht
  have HP4 := Lib.hid HR.out
  clear hd hq
  obtain ⟨ao4, cp4, en4⟩ := Sv.own_slice HP4.out.notes
  have c105 := HP4.out.at_.n105
  rw [en4] at c105
  have c56 := HP4.out.at_.fix.2.2.2
  have hz4 := BlkW.lt HP4.out.at_
  clear en4
  obtain ⟨L, hL⟩ : ∃ L : Nat, L = m.notes.length := ⟨_, rfl⟩
  rw [← hL] at c105
  obtain ⟨M, hM⟩ : ∃ M : Nat, M = m.most := ⟨_, rfl⟩
  have e56 : W.cell? ⟨r, 56, none⟩ = some (.int .i64 (M : Int)) := by rw [hM]; exact c56
  have j1 : (M : Int) ≤ (L : Int) := by have := HQ.out; omega
  have HMM := Lib.hid hM
  clear c56 hM
  have HLL := Lib.hid hL
  clear hL
  go_upto_region 17 with fail
  go_region_held3 (fun w' => w'.cell? ⟨r, 105, none⟩ = some (.slice ao4 L cp4) ∧ w'.cell? ⟨r, 56, none⟩ = some (.int .i64 (M : Int)))
    (first | go_keep)
    (first | fail)
  have HP5 := Lib.hid (HP4.out.below ((Below.refl W.heap.size W).drew))
  have j2 : ¬ (L : Int) < (M : Int) := by omega
  have HBG := Lib.hid (begin_any HP5.out.at_ { zc with kind := 11 })
  go_wp2_with fail
  refine HBG.out.mono ?_
  rintro e w6 ⟨rfl, h1, h2⟩
  have HP6 := Lib.hid (HP5.out.only (m' := scanning m) h1.out h2.out (.inr ⟨rfl, rfl⟩) (.inr ⟨rfl, rfl⟩) rfl)
  have HO6 := Lib.hid h2.out
  have HSC := Lib.hid (scan_first_int HP6.out (zw, false) rfl HEN.out rfl HT.out)
  go_wp2_with fail
  refine HSC.out.mono ?_
  rintro e w7 ⟨rfl, h7⟩
  go_wp2
  first
    | go_end0
    | refine bodyPost_ret (results_none rfl _ _ _) rfl ?_
  exact ⟨rfl, Lib.hid (RStep.below HB0.out (RStep.below ((Below.refl W.heap.size W).drew) (RStep.trans (K' := K) ⟨HO6.out.os, HO6.out.tape, HO6.out.output, HO6.out.size, fun j hj hn => HO6.out.block j hj (fun e => hn (by subst e; exact HP5.out.kr))⟩ (fun _ e => .inl e) h7.out)))⟩
set_option maxRecDepth 100000 in
set_option maxHeartbeats 1000000 in
theorem retire_noted_few (h : RiteP w B r sv fv nv m K) (x : Wd × Bool) (hd : m.st.done = 4) (he : m.eng = 4) (hl : m.notes.length ≤ 900) (hq : m.notes.length + 1 < m.most) :
    Calls Tryz.prog 93 #[.pointer (some ⟨r, 0, none⟩), rpv x] w (RPost w B r K (((m.setClock x.1).note).ok)) := by
  have HRL := Lib.hid (fun b (e : K b) => (show b ≠ w.heap.size from Nat.ne_of_lt (h.low b e).2))
  replace HRL : Hid (∀ b, K b → b ≠ w.heap.size) := HRL
  have h1 := h.below (below_alloc (Below.refl _ _) (.cells #[.int .i64 x.1.slot, .int .i64 x.1.gen, .int .i64 x.1.tag, .int .i64 x.1.num, .bool x.1.mark, .bool x.2] 63))
  have HX := Lib.hid (box_rep w x)
  have HB0 := Lib.hid (below_alloc (Below.refl w.heap.size w) (.cells #[.int .i64 x.1.slot, .int .i64 x.1.gen, .int .i64 x.1.tag, .int .i64 x.1.num, .bool x.1.mark, .bool x.2] 63))
  have HR := Lib.hid h1
  clear h h1
  unfold rpv
  go_enter Tryz.func93, Tryz.ntmps93
  go_upto_region 1 with fail
  generalize w.alloc (.cells #[.int .i64 x.1.slot, .int .i64 x.1.gen, .int .i64 x.1.tag, .int .i64 x.1.num, .bool x.1.mark, .bool x.2] 63) = W at HR HX HB0 ⊢
  have hX := HX.out
  have hzx := BlkW.lt hX
  have hrx : w.heap.size ≠ r := fun e => BlkW.ne_ hX HR.out.at_ (by decide) e
  have hkx : ¬ K w.heap.size := fun e => HRL.out _ e rfl
  obtain ⟨b0, b1, b2, b3, b4, b5⟩ := rep6 hX
  have hz := BlkW.lt HR.out.at_
  have cd := HR.out.at_.done
  have ce := HR.out.at_.fix.1
  clear hX HX
  generalize w.heap.size = g at hzx hrx hkx b0 b1 b2 b3 b4 b5 ⊢
  have hcE : m.countsEras = false := by unfold Rt.countsEras; rw [he]; rfl
  have HQ := Lib.hid hq
  rw [hd] at cd
  have HCE := Lib.hid hcE
  have HEN := Lib.hid he
  have HLN := Lib.hid hl
  obtain ⟨s0, s1, s2, s3, s4⟩ := HR.out.at_.clock5
  have fz : ∀ o, W.frozen? ⟨r, o, none⟩ = false := HR.out.at_.frozen
  have RT := Lib.hid (HR.out.only (sv' := sv) (fv' := fv) (m' := m.setClock x.1) (HR.out.at_.setClock x.1) (Only.sets (r := r) 45 (wc x.1)) (.inl ⟨rfl, rfl⟩) (.inl ⟨rfl, rfl⟩) rfl)
  have OT := Lib.hid (Only.sets (r := r) (w := W) 45 (wc x.1))
  clear hd hcE he hl hq
  go_wp2_with fail
  show Calls _ _ _ (W.setCells r 45 (wc x.1)) _
  clear s0 s1 s2 s3 s4 fz
  generalize W.setCells r 45 (wc x.1) = W3 at RT OT ⊢
  have HNT := Lib.hid (note_any RT.out (by show m.notes.length ≤ 1000; have := HLN.out; omega))
  refine HNT.out.mono ?_
  rintro e w4 ⟨rfl, h4⟩
  obtain ⟨K4, ⟨sv4, fv4, nv4, hp4⟩, ho4, hk4⟩ := h4.out
  have hnl : ((m.setClock x.1).note).notes.length = m.notes.length + 1 := by show (m.notes ++ [_]).length = _; simp
  have HP4 := Lib.hid hp4
  have HO4 := Lib.hid ho4
  have HK4 := Lib.hid hk4
  obtain ⟨ao4, cp4, en4⟩ := Sv.own_slice HP4.out.notes
  rw [hnl] at en4
  have c105 := HP4.out.at_.n105
  rw [en4] at c105
  have c56 := HP4.out.at_.fix.2.2.2
  have hz4 := BlkW.lt HP4.out.at_
  clear hp4 ho4 hk4 en4 hnl h4
  go_wp2_with fail
  refine (countsEras_any HP4.out.at_).mono ?_
  rintro e w5 ⟨rfl, rfl⟩
  rw [show ((m.setClock x.1).note).countsEras = m.countsEras from rfl, HCE.out]
  obtain ⟨L, hL⟩ : ∃ L : Nat, L = m.notes.length + 1 := ⟨_, rfl⟩
  rw [← hL] at c105
  obtain ⟨M, hM⟩ : ∃ M : Nat, M = m.most := ⟨_, rfl⟩
  have e56 : w4.cell? ⟨r, 56, none⟩ = some (.int .i64 (M : Int)) := by rw [hM]; exact c56
  have j1 : (L : Int) < (M : Int) := by have := HQ.out; omega
  have HMM := Lib.hid hM
  clear c56 hM
  have HLL := Lib.hid hL
  clear hL
  go_upto_region 17 with fail
  go_region_held3 (fun w' => w'.cell? ⟨r, 105, none⟩ = some (.slice ao4 L cp4) ∧ w'.cell? ⟨r, 56, none⟩ = some (.int .i64 (M : Int)))
    (first | go_keep)
    (first | fail)
  have HP5 := Lib.hid (HP4.out.below ((Below.refl w4.heap.size w4).drew))
  go_wp2_with fail
  refine (succeed_any HP5.out.at_).mono ?_
  rintro e w6 ⟨rfl, h1, h2⟩
  go_wp2
  first
    | go_end0
    | refine bodyPost_ret (results_none rfl _ _ _) rfl ?_
  exact ⟨rfl, Lib.hid (RStep.below HB0.out (RStep.trans (K' := K) ⟨OT.out.os, OT.out.tape, OT.out.output, OT.out.size, fun j hj hn => OT.out.block j hj (fun e => hn (by subst e; exact RT.out.kr))⟩ (fun _ e => .inl e) (RStep.trans HO4.out HK4.out (RStep.below ((Below.refl w4.heap.size w4).drew) (HP5.out.step_only h1.out h2.out (.inr ⟨rfl, rfl⟩) (.inr ⟨rfl, rfl⟩) rfl)))))⟩
set_option maxRecDepth 100000 in
set_option maxHeartbeats 1000000 in
theorem retire_noted_many (h : RiteP w B r sv fv nv m K) (x : Wd × Bool) (hd : m.st.done = 4) (he : m.eng = 4) (hl : m.notes.length ≤ 900) (hq : ¬ m.notes.length + 1 < m.most) :
    Calls Tryz.prog 93 #[.pointer (some ⟨r, 0, none⟩), rpv x] w (RPost w B r K ((scanning ((m.setClock x.1).note)).loadClock 4)) := by
  have HRL := Lib.hid (fun b (e : K b) => (show b ≠ w.heap.size from Nat.ne_of_lt (h.low b e).2))
  replace HRL : Hid (∀ b, K b → b ≠ w.heap.size) := HRL
  have h1 := h.below (below_alloc (Below.refl _ _) (.cells #[.int .i64 x.1.slot, .int .i64 x.1.gen, .int .i64 x.1.tag, .int .i64 x.1.num, .bool x.1.mark, .bool x.2] 63))
  have HX := Lib.hid (box_rep w x)
  have HB0 := Lib.hid (below_alloc (Below.refl w.heap.size w) (.cells #[.int .i64 x.1.slot, .int .i64 x.1.gen, .int .i64 x.1.tag, .int .i64 x.1.num, .bool x.1.mark, .bool x.2] 63))
  have HR := Lib.hid h1
  clear h h1
  unfold rpv
  go_enter Tryz.func93, Tryz.ntmps93
  go_upto_region 1 with fail
  generalize w.alloc (.cells #[.int .i64 x.1.slot, .int .i64 x.1.gen, .int .i64 x.1.tag, .int .i64 x.1.num, .bool x.1.mark, .bool x.2] 63) = W at HR HX HB0 ⊢
  have hX := HX.out
  have hzx := BlkW.lt hX
  have hrx : w.heap.size ≠ r := fun e => BlkW.ne_ hX HR.out.at_ (by decide) e
  have hkx : ¬ K w.heap.size := fun e => HRL.out _ e rfl
  obtain ⟨b0, b1, b2, b3, b4, b5⟩ := rep6 hX
  have hz := BlkW.lt HR.out.at_
  have cd := HR.out.at_.done
  have ce := HR.out.at_.fix.1
  clear hX HX
  generalize w.heap.size = g at hzx hrx hkx b0 b1 b2 b3 b4 b5 ⊢
  have hcE : m.countsEras = false := by unfold Rt.countsEras; rw [he]; rfl
  have HQ := Lib.hid hq
  rw [hd] at cd
  have HCE := Lib.hid hcE
  have HEN := Lib.hid he
  have HLN := Lib.hid hl
  obtain ⟨s0, s1, s2, s3, s4⟩ := HR.out.at_.clock5
  have fz : ∀ o, W.frozen? ⟨r, o, none⟩ = false := HR.out.at_.frozen
  have RT := Lib.hid (HR.out.only (sv' := sv) (fv' := fv) (m' := m.setClock x.1) (HR.out.at_.setClock x.1) (Only.sets (r := r) 45 (wc x.1)) (.inl ⟨rfl, rfl⟩) (.inl ⟨rfl, rfl⟩) rfl)
  have OT := Lib.hid (Only.sets (r := r) (w := W) 45 (wc x.1))
  clear hd hcE he hl hq
  go_wp2_with fail
  show Calls _ _ _ (W.setCells r 45 (wc x.1)) _
  clear s0 s1 s2 s3 s4 fz
  generalize W.setCells r 45 (wc x.1) = W3 at RT OT ⊢
  have HNT := Lib.hid (note_any RT.out (by show m.notes.length ≤ 1000; have := HLN.out; omega))
  refine HNT.out.mono ?_
  rintro e w4 ⟨rfl, h4⟩
  obtain ⟨K4, ⟨sv4, fv4, nv4, hp4⟩, ho4, hk4⟩ := h4.out
  have hnl : ((m.setClock x.1).note).notes.length = m.notes.length + 1 := by show (m.notes ++ [_]).length = _; simp
  have HP4 := Lib.hid hp4
  have HO4 := Lib.hid ho4
  have HK4 := Lib.hid hk4
  obtain ⟨ao4, cp4, en4⟩ := Sv.own_slice HP4.out.notes
  rw [hnl] at en4
  have c105 := HP4.out.at_.n105
  rw [en4] at c105
  have c56 := HP4.out.at_.fix.2.2.2
  have hz4 := BlkW.lt HP4.out.at_
  clear hp4 ho4 hk4 en4 hnl h4
  go_wp2_with fail
  refine (countsEras_any HP4.out.at_).mono ?_
  rintro e w5 ⟨rfl, rfl⟩
  rw [show ((m.setClock x.1).note).countsEras = m.countsEras from rfl, HCE.out]
  obtain ⟨L, hL⟩ : ∃ L : Nat, L = m.notes.length + 1 := ⟨_, rfl⟩
  rw [← hL] at c105
  obtain ⟨M, hM⟩ : ∃ M : Nat, M = m.most := ⟨_, rfl⟩
  have e56 : w4.cell? ⟨r, 56, none⟩ = some (.int .i64 (M : Int)) := by rw [hM]; exact c56
  have j1 : (M : Int) ≤ (L : Int) := by have := HQ.out; omega
  have HMM := Lib.hid hM
  clear c56 hM
  have HLL := Lib.hid hL
  clear hL
  go_upto_region 17 with fail
  go_region_held3 (fun w' => w'.cell? ⟨r, 105, none⟩ = some (.slice ao4 L cp4) ∧ w'.cell? ⟨r, 56, none⟩ = some (.int .i64 (M : Int)))
    (first | go_keep)
    (first | fail)
  have HP5 := Lib.hid (HP4.out.below ((Below.refl w4.heap.size w4).drew))
  have j2 : ¬ (L : Int) < (M : Int) := by omega
  have HBG := Lib.hid (begin_any HP5.out.at_ { zc with kind := 11 })
  go_wp2_with fail
  refine HBG.out.mono ?_
  rintro e w6 ⟨rfl, h1, h2⟩
  have HP6 := Lib.hid (HP5.out.only (m' := scanning (m.setClock x.1).note) h1.out h2.out (.inr ⟨rfl, rfl⟩) (.inr ⟨rfl, rfl⟩) rfl)
  have HO6 := Lib.hid h2.out
  have HSC := Lib.hid (scan_clock HP6.out (zw, false) rfl HEN.out)
  go_wp2_with fail
  refine HSC.out.mono ?_
  rintro e w7 ⟨rfl, h7⟩
  go_wp2
  first
    | go_end0
    | refine bodyPost_ret (results_none rfl _ _ _) rfl ?_
  exact ⟨rfl, Lib.hid (RStep.below HB0.out (RStep.trans (K' := K) ⟨OT.out.os, OT.out.tape, OT.out.output, OT.out.size, fun j hj hn => OT.out.block j hj (fun e => hn (by subst e; exact RT.out.kr))⟩ (fun _ e => .inl e) (RStep.trans HO4.out HK4.out (RStep.below ((Below.refl w4.heap.size w4).drew) (RStep.trans (K' := K4) ⟨HO6.out.os, HO6.out.tape, HO6.out.output, HO6.out.size, fun j hj hn => HO6.out.block j hj (fun e => hn (by subst e; exact HP5.out.kr))⟩ (fun _ e => .inl e) h7.out)))))⟩
end
end Go.Proofs.YtihjklimcchkhaaGreatDoor
