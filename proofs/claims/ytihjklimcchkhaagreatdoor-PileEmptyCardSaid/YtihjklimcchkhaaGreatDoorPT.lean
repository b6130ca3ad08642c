/- What single accesses do, as plain data. A template (fill.py). -/
/- The yard that is laid: a plot, and mourners with new rites. A template (fill.py). -/
/- crew: a plot, and workers with new rites; the row of pointers to them. A template (fill.py). -/
import Derived.Test.YtihjklimcchkhaaGreatDoorWDM
import Derived.Test.YtihjklimcchkhaaGreatDoorTb
import Derived.LoopTactic
import Derived.OwnWalk
import Derived.Deep.Cut
import Derived.Test.YtihjklimcchkhaaGreatDoorPr
import Derived.Test.YtihjklimcchkhaaGreatDoorRQ
namespace Go.Proofs.YtihjklimcchkhaaGreatDoor
def St.tick (t : St) : St := { t with steps := t.steps + 1 }
theorem step_cell {t : St} {a : Ac} {l : Loc} (hk : a.kind = 1 ∨ a.kind = 2 ∨ a.kind = 3) (hl : t.loc a.s a.g a.f = some l) (hm : t.miss a.s a.g .freed = none) : t.step a = t.tick.touch l a := by
  unfold St.step St.act
  have hw : ({ t with steps := t.steps + 1 } : St).wrong a = none := by
    unfold St.wrong
    rw [if_neg (by omega), if_neg (by omega)]
    exact hm
  have hl' : ({ t with steps := t.steps + 1 } : St).loc a.s a.g a.f = some l := hl
  rw [hw]
  simp only []
  rw [if_neg (by omega), if_neg (by omega), hl']
  rfl
theorem step_give {t : St} {a : Ac} (hk : a.kind = 4) : t.step a = t.tick.give a.new.num := by
  unfold St.step St.act
  have hw : ({ t with steps := t.steps + 1 } : St).wrong a = none := by
    unfold St.wrong
    rw [if_pos hk]
  rw [hw]
  simp only []
  rw [if_pos hk]
  rfl
theorem step_take {t : St} {a : Ac} (hk : a.kind = 5) (i : Nat) (hi : i < t.n) (ho : a.old.slot = (i : Int) + 1) (hg : (t.slot i).given = true) (he : ((t.slot i).gen : Int) = a.old.gen) : t.step a = (t.tick.take i, zw, true) := by
  have e : (a.old.slot - 1).toNat = i := by omega
  unfold St.step St.act
  have hw : ({ t with steps := t.steps + 1 } : St).wrong a = none := by
    unfold St.wrong
    rw [if_neg (by omega), if_pos hk]
    unfold St.miss
    simp only [e]
    rw [if_pos ⟨by omega, by omega⟩]
    rw [if_neg (by simp [hg]), if_neg (by simpa using he)]
  rw [hw]
  simp only []
  rw [if_neg (by omega), if_pos hk, e]
  rfl
/-- A free that is wrong: the slot is free. -/
theorem step_twice {t : St} {a : Ac} (hk : a.kind = 5) (i : Nat) (hi : i < t.n) (ho : a.old.slot = (i : Int) + 1) (hg : (t.slot i).given = false) : t.step a = (t.tick.blame .twice, zw, false) := by
  have e : (a.old.slot - 1).toNat = i := by omega
  unfold St.step St.act
  have hw : ({ t with steps := t.steps + 1 } : St).wrong a = some .twice := by
    unfold St.wrong
    rw [if_neg (by omega), if_pos hk]
    unfold St.miss
    simp only [e]
    rw [if_pos ⟨by omega, by omega⟩, if_pos hg]
  rw [hw]
  simp only []
  rw [if_neg (by omega)]
  rfl
theorem can_new (t : St) (a : Ac) (hk : a.kind = 4) : t.can a = true := by
  unfold St.can; rw [if_neg (by omega), if_pos hk]
theorem can_free (t : St) (a : Ac) (hk : a.kind = 5) (h : 1 ≤ a.old.slot ∧ a.old.slot ≤ t.n) : t.can a = true := by
  unfold St.can; rw [if_neg (by omega), if_neg (by omega), if_pos hk]; simpa using h
theorem can_cell (t : St) (a : Ac) (hk : a.kind = 1 ∨ a.kind = 2 ∨ a.kind = 3) (l : Loc) (hl : t.loc a.s a.g a.f = some l) : t.can a = true := by
  unfold St.can; rw [if_pos hk, hl]; rfl
theorem loc_slot (t : St) (i : Nat) (g : Int) (f : Nat) (hi : i < t.n) (hf : f < 10) : t.loc ((i : Int) + 1) g (f : Int) = some (.slot i f) := by
  unfold St.loc
  rw [if_neg (by omega), if_pos (by omega)]
  congr 2; omega
theorem loc_board (t : St) (f : Nat) (hf : f < t.m) : t.loc 0 0 (f : Int) = some (.board f) := by
  unfold St.loc
  rw [if_pos ⟨rfl, rfl⟩, if_pos (by omega)]
  congr 2
theorem miss_given (t : St) (i : Nat) (hi : i < t.n) (hg : (t.slot i).given = true) (g : Int) (he : ((t.slot i).gen : Int) = g) (x : Flt) : t.miss ((i : Int) + 1) g x = none := by
  unfold St.miss
  rw [if_pos (by omega)]
  have e : ((i : Int) + 1 - 1).toNat = i := by omega
  rw [e, if_neg (by simp [hg]), if_neg (by simpa using he)]
theorem miss_board (t : St) (g : Int) (x : Flt) : t.miss 0 g x = none := by
  unfold St.miss
  rw [if_neg (by omega)]

/-! ### PlotReborn -/
structure Rb (t : St) (k : Nat) : Prop where
  n : t.n = 1
  m : t.m = 0
  free : t.free = []
  given : (t.slot 0).given = true
  gen : (t.slot 0).gen = 1
  fault : t.fault = none
  steps : t.steps = k
theorem rb_first : Rb ((St.new 1 0).step ⟨4, 0, 0, 0, zw, nw 3⟩).1 1 := ⟨rfl, rfl, rfl, rfl, rfl, rfl, rfl⟩
theorem rb_first_reply : ((St.new 1 0).step ⟨4, 0, 0, 0, zw, nw 3⟩).2 = (⟨1, 1, 0, 0, false⟩, true) := rfl
theorem rb_can {t : St} {k : Nat} (h : Rb t k) (f : Nat) (hf : f < 10) (d : Wd) : t.can ⟨2, 1, 1, f, zw, d⟩ = true :=
  can_cell t _ (.inr (.inl rfl)) (.slot 0 f) (loc_slot t 0 1 f (by rw [h.n]; omega) hf)
theorem rb_store {t : St} {k : Nat} (h : Rb t k) (f : Nat) (hf : f < 10) (d : Wd) : Rb (t.step ⟨2, 1, 1, f, zw, d⟩).1 (k + 1) := by
  have hl : t.loc 1 1 f = some (.slot 0 f) := loc_slot t 0 1 f (by rw [h.n]; omega) hf
  have hm : t.miss 1 1 .freed = none := miss_given t 0 (by rw [h.n]; omega) h.given 1 (by rw [h.gen]; rfl) _
  rw [step_cell (a := ⟨2, 1, 1, f, zw, d⟩) (.inr (.inl rfl)) hl hm]
  unfold St.touch
  rw [if_neg (show ¬ (2 : Int) = 1 by decide), if_pos rfl]
  exact ⟨h.n, h.m, h.free, by simpa [St.write, St.tick] using h.given, by simpa [St.write, St.tick] using h.gen, h.fault, by simp [St.write, St.tick, h.steps]⟩
def rbFree : Ac := ⟨5, 0, 0, 0, ⟨1, 1, 0, 0, false⟩, zw⟩
def rbNew (birth : Int) : Ac := ⟨4, 0, 0, 0, zw, ⟨0, 0, 4, birth, true⟩⟩
theorem rb_free_can {t : St} {k : Nat} (h : Rb t k) : t.can rbFree = true := can_free t _ rfl (by rw [h.n]; decide)
theorem rb_free {t : St} {k : Nat} (h : Rb t k) : t.step rbFree = (t.tick.take 0, zw, true) := step_take rfl 0 (by rw [h.n]; omega) rfl h.given (by rw [h.gen]; rfl)
theorem rb_new {t : St} {k : Nat} (h : Rb t k) (birth : Int) : ((t.step rbFree).1.step (rbNew birth)).2 = (⟨1, 2, 0, 0, false⟩, true) ∧ ((t.step rbFree).1.step (rbNew birth)).1.n = 1 ∧ ((t.step rbFree).1.step (rbNew birth)).1.fault = none ∧
    ((t.step rbFree).1.step (rbNew birth)).1.slot 0 = ⟨2, true, fun f => if f = 9 then nw birth else zw⟩ ∧ (t.step rbFree).1.steps = k + 1 := by
  rw [rb_free h, step_give (a := rbNew birth) rfl]
  have hg := h.gen
  have hf := h.free
  refine ⟨?_, ?_, ?_, ?_, ?_⟩
  · simp [St.give, St.take, St.tick, rbNew, hg]
  · simp [St.give, St.take, St.tick, h.n]
  · simp [St.give, St.take, St.tick, h.fault]
  · simp [St.give, St.take, St.tick, rbNew, hg]
  · simp [St.take, St.tick, h.steps]
end Go.Proofs.YtihjklimcchkhaaGreatDoor

namespace Go.Proofs.YtihjklimcchkhaaGreatDoor
open Go.RowKit Go.Extern.Stop Go.Stop Go.Extern Go.Sort
/-- A yard whose row of mourners isn't done. -/
structure YL (W : World) (E : Flt → Addr) (B p bs bb : Nat) (t : St) (ts : List Th) : Prop where
  plot : PlotAt W E B p bs bb t
  mo : ∀ x, x ∈ ts → BlkW W x.b 36 (moc x.r x.mo).toArray
  rite : ∀ x, x ∈ ts → RiteIs W B x.r x.m x.K
  typed : ∀ x, x ∈ ts → Typed W x.K
  low : ∀ x, x ∈ ts → B ≤ x.b ∧ ¬ x.K bb
  own : ∀ x, x ∈ ts → ∀ y, y ∈ ts → ¬ y.K x.b
  apart : ts.Pairwise fun x y => x.b ≠ y.b ∧ ∀ b, ¬ (x.K b ∧ y.K b)
  hB : 9 ≤ B
section
variable {W W' : World} {E : Flt → Addr} {B p bs bb : Nat} {t : St} {ts : List Th}
theorem Typed.below {K : Nat → Prop} (h : Typed W K) (hb : Below W.heap.size W W') : Typed W' K := fun b hk => by
  obtain ⟨T, cs, h1, h2⟩ := h b hk
  exact ⟨T, cs, h1.below hb, h2⟩
theorem YL.start (h : PlotAt W E B p bs bb t) (hB : 9 ≤ B) : YL W E B p bs bb t [] :=
  ⟨h, fun _ hx => (by cases hx), fun _ hx => (by cases hx), fun _ hx => (by cases hx), fun _ hx => (by cases hx), fun _ hx => (by cases hx), .nil, hB⟩
theorem YL.below (h : YL W E B p bs bb t ts) (hb : Below W.heap.size W W') : YL W' E B p bs bb t ts :=
  ⟨h.plot.keep hb, fun x hx => (h.mo x hx).below hb, fun x hx => (h.rite x hx).below hb, fun x hx => (h.typed x hx).below hb, h.low, h.own, h.apart, h.hB⟩
/-- The row of mourners grows. -/
theorem YL.grown {v : Value} {n : Nat} {xs : List Value} (h : YL W E B p bs bb t ts) (hrow : W.ownsRow B 30 1 v n xs) (hg : W.grownBy W' v.ownBlock) : YL W' E B p bs bb t ts := by
  have ho : Off (fun j => v.ownBlock = some j) W W' := (Off.refl _ W).grown hg (fun k e => .inl e)
  have hT : ∀ j, v.ownBlock = some j → ∃ cs, BlkW W j 30 cs := fun j e => by
    rcases hrow.2 with ⟨rfl, _⟩ | ⟨g, cap, cur, rfl, _, hh, _⟩
    · simp [Value.ownBlock] at e
    · have e : g = j := by simpa [Value.ownBlock] using e
      subst e
      exact ⟨cur, hh⟩
  have ne : ∀ {g : Nat} {T : TypeId} {cs : Array Value}, BlkW W g T cs → T ≠ 30 → ¬ v.ownBlock = some g := fun hb hne e => by
    obtain ⟨cs', hb'⟩ := hT _ e
    exact BlkW.ne_ hb hb' hne rfl
  refine ⟨?_, fun x hx => ho.blk (h.mo x hx) (ne (h.mo x hx) (by decide)), fun x hx => (h.rite x hx).off ho fun b e k => ?_, fun x hx b hk => ?_, h.low, h.own, h.apart, h.hB⟩
  · obtain ⟨⟨v1, fv, hq⟩, o, L⟩ := h.plot
    obtain ⟨cs, hs, _⟩ := hq.slots.blk
    obtain ⟨cb, hbd, _⟩ := hq.brd.blk
    have hbel : Below B W W' := ho.below (fun j e => (hrow.lt j e).1) hq.base_lt
    refine ⟨⟨v1, fv, ⟨ho.blk hq.hp (ne hq.hp (by decide)), hq.slots.block (ho.block _ hq.lt.2.1 (ne hs (by decide))), hq.brd.block (ho.block _ hq.lt.2.2 (ne hbd (by decide))), own_off hq.free ho (fun g e k => ?_), hq.fault.keep (fun g cs hk => ho.block g hk.lt (ne hk (by decide))), hq.bp, hq.bbs, hq.bbb⟩⟩, o, L.below hbel h.hB⟩
    obtain ⟨cs', hb'⟩ := hT g k
    exact own_ne hq.free hb' (by decide) e
  · obtain ⟨T, cs, h1, h2⟩ := h.typed x hx b e
    exact ne h1 (by rcases h2 with rfl | rfl | rfl <;> decide) k
  · obtain ⟨T, cs, h1, h2⟩ := h.typed x hx b hk
    exact ⟨T, cs, ho.blk h1 (ne h1 (by rcases h2 with rfl | rfl | rfl <;> decide)), h2⟩
/-- One more mourner, whose rite and own block are new. -/
theorem YL.add (h : YL W E B p bs bb t ts) (hb : Below W.heap.size W W') {x : Th} (hm : BlkW W' x.b 36 (moc x.r x.mo).toArray) (hr : RiteIs W' B x.r x.m x.K) (ht : Typed W' x.K) (hbx : W.heap.size ≤ x.b) (hkx : ∀ b, x.K b → W.heap.size ≤ b) (hself : ¬ x.K x.b) : YL W' E B p bs bb t (ts ++ [x]) := by
  have hbase := plot_base h.plot
  have hbb := plot_bb h.plot
  have h' := h.below hb
  have mem : ∀ {y : Th}, y ∈ ts ++ [x] → y ∈ ts ∨ y = x := fun hy => by simpa using hy
  have lt : ∀ y, y ∈ ts → y.b < W.heap.size := fun y hy => (h.mo y hy).lt
  have klt : ∀ y, y ∈ ts → ∀ b, y.K b → b < W.heap.size := fun y hy b e => ((h.rite y hy).low b e).2
  refine ⟨h'.plot, fun y hy => ?_, fun y hy => ?_, fun y hy => ?_, fun y hy => ?_, fun y hy z hz => ?_, ?_, h.hB⟩
  · rcases mem hy with hy | rfl
    · exact h'.mo y hy
    · exact hm
  · rcases mem hy with hy | rfl
    · exact h'.rite y hy
    · exact hr
  · rcases mem hy with hy | rfl
    · exact h'.typed y hy
    · exact ht
  · rcases mem hy with hy | rfl
    · exact h'.low y hy
    · exact ⟨by omega, fun e => by have := hkx _ e; omega⟩
  · rcases mem hy with hy | hy <;> rcases mem hz with hz | hz
    · exact h.own y hy z hz
    · intro e; rw [hz] at e; have := hkx _ e; have := lt y hy; omega
    · intro e; rw [hy] at e; have := klt z hz _ e; omega
    · rw [hy, hz]; exact hself
  · refine List.pairwise_append.2 ⟨h.apart, List.pairwise_singleton _ _, fun y hy z hz => ?_⟩
    obtain rfl : z = x := by simpa using hz
    exact ⟨fun e => by have := lt y hy; omega, fun b e => by have := klt y hy b e.1; have := hkx b e.2; omega⟩
/-- The row is done. -/
theorem YL.done (h : YL W E B p bs bb t ts) {g : Nat} {gc : Array Value} (hg : BlkW W g 30 gc) : Yd W E B p bs bb t (ts.map fun x => { x with g := g, gc := gc }) := by
  have mem : ∀ {y : Th}, y ∈ ts.map (fun x => { x with g := g, gc := gc }) → ∃ x, x ∈ ts ∧ y = { x with g := g, gc := gc } := fun hy => by
    obtain ⟨x, hx, e⟩ := List.mem_map.1 hy
    exact ⟨x, hx, e.symm⟩
  refine ⟨h.plot, fun y hy => ?_, fun y hy => ?_, fun y hy => ?_, fun y hy z hz => ?_, ?_, h.hB, fun y hy => ?_⟩
  · obtain ⟨x, hx, rfl⟩ := mem hy; exact h.mo x hx
  · obtain ⟨x, hx, rfl⟩ := mem hy; exact h.rite x hx
  · obtain ⟨x, hx, rfl⟩ := mem hy; exact h.low x hx
  · obtain ⟨x, hx, rfl⟩ := mem hy
    obtain ⟨x', hx', rfl⟩ := mem hz
    exact h.own x hx x' hx'
  · exact List.pairwise_map.2 h.apart
  · obtain ⟨x, hx, rfl⟩ := mem hy; exact hg
end
/-- The plot of a yard, whose clock begins at 1. -/
def ydSt (slots : Nat) : St := ((St.new slots 85).step ⟨2, 0, 0, ((24 : Nat) : Int), zw, nw 1⟩).1
theorem era_can (slots : Nat) : (St.new slots 85).can ⟨2, 0, 0, ((24 : Nat) : Int), zw, nw 1⟩ = true := by
  refine can_cell _ _ (.inr (.inl rfl)) (.board 24) (loc_board _ 24 (by show 24 < 85; omega))
def newTh (e : Int) (n notes i r b g : Nat) (gc : Array Value) : Th := ⟨b, r, Rt.new e i n notes, Mo.new, fun j => j = r, g, gc⟩
def Fresh (e : Int) (n notes : Nat) (ts : List Th) : Prop := ∀ i, ∀ h : i < ts.length, ts[i].m = Rt.new e i n notes ∧ ts[i].mo = Mo.new
def ptrs (ts : List Th) : List Value := ts.map fun x => .pointer (some ⟨x.b, 0, none⟩)
theorem Era_agg (w : World) : Calls Tryz.prog 48 #[] w fun e w' => e = .returned (.agg #[.int .i64 0, .int .i64 0, .int .i64 24]) ∧ Below w.heap.size w w' := Bd.Era_any w
theorem do_era {w : World} {E : Flt → Addr} {B p bs bb slots : Nat} (h : PlotAt w E B p bs bb (St.new slots 85)) (hB : 9 ≤ B) :
    Calls Tryz.prog 26 #[.pointer (some ⟨p, 0, none⟩), .agg #[.int .i64 2, .int .i64 0, .int .i64 0, .int .i64 24, .int .i64 0, .int .i64 0, .int .i64 0, .int .i64 0, .bool false, .int .i64 0, .int .i64 0, .int .i64 0, .int .i64 1, .bool false]] w fun e w' => ∃ v, e = .returned (.tuple #[v, .nilIface]) ∧ Hid (PlotAt w' E B p bs bb (ydSt slots)) ∧ Hid (Below B w w') :=
  (do_is h hB (by show 0 < 900000; decide) ⟨2, 0, 0, ((24 : Nat) : Int), zw, nw 1⟩ (era_can slots)).mono fun e w' ⟨he, h1, h2, _⟩ => ⟨_, he, h1, h2⟩
theorem infoMo : (Tryz.prog.info? 30).map (fun i => (i.zero, i.size, i.bytes)) = some (some (.pointer none), 1, 8) := by kernel_rfl
/-- Amid the loop. -/
def YRel (w : World) (E : Flt → Addr) (B p bs bb : Nat) (t : St) (e : Int) (n notes : Nat) (lv vi : Value) (wr : World) : Prop :=
  ∃ (i : Nat) (ts : List Th), i ≤ n ∧ vi = .int .i64 (i : Int) ∧ ts.length = i ∧ YL wr E B p bs bb t ts ∧ Fresh e n notes ts ∧ wr.ownsRow B 30 1 lv i (ptrs ts) ∧ Below B w wr
/-- What a yard is. -/
def YardPost (w : World) (E : Flt → Addr) (e : Int) (n notes slots : Nat) (f : Ending) (w' : World) : Prop :=
  ∃ p bs bb g cap ts, f = .returned (.tuple #[.pointer (some ⟨p, 0, none⟩), .slice (some ⟨g, 0, none⟩) n cap]) ∧ ts.length = n ∧ Hid (Yd w' E w.heap.size p bs bb (ydSt slots) ts) ∧ Fresh e n notes ts ∧
    (∀ i, ∀ h : i < ts.length, ts[i].g = g ∧ ts[i].gc[i]? = some (.pointer (some ⟨ts[i].b, 0, none⟩))) ∧ Hid (Below w.heap.size w w')
set_option maxRecDepth 100000 in
set_option maxHeartbeats 4000000 in
theorem yard_is (E : Flt → Addr) (w : World) (L : Env w E) (e : Int) (n notes slots : Nat) (he : 1 ≤ e ∧ e ≤ 5) (hn : 1 ≤ n ∧ n ≤ 6) (hno : 1 ≤ notes ∧ notes ≤ 64) (hs : slots ≤ 1024) :
    Calls Tryz.prog 13 #[.int .i64 e, .int .i64 (n : Int), .int .i64 (notes : Int), .int .i64 (slots : Int)] w (YardPost w E e n notes slots) := by
  have HL := Lib.hid L
  have hB := L.size
  clear L
  go_enter Tryz.func13, Tryz.ntmps13
  go_wp2_with fail
  refine (Bd.Cells_any w).mono ?_
  rintro f w1 ⟨rfl, rfl⟩
  go_wp2_with fail
  refine (new_is HL.out slots 85 hs (by omega)).mono ?_
  rintro f w2 ⟨p, bs, bb, rfl, P2, C2, _, _⟩
  have B2 := Lib.hid C2.out
  clear C2
  go_wp2_with fail
  refine (Era_agg w2).mono ?_
  rintro f w3 ⟨rfl, hb3⟩
  have P3 := Lib.hid (P2.out.keep hb3)
  have B3 := Lib.hid (show Below w.heap.size w w3 from B2.out.trans (hb3.mono B2.out.size))
  clear hb3 P2 B2
  go_wp2_with fail
  refine (do_era P3.out hB).mono ?_
  rintro f w4 ⟨v, rfl, P4, C4⟩
  have B4 := Lib.hid (show Below w.heap.size w w4 from B3.out.trans C4.out)
  clear C4 P3 B3
  go_wp2
  go_loopw [12, 13] (YRel w E w.heap.size p bs bb (ydSt slots) e n notes) (fun _ i _ => n - (intOf i).toNat)
  case atStart =>
    exact ⟨0, [], by omega, rfl, rfl, (YL.start P4.out hB).below (below_alloc (Below.refl _ _) _), fun i h => (by simp at h), World.ownsRow_lit w4 #[] 0 B4.out.size (by simp [maxLen]) rfl, below_al B4.out (Nat.le_refl _) _⟩
  case round =>
    obtain ⟨i, ts, hi, rfl, hl, hY, hF, hown, hbel⟩ := hrel
    obtain ⟨wo, rfl⟩ : ∃ wo : World, wo = wr := ⟨_, rfl⟩
    have HY := Lib.hid hY
    have HF := Lib.hid hF
    have HO := Lib.hid hown
    have HB := Lib.hid hbel
    have HL := Lib.hid hl
    clear hY hF hown hbel hl P4 B4
    by_cases hlt : i < n
    · have j1 : (i : Int) < n := by omega
      go_wp2_with fail
      refine (New_is e i n notes he hn hlt hno wo).mono ?_
      rintro f w5 ⟨rfl, R5, C5⟩
      have H0 := Lib.hid (Sv.own_block HO.out (fun g e => C5.out.block g (HO.out.lt g e).2))
      have H1 := Lib.hid (H0.out.alloc (.cells (moc wo.heap.size Mo.new).toArray 36))
      have B5 := Lib.hid (show Below w.heap.size w w5 from HB.out.trans (C5.out.mono HB.out.size))
      have hsz := B5.out.size
      obtain ⟨i0, hi0, hz0, hz01, hz02⟩ := info_parts infoMo
      go_wp2_with (at_builtin; refine wpList_append_own_at _ rfl _ _ 27 rfl w.heap.size 30 i0 (.pointer none) 1 8 Tryz.underlying27 hi0 hz0 hz01 hz02 rfl (by decide) u12 _ _ (by rfl) (H1.out.alloc _) ⟨w5.heap.size + 1, 0, none⟩ 1 1 [.pointer (some ⟨w5.heap.size, 0, none⟩)] (by rfl) rfl ?c1 ?c2 ?c3 ?c4 ?c5 ?_)
      case c1 =>
        have := cell_one_new (w5.alloc (.cells (moc wo.heap.size Mo.new).toArray 36)) (.pointer (some ⟨w5.heap.size, 0, none⟩)) 30
        rw [World.size_alloc] at this
        exact this
      case c2 => intro u hu; simp at hu; subst hu; rfl
      case c3 => simp [maxLen]; omega
      case c4 => omega
      case c5 => simp only [World.size_alloc]; omega
      intro v' w6 hown' hgrow _ hat
      have hsz5 : wo.heap.size < w5.heap.size := (R5.out.low wo.heap.size rfl).2
      have Bx := below_alloc (below_alloc (Below.refl w5.heap.size w5) (.cells (moc wo.heap.size Mo.new).toArray 36)) (.cells #[.pointer (some ⟨w5.heap.size, 0, none⟩)] 30)
      have Y6 := Lib.hid ((HY.out.add (x := newTh e n notes i wo.heap.size w5.heap.size 0 #[]) (C5.out.trans (Bx.mono C5.out.size)) ((BlkW.new w5 _ _).alloc _) ⟨nilS, nilS, nilS, (R5.out.below Bx).lower HB.out.size⟩
        (fun b hb => by have hb : b = wo.heap.size := hb; subst hb; exact ⟨_, _, (R5.out.below Bx).at_, .inl rfl⟩) C5.out.size (fun b hb => Nat.le_of_eq (show b = wo.heap.size from hb).symm) (fun e => by have : w5.heap.size = wo.heap.size := e; omega)).grown (H1.out.alloc _) hgrow)
      have F6 := Lib.hid (show Fresh e n notes (ts ++ [newTh e n notes i wo.heap.size w5.heap.size 0 #[]]) from fun k hk => by
        by_cases hkl : k < ts.length
        · rw [List.getElem_append_left hkl]; exact HF.out k hkl
        · have hk' : k < ts.length + 1 := by simpa using hk
          have : k = ts.length := by omega
          subst this
          simp only [List.getElem_concat_length]
          rw [HL.out]
          exact ⟨rfl, rfl⟩)
      have O6 := Lib.hid (show w6.ownsRow w.heap.size 30 1 v' (i + 1) (ptrs (ts ++ [newTh e n notes i wo.heap.size w5.heap.size 0 #[]])) from by
        unfold ptrs at hown' ⊢
        rw [List.map_append]
        exact hown')
      have B6 := Lib.hid ((below_al (below_al B5.out (Nat.le_refl _) (.cells (moc wo.heap.size Mo.new).toArray 36)) (Nat.le_refl _) (.cells #[.pointer (some ⟨w5.heap.size, 0, none⟩)] 30)).grown hgrow (by simp only [World.size_alloc]; omega) (fun q e => (H1.out.lt q e).1))
      have L6 := Lib.hid (show (ts ++ [newTh e n notes i wo.heap.size w5.heap.size 0 #[]]).length = i + 1 by rw [List.length_append, HL.out]; rfl)
      generalize ts ++ [newTh e n notes i wo.heap.size w5.heap.size 0 #[]] = us at Y6 F6 O6 L6
      clear hown' hgrow hat Bx HY HF HO H0 H1 HL R5 C5
      go_wp2
      refine ⟨⟨i + 1, us, by omega, by go_num, L6.out, Y6.out, F6.out, O6.out, B6.out⟩, by simp [intOf]; omega⟩
    · obtain rfl : n = i := by omega
      rcases HO.out.2 with ⟨_, e0⟩ | ⟨g, cap, cur, rfl, hge, hblk, hnc, hcm, hcs, htk⟩
      · omega
      · go_wp2
        refine bodyPost_ret (v := .tuple #[.pointer (some ⟨p, 0, none⟩), .slice (some ⟨g, 0, none⟩) n cap]) (by simp [results, Tryz.results13, go_sem]) rfl ?_
        refine ⟨p, bs, bb, g, cap, ts.map fun x => { x with g := g, gc := cur }, rfl, by rw [List.length_map]; exact HL.out, Lib.hid (HY.out.done hblk), fun k hk => ?_, fun k hk => ?_, HB⟩
        · rw [List.getElem_map]
          exact HF.out k (by simpa using hk)
        · rw [List.getElem_map]
          refine ⟨rfl, ?_⟩
          have hk' : k < ts.length := by simpa using hk
          have h1 : (cur.toList.take (n * 1))[k]? = some (.pointer (some ⟨ts[k].b, 0, none⟩)) := by
            rw [htk]
            unfold ptrs
            rw [List.getElem?_map, List.getElem?_eq_getElem hk']
            rfl
          rw [List.getElem?_take_of_lt (by rw [← HL.out]; omega)] at h1
          show cur[k]? = _
          simpa using h1
end Go.Proofs.YtihjklimcchkhaaGreatDoor

namespace Go.Proofs.YtihjklimcchkhaaGreatDoor
open Go.RowKit Go.Extern.Stop Go.Stop Go.Extern Go.Sort
def gcc (g : Nat) : List Value := [.pointer (some ⟨g, 0, none⟩)]
/-- A row of pointers: none yet, or a block of its own among the boxes. -/
def LstAt (bx : Bx) (B : Nat) (sv : Value) (said : List (Nat)) : Prop :=
  (sv = .slice none 0 0 ∧ said = []) ∨ ∃ sb cap cur, sv = .slice (some ⟨sb, 0, none⟩) said.length cap ∧ B ≤ sb ∧ bx sb = some (83, cur) ∧ said.length ≤ cap ∧ cap ≤ maxLen ∧ cur.size = cap * 1 ∧ cur.toList.take (said.length * 1) = Sv.flat gcc said
section
variable {W W' w : World} {E : Flt → Addr} {B p bs bb : Nat} {t : St} {rs : List (Nat × Rt)} {bx bx' : Bx}
theorem LstAt.own {sv : Value} {said : List (Nat)} (hs : LstAt bx B sv said) (h : Cw W w E B p bs bb t rs bx) : W.ownsRow B 83 1 sv said.length (Sv.flat gcc said) := by
  refine ⟨Sv.flat_len (k := 1) (fun a => (rfl : (gcc a).length = 1)) said, ?_⟩
  rcases hs with ⟨e, e2⟩ | ⟨sb, cap, cur, e, h1, h2, h3, h4, h5, h6⟩
  · exact .inl ⟨e, by rw [e2]; rfl⟩
  · exact .inr ⟨sb, cap, cur, e, h1, h.get h2, h3, h4, h5, h6⟩
/-- A worker more. -/
theorem Cw.appendedL {sv v' : Value} {said ys : List (Nat)} (h : Cw W w E B p bs bb t rs bx) (hs : LstAt bx B sv said) (hp : Sv.AppPost W gcc 1 B 83 sv said.length (Sv.flat gcc said) ys v' W') :
    ∃ bx', Cw W' w E B p bs bb t rs bx' ∧ LstAt bx' B v' (said ++ ys) ∧ ∀ g x, bx g = some x → some g ≠ sv.ownBlock → bx' g = some x := by
  obtain ⟨ho, hg, hv, hB⟩ := hp
  have hfl : Sv.flat gcc said ++ Sv.flat gcc ys = Sv.flat gcc (said ++ ys) := by rw [Sv.flat_app]
  have hl : (said ++ ys).length = said.length + ys.length := List.length_append
  rw [hfl] at ho
  obtain ⟨hlen, ho⟩ := ho
  have hlt : ∀ g x, bx g = some x → g < W.heap.size := fun g x e => (h.get (T := x.1) (cs := x.2) e).lt
  have mk : ∀ (bx2 : Bx) (g cap : Nat) (cur : Array Value), v' = .slice (some ⟨g, 0, none⟩) (said.length + ys.length) cap → B ≤ g → said.length + ys.length ≤ cap → cap ≤ maxLen → cur.size = cap * 1 → cur.toList.take ((said.length + ys.length) * 1) = Sv.flat gcc (said ++ ys) → bx2 g = some (83, cur) → LstAt bx2 B v' (said ++ ys) := fun bx2 g cap cur e1 e2 e3 e4 e5 e6 e7 => .inr ⟨g, cap, cur, by rw [hl]; exact e1, e2, e7, by rw [hl]; exact e3, e4, e5, by rw [hl]; exact e6⟩
  rcases hs with ⟨rfl, rfl⟩ | ⟨sb, cap0, cur0, rfl, q1, q2, q3, q4, q5, q6⟩
  · have hb : Below W.heap.size W W' := ⟨hg.os, hg.tape, hg.output, hg.size, fun k hk => hg.block k hk (by simp [Value.ownBlock])⟩
    rcases ho with ⟨e, e2⟩ | ⟨g, cap, cur, e, e1, e2, e3, e4, e5, e6⟩
    · refine ⟨bx, h.below hb, .inl ⟨e, ?_⟩, fun g x hx _ => hx⟩
      exact List.length_eq_zero_iff.1 (by rw [hl]; exact e2)
    · have hgn : g = W.heap.size := by
        rcases hv with hv | hv
        · rw [e] at hv; simp [Value.ownBlock] at hv
        · rw [e] at hv; simpa [Value.ownBlock] using hv
      refine ⟨bx.put g _ cur, h.box hb e2 (by omega) (by decide) (by decide) (by decide), mk _ g cap cur e e1 e3 e4 e5 e6 (Bx.put_self ..), fun k x hx _ => ?_⟩
      rw [Bx.put_ne _ _ _ (by have := hlt k x hx; omega)]
      exact hx
  · have hoff : Off (fun j => j = sb) W W' := ⟨hg.os, hg.tape, hg.output, hg.size, fun k hk hn => hg.block k hk (by simpa [Value.ownBlock] using hn)⟩
    rcases ho with ⟨e, e2⟩ | ⟨g, cap, cur, e, e1, e2, e3, e4, e5, e6⟩
    · exact absurd hv (by rw [e]; simp [Value.ownBlock])
    · rcases hv with hv | hv
      · have hgs : g = sb := by rw [e] at hv; simpa [Value.ownBlock] using hv
        subst hgs
        refine ⟨bx.put g _ cur, h.off q2 q1 hoff e2 (by decide), mk _ g cap cur e e1 e3 e4 e5 e6 (Bx.put_self ..), fun k x hx hk => ?_⟩
        rw [Bx.put_ne _ _ _ (by simpa [Value.ownBlock] using hk)]
        exact hx
      · have hgn : g = W.heap.size := by rw [e] at hv; simpa [Value.ownBlock] using hv
        refine ⟨(bx.drop sb).put g _ cur, h.offNew q2 q1 hoff (by decide) e2 (by omega) (by decide) (by decide) (by decide), mk _ g cap cur e e1 e3 e4 e5 e6 (Bx.put_self ..), fun k x hx hk => ?_⟩
        rw [Bx.put_ne _ _ _ (by have := hlt k x hx; omega), Bx.drop_ne _ (by simpa [Value.ownBlock] using hk)]
        exact hx
theorem LstAt.puts {sv : Value} {said : List Nat} (h : LstAt bx B sv said) {g : Nat} {T : TypeId} {cs : Array Value} (hg : bx g = none) : LstAt (bx.put g T cs) B sv said := by
  rcases h with h | ⟨sb, cap, cur, rfl, q1, q2, q3⟩
  · exact .inl h
  · exact .inr ⟨sb, cap, cur, rfl, q1, by rw [Bx.put_ne _ _ _ (fun e => by rw [e, hg] at q2; cases q2)]; exact q2, q3⟩
theorem LstAt.own_ne {sv : Value} {said : List Nat} (h : LstAt bx B sv said) {g : Nat} {T : TypeId} {cs : Array Value} (hx : bx g = some (T, cs)) (hT : T ≠ 83) : some g ≠ sv.ownBlock := fun e => by
  rcases h with ⟨e2, _⟩ | ⟨sb, cap, cur, e2, q1, q2, _⟩
  · rw [e2] at e; simp [Value.ownBlock] at e
  · rw [e2] at e
    have hsq : g = sb := by simpa [Value.ownBlock] using e
    rw [← hsq, hx] at q2
    injection q2 with e
    injection e with e
    exact hT e
/-- Elder blocks are boxes, too. -/
theorem Cw.elders (h : Cw W w E B p bs bb t rs bx) (S : Nat → Bool) (cb : Nat → Array Value) {T : TypeId} (hS : ∀ b, S b = true → b < B ∧ BlkW W b T (cb b)) (h1 : T ≠ 116) (h2 : T ≠ 142) (h3 : T ≠ 3) : Cw W w E B p bs bb t rs (fun b => if S b = true then some (T, cb b) else bx b) := by
  obtain ⟨K, g1, g2, g3, g4, g5, g6, g7⟩ := h
  refine ⟨K, g1, g2, g3, g4, g5, g6, fun g T' cs' hx => ?_⟩
  dsimp only at hx
  by_cases e : S g = true
  · rw [if_pos e] at hx
    injection hx with hx
    injection hx with e1 e2
    subst e1 e2
    obtain ⟨hb, hk⟩ := hS g e
    refine ⟨hk, fun ⟨i, hi, e⟩ => ?_, h1, h2, h3, ?_⟩
    · have := ((g2 i hi).low _ e).1
      exact Nat.lt_irrefl _ (Nat.lt_of_lt_of_le hb this)
    · obtain ⟨⟨v1, fv, hq⟩, _⟩ := g1
      have := hq.bbb
      show g ≠ bb
      omega
  · rw [if_neg e] at hx
    exact g7 g T' cs' hx
end
theorem infoWk : (Tryz.prog.info? 83).map (fun i => (i.zero, i.size, i.bytes)) = some (some (.pointer none), 1, 8) := by kernel_rfl
theorem gcc_one (g : Nat) : ∀ u ∈ gcc g, u.oneCell' = true := fun u hu => by
  simp only [gcc, List.mem_cons, List.not_mem_nil, or_false] at hu
  subst hu; rfl
/-- A worker that is new. -/
def wNew (e : Int) (n most : Nat) (ops : Nat → List Po) (j : Nat) : Rt × Wr := (Rt.new e j n most, ⟨ops j, [], none, false⟩)
/-- Amid the loop. -/
def CrRel (w : World) (E : Flt → Addr) (B p bs bb : Nat) (t : St) (e : Int) (n most : Nat) (ops : Nat → List Po) (ob oc : Nat → Nat) (cb : Nat → Array Value) (lv vi : Value) (wr : World) : Prop :=
  ∃ (i : Nat) (bx : Bx) (r g : Nat → Nat), i ≤ n ∧ vi = .int .i64 (i : Int) ∧ Cw wr w E B p bs bb t (rsOf i r (wNew e n most ops)) bx ∧ LstAt bx B lv ((List.range i).map g) ∧
    (∀ j, j < i → bx (g j) = some (88, (wkc (r j) (.slice (some ⟨ob j, 0, none⟩) (ops j).length (oc j)) (.pointer none) false (.slice none 0 0)).toArray) ∧ B ≤ g j) ∧
    (∀ j k, j < i → k < i → j ≠ k → g j ≠ g k) ∧ (∀ j, j < n → bx (ob j) = some (78, cb (ob j)))
/-- What a crew is. -/
def CrewPost (w : World) (E : Flt → Addr) (e : Int) (n most sl : Nat) (ops : Nat → List Po) (f : Ending) (w' : World) : Prop :=
  ∃ p bs bb g lb cap, f = .returned (.tuple #[.pointer (some ⟨p, 0, none⟩), .slice (some ⟨lb, 0, none⟩) n cap]) ∧ n ≤ cap ∧ Hid (CrewOn w' w E w.heap.size p bs bb (ydSt sl) n g lb (wNew e n most ops)) ∧ Hid (Below w.heap.size w w')
theorem rsOf_succ (i : Nat) (r : Nat → Nat) (x : Nat → Rt × Wr) (v : Nat) : rsOf i r x ++ [(v, (x i).1)] = rsOf (i + 1) (upd r i v) x := by
  unfold rsOf
  rw [List.range_succ, List.map_append]
  congr 1
  · apply List.map_congr_left
    intro j hj
    have := List.mem_range.1 hj
    rw [upd_ne _ _ (by omega)]
  · simp [upd]
theorem rangeMap_succ (i : Nat) (g : Nat → Nat) (v : Nat) : (List.range i).map g ++ [v] = (List.range (i + 1)).map (upd g i v) := by
  rw [List.range_succ, List.map_append]
  congr 1
  · apply List.map_congr_left
    intro j hj
    have := List.mem_range.1 hj
    rw [upd_ne _ _ (by omega)]
  · simp [upd]
set_option maxRecDepth 100000 in
set_option maxHeartbeats 4000000 in
theorem crew_is (E : Flt → Addr) (w : World) (L : Env w E) (e : Int) (n most sl : Nat) (he : 1 ≤ e ∧ e ≤ 5) (hn : 1 ≤ n ∧ n ≤ 6) (hno : 1 ≤ most ∧ most ≤ 64) (hs : sl ≤ 1024) (ops : Nat → List Po) (ob oc : Nat → Nat) (cb : Nat → Array Value) (ov cov : Nat)
    (hov : ∀ j, j < n → w.cell? ⟨ov, j, none⟩ = some (.slice (some ⟨ob j, 0, none⟩) (ops j).length (oc j))) (hob : ∀ j, j < n → BlkW w (ob j) 78 (cb (ob j)) ∧ (ops j).length ≤ oc j ∧ ∀ k, ∀ h : k < (ops j).length, ((cb (ob j)).toList.drop (k * 4)).take 4 = opc (ops j)[k]) (hcv : n ≤ cov) :
    Calls Tryz.prog 32 #[.int .i64 e, .int .i64 (most : Int), .int .i64 (sl : Int), .slice (some ⟨ov, 0, none⟩) n cov] w (CrewPost w E e n most sl ops) := by
  have HL := Lib.hid L
  have hB := L.size
  have HOV := Lib.hid hov
  have HOB := Lib.hid hob
  clear L hov hob
  go_enter Tryz.func32, Tryz.ntmps32
  go_wp2_with fail
  refine (Bd.Cells_any w).mono ?_
  rintro f w1 ⟨rfl, rfl⟩
  go_wp2_with fail
  refine (new_is HL.out sl 85 hs (by omega)).mono ?_
  rintro f w2 ⟨p, bs, bb, rfl, P2, C2, _, _⟩
  have B2 := Lib.hid C2.out
  clear C2
  go_wp2_with fail
  refine (Era_agg w2).mono ?_
  rintro f w3 ⟨rfl, hb3⟩
  have P3 := Lib.hid (P2.out.keep hb3)
  have B3 := Lib.hid (show Below w.heap.size w w3 from B2.out.trans (hb3.mono B2.out.size))
  clear hb3 P2 B2
  go_wp2_with fail
  refine (do_era P3.out hB).mono ?_
  rintro f w4 ⟨v, rfl, P4, C4⟩
  have B4 := Lib.hid (show Below w.heap.size w w4 from B3.out.trans C4.out)
  clear C4 P3 B3
  have hz : ∀ j, j < n → ob j < w.heap.size := fun j hj => (HOB.out j hj).1.lt
  have H4 := Lib.hid ((Cw.none_ P4.out B4.out hB).elders (fun b => (List.range n).any fun j => ob j == b) cb (T := 78) (fun b hb => by
    obtain ⟨j, hj, e⟩ := List.any_eq_true.1 hb
    have e : ob j = b := by simpa using e
    have hj := List.mem_range.1 hj
    subst e
    exact ⟨hz j hj, (HOB.out j hj).1.below B4.out⟩) (by decide) (by decide) (by decide))
  have HO4 : Hid (∀ j, j < n → (fun b => if ((List.range n).any fun j => ob j == b) = true then some (78, cb b) else (none : Option (TypeId × Array Value))) (ob j) = some (78, cb (ob j))) := Lib.hid fun j hj => if_pos (List.any_eq_true.2 ⟨j, List.mem_range.2 hj, by simp⟩)
  generalize (fun b => if ((List.range n).any fun j => ob j == b) = true then some (78, cb b) else (none : Option (TypeId × Array Value))) = bx0 at H4 HO4
  clear hz P4
  go_wp2
  go_loopw [12, 13] (CrRel w E w.heap.size p bs bb (ydSt sl) e n most ops ob oc cb) (fun _ i _ => n - (intOf i).toNat)
  case atStart =>
    have hn0 : bx0 w4.heap.size = none := H4.out.fresh_none
    refine ⟨0, _, fun _ => 0, fun _ => 0, by omega, rfl, H4.out.new 83 #[] (by decide) (by decide) (by decide), .inr ⟨w4.heap.size, 0, #[], rfl, B4.out.size, Bx.put_self .., Nat.le_refl _, by simp [maxLen], rfl, rfl⟩, fun j hj => absurd hj (Nat.not_lt_zero j), fun j _ hj => absurd hj (Nat.not_lt_zero j), fun j hj => ?_⟩
    rw [Bx.put_ne _ _ _ (fun e => by have h := HO4.out j hj; rw [e, hn0] at h; cases h)]
    exact HO4.out j hj
  case round =>
    obtain ⟨i, bx, r, g, hi, rfl, hcw, hls, hwk, hgn, hbo⟩ := hrel
    obtain ⟨wo, rfl⟩ : ∃ wo : World, wo = wr := ⟨_, rfl⟩
    have HC := Lib.hid hcw
    have HLS := Lib.hid hls
    have HW := Lib.hid hwk
    have HG := Lib.hid hgn
    have HBO := Lib.hid hbo
    clear hcw hls hwk hgn hbo H4 HO4 B4
    by_cases hlt : i < n
    · have j1 : (i : Int) < n := by omega
      go_wp2_with fail
      refine (New_is e i n most he hn hlt hno wo).mono ?_
      rintro f w5 ⟨rfl, R5, C5⟩
      have hcx : w5.cell? ⟨ov, i, none⟩ = some (.slice (some ⟨ob i, 0, none⟩) (ops i).length (oc i)) := by
        have h := HOV.out i hlt
        exact keep_cell (C5.out) ((HC.out.of.1.cell (p := ⟨ov, i, none⟩) (lt_of_cell h)).trans h)
      have hzo : ov < w5.heap.size := lt_of_cell hcx
      have H5 := Lib.hid (show Cw w5 w E w.heap.size p bs bb (ydSt sl) (rsOf (i + 1) (upd r i wo.heap.size) (wNew e n most ops)) bx from by
        have := HC.out.add R5.out C5.out
        rw [← rsOf_succ]
        exact this)
      have h5n : bx w5.heap.size = none := H5.out.fresh_none
      have H6 := Lib.hid (H5.out.new 88 (wkc wo.heap.size (.slice (some ⟨ob i, 0, none⟩) (ops i).length (oc i)) (.pointer none) false (.slice none 0 0)).toArray (by decide) (by decide) (by decide))
      have HL6 := Lib.hid (HLS.out.puts (g := w5.heap.size) (T := 88) (cs := (wkc wo.heap.size (.slice (some ⟨ob i, 0, none⟩) (ops i).length (oc i)) (.pointer none) false (.slice none 0 0)).toArray) h5n)
      have H5N := Lib.hid h5n
      obtain ⟨i0, hi0, hz0, hs0, hy0⟩ := info_parts infoWk
      have HLT := Lib.hid hlt
      have HB5 := Lib.hid H5.out.of.2
      clear h5n R5 C5 HC
      have hll : ((List.range i).map g).length = i := by simp
      go_wp2_with (at_builtin; refine Sv.wpList_append_row _ (c := gcc) (k := 1) (fun _ => rfl) (by decide) gcc_one rfl _ _ 80 rfl w.heap.size 83 i0 (.pointer none) 8 Tryz.underlying80 hi0 hz0 hs0 hy0 rfl u12 ((List.range i).map g).length _ (by rfl) (HL6.out.own (H6.out.alloc _)) (.slice (some ⟨w5.heap.size + 1, 0, none⟩) 1 1) [w5.heap.size] (by rfl) (.inr ⟨w5.heap.size + 1, 0, 1, rfl, ?c1, Nat.le_refl 1, fun k hk => ?c2⟩) ?c3 ?c4 ?c5 ?_)
      case c1 => simp only [World.size_alloc]; omega
      case c2 =>
        obtain rfl : k = 0 := by simp at hk; omega
        have := BlkW.new (w5.alloc (.cells (wkc wo.heap.size (.slice (some ⟨ob i, 0, none⟩) (ops i).length (oc i)) (.pointer none) false (.slice none 0 0)).toArray 88)) 83 (gcc w5.heap.size).toArray
        rw [World.size_alloc] at this
        exact blkA_range this 0 _ (by kernel_rfl)
      case c3 => simp [maxLen]; omega
      case c4 => simp; omega
      case c5 => have := HB5.out; simp only [World.size_alloc]; omega
      intro v' w6 hap
      obtain ⟨ao1, cp1, ev1⟩ := Sv.own_slice hap.1
      have hap' : Sv.AppPost ((w5.alloc (.cells (wkc wo.heap.size (.slice (some ⟨ob i, 0, none⟩) (ops i).length (oc i)) (.pointer none) false (.slice none 0 0)).toArray 88)).alloc (.cells (gcc w5.heap.size).toArray 83)) gcc 1 w.heap.size 83 u12 ((List.range i).map g).length (Sv.flat gcc ((List.range i).map g)) [w5.heap.size] v' w6 := by rw [hll]; exact hap
      obtain ⟨bx3, hc3, hs3, hk3⟩ := (H6.out.alloc _).appendedL HL6.out hap'
      have HC3 := Lib.hid hc3
      have HS3 := Lib.hid (show LstAt bx3 w.heap.size v' ((List.range (i + 1)).map (upd g i w5.heap.size)) from by rw [← rangeMap_succ]; exact hs3)
      have hgs : ∀ j, j < i → g j ≠ w5.heap.size := fun j hj e => by have h := (HW.out j hj).1; rw [e, H5N.out] at h; cases h
      have HW3 : Hid (∀ j, j < i + 1 → bx3 (upd g i w5.heap.size j) = some (88, (wkc (upd r i wo.heap.size j) (.slice (some ⟨ob j, 0, none⟩) (ops j).length (oc j)) (.pointer none) false (.slice none 0 0)).toArray) ∧ w.heap.size ≤ upd g i w5.heap.size j) := Lib.hid fun j hj => by
        by_cases hji : j = i
        · subst hji
          rw [upd_self, upd_self]
          exact ⟨hk3 _ _ (Bx.put_self ..) (HL6.out.own_ne (Bx.put_self ..) (by decide)), HB5.out⟩
        · rw [upd_ne _ _ hji, upd_ne _ _ hji]
          have hj' : j < i := by omega
          have h := (HW.out j hj').1
          have h' : (bx.put w5.heap.size 88 (wkc wo.heap.size (.slice (some ⟨ob i, 0, none⟩) (ops i).length (oc i)) (.pointer none) false (.slice none 0 0)).toArray) (g j) = some _ := (Bx.put_ne _ _ _ (hgs j hj')).trans h
          exact ⟨hk3 _ _ h' (HL6.out.own_ne h' (by decide)), (HW.out j hj').2⟩
      have HG3 : Hid (∀ j k, j < i + 1 → k < i + 1 → j ≠ k → upd g i w5.heap.size j ≠ upd g i w5.heap.size k) := Lib.hid fun j k hj hk hjk => by
        by_cases hji : j = i
        · subst hji
          rw [upd_self, upd_ne _ _ (fun e => hjk e.symm)]
          exact fun e => hgs k (by omega) e.symm
        · by_cases hki : k = i
          · subst hki
            rw [upd_self, upd_ne _ _ hji]
            exact hgs j (by omega)
          · rw [upd_ne _ _ hji, upd_ne _ _ hki]
            exact HG.out j k (by omega) (by omega) hjk
      have HBO3 : Hid (∀ j, j < n → bx3 (ob j) = some (78, cb (ob j))) := Lib.hid fun j hj => by
        have h := HBO.out j hj
        have h' : (bx.put w5.heap.size 88 (wkc wo.heap.size (.slice (some ⟨ob i, 0, none⟩) (ops i).length (oc i)) (.pointer none) false (.slice none 0 0)).toArray) (ob j) = some _ := (Bx.put_ne _ _ _ (fun e => by rw [e, H5N.out] at h; cases h)).trans h
        exact hk3 _ _ h' (HL6.out.own_ne h' (by decide))
      generalize upd g i w5.heap.size = g' at HS3 HW3 HG3
      generalize upd r i wo.heap.size = r' at HC3 HW3
      clear hap hap' hc3 hs3 hk3 hgs H5 H6 HL6 H5N HB5 HW HG HBO HLS hcx hzo hll hi0 hz0 hs0 hy0
      subst ev1
      go_wp2
      refine ⟨⟨i + 1, bx3, r', g', by omega, by go_num, HC3.out, HS3.out, HW3.out, HG3.out, HBO3.out⟩, by simp [intOf]; omega⟩
    · obtain rfl : n = i := by omega
      have j1 : ¬ ((n : Int) < n) := by omega
      rcases HLS.out with ⟨_, e0⟩ | ⟨lb, cap, cur, rfl, hge, hblk, hnc, hcm, hcs, htk⟩
      · simp at e0; omega
      · have hll : ((List.range n).map g).length = n := by simp
        rw [hll] at hnc htk ⊢
        have HCR : Hid (CrewOn wo w E w.heap.size p bs bb (ydSt sl) n g lb (wNew e n most ops)) := by
          refine Lib.hid ⟨r, ob, oc, fun j b => b = g j, bx, HC.out, fun j hj => ?_, fun j k hj hk hjk b e1 e2 => HG.out j k hj hk hjk (e1.symm.trans e2), fun j k hj hk e => ?_, fun j hj b e => (by rw [e, (HW.out j hj).1]; exact (fun h => (by cases h))), ⟨cur, hblk, fun j hj => ?_⟩, fun j hj e => ?_⟩
          · obtain ⟨h1, h2⟩ := HW.out j hj
            obtain ⟨o1, o2, o3⟩ := HOB.out j hj
            refine ⟨none, .slice none 0 0, h1, h2, rfl, fun e => ?_, o2, ⟨_, _, HBO.out j hj, o3⟩, .inl ⟨rfl, rfl⟩, .inl ⟨rfl, rfl⟩, fun b e => by simp [Value.ownBlock] at e⟩
            rw [← e, HBO.out j hj] at h1
            injection h1 with h1
            injection h1 with h1
            exact absurd h1 (by decide)
          · have e : ob k = g j := e
            have h := (HW.out j hj).1
            rw [← e, HBO.out k hk] at h
            injection h with h
            injection h with h
            exact absurd h (by decide)
          · have h1 : (cur.toList.take (n * 1))[j]? = some (.pointer (some ⟨g j, 0, none⟩)) := by
              rw [htk]
              have := Sv.flat_at (c := gcc) (k := 1) (fun _ => rfl) ((List.range n).map g) j 0 (by simpa using hj) (by omega)
              simp only [Nat.mul_one, Nat.add_zero] at this
              rw [this]
              simp [gcc]
            rw [List.getElem?_take_of_lt (by omega)] at h1
            simpa using h1
          · have e : lb = g j := e
            have h := (HW.out j hj).1
            rw [← e, hblk] at h
            injection h with h
            injection h with h
            exact absurd h (by decide)
        have HBB := Lib.hid HC.out.of.1
        clear HC HW HG HBO HLS hblk htk
        go_wp2
        refine bodyPost_ret (v := .tuple #[.pointer (some ⟨p, 0, none⟩), .slice (some ⟨lb, 0, none⟩) n cap]) (by simp [results, Tryz.results32, go_sem]) rfl ?_
        exact ⟨p, bs, bb, g, lb, cap, rfl, hnc, HCR, HBB⟩
end Go.Proofs.YtihjklimcchkhaaGreatDoor
