/- What single accesses do, as plain data. A template (fill.py). -/
/- The yard that is laid: a plot, and mourners with new rites. A template (fill.py). -/
import Derived.Test.YtihjklimcchkhaaGreatDoorWDM
import Derived.Test.YtihjklimcchkhaaGreatDoorTb
import Derived.LoopTactic
import Derived.OwnWalk
import Derived.Deep.Cut
namespace Go.Proofs.YtihjklimcchkhaaGreatDoor
def St.tick (t : St) : St := { t with steps := t.steps + 1 }
theorem step_cell {t : St} {a : Ac} {l : Loc} (hk : a.kind = 1 ∨ a.kind = 2 ∨ a.kind = 3) (hl : t.loc a.s a.g a.f = some l) (hm : t.miss a.s a.g .freed = none) : t.step a = t.tick.touch l a := by
  unfold St.step St.act
  have hw : ({ t with steps := t.steps + 1 } : St).wrong a = none := by
    unfold St.wrong
    rw [if_neg (by omega), if_neg (by omega)]
    exact hm
  have hl' : ({ t with steps := t.steps + 1 } : St).loc a.s a.g a.f = some l := hl
  rw [hw]
  simp only []
  rw [if_neg (by omega), if_neg (by omega), hl']
  rfl
theorem step_give {t : St} {a : Ac} (hk : a.kind = 4) : t.step a = t.tick.give a.new.num := by
  unfold St.step St.act
  have hw : ({ t with steps := t.steps + 1 } : St).wrong a = none := by
    unfold St.wrong
    rw [if_pos hk]
  rw [hw]
  simp only []
  rw [if_pos hk]
  rfl
theorem can_cell (t : St) (a : Ac) (hk : a.kind = 1 ∨ a.kind = 2 ∨ a.kind = 3) (l : Loc) (hl : t.loc a.s a.g a.f = some l) : t.can a = true := by
  unfold St.can; rw [if_pos hk, hl]; rfl
theorem loc_board (t : St) (f : Nat) (hf : f < t.m) : t.loc 0 0 (f : Int) = some (.board f) := by
  unfold St.loc
  rw [if_pos ⟨rfl, rfl⟩, if_pos (by omega)]
  congr 2
theorem miss_board (t : St) (g : Int) (x : Flt) : t.miss 0 g x = none := by
  unfold St.miss
  rw [if_neg (by omega)]

/-! ### PlotReborn -/
structure Rb (t : St) (k : Nat) : Prop where
  n : t.n = 1
  m : t.m = 0
  free : t.free = []
  given : (t.slot 0).given = true
  gen : (t.slot 0).gen = 1
  fault : t.fault = none
  steps : t.steps = k
end Go.Proofs.YtihjklimcchkhaaGreatDoor

namespace Go.Proofs.YtihjklimcchkhaaGreatDoor
open Go.RowKit Go.Extern.Stop Go.Stop Go.Extern Go.Sort
/-- A yard whose row of mourners isn't done. -/
structure YL (W : World) (E : Flt → Addr) (B p bs bb : Nat) (t : St) (ts : List Th) : Prop where
  plot : PlotAt W E B p bs bb t
  mo : ∀ x, x ∈ ts → BlkW W x.b 36 (moc x.r x.mo).toArray
  rite : ∀ x, x ∈ ts → RiteIs W B x.r x.m x.K
  typed : ∀ x, x ∈ ts → Typed W x.K
  low : ∀ x, x ∈ ts → B ≤ x.b ∧ ¬ x.K bb
  own : ∀ x, x ∈ ts → ∀ y, y ∈ ts → ¬ y.K x.b
  apart : ts.Pairwise fun x y => x.b ≠ y.b ∧ ∀ b, ¬ (x.K b ∧ y.K b)
  hB : 9 ≤ B
section
variable {W W' : World} {E : Flt → Addr} {B p bs bb : Nat} {t : St} {ts : List Th}
theorem Typed.below {K : Nat → Prop} (h : Typed W K) (hb : Below W.heap.size W W') : Typed W' K := fun b hk => by
  obtain ⟨T, cs, h1, h2⟩ := h b hk
  exact ⟨T, cs, h1.below hb, h2⟩
theorem YL.start (h : PlotAt W E B p bs bb t) (hB : 9 ≤ B) : YL W E B p bs bb t [] :=
  ⟨h, fun _ hx => (by cases hx), fun _ hx => (by cases hx), fun _ hx => (by cases hx), fun _ hx => (by cases hx), fun _ hx => (by cases hx), .nil, hB⟩
theorem YL.below (h : YL W E B p bs bb t ts) (hb : Below W.heap.size W W') : YL W' E B p bs bb t ts :=
  ⟨h.plot.keep hb, fun x hx => (h.mo x hx).below hb, fun x hx => (h.rite x hx).below hb, fun x hx => (h.typed x hx).below hb, h.low, h.own, h.apart, h.hB⟩
/-- The row of mourners grows. -/
theorem YL.grown {v : Value} {n : Nat} {xs : List Value} (h : YL W E B p bs bb t ts) (hrow : W.ownsRow B 30 1 v n xs) (hg : W.grownBy W' v.ownBlock) : YL W' E B p bs bb t ts := by
  have ho : Off (fun j => v.ownBlock = some j) W W' := (Off.refl _ W).grown hg (fun k e => .inl e)
  have hT : ∀ j, v.ownBlock = some j → ∃ cs, BlkW W j 30 cs := fun j e => by
    rcases hrow.2 with ⟨rfl, _⟩ | ⟨g, cap, cur, rfl, _, hh, _⟩
    · simp [Value.ownBlock] at e
    · have e : g = j := by simpa [Value.ownBlock] using e
      subst e
      exact ⟨cur, hh⟩
  have ne : ∀ {g : Nat} {T : TypeId} {cs : Array Value}, BlkW W g T cs → T ≠ 30 → ¬ v.ownBlock = some g := fun hb hne e => by
    obtain ⟨cs', hb'⟩ := hT _ e
    exact BlkW.ne_ hb hb' hne rfl
  refine ⟨?_, fun x hx => ho.blk (h.mo x hx) (ne (h.mo x hx) (by decide)), fun x hx => (h.rite x hx).off ho fun b e k => ?_, fun x hx b hk => ?_, h.low, h.own, h.apart, h.hB⟩
  · obtain ⟨⟨v1, fv, hq⟩, o, L⟩ := h.plot
    obtain ⟨cs, hs, _⟩ := hq.slots.blk
    obtain ⟨cb, hbd, _⟩ := hq.brd.blk
    have hbel : Below B W W' := ho.below (fun j e => (hrow.lt j e).1) hq.base_lt
    refine ⟨⟨v1, fv, ⟨ho.blk hq.hp (ne hq.hp (by decide)), hq.slots.block (ho.block _ hq.lt.2.1 (ne hs (by decide))), hq.brd.block (ho.block _ hq.lt.2.2 (ne hbd (by decide))), own_off hq.free ho (fun g e k => ?_), hq.fault.keep (fun g cs hk => ho.block g hk.lt (ne hk (by decide))), hq.bp, hq.bbs, hq.bbb⟩⟩, o, L.below hbel h.hB⟩
    obtain ⟨cs', hb'⟩ := hT g k
    exact own_ne hq.free hb' (by decide) e
  · obtain ⟨T, cs, h1, h2⟩ := h.typed x hx b e
    exact ne h1 (by rcases h2 with rfl | rfl | rfl <;> decide) k
  · obtain ⟨T, cs, h1, h2⟩ := h.typed x hx b hk
    exact ⟨T, cs, ho.blk h1 (ne h1 (by rcases h2 with rfl | rfl | rfl <;> decide)), h2⟩
/-- One more mourner, whose rite and own block are new. -/
theorem YL.add (h : YL W E B p bs bb t ts) (hb : Below W.heap.size W W') {x : Th} (hm : BlkW W' x.b 36 (moc x.r x.mo).toArray) (hr : RiteIs W' B x.r x.m x.K) (ht : Typed W' x.K) (hbx : W.heap.size ≤ x.b) (hkx : ∀ b, x.K b → W.heap.size ≤ b) (hself : ¬ x.K x.b) : YL W' E B p bs bb t (ts ++ [x]) := by
  have hbase := plot_base h.plot
  have hbb := plot_bb h.plot
  have h' := h.below hb
  have mem : ∀ {y : Th}, y ∈ ts ++ [x] → y ∈ ts ∨ y = x := fun hy => by simpa using hy
  have lt : ∀ y, y ∈ ts → y.b < W.heap.size := fun y hy => (h.mo y hy).lt
  have klt : ∀ y, y ∈ ts → ∀ b, y.K b → b < W.heap.size := fun y hy b e => ((h.rite y hy).low b e).2
  refine ⟨h'.plot, fun y hy => ?_, fun y hy => ?_, fun y hy => ?_, fun y hy => ?_, fun y hy z hz => ?_, ?_, h.hB⟩
  · rcases mem hy with hy | rfl
    · exact h'.mo y hy
    · exact hm
  · rcases mem hy with hy | rfl
    · exact h'.rite y hy
    · exact hr
  · rcases mem hy with hy | rfl
    · exact h'.typed y hy
    · exact ht
  · rcases mem hy with hy | rfl
    · exact h'.low y hy
    · exact ⟨by omega, fun e => by have := hkx _ e; omega⟩
  · rcases mem hy with hy | hy <;> rcases mem hz with hz | hz
    · exact h.own y hy z hz
    · intro e; rw [hz] at e; have := hkx _ e; have := lt y hy; omega
    · intro e; rw [hy] at e; have := klt z hz _ e; omega
    · rw [hy, hz]; exact hself
  · refine List.pairwise_append.2 ⟨h.apart, List.pairwise_singleton _ _, fun y hy z hz => ?_⟩
    obtain rfl : z = x := by simpa using hz
    exact ⟨fun e => by have := lt y hy; omega, fun b e => by have := klt y hy b e.1; have := hkx b e.2; omega⟩
/-- The row is done. -/
theorem YL.done (h : YL W E B p bs bb t ts) {g : Nat} {gc : Array Value} (hg : BlkW W g 30 gc) : Yd W E B p bs bb t (ts.map fun x => { x with g := g, gc := gc }) := by
  have mem : ∀ {y : Th}, y ∈ ts.map (fun x => { x with g := g, gc := gc }) → ∃ x, x ∈ ts ∧ y = { x with g := g, gc := gc } := fun hy => by
    obtain ⟨x, hx, e⟩ := List.mem_map.1 hy
    exact ⟨x, hx, e.symm⟩
  refine ⟨h.plot, fun y hy => ?_, fun y hy => ?_, fun y hy => ?_, fun y hy z hz => ?_, ?_, h.hB, fun y hy => ?_⟩
  · obtain ⟨x, hx, rfl⟩ := mem hy; exact h.mo x hx
  · obtain ⟨x, hx, rfl⟩ := mem hy; exact h.rite x hx
  · obtain ⟨x, hx, rfl⟩ := mem hy; exact h.low x hx
  · obtain ⟨x, hx, rfl⟩ := mem hy
    obtain ⟨x', hx', rfl⟩ := mem hz
    exact h.own x hx x' hx'
  · exact List.pairwise_map.2 h.apart
  · obtain ⟨x, hx, rfl⟩ := mem hy; exact hg
end
/-- The plot of a yard, whose clock begins at 1. -/
def ydSt (slots : Nat) : St := ((St.new slots 85).step ⟨2, 0, 0, ((24 : Nat) : Int), zw, nw 1⟩).1
theorem era_can (slots : Nat) : (St.new slots 85).can ⟨2, 0, 0, ((24 : Nat) : Int), zw, nw 1⟩ = true := by
  refine can_cell _ _ (.inr (.inl rfl)) (.board 24) (loc_board _ 24 (by show 24 < 85; omega))
theorem Era_agg (w : World) : Calls Tryz.prog 48 #[] w fun e w' => e = .returned (.agg #[.int .i64 0, .int .i64 0, .int .i64 24]) ∧ Below w.heap.size w w' := Bd.Era_any w
theorem do_era {w : World} {E : Flt → Addr} {B p bs bb slots : Nat} (h : PlotAt w E B p bs bb (St.new slots 85)) (hB : 9 ≤ B) :
    Calls Tryz.prog 26 #[.pointer (some ⟨p, 0, none⟩), .agg #[.int .i64 2, .int .i64 0, .int .i64 0, .int .i64 24, .int .i64 0, .int .i64 0, .int .i64 0, .int .i64 0, .bool false, .int .i64 0, .int .i64 0, .int .i64 0, .int .i64 1, .bool false]] w fun e w' => ∃ v, e = .returned (.tuple #[v, .nilIface]) ∧ Hid (PlotAt w' E B p bs bb (ydSt slots)) ∧ Hid (Below B w w') :=
  (do_is h hB (by show 0 < 900000; decide) ⟨2, 0, 0, ((24 : Nat) : Int), zw, nw 1⟩ (era_can slots)).mono fun e w' ⟨he, h1, h2, _⟩ => ⟨_, he, h1, h2⟩
end Go.Proofs.YtihjklimcchkhaaGreatDoor
