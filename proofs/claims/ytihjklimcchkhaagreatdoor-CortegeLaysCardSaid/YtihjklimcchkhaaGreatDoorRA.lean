/- A plot and rites beside each other: what one turns leaves the others as they were. A template (fill.py). -/
/- A yard: a plot, and mourners with their rites, in one world; what one of them turns leaves the others as they were. A template (fill.py). -/
/- goOn and Begin by Hazard, at every state that a mourner's rite comes to: they do what the plain rite does. A template (fill.py). -/
/- Begin, Took, Next, Busy, Reply of a mourner's rite in a yard. A template (fill.py). -/
import Derived.Test.YtihjklimcchkhaaGreatDoorRs
namespace Go.Proofs.YtihjklimcchkhaaGreatDoor
open Go.RowKit Go.Extern.Stop Go.Stop Go.Extern Go.Sort
/-- Blocks of the types that a rite's have. -/
def Typed (w : World) (K : Nat → Prop) : Prop := ∀ b, K b → ∃ T cs, BlkW w b T cs ∧ (T = 126 ∨ T = 34 ∨ T = 74)
section
variable {w w' : World} {B r p bs bb : Nat} {sv fv nv : Value} {m : Rt} {K K' : Nat → Prop} {E : Flt → Addr} {t : St}
/-- The blocks that a rite has now. -/
def Foot (r : Nat) (sv fv nv : Value) (m : Rt) (b : Nat) : Prop := b = r ∨ sv.ownBlock = some b ∨ nv.ownBlock = some b ∨ (m.st.free ≠ [] ∧ fv.ownBlock = some b)
theorem RiteP.foot_sub (h : RiteP w B r sv fv nv m K) : ∀ b, Foot r sv fv nv m b → K b := by
  rintro b (rfl | e | e | ⟨hn, e⟩)
  · exact h.kr
  · exact h.ks b e
  · exact h.kn b e
  · exact h.kf.elim (fun k => absurd k hn) (fun k => k b e)
theorem RiteP.exact (h : RiteP w B r sv fv nv m K) : RiteP w B r sv fv nv m (Foot r sv fv nv m) :=
  ⟨h.at_, h.said, h.notes, h.free, .inl rfl, fun b e => .inr (.inl e), fun b e => .inr (.inr (.inl e)), by
    by_cases hn : m.st.free = []
    · exact .inl hn
    · exact .inr fun b e => .inr (.inr (.inr ⟨hn, e⟩)), fun b hb => h.low b (h.foot_sub b hb)⟩
theorem RiteP.typed (h : RiteP w B r sv fv nv m K) : Typed w (Foot r sv fv nv m) := by
  rintro b (rfl | e | e | ⟨hn, e⟩)
  · exact ⟨_, _, h.at_, .inl rfl⟩
  · rcases h.said.2 with ⟨rfl, _⟩ | ⟨g, cap, cur, rfl, _, hh, _⟩
    · simp [Value.ownBlock] at e
    · have e : g = b := by simpa [Value.ownBlock] using e
      subst e
      exact ⟨_, _, hh, .inr (.inl rfl)⟩
  · rcases h.notes.2 with ⟨rfl, _⟩ | ⟨g, cap, cur, rfl, _, hh, _⟩
    · simp [Value.ownBlock] at e
    · have e : g = b := by simpa [Value.ownBlock] using e
      subst e
      exact ⟨_, _, hh, .inr (.inr rfl)⟩
  · rcases h.free with ⟨_, k⟩ | ⟨g, off, cap, cs, ev, _, _, hh, _, _⟩
    · exact absurd k hn
    · rw [ev] at e
      have e : g = b := by simpa [Value.ownBlock] using e
      subst e
      exact ⟨_, _, hh, .inr (.inr rfl)⟩
theorem typed_ne {b : Nat} {T : TypeId} {cs : Array Value} (hK : Typed w K) (hb : BlkW w b T cs) (h1 : T ≠ 126) (h2 : T ≠ 34) (h3 : T ≠ 74) : ¬ K b := by
  intro k
  obtain ⟨T', cs', hb', ht⟩ := hK b k
  unfold BlkW at hb hb'
  rw [hb] at hb'
  injection hb' with hb'
  injection hb' with _ e
  rcases ht with e' | e' | e' <;> subst e'
  · exact h1 e
  · exact h2 e
  · exact h3 e
/-- What a rite turns leaves the plot as it was. -/
theorem PlotAt.rite (h : PlotAt w E B p bs bb t) (hB : 9 ≤ B) (ho : Off K w w') (hK : Typed w K) (hb : ¬ K bb) (hl : ∀ b, K b → B ≤ b) : PlotAt w' E B p bs bb t := by
  obtain ⟨⟨v, fv, h⟩, o, L⟩ := h
  obtain ⟨cs, hs, _⟩ := h.slots.blk
  have np : ¬ K p := typed_ne hK h.hp (by decide) (by decide) (by decide)
  have ns : ¬ K bs := typed_ne hK hs (by decide) (by decide) (by decide)
  have hbel : Below B w w' := ho.below hl h.base_lt
  refine ⟨⟨v, fv, ⟨ho.blk h.hp np, h.slots.block (ho.block _ h.lt.2.1 ns), h.brd.block (ho.block _ h.lt.2.2 hb), ?_, h.fault.keep (fun b cs hk => ho.block b hk.lt (typed_ne hK hk (by decide) (by decide) (by decide))), h.bp, h.bbs, h.bbb⟩⟩, o, L.below hbel hB⟩
  refine own_off h.free ho fun b e => ?_
  rcases h.free.2 with ⟨rfl, _⟩ | ⟨g, cap, cur, rfl, _, hh, _⟩
  · simp [Value.ownBlock] at e
  · have e : g = b := by simpa [Value.ownBlock] using e
    subst e
    exact typed_ne (T := 3) (cs := cur) hK hh (by decide) (by decide) (by decide)
/-- What the plot turns leaves a rite as it was. -/
theorem RiteP.plot (h : RiteP w B r sv fv nv m K) (hp : PlotAt w E B p bs bb t) (hk : Kept p bs bb w w') (hb : Below B w w') (hs : w.heap.size ≤ w'.heap.size) (hbb : ¬ K bb) : RiteP w' B r sv fv nv m K := by
  have ho : Off (fun j => ¬ Foot r sv fv nv m j) w w' := ⟨hb.os, hb.tape, hb.output, hs, fun j hj hn => by
    have hf : Foot r sv fv nv m j := Classical.not_not.1 hn
    obtain ⟨T, cs, hbl, ht⟩ := h.typed j hf
    obtain ⟨⟨v, fv', hq⟩, _⟩ := hp
    obtain ⟨c1, b1, _⟩ := hq.slots.blk
    refine hk j hj ?_ ?_ ?_ ?_
    · refine hbl.ne_ hq.hp ?_
      rcases ht with rfl | rfl | rfl <;> decide
    · refine hbl.ne_ b1 ?_
      rcases ht with rfl | rfl | rfl <;> decide
    · rintro rfl; exact hbb (h.foot_sub _ hf)
    · intro cs' fr e
      unfold BlkW at hbl
      rw [hbl] at e
      injection e with e
      injection e with _ e
      rcases ht with rfl | rfl | rfl <;> exact absurd e (by decide)⟩
  have h1 := h.exact.off ho (fun b hb' hn => hn hb')
  exact ⟨h1.at_, h1.said, h1.notes, h1.free, h.kr, h.ks, h.kn, h.kf, fun b hb' => ⟨(h.low b hb').1, Nat.lt_of_lt_of_le (h.low b hb').2 hs⟩⟩
end
end Go.Proofs.YtihjklimcchkhaaGreatDoor

namespace Go.Proofs.YtihjklimcchkhaaGreatDoor
open Go.RowKit Go.Extern.Stop Go.Stop Go.Extern Go.Sort
/-- A mourner: where it lies, its rite, and the rite's blocks. -/
structure Th where
  b : Nat
  r : Nat
  m : Rt
  mo : Mo
  K : Nat → Prop
  /-- The row of all mourners: its block, and its cells. -/
  g : Nat
  gc : Array Value
def moc (r : Nat) (mo : Mo) : List Value := .pointer (some ⟨r, 0, none⟩) :: .int .i64 (mo.pc : Int) :: (wc mo.old ++ (wc mo.node ++ [.bool mo.bad, .bool mo.stop]))
structure Yd (W : World) (E : Flt → Addr) (B p bs bb : Nat) (t : St) (ts : List Th) : Prop where
  plot : PlotAt W E B p bs bb t
  mo : ∀ x, x ∈ ts → BlkW W x.b 36 (moc x.r x.mo).toArray
  rite : ∀ x, x ∈ ts → RiteIs W B x.r x.m x.K
  low : ∀ x, x ∈ ts → B ≤ x.b ∧ ¬ x.K bb
  own : ∀ x, x ∈ ts → ∀ y, y ∈ ts → ¬ y.K x.b
  apart : ts.Pairwise fun x y => x.b ≠ y.b ∧ ∀ b, ¬ (x.K b ∧ y.K b)
  hB : 9 ≤ B
  row : ∀ x, x ∈ ts → BlkW W x.g 30 x.gc
section
variable {W W' : World} {E : Flt → Addr} {B p bs bb : Nat} {t : St} {ts : List Th}
theorem RiteIs.below {r : Nat} {m : Rt} {K : Nat → Prop} (h : RiteIs W B r m K) (hb : Below W.heap.size W W') : RiteIs W' B r m K := by
  obtain ⟨sv, fv, nv, h⟩ := h
  exact ⟨sv, fv, nv, h.below hb⟩
theorem RiteIs.off {r : Nat} {m : Rt} {K K' : Nat → Prop} (h : RiteIs W B r m K) (ho : Off K' W W') (hn : ∀ b, K b → ¬ K' b) : RiteIs W' B r m K := by
  obtain ⟨sv, fv, nv, h⟩ := h
  exact ⟨sv, fv, nv, h.off ho hn⟩
theorem RiteIs.low {r : Nat} {m : Rt} {K : Nat → Prop} (h : RiteIs W B r m K) : ∀ b, K b → B ≤ b ∧ b < W.heap.size := by
  obtain ⟨sv, fv, nv, h⟩ := h
  exact h.low
theorem Yd.below (h : Yd W E B p bs bb t ts) (hb : Below W.heap.size W W') : Yd W' E B p bs bb t ts :=
  ⟨h.plot.keep hb, fun x hx => (h.mo x hx).below hb, fun x hx => (h.rite x hx).below hb, h.low, h.own, h.apart, h.hB, fun x hx => (h.row x hx).below hb⟩
/-- An access of the plot's. -/
theorem Yd.access {t' : St} (h : Yd W E B p bs bb t ts) (hp : PlotAt W' E B p bs bb t') (hb : Below B W W') (hk : Kept p bs bb W W') (hs : W.heap.size ≤ W'.heap.size) : Yd W' E B p bs bb t' ts := by
  refine ⟨hp, fun x hx => ?_, fun x hx => ?_, h.low, h.own, h.apart, h.hB, fun x hx => ?_⟩
  · have hm := h.mo x hx
    refine hk.blk h.plot hm (by decide) (by decide) ?_ (by decide)
    obtain ⟨⟨v, fv, hq⟩, _⟩ := h.plot
    obtain ⟨cb, hbb, _⟩ := hq.brd.blk
    exact hm.ne_ hbb (by decide)
  · obtain ⟨sv, fv, nv, hr⟩ := h.rite x hx
    exact ⟨sv, fv, nv, hr.plot h.plot hk hb hs (h.low x hx).2⟩
  · have hm := h.row x hx
    refine hk.blk h.plot hm (by decide) (by decide) ?_ (by decide)
    obtain ⟨⟨v, fv, hq⟩, _⟩ := h.plot
    obtain ⟨cb, hbb, _⟩ := hq.brd.blk
    exact hm.ne_ hbb (by decide)
theorem pw_set {α : Type} {R : α → α → Prop} (hsym : ∀ a b, R a b → R b a) {l : List α} (h : l.Pairwise R) {i : Nat} {y : α} (hy : ∀ j, ∀ hj : j < l.length, j ≠ i → R y l[j]) : (l.set i y).Pairwise R := by
  rw [List.pairwise_iff_getElem] at h ⊢
  intro a b ha hb hab
  rw [List.length_set] at ha hb
  rw [List.getElem_set, List.getElem_set]
  by_cases e1 : i = a
  · subst e1
    rw [if_pos rfl, if_neg (by omega)]
    exact hy b hb (by omega)
  · rw [if_neg e1]
    by_cases e2 : i = b
    · subst e2
      rw [if_pos rfl]
      exact hsym _ _ (hy a ha (by omega))
    · rw [if_neg e2]
      exact h a b ha hb hab
theorem Yd.ne_of (h : Yd W E B p bs bb t ts) {i j : Nat} (hi : i < ts.length) (hj : j < ts.length) (hn : i ≠ j) : ts[i].b ≠ ts[j].b ∧ ∀ b, ¬ (ts[i].K b ∧ ts[j].K b) := by
  have hp := List.pairwise_iff_getElem.1 h.apart
  rcases Nat.lt_or_ge i j with hlt | hge
  · exact hp i j hi hj hlt
  · have := hp j i hj hi (by omega)
    exact ⟨fun e => this.1 e.symm, fun b e => this.2 b ⟨e.2, e.1⟩⟩
/-- A step of a mourner's rite, by the blocks that it has now. -/
theorem Yd.ritestep (h : Yd W E B p bs bb t ts) {i : Nat} (hi : i < ts.length) {m' : Rt} {sv fv nv : Value} (hr : RiteP W B ts[i].r sv fv nv ts[i].m ts[i].K) (hs : RStep W B ts[i].r (Foot ts[i].r sv fv nv ts[i].m) m' W') :
    ∃ K', Yd W' E B p bs bb t (ts.set i { ts[i] with m := m', K := K' }) ∧ Below B W W' := by
  obtain ⟨K', h1, ho, hk⟩ := hs
  have hty := hr.typed
  have hsub := hr.foot_sub
  have hlow := hr.low
  have hlo := h.low ts[i] (List.getElem_mem hi)
  have hbbz : bb < W.heap.size := by
    obtain ⟨⟨v, fv', hq⟩, _⟩ := h.plot
    exact hq.brd.lt
  have old : ∀ b, b < W.heap.size → K' b → ts[i].K b := fun b hb e => by
    rcases hk b e with k | k
    · exact hsub b k
    · omega
  have hmem : ∀ x, x ∈ ts.set i { ts[i] with m := m', K := K' } → (∃ j, ∃ hj : j < ts.length, j ≠ i ∧ x = ts[j]) ∨ x = { ts[i] with m := m', K := K' } := fun x hx => by
    obtain ⟨j, hj, e⟩ := List.getElem_of_mem hx
    rw [List.getElem_set] at e
    rw [List.length_set] at hj
    by_cases hji : i = j
    · rw [if_pos hji] at e; exact .inr e.symm
    · rw [if_neg hji] at e; exact .inl ⟨j, hj, fun k => hji k.symm, e.symm⟩
  have hmoN : ∀ x, x ∈ ts → ¬ Foot ts[i].r sv fv nv ts[i].m x.b := fun x hx e => h.own x hx ts[i] (List.getElem_mem hi) (hsub _ e)
  have hbel : Below B W W' := by
    obtain ⟨⟨v, fv', hq⟩, _⟩ := h.plot
    exact ho.below (fun b e => (hlow b (hsub b e)).1) hq.base_lt
  refine ⟨K', ⟨h.plot.rite h.hB ho hty (fun e => hlo.2 (hsub _ e)) (fun b e => (hlow b (hsub b e)).1), fun x hx => ?_, fun x hx => ?_, fun x hx => ?_, fun x hx y hy => ?_, ?_, h.hB, fun x hx => ?_⟩, hbel⟩
  · rcases hmem x hx with ⟨j, hj, hji, rfl⟩ | rfl
    · exact ho.blk (h.mo _ (List.getElem_mem hj)) (hmoN _ (List.getElem_mem hj))
    · exact ho.blk (h.mo ts[i] (List.getElem_mem hi)) (hmoN ts[i] (List.getElem_mem hi))
  · rcases hmem x hx with ⟨j, hj, hji, rfl⟩ | rfl
    · exact (h.rite _ (List.getElem_mem hj)).off ho fun b e k => (h.ne_of hj hi hji).2 b ⟨e, hsub b k⟩
    · exact h1
  · rcases hmem x hx with ⟨j, hj, hji, rfl⟩ | rfl
    · exact h.low _ (List.getElem_mem hj)
    · exact ⟨hlo.1, fun e => hlo.2 (old bb hbbz e)⟩
  · have hxb : ∃ z, z ∈ ts ∧ x.b = z.b := by
      rcases hmem x hx with ⟨j, hj, _, rfl⟩ | rfl
      · exact ⟨_, List.getElem_mem hj, rfl⟩
      · exact ⟨_, List.getElem_mem hi, rfl⟩
    obtain ⟨z, hz, ez⟩ := hxb
    rw [ez]
    rcases hmem y hy with ⟨j, hj, _, rfl⟩ | rfl
    · exact h.own z hz _ (List.getElem_mem hj)
    · exact fun e => h.own z hz _ (List.getElem_mem hi) (old z.b (h.mo z hz).lt e)
  · refine pw_set (fun a b hab => ⟨fun e => hab.1 e.symm, fun c e => hab.2 c ⟨e.2, e.1⟩⟩) h.apart fun j hj hji => ⟨(h.ne_of hi hj (fun e => hji e.symm)).1, fun b e => ?_⟩
    have hb := ((h.rite _ (List.getElem_mem hj)).low b e.2).2
    exact (h.ne_of hi hj (fun k => hji k.symm)).2 b ⟨old b hb e.1, e.2⟩
  · rcases hmem x hx with ⟨j, hj, hji, rfl⟩ | rfl
    · exact ho.blk (h.row _ (List.getElem_mem hj)) (typed_ne hty (h.row _ (List.getElem_mem hj)) (by decide) (by decide) (by decide))
    · exact ho.blk (h.row ts[i] (List.getElem_mem hi)) (typed_ne hty (h.row ts[i] (List.getElem_mem hi)) (by decide) (by decide) (by decide))
end
end Go.Proofs.YtihjklimcchkhaaGreatDoor

namespace Go.Proofs.YtihjklimcchkhaaGreatDoor
open Go.RowKit Go.Extern.Stop Go.Stop Go.Extern Go.Sort
/-- What a rite by Hazard must be for a contract to speak of it, where its call stands: x is what comes in. -/
def HazOk (m : Rt) (x : Wd × Bool) : Prop :=
  m.eng = 2 ∧ m.me < 6 ∧ (1 ≤ m.thr ∧ m.thr ≤ 6) ∧ m.span = zs ∧ m.notes.length ≤ 200 ∧ m.freed ≤ 100000 ∧
  ((m.st.call.kind = 1 ∧ m.st.done = 0) ∨ m.st.call.kind = 2 ∨
   ((m.st.call.kind = 3 ∨ m.st.call.kind = 4 ∨ m.st.call.kind = 5) ∧ (m.st.done = 0 ∨ m.st.done = 1)) ∨
   (m.st.call.kind = 6 ∧ (0 ≤ m.st.call.i ∧ m.st.call.i ≤ 8) ∧ (m.st.done = 0 ∨ m.st.done = 2 ∨ m.st.done = 1)) ∨
   (m.st.call.kind = 8 ∧ (m.st.done = 0 ∨ m.st.done = 1)) ∨
   (m.st.call.kind = 9 ∧ (m.st.done = 0 ∨ m.st.done = 1)) ∨
   (m.st.call.kind = 10 ∧ m.st.done = 0 ∧ x = (zw, false)) ∨
   (m.st.call.kind = 11 ∧ m.st.done = 0 ∧ m.st.said = []) ∨
   (m.st.call.kind = 11 ∧ m.st.done = 7 ∧ m.st.said.length + 1 < m.thr * 9) ∨
   (m.st.call.kind = 11 ∧ m.st.done = 7 ∧ m.st.said.length + 1 = m.thr * 9 ∧ FreeOk (setFree (setSaid m x.1) ((setSaid m x.1).loose x.1.num))) ∨
   (m.st.call.kind = 11 ∧ m.st.done = 8 ∧ m.st.pos < m.notes.length ∧ FreeOk (m.strike x.2)))
section
variable {w : World} {B r : Nat} {sv fv nv : Value} {m : Rt} {K : Nat → Prop}
theorem scan0_eq {m : Rt} (x : Wd × Bool) (he : m.eng = 2) (hd : m.st.done = 0) (hsa : m.st.said = []) (ht : 1 ≤ m.thr) : m.scan x = (m.setClock x.1).hear := by
  unfold Rt.scan
  rw [if_pos hd, if_neg (by rw [he]; decide), if_neg (by rw [he]; decide)]
  unfold Rt.hearFirst
  have hmore : (m.setClock x.1).more = true := by
    unfold Rt.more
    rw [show (m.setClock x.1).saysWords = true from by unfold Rt.saysWords; rw [show (m.setClock x.1).eng = 2 from he]; rfl, show (m.setClock x.1).st.said = [] from hsa]
    have : 0 < m.thr * 9 := by omega
    simp [show (m.setClock x.1).thr = m.thr from rfl, this]
  show (if (m.setClock x.1).more = true then _ else _) = _
  rw [if_pos hmore]
theorem goOn_haz (h : RiteP w B r sv fv nv m K) (x : Wd × Bool) (ok : HazOk m x) :
    Calls Tryz.prog 56 #[.pointer (some ⟨r, 0, none⟩), rpv x] w (RPost w B r K (m.goOn x)) := by
  obtain ⟨he, hm, ht, hs, hl, hf, hc⟩ := ok
  have hss : m.saysSpan = false := by unfold Rt.saysSpan; rw [he]; rfl
  have hsw : m.saysWords = true := by unfold Rt.saysWords; rw [he]; rfl
  have hce : m.countsEras = false := by unfold Rt.countsEras; rw [he]; rfl
  rcases hc with ⟨hk, hd⟩ | hk | ⟨hk, hd⟩ | ⟨hk, ⟨hi0, hi8⟩, hd⟩ | ⟨hk, hd⟩ | ⟨hk, hd⟩ | ⟨hk, hd, hx⟩ | ⟨hk, hd, hsa⟩ | ⟨hk, hd, hsl⟩ | ⟨hk, hd, hsl, hF⟩ | ⟨hk, hd, hp, hF⟩
  · have e : m.goOn x = m.ok := by simp [Rt.goOn, Rt.enter, hk, hd, hss]
    rw [e]
    exact goOn_enter h x hk fun W h2 => lift_nil h2 (enter_ok h2.at_ x hd hss) rfl rfl rfl
  · have e : m.goOn x = m.leave := by simp [Rt.goOn, hk]
    rw [e]
    refine goOn_leave h x hk fun W h2 => ?_
    cases hq : firstKept m.kept 0 9 with
    | none =>
      have e : m.leave = m.ok := by unfold Rt.leave; rw [hq]; simp [hs]
      rw [e]
      exact lift_nil h2 (leave_ok h2.at_ hq hs) rfl rfl rfl
    | some n =>
      have e : m.leave = m.say n zw := by unfold Rt.leave; rw [hq]
      rw [e]
      exact lift_same h2 (leave_say h2.at_ hm n hq) rfl rfl rfl
  · have e : m.goOn x = m.touch x := by rcases hk with hk | hk | hk <;> simp [Rt.goOn, hk]
    rw [e]
    refine goOn_touch h x hk fun W h2 => ?_
    rcases hd with hd | hd
    · have e : m.touch x = m.ask ⟨1 + m.st.call.kind - 3, m.st.call.s, m.st.call.g, m.st.call.f, m.st.call.old, m.st.call.new⟩ 1 := by unfold Rt.touch; rw [hd]; rfl
      rw [e]
      exact lift_same h2 (touch_ask h2.at_ x hd (1 + m.st.call.kind - 3) (by omega) (by omega)) rfl rfl rfl
    · have e : m.touch x = m.end_ x := by unfold Rt.touch; rw [if_pos hd]
      rw [e]
      exact lift_nil h2 (touch_end h2.at_ x hd) rfl rfl rfl
  · have e : m.goOn x = m.protect x := by simp [Rt.goOn, hk]
    rw [e]
    refine goOn_protect h x hk fun W h2 => ?_
    have load : m.st.done = 0 ∨ m.st.done = 2 → Calls Tryz.prog 89 (#[.pointer (some ⟨r, 0, none⟩)] ++ #[rpv x]) W (RPost W B r K (m.protect x)) := fun hd => by
      have e : m.protect x = m.load (m.st.call.s, m.st.call.g, m.st.call.f) 1 := by unfold Rt.protect; rw [if_pos hd.symm]
      rw [e]
      exact lift_same h2 (protect_load h2.at_ x hd) rfl rfl rfl
    rcases hd with hd | hd | hd
    · exact load (.inl hd)
    · exact load (.inr hd)
    · have e : m.protect x = (m.see x.1).keep x.1.num := by unfold Rt.protect; rw [if_neg (by rw [hd]; decide), if_pos hd, hce]; rfl
      rw [e]
      obtain ⟨n, hn⟩ : ∃ n : Nat, m.st.call.i = (n : Int) := ⟨m.st.call.i.toNat, by omega⟩
      have hn9 : n < 9 := by omega
      have hin : ((m.see x.1).st.call.i).toNat = n := by show m.st.call.i.toNat = n; omega
      by_cases h0 : x.1.slot = 0
      · have e : (m.see x.1).keep x.1.num = (m.see x.1).end_ (x.1, true) := by
          unfold Rt.keep
          rw [if_pos (show (m.see x.1).eng = 2 from he), if_neg (by intro k; have := k.1; unfold Wd.nil at this; simp [Rt.see, h0] at this)]
          rfl
        rw [e]
        exact lift_nil h2 (protect_see h2.at_ x hd hce nilS nilS nv _ fun W3 h3 => keep_haz_nil h3 he n hn9 hn h0 _) rfl rfl rfl
      · by_cases hq : m.kept n = x.1.ref
        · have e : (m.see x.1).keep x.1.num = (m.see x.1).end_ (x.1, true) := by
            unfold Rt.keep
            rw [if_pos (show (m.see x.1).eng = 2 from he), if_neg (by intro k; rw [hin] at k; exact k.2 hq)]
            rfl
          rw [e]
          exact lift_nil h2 (protect_see h2.at_ x hd hce nilS nilS nv _ fun W3 h3 => keep_haz_same h3 he n hn9 hn h0 hq _) rfl rfl rfl
        · have e : (m.see x.1).keep x.1.num = (m.see x.1).say n x.1.ref := by
            unfold Rt.keep
            rw [if_pos (show (m.see x.1).eng = 2 from he), if_pos (by rw [hin]; exact ⟨by unfold Wd.nil; simp [Rt.see, h0], hq⟩), hin]
            rfl
          rw [e]
          exact lift_same h2 (protect_see h2.at_ x hd hce sv fv nv _ fun W3 h3 => keep_haz_say h3 he n hn9 hn h0 hm hq _) rfl rfl rfl
  · have e : m.goOn x = m.alloc x := by simp [Rt.goOn, hk]
    rw [e]
    refine goOn_alloc h x hk fun W h2 => ?_
    rcases hd with hd | hd
    · have e : m.alloc x = m.askNew x.1.num := by unfold Rt.alloc; rw [if_pos hd, hce]; rfl
      rw [e]
      exact lift_same h2 (alloc_ask h2.at_ x hd hce) rfl rfl rfl
    · have e : m.alloc x = m.end_ x := by unfold Rt.alloc; rw [if_neg (by rw [hd]; decide), if_neg (by rw [hd]; decide), if_pos hd]
      rw [e]
      exact lift_nil h2 (alloc_end h2.at_ x hd) rfl rfl rfl
  · have e : m.goOn x = m.drop := by simp [Rt.goOn, hk]
    rw [e]
    refine goOn_drop h x hk fun W h2 => ?_
    rcases hd with hd | hd
    · have e : m.drop = m.ask ⟨5, 0, 0, 0, m.st.call.old, zw⟩ 1 := by unfold Rt.drop; rw [if_neg (by rw [hd]; decide)]
      rw [e]
      exact lift_same h2 (drop_ask h2.at_ hd) rfl rfl rfl
    · have e : m.drop = m.ok := by unfold Rt.drop; rw [if_pos hd]
      rw [e]
      exact lift_nil h2 (drop_end h2.at_ hd) rfl rfl rfl
  · subst hx
    have e : m.goOn (zw, false) = (notedH m zw).asBelow := by
      have e1 : m.goOn (zw, false) = m.retire (zw, false) := by simp [Rt.goOn, hk]
      rw [e1]
      unfold Rt.retire
      rw [if_pos hd, if_neg (by rw [he]; decide), hce]
      unfold Rt.born
      rw [if_pos (show (m.see zw).eng = 2 from he)]
      unfold Rt.noted
      show (if (((m.see zw).setClock zw).note).countsEras = true then _ else _) = _
      rw [show (((m.see zw).setClock zw).note).countsEras = false from hce]
      rfl
    rw [e]
    have hnl : (notedH m zw).notes.length = m.notes.length + 1 := by show (m.notes ++ [_]).length = _; simp
    refine goOn_retire h (zw, false) hk fun W h2 => ?_
    by_cases hq : m.notes.length + 1 < m.most
    · have e : (notedH m zw).asBelow = (notedH m zw).ok := by unfold Rt.asBelow; rw [hnl, if_pos (show m.notes.length + 1 < (notedH m zw).most from hq)]
      rw [e]
      exact retire_few h2 (zw, false) hd he hq (by omega)
    · have e : (notedH m zw).asBelow = ((scanning (notedH m zw)).setClock zw).hear := by
        unfold Rt.asBelow
        rw [hnl, if_neg (show ¬ m.notes.length + 1 < (notedH m zw).most from hq)]
        exact scan0_eq (m := scanning (notedH m zw)) (zw, false) he rfl rfl ht.1
      rw [e]
      exact retire_many h2 (zw, false) hd he hq (by omega) ht
  · have e : m.goOn x = (m.setClock x.1).hear := by
      have e1 : m.goOn x = m.scan x := by simp [Rt.goOn, hk]
      rw [e1]
      exact scan0_eq x he hd hsa ht.1
    rw [e]
    exact goOn_scan h x hk fun W h2 => scan_first h2 x hd he hsa ht
  · have e : m.goOn x = (setSaid m x.1).hear := by
      have e1 : m.goOn x = m.scan x := by simp [Rt.goOn, hk]
      rw [e1]
      unfold Rt.scan
      rw [if_neg (by rw [hd]; decide), if_neg (by rw [hd]; decide), if_pos hd]
      have hmore : (setSaid m x.1).more = true := by
        unfold Rt.more
        rw [show (setSaid m x.1).saysWords = true from hsw]
        have : (setSaid m x.1).st.said.length = m.st.said.length + 1 := by show (m.st.said ++ [x.1]).length = _; simp
        rw [this]
        simp [show (setSaid m x.1).thr = m.thr from rfl, hsl]
      show (if (setSaid m x.1).more = true then _ else _) = _
      rw [if_pos hmore]
      rfl
    rw [e]
    exact goOn_scan h x hk fun W h2 => scan_more h2 x hd he ht.2 hsl
  · have e : m.goOn x = (setSaid m x.1).free x.1.num := by
      have e1 : m.goOn x = m.scan x := by simp [Rt.goOn, hk]
      rw [e1]
      unfold Rt.scan
      rw [if_neg (by rw [hd]; decide), if_neg (by rw [hd]; decide), if_pos hd]
      have hmore : ¬ (setSaid m x.1).more = true := by
        unfold Rt.more
        rw [show (setSaid m x.1).saysWords = true from hsw, show (setSaid m x.1).saysSpan = false from hss]
        have : (setSaid m x.1).st.said.length = m.st.said.length + 1 := by show (m.st.said ++ [x.1]).length = _; simp
        rw [this]
        have h9 : ¬ m.st.said.length + 1 < (setSaid m x.1).thr * 9 := by show ¬ _ < m.thr * 9; omega
        simp [h9]
      show (if (setSaid m x.1).more = true then _ else if (setSaid m x.1).eng = 4 ∧ _ then _ else _) = _
      rw [if_neg hmore]
      refine (if_neg (fun k => ?_)).trans ?_
      · have k1 : m.eng = 4 := k.1
        rw [he] at k1
        exact absurd k1 (by decide)
      · unfold Rt.heardAll
        refine (if_neg (fun k => ?_)).trans rfl
        have k1 : m.eng = 4 := k
        rw [he] at k1
        exact absurd k1 (by decide)
    rw [e]
    exact goOn_scan h x hk fun W h2 => scan_all h2 x hd he ht.2 hsl hl hF
  · have e : m.goOn x = (m.strike x.2).release := by
      have e1 : m.goOn x = m.scan x := by simp [Rt.goOn, hk]
      rw [e1]
      unfold Rt.scan
      rw [if_neg (by rw [hd]; decide), if_neg (by rw [hd]; decide), if_neg (by rw [hd]; decide), if_neg (by rw [hd]; decide), if_neg (by rw [hd]; decide), if_pos hd]
    rw [e]
    exact goOn_scan h x hk fun W h2 => scan_freed h2 x hd hp (by omega) hf hF
/-- goOn does what the plain rite does, wherever the rite lies. -/
def GoOk (m : Rt) (x : Wd × Bool) : Prop := ∀ (w : World) (B r : Nat) (sv fv nv : Value) (K : Nat → Prop), RiteP w B r sv fv nv m K → Calls Tryz.prog 56 #[.pointer (some ⟨r, 0, none⟩), rpv x] w (RPost w B r K (m.goOn x))
theorem HazOk.go {x : Wd × Bool} (ok : HazOk m x) : GoOk m x := fun _ _ _ _ _ _ _ h => goOn_haz h x ok
end
end Go.Proofs.YtihjklimcchkhaaGreatDoor

namespace Go.Proofs.YtihjklimcchkhaaGreatDoor
open Go.RowKit Go.Extern.Stop Go.Stop Go.Extern Go.Sort
section
variable {W W' w : World} {E : Flt → Addr} {B r p bs bb : Nat} {t : St} {ts : List Th} {sv fv nv : Value} {m : Rt} {K : Nat → Prop}
theorem Begin_go (h : RiteP w B r sv fv nv m K) (hb : m.st.busy = false) (c : Cl) (hc : c.fine) (ok : GoOk { m with st := m.st.begin_ c } (zw, false)) :
    Calls Tryz.prog 18 #[.pointer (some ⟨r, 0, none⟩), clv c] w (EPost w B r K (m.begins c)) :=
  Begin_is h hb c hc fun _ h' => ok _ _ _ _ _ _ _ h'
theorem Took_go (h : RiteP w B r sv fv nv m K) (hb : m.st.busy = true) (x : Wd × Bool) (ok : GoOk m x) :
    Calls Tryz.prog 28 #[.pointer (some ⟨r, 0, none⟩), rpv x] w (EPost w B r K (m.goOn x)) :=
  Took_is h hb x fun _ h' => ok _ _ _ _ _ _ _ h'
/-- What a call leaves that turns one mourner's rite. -/
def YStep (W : World) (E : Flt → Addr) (B p bs bb : Nat) (t : St) (ts : List Th) (i : Nat) (hi : i < ts.length) (m' : Rt) (e : Ending) (w' : World) : Prop :=
  e = .returned .nilIface ∧ ∃ K', Hid (Yd w' E B p bs bb t (ts.set i { ts[i] with m := m', K := K' })) ∧ Hid (Below B W w')
theorem Yd.call {F : Nat} {args : Array Value} (h : Yd W E B p bs bb t ts) {i : Nat} (hi : i < ts.length) {m' : Rt} (hc : ∀ sv fv nv K, RiteP W B ts[i].r sv fv nv ts[i].m K → Calls Tryz.prog F args W (EPost W B ts[i].r K m')) :
    Calls Tryz.prog F args W (YStep W E B p bs bb t ts i hi m') := by
  obtain ⟨sv, fv, nv, hr⟩ := h.rite ts[i] (List.getElem_mem hi)
  refine (hc sv fv nv _ hr.exact).mono fun e w' ⟨he, hs⟩ => ⟨he, ?_⟩
  obtain ⟨K', h1, h2⟩ := h.ritestep hi hr hs.out
  exact ⟨K', Lib.hid h1, Lib.hid h2⟩
theorem Yd.Begin (h : Yd W E B p bs bb t ts) {i : Nat} (hi : i < ts.length) (hb : ts[i].m.st.busy = false) (c : Cl) (hc : c.fine) (ok : GoOk { ts[i].m with st := ts[i].m.st.begin_ c } (zw, false)) :
    Calls Tryz.prog 18 #[.pointer (some ⟨ts[i].r, 0, none⟩), clv c] W (YStep W E B p bs bb t ts i hi (ts[i].m.begins c)) :=
  h.call hi fun _ _ _ _ h' => Begin_go h' hb c hc ok
theorem Yd.Took (h : Yd W E B p bs bb t ts) {i : Nat} (hi : i < ts.length) (hb : ts[i].m.st.busy = true) (x : Wd × Bool) (ok : GoOk ts[i].m x) :
    Calls Tryz.prog 28 #[.pointer (some ⟨ts[i].r, 0, none⟩), rpv x] W (YStep W E B p bs bb t ts i hi (ts[i].m.goOn x)) :=
  h.call hi fun _ _ _ _ h' => Took_go h' hb x ok
theorem Yd.at_ (h : Yd W E B p bs bb t ts) {i : Nat} (hi : i < ts.length) : ∃ sv fv nv, RtAt W ts[i].r sv fv nv ts[i].m := by
  obtain ⟨sv, fv, nv, hr⟩ := h.rite ts[i] (List.getElem_mem hi)
  exact ⟨sv, fv, nv, hr.at_⟩
theorem Yd.Next (h : Yd W E B p bs bb t ts) {i : Nat} (hi : i < ts.length) (hb : ts[i].m.st.busy = true) :
    Calls Tryz.prog 27 #[.pointer (some ⟨ts[i].r, 0, none⟩)] W fun e w' => e = .returned (.tuple #[aav ts[i].m.st.acc, .bool true]) ∧ Below W.heap.size W w' := by
  obtain ⟨sv, fv, nv, hr⟩ := h.at_ hi
  exact Next_busy hr hb
theorem Yd.Busy (h : Yd W E B p bs bb t ts) {i : Nat} (hi : i < ts.length) : Calls Tryz.prog 17 #[.pointer (some ⟨ts[i].r, 0, none⟩)] W fun e w' => e = .returned (.bool ts[i].m.st.busy) ∧ W = w' := by
  obtain ⟨sv, fv, nv, hr⟩ := h.at_ hi
  exact Busy_is hr
theorem Yd.Reply (h : Yd W E B p bs bb t ts) {i : Nat} (hi : i < ts.length) : Calls Tryz.prog 46 #[.pointer (some ⟨ts[i].r, 0, none⟩)] W fun e w' => e = .returned (rpv ts[i].m.st.last) ∧ Below W.heap.size W w' := by
  obtain ⟨sv, fv, nv, hr⟩ := h.at_ hi
  exact Reply_is hr
theorem Yd.Do (h : Yd W E B p bs bb t ts) (ht : t.steps < 900000) (a : Ac) (hc : t.can a = true) :
    Calls Tryz.prog 26 #[.pointer (some ⟨p, 0, none⟩), av a] W fun e w' => e = .returned (.tuple #[rpv (t.step a).2, .nilIface]) ∧ Hid (Yd w' E B p bs bb (t.step a).1 ts) ∧ Hid (Below B W w') :=
  (do_is h.plot h.hB ht a hc).mono fun e w' ⟨he, h1, h2, h3⟩ => ⟨he, Lib.hid (h.access h1.out h2.out h3.out h2.out.size), h2⟩
end
end Go.Proofs.YtihjklimcchkhaaGreatDoor
