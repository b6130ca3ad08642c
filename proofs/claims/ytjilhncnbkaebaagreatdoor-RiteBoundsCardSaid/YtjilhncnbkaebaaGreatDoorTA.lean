/- Mourners by Hazard, as plain data: which slots are whose. A template (fill.py). -/
/- Mourners by Hazard, as plain data: what is begun. A template (fill.py). -/
/- Mourners by Hazard, as plain data: what an access leaves. A template (fill.py). -/
import Derived.Test.YtjilhncnbkaebaaGreatDoorTa
import Derived.Test.YtjilhncnbkaebaaGreatDoorSb
namespace Go.Proofs.YtjilhncnbkaebaaGreatDoor

def Wd.own (w : Wd) : Int × Int := (w.slot, w.gen)
/-- The slot that a thread has for itself. -/
def held (a : Rt × Mo) : List (Int × Int) :=
  if a.2.pc = 4 then (if a.1.st.busy = false ∧ a.1.st.last.2 = true then [a.1.st.last.1.own] else [])
  else if a.2.pc = 5 then [a.2.node.own]
  else if a.2.pc = 6 then (if a.1.st.busy = false ∧ a.1.st.last.2 = true then (if a.2.old.nil then [] else [a.2.old.own]) else [a.2.node.own])
  else if a.2.pc = 7 then (if a.1.st.busy = true ∧ a.1.st.call.kind = 9 then [a.2.node.own] else [])
  else []
def noted (m : Rt) : List (Int × Int) := m.notes.map fun x => x.ref.own
def owned (a : Rt × Mo) : List (Int × Int) := held a ++ noted a.1
def wdL (w : Wd) : List (Int × Int) := if w.nil then [] else [w.own]
def rootL (t : St) : List (Int × Int) := wdL (t.board 0)
def Given (t : St) (p : Int × Int) : Prop := ∃ k, k < t.n ∧ p.1 = (k : Int) + 1 ∧ (t.slot k).given = true ∧ ((t.slot k).gen : Int) = p.2
/-- No slot is had twice, and each one is given. -/
structure Own (t : St) (l : List (Int × Int)) : Prop where
  nd : (l.map Prod.fst).Nodup
  giv : ∀ p ∈ l, Given t p
/-- Slots, root as they were. -/
structure Same0 (t t' : St) : Prop where
  n : t'.n = t.n
  m : t'.m = t.m
  steps : t'.steps = t.steps + 1
  root : t'.board 0 = t.board 0
  slot : ∀ k, (t'.slot k).given = (t.slot k).given ∧ (t'.slot k).gen = (t.slot k).gen
section
variable {t t' : St} {l l' : List (Int × Int)}
theorem Own.perm (h : Own t l) (p : l.Perm l') : Own t l' :=
  ⟨(p.map Prod.fst).nodup_iff.1 h.nd, fun q hq => h.giv q (p.mem_iff.2 hq)⟩
theorem Given.same (h : Same0 t t') {p : Int × Int} (g : Given t p) : Given t' p := by
  obtain ⟨k, h1, h2, h3, h4⟩ := g
  exact ⟨k, by rw [h.n]; exact h1, h2, by rw [(h.slot k).1]; exact h3, by rw [(h.slot k).2]; exact h4⟩
theorem Own.same (h : Own t l) (s : Same0 t t') : Own t' l := ⟨h.nd, fun p hp => (h.giv p hp).same s⟩
theorem Own.del {k : Nat} {g : Int} (h : Own t (((k : Int) + 1, g) :: l)) : Own (t.tick.take k) l := by
  have hn := List.nodup_cons.1 h.nd
  refine ⟨hn.2, fun p hp => ?_⟩
  obtain ⟨j, h1, h2, h3, h4⟩ := h.giv p (List.mem_cons_of_mem _ hp)
  have hjk : j ≠ k := fun e => hn.1 (List.mem_map.2 ⟨p, hp, by rw [h2, e]⟩)
  exact ⟨j, h1, h2, by show (if j = k then _ else t.slot j : Sl).given = true; rw [if_neg hjk]; exact h3, by show ((if j = k then _ else t.slot j : Sl).gen : Int) = _; rw [if_neg hjk]; exact h4⟩
theorem Own.cut {p : Int × Int} (h : Own t (p :: l)) : Own t l := ⟨(List.nodup_cons.1 h.nd).2, fun q hq => h.giv q (List.mem_cons_of_mem _ hq)⟩
theorem Own.add (h : Own t l) (o : t.Ok) {k : Nat} {r : List Nat} (hf : t.free = k :: r) (b : Int) :
    (t.tick.give b).2 = (⟨(k : Int) + 1, ((t.slot k).gen : Int) + 1, 0, 0, false⟩, true) ∧ Own (t.tick.give b).1 (((k : Int) + 1, ((t.slot k).gen : Int) + 1) :: l) ∧ (t.tick.give b).1.n = t.n ∧ (t.tick.give b).1.m = t.m ∧ (t.tick.give b).1.board = t.board := by
  have hk : k ∈ t.free := by rw [hf]; exact List.mem_cons_self ..
  have hlt := o.lt k hk
  have hng := (o.mem k hlt).1 hk
  have hf' : t.tick.free = k :: r := hf
  unfold St.give
  rw [hf']
  refine ⟨rfl, ⟨List.nodup_cons.2 ⟨fun e => ?_, h.nd⟩, fun p hp => ?_⟩, rfl, rfl, rfl⟩
  · obtain ⟨p, hp, e⟩ := List.mem_map.1 e
    obtain ⟨j, _, h2, h3, _⟩ := h.giv p hp
    have : j = k := by rw [h2] at e; show j = k; omega
    rw [this, hng] at h3
    cases h3
  · rcases List.mem_cons.1 hp with rfl | hp
    · exact ⟨k, hlt, rfl, by show (if k = k then _ else _ : Sl).given = true; rw [if_pos rfl], by show ((if k = k then _ else _ : Sl).gen : Int) = _; rw [if_pos rfl]; show (((t.slot k).gen + 1 : Nat) : Int) = _; omega⟩
    · obtain ⟨j, h1, h2, h3, h4⟩ := h.giv p hp
      have hjk : j ≠ k := fun e => by rw [e, hng] at h3; cases h3
      exact ⟨j, h1, h2, by show (if j = k then _ else t.slot j : Sl).given = true; rw [if_neg hjk]; exact h3, by show ((if j = k then _ else t.slot j : Sl).gen : Int) = _; rw [if_neg hjk]; exact h4⟩
theorem Same0.tick (t : St) : Same0 t t.tick := ⟨rfl, rfl, rfl, rfl, fun _ => ⟨rfl, rfl⟩⟩
theorem Same0.write {l : Loc} (h : l ≠ .board 0) (d : Wd) : Same0 t (t.tick.write l d) := by
  cases l with
  | board f =>
    refine ⟨rfl, rfl, rfl, ?_, fun _ => ⟨rfl, rfl⟩⟩
    show (if 0 = f then d else t.board 0) = _
    rw [if_neg (fun e => h (by rw [e]))]
  | slot i f =>
    refine ⟨rfl, rfl, rfl, rfl, fun k => ?_⟩
    show (if k = i then _ else t.slot k : Sl).given = _ ∧ (if k = i then _ else t.slot k : Sl).gen = _
    by_cases e : k = i
    · subst e; rw [if_pos rfl]; exact ⟨rfl, rfl⟩
    · rw [if_neg e]; exact ⟨rfl, rfl⟩
theorem loc_root {s g f : Int} (h : t.loc s g f = some (.board 0)) : s = 0 ∧ g = 0 ∧ f = 0 := by
  unfold St.loc at h
  split at h
  · split at h
    · injection h with h
      injection h with h
      omega
    · cases h
  · split at h
    · injection h with h
      cases h
    · cases h
/-- A load, or a store that isn't the root's. -/
theorem same0_step {a : Ac} (hk : a.kind = 1 ∨ (a.kind = 2 ∧ ¬ (a.s = 0 ∧ a.g = 0 ∧ a.f = 0))) : Same0 t (t.step a).1 := by
  unfold St.step St.act
  split
  · exact ⟨rfl, rfl, rfl, rfl, fun _ => ⟨rfl, rfl⟩⟩
  · rw [if_neg (by omega), if_neg (by omega)]
    split
    · rename_i l hl
      unfold St.touch
      split
      · exact Same0.tick t
      · rw [if_pos (by omega)]
        refine Same0.write (t := t) ?_ _
        intro e
        have hl' : t.loc a.s a.g a.f = some l := hl
        rw [e] at hl'
        have := loc_root hl'
        omega
    · exact Same0.tick t
end

/-! ### a thread -/
/-- A word that the root has, or had. -/
def Past (n : Nat) (r w : Wd) : Prop := 0 ≤ w.tag ∧ w.tag ≤ r.tag ∧ (w.tag = r.tag → w = r) ∧ w.small ∧ w.slot ≤ n
structure Com (thr most me : Nat) (k : Nat) (m : Rt) : Prop where
  eng : m.eng = 2
  me_ : m.me = me
  lt : me < 6
  thr_ : m.thr = thr
  th6 : 1 ≤ thr ∧ thr ≤ 6
  most_ : m.most = most
  mo1 : 1 ≤ most ∧ most ≤ 64
  span : m.span = zs
  kept : ∀ j, 0 < j → m.kept j = zw
  freed : m.freed ≤ k
def scans (m : Rt) : Bool := m.st.busy && decide (m.st.call.kind = 11)
def Few (thr most : Nat) (m : Rt) : Prop := m.notes.length ≤ if scans m then max most (9 * thr + 1) else max (most - 1) (9 * thr)
def Idle (n : Nat) (r : Wd) (a : Rt × Mo) : Prop :=
  a.1.st.busy = false ∧ a.2.pc ≤ 7 ∧ (a.2.pc = 2 → Past n r a.1.st.last.1) ∧ (3 ≤ a.2.pc → a.2.pc ≤ 6 → Past n r a.2.old)
/-- What is kept by what was heard. -/
def sk (l : List Wd) (x : Nt) : Bool := l.any fun w => slotK w x
def Run (n : Nat) (r : Wd) (thr me : Nat) (a : Rt × Mo) : Prop :=
  a.1.st.busy = true ∧
  ((a.2.pc = 2 ∧ a.1.st.call = { zc with kind := 6 } ∧ ((a.1.st.done = 1 ∧ a.1.st.acc = ⟨1, 0, 0, 0, zw, zw⟩) ∨ (a.1.st.done = 2 ∧ ∃ w, a.1.st.acc = ⟨2, 0, 0, ((keepAt me 0 : Nat) : Int), zw, w⟩))) ∨
   (a.2.pc = 3 ∧ a.1.st.call.kind = 3 ∧ a.1.st.done = 1 ∧ (∃ s g f, a.1.st.acc = ⟨1, s, g, f, zw, zw⟩ ∧ ((s = 0 ∧ g = 0 ∧ f = 0) ∨ (1 ≤ s ∧ s ≤ n ∧ f = 1))) ∧ Past n r a.2.old) ∨
   (a.2.pc = 4 ∧ a.1.st.call.kind = 8 ∧ a.1.st.done = 1 ∧ a.1.st.acc = ⟨4, 0, 0, 0, zw, nw 0⟩ ∧ Past n r a.2.old) ∨
   (a.2.pc = 5 ∧ a.1.st.call.kind = 4 ∧ a.1.st.done = 1 ∧ (∃ d, a.1.st.acc = ⟨2, a.2.node.slot, a.2.node.gen, 1, zw, d⟩) ∧ Past n r a.2.old) ∨
   (a.2.pc = 6 ∧ a.1.st.call.kind = 5 ∧ a.1.st.done = 1 ∧ a.1.st.acc = ⟨3, 0, 0, 0, a.2.old, a.2.old.to a.2.node⟩ ∧ Past n r a.2.old) ∨
   (a.2.pc = 7 ∧ a.1.st.call.kind = 9 ∧ a.1.st.done = 1 ∧ a.1.st.acc = ⟨5, 0, 0, 0, a.2.node, zw⟩) ∨
   (a.2.pc = 7 ∧ a.1.st.call.kind = 3 ∧ a.1.st.done = 1 ∧ a.1.st.acc = ⟨1, 0, 0, 0, zw, zw⟩) ∨
   (a.2.pc = 7 ∧ a.1.st.call.kind = 11 ∧ a.1.st.done = 7 ∧ a.1.st.acc = ⟨1, 0, 0, ((25 + a.1.st.said.length : Nat) : Int), zw, zw⟩ ∧ a.1.st.said.length < 9 * thr ∧ a.1.st.pos = 0) ∨
   (a.2.pc = 7 ∧ a.1.st.call.kind = 11 ∧ a.1.st.done = 8 ∧ a.1.st.said.length = 9 * thr ∧
      ∃ A x C, a.1.notes = A ++ x :: C ∧ a.1.st.pos = A.length ∧ (∀ y ∈ A, sk a.1.st.said y = true) ∧ a.1.st.free = C.filter (fun y => !sk a.1.st.said y) ∧ a.1.st.acc = ⟨5, 0, 0, 0, x.ref, zw⟩) ∨
   (a.2.pc = 0 ∧ a.1.st.call.kind = 2 ∧ a.1.st.acc = ⟨2, 0, 0, ((keepAt me 0 : Nat) : Int), zw, zw⟩ ∧ a.1.kept 0 = zw))
structure Lc (n thr most me : Nat) (t : St) (a : Rt × Mo) : Prop where
  com : Com thr most me t.steps a.1
  few : Few thr most a.1
  ph : Idle n (t.board 0) a ∨ Run n (t.board 0) thr me a
/-- The root's word. -/
structure RI (n : Nat) (t : St) : Prop where
  small : (t.board 0).small
  le : (t.board 0).slot ≤ n
  tag0 : 0 ≤ (t.board 0).tag
  tag : (t.board 0).tag ≤ t.steps
  steps : t.steps ≤ 90000
  tn : t.n = n
  tm : t.m = 85
  ok : t.Ok
section
variable {n thr most me : Nat} {t t' : St} {a : Rt × Mo} {m : Rt} {rest : List (Int × Int)}
theorem Past.root (h : RI n t) : Past n (t.board 0) (t.board 0) := ⟨h.tag0, Int.le_refl _, fun _ => rfl, h.small, h.le⟩
theorem Past.rise {r r' w : Wd} (h : Past n r w) (hr : r' = r ∨ r.tag < r'.tag) : Past n r' w := by
  rcases hr with rfl | hr
  · exact h
  · exact ⟨h.1, by have := h.2.1; omega, fun e => by have := h.2.1; omega, h.2.2.2⟩
theorem Com.up {k k' : Nat} (h : Com thr most me k m) (hk : k ≤ k') : Com thr most me k' m := { h with freed := Nat.le_trans h.freed hk }
/-- What another thread does leaves this one where it was. -/
theorem Lc.other (h : Lc n thr most me t a) (hr : t'.board 0 = t.board 0 ∨ (t.board 0).tag < (t'.board 0).tag) (hs : t.steps ≤ t'.steps) : Lc n thr most me t' a := by
  have P : ∀ w, Past n (t.board 0) w → Past n (t'.board 0) w := fun w hw => hw.rise hr
  refine ⟨h.com.up hs, h.few, ?_⟩
  rcases h.ph with ⟨h1, h2, h3, h4⟩ | ⟨h1, h2⟩
  · exact .inl ⟨h1, h2, fun e => P _ (h3 e), fun e e' => P _ (h4 e e')⟩
  · refine .inr ⟨h1, ?_⟩
    rcases h2 with k | ⟨k1, k2, k3, k4, k5⟩ | ⟨k1, k2, k3, k4, k5⟩ | ⟨k1, k2, k3, k4, k5⟩ | ⟨k1, k2, k3, k4, k5⟩ | k
    · exact .inl k
    · exact .inr (.inl ⟨k1, k2, k3, k4, P _ k5⟩)
    · exact .inr (.inr (.inl ⟨k1, k2, k3, k4, P _ k5⟩))
    · exact .inr (.inr (.inr (.inl ⟨k1, k2, k3, k4, P _ k5⟩)))
    · exact .inr (.inr (.inr (.inr (.inl ⟨k1, k2, k3, k4, P _ k5⟩))))
    · exact .inr (.inr (.inr (.inr (.inr k))))
theorem Com.st (h : Com thr most me n m) (s : Sta) : Com thr most me n { m with st := s } := ⟨h.eng, h.me_, h.lt, h.thr_, h.th6, h.most_, h.mo1, h.span, h.kept, h.freed⟩

/-! ### what is begun -/
def Rt.busyAt (m : Rt) (c : Cl) (a : Ac) (d : Int) : Rt := { m with st := (m.st.begin_ c).ask a d }
theorem b1 (he : m.eng = 2) : m.begins (cl 1) = m.ok := by
  show ({ m with st := m.st.begin_ (cl 1) } : Rt).enter (zw, false) = _
  unfold Rt.enter
  have hs : ({ m with st := m.st.begin_ (cl 1) } : Rt).saysSpan = false := by unfold Rt.saysSpan; show (decide (m.eng = 4) || decide (m.eng = 5)) = false; rw [he]; rfl
  refine (if_pos (show ({ m with st := m.st.begin_ (cl 1) } : Rt).st.done = 0 from rfl)).trans ?_
  rw [hs]
  rfl
theorem fk_one (k : Nat → Wd) (h : ∀ j, 0 < j → k j = zw) : firstKept k 0 9 = if k 0 = zw then none else some 0 := by
  simp [firstKept, h]
theorem b2 (hs : m.span = zs) (hk : ∀ j, 0 < j → m.kept j = zw) : m.begins (cl 2) = if m.kept 0 = zw then m.ok else ({ m with st := m.st.begin_ (cl 2) } : Rt).say 0 zw := by
  show ({ m with st := m.st.begin_ (cl 2) } : Rt).leave = _
  unfold Rt.leave
  show (match firstKept m.kept 0 9 with | some n => _ | none => _) = _
  rw [fk_one m.kept hk]
  by_cases e : m.kept 0 = zw
  · rw [if_pos e, if_pos e]
    show (if m.span = zs then _ else _) = _
    rw [if_pos hs]
    rfl
  · rw [if_neg e, if_neg e]
theorem goOn_touch_eq {m : Rt} (x : Wd × Bool) (hk : m.st.call.kind = 3 ∨ m.st.call.kind = 4 ∨ m.st.call.kind = 5) : m.goOn x = m.touch x := by
  rcases hk with hk | hk | hk <;> simp [Rt.goOn, hk]
theorem b3 (c : Cl) (hk : c.kind = 3 ∨ c.kind = 4 ∨ c.kind = 5) : m.begins c = m.busyAt c ⟨1 + c.kind - 3, c.s, c.g, c.f, c.old, c.new⟩ 1 := by
  have : m.begins c = ({ m with st := m.st.begin_ c } : Rt).touch (zw, false) := goOn_touch_eq (m := { m with st := m.st.begin_ c }) (zw, false) hk
  rw [this]
  unfold Rt.touch
  rw [if_neg (by show ¬ (0 : Int) = 1; decide)]
  rfl
theorem b6 : m.begins { zc with kind := 6 } = m.busyAt { zc with kind := 6 } ⟨1, 0, 0, 0, zw, zw⟩ 1 := by
  show ({ m with st := m.st.begin_ { zc with kind := 6 } } : Rt).protect (zw, false) = _
  unfold Rt.protect
  rw [if_pos (.inr rfl)]
  rfl
theorem b8 (he : m.eng = 2) : m.begins (cl 8) = m.busyAt (cl 8) ⟨4, 0, 0, 0, zw, nw 0⟩ 1 := by
  show ({ m with st := m.st.begin_ (cl 8) } : Rt).alloc (zw, false) = _
  unfold Rt.alloc
  have hs : ({ m with st := m.st.begin_ (cl 8) } : Rt).countsEras = false := by unfold Rt.countsEras; show (decide (m.eng = 3) || decide (m.eng = 5)) = false; rw [he]; rfl
  refine (if_pos (show ({ m with st := m.st.begin_ (cl 8) } : Rt).st.done = 0 from rfl)).trans ?_
  rw [hs]
  rfl
theorem b9 (o : Wd) : m.begins { zc with kind := 9, old := o } = m.busyAt { zc with kind := 9, old := o } ⟨5, 0, 0, 0, o, zw⟩ 1 := by
  show ({ m with st := m.st.begin_ { zc with kind := 9, old := o } } : Rt).drop = _
  unfold Rt.drop
  rw [if_neg (by show ¬ (0 : Int) = 1; decide)]
  rfl
def Rt.noting (m : Rt) (o : Wd) : Rt := { m with notes := m.notes ++ [⟨o.ref, 0, 0⟩] }
def Rt.hearing (m : Rt) : Rt := { m with st := ({ m.st.begin_ (cl 11) with clock := zw } : Sta).load (0, 0, ((25 : Nat) : Int)) 7 }
theorem hear0 {m : Rt} (hw : m.saysWords = true) (hs : m.st.said = []) : m.hear = m.load (0, 0, ((25 : Nat) : Int)) 7 := by
  unfold Rt.hear
  rw [hw, hs]
  rfl
theorem b10 (he : m.eng = 2) (ht : 1 ≤ m.thr) (o : Wd) : m.begins { zc with kind := 10, old := o } = if m.notes.length + 1 < m.most then (m.noting o).ok else (m.noting o).hearing := by
  have e1 : m.begins { zc with kind := 10, old := o } = (notedH { m with st := m.st.begin_ { zc with kind := 10, old := o } } zw).asBelow := by
    show ({ m with st := m.st.begin_ { zc with kind := 10, old := o } } : Rt).retire (zw, false) = _
    unfold Rt.retire
    have hce : ({ m with st := m.st.begin_ { zc with kind := 10, old := o } } : Rt).countsEras = false := by unfold Rt.countsEras; show (decide (m.eng = 3) || decide (m.eng = 5)) = false; rw [he]; rfl
    rw [if_pos (show ({ m with st := m.st.begin_ { zc with kind := 10, old := o } } : Rt).st.done = 0 from rfl), if_neg (by show ¬ m.eng = 1; rw [he]; decide), hce, if_neg (by decide)]
    unfold Rt.born
    show (if m.eng = 2 then (({ m with st := m.st.begin_ { zc with kind := 10, old := o } } : Rt).see zw).noted (zw, false) else _) = _
    rw [if_pos he]
    unfold Rt.noted
    show (if ((({ m with st := m.st.begin_ { zc with kind := 10, old := o } } : Rt).see zw).setClock zw).note.countsEras = true then _ else ((({ m with st := m.st.begin_ { zc with kind := 10, old := o } } : Rt).see zw).setClock zw).note.asBelow) = _
    rw [show ((({ m with st := m.st.begin_ { zc with kind := 10, old := o } } : Rt).see zw).setClock zw).note.countsEras = false from hce, if_neg (by decide)]
    rfl
  rw [e1]
  unfold Rt.asBelow
  have hl : (notedH { m with st := m.st.begin_ { zc with kind := 10, old := o } } zw).notes.length = m.notes.length + 1 := by show (m.notes ++ [_]).length = _; simp
  rw [hl]
  show (if m.notes.length + 1 < m.most then _ else _) = _
  by_cases q : m.notes.length + 1 < m.most
  · rw [if_pos q, if_pos q]; rfl
  · rw [if_neg q, if_neg q]
    refine (scan0_eq (m := scanning (notedH { m with st := m.st.begin_ { zc with kind := 10, old := o } } zw)) (zw, false) he rfl rfl ht).trans ?_
    have hw : ((scanning (notedH { m with st := m.st.begin_ { zc with kind := 10, old := o } } zw)).setClock (zw, false).1).saysWords = true := by unfold Rt.saysWords; show (decide (m.eng = 2) || _) = true; rw [he]; rfl
    exact (hear0 hw rfl).trans rfl
end
end Go.Proofs.YtjilhncnbkaebaaGreatDoor

namespace Go.Proofs.YtjilhncnbkaebaaGreatDoor
open Go.RowKit Go.Extern.Stop Go.Stop Go.Extern Go.Sort

/-- What a contract asks of a rite whatever its call. -/
def HzC (m : Rt) : Prop := m.eng = 2 ∧ m.me < 6 ∧ (1 ≤ m.thr ∧ m.thr ≤ 6) ∧ m.span = zs ∧ m.notes.length ≤ 200 ∧ m.freed ≤ 100000
theorem few_le {thr most : Nat} {m : Rt} (h : Few thr most m) (ht : thr ≤ 6) (hm : most ≤ 64) : m.notes.length ≤ 200 := by
  unfold Few at h
  split at h <;> omega
theorem Com.hz {thr most me k : Nat} {m : Rt} (h : Com thr most me k m) (hf : Few thr most m) (hk : k ≤ 90000) : HzC m :=
  ⟨h.eng, by rw [h.me_]; exact h.lt, by rw [h.thr_]; exact h.th6, h.span, few_le hf h.th6.2 h.mo1.2, by have := h.freed; omega⟩
theorem few_idle {thr most : Nat} {m : Rt} (h : Few thr most m) (hb : m.st.busy = false) : m.notes.length ≤ max (most - 1) (9 * thr) := by
  unfold Few scans at h
  rw [hb] at h
  simpa using h
theorem few_of {thr most : Nat} {m : Rt} (h : m.notes.length ≤ max (most - 1) (9 * thr)) (hs : scans m = false) : Few thr most m := by
  unfold Few
  rw [hs]
  simpa using h
theorem few_scan {thr most : Nat} {m : Rt} (h : m.notes.length ≤ max most (9 * thr + 1)) (hs : scans m = true) : Few thr most m := by
  unfold Few
  rw [hs]
  simpa using h
theorem scans_idle {m : Rt} (hb : m.st.busy = false) : scans m = false := by unfold scans; rw [hb]; rfl
theorem scans_kind {m : Rt} (hk : m.st.call.kind ≠ 11) : scans m = false := by unfold scans; simp [hk]
def rk (a : Rt × Mo) : Nat := if a.1.st.busy then 0 else if a.2.pc = 0 then 2 else if a.2.pc = 4 then 3 else if a.2.pc = 6 then 4 else if a.2.pc = 7 then 3 else 1
/-- What is ahead of a begin. -/
structure Pre (n thr most me : Nat) (t : St) (m : Rt) (mo : Mo) (rest : List (Int × Int)) : Prop where
  com : Com thr most me t.steps m
  few : m.notes.length ≤ max (most - 1) (9 * thr)
  busy : m.st.busy = false
  ri : RI n t
  own : Own t (rootL t ++ (owned (m, mo) ++ rest))
/-- What is behind it. -/
def Beg (n thr most me : Nat) (t : St) (m : Rt) (mo : Mo) (rest : List (Int × Int)) (k : Nat) : Prop :=
  NextOk (m, mo) ∧ Lc n thr most me t (beg1 (m, mo)) ∧ Own t (rootL t ++ (owned (beg1 (m, mo)) ++ rest)) ∧ rk (beg1 (m, mo)) < k
section
variable {n thr most me : Nat} {t : St} {m : Rt} {rest : List (Int × Int)} {old node : Wd} {bad stop : Bool} {mo : Mo}
theorem Pre.hz (p : Pre n thr most me t m mo rest) : HzC m := p.com.hz (few_of p.few (scans_idle p.busy)) p.ri.steps
theorem fine_of {c : Cl} (h : 1 ≤ c.kind ∧ c.kind ≤ 11 ∧ ¬ c.kind = 6 ∧ ¬ c.kind = 7) : c.fine := .inr h
theorem fineK {c : Cl} (k : Int) (e : c.kind = k) (h : 1 ≤ k ∧ k ≤ 11 ∧ ¬ k = 6 ∧ ¬ k = 7) : c.fine := .inr (by rw [e]; exact h)
theorem given_small {p : Int × Int} (r : RI n t) (g : Given t p) : 1 ≤ p.1 ∧ p.1 ≤ n ∧ 0 ≤ p.2 ∧ p.2 ≤ 90000 ∧ p.1 ≤ 1024 := by
  obtain ⟨k, h1, h2, h3, h4⟩ := g
  have hg := r.ok.gen k
  have hm := r.ok.made
  have hs := r.ok.size
  have := r.steps
  have hn := r.tn
  refine ⟨by omega, by omega, by omega, by omega, by omega⟩
theorem beg_0 (p : Pre n thr most me t m ⟨0, old, node, bad, stop⟩ rest) : Beg n thr most me t m ⟨0, old, node, bad, stop⟩ rest 2 := by
  obtain ⟨h1, h2, h3, h4, h5, h6⟩ := p.hz
  have e : beg1 (m, ⟨0, old, node, bad, stop⟩) = (m.ok, ⟨1, old, node, bad, stop⟩) := by
    show (m.begins (cl 1), _) = _
    rw [b1 p.com.eng]; rfl
  refine ⟨⟨by show 0 ≤ 7; omega, fun k => (by cases k), fun k => (by cases k), fun k => (by cases k), fineK 1 rfl (by decide), h1, h2, h3, h4, h5, h6, .inl ⟨rfl, rfl⟩⟩, ?_⟩
  rw [e]
  exact ⟨⟨p.com.st _, few_of p.few rfl, .inl ⟨rfl, by show 1 ≤ 7; omega, fun k => (by cases k), fun k => absurd k (by show ¬ 3 ≤ 1; omega)⟩⟩, p.own, show 1 < 2 by omega⟩
theorem beg_1 (p : Pre n thr most me t m ⟨1, old, node, bad, stop⟩ rest) : Beg n thr most me t m ⟨1, old, node, bad, stop⟩ rest 1 := by
  obtain ⟨h1, h2, h3, h4, h5, h6⟩ := p.hz
  have e : beg1 (m, ⟨1, old, node, bad, stop⟩) = (m.busyAt { zc with kind := 6 } ⟨1, 0, 0, 0, zw, zw⟩ 1, ⟨2, old, node, bad, stop⟩) := by
    show (m.begins { zc with kind := 6 }, _) = _
    rw [b6]; rfl
  refine ⟨⟨by show 1 ≤ 7; omega, fun k => (by cases k), fun k => (by cases k), fun k => (by cases k), .inl ⟨rfl, show (0 : Int) ≤ 0 by decide, show (0 : Int) ≤ 8 by decide, show (0 : Int) ≤ 0 by decide, show (0 : Int) ≤ 8 by decide⟩, h1, h2, h3, h4, h5, h6, .inr (.inr (.inr (.inl ⟨rfl, ⟨show (0 : Int) ≤ 0 by decide, show (0 : Int) ≤ 8 by decide⟩, .inl rfl⟩)))⟩, ?_⟩
  rw [e]
  exact ⟨⟨p.com.st _, few_of p.few (scans_kind (show (6 : Int) ≠ 11 by decide)), .inr ⟨rfl, .inl ⟨rfl, rfl, .inl ⟨rfl, rfl⟩⟩⟩⟩, p.own, Nat.zero_lt_one⟩
theorem beg_2 (p : Pre n thr most me t m ⟨2, old, node, bad, stop⟩ rest) (hp : Past n (t.board 0) m.st.last.1) : Beg n thr most me t m ⟨2, old, node, bad, stop⟩ rest 1 := by
  obtain ⟨h1, h2, h3, h4, h5, h6⟩ := p.hz
  have hc : ∃ c : Cl, (⟨2, old, node, bad, stop⟩ : Mo).next m.st.last = (⟨3, m.st.last.1, node, bad, stop⟩, c) ∧ c.kind = 3 ∧ c.old = zw ∧ c.new = zw ∧ ((c.s = 0 ∧ c.g = 0 ∧ c.f = 0) ∨ (1 ≤ c.s ∧ c.s ≤ n ∧ c.f = 1)) := by
    cases hn : m.st.last.1.nil with
    | true => exact ⟨loadRoot, by show (_, if m.st.last.1.nil = true then _ else _) = _; rw [hn]; rfl, rfl, rfl, rfl, .inl ⟨rfl, rfl, rfl⟩⟩
    | false =>
      refine ⟨{ zc with kind := 3, s := m.st.last.1.slot, g := m.st.last.1.gen, f := 1 }, by show (_, if m.st.last.1.nil = true then _ else _) = _; rw [hn]; rfl, rfl, rfl, rfl, .inr ⟨?_, hp.2.2.2.2, rfl⟩⟩
      have h0 : ¬ m.st.last.1.slot = 0 := of_decide_eq_false hn
      have := hp.2.2.2.1.1.1
      show 1 ≤ m.st.last.1.slot
      omega
  obtain ⟨c, e0, c1, c2, c3, c4⟩ := hc
  have e : beg1 (m, ⟨2, old, node, bad, stop⟩) = (m.busyAt c ⟨1, c.s, c.g, c.f, zw, zw⟩ 1, ⟨3, m.st.last.1, node, bad, stop⟩) := by
    show (m.begins ((⟨2, old, node, bad, stop⟩ : Mo).next m.st.last).2, ((⟨2, old, node, bad, stop⟩ : Mo).next m.st.last).1) = _
    rw [e0, b3 c (.inl c1), c1, c2, c3]; rfl
  refine ⟨⟨by show 2 ≤ 7; omega, fun k => (by cases k), fun k => (by cases k), fun k => (by cases k), ?_, ?_⟩, ?_⟩
  · rw [e0]; exact fineK 3 c1 (by decide)
  · rw [e0]; exact ⟨h1, h2, h3, h4, h5, h6, .inr (.inr (.inl ⟨.inl c1, .inl rfl⟩))⟩
  · rw [e]
    exact ⟨⟨p.com.st _, few_of p.few (scans_kind (by show c.kind ≠ 11; rw [c1]; decide)), .inr ⟨rfl, .inr (.inl ⟨rfl, c1, rfl, ⟨_, _, _, rfl, c4⟩, hp⟩)⟩⟩, p.own, Nat.zero_lt_one⟩
theorem beg_3 (p : Pre n thr most me t m ⟨3, old, node, bad, stop⟩ rest) (hp : Past n (t.board 0) old) : Beg n thr most me t m ⟨3, old, node, bad, stop⟩ rest 1 := by
  obtain ⟨h1, h2, h3, h4, h5, h6⟩ := p.hz
  obtain ⟨b', hb'⟩ : ∃ b', (⟨3, old, node, bad, stop⟩ : Mo).next m.st.last = (⟨4, old, node, b', stop⟩, cl 8) := ⟨_, rfl⟩
  have e : beg1 (m, ⟨3, old, node, bad, stop⟩) = (m.busyAt (cl 8) ⟨4, 0, 0, 0, zw, nw 0⟩ 1, ⟨4, old, node, b', stop⟩) := by
    show (m.begins ((⟨3, old, node, bad, stop⟩ : Mo).next m.st.last).2, ((⟨3, old, node, bad, stop⟩ : Mo).next m.st.last).1) = _
    rw [hb', b8 p.com.eng]
  refine ⟨⟨by show 3 ≤ 7; omega, fun _ _ => hp.2.2.2.1, fun k => (by cases k), fun k => (by cases k), fineK 8 rfl (by decide), h1, h2, h3, h4, h5, h6, .inr (.inr (.inr (.inr (.inl ⟨rfl, .inl rfl⟩))))⟩, ?_⟩
  rw [e]
  exact ⟨⟨p.com.st _, few_of p.few (scans_kind (show (8 : Int) ≠ 11 by decide)), .inr ⟨rfl, .inr (.inr (.inl ⟨rfl, rfl, rfl, rfl, hp⟩))⟩⟩, p.own, Nat.zero_lt_one⟩
/-- A Leave is begun. -/
theorem beg_leave (p : Pre n thr most me t m mo rest) (hh : held (m, mo) = []) (hn : mo.next m.st.last = ({ mo with pc := 0 }, cl 2)) (hok : mo.pc ≤ 7 ∧ (mo.pc = 3 → mo.old.nil = false → mo.old.small) ∧ (mo.pc = 4 → m.st.last.2 = true → m.st.last.1.small) ∧ (mo.pc = 5 → wrap64 (mo.old.tag + 1) = mo.old.tag + 1)) : Beg n thr most me t m mo rest 3 := by
  obtain ⟨h1, h2, h3, h4, h5, h6⟩ := p.hz
  have hown : Own t (rootL t ++ (noted m ++ rest)) := by
    have := p.own
    unfold owned at this
    rw [hh] at this
    exact this
  have e : beg1 (m, mo) = (if m.kept 0 = zw then m.ok else ({ m with st := m.st.begin_ (cl 2) } : Rt).say 0 zw, { mo with pc := 0 }) := by
    show (m.begins (mo.next m.st.last).2, (mo.next m.st.last).1) = _
    rw [hn, b2 p.com.span p.com.kept]
  refine ⟨⟨hok.1, hok.2.1, hok.2.2.1, hok.2.2.2, ?_, ?_⟩, ?_⟩
  · show (mo.next m.st.last).2.fine
    rw [hn]; exact fineK 2 rfl (by decide)
  · show HazOk { m with st := m.st.begin_ (mo.next m.st.last).2 } (zw, false)
    rw [hn]
    exact ⟨h1, h2, h3, h4, h5, h6, .inr (.inl rfl)⟩
  · rw [e]
    by_cases hk : m.kept 0 = zw
    · rw [if_pos hk]
      exact ⟨⟨p.com.st _, few_of p.few rfl, .inl ⟨rfl, by show 0 ≤ 7; omega, fun k => (by cases k), fun k => absurd k (by show ¬ 3 ≤ 0; omega)⟩⟩, hown, show 2 < 3 by omega⟩
    · rw [if_neg hk]
      refine ⟨⟨⟨p.com.eng, p.com.me_, p.com.lt, p.com.thr_, p.com.th6, p.com.most_, p.com.mo1, p.com.span, fun j hj => ?_, p.com.freed⟩, few_of p.few (scans_kind (show (2 : Int) ≠ 11 by decide)), .inr ⟨rfl, .inr (.inr (.inr (.inr (.inr (.inr (.inr (.inr (.inr ⟨rfl, rfl, ?_, rfl⟩))))))))⟩⟩, hown, by show 0 < 3; omega⟩
      · show (if j = 0 then zw else m.kept j) = zw
        rw [if_neg (by omega)]; exact p.com.kept j hj
      · show (⟨2, 0, 0, ((keepAt m.me 0 : Nat) : Int), zw, zw⟩ : Ac) = _
        rw [p.com.me_]
theorem beg_7 (p : Pre n thr most me t m ⟨7, old, node, bad, stop⟩ rest) : Beg n thr most me t m ⟨7, old, node, bad, stop⟩ rest 3 := by
  refine beg_leave p ?_ rfl ⟨by show 7 ≤ 7; omega, fun k => (by cases k), fun k => (by cases k), fun k => (by cases k)⟩
  show (if m.st.busy = true ∧ _ then _ else _) = _
  rw [p.busy, if_neg (by intro k; cases k.1)]
theorem beg_4 (p : Pre n thr most me t m ⟨4, old, node, bad, stop⟩ rest) (hp : Past n (t.board 0) old) : Beg n thr most me t m ⟨4, old, node, bad, stop⟩ rest 3 := by
  cases hx : m.st.last.2 with
  | false =>
    refine beg_leave p ?_ ?_ ⟨by show 4 ≤ 7; omega, fun k => (by cases k), fun _ k => (by rw [hx] at k; cases k), fun k => (by cases k)⟩
    · show (if m.st.busy = false ∧ m.st.last.2 = true then _ else _) = _
      rw [hx, if_neg (by intro k; cases k.2)]
    · show (if m.st.last.2 = true then _ else _) = _
      rw [hx]; rfl
  | true =>
    obtain ⟨h1, h2, h3, h4, h5, h6⟩ := p.hz
    have hh : held (m, ⟨4, old, node, bad, stop⟩) = [m.st.last.1.own] := by
      show (if m.st.busy = false ∧ m.st.last.2 = true then _ else _) = _
      rw [if_pos ⟨p.busy, hx⟩]
    have hg : Given t m.st.last.1.own := p.own.giv _ (by unfold owned; rw [hh]; simp)
    have hs := given_small p.ri hg
    have hsm : m.st.last.1.small := by
      have q1 : 1 ≤ m.st.last.1.slot := hs.1
      have q2 : m.st.last.1.slot ≤ 1024 := hs.2.2.2.2
      have q3 : 0 ≤ m.st.last.1.gen := hs.2.2.1
      have q4 : m.st.last.1.gen ≤ 90000 := hs.2.2.2.1
      exact ⟨⟨by omega, by omega⟩, by omega, by omega⟩
    have hn : (⟨4, old, node, bad, stop⟩ : Mo).next m.st.last = (⟨5, old, m.st.last.1, bad, stop⟩, { zc with kind := 4, s := m.st.last.1.slot, g := m.st.last.1.gen, f := 1, new := nw (markOf m.st.last.1) }) := by
      show (if m.st.last.2 = true then _ else _) = _
      rw [hx]; rfl
    have e : beg1 (m, ⟨4, old, node, bad, stop⟩) = (m.busyAt { zc with kind := 4, s := m.st.last.1.slot, g := m.st.last.1.gen, f := 1, new := nw (markOf m.st.last.1) } ⟨2, m.st.last.1.slot, m.st.last.1.gen, 1, zw, nw (markOf m.st.last.1)⟩ 1, ⟨5, old, m.st.last.1, bad, stop⟩) := by
      show (m.begins ((⟨4, old, node, bad, stop⟩ : Mo).next m.st.last).2, ((⟨4, old, node, bad, stop⟩ : Mo).next m.st.last).1) = _
      rw [hn, b3 _ (.inr (.inl rfl))]; rfl
    refine ⟨⟨by show 4 ≤ 7; omega, fun k => (by cases k), fun _ _ => hsm, fun k => (by cases k), ?_, ?_⟩, ?_⟩
    · show ((⟨4, old, node, bad, stop⟩ : Mo).next m.st.last).2.fine
      rw [hn]; exact fine_of (by show (1 : Int) ≤ 4 ∧ (4 : Int) ≤ 11 ∧ ¬ (4 : Int) = 6 ∧ ¬ (4 : Int) = 7; decide)
    · show HazOk { m with st := m.st.begin_ ((⟨4, old, node, bad, stop⟩ : Mo).next m.st.last).2 } (zw, false)
      rw [hn]; exact ⟨h1, h2, h3, h4, h5, h6, .inr (.inr (.inl ⟨.inr (.inl rfl), .inl rfl⟩))⟩
    · rw [e]
      refine ⟨⟨p.com.st _, few_of p.few (scans_kind (by show (4 : Int) ≠ 11; decide)), .inr ⟨rfl, .inr (.inr (.inr (.inl ⟨rfl, rfl, rfl, ⟨_, rfl⟩, hp⟩)))⟩⟩, ?_, by show 0 < 3; omega⟩
      have := p.own
      unfold owned at this
      rw [hh] at this
      exact this
theorem beg_5 (p : Pre n thr most me t m ⟨5, old, node, bad, stop⟩ rest) (hp : Past n (t.board 0) old) : Beg n thr most me t m ⟨5, old, node, bad, stop⟩ rest 1 := by
  obtain ⟨h1, h2, h3, h4, h5, h6⟩ := p.hz
  have e : beg1 (m, ⟨5, old, node, bad, stop⟩) = (m.busyAt { zc with kind := 5, old := old, new := old.to node } ⟨3, 0, 0, 0, old, old.to node⟩ 1, ⟨6, old, node, bad, stop⟩) := by
    show (m.begins { zc with kind := 5, old := old, new := old.to node }, _) = _
    rw [b3 _ (.inr (.inr rfl))]; rfl
  have hw : wrap64 (old.tag + 1) = old.tag + 1 := by
    have q1 := hp.1
    have q2 := hp.2.1
    have q3 := p.ri.tag
    have q4 := p.ri.steps
    exact IntWalk.wrap64_in _ ⟨by omega, by omega⟩
  refine ⟨⟨by show 5 ≤ 7; omega, fun k => (by cases k), fun k => (by cases k), fun _ => hw, fine_of (by show (1 : Int) ≤ 5 ∧ (5 : Int) ≤ 11 ∧ ¬ (5 : Int) = 6 ∧ ¬ (5 : Int) = 7; decide), h1, h2, h3, h4, h5, h6, .inr (.inr (.inl ⟨.inr (.inr rfl), .inl rfl⟩))⟩, ?_⟩
  rw [e]
  exact ⟨⟨p.com.st _, few_of p.few (scans_kind (by show (5 : Int) ≠ 11; decide)), .inr ⟨rfl, .inr (.inr (.inr (.inr (.inl ⟨rfl, rfl, rfl, rfl, hp⟩))))⟩⟩, p.own, Nat.zero_lt_one⟩
theorem own_ref (w : Wd) : w.ref.own = w.own := rfl
theorem beg_6 (p : Pre n thr most me t m ⟨6, old, node, bad, stop⟩ rest) : Beg n thr most me t m ⟨6, old, node, bad, stop⟩ rest 4 := by
  obtain ⟨h1, h2, h3, h4, h5, h6⟩ := p.hz
  have hpo := p.own
  unfold owned at hpo
  have N0 : ∀ c : Cl, (⟨6, old, node, bad, stop⟩ : Mo).next m.st.last = (⟨7, old, node, bad, stop⟩, c) → c.fine → HazOk { m with st := m.st.begin_ c } (zw, false) → NextOk (m, ⟨6, old, node, bad, stop⟩) := fun c hn hf hz => by
    refine ⟨by show 6 ≤ 7; omega, fun k => (by cases k), fun k => (by cases k), fun k => (by cases k), ?_, ?_⟩
    · show ((⟨6, old, node, bad, stop⟩ : Mo).next m.st.last).2.fine
      rw [hn]; exact hf
    · show HazOk { m with st := m.st.begin_ ((⟨6, old, node, bad, stop⟩ : Mo).next m.st.last).2 } (zw, false)
      rw [hn]; exact hz
  have E0 : ∀ c : Cl, (⟨6, old, node, bad, stop⟩ : Mo).next m.st.last = (⟨7, old, node, bad, stop⟩, c) → beg1 (m, ⟨6, old, node, bad, stop⟩) = (m.begins c, ⟨7, old, node, bad, stop⟩) := fun c hn => by
    show (m.begins ((⟨6, old, node, bad, stop⟩ : Mo).next m.st.last).2, ((⟨6, old, node, bad, stop⟩ : Mo).next m.st.last).1) = _
    rw [hn]
  cases hx : m.st.last.2 with
  | false =>
    have hn : (⟨6, old, node, bad, stop⟩ : Mo).next m.st.last = (⟨7, old, node, bad, stop⟩, { zc with kind := 9, old := node }) := by
      show (_, if m.st.last.2 = false then _ else _) = _
      rw [hx]; rfl
    have hh : held (m, ⟨6, old, node, bad, stop⟩) = [node.own] := by
      show (if m.st.busy = false ∧ m.st.last.2 = true then _ else _) = _
      rw [hx, if_neg (by intro k; cases k.2)]
    rw [hh] at hpo
    refine ⟨N0 _ hn (fine_of (by show (1 : Int) ≤ 9 ∧ (9 : Int) ≤ 11 ∧ ¬ (9 : Int) = 6 ∧ ¬ (9 : Int) = 7; decide)) ⟨h1, h2, h3, h4, h5, h6, .inr (.inr (.inr (.inr (.inr (.inl ⟨rfl, .inl rfl⟩)))))⟩, ?_⟩
    rw [E0 _ hn, b9]
    exact ⟨⟨p.com.st _, few_of p.few (scans_kind (by show (9 : Int) ≠ 11; decide)), .inr ⟨rfl, .inr (.inr (.inr (.inr (.inr (.inl ⟨rfl, rfl, rfl, rfl⟩)))))⟩⟩, hpo, by show 0 < 4; omega⟩
  | true =>
    cases ho : old.nil with
    | true =>
      have hn : (⟨6, old, node, bad, stop⟩ : Mo).next m.st.last = (⟨7, old, node, bad, stop⟩, loadRoot) := by
        show (_, if m.st.last.2 = false then _ else if old.nil = true then _ else _) = _
        rw [hx, ho]; rfl
      have hh : held (m, ⟨6, old, node, bad, stop⟩) = [] := by
        show (if m.st.busy = false ∧ m.st.last.2 = true then (if old.nil = true then _ else _) else _) = _
        rw [if_pos ⟨p.busy, hx⟩, ho]; rfl
      rw [hh] at hpo
      refine ⟨N0 _ hn (fine_of (by show (1 : Int) ≤ 3 ∧ (3 : Int) ≤ 11 ∧ ¬ (3 : Int) = 6 ∧ ¬ (3 : Int) = 7; decide)) ⟨h1, h2, h3, h4, h5, h6, .inr (.inr (.inl ⟨.inl rfl, .inl rfl⟩))⟩, ?_⟩
      rw [E0 _ hn, b3 _ (.inl rfl)]
      exact ⟨⟨p.com.st _, few_of p.few (scans_kind (by show (3 : Int) ≠ 11; decide)), .inr ⟨rfl, .inr (.inr (.inr (.inr (.inr (.inr (.inl ⟨rfl, rfl, rfl, rfl⟩))))))⟩⟩, hpo, by show 0 < 4; omega⟩
    | false =>
      have hn : (⟨6, old, node, bad, stop⟩ : Mo).next m.st.last = (⟨7, old, node, bad, stop⟩, { zc with kind := 10, old := old }) := by
        show (_, if m.st.last.2 = false then _ else if old.nil = true then _ else _) = _
        rw [hx, ho]; rfl
      have hh : held (m, ⟨6, old, node, bad, stop⟩) = [old.own] := by
        show (if m.st.busy = false ∧ m.st.last.2 = true then (if old.nil = true then _ else _) else _) = _
        rw [if_pos ⟨p.busy, hx⟩, ho]; rfl
      rw [hh] at hpo
      have hown : Own t (rootL t ++ (noted (m.noting old) ++ rest)) := by
        refine hpo.perm (List.Perm.append_left _ (List.Perm.append_right _ ?_))
        unfold noted Rt.noting
        rw [List.map_append]
        exact List.perm_append_comm
      refine ⟨N0 _ hn (fine_of (by show (1 : Int) ≤ 10 ∧ (10 : Int) ≤ 11 ∧ ¬ (10 : Int) = 6 ∧ ¬ (10 : Int) = 7; decide)) ⟨h1, h2, h3, h4, h5, h6, .inr (.inr (.inr (.inr (.inr (.inr (.inl ⟨rfl, rfl, rfl⟩))))))⟩, ?_⟩
      rw [E0 _ hn, b10 p.com.eng (by rw [p.com.thr_]; exact p.com.th6.1)]
      have hln : (m.noting old).notes.length = m.notes.length + 1 := by show (m.notes ++ [_]).length = _; simp
      have hcom : ∀ s : Sta, Com thr most me t.steps { m.noting old with st := s } := fun s => ⟨p.com.eng, p.com.me_, p.com.lt, p.com.thr_, p.com.th6, p.com.most_, p.com.mo1, p.com.span, p.com.kept, p.com.freed⟩
      by_cases hq : m.notes.length + 1 < m.most
      · rw [if_pos hq]
        refine ⟨⟨hcom _, few_of (by show (m.noting old).notes.length ≤ _; rw [hln]; have := p.com.most_; omega) rfl, .inl ⟨rfl, by show 7 ≤ 7; omega, fun k => (by cases k), fun _ k => absurd k (by show ¬ 7 ≤ 6; omega)⟩⟩, hown, show 3 < 4 by omega⟩
      · rw [if_neg hq]
        refine ⟨⟨hcom _, few_scan (by show (m.noting old).notes.length ≤ _; rw [hln]; have := p.few; have := p.com.mo1; omega) rfl, .inr ⟨rfl, .inr (.inr (.inr (.inr (.inr (.inr (.inr (.inl ⟨rfl, rfl, rfl, rfl, ?_, rfl⟩)))))))⟩⟩, hown, by show 0 < 4; omega⟩
        show 0 < 9 * thr
        have := p.com.th6
        omega
/-- Any begin. -/
theorem beg_any {a : Rt × Mo} (h : Lc n thr most me t a) (r : RI n t) (ho : Own t (rootL t ++ (owned a ++ rest))) (hov : over a = false) :
    NextOk a ∧ Lc n thr most me t (beg1 a) ∧ Own t (rootL t ++ (owned (beg1 a) ++ rest)) ∧ rk (beg1 a) < rk a := by
  obtain ⟨m, mo⟩ := a
  have hb : m.st.busy = false := by
    cases hb : m.st.busy with
    | false => rfl
    | true => unfold over at hov; rw [show (m, mo).1.st.busy = true from hb] at hov; cases hov
  have hph := h.ph
  rcases hph with ⟨_, h2, h3, h4⟩ | ⟨h1, _⟩
  case inr => rw [show (m, mo).1.st.busy = false from hb] at h1; cases h1
  have p : Pre n thr most me t m mo rest := ⟨h.com, few_idle h.few hb, hb, r, ho⟩
  obtain ⟨pc, old, node, bad, stop⟩ := mo
  have rkk : ∀ k, rk (m, ⟨k, old, node, bad, stop⟩) = if k = 0 then 2 else if k = 4 then 3 else if k = 6 then 4 else if k = 7 then 3 else 1 := fun k => by
    show (if m.st.busy = true then 0 else _) = _
    rw [hb]; rfl
  have h2 : pc ≤ 7 := h2
  rw [rkk]
  match pc, h2 with
  | 0, _ => exact beg_0 p
  | 1, _ => exact beg_1 p
  | 2, _ => exact beg_2 p (h3 rfl)
  | 3, _ => exact beg_3 p (h4 (by show 3 ≤ 3; omega) (by show 3 ≤ 6; omega))
  | 4, _ => exact beg_4 p (h4 (by show 3 ≤ 4; omega) (by show 4 ≤ 6; omega))
  | 5, _ => exact beg_5 p (h4 (by show 3 ≤ 5; omega) (by show 5 ≤ 6; omega))
  | 6, _ => exact beg_6 p
  | 7, _ => exact beg_7 p
/-- All begins of a step. -/
theorem beg_all : ∀ (k : Nat) {a : Rt × Mo}, Lc n thr most me t a → RI n t → Own t (rootL t ++ (owned a ++ rest)) → rk a ≤ k →
    BegOk k a ∧ Lc n thr most me t (begTo k a) ∧ Own t (rootL t ++ (owned (begTo k a) ++ rest)) ∧ over (begTo k a) = true
  | 0, a, h, r, ho, hk => by
    have hb : a.1.st.busy = true := by
      cases hb : a.1.st.busy with
      | true => rfl
      | false =>
        unfold rk at hk
        rw [hb] at hk
        simp only [Bool.false_eq_true, if_false] at hk
        split at hk
        · omega
        · split at hk
          · omega
          · split at hk
            · omega
            · split at hk <;> omega
    have hov : over a = true := by unfold over; rw [hb]; rfl
    exact ⟨hov, h, ho, hov⟩
  | k + 1, a, h, r, ho, hk => by
    cases hov : over a with
    | true =>
      have e : begTo (k + 1) a = a := begTo_over hov
      rw [e]
      exact ⟨.inl hov, h, ho, hov⟩
    | false =>
      obtain ⟨g1, g2, g3, g4⟩ := beg_any h r ho hov
      have ih := beg_all k g2 r g3 (by omega)
      have e : begTo (k + 1) a = begTo k (beg1 a) := by
        show (if over a = true then a else begTo k (beg1 a)) = _
        rw [hov]; rfl
      rw [e]
      exact ⟨.inr ⟨g1, ih.1⟩, ih.2⟩
end
end Go.Proofs.YtjilhncnbkaebaaGreatDoor

namespace Go.Proofs.YtjilhncnbkaebaaGreatDoor
open Go.RowKit Go.Extern.Stop Go.Stop Go.Extern Go.Sort

theorem nodup_len : ∀ l1 l2 : List Int, l1.Nodup → (∀ x ∈ l1, x ∈ l2) → l1.length ≤ l2.length
  | [], _, _, _ => Nat.zero_le _
  | x :: l, l2, hn, h => by
    have hx := List.nodup_cons.1 hn
    have hm := h x (List.mem_cons_self ..)
    have ih := nodup_len l (l2.erase x) hx.2 (fun y hy => (List.mem_erase_of_ne (fun e => hx.1 (by rw [← e]; exact hy))).2 (h y (List.mem_cons_of_mem _ hy)))
    have := @List.length_erase_of_mem _ _ _ x l2 hm
    have hp := List.length_pos_of_mem hm
    simp only [List.length_cons]
    omega
/-- What an access leaves. -/
def Stp (n thr most me : Nat) (t t' : St) (x : Wd × Bool) (a : Rt × Mo) (rest : List (Int × Int)) : Prop :=
  HazOk a.1 x ∧ RI n t' ∧ Lc n thr most me t' (a.1.goOn x, a.2) ∧ Own t' (rootL t' ++ (owned (a.1.goOn x, a.2) ++ rest)) ∧ (t'.board 0 = t.board 0 ∨ (t.board 0).tag < (t'.board 0).tag)
section
variable {n thr most me : Nat} {t t' : St} {m : Rt} {mo : Mo} {rest : List (Int × Int)}
theorem RI.same (r : RI n t) (s : Same0 t t') (o : t'.Ok) (hst : t.steps + 1 ≤ 90000) : RI n t' :=
  ⟨by rw [s.root]; exact r.small, by rw [s.root]; exact r.le, by rw [s.root]; exact r.tag0, by rw [s.root, s.steps]; have := r.tag; omega, by rw [s.steps]; exact hst, by rw [s.n]; exact r.tn, by rw [s.m]; exact r.tm, o⟩
theorem own_same {l : List (Int × Int)} (s : Same0 t t') (h : Own t (rootL t ++ l)) : Own t' (rootL t' ++ l) := by
  have e : rootL t' = rootL t := by unfold rootL; rw [s.root]
  rw [e]
  exact h.same s
theorem touch_over (x : Wd × Bool) (hk : m.st.call.kind = 3 ∨ m.st.call.kind = 4 ∨ m.st.call.kind = 5) (hd : m.st.done = 1) : m.goOn x = m.end_ x := by
  rw [goOn_touch_eq x hk]
  unfold Rt.touch
  rw [if_pos hd]
theorem alloc_over (x : Wd × Bool) (hk : m.st.call.kind = 8) (hd : m.st.done = 1) : m.goOn x = m.end_ x := by
  have : m.goOn x = m.alloc x := by simp [Rt.goOn, hk]
  rw [this]
  unfold Rt.alloc
  rw [if_neg (by rw [hd]; decide), if_neg (by rw [hd]; decide), if_pos hd]
theorem drop_over (x : Wd × Bool) (hk : m.st.call.kind = 9) (hd : m.st.done = 1) : m.goOn x = m.ok := by
  have : m.goOn x = m.drop := by simp [Rt.goOn, hk]
  rw [this]
  unfold Rt.drop
  rw [if_pos hd]
theorem Com.step {k : Nat} (h : Com thr most me k m) (s : Sta) : Com thr most me (k + 1) { m with st := s } := (h.st s).up (Nat.le_succ k)
/-- The call is over, and nothing is scanned. -/
theorem idle_at {x : Wd × Bool} (h : Com thr most me t.steps m) (hf : m.notes.length ≤ max (most - 1) (9 * thr)) (hs : t'.steps = t.steps + 1) (hp : mo.pc ≤ 7) (h2 : mo.pc = 2 → Past n (t'.board 0) x.1) (h3 : 3 ≤ mo.pc → mo.pc ≤ 6 → Past n (t'.board 0) mo.old) : Lc n thr most me t' (m.end_ x, mo) :=
  ⟨by rw [hs]; exact h.step _, few_of hf rfl, .inl ⟨rfl, hp, h2, h3⟩⟩
theorem can_slot {s g f : Int} {k : Int} {d d' : Wd} (r : RI n t) (hk : k = 1 ∨ k = 2 ∨ k = 3) (h1 : 1 ≤ s) (h2 : s ≤ n) (hf : f = 1) : t.can ⟨k, s, g, f, d, d'⟩ = true := by
  obtain ⟨i, hi⟩ : ∃ i : Nat, s = (i : Int) + 1 := ⟨(s - 1).toNat, by omega⟩
  subst hi
  subst hf
  exact can_cell t _ hk (.slot i 1) (loc_slot t i g 1 (by rw [r.tn]; omega) (by omega))
theorem few_busy {k : Int} (h : Few thr most m) (hk : m.st.call.kind = k) (h11 : k ≠ 11) : m.notes.length ≤ max (most - 1) (9 * thr) := by
  unfold Few at h
  rw [scans_kind (by rw [hk]; exact h11)] at h
  simpa using h
/-- A scan that releases the next one, or is over. -/
theorem rel_any {m0 : Rt} (hc : Com thr most me t'.steps m0) (hb : m0.st.busy = true) (hk : m0.st.call.kind = 11) (hsl : m0.st.said.length = 9 * thr) (hp : mo.pc = 7) {A C : List Nt} (hn : m0.notes = A ++ C) (hpos : m0.st.pos = A.length)
    (hA : ∀ y ∈ A, sk m0.st.said y = true) (hf : m0.st.free = C.filter (fun y => !sk m0.st.said y)) (hfew : m0.notes.length ≤ max most (9 * thr + 1)) (ho : Own t' (rootL t' ++ (noted m0 ++ rest))) :
    Lc n thr most me t' (m0.release, mo) ∧ Own t' (rootL t' ++ (owned (m0.release, mo) ++ rest)) := by
  rcases release_go (fun y => !sk m0.st.said y) hn hpos hf with ⟨e, hC⟩ | ⟨A', x, C', e1, hx, hA', e⟩
  · rw [e]
    have hall : ∀ y ∈ m0.notes, sk m0.st.said y = true := fun y hy => by
      rw [hn] at hy
      rcases List.mem_append.1 hy with hy | hy
      · exact hA y hy
      · simpa using hC y hy
    have hlen : m0.notes.length ≤ 9 * thr := by
      have hnd : ((noted m0).map Prod.fst).Nodup := by
        have h1 := ho.nd
        rw [List.map_append, List.map_append] at h1
        exact (List.nodup_append.1 (List.nodup_append.1 h1).2.1).1
      have := nodup_len _ (m0.st.said.map fun w => w.slot) hnd (fun s hs => by
        obtain ⟨q, hq, rfl⟩ := List.mem_map.1 hs
        obtain ⟨y, hy, rfl⟩ := List.mem_map.1 hq
        have hk := hall y hy
        unfold sk at hk
        obtain ⟨w, hw, hk⟩ := List.any_eq_true.1 hk
        exact List.mem_map.2 ⟨w, hw, of_decide_eq_true hk⟩)
      rw [List.length_map, List.length_map, hsl] at this
      unfold noted at this
      rw [List.length_map] at this
      exact this
    refine ⟨⟨hc.st _, few_of (by show m0.notes.length ≤ _; omega) rfl, .inl ⟨rfl, by show mo.pc ≤ 7; omega, fun k => absurd k (by show ¬ mo.pc = 2; omega), fun _ k => absurd k (by show ¬ mo.pc ≤ 6; omega)⟩⟩, ?_⟩
    have hh : held (m0.ok, mo) = [] := by
      unfold held
      rw [if_neg (by show ¬ mo.pc = 4; omega), if_neg (by show ¬ mo.pc = 5; omega), if_neg (by show ¬ mo.pc = 6; omega), if_pos hp, if_neg (by intro k; have k1 : false = true := k.1; cases k1)]
    unfold owned
    rw [hh]
    exact ho
  · rw [e]
    refine ⟨⟨hc.st _, few_scan hfew (by unfold scans; show (m0.st.busy && decide (m0.st.call.kind = 11)) = true; rw [hb, hk]; rfl), .inr ⟨hb, .inr (.inr (.inr (.inr (.inr (.inr (.inr (.inr (.inl ⟨hp, hk, rfl, hsl, A ++ A', x, C', ?_, ?_, fun y hy => ?_, rfl, rfl⟩))))))))⟩⟩, ?_⟩
    · show m0.notes = _
      rw [hn, e1, List.append_assoc]
    · show A.length + A'.length = _
      simp
    · rcases List.mem_append.1 hy with hy | hy
      · exact hA y hy
      · have := hA' y hy
        show sk m0.st.said y = true
        simpa using this
    · have hh : held (m0.freeing x (C'.filter fun y => !sk m0.st.said y) (A.length + A'.length), mo) = [] := by
        unfold held
        rw [if_neg (by show ¬ mo.pc = 4; omega), if_neg (by show ¬ mo.pc = 5; omega), if_neg (by show ¬ mo.pc = 6; omega), if_pos hp, if_neg (by intro k; have k1 : m0.st.call.kind = 9 := k.2; rw [hk] at k1; exact absurd k1 (by decide))]
      unfold owned
      rw [hh]
      exact ho
theorem held_pc {a a' : Rt × Mo} (h : a.2.pc = a'.2.pc) (h4 : a.2.pc < 4) : held a = held a' := by
  unfold held
  rw [if_neg (by omega), if_neg (by omega), if_neg (by omega), if_neg (by omega), if_neg (by omega), if_neg (by omega), if_neg (by omega), if_neg (by omega)]
theorem step_2a (c : Com thr most me t.steps m) (hfew : Few thr most m) (r : RI n t) (hst : t.steps + 1 ≤ 90000) (ho : Own t (rootL t ++ (owned (m, mo) ++ rest))) (hp : mo.pc = 2) (hcl : m.st.call = { zc with kind := 6 }) (hb : m.st.busy = true)
    (hd : m.st.done = 1) (hac : m.st.acc = ⟨1, 0, 0, 0, zw, zw⟩) : t.can m.st.acc = true ∧ Stp n thr most me t (t.step m.st.acc).1 (t.step m.st.acc).2 (m, mo) rest := by
  have es : t.step m.st.acc = (t.tick, t.board 0, true) := by rw [hac]; exact step_load 0 (by rw [r.tm]; omega)
  obtain ⟨h1, h2, h3, h4, h5, h6⟩ := c.hz hfew r.steps
  have hk : m.st.call.kind = 6 := by rw [hcl]
  have hi : m.st.call.i = 0 := by rw [hcl]; rfl
  have hf0 := few_busy hfew hk (by decide)
  have hce : m.countsEras = false := by unfold Rt.countsEras; rw [h1]; rfl
  have r' : RI n t.tick := r.same (Same0.tick t) ⟨r.ok.lt, r.ok.nodup, r.ok.mem, r.ok.gen, Nat.le_succ_of_le r.ok.made, r.ok.size, r.ok.cells⟩ hst
  refine ⟨by rw [hac]; exact can_board (.inl rfl) 0 (by rw [r.tm]; omega) _ _, ?_⟩
  rw [es]
  have eg : m.goOn (t.board 0, true) = (m.see (t.board 0)).keep (t.board 0).num := by
    have : m.goOn (t.board 0, true) = m.protect (t.board 0, true) := by simp [Rt.goOn, hk]
    rw [this]
    unfold Rt.protect
    rw [if_neg (by rw [hd]; decide), if_pos hd, hce]
    rfl
  have hin : ((m.see (t.board 0)).st.call.i).toNat = 0 := by show m.st.call.i.toNat = 0; rw [hi]; rfl
  refine ⟨⟨h1, h2, h3, h4, h5, h6, .inr (.inr (.inr (.inl ⟨hk, by rw [hi]; decide, .inr (.inr hd)⟩)))⟩, r', ?_⟩
  show Lc n thr most me t.tick (m.goOn (t.board 0, true), mo) ∧ Own t.tick (rootL t.tick ++ (owned (m.goOn (t.board 0, true), mo) ++ rest)) ∧ _
  rw [eg]
  have hsame : ∀ m' : Rt, m'.notes = m.notes → Own t.tick (rootL t.tick ++ (owned (m', mo) ++ rest)) := fun m' hm' => by
    have := own_same (Same0.tick t) ho
    unfold owned noted at this ⊢
    rw [hm', held_pc (a := (m', mo)) (a' := (m, mo)) rfl (by show mo.pc < 4; omega)]
    exact this
  by_cases hq : (t.board 0).nil = false ∧ m.kept 0 ≠ (t.board 0).ref
  · have e : (m.see (t.board 0)).keep (t.board 0).num = (m.see (t.board 0)).say 0 (t.board 0).ref := by
      unfold Rt.keep
      rw [if_pos (show (m.see (t.board 0)).eng = 2 from h1), if_pos (by rw [hin]; exact hq), hin]
      rfl
    rw [e]
    refine ⟨⟨⟨c.eng, c.me_, c.lt, c.thr_, c.th6, c.most_, c.mo1, c.span, fun j hj => ?_, Nat.le_succ_of_le c.freed⟩, few_of hf0 (scans_kind (by show m.st.call.kind ≠ 11; rw [hk]; decide)), .inr ⟨hb, .inl ⟨hp, hcl, .inr ⟨rfl, (t.board 0).ref, ?_⟩⟩⟩⟩, hsame _ rfl, .inl rfl⟩
    · show (if j = 0 then _ else m.kept j) = zw
      rw [if_neg (by omega)]; exact c.kept j hj
    · show (⟨2, 0, 0, ((keepAt m.me 0 : Nat) : Int), zw, (t.board 0).ref⟩ : Ac) = _
      rw [c.me_]
  · have e : (m.see (t.board 0)).keep (t.board 0).num = m.end_ (t.board 0, true) := by
      unfold Rt.keep
      rw [if_pos (show (m.see (t.board 0)).eng = 2 from h1), if_neg (by rw [hin]; exact hq)]
      rfl
    rw [e]
    exact ⟨idle_at c hf0 rfl (by omega) (fun _ => Past.root r') (fun k => absurd k (by omega)), hsame _ rfl, .inl rfl⟩
theorem step_same {a : Ac} (c : Com thr most me t.steps m) (hfew : Few thr most m) (r : RI n t) (hst : t.steps + 1 ≤ 90000) (hac : m.st.acc = a) (hcan : t.can a = true) (hs : Same0 t (t.step a).1) :
    t.can m.st.acc = true ∧ RI n (t.step m.st.acc).1 ∧ (t.step m.st.acc).1.board 0 = t.board 0 ∧ (t.step m.st.acc).1.steps = t.steps + 1 ∧ Same0 t (t.step m.st.acc).1 := by
  rw [hac]
  exact ⟨hcan, r.same hs (St.step_ok r.ok a hcan) hst, hs.root, hs.steps, hs⟩
theorem step_2b (c : Com thr most me t.steps m) (hfew : Few thr most m) (r : RI n t) (hst : t.steps + 1 ≤ 90000) (ho : Own t (rootL t ++ (owned (m, mo) ++ rest))) (hp : mo.pc = 2) (hcl : m.st.call = { zc with kind := 6 }) (hb : m.st.busy = true)
    (hd : m.st.done = 2) (w : Wd) (hac : m.st.acc = ⟨2, 0, 0, ((keepAt me 0 : Nat) : Int), zw, w⟩) : t.can m.st.acc = true ∧ Stp n thr most me t (t.step m.st.acc).1 (t.step m.st.acc).2 (m, mo) rest := by
  have hlt : keepAt me 0 < 85 := by unfold keepAt; have := c.lt; omega
  have h25 : 25 ≤ keepAt me 0 := by unfold keepAt; omega
  obtain ⟨g1, g2, g3, g4, g5⟩ := step_same c hfew r hst hac (can_board (.inr (.inl rfl)) _ (by rw [r.tm]; exact hlt) _ _) (same0_step (.inr ⟨rfl, by intro k; have := k.2.2; have e : (((keepAt me 0 : Nat) : Int)) = 0 := this; omega⟩))
  obtain ⟨h1, h2, h3, h4, h5, h6⟩ := c.hz hfew r.steps
  have hk : m.st.call.kind = 6 := by rw [hcl]
  have hi : m.st.call.i = 0 := by rw [hcl]; rfl
  have hf0 := few_busy hfew hk (by decide)
  refine ⟨g1, ⟨h1, h2, h3, h4, h5, h6, .inr (.inr (.inr (.inl ⟨hk, by rw [hi]; decide, .inr (.inl hd)⟩)))⟩, g2, ?_, ?_, .inl g3⟩
  all_goals
    have eg : ∀ x, m.goOn x = m.load (0, 0, 0) 1 := fun x => by
      have : m.goOn x = m.protect x := by simp [Rt.goOn, hk]
      rw [this]
      unfold Rt.protect
      rw [if_pos (.inl hd), hcl]
      rfl
  · show Lc n thr most me _ (m.goOn _, mo)
    rw [eg]
    exact ⟨by rw [g4]; exact c.step _, few_of hf0 (scans_kind (by show m.st.call.kind ≠ 11; rw [hk]; decide)), .inr ⟨hb, .inl ⟨hp, hcl, .inl ⟨rfl, rfl⟩⟩⟩⟩
  · show Own _ (_ ++ (owned (m.goOn _, mo) ++ rest))
    rw [eg]
    have := own_same g5 ho
    unfold owned noted at this ⊢
    rw [held_pc (a := (m.load (0, 0, 0) 1, mo)) (a' := (m, mo)) rfl (by show mo.pc < 4; omega)]
    exact this
/-- An access that turns no slot's owner; the call is over. -/
theorem step_over {a : Ac} (c : Com thr most me t.steps m) (hfew : Few thr most m) (r : RI n t) (hst : t.steps + 1 ≤ 90000) (ho : Own t (rootL t ++ (owned (m, mo) ++ rest))) (hac : m.st.acc = a) (hcan : t.can a = true) (hs : Same0 t (t.step a).1)
    (hk : m.st.call.kind = 3 ∨ m.st.call.kind = 4) (hd : m.st.done = 1) (hp7 : mo.pc ≤ 7) (hp2 : mo.pc ≠ 2) (hp : 3 ≤ mo.pc → mo.pc ≤ 6 → Past n (t.board 0) mo.old) (hh : ∀ x, held (m.end_ x, mo) = held (m, mo)) :
    t.can m.st.acc = true ∧ Stp n thr most me t (t.step m.st.acc).1 (t.step m.st.acc).2 (m, mo) rest := by
  obtain ⟨g1, g2, g3, g4, g5⟩ := step_same c hfew r hst hac hcan hs
  obtain ⟨h1, h2, h3, h4, h5, h6⟩ := c.hz hfew r.steps
  have hf0 : m.notes.length ≤ max (most - 1) (9 * thr) := by
    rcases hk with hk | hk
    · exact few_busy hfew hk (by decide)
    · exact few_busy hfew hk (by decide)
  have eg : ∀ x, m.goOn x = m.end_ x := fun x => touch_over x (by rcases hk with hk | hk <;> simp [hk]) hd
  refine ⟨g1, ⟨h1, h2, h3, h4, h5, h6, .inr (.inr (.inl ⟨by rcases hk with hk | hk <;> simp [hk], .inr hd⟩))⟩, g2, ?_, ?_, .inl g3⟩
  · show Lc n thr most me _ (m.goOn _, mo)
    rw [eg]
    exact idle_at c hf0 g4 hp7 (fun k => absurd k hp2) (fun k k' => by rw [g3]; exact hp k k')
  · show Own _ (_ ++ (owned (m.goOn _, mo) ++ rest))
    rw [eg]
    have := own_same g5 ho
    unfold owned noted at this ⊢
    rw [hh]
    exact this
theorem step_4 (c : Com thr most me t.steps m) (hfew : Few thr most m) (r : RI n t) (hst : t.steps + 1 ≤ 90000) (ho : Own t (rootL t ++ (owned (m, mo) ++ rest))) (hp : mo.pc = 4) (hb : m.st.busy = true) (hk : m.st.call.kind = 8) (hd : m.st.done = 1)
    (hac : m.st.acc = ⟨4, 0, 0, 0, zw, nw 0⟩) (hpast : Past n (t.board 0) mo.old) : t.can m.st.acc = true ∧ Stp n thr most me t (t.step m.st.acc).1 (t.step m.st.acc).2 (m, mo) rest := by
  have hcan : t.can m.st.acc = true := by rw [hac]; exact can_new _ _ rfl
  have hok := St.step_ok r.ok m.st.acc hcan
  obtain ⟨h1, h2, h3, h4, h5, h6⟩ := c.hz hfew r.steps
  have hf0 := few_busy hfew hk (by decide)
  have es : t.step m.st.acc = t.tick.give 0 := by rw [hac]; exact step_give (a := ⟨4, 0, 0, 0, zw, nw 0⟩) rfl
  have eg : ∀ x, m.goOn x = m.end_ x := fun x => alloc_over x hk hd
  have hh : held (m, mo) = [] := by
    unfold held
    rw [if_pos hp, if_neg (by intro k; have k1 : m.st.busy = false := k.1; rw [hb] at k1; cases k1)]
  unfold owned at ho
  rw [hh] at ho
  have hz : HazOk m (t.step m.st.acc).2 := ⟨h1, h2, h3, h4, h5, h6, .inr (.inr (.inr (.inr (.inl ⟨hk, .inr hd⟩))))⟩
  refine ⟨hcan, hz, ?_⟩
  show RI n _ ∧ Lc n thr most me _ (m.goOn _, mo) ∧ Own _ (_ ++ (owned (m.goOn _, mo) ++ rest)) ∧ _
  rw [eg]
  rw [es] at hok ⊢
  cases hfr : t.free with
  | nil =>
    have eg : t.tick.give 0 = (t.tick, zw, false) := by
      unfold St.give
      rw [show t.tick.free = [] from hfr]
    rw [eg] at hok ⊢
    refine ⟨r.same (Same0.tick t) hok hst, idle_at c hf0 rfl (by omega) (fun k => absurd k (by omega)) (fun _ _ => hpast), ?_, .inl rfl⟩
    have hh' : held (m.end_ (zw, false), mo) = [] := by
      unfold held
      rw [if_pos hp, if_neg (by intro k; have k1 : false = true := k.2; cases k1)]
    unfold owned
    rw [hh']
    exact own_same (Same0.tick t) ho
  | cons k fr =>
    obtain ⟨g1, g2, g3, g4, g5⟩ := ho.add r.ok hfr 0
    have hsteps : (t.tick.give 0).1.steps = t.steps + 1 := by
      unfold St.give
      rw [show t.tick.free = k :: fr from hfr]
      rfl
    have hb0 : (t.tick.give 0).1.board 0 = t.board 0 := by rw [g5]
    refine ⟨⟨by rw [hb0]; exact r.small, by rw [hb0]; exact r.le, by rw [hb0]; exact r.tag0, by rw [hb0, hsteps]; have := r.tag; omega, by rw [hsteps]; exact hst, by rw [g3]; exact r.tn, by rw [g4]; exact r.tm, hok⟩, idle_at c hf0 hsteps (by omega) (fun k => absurd k (by omega)) (fun _ _ => by rw [hb0]; exact hpast), ?_, .inl hb0⟩
    have hh' : held (m.end_ (t.tick.give 0).2, mo) = [((k : Int) + 1, ((t.slot k).gen : Int) + 1)] := by
      unfold held
      rw [if_pos hp, if_pos ⟨rfl, by show (t.tick.give 0).2.2 = true; rw [g1]⟩]
      show [(t.tick.give 0).2.1.own] = _
      rw [g1]
      rfl
    have hr : rootL (t.tick.give 0).1 = rootL t := by unfold rootL; rw [hb0]
    unfold owned
    rw [hh', hr]
    refine g2.perm ?_
    exact List.perm_middle.symm
theorem to_own (o w : Wd) : (o.to w).own = w.own := rfl
theorem step_6 (c : Com thr most me t.steps m) (hfew : Few thr most m) (r : RI n t) (hst : t.steps + 1 ≤ 90000) (ho : Own t (rootL t ++ (owned (m, mo) ++ rest))) (hp : mo.pc = 6) (hb : m.st.busy = true) (hk : m.st.call.kind = 5) (hd : m.st.done = 1)
    (hac : m.st.acc = ⟨3, 0, 0, 0, mo.old, mo.old.to mo.node⟩) (hpast : Past n (t.board 0) mo.old) : t.can m.st.acc = true ∧ Stp n thr most me t (t.step m.st.acc).1 (t.step m.st.acc).2 (m, mo) rest := by
  have hcan : t.can m.st.acc = true := by rw [hac]; exact can_board (t := t) (k := 3) (.inr (.inr rfl)) 0 (by rw [r.tm]; omega) _ _
  have hok := St.step_ok r.ok m.st.acc hcan
  obtain ⟨h1, h2, h3, h4, h5, h6⟩ := c.hz hfew r.steps
  have hf0 := few_busy hfew hk (by decide)
  have eg : ∀ x, m.goOn x = m.end_ x := fun x => touch_over x (.inr (.inr hk)) hd
  have hh : held (m, mo) = [mo.node.own] := by
    unfold held
    rw [if_neg (by show ¬ mo.pc = 4; omega), if_neg (by show ¬ mo.pc = 5; omega), if_pos hp, if_neg (by intro k; have k1 : m.st.busy = false := k.1; rw [hb] at k1; cases k1)]
  unfold owned at ho
  rw [hh] at ho
  have hz : HazOk m (t.step m.st.acc).2 := ⟨h1, h2, h3, h4, h5, h6, .inr (.inr (.inl ⟨.inr (.inr hk), .inr hd⟩))⟩
  refine ⟨hcan, hz, ?_⟩
  show RI n _ ∧ Lc n thr most me _ (m.goOn _, mo) ∧ Own _ (_ ++ (owned (m.goOn _, mo) ++ rest)) ∧ _
  rw [eg]
  have es : t.step m.st.acc = t.tick.touch (.board 0) ⟨3, 0, 0, 0, mo.old, mo.old.to mo.node⟩ := by
    rw [hac]
    exact step_cell (.inr (.inr rfl)) (loc_board t 0 (by rw [r.tm]; omega)) (miss_board t 0 .freed)
  rw [es] at hok ⊢
  unfold St.touch at hok ⊢
  rw [if_neg (by show ¬ (3 : Int) = 1; decide), if_neg (by show ¬ (3 : Int) = 2; decide)] at hok ⊢
  cases hsm : (t.tick.read (.board 0)).same mo.old with
  | false =>
    rw [hsm] at hok
    rw [if_neg Bool.false_ne_true] at hok ⊢
    refine ⟨r.same (Same0.tick t) hok hst, idle_at c hf0 rfl (by omega) (fun k => absurd k (by omega)) (fun _ _ => hpast), ?_, .inl rfl⟩
    have hh' : held (m.end_ (t.tick.read (.board 0), false), mo) = [mo.node.own] := by
      unfold held
      rw [if_neg (by show ¬ mo.pc = 4; omega), if_neg (by show ¬ mo.pc = 5; omega), if_pos hp, if_neg (by intro k; have k1 : false = true := k.2; cases k1)]
    unfold owned
    rw [hh']
    exact own_same (Same0.tick t) ho
  | true =>
    rw [hsm] at hok
    rw [if_pos rfl] at hok ⊢
    have hsame : (t.board 0).slot = mo.old.slot ∧ (t.board 0).tag = mo.old.tag ∧ (t.board 0).num = mo.old.num ∧ (t.board 0).mark = mo.old.mark := of_decide_eq_true hsm
    have hroot : mo.old = t.board 0 := hpast.2.2.1 hsame.2.1.symm
    have hnode : Given t mo.node.own := ho.giv _ (by simp)
    have hgs := given_small r hnode
    have q1 : 1 ≤ mo.node.slot := hgs.1
    have q2 : mo.node.slot ≤ n := hgs.2.1
    have q3 : 0 ≤ mo.node.gen := hgs.2.2.1
    have q4 : mo.node.gen ≤ 90000 := hgs.2.2.2.1
    have q5 : mo.node.slot ≤ 1024 := hgs.2.2.2.2
    obtain ⟨tw, htw⟩ : ∃ tw, tw = t.tick.write (.board 0) (mo.old.to mo.node) := ⟨_, rfl⟩
    have hb0 : tw.board 0 = mo.old.to mo.node := by rw [htw]; rfl
    have hslot : ∀ j, tw.slot j = t.slot j := fun j => by rw [htw]; rfl
    have hsteps : tw.steps = t.steps + 1 := by rw [htw]; rfl
    have hn : tw.n = t.n := by rw [htw]; rfl
    have hm : tw.m = t.m := by rw [htw]; rfl
    have hok : tw.Ok := by rw [htw]; exact hok
    have htag : (t.board 0).tag < (tw.board 0).tag := by
      rw [hb0]
      show _ < mo.old.tag + 1
      rw [hroot]; omega
    show RI n (t.tick.write (.board 0) (mo.old.to mo.node)) ∧ Lc n thr most me (t.tick.write (.board 0) (mo.old.to mo.node)) _ ∧ Own (t.tick.write (.board 0) (mo.old.to mo.node)) (rootL (t.tick.write (.board 0) (mo.old.to mo.node)) ++ _) ∧ ((t.tick.write (.board 0) (mo.old.to mo.node)).board 0 = _ ∨ _ < ((t.tick.write (.board 0) (mo.old.to mo.node)).board 0).tag)
    rw [← htw]
    refine ⟨⟨?_, ?_, ?_, ?_, by rw [hsteps]; exact hst, by rw [hn]; exact r.tn, by rw [hm]; exact r.tm, hok⟩, idle_at c hf0 hsteps (by omega) (fun k => absurd k (by omega)) (fun _ _ => hpast.rise (.inr htag)), ?_, .inr htag⟩
    · rw [hb0]; exact ⟨⟨by show 0 ≤ mo.node.slot; omega, by show mo.node.slot ≤ _; omega⟩, by show 0 ≤ mo.node.gen; omega, by show mo.node.gen ≤ _; omega⟩
    · rw [hb0]; exact q2
    · rw [hb0]; show 0 ≤ mo.old.tag + 1; have := hpast.1; omega
    · rw [hb0, hsteps]
      show mo.old.tag + 1 ≤ _
      have := r.tag
      rw [hroot]; omega
    · have hgiv : ∀ l, Own t l → Own tw l := fun l h => ⟨h.nd, fun p hp => by
        obtain ⟨k, k1, k2, k3, k4⟩ := h.giv p hp
        exact ⟨k, by rw [hn]; exact k1, k2, by rw [hslot]; exact k3, by rw [hslot]; exact k4⟩⟩
      have hh' : held (m.end_ (t.tick.read (.board 0), true), mo) = wdL mo.old := by
        unfold held
        rw [if_neg (by show ¬ mo.pc = 4; omega), if_neg (by show ¬ mo.pc = 5; omega), if_pos hp, if_pos ⟨rfl, rfl⟩]
        rfl
      have hr : rootL tw = [mo.node.own] := by
        unfold rootL wdL
        rw [hb0, show (mo.old.to mo.node).nil = false from decide_eq_false (by show ¬ mo.node.slot = 0; omega)]
        rfl
      have ho2 : Own t (wdL mo.old ++ ([mo.node.own] ++ noted m ++ rest)) := by
        have : rootL t = wdL mo.old := by unfold rootL; rw [hroot]
        rw [this] at ho
        exact ho
      unfold owned
      rw [hh', hr]
      refine hgiv _ (ho2.perm ?_)
      show (wdL mo.old ++ ([mo.node.own] ++ noted m ++ rest)).Perm ([mo.node.own] ++ (wdL mo.old ++ noted m ++ rest))
      have e1 : wdL mo.old ++ ([mo.node.own] ++ noted m ++ rest) = (wdL mo.old ++ [mo.node.own]) ++ (noted m ++ rest) := by simp
      have e2 : [mo.node.own] ++ (wdL mo.old ++ noted m ++ rest) = ([mo.node.own] ++ wdL mo.old) ++ (noted m ++ rest) := by simp
      rw [e1, e2]
      exact List.Perm.append_right _ List.perm_append_comm
theorem step_9 (c : Com thr most me t.steps m) (hfew : Few thr most m) (r : RI n t) (hst : t.steps + 1 ≤ 90000) (ho : Own t (rootL t ++ (owned (m, mo) ++ rest))) (hp : mo.pc = 7) (hb : m.st.busy = true) (hk : m.st.call.kind = 9) (hd : m.st.done = 1)
    (hac : m.st.acc = ⟨5, 0, 0, 0, mo.node, zw⟩) : t.can m.st.acc = true ∧ Stp n thr most me t (t.step m.st.acc).1 (t.step m.st.acc).2 (m, mo) rest := by
  obtain ⟨h1, h2, h3, h4, h5, h6⟩ := c.hz hfew r.steps
  have hf0 := few_busy hfew hk (by decide)
  have hh : held (m, mo) = [mo.node.own] := by
    unfold held
    rw [if_neg (by show ¬ mo.pc = 4; omega), if_neg (by show ¬ mo.pc = 5; omega), if_neg (by show ¬ mo.pc = 6; omega), if_pos hp, if_pos ⟨hb, hk⟩]
  unfold owned at ho
  rw [hh] at ho
  have hperm : (rootL t ++ ([mo.node.own] ++ noted m ++ rest)).Perm (mo.node.own :: (rootL t ++ (noted m ++ rest))) := by
    rw [List.append_assoc]
    exact List.perm_middle
  have ho2 := ho.perm hperm
  obtain ⟨k, k1, k2, k3, k4⟩ := ho2.giv _ (List.mem_cons_self ..)
  have hsl : mo.node.slot = (k : Int) + 1 := k2
  have hgen : ((t.slot k).gen : Int) = mo.node.gen := k4
  have hcan : t.can m.st.acc = true := by rw [hac]; exact can_free t _ rfl (by show 1 ≤ mo.node.slot ∧ mo.node.slot ≤ t.n; omega)
  have hok := St.step_ok r.ok m.st.acc hcan
  have es : t.step m.st.acc = (t.tick.take k, zw, true) := by rw [hac]; exact step_take (a := ⟨5, 0, 0, 0, mo.node, zw⟩) rfl k k1 hsl k3 hgen
  have hz : HazOk m (t.step m.st.acc).2 := ⟨h1, h2, h3, h4, h5, h6, .inr (.inr (.inr (.inr (.inr (.inl ⟨hk, .inr hd⟩)))))⟩
  refine ⟨hcan, hz, ?_⟩
  show RI n _ ∧ Lc n thr most me _ (m.goOn _, mo) ∧ Own _ (_ ++ (owned (m.goOn _, mo) ++ rest)) ∧ _
  rw [drop_over _ hk hd]
  rw [es] at hok ⊢
  have hown : mo.node.own = ((k : Int) + 1, mo.node.gen) := by unfold Wd.own; rw [hsl]
  rw [hown] at ho2
  have ho3 := ho2.del
  refine ⟨⟨r.small, r.le, r.tag0, by show (t.board 0).tag ≤ ((t.steps + 1 : Nat) : Int); have := r.tag; omega, hst, r.tn, r.tm, hok⟩, idle_at c hf0 rfl (by omega) (fun k => absurd k (by omega)) (fun _ k => absurd k (by omega)), ?_, .inl rfl⟩
  have hh' : held (m.ok, mo) = [] := by
    unfold held
    rw [if_neg (by show ¬ mo.pc = 4; omega), if_neg (by show ¬ mo.pc = 5; omega), if_neg (by show ¬ mo.pc = 6; omega), if_pos hp, if_neg (by intro k; have k1 : false = true := k.1; cases k1)]
  unfold owned
  rw [hh']
  exact ho3
theorem step_11 (c : Com thr most me t.steps m) (hfew : Few thr most m) (r : RI n t) (hst : t.steps + 1 ≤ 90000) (ho : Own t (rootL t ++ (owned (m, mo) ++ rest))) (hp : mo.pc = 7) (hb : m.st.busy = true) (hk : m.st.call.kind = 11) (hd : m.st.done = 7)
    (hac : m.st.acc = ⟨1, 0, 0, ((25 + m.st.said.length : Nat) : Int), zw, zw⟩) (hsl : m.st.said.length < 9 * thr) (hpos : m.st.pos = 0) : t.can m.st.acc = true ∧ Stp n thr most me t (t.step m.st.acc).1 (t.step m.st.acc).2 (m, mo) rest := by
  obtain ⟨h1, h2, h3, h4, h5, h6⟩ := c.hz hfew r.steps
  have hth := c.th6
  have hthr := c.thr_
  have hfew' : m.notes.length ≤ max most (9 * thr + 1) := by
    unfold Few at hfew
    rw [show scans m = true by unfold scans; rw [hb, hk]; rfl] at hfew
    simpa using hfew
  have hcan : t.can m.st.acc = true := by rw [hac]; exact can_board (.inl rfl) _ (by rw [r.tm]; omega) _ _
  obtain ⟨d, hd'⟩ : ∃ d, d = t.board (25 + m.st.said.length) := ⟨_, rfl⟩
  have es : t.step m.st.acc = (t.tick, d, true) := by rw [hac, hd']; exact step_load _ (by rw [r.tm]; omega)
  have hsw : m.saysWords = true := by unfold Rt.saysWords; rw [h1]; rfl
  have hss : m.saysSpan = false := by unfold Rt.saysSpan; rw [h1]; rfl
  have hlen2 : (setSaid m d).st.said.length = m.st.said.length + 1 := by show (m.st.said ++ [d]).length = _; simp
  have r' : RI n t.tick := r.same (Same0.tick t) ⟨r.ok.lt, r.ok.nodup, r.ok.mem, r.ok.gen, Nat.le_succ_of_le r.ok.made, r.ok.size, r.ok.cells⟩ hst
  have hh : held (m, mo) = [] := by
    unfold held
    rw [if_neg (by show ¬ mo.pc = 4; omega), if_neg (by show ¬ mo.pc = 5; omega), if_neg (by show ¬ mo.pc = 6; omega), if_pos hp, if_neg (by intro k; have k1 : m.st.call.kind = 9 := k.2; rw [hk] at k1; exact absurd k1 (by decide))]
  unfold owned at ho
  rw [hh] at ho
  have ho' : Own t.tick (rootL t.tick ++ (noted m ++ rest)) := own_same (Same0.tick t) ho
  have e1 : m.goOn (d, true) = if (setSaid m d).more = true then (setSaid m d).hear else if (setSaid m d).eng = 4 ∧ mayTurn (setSaid m d).st.clock.num (setSaid m d).st.said then (setSaid m d).turn else (setSaid m d).heardAll (d, true) := by
    have : m.goOn (d, true) = m.scan (d, true) := by simp [Rt.goOn, hk]
    rw [this]
    unfold Rt.scan
    rw [if_neg (by rw [hd]; decide), if_neg (by rw [hd]; decide), if_pos hd]
    rfl
  have hmore : (setSaid m d).more = decide (m.st.said.length + 1 < thr * 9) := by
    unfold Rt.more
    rw [show (setSaid m d).saysWords = true from hsw, show (setSaid m d).saysSpan = false from hss, hlen2, show (setSaid m d).thr = thr from hthr]
    simp
  refine ⟨hcan, ?_⟩
  rw [es]
  refine ⟨⟨h1, h2, h3, h4, h5, h6, .inr (.inr (.inr (.inr (.inr (.inr (.inr (.inr ?_)))))))⟩, r', ?_⟩
  · by_cases hlt : m.st.said.length + 1 < thr * 9
    · exact .inl ⟨hk, hd, by rw [hthr]; exact hlt⟩
    · refine .inr (.inl ⟨hk, hd, by show m.st.said.length + 1 = m.thr * 9; rw [hthr]; omega, ?_⟩)
      refine freeOk_of (fun a => !((setSaid m d).keeps d.num a)) ?_
      show (setSaid m d).loose _ = _
      unfold Rt.loose
      show m.notes.filter _ = (m.notes.drop m.st.pos).filter _
      rw [hpos]; rfl
  · show Lc n thr most me t.tick (m.goOn (d, true), mo) ∧ Own t.tick (rootL t.tick ++ (owned (m.goOn (d, true), mo) ++ rest)) ∧ _
    rw [e1, hmore]
    by_cases hlt : m.st.said.length + 1 < thr * 9
    · rw [if_pos (decide_eq_true hlt)]
      have eh : (setSaid m d).hear = (setSaid m d).load (0, 0, ((25 + (setSaid m d).st.said.length : Nat) : Int)) 7 := by
        unfold Rt.hear
        rw [show (setSaid m d).saysWords = true from hsw, if_pos rfl]
        congr 3
        unfold keepAt
        omega
      rw [eh]
      refine ⟨⟨c.step _, few_scan hfew' (by unfold scans; show (m.st.busy && decide (m.st.call.kind = 11)) = true; rw [hb, hk]; rfl), .inr ⟨hb, .inr (.inr (.inr (.inr (.inr (.inr (.inr (.inl ⟨hp, hk, rfl, rfl, ?_, hpos⟩)))))))⟩⟩, ?_, .inl rfl⟩
      · show (setSaid m d).st.said.length < _
        rw [hlen2]; omega
      · have hh' : held ((setSaid m d).load (0, 0, ((25 + (setSaid m d).st.said.length : Nat) : Int)) 7, mo) = [] := by
          unfold held
          rw [if_neg (by show ¬ mo.pc = 4; omega), if_neg (by show ¬ mo.pc = 5; omega), if_neg (by show ¬ mo.pc = 6; omega), if_pos hp, if_neg (by intro k; have k1 : m.st.call.kind = 9 := k.2; rw [hk] at k1; exact absurd k1 (by decide))]
        unfold owned
        rw [hh']
        exact ho'
    · rw [if_neg (by simpa using hlt), if_neg (by intro k; have k1 : m.eng = 4 := k.1; rw [h1] at k1; exact absurd k1 (by decide))]
      unfold Rt.heardAll
      rw [if_neg (by intro k; have k1 : m.eng = 4 := k; rw [h1] at k1; exact absurd k1 (by decide))]
      unfold Rt.free
      have hlo : (setSaid m d).loose d.num = m.notes.filter (fun a => !sk (setSaid m d).st.said a) := by
        unfold Rt.loose
        show m.notes.filter _ = _
        congr 1
        funext a
        congr 1
        unfold Rt.keeps
        rw [if_pos (show (setSaid m d).eng = 2 from h1)]
        rfl
      rw [hlo]
      have := rel_any (n := n) (thr := thr) (most := most) (me := me) (t' := t.tick) (mo := mo) (rest := rest) (m0 := { setSaid m d with st := { (setSaid m d).st with free := m.notes.filter (fun a => !sk (setSaid m d).st.said a) } }) (A := []) (C := m.notes)
        (c.step _) hb hk (by show (setSaid m d).st.said.length = _; rw [hlen2]; omega) hp rfl hpos (fun y hy => by cases hy) rfl hfew' ho'
      exact ⟨this.1, this.2, .inl rfl⟩
theorem step_11f (c : Com thr most me t.steps m) (hfew : Few thr most m) (r : RI n t) (hst : t.steps + 1 ≤ 90000) (ho : Own t (rootL t ++ (owned (m, mo) ++ rest))) (hp : mo.pc = 7) (hb : m.st.busy = true) (hk : m.st.call.kind = 11) (hd : m.st.done = 8)
    (hsl : m.st.said.length = 9 * thr) {A C : List Nt} {x : Nt} (hN : m.notes = A ++ x :: C) (hpos : m.st.pos = A.length) (hA : ∀ y ∈ A, sk m.st.said y = true) (hf : m.st.free = C.filter (fun y => !sk m.st.said y)) (hac : m.st.acc = ⟨5, 0, 0, 0, x.ref, zw⟩) :
    t.can m.st.acc = true ∧ Stp n thr most me t (t.step m.st.acc).1 (t.step m.st.acc).2 (m, mo) rest := by
  obtain ⟨h1, h2, h3, h4, h5, h6⟩ := c.hz hfew r.steps
  have hfew' : m.notes.length ≤ max most (9 * thr + 1) := by
    unfold Few at hfew
    rw [show scans m = true by unfold scans; rw [hb, hk]; rfl] at hfew
    simpa using hfew
  have hh : held (m, mo) = [] := by
    unfold held
    rw [if_neg (by show ¬ mo.pc = 4; omega), if_neg (by show ¬ mo.pc = 5; omega), if_neg (by show ¬ mo.pc = 6; omega), if_pos hp, if_neg (by intro k; have k1 : m.st.call.kind = 9 := k.2; rw [hk] at k1; exact absurd k1 (by decide))]
  unfold owned at ho
  rw [hh] at ho
  have hnt : noted m = (A.map fun x => x.ref.own) ++ (x.ref.own :: C.map fun x => x.ref.own) := by
    unfold noted
    rw [hN, List.map_append, List.map_cons]
  have hst' : m.strike true = { m with notes := A ++ C, freed := m.freed + 1 } := by
    unfold Rt.strike
    rw [if_pos rfl, hpos, hN, List.eraseIdx_append_of_length_le (Nat.le_refl _)]
    simp
  have hperm : (rootL t ++ (noted m ++ rest)).Perm (x.ref.own :: (rootL t ++ (noted { m with notes := A ++ C, freed := m.freed + 1 } ++ rest))) := by
    rw [hnt]
    show (rootL t ++ (((A.map fun x => x.ref.own) ++ (x.ref.own :: C.map fun x => x.ref.own)) ++ rest)).Perm (x.ref.own :: (rootL t ++ ((A ++ C).map (fun x => x.ref.own) ++ rest)))
    rw [List.map_append]
    refine List.Perm.trans (List.Perm.append_left _ (List.Perm.append_right _ List.perm_middle)) ?_
    exact List.perm_middle
  have ho2 := ho.perm hperm
  obtain ⟨k, k1, k2, k3, k4⟩ := ho2.giv _ (List.mem_cons_self ..)
  have hsl' : x.ref.slot = (k : Int) + 1 := k2
  have hgen : ((t.slot k).gen : Int) = x.ref.gen := k4
  have hcan : t.can m.st.acc = true := by rw [hac]; exact can_free t _ rfl (by show 1 ≤ x.ref.slot ∧ x.ref.slot ≤ t.n; omega)
  have hok := St.step_ok r.ok m.st.acc hcan
  have es : t.step m.st.acc = (t.tick.take k, zw, true) := by rw [hac]; exact step_take (a := ⟨5, 0, 0, 0, x.ref, zw⟩) rfl k k1 hsl' k3 hgen
  have hown : x.ref.own = ((k : Int) + 1, x.ref.gen) := by unfold Wd.own; rw [hsl']
  rw [hown] at ho2
  have ho3 : Own (t.tick.take k) (rootL (t.tick.take k) ++ (noted { m with notes := A ++ C, freed := m.freed + 1 } ++ rest)) := ho2.del
  have e1 : m.goOn (zw, true) = (m.strike true).release := by
    have : m.goOn (zw, true) = m.scan (zw, true) := by simp [Rt.goOn, hk]
    rw [this]
    unfold Rt.scan
    rw [if_neg (by rw [hd]; decide), if_neg (by rw [hd]; decide), if_neg (by rw [hd]; decide), if_neg (by rw [hd]; decide), if_neg (by rw [hd]; decide), if_pos hd]
  refine ⟨hcan, ?_⟩
  rw [es] at hok ⊢
  refine ⟨⟨h1, h2, h3, h4, h5, h6, .inr (.inr (.inr (.inr (.inr (.inr (.inr (.inr (.inr (.inr ⟨hk, hd, ?_, ?_⟩)))))))))⟩, ⟨r.small, r.le, r.tag0, by show (t.board 0).tag ≤ ((t.steps + 1 : Nat) : Int); have := r.tag; omega, hst, r.tn, r.tm, hok⟩, ?_⟩
  · rw [hpos, hN]; simp
  · refine freeOk_of (fun y => !sk m.st.said y) ?_
    rw [hst']
    show m.st.free = ((A ++ C).drop m.st.pos).filter _
    rw [hpos, List.drop_left, hf]
  · show Lc n thr most me (t.tick.take k) (m.goOn (zw, true), mo) ∧ Own (t.tick.take k) (rootL (t.tick.take k) ++ (owned (m.goOn (zw, true), mo) ++ rest)) ∧ _
    rw [e1, hst']
    have hcom : Com thr most me (t.steps + 1) { m with notes := A ++ C, freed := m.freed + 1 } := ⟨c.eng, c.me_, c.lt, c.thr_, c.th6, c.most_, c.mo1, c.span, c.kept, Nat.succ_le_succ c.freed⟩
    have := rel_any (n := n) (t' := t.tick.take k) (mo := mo) (m0 := { m with notes := A ++ C, freed := m.freed + 1 }) (A := A) (C := C) hcom hb hk hsl hp rfl hpos hA hf (by show (A ++ C).length ≤ _; rw [hN] at hfew'; simp only [List.length_append, List.length_cons] at hfew' ⊢; omega) ho3
    exact ⟨this.1, this.2, .inl rfl⟩
theorem step_0 (c : Com thr most me t.steps m) (hfew : Few thr most m) (r : RI n t) (hst : t.steps + 1 ≤ 90000) (ho : Own t (rootL t ++ (owned (m, mo) ++ rest))) (hp : mo.pc = 0) (hk : m.st.call.kind = 2)
    (hac : m.st.acc = ⟨2, 0, 0, ((keepAt me 0 : Nat) : Int), zw, zw⟩) (hk0 : m.kept 0 = zw) : t.can m.st.acc = true ∧ Stp n thr most me t (t.step m.st.acc).1 (t.step m.st.acc).2 (m, mo) rest := by
  have hlt : keepAt me 0 < 85 := by unfold keepAt; have := c.lt; omega
  have h25 : 25 ≤ keepAt me 0 := by unfold keepAt; omega
  obtain ⟨g1, g2, g3, g4, g5⟩ := step_same c hfew r hst hac (can_board (.inr (.inl rfl)) _ (by rw [r.tm]; exact hlt) _ _) (same0_step (.inr ⟨rfl, by intro k; have := k.2.2; have e : (((keepAt me 0 : Nat) : Int)) = 0 := this; omega⟩))
  obtain ⟨h1, h2, h3, h4, h5, h6⟩ := c.hz hfew r.steps
  have hf0 := few_busy hfew hk (by decide)
  have eg : ∀ x, m.goOn x = m.ok := fun x => by
    have : m.goOn x = m.leave := by simp [Rt.goOn, hk]
    rw [this]
    unfold Rt.leave
    rw [fk_one m.kept c.kept, if_pos hk0]
    show (if m.span = zs then _ else _) = _
    rw [if_pos h4]
  refine ⟨g1, ⟨h1, h2, h3, h4, h5, h6, .inr (.inl hk)⟩, g2, ?_, ?_, .inl g3⟩
  · show Lc n thr most me _ (m.goOn _, mo)
    rw [eg]
    exact idle_at c hf0 g4 (by omega) (fun k => absurd k (by omega)) (fun k => absurd k (by omega))
  · show Own _ (_ ++ (owned (m.goOn _, mo) ++ rest))
    rw [eg]
    have := own_same g5 ho
    unfold owned noted at this ⊢
    rw [held_pc (a := (m.ok, mo)) (a' := (m, mo)) rfl (by show mo.pc < 4; omega)]
    exact this
/-- Any access. -/
theorem step_any {a : Rt × Mo} (h : Lc n thr most me t a) (r : RI n t) (hst : t.steps + 1 ≤ 90000) (ho : Own t (rootL t ++ (owned a ++ rest))) (hb : a.1.st.busy = true) :
    t.can a.1.st.acc = true ∧ Stp n thr most me t (t.step a.1.st.acc).1 (t.step a.1.st.acc).2 a rest := by
  obtain ⟨m, mo⟩ := a
  rcases h.ph with ⟨k, _⟩ | ⟨_, k⟩
  · rw [hb] at k; cases k
  have hb : m.st.busy = true := hb
  rcases k with ⟨hp, hcl, ⟨hd, hac⟩ | ⟨hd, w, hac⟩⟩ | ⟨hp, hk, hd, ⟨s, g, f, hac, hs⟩, hpa⟩ | ⟨hp, hk, hd, hac, hpa⟩ | ⟨hp, hk, hd, ⟨d, hac⟩, hpa⟩ | ⟨hp, hk, hd, hac, hpa⟩ | ⟨hp, hk, hd, hac⟩ | ⟨hp, hk, hd, hac⟩ | ⟨hp, hk, hd, hac, hsl, hpo⟩ | ⟨hp, hk, hd, hsl, A, x, C, hN, hpo, hA, hf, hac⟩ | ⟨hp, hk, hac, hk0⟩
  · exact step_2a h.com h.few r hst ho hp hcl hb hd hac
  · exact step_2b h.com h.few r hst ho hp hcl hb hd w hac
  · have hp : mo.pc = 3 := hp
    refine step_over h.com h.few r hst ho hac ?_ (same0_step (.inl rfl)) (.inl hk) hd (by omega) (by omega) (fun _ _ => hpa) (fun x => held_pc (a := (m.end_ x, mo)) (a' := (m, mo)) rfl (by show mo.pc < 4; omega))
    rcases hs with ⟨rfl, rfl, rfl⟩ | ⟨s1, s2, s3⟩
    · exact can_board (t := t) (k := 1) (.inl rfl) 0 (by rw [r.tm]; omega) _ _
    · exact can_slot r (.inl rfl) s1 s2 s3
  · exact step_4 h.com h.few r hst ho hp hb hk hd hac hpa
  · have hp : mo.pc = 5 := hp
    have hh : ∀ m' : Rt, held (m', mo) = [mo.node.own] := fun m' => by
      unfold held
      rw [if_neg (by show ¬ mo.pc = 4; omega), if_pos hp]
    have hg : Given t mo.node.own := ho.giv _ (by unfold owned; rw [hh]; simp)
    have hgs := given_small r hg
    have q1 : 1 ≤ mo.node.slot := hgs.1
    have q2 : mo.node.slot ≤ n := hgs.2.1
    exact step_over h.com h.few r hst ho hac (can_slot r (.inr (.inl rfl)) q1 q2 rfl) (same0_step (.inr ⟨rfl, by intro k; have : mo.node.slot = 0 := k.1; omega⟩)) (.inr hk) hd (by omega) (by omega) (fun _ _ => hpa) (fun x => (hh _).trans (hh _).symm)
  · exact step_6 h.com h.few r hst ho hp hb hk hd hac hpa
  · exact step_9 h.com h.few r hst ho hp hb hk hd hac
  · have hp : mo.pc = 7 := hp
    have hh : ∀ m' : Rt, (m'.st.busy = true → m'.st.call.kind = 3) → held (m', mo) = [] := fun m' hm' => by
      unfold held
      rw [if_neg (by show ¬ mo.pc = 4; omega), if_neg (by show ¬ mo.pc = 5; omega), if_neg (by show ¬ mo.pc = 6; omega), if_pos hp, if_neg (by intro k; have k1 : m'.st.call.kind = 9 := k.2; rw [hm' k.1] at k1; exact absurd k1 (by decide))]
    exact step_over h.com h.few r hst ho hac (can_board (t := t) (k := 1) (.inl rfl) 0 (by rw [r.tm]; omega) _ _) (same0_step (.inl rfl)) (.inl hk) hd (by omega) (by omega) (fun _ k => absurd k (by omega)) (fun x => (hh _ (fun k => (by cases k))).trans (hh _ (fun _ => hk)).symm)
  · exact step_11 h.com h.few r hst ho hp hb hk hd hac hsl hpo
  · exact step_11f h.com h.few r hst ho hp hb hk hd hsl hN hpo hA hf hac
  · exact step_0 h.com h.few r hst ho hp hk hac hk0
end
end Go.Proofs.YtjilhncnbkaebaaGreatDoor
