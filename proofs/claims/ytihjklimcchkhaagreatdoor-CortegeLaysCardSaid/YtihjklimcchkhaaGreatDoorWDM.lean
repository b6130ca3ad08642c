/- Words, as plain data. A template (fill.py). -/
/- Slots and the board as plain data: what an access does. A template (fill.py). -/
/- A thread's engine as plain data: one access at a time. A template (fill.py). -/
import Derived.Lib.Hide
namespace Go.Proofs.YtihjklimcchkhaaGreatDoor
structure Wd where
  slot : Int
  gen : Int
  tag : Int
  num : Int
  mark : Bool
instance (a b : Wd) : Decidable (a = b) := decidable_of_iff (a.slot = b.slot ∧ a.gen = b.gen ∧ a.tag = b.tag ∧ a.num = b.num ∧ a.mark = b.mark) (by cases a; cases b; simp)
def Wd.Good (a : Wd) : Prop := (0 ≤ a.slot ∧ a.slot ≤ 1024) ∧ (0 ≤ a.gen ∧ a.gen ≤ 1099511627776) ∧ (0 ≤ a.tag ∧ a.tag ≤ 1099511627776) ∧ (-1099511627776 ≤ a.num ∧ a.num ≤ 1099511627776) ∧ (a.slot = 0 → a.gen = 0)
instance (a : Wd) : Decidable a.Good := by unfold Wd.Good; infer_instance
end Go.Proofs.YtihjklimcchkhaaGreatDoor

namespace Go.Proofs.YtihjklimcchkhaaGreatDoor

/-- The errors that the layer plot answers. -/
inductive Flt where
  | arg | nil | freed | stale | twice
  deriving DecidableEq
/-- A slot: its generation, whether it is given, its cells. -/
structure Sl where
  gen : Nat
  given : Bool
  cell : Nat → Wd
/-- An access. -/
structure Ac where
  kind : Int
  s : Int
  g : Int
  f : Int
  old : Wd
  new : Wd
/-- A heap of slots with its board. The slot k + 1 stands at k; the row of free ones has the one that is given next at its head. -/
structure St where
  n : Nat
  m : Nat
  slot : Nat → Sl
  board : Nat → Wd
  free : List Nat
  steps : Nat
  made : Nat
  fault : Option (Nat × Flt)
/-- Where a cell is. -/
inductive Loc where
  | board (f : Nat)
  | slot (i f : Nat)
def zw : Wd := ⟨0, 0, 0, 0, false⟩
def nw (k : Int) : Wd := ⟨0, 0, 0, k, false⟩
def Wd.same (a b : Wd) : Bool := decide (a.slot = b.slot ∧ a.tag = b.tag ∧ a.num = b.num ∧ a.mark = b.mark)

def St.loc (t : St) (s g f : Int) : Option Loc :=
  if s = 0 ∧ g = 0 then (if 0 ≤ f ∧ f < t.m then some (.board f.toNat) else none)
  else if 1 ≤ s ∧ s ≤ t.n ∧ 0 ≤ f ∧ f < 10 then some (.slot (s - 1).toNat f.toNat) else none
def St.miss (t : St) (s g : Int) (x : Flt) : Option Flt :=
  if 1 ≤ s ∧ s ≤ t.n then (if (t.slot (s - 1).toNat).given = false then some x else if ((t.slot (s - 1).toNat).gen : Int) ≠ g then some .stale else none) else none
def St.can (t : St) (a : Ac) : Bool :=
  if a.kind = 1 ∨ a.kind = 2 ∨ a.kind = 3 then (t.loc a.s a.g a.f).isSome else if a.kind = 4 then true else if a.kind = 5 then decide (1 ≤ a.old.slot ∧ a.old.slot ≤ t.n) else false
def St.wrong (t : St) (a : Ac) : Option Flt :=
  if a.kind = 4 then none else if a.kind = 5 then t.miss a.old.slot a.old.gen .twice else t.miss a.s a.g .freed
def St.read (t : St) : Loc → Wd
  | .board f => t.board f
  | .slot i f => (t.slot i).cell f
def St.write (t : St) (l : Loc) (d : Wd) : St :=
  match l with
  | .board f => { t with board := fun k => if k = f then d else t.board k }
  | .slot i f => { t with slot := fun k => if k = i then { t.slot i with cell := fun h => if h = f then d else (t.slot i).cell h } else t.slot k }
def St.blame (t : St) (x : Flt) : St := { t with fault := match t.fault with | none => some (t.steps, x) | some y => some y }
def St.give (t : St) (birth : Int) : St × Wd × Bool :=
  match t.free with
  | [] => (t, zw, false)
  | i :: r => ({ t with free := r, made := t.made + 1, slot := fun k => if k = i then ⟨(t.slot i).gen + 1, true, fun h => if h = 9 then nw birth else zw⟩ else t.slot k }, ⟨(i : Int) + 1, ((t.slot i).gen : Int) + 1, 0, 0, false⟩, true)
def St.take (t : St) (i : Nat) : St := { t with free := i :: t.free, slot := fun k => if k = i then { t.slot i with given := false } else t.slot k }
def St.touch (t : St) (l : Loc) (a : Ac) : St × Wd × Bool :=
  if a.kind = 1 then (t, t.read l, true) else if a.kind = 2 then (t.write l a.new, zw, true)
  else if (t.read l).same a.old = true then (t.write l a.new, t.read l, true) else (t, t.read l, false)
/-- What an access that can be does behind its step, and its reply. -/
def St.act (t : St) (a : Ac) : St × Wd × Bool :=
  match t.wrong a with
  | some x => (t.blame x, if a.kind = 1 ∨ a.kind = 3 then nw (-1) else zw, false)
  | none =>
    if a.kind = 4 then t.give a.new.num else if a.kind = 5 then (t.take (a.old.slot - 1).toNat, zw, true)
    else match t.loc a.s a.g a.f with
      | some l => t.touch l a
      | none => (t, zw, false)
def St.step (t : St) (a : Ac) : St × Wd × Bool := ({ t with steps := t.steps + 1 } : St).act a

/-- What holds of every heap that came about. -/
structure St.Ok (t : St) : Prop where
  lt : ∀ i ∈ t.free, i < t.n
  nodup : t.free.Nodup
  mem : ∀ i, i < t.n → (i ∈ t.free ↔ (t.slot i).given = false)
  gen : ∀ i, (t.slot i).gen ≤ t.made
  made : t.made ≤ t.steps
  size : t.n ≤ 1024
  cells : t.m ≤ 200

def St.new (n m : Nat) : St := { n := n, m := m, slot := fun _ => ⟨0, false, fun _ => zw⟩, board := fun _ => zw, free := List.range n, steps := 0, made := 0, fault := none }
theorem St.new_ok (n m : Nat) (hn : n ≤ 1024) (hm : m ≤ 200) : (St.new n m).Ok :=
  ⟨fun i hi => by simpa [St.new] using hi, List.nodup_range, fun i hi => by simp [St.new]; exact hi, fun i => Nat.le_refl _, Nat.le_refl _, hn, hm⟩

theorem St.write_ok {t : St} (h : t.Ok) (l : Loc) (d : Wd) : (t.write l d).Ok := by
  cases l with
  | board f => exact ⟨h.lt, h.nodup, h.mem, h.gen, h.made, h.size, h.cells⟩
  | slot i f =>
    refine ⟨h.lt, h.nodup, fun k hk => ?_, fun k => ?_, h.made, h.size, h.cells⟩
    · have := h.mem k hk
      show k ∈ t.free ↔ (if k = i then _ else t.slot k : Sl).given = false
      by_cases e : k = i
      · subst e; rw [if_pos rfl]; exact this
      · rw [if_neg e]; exact this
    · show (if k = i then _ else t.slot k : Sl).gen ≤ t.made
      by_cases e : k = i
      · subst e; rw [if_pos rfl]; exact h.gen k
      · rw [if_neg e]; exact h.gen k
theorem St.give_ok {t : St} (h : t.Ok) (hs : t.made < t.steps) (b : Int) : (t.give b).1.Ok := by
  unfold St.give
  cases hf : t.free with
  | nil => exact h
  | cons i r =>
    have hn := h.nodup
    rw [hf] at hn
    have hi := List.nodup_cons.1 hn
    refine ⟨fun k hk => h.lt k (by rw [hf]; exact List.mem_cons_of_mem _ hk), hi.2, fun k hk => ?_, fun k => ?_, hs, h.size, h.cells⟩
    · have := h.mem k hk
      rw [hf] at this
      show k ∈ r ↔ (if k = i then _ else t.slot k : Sl).given = false
      by_cases e : k = i
      · subst e; rw [if_pos rfl]; simp [hi.1]
      · rw [if_neg e]; rw [← this]; simp [e]
    · show (if k = i then _ else t.slot k : Sl).gen ≤ t.made + 1
      by_cases e : k = i
      · subst e; rw [if_pos rfl]; exact Nat.succ_le_succ (h.gen k)
      · rw [if_neg e]; exact Nat.le_succ_of_le (h.gen k)
theorem St.take_ok {t : St} (h : t.Ok) (i : Nat) (hi : i < t.n) (hg : (t.slot i).given = true) : (t.take i).Ok := by
  have hni : i ∉ t.free := fun e => by have := (h.mem i hi).1 e; rw [hg] at this; cases this
  refine ⟨fun k hk => ?_, List.nodup_cons.2 ⟨hni, h.nodup⟩, fun k hk => ?_, fun k => ?_, h.made, h.size, h.cells⟩
  · rcases List.mem_cons.1 hk with rfl | hk
    · exact hi
    · exact h.lt k hk
  · have := h.mem k hk
    show k ∈ i :: t.free ↔ (if k = i then _ else t.slot k : Sl).given = false
    by_cases e : k = i
    · subst e; rw [if_pos rfl]; simp
    · rw [if_neg e, ← this]; simp [e]
  · show (if k = i then _ else t.slot k : Sl).gen ≤ t.made
    by_cases e : k = i
    · subst e; rw [if_pos rfl]; exact h.gen k
    · rw [if_neg e]; exact h.gen k
theorem St.touch_ok {t : St} (h : t.Ok) (l : Loc) (a : Ac) : (t.touch l a).1.Ok := by
  unfold St.touch
  split
  · exact h
  · split
    · exact St.write_ok h _ _
    · split
      · exact St.write_ok h _ _
      · exact h
theorem St.wrong_free {t : St} {a : Ac} (hk : a.kind = 5) (hw : t.wrong a = none) (hr : 1 ≤ a.old.slot ∧ a.old.slot ≤ t.n) : (t.slot (a.old.slot - 1).toNat).given = true ∧ ((t.slot (a.old.slot - 1).toNat).gen : Int) = a.old.gen := by
  unfold St.wrong at hw
  rw [if_neg (by omega), if_pos hk] at hw
  unfold St.miss at hw
  rw [if_pos hr] at hw
  split at hw
  · cases hw
  · rename_i h1
    split at hw
    · cases hw
    · rename_i h2
      exact ⟨by simpa using h1, by simpa using h2⟩
theorem St.step_ok {t : St} (h : t.Ok) (a : Ac) (hc : t.can a = true) : (t.step a).1.Ok := by
  have h1 : ({ t with steps := t.steps + 1 } : St).Ok := ⟨h.lt, h.nodup, h.mem, h.gen, Nat.le_succ_of_le h.made, h.size, h.cells⟩
  unfold St.step St.act
  split
  · exact ⟨h1.lt, h1.nodup, h1.mem, h1.gen, h1.made, h1.size, h1.cells⟩
  · rename_i hw
    split
    · exact St.give_ok h1 (Nat.lt_succ_of_le h.made) _
    · split
      · rename_i hk
        have hr : 1 ≤ a.old.slot ∧ a.old.slot ≤ t.n := by
          unfold St.can at hc
          rw [if_neg (by omega), if_neg (by omega), if_pos hk] at hc
          simpa using hc
        have := St.wrong_free hk hw hr
        exact St.take_ok h1 _ (by show _ < t.n; omega) this.1
      · split
        · exact St.touch_ok h1 _ _
        · exact h1
end Go.Proofs.YtihjklimcchkhaaGreatDoor

namespace Go.Proofs.YtihjklimcchkhaaGreatDoor

/-- A note of a slot that was retired. -/
structure Nt where
  ref : Wd
  birth : Int
  death : Int
/-- A span of eras. -/
structure Sp where
  is : Bool
  low : Int
  high : Int
instance (a b : Nt) : Decidable (a = b) := decidable_of_iff (a.ref = b.ref ∧ a.birth = b.birth ∧ a.death = b.death) (by cases a; cases b; simp)
instance : DecidableEq Nt := fun _ _ => inferInstance
instance (a b : Sp) : Decidable (a = b) := decidable_of_iff (a.is = b.is ∧ a.low = b.low ∧ a.high = b.high) (by cases a; cases b; simp)
instance : DecidableEq Wd := fun _ _ => inferInstance
/-- A call. -/
structure Cl where
  kind : Int
  s : Int
  g : Int
  f : Int
  old : Wd
  new : Wd
  i : Int
  j : Int
def za : Ac := ⟨0, 0, 0, 0, zw, zw⟩
def zc : Cl := ⟨0, 0, 0, 0, zw, zw, 0, 0⟩
def zs : Sp := ⟨false, 0, 0⟩
/-- Where the call that is under way stands. -/
structure Sta where
  last : Wd × Bool
  busy : Bool
  call : Cl
  done : Int
  acc : Ac
  seen : Wd
  clock : Wd
  said : List Wd
  free : List Nt
  pos : Nat
/-- A rite. -/
structure Rt where
  st : Sta
  eng : Int
  me : Nat
  thr : Nat
  most : Nat
  kept : Nat → Wd
  span : Sp
  notes : List Nt
  freed : Nat

def Sta.zero : Sta := ⟨(zw, false), false, zc, 0, za, zw, zw, [], [], 0⟩
def Rt.new (e : Int) (me thr most : Nat) : Rt := ⟨.zero, e, me, thr, most, fun _ => zw, zs, [], 0⟩
def Sta.begin_ (s : Sta) (c : Cl) : Sta := ⟨s.last, true, c, 0, za, zw, zw, [], [], 0⟩
def Sta.end_ (_ : Sta) (x : Wd × Bool) : Sta := ⟨x, false, zc, 0, za, zw, zw, [], [], 0⟩
def Sta.ask (s : Sta) (a : Ac) (d : Int) : Sta := { s with acc := a, done := d }
def Sta.load (s : Sta) (at_ : Int × Int × Int) (d : Int) : Sta := s.ask ⟨1, at_.1, at_.2.1, at_.2.2, zw, zw⟩ d
def Sta.put (s : Sta) (f : Nat) (w : Wd) : Sta := s.ask ⟨2, 0, 0, (f : Int), zw, w⟩ 2

def Wd.ref (w : Wd) : Wd := ⟨w.slot, w.gen, 0, 0, false⟩
def Wd.nil (w : Wd) : Bool := decide (w.slot = 0)
def Wd.to (w n : Wd) : Wd := ⟨n.slot, n.gen, w.tag + 1, 0, false⟩
def Wd.count (w : Wd) (n : Int) : Wd := ⟨0, 0, w.tag + 1, w.num + n, false⟩
/-- The board's cells. -/
def keepAt (u n : Nat) : Nat := 25 + u * 9 + n
def spanAt (u : Nat) : Nat := 79 + u

section
variable (r : Rt) (x : Wd × Bool)
def Rt.end_ (x : Wd × Bool) : Rt := { r with st := r.st.end_ x }
def Rt.ok : Rt := r.end_ (zw, true)
def Rt.ask (a : Ac) (d : Int) : Rt := { r with st := r.st.ask a d }
def Rt.load (at_ : Int × Int × Int) (d : Int) : Rt := { r with st := r.st.load at_ d }
def Rt.loadClock (d : Int) : Rt := r.load (0, 0, 24) d
def Rt.say (n : Nat) (w : Wd) : Rt := { r with kept := fun k => if k = n then w else r.kept k, st := r.st.put (keepAt r.me n) w }
/-- The word of a span. -/
def Sp.word (s : Sp) : Wd := if s.is = false ∧ s.low = 0 ∧ s.high = 0 then zw else ⟨0, 0, s.high, s.low, true⟩
def Wd.hear (w : Wd) : Sp := if w.mark then ⟨true, w.num, w.tag⟩ else zs
def Rt.saySpan (s : Sp) : Rt := { r with span := s, st := r.st.put (spanAt r.me) s.word }
def Rt.saysSpan : Bool := decide (r.eng = 4) || decide (r.eng = 5)
def Rt.saysWords : Bool := decide (r.eng = 2) || decide (r.eng = 3)
def Rt.countsEras : Bool := decide (r.eng = 3) || decide (r.eng = 5)

def Rt.enter : Rt :=
  if r.st.done = 0 then (if r.saysSpan then r.loadClock 4 else r.ok)
  else if r.st.done = 4 then r.saySpan ⟨true, x.1.num, x.1.num⟩
  else if r.st.done = 2 then r.ok else r
/-- The first announcement, from n on, that isn't zero. -/
def firstKept (k : Nat → Wd) : Nat → Nat → Option Nat
  | _, 0 => none
  | n, m + 1 => if k n = zw then firstKept k (n + 1) m else some n
def Rt.leave : Rt :=
  match firstKept r.kept 0 9 with
  | some n => r.say n zw
  | none => if r.span = zs then r.ok else r.saySpan zs
def Rt.touch : Rt :=
  if r.st.done = 1 then r.end_ x
  else r.ask ⟨1 + r.st.call.kind - 3, r.st.call.s, r.st.call.g, r.st.call.f, r.st.call.old, r.st.call.new⟩ 1
def upTo (s : Sp) (now : Int) : Sp := ⟨true, if s.is then s.low else now, now⟩
def Rt.keep (now : Int) : Rt :=
  let i := r.st.call.i.toNat
  let done := r.end_ (r.st.seen, true)
  if r.eng = 2 then (if r.st.seen.nil = false ∧ r.kept i ≠ r.st.seen.ref then r.say i r.st.seen.ref else done)
  else if r.eng = 3 then (if r.kept i = zw ∨ (r.kept i).num ≠ now then r.say i (nw now) else done)
  else if r.eng = 5 then (if r.span.is = false ∨ r.span.high ≠ now then r.saySpan (upTo r.span now) else done)
  else done
def Rt.see (w : Wd) : Rt := { r with st := { r.st with seen := w } }
def Rt.protect : Rt :=
  if r.st.done = 2 ∨ r.st.done = 0 then r.load (r.st.call.s, r.st.call.g, r.st.call.f) 1
  else if r.st.done = 1 then (if r.countsEras then (r.see x.1).loadClock 4 else (r.see x.1).keep x.1.num)
  else if r.st.done = 4 then r.keep x.1.num else r
def Rt.hold : Rt :=
  let w := r.kept r.st.call.j.toNat
  if r.kept r.st.call.i.toNat = w then r.ok else r.say r.st.call.i.toNat w
def Rt.askNew (n : Int) : Rt := r.ask ⟨4, 0, 0, 0, zw, nw n⟩ 1
def Rt.alloc : Rt :=
  if r.st.done = 0 then (if r.countsEras then r.loadClock 4 else r.askNew x.1.num)
  else if r.st.done = 4 then r.askNew x.1.num
  else if r.st.done = 1 then r.end_ x else r
def Rt.drop : Rt := if r.st.done = 1 then r.ok else r.ask ⟨5, 0, 0, 0, r.st.call.old, zw⟩ 1

def slotK (w : Wd) (n : Nt) : Bool := decide (w.slot = n.ref.slot)
def eraK (e : Int) (n : Nt) : Bool := decide (0 < e ∧ n.birth ≤ e ∧ e ≤ n.death)
def spanK (s : Sp) (n : Nt) : Bool := s.is && decide (s.low ≤ n.death ∧ n.birth ≤ s.high)
def epochK (now : Int) (n : Nt) : Bool := decide (now - 2 < n.death)
/-- What is kept by what was heard. -/
def Rt.keeps (now : Int) (n : Nt) : Bool :=
  if r.eng = 2 then r.st.said.any fun w => slotK w n
  else if r.eng = 3 then r.st.said.any fun w => eraK w.num n
  else if r.eng = 4 then epochK now n
  else if r.eng = 5 then r.st.said.any fun w => spanK w.hear n
  else true
def Rt.loose (now : Int) : List Nt := r.notes.filter fun n => !r.keeps now n
/-- Where x stands in l, from n on. -/
def idxFrom (x : Nt) (l : List Nt) (n : Nat) : Nat := n + (l.drop n).findIdx (fun y => decide (y = x))
def Rt.release : Rt :=
  match r.st.free with
  | [] => r.ok
  | x :: l => { r with st := ({ r.st with free := l, pos := idxFrom x r.notes r.st.pos } : Sta).ask ⟨5, 0, 0, 0, x.ref, zw⟩ 8 }
def Rt.strike (gone : Bool) : Rt :=
  if gone then { r with notes := r.notes.eraseIdx r.st.pos, freed := r.freed + 1 } else { r with st := { r.st with pos := r.st.pos + 1 } }
def Rt.more : Bool := (r.saysWords && decide (r.st.said.length < r.thr * 9)) || (r.saysSpan && decide (r.st.said.length < r.thr))
def Rt.hear : Rt :=
  let n := r.st.said.length
  if r.saysWords then r.load (0, 0, (keepAt (n / 9) (n % 9) : Nat)) 7 else r.load (0, 0, (spanAt n : Nat)) 7
def Rt.turn : Rt := r.ask ⟨3, 0, 0, 24, r.st.clock, r.st.clock.count 1⟩ 5
def mayTurn (now : Int) (l : List Wd) : Bool := l.all fun w => !(w.hear.is && decide (w.hear.low ≠ now))
/-- A scan, behind what was heard. -/
def Rt.free (now : Int) : Rt := ({ r with st := { r.st with free := r.loose now } } : Rt).release
def Rt.heardAll : Rt := if r.eng = 4 then r.loadClock 6 else r.free x.1.num
def Rt.setClock (w : Wd) : Rt := { r with st := { r.st with clock := w } }
def Rt.hearFirst : Rt := let r := r.setClock x.1; if r.more then r.hear else r
def Rt.scan : Rt :=
  if r.st.done = 0 then (if r.eng = 1 then r.ok else if r.eng = 4 then r.loadClock 4 else r.hearFirst x)
  else if r.st.done = 4 then r.hearFirst x
  else if r.st.done = 7 then
    let r : Rt := { r with st := { r.st with said := r.st.said ++ [x.1] } }
    if r.more then r.hear
    else if r.eng = 4 ∧ mayTurn r.st.clock.num r.st.said then r.turn
    else r.heardAll x
  else if r.st.done = 5 then r.heardAll x
  else if r.st.done = 6 then r.free x.1.num
  else if r.st.done = 8 then (r.strike x.2).release else r
def Rt.note : Rt := { r with notes := r.notes ++ [⟨r.st.call.old.ref, r.st.seen.num, r.st.clock.num⟩] }
def Rt.asBelow : Rt := if r.notes.length < r.most then r.ok else ({ r with st := r.st.begin_ { zc with kind := 11 } } : Rt).scan (zw, false)
def Rt.noted : Rt := let r := (r.setClock x.1).note; if r.countsEras then r.turn else r.asBelow
def Rt.born : Rt := let r := r.see x.1; if r.eng = 2 then r.noted x else r.loadClock 4
def Rt.retire : Rt :=
  if r.st.done = 0 then (if r.eng = 1 then r.ok else if r.countsEras then r.load (r.st.call.old.slot, r.st.call.old.gen, 9) 3 else r.born x)
  else if r.st.done = 3 then r.born x
  else if r.st.done = 4 then r.noted x
  else if r.st.done = 5 then r.asBelow else r
def Rt.goOn : Rt :=
  let k := r.st.call.kind
  if k = 1 then r.enter x else if k = 2 then r.leave else if k = 3 ∨ k = 4 ∨ k = 5 then r.touch x
  else if k = 6 then r.protect x else if k = 7 then r.hold else if k = 8 then r.alloc x else if k = 9 then r.drop
  else if k = 10 then r.retire x else if k = 11 then r.scan x else r
/-- A call is begun. -/
def Rt.begins (c : Cl) : Rt := ({ r with st := r.st.begin_ c } : Rt).goOn (zw, false)
end
def Cl.can (c : Cl) : Bool := if c.kind = 6 ∨ c.kind = 7 then decide (0 ≤ c.i ∧ c.i ≤ 8 ∧ 0 ≤ c.j ∧ c.j ≤ 8) else decide (1 ≤ c.kind ∧ c.kind ≤ 11)

/-! ### a thread that takes what the root has -/
structure Mo where
  pc : Nat
  old : Wd
  node : Wd
  bad : Bool
  stop : Bool
def Mo.new : Mo := ⟨0, zw, zw, false, false⟩
def markOf (w : Wd) : Int := w.slot + 2000 * w.gen
def cl (k : Int) : Cl := { zc with kind := k }
def loadRoot : Cl := { zc with kind := 3 }
/-- What a thread asks next, and what it is then. -/
def Mo.next (m : Mo) (x : Wd × Bool) : Mo × Cl :=
  match m.pc with
  | 0 => ({ m with pc := 1 }, cl 1)
  | 1 => ({ m with pc := 2 }, { zc with kind := 6 })
  | 2 => ({ m with pc := 3, old := x.1 }, if x.1.nil then loadRoot else { zc with kind := 3, s := x.1.slot, g := x.1.gen, f := 1 })
  | 3 => ({ m with pc := 4, bad := m.bad || (!m.old.nil && decide (x.1.num ≠ markOf m.old)) }, cl 8)
  | 4 => if x.2 then ({ m with pc := 5, node := x.1 }, { zc with kind := 4, s := x.1.slot, g := x.1.gen, f := 1, new := nw (markOf x.1) }) else ({ m with pc := 0 }, cl 2)
  | 5 => ({ m with pc := 6 }, { zc with kind := 5, old := m.old, new := m.old.to m.node })
  | 6 => ({ m with pc := 7 }, if x.2 = false then { zc with kind := 9, old := m.node } else if m.old.nil then loadRoot else { zc with kind := 10, old := m.old })
  | _ => ({ m with pc := 0 }, cl 2)
/-- Calls are begun till one takes an access. -/
def begun : Nat → Rt × Mo → Rt × Mo
  | 0, a => a
  | n + 1, (r, m) => if r.st.busy then (r, m) else if m.stop && m.pc == 0 then (r, m) else begun n (r.begins (m.next r.st.last).2, (m.next r.st.last).1)
end Go.Proofs.YtihjklimcchkhaaGreatDoor
