/- Slots and the board as plain data: what an access does. A template (fill.py). -/
import Derived.Test.YtjilhncnbkaebaaGreatDoorWd
namespace Go.Proofs.YtjilhncnbkaebaaGreatDoor

/-- The errors that the layer plot answers. -/
inductive Flt where
  | arg | nil | freed | stale | twice
  deriving DecidableEq
/-- A slot: its generation, whether it is given, its cells. -/
structure Sl where
  gen : Nat
  given : Bool
  cell : Nat → Wd
/-- An access. -/
structure Ac where
  kind : Int
  s : Int
  g : Int
  f : Int
  old : Wd
  new : Wd
/-- A heap of slots with its board. The slot k + 1 stands at k; the row of free ones has the one that is given next at its head. -/
structure St where
  n : Nat
  m : Nat
  slot : Nat → Sl
  board : Nat → Wd
  free : List Nat
  steps : Nat
  made : Nat
  fault : Option (Nat × Flt)
/-- Where a cell is. -/
inductive Loc where
  | board (f : Nat)
  | slot (i f : Nat)
def zw : Wd := ⟨0, 0, 0, 0, false⟩
def nw (k : Int) : Wd := ⟨0, 0, 0, k, false⟩
def Wd.same (a b : Wd) : Bool := decide (a.slot = b.slot ∧ a.tag = b.tag ∧ a.num = b.num ∧ a.mark = b.mark)

def St.loc (t : St) (s g f : Int) : Option Loc :=
  if s = 0 ∧ g = 0 then (if 0 ≤ f ∧ f < t.m then some (.board f.toNat) else none)
  else if 1 ≤ s ∧ s ≤ t.n ∧ 0 ≤ f ∧ f < 10 then some (.slot (s - 1).toNat f.toNat) else none
def St.miss (t : St) (s g : Int) (x : Flt) : Option Flt :=
  if 1 ≤ s ∧ s ≤ t.n then (if (t.slot (s - 1).toNat).given = false then some x else if ((t.slot (s - 1).toNat).gen : Int) ≠ g then some .stale else none) else none
def St.can (t : St) (a : Ac) : Bool :=
  if a.kind = 1 ∨ a.kind = 2 ∨ a.kind = 3 then (t.loc a.s a.g a.f).isSome else if a.kind = 4 then true else if a.kind = 5 then decide (1 ≤ a.old.slot ∧ a.old.slot ≤ t.n) else false
def St.wrong (t : St) (a : Ac) : Option Flt :=
  if a.kind = 4 then none else if a.kind = 5 then t.miss a.old.slot a.old.gen .twice else t.miss a.s a.g .freed
def St.read (t : St) : Loc → Wd
  | .board f => t.board f
  | .slot i f => (t.slot i).cell f
def St.write (t : St) (l : Loc) (d : Wd) : St :=
  match l with
  | .board f => { t with board := fun k => if k = f then d else t.board k }
  | .slot i f => { t with slot := fun k => if k = i then { t.slot i with cell := fun h => if h = f then d else (t.slot i).cell h } else t.slot k }
def St.blame (t : St) (x : Flt) : St := { t with fault := match t.fault with | none => some (t.steps, x) | some y => some y }
def St.give (t : St) (birth : Int) : St × Wd × Bool :=
  match t.free with
  | [] => (t, zw, false)
  | i :: r => ({ t with free := r, made := t.made + 1, slot := fun k => if k = i then ⟨(t.slot i).gen + 1, true, fun h => if h = 9 then nw birth else zw⟩ else t.slot k }, ⟨(i : Int) + 1, ((t.slot i).gen : Int) + 1, 0, 0, false⟩, true)
def St.take (t : St) (i : Nat) : St := { t with free := i :: t.free, slot := fun k => if k = i then { t.slot i with given := false } else t.slot k }
def St.touch (t : St) (l : Loc) (a : Ac) : St × Wd × Bool :=
  if a.kind = 1 then (t, t.read l, true) else if a.kind = 2 then (t.write l a.new, zw, true)
  else if (t.read l).same a.old = true then (t.write l a.new, t.read l, true) else (t, t.read l, false)
/-- What an access that can be does behind its step, and its reply. -/
def St.act (t : St) (a : Ac) : St × Wd × Bool :=
  match t.wrong a with
  | some x => (t.blame x, if a.kind = 1 ∨ a.kind = 3 then nw (-1) else zw, false)
  | none =>
    if a.kind = 4 then t.give a.new.num else if a.kind = 5 then (t.take (a.old.slot - 1).toNat, zw, true)
    else match t.loc a.s a.g a.f with
      | some l => t.touch l a
      | none => (t, zw, false)
def St.step (t : St) (a : Ac) : St × Wd × Bool := ({ t with steps := t.steps + 1 } : St).act a

/-- What holds of every heap that came about. -/
structure St.Ok (t : St) : Prop where
  lt : ∀ i ∈ t.free, i < t.n
  nodup : t.free.Nodup
  mem : ∀ i, i < t.n → (i ∈ t.free ↔ (t.slot i).given = false)
  gen : ∀ i, (t.slot i).gen ≤ t.made
  made : t.made ≤ t.steps
  size : t.n ≤ 1024
  cells : t.m ≤ 200

def St.new (n m : Nat) : St := { n := n, m := m, slot := fun _ => ⟨0, false, fun _ => zw⟩, board := fun _ => zw, free := List.range n, steps := 0, made := 0, fault := none }
theorem St.new_ok (n m : Nat) (hn : n ≤ 1024) (hm : m ≤ 200) : (St.new n m).Ok :=
  ⟨fun i hi => by simpa [St.new] using hi, List.nodup_range, fun i hi => by simp [St.new]; exact hi, fun i => Nat.le_refl _, Nat.le_refl _, hn, hm⟩

theorem St.write_ok {t : St} (h : t.Ok) (l : Loc) (d : Wd) : (t.write l d).Ok := by
  cases l with
  | board f => exact ⟨h.lt, h.nodup, h.mem, h.gen, h.made, h.size, h.cells⟩
  | slot i f =>
    refine ⟨h.lt, h.nodup, fun k hk => ?_, fun k => ?_, h.made, h.size, h.cells⟩
    · have := h.mem k hk
      show k ∈ t.free ↔ (if k = i then _ else t.slot k : Sl).given = false
      by_cases e : k = i
      · subst e; rw [if_pos rfl]; exact this
      · rw [if_neg e]; exact this
    · show (if k = i then _ else t.slot k : Sl).gen ≤ t.made
      by_cases e : k = i
      · subst e; rw [if_pos rfl]; exact h.gen k
      · rw [if_neg e]; exact h.gen k
theorem St.give_ok {t : St} (h : t.Ok) (hs : t.made < t.steps) (b : Int) : (t.give b).1.Ok := by
  unfold St.give
  cases hf : t.free with
  | nil => exact h
  | cons i r =>
    have hn := h.nodup
    rw [hf] at hn
    have hi := List.nodup_cons.1 hn
    refine ⟨fun k hk => h.lt k (by rw [hf]; exact List.mem_cons_of_mem _ hk), hi.2, fun k hk => ?_, fun k => ?_, hs, h.size, h.cells⟩
    · have := h.mem k hk
      rw [hf] at this
      show k ∈ r ↔ (if k = i then _ else t.slot k : Sl).given = false
      by_cases e : k = i
      · subst e; rw [if_pos rfl]; simp [hi.1]
      · rw [if_neg e]; rw [← this]; simp [e]
    · show (if k = i then _ else t.slot k : Sl).gen ≤ t.made + 1
      by_cases e : k = i
      · subst e; rw [if_pos rfl]; exact Nat.succ_le_succ (h.gen k)
      · rw [if_neg e]; exact Nat.le_succ_of_le (h.gen k)
theorem St.take_ok {t : St} (h : t.Ok) (i : Nat) (hi : i < t.n) (hg : (t.slot i).given = true) : (t.take i).Ok := by
  have hni : i ∉ t.free := fun e => by have := (h.mem i hi).1 e; rw [hg] at this; cases this
  refine ⟨fun k hk => ?_, List.nodup_cons.2 ⟨hni, h.nodup⟩, fun k hk => ?_, fun k => ?_, h.made, h.size, h.cells⟩
  · rcases List.mem_cons.1 hk with rfl | hk
    · exact hi
    · exact h.lt k hk
  · have := h.mem k hk
    show k ∈ i :: t.free ↔ (if k = i then _ else t.slot k : Sl).given = false
    by_cases e : k = i
    · subst e; rw [if_pos rfl]; simp
    · rw [if_neg e, ← this]; simp [e]
  · show (if k = i then _ else t.slot k : Sl).gen ≤ t.made
    by_cases e : k = i
    · subst e; rw [if_pos rfl]; exact h.gen k
    · rw [if_neg e]; exact h.gen k
theorem St.touch_ok {t : St} (h : t.Ok) (l : Loc) (a : Ac) : (t.touch l a).1.Ok := by
  unfold St.touch
  split
  · exact h
  · split
    · exact St.write_ok h _ _
    · split
      · exact St.write_ok h _ _
      · exact h
theorem St.wrong_free {t : St} {a : Ac} (hk : a.kind = 5) (hw : t.wrong a = none) (hr : 1 ≤ a.old.slot ∧ a.old.slot ≤ t.n) : (t.slot (a.old.slot - 1).toNat).given = true ∧ ((t.slot (a.old.slot - 1).toNat).gen : Int) = a.old.gen := by
  unfold St.wrong at hw
  rw [if_neg (by omega), if_pos hk] at hw
  unfold St.miss at hw
  rw [if_pos hr] at hw
  split at hw
  · cases hw
  · rename_i h1
    split at hw
    · cases hw
    · rename_i h2
      exact ⟨by simpa using h1, by simpa using h2⟩
theorem St.step_ok {t : St} (h : t.Ok) (a : Ac) (hc : t.can a = true) : (t.step a).1.Ok := by
  have h1 : ({ t with steps := t.steps + 1 } : St).Ok := ⟨h.lt, h.nodup, h.mem, h.gen, Nat.le_succ_of_le h.made, h.size, h.cells⟩
  unfold St.step St.act
  split
  · exact ⟨h1.lt, h1.nodup, h1.mem, h1.gen, h1.made, h1.size, h1.cells⟩
  · rename_i hw
    split
    · exact St.give_ok h1 (Nat.lt_succ_of_le h.made) _
    · split
      · rename_i hk
        have hr : 1 ≤ a.old.slot ∧ a.old.slot ≤ t.n := by
          unfold St.can at hc
          rw [if_neg (by omega), if_neg (by omega), if_pos hk] at hc
          simpa using hc
        have := St.wrong_free hk hw hr
        exact St.take_ok h1 _ (by show _ < t.n; omega) this.1
      · split
        · exact St.touch_ok h1 _ _
        · exact h1
theorem St.act_n (t : St) (a : Ac) : (t.act a).1.n = t.n ∧ (t.act a).1.m = t.m ∧ (t.act a).1.steps = t.steps := by
  unfold St.act
  split
  · exact ⟨rfl, rfl, rfl⟩
  · split
    · unfold St.give; split <;> exact ⟨rfl, rfl, rfl⟩
    · split
      · exact ⟨rfl, rfl, rfl⟩
      · split
        · unfold St.touch
          split
          · exact ⟨rfl, rfl, rfl⟩
          · split
            · unfold St.write; split <;> exact ⟨rfl, rfl, rfl⟩
            · split
              · unfold St.write; split <;> exact ⟨rfl, rfl, rfl⟩
              · exact ⟨rfl, rfl, rfl⟩
        · exact ⟨rfl, rfl, rfl⟩
theorem St.step_n (t : St) (a : Ac) : (t.step a).1.n = t.n ∧ (t.step a).1.m = t.m ∧ (t.step a).1.steps = t.steps + 1 := St.act_n _ a
end Go.Proofs.YtjilhncnbkaebaaGreatDoor
