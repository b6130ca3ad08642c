/- plot: slot, cell, missed, wrong, can. A template (fill.py). -/
import Derived.Test.YtkaplagbcnkflaaDoorRep
import Derived.Test.YtkaplagbcnkflaaDoorPlace
import Derived.LaidEqlPtr
namespace Go.Proofs.YtkaplagbcnkflaaDoor
open Go.RowKit Go.Extern.Stop Go.Stop Go.Extern Go.Sort

/-- What the listed variables give a walk. -/
structure Env (W : World) (E : Flt → Addr) : Prop where
  arg : W.cell? ⟨0, 0, none⟩ = some (.iface 121 (.pointer (some (E .arg))))
  stale : W.cell? ⟨1, 0, none⟩ = some (.iface 121 (.pointer (some (E .stale))))
  nil : W.cell? ⟨2, 0, none⟩ = some (.iface 121 (.pointer (some (E .nil))))
  freed : W.cell? ⟨3, 0, none⟩ = some (.iface 121 (.pointer (some (E .freed))))
  twice : W.cell? ⟨4, 0, none⟩ = some (.iface 121 (.pointer (some (E .twice))))
  et : ErrType W
theorem Env.below {W w : World} {E : Flt → Addr} {B : Nat} (h : Env W E) (hb : Below B W w) (hB : 6 ≤ B) : Env w E := by
  have key : ∀ g, g < 6 → w.cell? ⟨g, 0, none⟩ = W.cell? ⟨g, 0, none⟩ := fun g hg => hb.cell (p := ⟨g, 0, none⟩) (by show g < B; omega)
  exact ⟨(key _ (by decide)).trans h.arg, (key _ (by decide)).trans h.stale, (key _ (by decide)).trans h.nil, (key _ (by decide)).trans h.freed, (key _ (by decide)).trans h.twice, (key _ (by decide)).trans h.et⟩
theorem Env.size {W : World} {E : Flt → Addr} (h : Env W E) : 6 ≤ W.heap.size := lt_of_cell h.et
theorem Env.keep {W w : World} {E : Flt → Addr} (h : Env W E) (hb : Below W.heap.size W w) : Env w E := h.below hb h.size

/-- An error's value. -/
def ev (E : Flt → Addr) : Option Flt → Value
  | none => .nilIface
  | some x => .iface 121 (.pointer (some (E x)))
/-- A pointer's value. -/
def pv : Option (Nat × Nat) → Value
  | none => .pointer none
  | some (b, o) => .pointer (some ⟨b, o, none⟩)
/-- An access as a value. -/
def av (a : Ac) : Value := .agg #[.int .i64 a.kind, .int .i64 a.s, .int .i64 a.g, .int .i64 a.f, .int .i64 a.old.slot, .int .i64 a.old.gen, .int .i64 a.old.tag, .int .i64 a.old.num, .bool a.old.mark, .int .i64 a.new.slot, .int .i64 a.new.gen, .int .i64 a.new.tag, .int .i64 a.new.num, .bool a.new.mark]

section
variable {w : World} {E : Flt → Addr} {B p bs bb : Nat} {v fv : Value} {t : St}
theorem Rep.pcells (h : Rep w E B p bs bb v fv t) : w.cell? ⟨p, 0, none⟩ = some (.slice (some ⟨bs, 0, none⟩) t.n t.n) ∧ w.cell? ⟨p, 1, none⟩ = some (.slice (some ⟨bb, 0, none⟩) t.m t.m) ∧ w.cell? ⟨p, 2, none⟩ = some v ∧
    w.cell? ⟨p, 3, none⟩ = some (.int .i64 (t.steps : Int)) ∧ w.cell? ⟨p, 4, none⟩ = some (.int .i64 (t.made : Int)) ∧ w.cell? ⟨p, 5, none⟩ = some fv :=
  ⟨h.hp.cell 0, h.hp.cell 1, h.hp.cell 2, h.hp.cell 3, h.hp.cell 4, h.hp.cell 5⟩
theorem slot_in (h : Rep w E B p bs bb v fv t) (hn : t.n ≤ 1024) (i : Nat) (hi : i < t.n) :
    Calls Tryd.prog 33 #[.pointer (some ⟨p, 0, none⟩), .int .i64 ((i : Int) + 1)] w fun e w' => e = .returned (.pointer (some ⟨bs, i * 52, none⟩)) ∧ w = w' := by
  have c0 := h.pcells.1
  clear h
  have h1 : (i : Int) + 1 ≤ t.n := by omega
  have h2 : (t.n : Int) ≤ 1024 := by omega
  have h3 : (i : Int) < t.n := by omega
  go_enter Tryd.func33, Tryd.ntmps33
  go_wp2
  go_ret
  exact ⟨rfl, rfl⟩
theorem slot_out (h : Rep w E B p bs bb v fv t) (x : Int) (hx : ¬ (1 ≤ x ∧ x ≤ t.n)) :
    Calls Tryd.prog 33 #[.pointer (some ⟨p, 0, none⟩), .int .i64 x] w fun e w' => e = .returned (.pointer none) ∧ w = w' := by
  have c0 := h.pcells.1
  clear h
  have hx' : x < 1 ∨ (¬ x < 1 ∧ (t.n : Int) < x) := by omega
  clear hx
  rcases hx' with h1 | ⟨h1, h2⟩
  all_goals
    go_enter Tryd.func33, Tryd.ntmps33
    go_wp2
    go_ret
    exact ⟨rfl, rfl⟩

theorem cell_board (h : Rep w E B p bs bb v fv t) (hm : t.m ≤ 200) (f : Nat) (hf : f < t.m) :
    Calls Tryd.prog 25 #[.pointer (some ⟨p, 0, none⟩), .agg #[.int .i64 0, .int .i64 0, .int .i64 (f : Int)]] w fun e w' => e = .returned (.pointer (some ⟨bb, f * 5, none⟩)) ∧ Below w.heap.size w w' := by
  have c1 := h.pcells.2.1
  have hz := h.hp.lt
  clear h
  have h1 : (f : Int) < t.m := by omega
  have h2 : (t.m : Int) ≤ 200 := by omega
  go_enter Tryd.func25, Tryd.ntmps25
  go_wp2
  go_ret
  exact ⟨rfl, (Below.refl _ _).alloc (Nat.le_refl _) _⟩
theorem cell_board_no (h : Rep w E B p bs bb v fv t) (f : Int) (hf : ¬ (0 ≤ f ∧ f < t.m)) :
    Calls Tryd.prog 25 #[.pointer (some ⟨p, 0, none⟩), .agg #[.int .i64 0, .int .i64 0, .int .i64 f]] w fun e w' => e = .returned (.pointer none) ∧ Below w.heap.size w w' := by
  have c1 := h.pcells.2.1
  have hz := h.hp.lt
  clear h
  have hf' : f < 0 ∨ (¬ f < 0 ∧ (t.m : Int) ≤ f) := by omega
  clear hf
  rcases hf' with h1 | ⟨h1, h2⟩
  all_goals
    go_enter Tryd.func25, Tryd.ntmps25
    go_wp2
    go_ret
    exact ⟨rfl, (Below.refl _ _).alloc (Nat.le_refl _) _⟩
theorem cell_slot (h : Rep w E B p bs bb v fv t) (hn : t.n ≤ 1024) (i : Nat) (hi : i < t.n) (g : Int) (f : Nat) (hf : f < 10) :
    Calls Tryd.prog 25 #[.pointer (some ⟨p, 0, none⟩), .agg #[.int .i64 ((i : Int) + 1), .int .i64 g, .int .i64 (f : Int)]] w fun e w' => e = .returned (.pointer (some ⟨bs, i * 52 + 2 + f * 5, none⟩)) ∧ Below w.heap.size w w' := by
  have HR := Lib.hid h
  clear h
  have h1 : (f : Int) < 10 := by omega
  have h2 : ¬ ((i : Int) + 1 = 0) := by omega
  have h3 : ((i : Int) + 1 == 0) = false := by simpa using h2
  go_enter Tryd.func25, Tryd.ntmps25
  go_wp2_with (go_at_call 33; refine (slot_in (HR.out.alloc _) hn i hi).mono ?_; rintro e w' ⟨rfl, rfl⟩)
  go_ret
  exact ⟨rfl, (Below.refl _ _).alloc (Nat.le_refl _) _⟩
theorem cell_slot_no (h : Rep w E B p bs bb v fv t) (hn : t.n ≤ 1024) (i : Nat) (hi : i < t.n) (g : Int) (f : Int) (hf : ¬ (0 ≤ f ∧ f < 10)) :
    Calls Tryd.prog 25 #[.pointer (some ⟨p, 0, none⟩), .agg #[.int .i64 ((i : Int) + 1), .int .i64 g, .int .i64 f]] w fun e w' => e = .returned (.pointer none) ∧ Below w.heap.size w w' := by
  have HR := Lib.hid h
  clear h
  have h2 : ¬ ((i : Int) + 1 = 0) := by omega
  have h3 : ((i : Int) + 1 == 0) = false := by simpa using h2
  have hf' : f < 0 ∨ (¬ f < 0 ∧ (10 : Int) ≤ f) := by omega
  clear hf
  rcases hf' with h4 | ⟨h4, h5⟩
  all_goals
    go_enter Tryd.func25, Tryd.ntmps25
    go_wp2_with (go_at_call 33; refine (slot_in (HR.out.alloc _) hn i hi).mono ?_; rintro e w' ⟨rfl, rfl⟩)
    go_ret
    exact ⟨rfl, (Below.refl _ _).alloc (Nat.le_refl _) _⟩
theorem cell_out (h : Rep w E B p bs bb v fv t) (s g f : Int) (h0 : ¬ (s = 0 ∧ g = 0)) (hs : ¬ (1 ≤ s ∧ s ≤ t.n)) :
    Calls Tryd.prog 25 #[.pointer (some ⟨p, 0, none⟩), .agg #[.int .i64 s, .int .i64 g, .int .i64 f]] w fun e w' => e = .returned (.pointer none) ∧ Below w.heap.size w w' := by
  have HR := Lib.hid h
  have HS := Lib.hid hs
  clear h hs
  have hf' : f < 0 ∨ (¬ f < 0 ∧ (0 : Int) ≤ f) := by omega
  have h0' : (s = 0 ∧ ¬ g = 0) ∨ ¬ s = 0 := by omega
  clear h0
  rcases hf' with h4 | ⟨h4, h5⟩
  all_goals
    rcases h0' with ⟨rfl, h2⟩ | h2
    · have h3 : (g == 0) = false := by simpa using h2
      go_enter Tryd.func25, Tryd.ntmps25
      go_wp2_with (go_at_call 33; refine (slot_out (HR.out.alloc _) _ HS.out).mono ?_; rintro e w' ⟨rfl, rfl⟩)
      go_ret
      exact ⟨rfl, (Below.refl _ _).alloc (Nat.le_refl _) _⟩
    · have h3 : (s == 0) = false := by simpa using h2
      go_enter Tryd.func25, Tryd.ntmps25
      go_wp2_with (go_at_call 33; refine (slot_out (HR.out.alloc _) _ HS.out).mono ?_; rintro e w' ⟨rfl, rfl⟩)
      go_ret
      exact ⟨rfl, (Below.refl _ _).alloc (Nat.le_refl _) _⟩
theorem cell_any (h : Rep w E B p bs bb v fv t) (o : t.Ok) (s g f : Int) :
    Calls Tryd.prog 25 #[.pointer (some ⟨p, 0, none⟩), .agg #[.int .i64 s, .int .i64 g, .int .i64 f]] w fun e w' => e = .returned (pv ((t.loc s g f).map (Loc.at bs bb))) ∧ Below w.heap.size w w' := by
  unfold St.loc
  by_cases h0 : s = 0 ∧ g = 0
  · rw [if_pos h0]
    obtain ⟨rfl, rfl⟩ := h0
    by_cases hf : 0 ≤ f ∧ f < t.m
    · rw [if_pos hf]
      have := cell_board h o.cells f.toNat (by omega)
      rwa [show ((f.toNat : Nat) : Int) = f by omega] at this
    · rw [if_neg hf]
      exact cell_board_no h f hf
  · rw [if_neg h0]
    by_cases hs : 1 ≤ s ∧ s ≤ t.n
    · have e : (((s - 1).toNat : Nat) : Int) + 1 = s := by omega
      by_cases hf : 0 ≤ f ∧ f < 10
      · rw [if_pos (by omega)]
        have := cell_slot h o.size (s - 1).toNat (by omega) g f.toNat (by omega)
        rwa [e, show ((f.toNat : Nat) : Int) = f by omega] at this
      · rw [if_neg (by omega)]
        have := cell_slot_no h o.size (s - 1).toNat (by omega) g f hf
        rwa [e] at this
    · rw [if_neg (by omega)]
      exact cell_out h s g f h0 hs

theorem missed_out (h : Rep w E B p bs bb v fv t) (s g : Int) (hs : ¬ (1 ≤ s ∧ s ≤ t.n)) (x : Value) :
    Calls Tryd.prog 26 #[.pointer (some ⟨p, 0, none⟩), .int .i64 s, .int .i64 g, x] w fun e w' => e = .returned .nilIface ∧ w = w' := by
  have HR := Lib.hid h
  have HS := Lib.hid hs
  clear h hs
  go_enter Tryd.func26, Tryd.ntmps26
  go_wp2_with (go_at_call 33; refine (slot_out HR.out _ HS.out).mono ?_; rintro e w' ⟨rfl, rfl⟩)
  go_ret
  exact ⟨rfl, rfl⟩
theorem missed_free (h : Rep w E B p bs bb v fv t) (hn : t.n ≤ 1024) (i : Nat) (hi : i < t.n) (g : Int) (T : TypeId) (x : Value) (hg : (t.slot i).given = false) :
    Calls Tryd.prog 26 #[.pointer (some ⟨p, 0, none⟩), .int .i64 ((i : Int) + 1), .int .i64 g, .iface T x] w fun e w' => e = .returned (.iface T x) ∧ w = w' := by
  have HR := Lib.hid h
  have c1 := h.slots.head i hi 1 _ rfl
  rw [hg] at c1
  clear h hg
  go_enter Tryd.func26, Tryd.ntmps26
  go_wp2_with (go_at_call 33; refine (slot_in HR.out hn i hi).mono ?_; rintro e w' ⟨rfl, rfl⟩)
  go_ret
  exact ⟨rfl, rfl⟩
theorem missed_given (h : Rep w E B p bs bb v fv t) (L : Env w E) (hn : t.n ≤ 1024) (i : Nat) (hi : i < t.n) (g : Int) (x : Value) (hg : (t.slot i).given = true) :
    Calls Tryd.prog 26 #[.pointer (some ⟨p, 0, none⟩), .int .i64 ((i : Int) + 1), .int .i64 g, x] w fun e w' => e = .returned (ev E (if ((t.slot i).gen : Int) ≠ g then some .stale else none)) ∧ w = w' := by
  have HR := Lib.hid h
  have c0 : w.cell? ⟨bs, i * 52, none⟩ = some (.int .i64 ((t.slot i).gen : Int)) := h.slots.head i hi 0 _ rfl
  have c1 := h.slots.head i hi 1 _ rfl
  rw [hg] at c1
  have gs := L.stale
  obtain ⟨y, hy⟩ : ∃ y : Int, y = ((t.slot i).gen : Int) := ⟨_, rfl⟩
  rw [← hy] at c0 ⊢
  clear h hg L hy
  by_cases e : y = g
  · rw [if_neg (by simpa using e)]
    subst e
    go_enter Tryd.func26, Tryd.ntmps26
    go_wp2_with (go_at_call 33; refine (slot_in HR.out hn i hi).mono ?_; rintro e w' ⟨rfl, rfl⟩)
    go_ret
    exact ⟨rfl, rfl⟩
  · rw [if_pos e]
    have e1 : (y == g) = false := by simpa using e
    have e2 : (y != g) = true := by simpa using e
    go_enter Tryd.func26, Tryd.ntmps26
    go_wp2_with (go_at_call 33; refine (slot_in HR.out hn i hi).mono ?_; rintro e w' ⟨rfl, rfl⟩)
    go_ret
    exact ⟨rfl, rfl⟩
theorem missed_any (h : Rep w E B p bs bb v fv t) (L : Env w E) (o : t.Ok) (s g : Int) (x : Flt) :
    Calls Tryd.prog 26 #[.pointer (some ⟨p, 0, none⟩), .int .i64 s, .int .i64 g, .iface 121 (.pointer (some (E x)))] w fun e w' => e = .returned (ev E (t.miss s g x)) ∧ w = w' := by
  unfold St.miss
  by_cases hs : 1 ≤ s ∧ s ≤ t.n
  · have e : (((s - 1).toNat : Nat) : Int) + 1 = s := by omega
    rw [if_pos hs]
    by_cases hg : (t.slot (s - 1).toNat).given = false
    · rw [if_pos hg]
      have := missed_free h o.size (s - 1).toNat (by omega) g 121 (.pointer (some (E x))) hg
      rwa [e] at this
    · rw [if_neg hg]
      have := missed_given h L o.size (s - 1).toNat (by omega) g (.iface 121 (.pointer (some (E x)))) (by simpa using hg)
      rwa [e] at this
  · rw [if_neg hs]
    exact missed_out h s g hs _
end
end Go.Proofs.YtkaplagbcnkflaaDoor
