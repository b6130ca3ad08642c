/- plot: slot, cell, missed, wrong, can. A template (fill.py). -/
/- plot: can, wrong, touch. A template (fill.py). -/
/- plot: blame, give, take. A template (made by gen_XF3.py). -/
/- plot: give, take. A template (fill.py). -/
/- plot: take. A template (fill.py). -/
import Derived.Test.YtihjklimcchkhaaGreatDoorRep
import Derived.Test.YtihjklimcchkhaaGreatDoorPlace
import Derived.LaidEqlPtr
import Derived.Deep.RegionWith
import Derived.Outline
import Derived.Deep.Cut
import Derived.OwnWalk
namespace Go.Proofs.YtihjklimcchkhaaGreatDoor
open Go.RowKit Go.Extern.Stop Go.Stop Go.Extern Go.Sort

/-- What the listed variables give a walk. -/
structure Env (W : World) (E : Flt → Addr) : Prop where
  arg : W.cell? ⟨0, 0, none⟩ = some (.iface 260 (.pointer (some (E .arg))))
  stale : W.cell? ⟨6, 0, none⟩ = some (.iface 260 (.pointer (some (E .stale))))
  nil : W.cell? ⟨1, 0, none⟩ = some (.iface 260 (.pointer (some (E .nil))))
  freed : W.cell? ⟨3, 0, none⟩ = some (.iface 260 (.pointer (some (E .freed))))
  twice : W.cell? ⟨7, 0, none⟩ = some (.iface 260 (.pointer (some (E .twice))))
  size : 9 ≤ W.heap.size
theorem Env.below {W w : World} {E : Flt → Addr} {B : Nat} (h : Env W E) (hb : Below B W w) (hB : 9 ≤ B) : Env w E := by
  have key : ∀ g, g < 9 → w.cell? ⟨g, 0, none⟩ = W.cell? ⟨g, 0, none⟩ := fun g hg => hb.cell (p := ⟨g, 0, none⟩) (by show g < B; omega)
  exact ⟨(key _ (by decide)).trans h.arg, (key _ (by decide)).trans h.stale, (key _ (by decide)).trans h.nil, (key _ (by decide)).trans h.freed, (key _ (by decide)).trans h.twice, Nat.le_trans h.size hb.size⟩
theorem Env.keep {W w : World} {E : Flt → Addr} (h : Env W E) (hb : Below W.heap.size W w) : Env w E := h.below hb h.size

/-- An error's value. -/
def ev (E : Flt → Addr) : Option Flt → Value
  | none => .nilIface
  | some x => .iface 260 (.pointer (some (E x)))
/-- A pointer's value. -/
def pv : Option (Nat × Nat) → Value
  | none => .pointer none
  | some (b, o) => .pointer (some ⟨b, o, none⟩)
/-- An access as a value. -/
def av (a : Ac) : Value := .agg #[.int .i64 a.kind, .int .i64 a.s, .int .i64 a.g, .int .i64 a.f, .int .i64 a.old.slot, .int .i64 a.old.gen, .int .i64 a.old.tag, .int .i64 a.old.num, .bool a.old.mark, .int .i64 a.new.slot, .int .i64 a.new.gen, .int .i64 a.new.tag, .int .i64 a.new.num, .bool a.new.mark]

section
variable {w : World} {E : Flt → Addr} {B p bs bb : Nat} {v fv : Value} {t : St}
theorem Rep.pcells (h : Rep w E B p bs bb v fv t) : w.cell? ⟨p, 0, none⟩ = some (.slice (some ⟨bs, 0, none⟩) t.n t.n) ∧ w.cell? ⟨p, 1, none⟩ = some (.slice (some ⟨bb, 0, none⟩) t.m t.m) ∧ w.cell? ⟨p, 2, none⟩ = some v ∧
    w.cell? ⟨p, 3, none⟩ = some (.int .i64 (t.steps : Int)) ∧ w.cell? ⟨p, 4, none⟩ = some (.int .i64 (t.made : Int)) ∧ w.cell? ⟨p, 5, none⟩ = some fv :=
  ⟨h.hp.cell 0, h.hp.cell 1, h.hp.cell 2, h.hp.cell 3, h.hp.cell 4, h.hp.cell 5⟩
theorem slot_in (h : Rep w E B p bs bb v fv t) (hn : t.n ≤ 1024) (i : Nat) (hi : i < t.n) :
    Calls Tryz.prog 95 #[.pointer (some ⟨p, 0, none⟩), .int .i64 ((i : Int) + 1)] w fun e w' => e = .returned (.pointer (some ⟨bs, i * 52, none⟩)) ∧ w = w' := by
  have c0 := h.pcells.1
  clear h
  have h1 : (i : Int) + 1 ≤ t.n := by omega
  have h2 : (t.n : Int) ≤ 1024 := by omega
  have h3 : (i : Int) < t.n := by omega
  go_enter Tryz.func95, Tryz.ntmps95
  go_wp2
  go_ret
  exact ⟨rfl, rfl⟩
theorem slot_out (h : Rep w E B p bs bb v fv t) (x : Int) (hx : ¬ (1 ≤ x ∧ x ≤ t.n)) :
    Calls Tryz.prog 95 #[.pointer (some ⟨p, 0, none⟩), .int .i64 x] w fun e w' => e = .returned (.pointer none) ∧ w = w' := by
  have c0 := h.pcells.1
  clear h
  have hx' : x < 1 ∨ (¬ x < 1 ∧ (t.n : Int) < x) := by omega
  clear hx
  rcases hx' with h1 | ⟨h1, h2⟩
  all_goals
    go_enter Tryz.func95, Tryz.ntmps95
    go_wp2
    go_ret
    exact ⟨rfl, rfl⟩

theorem cell_board (h : Rep w E B p bs bb v fv t) (hm : t.m ≤ 200) (f : Nat) (hf : f < t.m) :
    Calls Tryz.prog 59 #[.pointer (some ⟨p, 0, none⟩), .agg #[.int .i64 0, .int .i64 0, .int .i64 (f : Int)]] w fun e w' => e = .returned (.pointer (some ⟨bb, f * 5, none⟩)) ∧ Below w.heap.size w w' := by
  have c1 := h.pcells.2.1
  have hz := h.hp.lt
  clear h
  have h1 : (f : Int) < t.m := by omega
  have h2 : (t.m : Int) ≤ 200 := by omega
  go_enter Tryz.func59, Tryz.ntmps59
  go_wp2
  go_ret
  exact ⟨rfl, (Below.refl _ _).alloc (Nat.le_refl _) _⟩
theorem cell_board_no (h : Rep w E B p bs bb v fv t) (f : Int) (hf : ¬ (0 ≤ f ∧ f < t.m)) :
    Calls Tryz.prog 59 #[.pointer (some ⟨p, 0, none⟩), .agg #[.int .i64 0, .int .i64 0, .int .i64 f]] w fun e w' => e = .returned (.pointer none) ∧ Below w.heap.size w w' := by
  have c1 := h.pcells.2.1
  have hz := h.hp.lt
  clear h
  have hf' : f < 0 ∨ (¬ f < 0 ∧ (t.m : Int) ≤ f) := by omega
  clear hf
  rcases hf' with h1 | ⟨h1, h2⟩
  all_goals
    go_enter Tryz.func59, Tryz.ntmps59
    go_wp2
    go_ret
    exact ⟨rfl, (Below.refl _ _).alloc (Nat.le_refl _) _⟩
theorem cell_slot (h : Rep w E B p bs bb v fv t) (hn : t.n ≤ 1024) (i : Nat) (hi : i < t.n) (g : Int) (f : Nat) (hf : f < 10) :
    Calls Tryz.prog 59 #[.pointer (some ⟨p, 0, none⟩), .agg #[.int .i64 ((i : Int) + 1), .int .i64 g, .int .i64 (f : Int)]] w fun e w' => e = .returned (.pointer (some ⟨bs, i * 52 + 2 + f * 5, none⟩)) ∧ Below w.heap.size w w' := by
  have HR := Lib.hid h
  clear h
  have h1 : (f : Int) < 10 := by omega
  have h2 : ¬ ((i : Int) + 1 = 0) := by omega
  have h3 : ((i : Int) + 1 == 0) = false := by simpa using h2
  go_enter Tryz.func59, Tryz.ntmps59
  go_wp2_with (go_at_call 95; refine (slot_in (HR.out.alloc _) hn i hi).mono ?_; rintro e w' ⟨rfl, rfl⟩)
  go_ret
  exact ⟨rfl, (Below.refl _ _).alloc (Nat.le_refl _) _⟩
theorem cell_slot_no (h : Rep w E B p bs bb v fv t) (hn : t.n ≤ 1024) (i : Nat) (hi : i < t.n) (g : Int) (f : Int) (hf : ¬ (0 ≤ f ∧ f < 10)) :
    Calls Tryz.prog 59 #[.pointer (some ⟨p, 0, none⟩), .agg #[.int .i64 ((i : Int) + 1), .int .i64 g, .int .i64 f]] w fun e w' => e = .returned (.pointer none) ∧ Below w.heap.size w w' := by
  have HR := Lib.hid h
  clear h
  have h2 : ¬ ((i : Int) + 1 = 0) := by omega
  have h3 : ((i : Int) + 1 == 0) = false := by simpa using h2
  have hf' : f < 0 ∨ (¬ f < 0 ∧ (10 : Int) ≤ f) := by omega
  clear hf
  rcases hf' with h4 | ⟨h4, h5⟩
  all_goals
    go_enter Tryz.func59, Tryz.ntmps59
    go_wp2_with (go_at_call 95; refine (slot_in (HR.out.alloc _) hn i hi).mono ?_; rintro e w' ⟨rfl, rfl⟩)
    go_ret
    exact ⟨rfl, (Below.refl _ _).alloc (Nat.le_refl _) _⟩
theorem cell_out (h : Rep w E B p bs bb v fv t) (s g f : Int) (h0 : ¬ (s = 0 ∧ g = 0)) (hs : ¬ (1 ≤ s ∧ s ≤ t.n)) :
    Calls Tryz.prog 59 #[.pointer (some ⟨p, 0, none⟩), .agg #[.int .i64 s, .int .i64 g, .int .i64 f]] w fun e w' => e = .returned (.pointer none) ∧ Below w.heap.size w w' := by
  have HR := Lib.hid h
  have HS := Lib.hid hs
  clear h hs
  have hf' : f < 0 ∨ (¬ f < 0 ∧ (0 : Int) ≤ f) := by omega
  have h0' : (s = 0 ∧ ¬ g = 0) ∨ ¬ s = 0 := by omega
  clear h0
  rcases hf' with h4 | ⟨h4, h5⟩
  all_goals
    rcases h0' with ⟨rfl, h2⟩ | h2
    · have h3 : (g == 0) = false := by simpa using h2
      go_enter Tryz.func59, Tryz.ntmps59
      go_wp2_with (go_at_call 95; refine (slot_out (HR.out.alloc _) _ HS.out).mono ?_; rintro e w' ⟨rfl, rfl⟩)
      go_ret
      exact ⟨rfl, (Below.refl _ _).alloc (Nat.le_refl _) _⟩
    · have h3 : (s == 0) = false := by simpa using h2
      go_enter Tryz.func59, Tryz.ntmps59
      go_wp2_with (go_at_call 95; refine (slot_out (HR.out.alloc _) _ HS.out).mono ?_; rintro e w' ⟨rfl, rfl⟩)
      go_ret
      exact ⟨rfl, (Below.refl _ _).alloc (Nat.le_refl _) _⟩
theorem cell_any (h : Rep w E B p bs bb v fv t) (o : t.Ok) (s g f : Int) :
    Calls Tryz.prog 59 #[.pointer (some ⟨p, 0, none⟩), .agg #[.int .i64 s, .int .i64 g, .int .i64 f]] w fun e w' => e = .returned (pv ((t.loc s g f).map (Loc.at bs bb))) ∧ Below w.heap.size w w' := by
  unfold St.loc
  by_cases h0 : s = 0 ∧ g = 0
  · rw [if_pos h0]
    obtain ⟨rfl, rfl⟩ := h0
    by_cases hf : 0 ≤ f ∧ f < t.m
    · rw [if_pos hf]
      have := cell_board h o.cells f.toNat (by omega)
      rwa [show ((f.toNat : Nat) : Int) = f by omega] at this
    · rw [if_neg hf]
      exact cell_board_no h f hf
  · rw [if_neg h0]
    by_cases hs : 1 ≤ s ∧ s ≤ t.n
    · have e : (((s - 1).toNat : Nat) : Int) + 1 = s := by omega
      by_cases hf : 0 ≤ f ∧ f < 10
      · rw [if_pos (by omega)]
        have := cell_slot h o.size (s - 1).toNat (by omega) g f.toNat (by omega)
        rwa [e, show ((f.toNat : Nat) : Int) = f by omega] at this
      · rw [if_neg (by omega)]
        have := cell_slot_no h o.size (s - 1).toNat (by omega) g f hf
        rwa [e] at this
    · rw [if_neg (by omega)]
      exact cell_out h s g f h0 hs

theorem missed_out (h : Rep w E B p bs bb v fv t) (s g : Int) (hs : ¬ (1 ≤ s ∧ s ≤ t.n)) (x : Value) :
    Calls Tryz.prog 60 #[.pointer (some ⟨p, 0, none⟩), .int .i64 s, .int .i64 g, x] w fun e w' => e = .returned .nilIface ∧ w = w' := by
  have HR := Lib.hid h
  have HS := Lib.hid hs
  clear h hs
  go_enter Tryz.func60, Tryz.ntmps60
  go_wp2_with (go_at_call 95; refine (slot_out HR.out _ HS.out).mono ?_; rintro e w' ⟨rfl, rfl⟩)
  go_ret
  exact ⟨rfl, rfl⟩
theorem missed_free (h : Rep w E B p bs bb v fv t) (hn : t.n ≤ 1024) (i : Nat) (hi : i < t.n) (g : Int) (T : TypeId) (x : Value) (hg : (t.slot i).given = false) :
    Calls Tryz.prog 60 #[.pointer (some ⟨p, 0, none⟩), .int .i64 ((i : Int) + 1), .int .i64 g, .iface T x] w fun e w' => e = .returned (.iface T x) ∧ w = w' := by
  have HR := Lib.hid h
  have c1 := h.slots.head i hi 1 _ rfl
  rw [hg] at c1
  clear h hg
  go_enter Tryz.func60, Tryz.ntmps60
  go_wp2_with (go_at_call 95; refine (slot_in HR.out hn i hi).mono ?_; rintro e w' ⟨rfl, rfl⟩)
  go_ret
  exact ⟨rfl, rfl⟩
theorem missed_given (h : Rep w E B p bs bb v fv t) (L : Env w E) (hn : t.n ≤ 1024) (i : Nat) (hi : i < t.n) (g : Int) (x : Value) (hg : (t.slot i).given = true) :
    Calls Tryz.prog 60 #[.pointer (some ⟨p, 0, none⟩), .int .i64 ((i : Int) + 1), .int .i64 g, x] w fun e w' => e = .returned (ev E (if ((t.slot i).gen : Int) ≠ g then some .stale else none)) ∧ w = w' := by
  have HR := Lib.hid h
  have c0 : w.cell? ⟨bs, i * 52, none⟩ = some (.int .i64 ((t.slot i).gen : Int)) := h.slots.head i hi 0 _ rfl
  have c1 := h.slots.head i hi 1 _ rfl
  rw [hg] at c1
  have gs := L.stale
  obtain ⟨y, hy⟩ : ∃ y : Int, y = ((t.slot i).gen : Int) := ⟨_, rfl⟩
  rw [← hy] at c0 ⊢
  clear h hg L hy
  by_cases e : y = g
  · rw [if_neg (by simpa using e)]
    subst e
    go_enter Tryz.func60, Tryz.ntmps60
    go_wp2_with (go_at_call 95; refine (slot_in HR.out hn i hi).mono ?_; rintro e w' ⟨rfl, rfl⟩)
    go_ret
    exact ⟨rfl, rfl⟩
  · rw [if_pos e]
    have e1 : (y == g) = false := by simpa using e
    have e2 : (y != g) = true := by simpa using e
    go_enter Tryz.func60, Tryz.ntmps60
    go_wp2_with (go_at_call 95; refine (slot_in HR.out hn i hi).mono ?_; rintro e w' ⟨rfl, rfl⟩)
    go_ret
    exact ⟨rfl, rfl⟩
theorem missed_any (h : Rep w E B p bs bb v fv t) (L : Env w E) (o : t.Ok) (s g : Int) (x : Flt) :
    Calls Tryz.prog 60 #[.pointer (some ⟨p, 0, none⟩), .int .i64 s, .int .i64 g, .iface 260 (.pointer (some (E x)))] w fun e w' => e = .returned (ev E (t.miss s g x)) ∧ w = w' := by
  unfold St.miss
  by_cases hs : 1 ≤ s ∧ s ≤ t.n
  · have e : (((s - 1).toNat : Nat) : Int) + 1 = s := by omega
    rw [if_pos hs]
    by_cases hg : (t.slot (s - 1).toNat).given = false
    · rw [if_pos hg]
      have := missed_free h o.size (s - 1).toNat (by omega) g 260 (.pointer (some (E x))) hg
      rwa [e] at this
    · rw [if_neg hg]
      have := missed_given h L o.size (s - 1).toNat (by omega) g (.iface 260 (.pointer (some (E x)))) (by simpa using hg)
      rwa [e] at this
  · rw [if_neg hs]
    exact missed_out h s g hs _
end
end Go.Proofs.YtihjklimcchkhaaGreatDoor

namespace Go.Proofs.YtihjklimcchkhaaGreatDoor
open Go.RowKit Go.Extern.Stop Go.Stop Go.Extern Go.Sort
section
variable {w : World} {E : Flt → Addr} {B p bs bb : Nat} {v fv : Value} {t : St}

theorem Loc.pv_some (l : Loc) (bs bb : Nat) : pv ((some l).map (Loc.at bs bb)) = .pointer (some ⟨(l.at bs bb).1, (l.at bs bb).2, none⟩) := rfl
set_option maxHeartbeats 1000000 in
theorem can_any (h : Rep w E B p bs bb v fv t) (o : t.Ok) (a : Ac) :
    Calls Tryz.prog 62 #[.pointer (some ⟨p, 0, none⟩), av a] w fun e w' => e = .returned (.bool (t.can a)) ∧ Below w.heap.size w w' := by
  have HR := Lib.hid h
  have HO := Lib.hid o
  clear h o
  obtain ⟨k, s, g, f, d, d'⟩ := a
  unfold av St.can
  dsimp only
  by_cases hk : k = 1 ∨ k = 2 ∨ k = 3
  · rw [if_pos hk]
    cases hl : t.loc s g f with
    | none =>
      have HC := Lib.hid (fun W (H : Rep W E B p bs bb v fv t) => cell_any H HO.out s g f)
      rw [hl] at HC
      clear hl
      unfold pv at HC
      dsimp only [Option.map] at HC
      rcases hk with rfl | rfl | rfl
      all_goals
        go_enter Tryz.func62, Tryz.ntmps62
        go_wp2_with fail
        refine (HC.out _ (HR.out.alloc _)).mono ?_
        rintro e w1 ⟨rfl, hb⟩
        have HB := Lib.hid (below_trans (below_alloc (Below.refl _ _) _) hb)
        clear hb
        go_wp2
        go_ret
        exact ⟨rfl, HB.out⟩
    | some l =>
      have HC := Lib.hid (fun W (H : Rep W E B p bs bb v fv t) => cell_any H HO.out s g f)
      rw [hl, Loc.pv_some] at HC
      clear hl
      rcases hk with rfl | rfl | rfl
      all_goals
        go_enter Tryz.func62, Tryz.ntmps62
        go_wp2_with fail
        refine (HC.out _ (HR.out.alloc _)).mono ?_
        rintro e w1 ⟨rfl, hb⟩
        have HB := Lib.hid (below_trans (below_alloc (Below.refl _ _) _) hb)
        clear hb
        go_wp2
        go_ret
        exact ⟨rfl, HB.out⟩
  · rw [if_neg hk]
    have k1 : (k == 1) = false := by simp; omega
    have k2 : (k == 2) = false := by simp; omega
    have k3 : (k == 3) = false := by simp; omega
    clear hk
    by_cases h4 : k = 4
    · subst h4
      clear k1 k2 k3
      rw [if_pos rfl]
      go_enter Tryz.func62, Tryz.ntmps62
      go_wp2
      go_ret
      exact ⟨rfl, (Below.refl _ _).alloc (Nat.le_refl _) _⟩
    · rw [if_neg h4]
      have k4 : (k == 4) = false := by simpa using h4
      clear h4
      by_cases h5 : k = 5
      · subst h5
        clear k1 k2 k3 k4
        rw [if_pos rfl]
        by_cases hs : 1 ≤ d.slot ∧ d.slot ≤ t.n
        · obtain ⟨i, hi⟩ : ∃ i : Nat, (i : Int) + 1 = d.slot := ⟨(d.slot - 1).toNat, by omega⟩
          have hin : i < t.n := by omega
          rw [show decide (1 ≤ d.slot ∧ d.slot ≤ t.n) = true by simpa using hs, ← hi]
          clear hs hi
          go_enter Tryz.func62, Tryz.ntmps62
          go_wp2_with (go_at_call 95; refine (slot_in (HR.out.alloc _) HO.out.size i hin).mono ?_; rintro e w' ⟨rfl, rfl⟩)
          go_ret
          exact ⟨rfl, (Below.refl _ _).alloc (Nat.le_refl _) _⟩
        · rw [show decide (1 ≤ d.slot ∧ d.slot ≤ t.n) = false by simpa using hs]
          have HS := Lib.hid hs
          clear hs
          go_enter Tryz.func62, Tryz.ntmps62
          go_wp2_with (go_at_call 95; refine (slot_out (HR.out.alloc _) _ HS.out).mono ?_; rintro e w' ⟨rfl, rfl⟩)
          go_ret
          exact ⟨rfl, (Below.refl _ _).alloc (Nat.le_refl _) _⟩
      · rw [if_neg h5]
        have k5 : (k == 5) = false := by simpa using h5
        clear h5
        go_enter Tryz.func62, Tryz.ntmps62
        go_wp2
        go_ret
        exact ⟨rfl, (Below.refl _ _).alloc (Nat.le_refl _) _⟩
set_option maxHeartbeats 1000000 in
theorem wrong_any (h : Rep w E B p bs bb v fv t) (L : Env w E) (o : t.Ok) (a : Ac) :
    Calls Tryz.prog 63 #[.pointer (some ⟨p, 0, none⟩), av a] w fun e w' => e = .returned (ev E (t.wrong a)) ∧ Below w.heap.size w w' := by
  have HR := Lib.hid h
  have HO := Lib.hid o
  have HL := Lib.hid L
  have gf := L.freed
  have gt := L.twice
  have hz := lt_of_cell gf
  have hz2 := lt_of_cell gt
  clear h o L
  obtain ⟨k, s, g, f, d, d'⟩ := a
  unfold av St.wrong
  dsimp only
  by_cases h4 : k = 4
  · subst h4
    rw [if_pos rfl]
    go_enter Tryz.func63, Tryz.ntmps63
    go_wp2
    go_ret
    exact ⟨rfl, (Below.refl _ _).alloc (Nat.le_refl _) _⟩
  · rw [if_neg h4]
    have k4 : (k == 4) = false := by simpa using h4
    clear h4
    by_cases h5 : k = 5
    · subst h5
      rw [if_pos rfl]
      clear k4
      have HM := Lib.hid (fun W (H : Rep W E B p bs bb v fv t) (L : Env W E) => missed_any H L HO.out d.slot d.gen .twice)
      go_enter Tryz.func63, Tryz.ntmps63
      go_wp2_with fail
      refine (HM.out _ (HR.out.alloc _) (HL.out.keep (below_alloc (Below.refl _ _) _))).mono ?_
      rintro e w1 ⟨rfl, rfl⟩
      go_wp2
      go_ret
      exact ⟨rfl, (Below.refl _ _).alloc (Nat.le_refl _) _⟩
    · rw [if_neg h5]
      have k5 : (k == 5) = false := by simpa using h5
      clear h5
      have HM := Lib.hid (fun W (H : Rep W E B p bs bb v fv t) (L : Env W E) => missed_any H L HO.out s g .freed)
      go_enter Tryz.func63, Tryz.ntmps63
      go_wp2_with fail
      refine (HM.out _ (HR.out.alloc _) (HL.out.keep (below_alloc (Below.refl _ _) _))).mono ?_
      rintro e w1 ⟨rfl, rfl⟩
      go_wp2
      go_ret
      exact ⟨rfl, (Below.refl _ _).alloc (Nat.le_refl _) _⟩

/-! ### touch -/
/-- A reply as a value. -/
def rv (d : Wd) (ok : Bool) : Value := .agg #[.int .i64 d.slot, .int .i64 d.gen, .int .i64 d.tag, .int .i64 d.num, .bool d.mark, .bool ok]
theorem below_both {n : Nat} {w X : World} (h : Below n w X) (a : Addr) (u : Value) : Below n (w.setCell a u) (X.setCell a u) :=
  ⟨h.os, h.tape, h.output, by simpa [World.setCell] using h.size, fun k hk => by
    by_cases e : k = a.block
    · subst e; simp only [World.setCell, Array.getElem?_modify, if_true, h.block _ hk]
    · rw [Below.heap_setCell _ _ _ _ e, Below.heap_setCell _ _ _ _ e, h.block _ hk]⟩
theorem below_al {n : Nat} {w X : World} (h : Below n w X) (hn : n ≤ w.heap.size) (o : Obj) : Below n w (X.alloc o) := h.alloc (Nat.le_trans hn h.size) o
theorem below_st {n : Nat} {w X : World} (h : Below n w X) (b o : Nat) (v : Value) (hb : n ≤ b) : Below n w (X.setCell ⟨b, o, none⟩ v) := h.setCell hb v
theorem touch_load (b o : Nat) (d : Wd) (a : Ac) (hk : a.kind = 1) (hw : WdAt w b o d) :
    Calls Tryz.prog 67 #[.pointer (some ⟨b, o, none⟩), av a] w fun e w' => e = .returned (rv d true) ∧ Below w.heap.size w w' := by
  obtain ⟨k, s, g, f, x, y⟩ := a
  obtain rfl : k = 1 := hk
  obtain ⟨c0, c1, c2, c3, c4⟩ := hw.cells
  have hz : b < w.heap.size := lt_of_cell c0
  have hz1 : b < w.heap.size + 1 := by omega
  have hz2 : b < w.heap.size + 1 + 1 := by omega
  clear hw
  unfold av rv
  dsimp only
  go_enter Tryz.func67, Tryz.ntmps67
  go_wp2
  refine bodyPost_ret (v := .agg #[.int .i64 d.slot, .int .i64 d.gen, .int .i64 d.tag, .int .i64 d.num, .bool d.mark, .bool true]) (by simp [results, Tryz.results67, go_sem]) rfl ⟨rfl, ?_⟩
  repeat (first | with_reducible exact Below.refl _ _ | with_reducible refine below_al ?_ (Nat.le_refl _) _ | with_reducible refine below_st ?_ _ _ _ (by omega))
theorem touch_store (b o : Nat) (d : Wd) (a : Ac) (hk : a.kind = 2) (hw : WdAt w b o d) (ht : w.there b o 5) :
    Calls Tryz.prog 67 #[.pointer (some ⟨b, o, none⟩), av a] w fun e w' => e = .returned (rv zw true) ∧ Below w.heap.size (w.setCells b o (wc a.new)) w' := by
  obtain ⟨k, s, g, f, x, y⟩ := a
  obtain rfl : k = 2 := hk
  obtain ⟨c0, c1, c2, c3, c4⟩ := hw.cells
  have f0 : w.frozen? ⟨b, o, none⟩ = false := (ht 0 (by omega)).2
  have f1 : w.frozen? ⟨b, o + 1, none⟩ = false := (ht 1 (by omega)).2
  have f2 : w.frozen? ⟨b, o + 2, none⟩ = false := (ht 2 (by omega)).2
  have f3 : w.frozen? ⟨b, o + 3, none⟩ = false := (ht 3 (by omega)).2
  have f4 : w.frozen? ⟨b, o + 4, none⟩ = false := (ht 4 (by omega)).2
  have hz : b < w.heap.size := lt_of_cell c0
  have hz1 : b < w.heap.size + 1 := by omega
  have hz2 : b < w.heap.size + 1 + 1 := by omega
  have hne1 : ¬ b = w.heap.size := by omega
  have hne2 : ¬ b = w.heap.size + 1 := by omega
  have hne3 : ¬ b = w.heap.size + 1 + 1 := by omega
  clear hw ht
  unfold av rv wc
  dsimp only
  go_enter Tryz.func67, Tryz.ntmps67
  go_wp2
  refine bodyPost_ret (v := .agg #[.int .i64 0, .int .i64 0, .int .i64 0, .int .i64 0, .bool false, .bool true]) (by simp [results, Tryz.results67, go_sem]) rfl ⟨rfl, ?_⟩
  simp only [World.setCells]
  repeat (first | with_reducible refine below_st ?_ _ _ _ (by omega) | with_reducible refine below_al ?_ (by simp [World.setCell]) _)
  exact Below.refl _ _
theorem touch_swap (b o : Nat) (d : Wd) (a : Ac) (hk : a.kind = 3) (hs : d.same a.old = true) (hw : WdAt w b o d) (ht : w.there b o 5) :
    Calls Tryz.prog 67 #[.pointer (some ⟨b, o, none⟩), av a] w fun e w' => e = .returned (rv d true) ∧ Below w.heap.size (w.setCells b o (wc a.new)) w' := by
  obtain ⟨k, s, g, f, x, y⟩ := a
  obtain rfl : k = 3 := hk
  have hs : sameB d.slot d.tag d.num d.mark x.slot x.tag x.num x.mark = true := by
    unfold Wd.same at hs
    simp only [decide_eq_true_eq] at hs
    simp [sameB, eqB, hs]
  have HS := Lib.hid (fun W => (Same_any d.slot d.gen d.tag d.num d.mark x.slot x.gen x.tag x.num x.mark W))
  rw [hs] at HS
  clear hs
  obtain ⟨c0, c1, c2, c3, c4⟩ := hw.cells
  have f0 : w.frozen? ⟨b, o, none⟩ = false := (ht 0 (by omega)).2
  have f1 : w.frozen? ⟨b, o + 1, none⟩ = false := (ht 1 (by omega)).2
  have f2 : w.frozen? ⟨b, o + 2, none⟩ = false := (ht 2 (by omega)).2
  have f3 : w.frozen? ⟨b, o + 3, none⟩ = false := (ht 3 (by omega)).2
  have f4 : w.frozen? ⟨b, o + 4, none⟩ = false := (ht 4 (by omega)).2
  have hz : b < w.heap.size := lt_of_cell c0
  have hz1 : b < w.heap.size + 1 := by omega
  have hz2 : b < w.heap.size + 1 + 1 := by omega
  have hne1 : ¬ b = w.heap.size := by omega
  have hne2 : ¬ b = w.heap.size + 1 := by omega
  have hne3 : ¬ b = w.heap.size + 1 + 1 := by omega
  clear hw ht
  unfold av rv wc
  dsimp only
  go_enter Tryz.func67, Tryz.ntmps67
  go_wp2_with fail
  refine (HS.out _).mono ?_
  rintro e w1 ⟨rfl, hb⟩
  obtain ⟨hc, hf⟩ := bcell hb
  have hzz := hb.size
  simp only [World.size_alloc] at hc hf hzz
  have hx0 : w.heap.size < w1.heap.size := by omega
  have hx1 : w.heap.size + 1 < w1.heap.size := by omega
  have hx2 : w.heap.size + 1 + 1 < w1.heap.size := by omega
  have hx3 : b < w1.heap.size := by omega
  have hb3 : b < w.heap.size + 1 + 1 + 1 := by omega
  have HB := Lib.hid (below_trans (below_alloc (below_alloc (below_alloc (Below.refl _ _) _) _) _) hb)
  clear hb hzz
  go_wp2
  refine bodyPost_ret (v := .agg #[.int .i64 d.slot, .int .i64 d.gen, .int .i64 d.tag, .int .i64 d.num, .bool d.mark, .bool true]) (by simp [results, Tryz.results67, go_sem, hc]) rfl ⟨rfl, ?_⟩
  have hB : Below w.heap.size w w1 := HB.out
  clear HB hc hf
  simp only [World.setCells]
  repeat (first | with_reducible exact hB | with_reducible refine below_st ?_ _ _ _ (by omega) | with_reducible refine below_both ?_ _ _)
theorem touch_other (b o : Nat) (d : Wd) (a : Ac) (hk : a.kind = 3) (hs : d.same a.old = false) (hw : WdAt w b o d) :
    Calls Tryz.prog 67 #[.pointer (some ⟨b, o, none⟩), av a] w fun e w' => e = .returned (rv d false) ∧ Below w.heap.size w w' := by
  obtain ⟨k, s, g, f, x, y⟩ := a
  obtain rfl : k = 3 := hk
  have hs : sameB d.slot d.tag d.num d.mark x.slot x.tag x.num x.mark = false := by
    unfold Wd.same at hs
    simp only [decide_eq_false_iff_not] at hs
    have : ¬ sameB d.slot d.tag d.num d.mark x.slot x.tag x.num x.mark = true := fun e => hs (by simpa [sameB, eqB, and_assoc] using e)
    simpa using this
  have HS := Lib.hid (fun W => (Same_any d.slot d.gen d.tag d.num d.mark x.slot x.gen x.tag x.num x.mark W))
  rw [hs] at HS
  clear hs
  obtain ⟨c0, c1, c2, c3, c4⟩ := hw.cells
  have hz : b < w.heap.size := lt_of_cell c0
  have hz1 : b < w.heap.size + 1 := by omega
  have hz2 : b < w.heap.size + 1 + 1 := by omega
  clear hw
  unfold av rv
  dsimp only
  go_enter Tryz.func67, Tryz.ntmps67
  go_wp2_with fail
  refine (HS.out _).mono ?_
  rintro e w1 ⟨rfl, hb⟩
  obtain ⟨hc, hf⟩ := bcell hb
  have hzz := hb.size
  simp only [World.size_alloc] at hc hf hzz
  have hx0 : w.heap.size < w1.heap.size := by omega
  have hx1 : w.heap.size + 1 < w1.heap.size := by omega
  have hx2 : w.heap.size + 1 + 1 < w1.heap.size := by omega
  have hx3 : b < w1.heap.size := by omega
  have hb3 : b < w.heap.size + 1 + 1 + 1 := by omega
  have HB := Lib.hid (below_trans (below_alloc (below_alloc (below_alloc (Below.refl _ _) _) _) _) hb)
  clear hb hzz
  go_wp2
  refine bodyPost_ret (v := .agg #[.int .i64 d.slot, .int .i64 d.gen, .int .i64 d.tag, .int .i64 d.num, .bool d.mark, .bool false]) (by simp [results, Tryz.results67, go_sem, hc]) rfl ⟨rfl, ?_⟩
  have hB : Below w.heap.size w w1 := HB.out
  clear HB hc hf
  repeat (first | with_reducible exact hB | with_reducible refine below_st ?_ _ _ _ (by omega))
end
end Go.Proofs.YtihjklimcchkhaaGreatDoor

namespace Go.Proofs.YtihjklimcchkhaaGreatDoor
open Go.RowKit Go.Extern.Stop Go.Stop Go.Extern Go.Sort
section
variable {w : World} {E : Flt → Addr} {B p bs bb : Nat} {v fv : Value} {t : St}
/-- A plot beside a box for a reply. -/
def RB (w : World) (E : Flt → Addr) (B p bs bb : Nat) (v fv : Value) (t : St) (x : Nat) : Prop := Rep w E B p bs bb v fv t ∧ ∃ cs, BlkW w x 63 cs
theorem RB.set {x : Nat} (h : RB w E B p bs bb v fv t x) (o : Nat) (u : Value) : RB (w.setCell ⟨x, o, none⟩ u) E B p bs bb v fv t x := by
  obtain ⟨h, cs, hx⟩ := h
  obtain ⟨c1, b1, _⟩ := h.slots.blk
  obtain ⟨c2, b2, _⟩ := h.brd.blk
  exact ⟨h.other x (grown_set w x o u) (hx.ne_ h.hp (by decide)) (hx.ne_ b1 (by decide)) (hx.ne_ b2 (by decide)) (own_ne h.free hx (by decide)) (fun cs' hc => BlkW.ne_ hc hx (by decide) rfl), _, hx.set o u⟩
theorem RB.below {w' : World} {x : Nat} (h : RB w E B p bs bb v fv t x) (hb : Below w.heap.size w w') : RB w' E B p bs bb v fv t x := by
  obtain ⟨h, cs, hx⟩ := h
  exact ⟨h.keep hb, cs, hx.below hb⟩
/-- What blame answers. -/
def BlameD (k : Int) : Wd := if k = 1 ∨ k = 3 then nw (-1) else zw
theorem size_setCell (w : World) (a : Addr) (u : Value) : (w.setCell a u).heap.size = w.heap.size := by simp [World.setCell]
theorem blk_second (W : World) (a : Obj) (n : Nat) (T : TypeId) (cs : Array Value) (hn : W.heap.size = n) : BlkW ((W.alloc a).alloc (.cells cs T)) (n + 1) T cs := by
  subst hn
  have := BlkW.new (W.alloc a) T cs
  rwa [World.size_alloc] at this
def BlamePost (w : World) (E : Flt → Addr) (B p bs bb : Nat) (v : Value) (d : Wd) (t : St) (e : Ending) (w' : World) : Prop :=
  ∃ fv', e = .returned (rv d false) ∧ Rep w' E B p bs bb v fv' t ∧ Off (Mine p bs bb v) w w'
theorem Rep.blamed (h : Rep w E B p bs bb v fv t) (hf : t.fault = none) (a b : Obj) (x : Flt) :
    Rep ((((w.setCell ⟨p, 5, none⟩ (.iface 158 (.pointer (some ⟨w.heap.size + 1 + 1, 0, none⟩)))).alloc a).alloc b).alloc (.cells #[.int .i64 (t.steps : Int), .iface 260 (.pointer (some (E x)))] 161))
      E B p bs bb v (.iface 158 (.pointer (some ⟨w.heap.size + 1 + 1, 0, none⟩))) (t.blame x) := by
  have h3 := ((h.alloc a).alloc b).alloc (.cells #[.int .i64 (t.steps : Int), .iface 260 (.pointer (some (E x)))] 161)
  have hz := h.hp.lt
  have e := h3.own 5 (.iface 158 (.pointer (some ⟨w.heap.size + 1 + 1, 0, none⟩))) (v' := v) (fv' := .iface 158 (.pointer (some ⟨w.heap.size + 1 + 1, 0, none⟩))) (t' := t.blame x) rfl ⟨rfl, rfl, rfl, rfl⟩ h3.free (by
    unfold St.blame
    rw [hf]
    have := h.base_lt
    have hn := BlkW.new ((w.alloc a).alloc b) 161 #[.int .i64 (t.steps : Int), .iface 260 (.pointer (some (E x)))]
    rw [World.size_alloc, World.size_alloc] at hn
    exact ⟨w.heap.size + 1 + 1, rfl, by omega, hn⟩)
  rw [World.setCell_alloc_past _ _ _ _ (by rw [World.size_alloc, World.size_alloc]; omega), World.setCell_alloc_past _ _ _ _ (by rw [World.size_alloc]; omega), World.setCell_alloc_past _ _ _ _ hz] at e
  exact e
theorem Off.blamed {K : Nat → Prop} (hK : K p) (u : Value) (a b c : Obj) : Off K w ((((w.setCell ⟨p, 5, none⟩ u).alloc a).alloc b).alloc c) := ((((Off.refl K w).set (.inl hK) 5 u).alloc a).alloc b).alloc c
theorem blame_kept (h : Rep w E B p bs bb v fv t) {y : Nat × Flt} (hf : t.fault = some y) (x : Flt) (a b : Obj) : Rep ((w.alloc a).alloc b) E B p bs bb v fv (t.blame x) := by
  have e : t.blame x = t := by unfold St.blame; rw [hf]; simp only []; cases t; simp at hf; simp [hf]
  rw [e]; exact (h.alloc a).alloc b
theorem nw_rv : rv (nw (-1)) false = .agg #[.int .i64 0, .int .i64 0, .int .i64 0, .int .i64 (-1), .bool false, .bool false] := rfl
theorem zw_rv (ok : Bool) : rv zw ok = .agg #[.int .i64 0, .int .i64 0, .int .i64 0, .int .i64 0, .bool false, .bool ok] := rfl
set_option maxHeartbeats 1000000 in
theorem blame_first (h : Rep w E B p bs bb v fv t) (hf : t.fault = none) (x : Flt) (a : Ac) :
    Calls Tryz.prog 64 #[.pointer (some ⟨p, 0, none⟩), av a, .iface 260 (.pointer (some (E x)))] w (BlamePost w E B p bs bb v (BlameD a.kind) (t.blame x)) := by
  have HR := Lib.hid h
  have HF := Lib.hid hf
  have c3 := h.pcells.2.2.2.1
  have c5 := h.pcells.2.2.2.2.2
  have f5 := h.hp.frozen 5
  have hfv : fv = .nilIface := by have := h.fault; rw [hf] at this; exact this
  rw [hfv] at c5
  have hz := h.hp.lt
  have hz1 : p < w.heap.size + 1 := by omega
  have hz2 : p < w.heap.size + 1 + 1 := by omega
  have hz3 : p < w.heap.size + 1 + 1 + 1 := by omega
  clear hf h hfv
  obtain ⟨k, s, g, f, d, d'⟩ := a
  unfold av
  dsimp only
  by_cases k1 : k = 1
  · subst k1
    rw [show BlameD 1 = nw (-1) by rfl]
    unfold BlamePost
    rw [nw_rv]
    go_enter Tryz.func64, Tryz.ntmps64
    go_wp2_with fail
    refine (At_some _ _ _ _).mono ?_
    rintro e w1 ⟨rfl, rfl⟩
    go_wp2_with fail
    refine (Num_any _ _).mono ?_
    rintro e w1 ⟨rfl, hb⟩
    have HRB := Lib.hid (RB.below (x := w.heap.size + 1) ⟨HR.out.blamed HF.out _ _ x, _, (blk_second _ _ _ _ _ (by simp [World.setCell])).alloc _⟩ hb)
    have HO := Lib.hid ((Off.blamed (w := w) (K := Mine p bs bb v) (.inl rfl) _ _ _ _).then hb)
    obtain ⟨hc, hf⟩ := bcell hb
    have hzz := hb.size
    simp only [World.size_alloc, size_setCell] at hc hf hzz
    have hx0 : w.heap.size < w1.heap.size := by omega
    have hx1 : w.heap.size + 1 < w1.heap.size := by omega
    have hx2 : w.heap.size + 1 < w.heap.size + 1 + 1 := by omega
    have hx3 : w.heap.size + 1 < w.heap.size + 1 + 1 + 1 := by omega
    clear hb hzz
    go_wp2
    refine bodyPost_ret (v := .agg #[.int .i64 0, .int .i64 0, .int .i64 0, .int .i64 (-1), .bool false, .bool false]) (by simp [results, Tryz.results64, go_sem, hc]) rfl ⟨_, rfl, ((((((HRB.out.set 0 _).set 1 _).set 2 _).set 3 _).set 4 _).set 5 _).1, (((((HO.out.set (.inr (Nat.le_succ _)) 0 _).set (.inr (Nat.le_succ _)) 1 _).set (.inr (Nat.le_succ _)) 2 _).set (.inr (Nat.le_succ _)) 3 _).set (.inr (Nat.le_succ _)) 4 _).set (.inr (Nat.le_succ _)) 5 _⟩
  · by_cases k3 : k = 3
    · subst k3
      clear k1
      rw [show BlameD 3 = nw (-1) by rfl]
      unfold BlamePost
      rw [nw_rv]
      go_enter Tryz.func64, Tryz.ntmps64
      go_wp2_with fail
      refine (At_some _ _ _ _).mono ?_
      rintro e w1 ⟨rfl, rfl⟩
      go_wp2_with fail
      refine (Num_any _ _).mono ?_
      rintro e w1 ⟨rfl, hb⟩
      have HRB := Lib.hid (RB.below (x := w.heap.size + 1) ⟨HR.out.blamed HF.out _ _ x, _, (blk_second _ _ _ _ _ (by simp [World.setCell])).alloc _⟩ hb)
      have HO := Lib.hid ((Off.blamed (w := w) (K := Mine p bs bb v) (.inl rfl) _ _ _ _).then hb)
      obtain ⟨hc, hf⟩ := bcell hb
      have hzz := hb.size
      simp only [World.size_alloc, size_setCell] at hc hf hzz
      have hx0 : w.heap.size < w1.heap.size := by omega
      have hx1 : w.heap.size + 1 < w1.heap.size := by omega
      have hx2 : w.heap.size + 1 < w.heap.size + 1 + 1 := by omega
      have hx3 : w.heap.size + 1 < w.heap.size + 1 + 1 + 1 := by omega
      clear hb hzz
      go_wp2
      refine bodyPost_ret (v := .agg #[.int .i64 0, .int .i64 0, .int .i64 0, .int .i64 (-1), .bool false, .bool false]) (by simp [results, Tryz.results64, go_sem, hc]) rfl ⟨_, rfl, ((((((HRB.out.set 0 _).set 1 _).set 2 _).set 3 _).set 4 _).set 5 _).1, (((((HO.out.set (.inr (Nat.le_succ _)) 0 _).set (.inr (Nat.le_succ _)) 1 _).set (.inr (Nat.le_succ _)) 2 _).set (.inr (Nat.le_succ _)) 3 _).set (.inr (Nat.le_succ _)) 4 _).set (.inr (Nat.le_succ _)) 5 _⟩
    · rw [show BlameD k = zw by unfold BlameD; rw [if_neg (by omega)]]
      have e1 : (k == 1) = false := by simpa using k1
      have e3 : (k == 3) = false := by simpa using k3
      clear k1 k3
      unfold BlamePost
      rw [zw_rv]
      go_enter Tryz.func64, Tryz.ntmps64
      go_wp2_with fail
      refine (At_some _ _ _ _).mono ?_
      rintro e w1 ⟨rfl, rfl⟩
      go_wp2
      refine bodyPost_ret (v := .agg #[.int .i64 0, .int .i64 0, .int .i64 0, .int .i64 0, .bool false, .bool false]) (by simp [results, Tryz.results64, go_sem]) rfl ⟨_, rfl, HR.out.blamed HF.out _ _ x, Off.blamed (.inl rfl) _ _ _ _⟩
set_option maxHeartbeats 1000000 in
theorem blame_more (h : Rep w E B p bs bb v fv t) {y : Nat × Flt} (hf : t.fault = some y) (x : Flt) (a : Ac) :
    Calls Tryz.prog 64 #[.pointer (some ⟨p, 0, none⟩), av a, .iface 260 (.pointer (some (E x)))] w (BlamePost w E B p bs bb v (BlameD a.kind) (t.blame x)) := by
  have HR := Lib.hid h
  have HF := Lib.hid hf
  have c3 := h.pcells.2.2.2.1
  have c5 := h.pcells.2.2.2.2.2
  have f5 := h.hp.frozen 5
  have hfv : ∃ b, fv = .iface 158 (.pointer (some ⟨b, 0, none⟩)) := by
    have := h.fault
    rw [hf] at this
    obtain ⟨k, z⟩ := y
    obtain ⟨b, hb, _⟩ := this
    exact ⟨b, hb⟩
  obtain ⟨bf, rfl⟩ := hfv
  have hz := h.hp.lt
  have hz1 : p < w.heap.size + 1 := by omega
  have hz2 : p < w.heap.size + 1 + 1 := by omega
  have hz3 : p < w.heap.size + 1 + 1 + 1 := by omega
  clear hf h
  obtain ⟨k, s, g, f, d, d'⟩ := a
  unfold av
  dsimp only
  by_cases k1 : k = 1
  · subst k1
    rw [show BlameD 1 = nw (-1) by rfl]
    unfold BlamePost
    rw [nw_rv]
    go_enter Tryz.func64, Tryz.ntmps64
    go_wp2_with fail
    refine (Num_any _ _).mono ?_
    rintro e w1 ⟨rfl, hb⟩
    have HRB := Lib.hid (RB.below (x := w.heap.size + 1) ⟨blame_kept HR.out HF.out x _ _, _, blk_second _ _ _ _ _ rfl⟩ hb)
    have HO := Lib.hid ((((Off.refl (Mine p bs bb v) w).alloc _).alloc _).then hb)
    obtain ⟨hc, hf⟩ := bcell hb
    have hzz := hb.size
    simp only [World.size_alloc] at hc hf hzz
    have hx0 : w.heap.size < w1.heap.size := by omega
    have hx1 : w.heap.size + 1 < w1.heap.size := by omega
    have hx2 : w.heap.size + 1 < w.heap.size + 1 + 1 := by omega
    have hx3 : w.heap.size + 1 < w.heap.size + 1 + 1 + 1 := by omega
    clear hb hzz
    go_wp2
    refine bodyPost_ret (v := .agg #[.int .i64 0, .int .i64 0, .int .i64 0, .int .i64 (-1), .bool false, .bool false]) (by simp [results, Tryz.results64, go_sem, hc]) rfl ⟨_, rfl, ((((((HRB.out.set 0 _).set 1 _).set 2 _).set 3 _).set 4 _).set 5 _).1, (((((HO.out.set (.inr (Nat.le_succ _)) 0 _).set (.inr (Nat.le_succ _)) 1 _).set (.inr (Nat.le_succ _)) 2 _).set (.inr (Nat.le_succ _)) 3 _).set (.inr (Nat.le_succ _)) 4 _).set (.inr (Nat.le_succ _)) 5 _⟩
  · by_cases k3 : k = 3
    · subst k3
      clear k1
      rw [show BlameD 3 = nw (-1) by rfl]
      unfold BlamePost
      rw [nw_rv]
      go_enter Tryz.func64, Tryz.ntmps64
      go_wp2_with fail
      refine (Num_any _ _).mono ?_
      rintro e w1 ⟨rfl, hb⟩
      have HRB := Lib.hid (RB.below (x := w.heap.size + 1) ⟨blame_kept HR.out HF.out x _ _, _, blk_second _ _ _ _ _ rfl⟩ hb)
      have HO := Lib.hid ((((Off.refl (Mine p bs bb v) w).alloc _).alloc _).then hb)
      obtain ⟨hc, hf⟩ := bcell hb
      have hzz := hb.size
      simp only [World.size_alloc] at hc hf hzz
      have hx0 : w.heap.size < w1.heap.size := by omega
      have hx1 : w.heap.size + 1 < w1.heap.size := by omega
      have hx2 : w.heap.size + 1 < w.heap.size + 1 + 1 := by omega
      have hx3 : w.heap.size + 1 < w.heap.size + 1 + 1 + 1 := by omega
      clear hb hzz
      go_wp2
      refine bodyPost_ret (v := .agg #[.int .i64 0, .int .i64 0, .int .i64 0, .int .i64 (-1), .bool false, .bool false]) (by simp [results, Tryz.results64, go_sem, hc]) rfl ⟨_, rfl, ((((((HRB.out.set 0 _).set 1 _).set 2 _).set 3 _).set 4 _).set 5 _).1, (((((HO.out.set (.inr (Nat.le_succ _)) 0 _).set (.inr (Nat.le_succ _)) 1 _).set (.inr (Nat.le_succ _)) 2 _).set (.inr (Nat.le_succ _)) 3 _).set (.inr (Nat.le_succ _)) 4 _).set (.inr (Nat.le_succ _)) 5 _⟩
    · rw [show BlameD k = zw by unfold BlameD; rw [if_neg (by omega)]]
      have e1 : (k == 1) = false := by simpa using k1
      have e3 : (k == 3) = false := by simpa using k3
      clear k1 k3
      unfold BlamePost
      rw [zw_rv]
      go_enter Tryz.func64, Tryz.ntmps64
      go_wp2_with fail
      refine bodyPost_ret (v := .agg #[.int .i64 0, .int .i64 0, .int .i64 0, .int .i64 0, .bool false, .bool false]) (by simp [results, Tryz.results64, go_sem]) rfl ⟨_, rfl, blame_kept HR.out HF.out x _ _, ((Off.refl _ _).alloc _).alloc _⟩
theorem blame_any (h : Rep w E B p bs bb v fv t) (x : Flt) (a : Ac) :
    Calls Tryz.prog 64 #[.pointer (some ⟨p, 0, none⟩), av a, .iface 260 (.pointer (some (E x)))] w (BlamePost w E B p bs bb v (BlameD a.kind) (t.blame x)) := by
  cases hf : t.fault with
  | none => exact blame_first h hf x a
  | some y => exact blame_more h hf x a
end
end Go.Proofs.YtihjklimcchkhaaGreatDoor

namespace Go.Proofs.YtihjklimcchkhaaGreatDoor
open Go.RowKit Go.Extern.Stop Go.Stop Go.Extern Go.Sort
section
variable {w : World} {E : Flt → Addr} {B p bs bb : Nat} {v fv : Value} {t : St}
def GivePost (w : World) (E : Flt → Addr) (B p bs bb : Nat) (v : Value) (r : St × Wd × Bool) (e : Ending) (w' : World) : Prop :=
  ∃ v' fv', e = .returned (rv r.2.1 r.2.2) ∧ Rep w' E B p bs bb v' fv' r.1 ∧ Off (Mine p bs bb v) w w' ∧ (v'.ownBlock = v.ownBlock ∨ ∀ k, v'.ownBlock = some k → w.heap.size ≤ k)
theorem own_nil {w : World} {base : Nat} {e : TypeId} {v : Value} {xs : List Value} (h : w.ownsRow base e 1 v 0 xs) : ∃ ao c, v = .slice ao 0 c := by
  rcases h.2 with ⟨rfl, _⟩ | ⟨g, cap, cur, rfl, _⟩
  · exact ⟨_, _, rfl⟩
  · exact ⟨_, _, rfl⟩
theorem give_none (h : Rep w E B p bs bb v fv t) (hf : t.free = []) (birth : Int) :
    Calls Tryz.prog 65 #[.pointer (some ⟨p, 0, none⟩), .int .i64 birth] w (GivePost w E B p bs bb v (t, zw, false)) := by
  have HR := Lib.hid h
  have c2 := h.pcells.2.2.1
  have hz := h.hp.lt
  have hv := h.free
  rw [hf] at hv
  obtain ⟨ao, c, rfl⟩ := own_nil hv
  clear h hv hf
  unfold GivePost
  dsimp only
  rw [zw_rv]
  go_enter Tryz.func65, Tryz.ntmps65
  go_wp2
  refine bodyPost_ret (v := .agg #[.int .i64 0, .int .i64 0, .int .i64 0, .int .i64 0, .bool false, .bool false]) (by simp [results, Tryz.results65, go_sem]) rfl ⟨_, _, rfl, HR.out.alloc _, (Off.refl _ _).alloc _, .inl rfl⟩
theorem own_last {w : World} {base : Nat} {v : Value} {i : Nat} {r : List Nat} (h : w.ownsRow base 3 1 v (i :: r).length (frow (i :: r))) :
    ∃ g cap, v = .slice (some ⟨g, 0, none⟩) (r.length + 1) cap ∧ r.length + 1 ≤ cap ∧ cap ≤ maxLen ∧ w.cell? ⟨g, r.length, none⟩ = some (.int .i64 ((i : Int) + 1)) ∧ base ≤ g ∧ g < w.heap.size ∧
      w.ownsRow base 3 1 (.slice (some ⟨g, 0, none⟩) r.length cap) r.length (frow r) := by
  have h0 := h
  obtain ⟨h1, h2⟩ := h
  rcases h2 with ⟨_, h3⟩ | ⟨g, cap, cur, rfl, h4, h5, h6, h7, h8, h9⟩
  · simp at h3
  · have hfr : frow (i :: r) = frow r ++ [.int .i64 ((i : Int) + 1)] := by simp [frow]
    have hfl : (frow r).length = r.length := by simp [frow]
    refine ⟨g, cap, rfl, h6, h7, ?_, h4, (h0.lt g rfl).2, ?_⟩
    · rw [h0.cellAt r.length (by simp), hfr, List.getElem?_append_right (by omega), hfl]
      simp
    · refine ⟨by simp [hfl], .inr ⟨g, cap, cur, rfl, h4, h5, by simp at h6; omega, h7, h8, ?_⟩⟩
      rw [hfr] at h9
      have : (cur.toList.take ((i :: r).length * 1)).take r.length = frow r := by rw [h9, List.take_append_of_le_length (by omega), List.take_of_length_le (by omega)]
      rw [List.take_take] at this
      simpa using this
theorem nodup_le (n : Nat) : ∀ l : List Nat, l.Nodup → (∀ x ∈ l, x < n) → l.length ≤ n := by
  induction n with
  | zero =>
    intro l _ h
    cases l with
    | nil => exact Nat.le_refl _
    | cons a l => exact absurd (h a (List.mem_cons_self ..)) (Nat.not_lt_zero _)
  | succ n ih =>
    intro l hn h
    have h1 := ih (l.erase n) (hn.erase n) (fun x hx => by
      have := (hn.mem_erase_iff).1 hx
      have := h x this.2
      omega)
    have := @List.length_erase _ _ _ n l
    split at this <;> omega
theorem fresh_cast {n : Nat} {S : Nat → Sl} (h : Slots w bs n S) {i : Nat} (hi : i < n) (q : Nat) :
    Slots (w.setCells bs (i * 52) (freshCells ((q : Int) + 1))) bs n (fun k => if k = i then ⟨q + 1, true, fun _ => zw⟩ else S k) := by
  have := h.fresh hi (q + 1)
  have e : ((q + 1 : Nat) : Int) = (q : Int) + 1 := by omega
  rw [e] at this
  exact this
theorem fresh_one (g : Int) : (freshCells g).toArray.all (·.oneCell') = true :=
  all_oneCell_toArray fun v hv => by
    simp [freshCells, wc, zw] at hv
    repeat (first | (subst hv; rfl) | (rcases hv with rfl | hv; · rfl))
theorem Rep.slot_congr (h : Rep w E B p bs bb v fv t) (S : Nat → Sl) (e : ∀ k, t.slot k = S k) : Rep w E B p bs bb v fv { t with slot := S } := by
  obtain rfl : t.slot = S := funext e
  exact h
set_option maxRecDepth 100000 in
set_option maxHeartbeats 2000000 in
theorem give_some (h : Rep w E B p bs bb v fv t) (o : t.Ok) (hm : t.made < 1000000) (i : Nat) (r : List Nat) (hf : t.free = i :: r) (birth : Int) :
    Calls Tryz.prog 65 #[.pointer (some ⟨p, 0, none⟩), .int .i64 birth] w (GivePost w E B p bs bb v (t.give birth)) := by
  have HR := Lib.hid h
  have hi : i < t.n := o.lt i (by rw [hf]; exact List.mem_cons_self ..)
  have hn := o.size
  have c2 := h.pcells.2.2.1
  have c4 := h.pcells.2.2.2.2.1
  have f2 := h.hp.frozen 2
  have f4 := h.hp.frozen 4
  have hz := h.hp.lt
  have hz1 : p < w.heap.size + 1 := by omega
  have hg := o.gen i
  have hv := h.free
  rw [hf] at hv
  obtain ⟨g, cap, rfl, k1, k2, c5, k3, k4, hown⟩ := own_last hv
  have HW := Lib.hid hown
  have HF := Lib.hid hf
  obtain ⟨L, hL⟩ : ∃ L, L = r.length := ⟨_, rfl⟩
  have HL := Lib.hid hL
  rw [← hL] at k1 c2 c5
  have hgp : g ≠ p := fun e => by have := h.ne.2.2.2.1; simp [Value.ownBlock, e] at this
  have j0 : decide ((L : Int) < 0) = false := by simp
  have j1 : (L : Int) + 1 ≤ cap := by omega
  have j2 : (L : Int) + 1 ≤ 1024 := by
    have := nodup_le t.n t.free o.nodup o.lt
    rw [hf, List.length_cons, ← hL] at this
    omega
  have j3 : (t.made : Int) < 1000000 := by omega
  clear h hv hf o hown hL k2
  go_enter Tryz.func65, Tryz.ntmps65
  go_wp2_with fail
  have R2 := HR.out.own 2 (.slice (some ⟨g, 0, none⟩) L cap) (v' := .slice (some ⟨g, 0, none⟩) L cap) (fv' := fv) (t' := { t with free := r }) rfl ⟨rfl, rfl, rfl, rfl⟩ (by rw [HL.out]; exact HW.out) HR.out.fault
  have R4 := R2.own 4 (.int .i64 ((t.made : Int) + 1)) (v' := .slice (some ⟨g, 0, none⟩) L cap) (fv' := fv) (t' := { t with free := r, made := t.made + 1 }) rfl ⟨rfl, rfl, rfl, rfl⟩ R2.free R2.fault
  have hb : BlkW (((w.setCell ⟨p, 2, none⟩ (.slice (some ⟨g, 0, none⟩) L cap)).setCell ⟨p, 4, none⟩ (.int .i64 ((t.made : Int) + 1))).alloc (.cells #[.int .i64 0, .int .i64 0, .int .i64 0, .int .i64 0, .bool false, .bool false] 63)) w.heap.size 63 #[.int .i64 0, .int .i64 0, .int .i64 0, .int .i64 0, .bool false, .bool false] := by
    have := BlkW.new ((w.setCell ⟨p, 2, none⟩ (.slice (some ⟨g, 0, none⟩) L cap)).setCell ⟨p, 4, none⟩ (.int .i64 ((t.made : Int) + 1))) 63 #[.int .i64 0, .int .i64 0, .int .i64 0, .int .i64 0, .bool false, .bool false]
    rwa [size_setCell, size_setCell] at this
  have R5 := R4.alloc (.cells #[.int .i64 0, .int .i64 0, .int .i64 0, .int .i64 0, .bool false, .bool false] 63)
  have O5 := ((((Off.refl (Mine p bs bb (.slice (some ⟨g, 0, none⟩) (r.length + 1) cap)) w).set (.inl (.inl rfl)) 2 (.slice (some ⟨g, 0, none⟩) L cap)).set (.inl (.inl rfl)) 4 (.int .i64 ((t.made : Int) + 1))).alloc (.cells #[.int .i64 0, .int .i64 0, .int .i64 0, .int .i64 0, .bool false, .bool false] 63))
  clear R2 R4 c2 c4 c5 f2 f4
  refine (slot_in R5 hn i hi).mono ?_
  rintro e w1 ⟨rfl, rfl⟩
  have hz5 : w.heap.size < (((w.setCell ⟨p, 2, none⟩ (.slice (some ⟨g, 0, none⟩) L cap)).setCell ⟨p, 4, none⟩ (.int .i64 ((t.made : Int) + 1))).alloc (.cells #[.int .i64 0, .int .i64 0, .int .i64 0, .int .i64 0, .bool false, .bool false] 63)).heap.size := hb.lt
  generalize (((w.setCell ⟨p, 2, none⟩ (.slice (some ⟨g, 0, none⟩) L cap)).setCell ⟨p, 4, none⟩ (.int .i64 ((t.made : Int) + 1))).alloc (.cells #[.int .i64 0, .int .i64 0, .int .i64 0, .int .i64 0, .bool false, .bool false] 63)) = W at hb R5 O5 hz5 ⊢
  have h0 : W.cell? ⟨bs, i * 52, none⟩ = some (.int .i64 ((t.slot i).gen : Int)) := R5.slots.head i hi 0 _ rfl
  have hth := Lib.hid (R5.slots.there (o := i * 52) (k := 52) (by show i * 52 + 52 ≤ t.n * 52; omega))
  have HB := Lib.hid hb
  have H5 := Lib.hid R5
  have O5 := Lib.hid O5
  obtain ⟨q, hq⟩ : ∃ q : Nat, q = (t.slot i).gen := ⟨_, rfl⟩
  have HQ := Lib.hid hq
  rw [← hq] at h0 hg
  have hg2 : (q : Int) < 1000000 := by omega
  clear hb R5 hq
  go_upto_region 9 with (refine wpList_store_mid rfl 142 (.tmp 50) (.tmp 49) rfl bs (i * 52) (freshCells ((q : Int) + 1)).toArray (by rfl) (by rfl) hth.out (by kernel_rfl) (fresh_one _) ?_)
  have hf5 := fresh_cast H5.out.slots hi q
  have R6 := H5.out.inSlots (i * 52) (freshCells ((q : Int) + 1)) hf5
  have O6 := Lib.hid (O5.out.sets (b := bs) (.inl (.inr (.inl rfl))) (freshCells ((q : Int) + 1)) (i * 52))
  have hbs : w.heap.size ≠ bs := fun e => by
    obtain ⟨cs, hcs, _⟩ := H5.out.slots.blk
    exact BlkW.ne_ HB.out hcs (by decide) e
  have B6 := Lib.hid (blk_far hbs (freshCells ((q : Int) + 1)) (i * 52) HB.out)
  clear hf5 h0
  generalize W.setCells bs (i * 52) (freshCells ((q : Int) + 1)) = W1 at R6 O6 B6 ⊢
  have d0 : W1.cell? ⟨bs, i * 52, none⟩ = some (.int .i64 (((q + 1 : Nat) : Int))) := by
    have := R6.slots.head i hi 0 _ rfl
    simpa using this
  have d1 : WdAt W1 bs (i * 52 + 2 + 9 * 5) zw := by
    have := R6.slots.cell i 9 hi (by omega)
    simpa using this
  have d2 : ∀ x, W1.frozen? ⟨bs, x, none⟩ = false := by
    obtain ⟨cs, hcs, _⟩ := R6.slots.blk
    exact fun x => hcs.frozen x
  have lbs := R6.lt.2.1
  have hN := (Num_any birth W1.drew).mono (R' := fun e w2 => e = .returned (.agg #[.int .i64 0, .int .i64 0, .int .i64 0, .int .i64 birth, .bool false]) ∧ WdAt w2 bs (i * 52 + 2 + 9 * 5) zw ∧ (∀ x, w2.frozen? ⟨bs, x, none⟩ = false) ∧ w2.cell? ⟨bs, i * 52, none⟩ = some (.int .i64 ((q + 1 : Nat) : Int)) ∧
      BlkW w2 w.heap.size 63 #[.int .i64 0, .int .i64 0, .int .i64 0, .int .i64 0, .bool false, .bool false] ∧ Hid (Below W1.heap.size W1 w2)) (fun e w2 h => by
    obtain ⟨he, hb⟩ := h
    have hb : Below W1.heap.size W1 w2 := ⟨hb.os, hb.tape, hb.output, hb.size, hb.block⟩
    exact ⟨he, range_block d1 (hb.block _ lbs), fun x => by rw [hb.frozen (p := ⟨bs, x, none⟩) lbs]; exact d2 x, by rw [hb.cell (p := ⟨bs, i * 52, none⟩) lbs]; exact d0, B6.out.below hb, hb⟩)
  have H6 := Lib.hid R6
  clear R6 d0 d1 d2
  go_simp
  go_region_with (go_at_call 81; refine hN.mono ?_; rintro e w2 ⟨rfl, d1, d2, d0, d3, hb⟩; obtain ⟨c0, c1, c2, c3, c4⟩ := d1.cells)
  go_upto_region 10 with (fail)
  clear c0 c1 c2 c3 c4 d0 d1 d2
  have R7 := H6.out.keep hb.out
  have R8 := R7.inSlots _ _ (R7.slots.word hi (f := 9) (by omega) (nw birth))
  have O8 := Lib.hid ((O6.out.then hb.out).sets (b := bs) (.inl (.inr (.inl rfl))) (wc (nw birth)) (i * 52 + 2 + 9 * 5))
  have B8 := blk_far hbs (wc (nw birth)) (i * 52 + 2 + 9 * 5) d3
  clear d3 R7
  have e8 : w2.setCells bs (i * 52 + 2 + 9 * 5) (wc (nw birth)) = ((((w2.setCell ⟨bs, i * 52 + 2 + 45, none⟩ (.int .i64 0)).setCell ⟨bs, i * 52 + 2 + 45 + 1, none⟩ (.int .i64 0)).setCell ⟨bs, i * 52 + 2 + 45 + 2, none⟩ (.int .i64 0)).setCell ⟨bs, i * 52 + 2 + 45 + 3, none⟩ (.int .i64 birth)).setCell ⟨bs, i * 52 + 2 + 45 + 4, none⟩ (.bool false) := rfl
  rw [e8] at R8 O8 B8
  clear e8
  generalize ((((w2.setCell ⟨bs, i * 52 + 2 + 45, none⟩ (.int .i64 0)).setCell ⟨bs, i * 52 + 2 + 45 + 1, none⟩ (.int .i64 0)).setCell ⟨bs, i * 52 + 2 + 45 + 2, none⟩ (.int .i64 0)).setCell ⟨bs, i * 52 + 2 + 45 + 3, none⟩ (.int .i64 birth)).setCell ⟨bs, i * 52 + 2 + 45 + 4, none⟩ (.bool false) = W3 at R8 O8 B8 ⊢
  have d0 : W3.cell? ⟨bs, i * 52, none⟩ = some (.int .i64 ((q : Int) + 1)) := by
    have := R8.slots.head i hi 0 _ rfl
    simpa using this
  have f0 := fun x => B8.frozen x
  have c0 := B8.cell 0
  have c1 := B8.cell 1
  have c2 := B8.cell 2
  have c3 := B8.cell 3
  have c4 := B8.cell 4
  have c5 := B8.cell 5
  simp only [List.getElem?_toArray, List.getElem?_cons_succ, List.getElem?_cons_zero] at c0 c1 c2 c3 c4 c5
  have RB8 := Lib.hid (show RB W3 E B p bs bb _ fv _ w.heap.size from ⟨R8, _, B8⟩)
  clear R8 B8
  go_wp2
  refine bodyPost_ret (v := .agg #[.int .i64 ((i : Int) + 1), .int .i64 ((q : Int) + 1), .int .i64 0, .int .i64 0, .bool false, .bool true]) (by simp [results, Tryz.results65, go_sem, c0, c1, c2, c3, c4, c5]) rfl ?_
  have hr : t.give birth = ({ t with free := r, made := t.made + 1, slot := fun k => if k = i then ⟨(t.slot i).gen + 1, true, fun h => if h = 9 then nw birth else zw⟩ else t.slot k }, ⟨(i : Int) + 1, ((t.slot i).gen : Int) + 1, 0, 0, false⟩, true) := by
    unfold St.give; rw [HF.out]
  rw [hr, ← HQ.out]
  refine ⟨_, fv, rfl, Rep.slot_congr ((((((RB8.out.set 0 _).set 1 _).set 2 _).set 3 _).set 4 _).set 5 _).1 _ (fun k => ?_), (((((O8.out.set (.inr (Nat.le_refl _)) 0 _).set (.inr (Nat.le_refl _)) 1 _).set (.inr (Nat.le_refl _)) 2 _).set (.inr (Nat.le_refl _)) 3 _).set (.inr (Nat.le_refl _)) 4 _).set (.inr (Nat.le_refl _)) 5 _, .inl rfl⟩
  by_cases e : k = i
  · subst e; simp
  · simp [e]
end
end Go.Proofs.YtihjklimcchkhaaGreatDoor

namespace Go.Proofs.YtihjklimcchkhaaGreatDoor
open Go.RowKit Go.Extern.Stop Go.Stop Go.Extern Go.Sort
section
variable {w : World} {E : Flt → Addr} {B p bs bb : Nat} {v fv : Value} {t : St}
/-- Behind an append to the row of free slots. -/
theorem Rep.regrow {W w4 : World} {v' : Value} {l : List Nat} (h : Rep W E B p bs bb v fv t) (hg : W.grownBy w4 v.ownBlock) (hown : w4.ownsRow B 3 1 v' l.length (frow l)) : Rep (w4.setCell ⟨p, 2, none⟩ v') E B p bs bb v' fv { t with free := l } := by
  obtain ⟨n1, n2, n3, n4, n5, n6⟩ := h.ne
  have hp4 : BlkW w4 p 116 (pc bs bb v fv t) := (hg.block _ h.hp.lt (fun e => n4 e.symm)).trans h.hp
  have hs := grown_set w4 p 2 v'
  have lt4 : ∀ {k}, k < W.heap.size → k < w4.heap.size := fun hk => Nat.lt_of_lt_of_le hk hg.size
  refine ⟨hp4.set 2 v', h.slots.block ((hs.block _ (lt4 h.slots.lt) (by simpa using Ne.symm n1)).trans (hg.block _ h.slots.lt (fun e => n5 e.symm))), h.brd.block ((hs.block _ (lt4 h.brd.lt) (by simpa using Ne.symm n2)).trans (hg.block _ h.brd.lt (fun e => n6 e.symm))),
    hown.kept hs (.inr (own_ne hown hp4 (by decide))), h.fault.keep (fun b cs hk => (hs.block _ (lt4 hk.lt) (by
      intro e
      have e : b = p := by simpa using e
      subst e
      exact BlkW.ne_ hk h.hp (by decide) rfl)).trans (hg.block _ hk.lt (fun e => own_ne h.free hk (by decide) e.symm))), h.bp, h.bbs, h.bbb⟩
theorem info3 : (Tryz.prog.info? 3).map (fun i => (i.zero, i.size, i.bytes)) = some (some (.int .i64 0), 1, 8) := by kernel_rfl
theorem frow_cons (i : Nat) (l : List Nat) : frow (i :: l) = frow l ++ [.int .i64 ((i : Int) + 1)] := by simp [frow]
set_option maxRecDepth 100000 in
set_option maxHeartbeats 2000000 in
theorem take_any (h : Rep w E B p bs bb v fv t) (o : t.Ok) (i : Nat) (hi : i < t.n) :
    Calls Tryz.prog 66 #[.pointer (some ⟨p, 0, none⟩), .int .i64 ((i : Int) + 1)] w (GivePost w E B p bs bb v (t.take i, zw, true)) := by
  have hn := o.size
  have hl : t.free.length ≤ 1024 := Nat.le_trans (nodup_le t.n t.free o.nodup o.lt) hn
  have HR := Lib.hid h
  have R1 := Lib.hid (h.inSlots (i * 52 + 1) [.bool false] (h.slots.flag hi false))
  have O1 := Lib.hid ((Off.refl (Mine p bs bb v) w).sets (b := bs) (.inl (.inr (.inl rfl))) [.bool false] (i * 52 + 1))
  have c1 : w.cell? ⟨bs, i * 52 + 1, none⟩ = some (.bool (t.slot i).given) := h.slots.head i hi 1 _ rfl
  have f1 : w.frozen? ⟨bs, i * 52 + 1, none⟩ = false := by
    obtain ⟨cs, hcs, _⟩ := h.slots.blk
    exact hcs.frozen _
  have c2 := h.pcells.2.2.1
  have f2 := h.hp.frozen 2
  have hz := h.hp.lt
  have hz1 : p < w.heap.size + 1 := by omega
  have lz := h.slots.lt
  have lz1 : bs < w.heap.size + 1 := by omega
  have hpb := h.ne.1
  have hpb2 : ¬ bs = p := fun e => hpb e.symm
  have hB := h.base_lt
  obtain ⟨i0, hi0, hz0, hz01, hz02⟩ := info_parts info3
  clear h o
  go_enter Tryz.func66, Tryz.ntmps66
  go_wp2_with (first
    | (go_at_call 95; refine (slot_in (HR.out.alloc _) hn i hi).mono ?_; rintro e w' ⟨rfl, rfl⟩)
    | (at_builtin; refine wpList_append_own_at _ rfl _ _ 23 rfl B 3 i0 (.int .i64 0) 1 8 Tryz.underlying23 hi0 hz0 hz01 hz02 rfl (by decide) v t.free.length (frow t.free) (by rfl) ((R1.out.alloc _).alloc _).free ⟨w.heap.size + 1, 0, none⟩ 1 1 [.int .i64 ((i : Int) + 1)] (by rfl) rfl ?c1 ?c2 ?c3 ?c4 ?c5 ?_))
  case c1 =>
    have := cell_one_new ((w.setCell ⟨bs, i * 52 + 1, none⟩ (.bool false)).alloc (.cells #[.int .i64 0, .int .i64 0, .int .i64 0, .int .i64 0, .bool false, .bool false] 63)) (.int .i64 ((i : Int) + 1)) 3
    rw [World.size_alloc, size_setCell] at this
    exact this
  case c2 => intro u hu; simp at hu; subst hu; rfl
  case c3 => simp [maxLen]; omega
  case c4 => omega
  case c5 => rw [World.size_alloc, World.size_alloc, size_setCell]; omega
  intro v' w4 hown' hgrow _ hat
  obtain ⟨g', cap', rfl, _, _⟩ := hown'.form (by omega)
  have R2 := (R1.out.alloc (.cells #[.int .i64 0, .int .i64 0, .int .i64 0, .int .i64 0, .bool false, .bool false] 63)).alloc (.cells #[.int .i64 ((i : Int) + 1)] 3)
  have O2 := (O1.out.alloc (.cells #[.int .i64 0, .int .i64 0, .int .i64 0, .int .i64 0, .bool false, .bool false] 63)).alloc (.cells #[.int .i64 ((i : Int) + 1)] 3)
  have b2 : BlkW (((w.setCells bs (i * 52 + 1) [.bool false]).alloc (.cells #[.int .i64 0, .int .i64 0, .int .i64 0, .int .i64 0, .bool false, .bool false] 63)).alloc (.cells #[.int .i64 ((i : Int) + 1)] 3)) w.heap.size 63 #[.int .i64 0, .int .i64 0, .int .i64 0, .int .i64 0, .bool false, .bool false] := by
    have := (BlkW.new (w.setCells bs (i * 52 + 1) [.bool false]) 63 #[.int .i64 0, .int .i64 0, .int .i64 0, .int .i64 0, .bool false, .bool false]).alloc (.cells #[.int .i64 ((i : Int) + 1)] 3)
    have e : (w.setCells bs (i * 52 + 1) [.bool false]).heap.size = w.heap.size := size_setCell _ _ _
    rwa [e] at this
  have b4 : BlkW w4 w.heap.size 63 #[.int .i64 0, .int .i64 0, .int .i64 0, .int .i64 0, .bool false, .bool false] := (hgrow.block _ b2.lt (fun e => own_ne R2.free b2 (by decide) e.symm)).trans b2
  have p4 := (hgrow.block _ R2.hp.lt (fun e => R2.ne.2.2.2.1 e.symm)).trans R2.hp
  have R4 := R2.regrow (l := i :: t.free) hgrow (by rw [frow_cons]; exact hown')
  have O4 := (O2.grown hgrow (fun k e => .inl (.inr (.inr (.inr e))))).set (b := p) (.inl (.inl rfl)) 2 (.slice (some ⟨g', 0, none⟩) (t.free.length + 1) cap')
  have hpz : ¬ w.heap.size = p := by omega
  have b5 := b4.far (b := p) (i := 2) hpz (.slice (some ⟨g', 0, none⟩) (t.free.length + 1) cap')
  have hat2 : (Value.slice (some ⟨g', 0, none⟩) (t.free.length + 1) cap').ownBlock = v.ownBlock ∨ ∀ k, (Value.slice (some ⟨g', 0, none⟩) (t.free.length + 1) cap').ownBlock = some k → w.heap.size ≤ k := by
    rcases hat with e | e
    · exact .inl e
    · refine .inr (fun k hk => ?_)
      rw [e] at hk
      have hk := Option.some.inj hk
      omega
  have g2 : w4.cell? ⟨p, 2, none⟩ = some v := by
    have := BlkW.cell p4 2
    exact this
  have g3 := BlkW.frozen p4 2
  have f0 := fun x => b4.frozen x
  have a0 := b4.cell 0
  have a1 := b4.cell 1
  have a2 := b4.cell 2
  have a3 := b4.cell 3
  have a4 := b4.cell 4
  have a5 := b4.cell 5
  simp only [List.getElem?_toArray, List.getElem?_cons_succ, List.getElem?_cons_zero] at a0 a1 a2 a3 a4 a5
  have RB := Lib.hid (show RB _ E B p bs bb _ fv _ w.heap.size from ⟨R4, _, b5⟩)
  have HO := Lib.hid O4
  have HA := Lib.hid hat2
  clear R2 O2 b2 b4 p4 R4 O4 b5 hown' hgrow hat hat2 c1 f1 c2 f2
  go_wp2
  refine bodyPost_ret (v := .agg #[.int .i64 0, .int .i64 0, .int .i64 0, .int .i64 0, .bool false, .bool true]) (by simp [results, Tryz.results66, go_sem, a0, a1, a2, a3, a4, a5]) rfl ?_
  exact ⟨_, fv, rfl, ((((((RB.out.set 0 _).set 1 _).set 2 _).set 3 _).set 4 _).set 5 _).1, (((((HO.out.set (.inr (Nat.le_refl _)) 0 _).set (.inr (Nat.le_refl _)) 1 _).set (.inr (Nat.le_refl _)) 2 _).set (.inr (Nat.le_refl _)) 3 _).set (.inr (Nat.le_refl _)) 4 _).set (.inr (Nat.le_refl _)) 5 _, HA.out⟩
end
end Go.Proofs.YtihjklimcchkhaaGreatDoor
