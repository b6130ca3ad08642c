/- What single accesses do, as plain data. A template (fill.py). -/
import Derived.Test.YtjilhncnbkaebaaGreatDoorMod
namespace Go.Proofs.YtjilhncnbkaebaaGreatDoor
def St.tick (t : St) : St := { t with steps := t.steps + 1 }
theorem step_cell {t : St} {a : Ac} {l : Loc} (hk : a.kind = 1 ∨ a.kind = 2 ∨ a.kind = 3) (hl : t.loc a.s a.g a.f = some l) (hm : t.miss a.s a.g .freed = none) : t.step a = t.tick.touch l a := by
  unfold St.step St.act
  have hw : ({ t with steps := t.steps + 1 } : St).wrong a = none := by
    unfold St.wrong
    rw [if_neg (by omega), if_neg (by omega)]
    exact hm
  have hl' : ({ t with steps := t.steps + 1 } : St).loc a.s a.g a.f = some l := hl
  rw [hw]
  simp only []
  rw [if_neg (by omega), if_neg (by omega), hl']
  rfl
theorem step_give {t : St} {a : Ac} (hk : a.kind = 4) : t.step a = t.tick.give a.new.num := by
  unfold St.step St.act
  have hw : ({ t with steps := t.steps + 1 } : St).wrong a = none := by
    unfold St.wrong
    rw [if_pos hk]
  rw [hw]
  simp only []
  rw [if_pos hk]
  rfl
theorem step_take {t : St} {a : Ac} (hk : a.kind = 5) (i : Nat) (hi : i < t.n) (ho : a.old.slot = (i : Int) + 1) (hg : (t.slot i).given = true) (he : ((t.slot i).gen : Int) = a.old.gen) : t.step a = (t.tick.take i, zw, true) := by
  have e : (a.old.slot - 1).toNat = i := by omega
  unfold St.step St.act
  have hw : ({ t with steps := t.steps + 1 } : St).wrong a = none := by
    unfold St.wrong
    rw [if_neg (by omega), if_pos hk]
    unfold St.miss
    simp only [e]
    rw [if_pos ⟨by omega, by omega⟩]
    rw [if_neg (by simp [hg]), if_neg (by simpa using he)]
  rw [hw]
  simp only []
  rw [if_neg (by omega), if_pos hk, e]
  rfl
/-- A free that is wrong: the slot is free. -/
theorem step_twice {t : St} {a : Ac} (hk : a.kind = 5) (i : Nat) (hi : i < t.n) (ho : a.old.slot = (i : Int) + 1) (hg : (t.slot i).given = false) : t.step a = (t.tick.blame .twice, zw, false) := by
  have e : (a.old.slot - 1).toNat = i := by omega
  unfold St.step St.act
  have hw : ({ t with steps := t.steps + 1 } : St).wrong a = some .twice := by
    unfold St.wrong
    rw [if_neg (by omega), if_pos hk]
    unfold St.miss
    simp only [e]
    rw [if_pos ⟨by omega, by omega⟩, if_pos hg]
  rw [hw]
  simp only []
  rw [if_neg (by omega)]
  rfl
theorem can_new (t : St) (a : Ac) (hk : a.kind = 4) : t.can a = true := by
  unfold St.can; rw [if_neg (by omega), if_pos hk]
theorem can_free (t : St) (a : Ac) (hk : a.kind = 5) (h : 1 ≤ a.old.slot ∧ a.old.slot ≤ t.n) : t.can a = true := by
  unfold St.can; rw [if_neg (by omega), if_neg (by omega), if_pos hk]; simpa using h
theorem can_cell (t : St) (a : Ac) (hk : a.kind = 1 ∨ a.kind = 2 ∨ a.kind = 3) (l : Loc) (hl : t.loc a.s a.g a.f = some l) : t.can a = true := by
  unfold St.can; rw [if_pos hk, hl]; rfl
theorem loc_slot (t : St) (i : Nat) (g : Int) (f : Nat) (hi : i < t.n) (hf : f < 10) : t.loc ((i : Int) + 1) g (f : Int) = some (.slot i f) := by
  unfold St.loc
  rw [if_neg (by omega), if_pos (by omega)]
  congr 2; omega
theorem loc_board (t : St) (f : Nat) (hf : f < t.m) : t.loc 0 0 (f : Int) = some (.board f) := by
  unfold St.loc
  rw [if_pos ⟨rfl, rfl⟩, if_pos (by omega)]
  congr 2
theorem miss_given (t : St) (i : Nat) (hi : i < t.n) (hg : (t.slot i).given = true) (g : Int) (he : ((t.slot i).gen : Int) = g) (x : Flt) : t.miss ((i : Int) + 1) g x = none := by
  unfold St.miss
  rw [if_pos (by omega)]
  have e : ((i : Int) + 1 - 1).toNat = i := by omega
  rw [e, if_neg (by simp [hg]), if_neg (by simpa using he)]
theorem miss_board (t : St) (g : Int) (x : Flt) : t.miss 0 g x = none := by
  unfold St.miss
  rw [if_neg (by omega)]

/-! ### PlotReborn -/
structure Rb (t : St) (k : Nat) : Prop where
  n : t.n = 1
  m : t.m = 0
  free : t.free = []
  given : (t.slot 0).given = true
  gen : (t.slot 0).gen = 1
  fault : t.fault = none
  steps : t.steps = k
theorem rb_first : Rb ((St.new 1 0).step ⟨4, 0, 0, 0, zw, nw 3⟩).1 1 := ⟨rfl, rfl, rfl, rfl, rfl, rfl, rfl⟩
theorem rb_first_reply : ((St.new 1 0).step ⟨4, 0, 0, 0, zw, nw 3⟩).2 = (⟨1, 1, 0, 0, false⟩, true) := rfl
theorem rb_can {t : St} {k : Nat} (h : Rb t k) (f : Nat) (hf : f < 10) (d : Wd) : t.can ⟨2, 1, 1, f, zw, d⟩ = true :=
  can_cell t _ (.inr (.inl rfl)) (.slot 0 f) (loc_slot t 0 1 f (by rw [h.n]; omega) hf)
theorem rb_store {t : St} {k : Nat} (h : Rb t k) (f : Nat) (hf : f < 10) (d : Wd) : Rb (t.step ⟨2, 1, 1, f, zw, d⟩).1 (k + 1) := by
  have hl : t.loc 1 1 f = some (.slot 0 f) := loc_slot t 0 1 f (by rw [h.n]; omega) hf
  have hm : t.miss 1 1 .freed = none := miss_given t 0 (by rw [h.n]; omega) h.given 1 (by rw [h.gen]; rfl) _
  rw [step_cell (a := ⟨2, 1, 1, f, zw, d⟩) (.inr (.inl rfl)) hl hm]
  unfold St.touch
  rw [if_neg (show ¬ (2 : Int) = 1 by decide), if_pos rfl]
  exact ⟨h.n, h.m, h.free, by simpa [St.write, St.tick] using h.given, by simpa [St.write, St.tick] using h.gen, h.fault, by simp [St.write, St.tick, h.steps]⟩
def rbFree : Ac := ⟨5, 0, 0, 0, ⟨1, 1, 0, 0, false⟩, zw⟩
def rbNew (birth : Int) : Ac := ⟨4, 0, 0, 0, zw, ⟨0, 0, 4, birth, true⟩⟩
theorem rb_free_can {t : St} {k : Nat} (h : Rb t k) : t.can rbFree = true := can_free t _ rfl (by rw [h.n]; decide)
theorem rb_free {t : St} {k : Nat} (h : Rb t k) : t.step rbFree = (t.tick.take 0, zw, true) := step_take rfl 0 (by rw [h.n]; omega) rfl h.given (by rw [h.gen]; rfl)
theorem rb_new {t : St} {k : Nat} (h : Rb t k) (birth : Int) : ((t.step rbFree).1.step (rbNew birth)).2 = (⟨1, 2, 0, 0, false⟩, true) ∧ ((t.step rbFree).1.step (rbNew birth)).1.n = 1 ∧ ((t.step rbFree).1.step (rbNew birth)).1.fault = none ∧
    ((t.step rbFree).1.step (rbNew birth)).1.slot 0 = ⟨2, true, fun f => if f = 9 then nw birth else zw⟩ ∧ (t.step rbFree).1.steps = k + 1 := by
  rw [rb_free h, step_give (a := rbNew birth) rfl]
  have hg := h.gen
  have hf := h.free
  refine ⟨?_, ?_, ?_, ?_, ?_⟩
  · simp [St.give, St.take, St.tick, rbNew, hg]
  · simp [St.give, St.take, St.tick, h.n]
  · simp [St.give, St.take, St.tick, h.fault]
  · simp [St.give, St.take, St.tick, rbNew, hg]
  · simp [St.take, St.tick, h.steps]
end Go.Proofs.YtjilhncnbkaebaaGreatDoor
