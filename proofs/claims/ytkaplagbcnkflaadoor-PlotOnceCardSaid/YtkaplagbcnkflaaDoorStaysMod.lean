/- PlotStays, as plain data; accesses whose reply nobody asks. A template (fill.py). -/
import Derived.Test.YtkaplagbcnkflaaDoorAwake
import Derived.Test.YtkaplagbcnkflaaDoorSteps
namespace Go.Proofs.YtkaplagbcnkflaaDoor
open Go.RowKit Go.Extern.Stop Go.Stop Go.Extern Go.Sort
/-- The slot 1 is given in the generation 1, and a cell of it and one of the board have d. -/
structure Sy (t : St) (f fb : Nat) (d : Wd) : Prop where
  cnt : t.n = 6
  brd : t.m = 5
  given : (t.slot 0).given = true
  gen : (t.slot 0).gen = 1
  cell : (t.slot 0).cell f = d
  board : t.board fb = d
/-- An access that the law leaves out. -/
def Skip (a : Ac) (f fb : Nat) : Prop := ((a.kind = 2 ∨ a.kind = 3) ∧ ((a.s = 1 ∧ a.g = 1 ∧ a.f = f) ∨ (a.s = 0 ∧ a.g = 0 ∧ a.f = fb))) ∨ (a.kind = 5 ∧ a.old.slot = 1)
theorem sy_write {t : St} {f fb : Nat} {d : Wd} (h : Sy t f fb d) (l : Loc) (e : Wd) (h1 : l ≠ .slot 0 f) (h2 : l ≠ .board fb) : Sy (t.write l e) f fb d := by
  cases l with
  | board b =>
    have hb : ¬ fb = b := fun e => h2 (by rw [e])
    exact ⟨h.cnt, h.brd, h.given, h.gen, h.cell, by show (if fb = b then e else t.board fb) = d; rw [if_neg hb]; exact h.board⟩
  | slot i g =>
    by_cases hi : i = 0
    · subst hi
      have hg : ¬ f = g := fun e => h1 (by rw [e])
      refine ⟨h.cnt, h.brd, ?_, ?_, ?_, h.board⟩
      · show (if (0 : Nat) = 0 then _ else t.slot 0 : Sl).given = true; rw [if_pos rfl]; exact h.given
      · show (if (0 : Nat) = 0 then _ else t.slot 0 : Sl).gen = 1; rw [if_pos rfl]; exact h.gen
      · show (if (0 : Nat) = 0 then _ else t.slot 0 : Sl).cell f = d; rw [if_pos rfl]; show (if f = g then e else (t.slot 0).cell f) = d; rw [if_neg hg]; exact h.cell
    · have hi' : ¬ (0 : Nat) = i := fun e => hi e.symm
      have e0 : (t.write (.slot i g) e).slot 0 = t.slot 0 := by show (if (0 : Nat) = i then _ else t.slot 0 : Sl) = t.slot 0; rw [if_neg hi']
      exact ⟨h.cnt, h.brd, by rw [e0]; exact h.given, by rw [e0]; exact h.gen, by rw [e0]; exact h.cell, h.board⟩
theorem sy_same {t t' : St} {f fb : Nat} {d : Wd} (h : Sy t f fb d) (h1 : t'.n = t.n) (h2 : t'.m = t.m) (h3 : t'.slot 0 = t.slot 0) (h4 : t'.board = t.board) : Sy t' f fb d :=
  ⟨h1.trans h.cnt, h2.trans h.brd, by rw [h3]; exact h.given, by rw [h3]; exact h.gen, by rw [h3]; exact h.cell, by rw [h4]; exact h.board⟩
theorem sy_step {t : St} {f fb : Nat} {d : Wd} (h : Sy t f fb d) (o : t.Ok) (a : Ac) (hc : t.can a = true) (hs : ¬ Skip a f fb) : Sy (t.step a).1 f fb d := by
  have h0 : Sy ({ t with steps := t.steps + 1 } : St) f fb d := ⟨h.cnt, h.brd, h.given, h.gen, h.cell, h.board⟩
  unfold St.step St.act
  split
  · exact sy_same h0 rfl rfl rfl rfl
  · rename_i hw
    split
    · unfold St.give
      split
      · exact h0
      · rename_i i r hf
        have hni : ¬ (0 : Nat) = i := by
          rintro rfl
          have hf' : t.free = 0 :: r := hf
          have := (o.mem 0 (by rw [h.cnt]; omega)).1 (by rw [hf']; exact List.mem_cons_self ..)
          rw [h.given] at this
          cases this
        exact sy_same h0 rfl rfl (by show (if (0 : Nat) = i then _ else t.slot 0 : Sl) = t.slot 0; rw [if_neg hni]) rfl
    · rename_i h4
      split
      · rename_i h5
        have hr : 1 ≤ a.old.slot ∧ a.old.slot ≤ t.n := by
          unfold St.can at hc
          rw [if_neg (by omega), if_neg (by omega), if_pos h5] at hc
          simpa using hc
        have hne : a.old.slot ≠ 1 := fun e => hs (.inr ⟨h5, e⟩)
        have hni : ¬ (0 : Nat) = (a.old.slot - 1).toNat := by omega
        exact sy_same h0 rfl rfl (by show (if (0 : Nat) = (a.old.slot - 1).toNat then _ else t.slot 0 : Sl) = t.slot 0; rw [if_neg hni]) rfl
      · rename_i h5
        split
        · rename_i l hl
          have hl' : t.loc a.s a.g a.f = some l := hl
          have hm : t.miss a.s a.g .freed = none := by
            unfold St.wrong at hw
            rw [if_neg h4, if_neg h5] at hw
            exact hw
          have key : a.kind = 2 ∨ a.kind = 3 → l ≠ .slot 0 f ∧ l ≠ .board fb := by
            intro hk
            constructor
            · rintro rfl
              unfold St.loc at hl'
              split at hl'
              · split at hl' <;> cases hl'
              · split at hl'
                · rename_i _ hr
                  have e := Option.some.inj hl'
                  injection e with e1 e2
                  have hs1 : a.s = 1 := by omega
                  have hf1 : a.f = f := by omega
                  unfold St.miss at hm
                  rw [if_pos (by omega)] at hm
                  rw [show (a.s - 1).toNat = 0 by omega] at hm
                  rw [if_neg (by simp [h.given])] at hm
                  have hg1 : a.g = 1 := by
                    by_cases hg : ((t.slot 0).gen : Int) ≠ a.g
                    · rw [if_pos hg] at hm; cases hm
                    · have : ((t.slot 0).gen : Int) = a.g := by simpa using hg
                      rw [← this, h.gen]; rfl
                  exact hs (.inl ⟨hk, .inl ⟨hs1, hg1, hf1⟩⟩)
                · cases hl'
            · rintro rfl
              unfold St.loc at hl'
              split at hl'
              · rename_i h00
                split at hl'
                · have e := Option.some.inj hl'
                  injection e with e1
                  exact hs (.inl ⟨hk, .inr ⟨h00.1, h00.2, by omega⟩⟩)
                · cases hl'
              · split at hl' <;> cases hl'
          unfold St.touch
          split
          · exact h0
          · split
            · rename_i h2
              exact sy_write h0 l _ (key (.inl h2)).1 (key (.inl h2)).2
            · rename_i h1 h2
              have h3 : a.kind = 3 := by
                unfold St.can at hc
                by_cases hk : a.kind = 1 ∨ a.kind = 2 ∨ a.kind = 3
                · omega
                · rw [if_neg hk, if_neg h4, if_neg h5] at hc; cases hc
              split
              · exact sy_write h0 l _ (key (.inr h3)).1 (key (.inr h3)).2
              · exact h0
        · exact h0
theorem sy_first_reply : ((St.new 6 5).step ⟨4, 0, 0, 0, zw, zw⟩).2 = (⟨1, 1, 0, 0, false⟩, true) := rfl
def sy1 : St := ((St.new 6 5).step ⟨4, 0, 0, 0, zw, zw⟩).1
theorem sy1_is : sy1.n = 6 ∧ sy1.m = 5 ∧ (sy1.slot 0).given = true ∧ (sy1.slot 0).gen = 1 ∧ sy1.steps = 1 := ⟨rfl, rfl, rfl, rfl, rfl⟩
def syA (f : Nat) (d : Wd) : Ac := ⟨2, 1, 1, f, zw, d⟩
def syB (fb : Nat) (d : Wd) : Ac := ⟨2, 0, 0, fb, zw, d⟩
theorem sy_canA (f : Nat) (hf : f < 10) (d : Wd) : sy1.can (syA f d) = true := can_cell _ _ (.inr (.inl rfl)) (.slot 0 f) (loc_slot sy1 0 1 f (by rw [sy1_is.1]; omega) hf)
def sy2 (f : Nat) (d : Wd) : St := (sy1.step (syA f d)).1
theorem sy2_eq (f : Nat) (hf : f < 10) (d : Wd) : sy1.step (syA f d) = (sy1.tick.write (.slot 0 f) d, zw, true) := by
  rw [step_cell (a := syA f d) (.inr (.inl rfl)) (loc_slot sy1 0 1 f (by rw [sy1_is.1]; omega) hf) (miss_given sy1 0 (by rw [sy1_is.1]; omega) sy1_is.2.2.1 1 (by rw [sy1_is.2.2.2.1]; rfl) _)]
  unfold St.touch
  rw [if_neg (show ¬ (syA f d).kind = 1 from (by decide : ¬ (2 : Int) = 1)), if_pos (show (syA f d).kind = 2 from rfl)]
  rfl
theorem sy2_is (f : Nat) (hf : f < 10) (d : Wd) : (sy2 f d).n = 6 ∧ (sy2 f d).m = 5 ∧ ((sy2 f d).slot 0).given = true ∧ ((sy2 f d).slot 0).gen = 1 ∧ ((sy2 f d).slot 0).cell f = d ∧ (sy2 f d).steps = 2 := by
  unfold sy2
  rw [sy2_eq f hf d]
  refine ⟨rfl, rfl, ?_, ?_, ?_, rfl⟩
  · simp [St.write, St.tick, sy1_is.2.2.1]
  · simp [St.write, St.tick, sy1_is.2.2.2.1]
  · simp [St.write, St.tick]
theorem sy_canB (f fb : Nat) (hf : f < 10) (hb : fb < 5) (d : Wd) : (sy2 f d).can (syB fb d) = true := can_cell _ _ (.inr (.inl rfl)) (.board fb) (loc_board _ fb (by rw [(sy2_is f hf d).2.1]; exact hb))
theorem sy_start (f fb : Nat) (hf : f < 10) (hb : fb < 5) (d : Wd) : Sy ((sy2 f d).step (syB fb d)).1 f fb d ∧ ((sy2 f d).step (syB fb d)).1.steps = 3 := by
  obtain ⟨h1, h2, h3, h4, h5, h6⟩ := sy2_is f hf d
  have e : (sy2 f d).step (syB fb d) = ((sy2 f d).tick.write (.board fb) d, zw, true) := by
    rw [step_cell (a := syB fb d) (.inr (.inl rfl)) (loc_board _ fb (by rw [h2]; exact hb)) (miss_board _ _ _)]
    unfold St.touch
    rw [if_neg (show ¬ (syB fb d).kind = 1 from (by decide : ¬ (2 : Int) = 1)), if_pos (show (syB fb d).kind = 2 from rfl)]
    rfl
  rw [e]
  refine ⟨⟨h1, h2, h3, h4, h5, ?_⟩, ?_⟩
  · simp [St.write]
  · show (sy2 f d).steps + 1 = 3
    rw [h6]

/-! ### an access whose reply nobody asks -/
def St.next (t : St) (a : Ac) : St := if t.can a = true then (t.step a).1 else t
theorem St.next_steps (t : St) (a : Ac) : (t.next a).steps ≤ t.steps + 1 := by
  unfold St.next
  split
  · rw [(t.step_n a).2.2]; omega
  · omega
theorem sy_next {t : St} {f fb : Nat} {d : Wd} (h : Sy t f fb d) (o : t.Ok) (a : Ac) (hs : ¬ Skip a f fb) : Sy (t.next a) f fb d := by
  unfold St.next
  split
  · rename_i hc; exact sy_step h o a hc hs
  · exact h
section
variable {w w' : World} {E : Flt → Addr} {B p bs bb : Nat} {t : St}
def DoAny (W : World) (E : Flt → Addr) (B p bs bb : Nat) (t' : St) (e : Ending) (w' : World) : Prop := ∃ r, e = .returned r ∧ Hid (PlotAt w' E B p bs bb t') ∧ Hid (Below B W w') ∧ Hid (Kept p bs bb W w')
theorem do_either (h : PlotAt w E B p bs bb t) (hB : 6 ≤ B) (hBw : B ≤ w.heap.size) (ht : t.steps < 900000) (a : Ac) :
    Calls Tryd.prog 9 #[.pointer (some ⟨p, 0, none⟩), av a] w (DoAny w E B p bs bb (t.next a)) := by
  unfold St.next
  cases hc : t.can a with
  | true => exact (do_is h hB ht a hc).mono fun e w' ⟨he, h1, h2, h3⟩ => ⟨_, he, h1, h2, h3⟩
  | false => exact (do_no h a hc).mono fun e w' ⟨x, he, _, hb⟩ => ⟨_, he, h.keep hb, hb.mono hBw, Kept.below hb⟩
theorem Kept.addr {x : Nat} {cs : Array Value} (h : Kept p bs bb w w') (hp : PlotAt w E B p bs bb t) (hx : BlkW w x 33 cs) : BlkW w' x 33 cs := by
  have hq := hp
  obtain ⟨⟨v, fv, hq⟩, _⟩ := hq
  obtain ⟨c1, b1, _⟩ := hq.brd.blk
  exact h.blk hp hx (by decide) (by decide) (hx.ne_ b1 (by decide)) (by decide)
theorem PlotAt.le (h : PlotAt w E B p bs bb t) : B ≤ w.heap.size := by
  obtain ⟨⟨v, fv, h⟩, _⟩ := h
  exact h.base_lt
end

/-! ### addresses are equal, or not -/
theorem noHeldA : Tryd.prog.stoodInHeld 33 = false := by kernel_rfl
theorem noGuardA : Tryd.prog.eqGuardType Tryd.prog.depth 33 = false := by kernel_rfl
theorem htA : Tryd.prog.underlying 33 = some (.struct (Tryd.prog.fieldsOf 33)) := by kernel_rfl
theorem hfA : (Tryd.prog.fieldsOf 33).toList = [{ name := "Slot", type := 3, offset := 0, embedded := false, tag := "", pkgPath := "", byteOffset := 0 },
        { name := "Gen", type := 3, offset := 1, embedded := false, tag := "", pkgPath := "", byteOffset := 8 },
        { name := "Field", type := 3, offset := 2, embedded := false, tag := "", pkgPath := "", byteOffset := 16 }] := by kernel_rfl
def eqT (s g f s' g' f' : Int) : Bool := s == s' && g == g' && f == f'
theorem equalInA (s g f s' g' f' : Int) (w : World) :
    (Op.equalIn 10000 33 (.agg #[.int .i64 s, .int .i64 g, .int .i64 f]) (.agg #[.int .i64 s', .int .i64 g', .int .i64 f'])).run Tryd.prog w = .ok (eqT s g f s' g' f') w := by
  rw [run_equalIn_agg _ _ _ _ _ htA noHeldA, hfA]
  have e1 : ∀ (x y : Int) (w : World), (Op.equalIn 9999 3 (.int .i64 x) (.int .i64 y)).run Tryd.prog w = .ok (x == y) w := fun x y w => run_equalIn_int w 9998 3 .i64 .i64 x y Tryd.underlying3
  simp only [Op.eqFields]
  simp [go_sem, e1]
  unfold eqT
  (repeat' split) <;> simp_all
theorem eqAd (s g f s' g' f' : Int) (w : World) :
    (binOp .eql 33 (.agg #[.int .i64 s, .int .i64 g, .int .i64 f]) (.agg #[.int .i64 s', .int .i64 g', .int .i64 f'])).run Tryd.prog w = .ok (.bool (eqT s g f s' g' f')) w := by
  rw [run_eql_struct, equalInA]; rfl
theorem eqT_true {s g f s' g' f' : Int} : eqT s g f s' g' f' = true ↔ s = s' ∧ g = g' ∧ f = f' := by simp [eqT, and_assoc]
end Go.Proofs.YtkaplagbcnkflaaDoor
