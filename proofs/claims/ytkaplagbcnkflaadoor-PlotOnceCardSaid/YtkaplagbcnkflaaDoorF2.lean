/- plot: can, wrong, touch. A template (fill.py). -/
import Derived.Test.YtkaplagbcnkflaaDoorF1
namespace Go.Proofs.YtkaplagbcnkflaaDoor
open Go.RowKit Go.Extern.Stop Go.Stop Go.Extern Go.Sort
section
variable {w : World} {E : Flt → Addr} {B p bs bb : Nat} {v fv : Value} {t : St}

theorem Loc.pv_some (l : Loc) (bs bb : Nat) : pv ((some l).map (Loc.at bs bb)) = .pointer (some ⟨(l.at bs bb).1, (l.at bs bb).2, none⟩) := rfl
set_option maxHeartbeats 1000000 in
theorem can_any (h : Rep w E B p bs bb v fv t) (o : t.Ok) (a : Ac) :
    Calls Tryd.prog 19 #[.pointer (some ⟨p, 0, none⟩), av a] w fun e w' => e = .returned (.bool (t.can a)) ∧ Below w.heap.size w w' := by
  have HR := Lib.hid h
  have HO := Lib.hid o
  clear h o
  obtain ⟨k, s, g, f, d, d'⟩ := a
  unfold av St.can
  dsimp only
  by_cases hk : k = 1 ∨ k = 2 ∨ k = 3
  · rw [if_pos hk]
    cases hl : t.loc s g f with
    | none =>
      have HC := Lib.hid (fun W (H : Rep W E B p bs bb v fv t) => cell_any H HO.out s g f)
      rw [hl] at HC
      clear hl
      unfold pv at HC
      dsimp only [Option.map] at HC
      rcases hk with rfl | rfl | rfl
      all_goals
        go_enter Tryd.func19, Tryd.ntmps19
        go_wp2_with fail
        refine (HC.out _ (HR.out.alloc _)).mono ?_
        rintro e w1 ⟨rfl, hb⟩
        have HB := Lib.hid (below_trans (below_alloc (Below.refl _ _) _) hb)
        clear hb
        go_wp2
        go_ret
        exact ⟨rfl, HB.out⟩
    | some l =>
      have HC := Lib.hid (fun W (H : Rep W E B p bs bb v fv t) => cell_any H HO.out s g f)
      rw [hl, Loc.pv_some] at HC
      clear hl
      rcases hk with rfl | rfl | rfl
      all_goals
        go_enter Tryd.func19, Tryd.ntmps19
        go_wp2_with fail
        refine (HC.out _ (HR.out.alloc _)).mono ?_
        rintro e w1 ⟨rfl, hb⟩
        have HB := Lib.hid (below_trans (below_alloc (Below.refl _ _) _) hb)
        clear hb
        go_wp2
        go_ret
        exact ⟨rfl, HB.out⟩
  · rw [if_neg hk]
    have k1 : (k == 1) = false := by simp; omega
    have k2 : (k == 2) = false := by simp; omega
    have k3 : (k == 3) = false := by simp; omega
    clear hk
    by_cases h4 : k = 4
    · subst h4
      clear k1 k2 k3
      rw [if_pos rfl]
      go_enter Tryd.func19, Tryd.ntmps19
      go_wp2
      go_ret
      exact ⟨rfl, (Below.refl _ _).alloc (Nat.le_refl _) _⟩
    · rw [if_neg h4]
      have k4 : (k == 4) = false := by simpa using h4
      clear h4
      by_cases h5 : k = 5
      · subst h5
        clear k1 k2 k3 k4
        rw [if_pos rfl]
        by_cases hs : 1 ≤ d.slot ∧ d.slot ≤ t.n
        · obtain ⟨i, hi⟩ : ∃ i : Nat, (i : Int) + 1 = d.slot := ⟨(d.slot - 1).toNat, by omega⟩
          have hin : i < t.n := by omega
          rw [show decide (1 ≤ d.slot ∧ d.slot ≤ t.n) = true by simpa using hs, ← hi]
          clear hs hi
          go_enter Tryd.func19, Tryd.ntmps19
          go_wp2_with (go_at_call 33; refine (slot_in (HR.out.alloc _) HO.out.size i hin).mono ?_; rintro e w' ⟨rfl, rfl⟩)
          go_ret
          exact ⟨rfl, (Below.refl _ _).alloc (Nat.le_refl _) _⟩
        · rw [show decide (1 ≤ d.slot ∧ d.slot ≤ t.n) = false by simpa using hs]
          have HS := Lib.hid hs
          clear hs
          go_enter Tryd.func19, Tryd.ntmps19
          go_wp2_with (go_at_call 33; refine (slot_out (HR.out.alloc _) _ HS.out).mono ?_; rintro e w' ⟨rfl, rfl⟩)
          go_ret
          exact ⟨rfl, (Below.refl _ _).alloc (Nat.le_refl _) _⟩
      · rw [if_neg h5]
        have k5 : (k == 5) = false := by simpa using h5
        clear h5
        go_enter Tryd.func19, Tryd.ntmps19
        go_wp2
        go_ret
        exact ⟨rfl, (Below.refl _ _).alloc (Nat.le_refl _) _⟩
set_option maxHeartbeats 1000000 in
theorem wrong_any (h : Rep w E B p bs bb v fv t) (L : Env w E) (o : t.Ok) (a : Ac) :
    Calls Tryd.prog 20 #[.pointer (some ⟨p, 0, none⟩), av a] w fun e w' => e = .returned (ev E (t.wrong a)) ∧ Below w.heap.size w w' := by
  have HR := Lib.hid h
  have HO := Lib.hid o
  have HL := Lib.hid L
  have gf := L.freed
  have gt := L.twice
  have hz := lt_of_cell gf
  have hz2 := lt_of_cell gt
  clear h o L
  obtain ⟨k, s, g, f, d, d'⟩ := a
  unfold av St.wrong
  dsimp only
  by_cases h4 : k = 4
  · subst h4
    rw [if_pos rfl]
    go_enter Tryd.func20, Tryd.ntmps20
    go_wp2
    go_ret
    exact ⟨rfl, (Below.refl _ _).alloc (Nat.le_refl _) _⟩
  · rw [if_neg h4]
    have k4 : (k == 4) = false := by simpa using h4
    clear h4
    by_cases h5 : k = 5
    · subst h5
      rw [if_pos rfl]
      clear k4
      have HM := Lib.hid (fun W (H : Rep W E B p bs bb v fv t) (L : Env W E) => missed_any H L HO.out d.slot d.gen .twice)
      go_enter Tryd.func20, Tryd.ntmps20
      go_wp2_with fail
      refine (HM.out _ (HR.out.alloc _) (HL.out.keep (below_alloc (Below.refl _ _) _))).mono ?_
      rintro e w1 ⟨rfl, rfl⟩
      go_wp2
      go_ret
      exact ⟨rfl, (Below.refl _ _).alloc (Nat.le_refl _) _⟩
    · rw [if_neg h5]
      have k5 : (k == 5) = false := by simpa using h5
      clear h5
      have HM := Lib.hid (fun W (H : Rep W E B p bs bb v fv t) (L : Env W E) => missed_any H L HO.out s g .freed)
      go_enter Tryd.func20, Tryd.ntmps20
      go_wp2_with fail
      refine (HM.out _ (HR.out.alloc _) (HL.out.keep (below_alloc (Below.refl _ _) _))).mono ?_
      rintro e w1 ⟨rfl, rfl⟩
      go_wp2
      go_ret
      exact ⟨rfl, (Below.refl _ _).alloc (Nat.le_refl _) _⟩

/-! ### touch -/
/-- A reply as a value. -/
def rv (d : Wd) (ok : Bool) : Value := .agg #[.int .i64 d.slot, .int .i64 d.gen, .int .i64 d.tag, .int .i64 d.num, .bool d.mark, .bool ok]
theorem below_both {n : Nat} {w X : World} (h : Below n w X) (a : Addr) (u : Value) : Below n (w.setCell a u) (X.setCell a u) :=
  ⟨h.os, h.tape, h.output, by simpa [World.setCell] using h.size, fun k hk => by
    by_cases e : k = a.block
    · subst e; simp only [World.setCell, Array.getElem?_modify, if_true, h.block _ hk]
    · rw [Below.heap_setCell _ _ _ _ e, Below.heap_setCell _ _ _ _ e, h.block _ hk]⟩
theorem below_al {n : Nat} {w X : World} (h : Below n w X) (hn : n ≤ w.heap.size) (o : Obj) : Below n w (X.alloc o) := h.alloc (Nat.le_trans hn h.size) o
theorem below_st {n : Nat} {w X : World} (h : Below n w X) (b o : Nat) (v : Value) (hb : n ≤ b) : Below n w (X.setCell ⟨b, o, none⟩ v) := h.setCell hb v
theorem touch_load (b o : Nat) (d : Wd) (a : Ac) (hk : a.kind = 1) (hw : WdAt w b o d) :
    Calls Tryd.prog 24 #[.pointer (some ⟨b, o, none⟩), av a] w fun e w' => e = .returned (rv d true) ∧ Below w.heap.size w w' := by
  obtain ⟨k, s, g, f, x, y⟩ := a
  obtain rfl : k = 1 := hk
  obtain ⟨c0, c1, c2, c3, c4⟩ := hw.cells
  have hz : b < w.heap.size := lt_of_cell c0
  have hz1 : b < w.heap.size + 1 := by omega
  have hz2 : b < w.heap.size + 1 + 1 := by omega
  clear hw
  unfold av rv
  dsimp only
  go_enter Tryd.func24, Tryd.ntmps24
  go_wp2
  refine bodyPost_ret (v := .agg #[.int .i64 d.slot, .int .i64 d.gen, .int .i64 d.tag, .int .i64 d.num, .bool d.mark, .bool true]) (by simp [results, Tryd.results24, go_sem]) rfl ⟨rfl, ?_⟩
  repeat (first | with_reducible exact Below.refl _ _ | with_reducible refine below_al ?_ (Nat.le_refl _) _ | with_reducible refine below_st ?_ _ _ _ (by omega))
theorem touch_store (b o : Nat) (d : Wd) (a : Ac) (hk : a.kind = 2) (hw : WdAt w b o d) (ht : w.there b o 5) :
    Calls Tryd.prog 24 #[.pointer (some ⟨b, o, none⟩), av a] w fun e w' => e = .returned (rv zw true) ∧ Below w.heap.size (w.setCells b o (wc a.new)) w' := by
  obtain ⟨k, s, g, f, x, y⟩ := a
  obtain rfl : k = 2 := hk
  obtain ⟨c0, c1, c2, c3, c4⟩ := hw.cells
  have f0 : w.frozen? ⟨b, o, none⟩ = false := (ht 0 (by omega)).2
  have f1 : w.frozen? ⟨b, o + 1, none⟩ = false := (ht 1 (by omega)).2
  have f2 : w.frozen? ⟨b, o + 2, none⟩ = false := (ht 2 (by omega)).2
  have f3 : w.frozen? ⟨b, o + 3, none⟩ = false := (ht 3 (by omega)).2
  have f4 : w.frozen? ⟨b, o + 4, none⟩ = false := (ht 4 (by omega)).2
  have hz : b < w.heap.size := lt_of_cell c0
  have hz1 : b < w.heap.size + 1 := by omega
  have hz2 : b < w.heap.size + 1 + 1 := by omega
  have hne1 : ¬ b = w.heap.size := by omega
  have hne2 : ¬ b = w.heap.size + 1 := by omega
  have hne3 : ¬ b = w.heap.size + 1 + 1 := by omega
  clear hw ht
  unfold av rv wc
  dsimp only
  go_enter Tryd.func24, Tryd.ntmps24
  go_wp2
  refine bodyPost_ret (v := .agg #[.int .i64 0, .int .i64 0, .int .i64 0, .int .i64 0, .bool false, .bool true]) (by simp [results, Tryd.results24, go_sem]) rfl ⟨rfl, ?_⟩
  simp only [World.setCells]
  repeat (first | with_reducible refine below_st ?_ _ _ _ (by omega) | with_reducible refine below_al ?_ (by simp [World.setCell]) _)
  exact Below.refl _ _
theorem touch_swap (b o : Nat) (d : Wd) (a : Ac) (hk : a.kind = 3) (hs : d.same a.old = true) (hw : WdAt w b o d) (ht : w.there b o 5) :
    Calls Tryd.prog 24 #[.pointer (some ⟨b, o, none⟩), av a] w fun e w' => e = .returned (rv d true) ∧ Below w.heap.size (w.setCells b o (wc a.new)) w' := by
  obtain ⟨k, s, g, f, x, y⟩ := a
  obtain rfl : k = 3 := hk
  have hs : sameB d.slot d.tag d.num d.mark x.slot x.tag x.num x.mark = true := by
    unfold Wd.same at hs
    simp only [decide_eq_true_eq] at hs
    simp [sameB, eqB, hs]
  have HS := Lib.hid (fun W => (Same_any d.slot d.gen d.tag d.num d.mark x.slot x.gen x.tag x.num x.mark W))
  rw [hs] at HS
  clear hs
  obtain ⟨c0, c1, c2, c3, c4⟩ := hw.cells
  have f0 : w.frozen? ⟨b, o, none⟩ = false := (ht 0 (by omega)).2
  have f1 : w.frozen? ⟨b, o + 1, none⟩ = false := (ht 1 (by omega)).2
  have f2 : w.frozen? ⟨b, o + 2, none⟩ = false := (ht 2 (by omega)).2
  have f3 : w.frozen? ⟨b, o + 3, none⟩ = false := (ht 3 (by omega)).2
  have f4 : w.frozen? ⟨b, o + 4, none⟩ = false := (ht 4 (by omega)).2
  have hz : b < w.heap.size := lt_of_cell c0
  have hz1 : b < w.heap.size + 1 := by omega
  have hz2 : b < w.heap.size + 1 + 1 := by omega
  have hne1 : ¬ b = w.heap.size := by omega
  have hne2 : ¬ b = w.heap.size + 1 := by omega
  have hne3 : ¬ b = w.heap.size + 1 + 1 := by omega
  clear hw ht
  unfold av rv wc
  dsimp only
  go_enter Tryd.func24, Tryd.ntmps24
  go_wp2_with fail
  refine (HS.out _).mono ?_
  rintro e w1 ⟨rfl, hb⟩
  obtain ⟨hc, hf⟩ := bcell hb
  have hzz := hb.size
  simp only [World.size_alloc] at hc hf hzz
  have hx0 : w.heap.size < w1.heap.size := by omega
  have hx1 : w.heap.size + 1 < w1.heap.size := by omega
  have hx2 : w.heap.size + 1 + 1 < w1.heap.size := by omega
  have hx3 : b < w1.heap.size := by omega
  have hb3 : b < w.heap.size + 1 + 1 + 1 := by omega
  have HB := Lib.hid (below_trans (below_alloc (below_alloc (below_alloc (Below.refl _ _) _) _) _) hb)
  clear hb hzz
  go_wp2
  refine bodyPost_ret (v := .agg #[.int .i64 d.slot, .int .i64 d.gen, .int .i64 d.tag, .int .i64 d.num, .bool d.mark, .bool true]) (by simp [results, Tryd.results24, go_sem, hc]) rfl ⟨rfl, ?_⟩
  have hB : Below w.heap.size w w1 := HB.out
  clear HB hc hf
  simp only [World.setCells]
  repeat (first | with_reducible exact hB | with_reducible refine below_st ?_ _ _ _ (by omega) | with_reducible refine below_both ?_ _ _)
theorem touch_other (b o : Nat) (d : Wd) (a : Ac) (hk : a.kind = 3) (hs : d.same a.old = false) (hw : WdAt w b o d) :
    Calls Tryd.prog 24 #[.pointer (some ⟨b, o, none⟩), av a] w fun e w' => e = .returned (rv d false) ∧ Below w.heap.size w w' := by
  obtain ⟨k, s, g, f, x, y⟩ := a
  obtain rfl : k = 3 := hk
  have hs : sameB d.slot d.tag d.num d.mark x.slot x.tag x.num x.mark = false := by
    unfold Wd.same at hs
    simp only [decide_eq_false_iff_not] at hs
    have : ¬ sameB d.slot d.tag d.num d.mark x.slot x.tag x.num x.mark = true := fun e => hs (by simpa [sameB, eqB, and_assoc] using e)
    simpa using this
  have HS := Lib.hid (fun W => (Same_any d.slot d.gen d.tag d.num d.mark x.slot x.gen x.tag x.num x.mark W))
  rw [hs] at HS
  clear hs
  obtain ⟨c0, c1, c2, c3, c4⟩ := hw.cells
  have hz : b < w.heap.size := lt_of_cell c0
  have hz1 : b < w.heap.size + 1 := by omega
  have hz2 : b < w.heap.size + 1 + 1 := by omega
  clear hw
  unfold av rv
  dsimp only
  go_enter Tryd.func24, Tryd.ntmps24
  go_wp2_with fail
  refine (HS.out _).mono ?_
  rintro e w1 ⟨rfl, hb⟩
  obtain ⟨hc, hf⟩ := bcell hb
  have hzz := hb.size
  simp only [World.size_alloc] at hc hf hzz
  have hx0 : w.heap.size < w1.heap.size := by omega
  have hx1 : w.heap.size + 1 < w1.heap.size := by omega
  have hx2 : w.heap.size + 1 + 1 < w1.heap.size := by omega
  have hx3 : b < w1.heap.size := by omega
  have hb3 : b < w.heap.size + 1 + 1 + 1 := by omega
  have HB := Lib.hid (below_trans (below_alloc (below_alloc (below_alloc (Below.refl _ _) _) _) _) hb)
  clear hb hzz
  go_wp2
  refine bodyPost_ret (v := .agg #[.int .i64 d.slot, .int .i64 d.gen, .int .i64 d.tag, .int .i64 d.num, .bool d.mark, .bool false]) (by simp [results, Tryd.results24, go_sem, hc]) rfl ⟨rfl, ?_⟩
  have hB : Below w.heap.size w w1 := HB.out
  clear HB hc hf
  repeat (first | with_reducible exact hB | with_reducible refine below_st ?_ _ _ _ (by omega))
end
end Go.Proofs.YtkaplagbcnkflaaDoor
