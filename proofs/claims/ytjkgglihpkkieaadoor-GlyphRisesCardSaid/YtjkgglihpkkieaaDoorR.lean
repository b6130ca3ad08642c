/- The reference's Pack. -/
import Derived.Test.YtjkgglihpkkieaaDoorD
namespace Go.Proofs.YtjkgglihpkkieaaDoor
open Go.RowKit Go.Extern.Stop Go.Stop Go.Extern

/-! ### the document's own writing -/
def signB (b : Bool) : ByteArray := if b then ⟨#[45]⟩ else ⟨#[]⟩
def headB (m : Bool) : ByteArray := if m then ⟨#[109]⟩ else ⟨#[110]⟩
def sgn (b : Bool) (u : Nat) : Int := if b then -(u : Int) else u
theorem ref_txt (s g t u : Nat) (m b : Bool) (hb : b = true → 1 ≤ u) : headB m ++ ⟨#[46]⟩ ++ dgB s ++ ⟨#[46]⟩ ++ dgB g ++ ⟨#[46]⟩ ++ dgB t ++ ⟨#[46]⟩ ++ signB b ++ dgB u = txtB ⟨s, g, t, sgn b u, m⟩ := by
  apply ba_ext
  show _ = txt _
  have e : Lib.itoa (sgn b u) = (signB b).data.toList ++ Lib.decDigits u := by
    cases b with
    | false => exact Lib.itoa_nonneg u
    | true => exact Lib.itoa_neg u (hb rfl)
  have e2 : (headB m).data.toList = [if m = true then 109 else 110] := by cases m <;> rfl
  simp only [ByteArray.data_append, Array.toList_append, txt, Lib.itoa_nonneg, e, e2]
  simp [dgB]

theorem quietDg (n : Nat) (h : n ≤ 1099511627776) (W : World) (q : Nat) : Calls Tryd.prog 24 #[.int .i64 n] (W.drewN q) fun e w' => e = .returned (.string (dgB n)) ∧ ∃ m, w' = W.drewN m :=
  Calls.quiet_of (digits_any n n (W.drewN q) (Nat.le_refl _) h)
def Rpk (w : World) (c : Wd) (e : Ending) (w' : World) : Prop := e = .returned (.string (txtB c)) ∧ Below w.heap.size w w'
theorem below_drewN {W X : World} (h : Below W.heap.size W X) (k : Nat) : Below W.heap.size W (X.drewN k) := ⟨h.os, h.tape, h.output, h.size, h.block⟩

set_option maxRecDepth 100000 in
set_option maxHeartbeats 1000000 in
theorem rPack_nat (s g t u : Nat) (m b : Bool) (hs : s ≤ 1024) (hg : g ≤ 1099511627776) (ht : t ≤ 1099511627776) (hu : u ≤ 1099511627776) (hb : b = true → 1 ≤ u) (h0 : s = 0 → g = 0) (w : World) :
    Calls Tryd.prog 10 #[.agg #[.int .i64 s, .int .i64 g, .int .i64 t, .int .i64 (sgn b u), .bool m]] w (Rpk w ⟨s, g, t, sgn b u, m⟩) := by
  have G := rGood_any s g t (sgn b u) m
  have gd : goodB s g t (sgn b u) = true := by
    rw [show goodB s g t (sgn b u) = goodB (Wd.mk s g t (sgn b u) m).slot (Wd.mk s g t (sgn b u) m).gen (Wd.mk s g t (sgn b u) m).tag (Wd.mk s g t (sgn b u) m).num from rfl, goodB_iff, decide_eq_true_eq]
    refine ⟨⟨by simp, by simp; omega⟩, ⟨by simp, by simp; omega⟩, ⟨by simp, by simp; omega⟩, ?_, by simp; omega⟩
    unfold sgn; split <;> simp <;> omega
  rw [gd] at G
  clear gd h0
  have E := Lib.hid (ref_txt s g t u m b hb)
  have Q := Lib.hid quietDg
  have b1 := dgB_size s (by omega)
  have b2 := dgB_size g (by omega)
  have b3 := dgB_size t (by omega)
  have b4 := dgB_size u (by omega)
  cases b with
  | false =>
    clear hb
    simp only [sgn, Bool.false_eq_true, if_false] at G E ⊢
    cases m
    all_goals
      go_enter Tryd.func10, Tryd.ntmps10
      go_wp2_with fail
      refine (G _).mono ?_
      rintro e w1 ⟨rfl, hb⟩
      obtain ⟨hc, hf⟩ := bcell hb
      simp only [World.size_alloc] at hc hf
      have HB : Hid (Below w.heap.size w w1) := below_trans (below_alloc (Below.refl _ _) _) hb
      clear hb G
      go_wp2_with fail
      go_quiet ((go_at_call 24; exact Q.out _ (by omega) _ _))
      go_wp2
      go_ret
      refine ⟨?_, below_drewN HB.out _⟩
      rw [← E.out]
      rfl
  | true =>
    have hu1 := hb rfl
    clear hb
    simp only [sgn, if_true] at G E ⊢
    cases m
    all_goals
      go_enter Tryd.func10, Tryd.ntmps10
      go_wp2_with fail
      refine (G _).mono ?_
      rintro e w1 ⟨rfl, hb⟩
      obtain ⟨hc, hf⟩ := bcell hb
      simp only [World.size_alloc] at hc hf
      have HB : Hid (Below w.heap.size w w1) := below_trans (below_alloc (Below.refl _ _) _) hb
      clear hb G
      go_wp2_with fail
      go_quiet ((go_at_call 24; exact Q.out _ (by omega) _ _))
      go_wp2
      go_ret
      refine ⟨?_, below_drewN HB.out _⟩
      rw [← E.out]
      rfl
theorem rPack_good (c : Wd) (hg : c.Good) (w : World) : Calls Tryd.prog 10 #[.agg #[.int .i64 c.slot, .int .i64 c.gen, .int .i64 c.tag, .int .i64 c.num, .bool c.mark]] w (Rpk w c) := by
  obtain ⟨s, g, t, n, m⟩ := c
  obtain ⟨h1, h2, h3, h4, h5⟩ := hg
  simp only at h1 h2 h3 h4 h5
  obtain ⟨s, rfl⟩ : ∃ s' : Nat, s = s' := ⟨s.toNat, by omega⟩
  obtain ⟨g, rfl⟩ : ∃ s' : Nat, g = s' := ⟨g.toNat, by omega⟩
  obtain ⟨t, rfl⟩ : ∃ s' : Nat, t = s' := ⟨t.toNat, by omega⟩
  obtain ⟨b, u, rfl, hu, hb⟩ : ∃ (b : Bool) (u : Nat), n = sgn b u ∧ u ≤ 1099511627776 ∧ (b = true → 1 ≤ u) := by
    by_cases hn : n < 0
    · exact ⟨true, n.natAbs, by simp [sgn]; omega, by omega, fun _ => by omega⟩
    · exact ⟨false, n.toNat, by simp [sgn]; omega, by omega, fun h => by cases h⟩
  exact rPack_nat s g t u m b (by omega) (by omega) (by omega) hu hb (fun h => by omega) w
def RpNo (w : World) (e : Ending) (w' : World) : Prop := e = .returned (.string ⟨#[]⟩) ∧ Below w.heap.size w w'
set_option maxRecDepth 100000 in
theorem rPack_bad (s g t n : Int) (m : Bool) (hg : goodB s g t n = false) (w : World) : Calls Tryd.prog 10 #[.agg #[.int .i64 s, .int .i64 g, .int .i64 t, .int .i64 n, .bool m]] w (RpNo w) := by
  have G := rGood_any s g t n m
  rw [hg] at G
  clear hg
  go_enter Tryd.func10, Tryd.ntmps10
  go_wp2_with fail
  refine (G _).mono ?_
  rintro e w1 ⟨rfl, hb⟩
  have HB := Lib.hid (below_trans (below_alloc (Below.refl _ _) _) hb)
  clear hb G
  go_wp2
  go_ret
  exact ⟨rfl, HB.out⟩
end Go.Proofs.YtjkgglihpkkieaaDoor
