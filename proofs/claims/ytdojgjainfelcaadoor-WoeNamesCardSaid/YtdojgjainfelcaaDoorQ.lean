import Derived.Test.YtdojgjainfelcaaDoorP
namespace Go.Proofs.YtdojgjainfelcaaDoor
open Go.RowKit Go.Extern.Stop Go.Stop Go.Extern

theorem Ch.ends {W : World} {a : Addr} {ps : List Int} {v : Value} (h : Ch W (.iface 71 (.pointer (some a))) ps v) (hl : ps.length ≤ 1000) : Ends W v :=
  ⟨h.shape, fun w1 hb => endless_str _ ps v a w1 1048576 (by omega) (by omega) (h.keep hb) (Nat.le_refl _)⟩
theorem Ch.is {W : World} {a b : Addr} {ps : List Int} {v : Value} (h : Ch W (.iface 71 (.pointer (some a))) ps v) (ha : Blk W a) (hb : Blk W b) : IsC W v b (decide (a = b)) :=
  IsC.chain h (fun _ => ⟨ha, hb⟩)
theorem Laid.dec {W : World} {s : Nat → Addr} (L : Laid W s) (c i : Nat) (h1 : 1 ≤ c) (h2 : c ≤ 11) (h3 : 1 ≤ i) (h4 : i ≤ 11) : decide (s c = s i) = decide (c = i) := by
  by_cases e : c = i
  · subst e; simp
  · have := L.ne (c - 1) (i - 1) (by omega) (by omega) (by omega)
    rw [show c - 1 + 1 = c by omega, show i - 1 + 1 = i by omega] at this
    simp [e, this]
theorem Laid.blk {W : World} {s : Nat → Addr} (L : Laid W s) (c : Nat) (h1 : 1 ≤ c) (h2 : c ≤ 11) : Blk W (s c) := by
  have := L.b (c - 1) (by omega)
  rwa [show c - 1 + 1 = c by omega] at this
theorem Ch.knows {W : World} {s : Nat → Addr} {c : Nat} {ps : List Int} {v : Value} (L : Laid W s) (h1 : 1 ≤ c) (h2 : c ≤ 11) (h : Ch W (.iface 71 (.pointer (some (s c)))) ps v) : Knows W s v (fun i => decide (c = i)) := by
  intro i h3 h4 w1 hb
  have := (h.keep hb).is ((L.blk c h1 h2).keep hb) ((L.blk i h3 h4).keep hb)
  rwa [L.dec c i h1 h2 h3 h4] at this
theorem Code_ch {W : World} {s : Nat → Addr} {c : Nat} {ps : List Int} {v : Value} (L : Laid W s) (h1 : 1 ≤ c) (h2 : c ≤ 11) (h : Ch W (.iface 71 (.pointer (some (s c)))) ps v) (hl : ps.length ≤ 1000) :
    Calls Tryd.prog 12 #[v] W fun e w' => e = .returned (.int .i64 c) ∧ Below W.heap.size W w' :=
  Code_hit s v _ c W L (h.ends hl) (h.knows L h1 h2) h1 h2 (by simp) (fun i hi hc => by simp; omega)
theorem Is_ch {W : World} {s : Nat → Addr} {c i : Nat} {ps : List Int} {v : Value} (L : Laid W s) (h1 : 1 ≤ c) (h2 : c ≤ 11) (h3 : 1 ≤ i) (h4 : i ≤ 11) (h : Ch W (.iface 71 (.pointer (some (s c)))) ps v) :
    Calls Tryd.prog 16 #[v, .iface 71 (.pointer (some (s i)))] W fun e w' => e = .returned (.bool (decide (c = i))) ∧ W = w' :=
  (h.knows L h1 h2 i h3 h4 W (Below.refl _ _)).Is
theorem Place_ch {W : World} {s : Nat → Addr} {a : Addr} {p : Int} {ps : List Int} {v : Value} (L : Laid W s) (h : Ch W (.iface 71 (.pointer (some a))) (p :: ps) v) (hl : ps.length ≤ 900) :
    Calls Tryd.prog 11 #[v] W fun e w' => e = .returned (.tuple #[.int .i64 p, .bool true]) ∧ Below W.heap.size W w' := by
  have hE := h.ends (by simp; omega)
  cases h with
  | woe hn h0 h1 hz r => exact Place_hit _ p s W L h0 hE
theorem Path_ch {W : World} {a : Addr} {ps : List Int} {v : Value} (h : Ch W (.iface 71 (.pointer (some a))) ps v) (hl : ps.length ≤ 200) :
    Calls Tryd.prog 13 #[v] W fun e w' => ∃ u, e = .returned u ∧ Row w' u ps ∧ Below W.heap.size W w' :=
  (Path_any a _ ps v W h (Nat.le_refl _) hl).mono fun _ _ ⟨u, e, ho, hb⟩ => ⟨u, e, Row.own ho, hb⟩

theorem At_ch {W : World} {T : TypeId} {x v : Value} {ps : List Int} (p : Int) (h : Ch W (.iface T x) ps v) :
    Calls Tryd.prog 18 #[.int .i64 p, v] W fun e w' => ∃ u, e = .returned u ∧ Ch w' (.iface T x) (p :: ps) u ∧ Below W.heap.size W w' := by
  obtain ⟨T', x', rfl⟩ := h.shape
  exact (At_some p T' x' W).mono fun e w' ⟨he, hw⟩ => ⟨_, he, by rw [hw]; exact h.push p, by rw [hw]; exact (Below.refl _ _).alloc (Nat.le_refl _) _⟩

theorem hid_trans {B : Nat} {a b c : World} (h : Hid (Below B a b)) (hB : B ≤ b.heap.size) (k : Below b.heap.size b c) : Hid (Below B a c) := h.out.trans (k.mono hB)
theorem hid_size {W b : World} (h : Hid (Below W.heap.size W b)) : W.heap.size ≤ b.heap.size := h.out.size
theorem awake_row {w1 w2 : World} {u : Value} (h : Row w1 u [3, 7]) (hb : Below w1.heap.size w1 w2) : Row w2 u [3, 7] := h.keep hb
theorem row_pair (w : World) (b : Nat) (x y : Int) (h : b < w.heap.size) (h0 : w.cell? ⟨b, 0, none⟩ = some (.int .i64 x)) (h1 : w.cell? ⟨b, 1, none⟩ = some (.int .i64 y)) : Row w (.slice (some ⟨b, 0, none⟩) 2 2) [x, y] :=
  .inr ⟨b, 0, 2, rfl, h, Nat.le_refl _, fun i hi => by
    match i, hi with
    | 0, _ => exact h0
    | 1, _ => exact h1⟩

set_option maxRecDepth 100000 in
set_option maxHeartbeats 4000000 in
theorem awake_true (s : Nat → Addr) (W : World) (L : Laid W s) : Calls Tryd.prog 9 #[] W fun e w' => e = .returned (.bool true) ∧ Below W.heap.size W w' := by
  have HL : Hid (Laid W s) := L
  have g2 := L.g 2 (by omega)
  have lt : 11 < W.heap.size := lt_of_cell L.hg
  clear L
  go_enter Tryd.func9, Tryd.ntmps9
  go_wp2_with (first
    | (go_at_call 18; ((with_reducible refine (At_ch 3 H1.out).mono ?_); rintro e w2 ⟨u2, rfl, hc, hb⟩; have H2 : Hid (Ch w2 (.iface 71 (.pointer (some (s 3)))) [3, 7] u2) := hc; have B2 : Hid (Below W.heap.size W w2) := hid_trans B1 (hid_size B1) hb; clear hc hb))
    | (go_at_call 18; ((with_reducible refine (At_ch 7 Ch.base).mono ?_); rintro e w1 ⟨u1, rfl, hc, hb⟩; have H1 : Hid (Ch w1 (.iface 71 (.pointer (some (s 3)))) [7] u1) := hc; have B1 : Hid (Below W.heap.size W w1) := hb; clear hc hb))
    | (go_at_call 11; ((with_reducible refine (Place_ch (HL.out.keep B2.out) H2.out (by simp)).mono ?_); rintro e w3 ⟨rfl, hb⟩; have H3 : Hid (Ch w3 (.iface 71 (.pointer (some (s 3)))) [3, 7] u2) := H2.out.keep hb; have B3 : Hid (Below W.heap.size W w3) := hid_trans B2 (hid_size B2) hb; clear hb))
    | (go_at_call 12; ((with_reducible refine (Code_ch (c := 3) (HL.out.keep B3.out) (by omega) (by omega) H3.out (by simp)).mono ?_); rintro e w4 ⟨rfl, hb⟩; have H4 : Hid (Ch w4 (.iface 71 (.pointer (some (s 3)))) [3, 7] u2) := H3.out.keep hb; have B4 : Hid (Below W.heap.size W w4) := hid_trans B3 (hid_size B3) hb; clear hb))
    | (go_at_call 13; ((with_reducible refine (Path_ch H4.out (by simp)).mono ?_); rintro e w5 ⟨u5, rfl, hr, hb⟩; have R5 : Hid (Row w5 u5 [3, 7]) := hr; have H5 : Hid (Ch w5 (.iface 71 (.pointer (some (s 3)))) [3, 7] u2) := H4.out.keep hb; have B5 : Hid (Below W.heap.size W w5) := hid_trans B4 (hid_size B4) hb; clear hb hr))
    | (go_at_call 14; ((with_reducible refine (Ints_true _ _ [3, 7] _ (awake_row R5.out ((Below.refl _ _).alloc (Nat.le_refl _) _)) (row_pair _ _ _ _ (by simp) (by simp) (by simp)) (by simp)).mono ?_); rintro e w6 ⟨rfl, hb⟩; have b56 : Hid (Below w5.heap.size w5 w6) := ((Below.refl _ _).alloc (Nat.le_refl _) _).trans (hb.mono (by simp)); have H6 : Hid (Ch w6 (.iface 71 (.pointer (some (s 3)))) [3, 7] u2) := H5.out.keep b56.out; have B6 : Hid (Below W.heap.size W w6) := hid_trans B5 (hid_size B5) b56.out; clear hb b56; have k2 := (HL.out.keep B6.out).g 2 (by omega); have k0 := (HL.out.keep B6.out).g 0 (by omega)))
    | (go_at_call 16; ((with_reducible refine (Is_ch (c := 3) (i := 3) (HL.out.keep B6.out) (by omega) (by omega) (by omega) (by omega) H6.out).mono ?_); rintro e w7 ⟨rfl, rfl⟩))
    | (go_at_call 16; ((with_reducible refine (Is_ch (c := 3) (i := 1) (HL.out.keep B6.out) (by omega) (by omega) (by omega) (by omega) H6.out).mono ?_); rintro e w7 ⟨rfl, rfl⟩))
    | (go_at_call 18; refine (At_nil _ _).mono ?_; rintro e w8 ⟨rfl, rfl⟩))
  go_ret
  exact ⟨rfl, B6.out⟩
end Go.Proofs.YtdojgjainfelcaaDoor
