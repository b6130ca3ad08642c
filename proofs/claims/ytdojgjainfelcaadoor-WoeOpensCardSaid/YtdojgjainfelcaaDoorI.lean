import Derived.Test.YtdojgjainfelcaaDoorH
namespace Go.Proofs.YtdojgjainfelcaaDoor
open Go.RowKit Go.Extern.Stop Go.Stop Go.Extern

theorem ends_str (p : Addr) (W : World) : EndsAt 0 W (.iface 71 (.pointer (some p))) :=
  ⟨⟨_, _, rfl⟩, rfl, fun w1 _ => inner_str _ w1, .slice none 0 0, fun w1 _ => branches_str p w1, fun r w1 _ _ _ => any_nil r w1⟩

theorem endless_str (n : Nat) (ps : List Int) (v : Value) (p : Addr) (W : World) (room : Int) (h0 : ps.length + 1 ≤ room) (hm : room ≤ 1048576) (hc : Chain W (.iface 71 (.pointer (some p))) n ps v) (hn : n ≤ W.heap.size) :
    Calls Tryd.prog 24 #[v, .int .i64 room] W fun e w' => e = .returned (.bool false) ∧ Below W.heap.size W w' := by
  obtain ⟨k, rfl⟩ : ∃ k : Nat, room = k := ⟨room.toNat, by omega⟩
  exact endless_gen 0 _ W n ps v k (by omega) (by omega) hc hn (ends_str p W)

set_option maxHeartbeats 2000000 in
theorem any_two (bl : Nat) (T0 T1 : TypeId) (x0 x1 : Value) (r : Int) (W : World) (c0 : W.cell? ⟨bl, 0, none⟩ = some (.iface T0 x0)) (c1 : W.cell? ⟨bl, 1, none⟩ = some (.iface T1 x1))
    (h0 : ∀ w1, Below W.heap.size W w1 → Calls Tryd.prog 24 #[.iface T0 x0, .int .i64 r] w1 fun e w' => e = .returned (.bool false) ∧ Below w1.heap.size w1 w')
    (h1 : ∀ w1, Below W.heap.size W w1 → Calls Tryd.prog 24 #[.iface T1 x1, .int .i64 r] w1 fun e w' => e = .returned (.bool false) ∧ Below w1.heap.size w1 w') :
    Calls Tryd.prog 35 #[.slice (some ⟨bl, 0, none⟩) 2 2, .int .i64 r] W fun e w' => e = .returned (.bool false) ∧ Below W.heap.size W w' := by
  have H0 : Hid _ := h0
  have H1 : Hid _ := h1
  have C1 : Hid (W.cell? ⟨bl, 1, none⟩ = some (.iface T1 x1)) := c1
  have lb : bl < W.heap.size := lt_of_cell c0
  clear h0 h1 c1
  have key : ∀ w1, Below W.heap.size W w1 → w1.cell? ⟨bl, 1, none⟩ = some (.iface T1 x1) := fun w1 hb => by rw [hb.cell (p := ⟨bl, 1, none⟩) lb]; exact C1.out
  have K : Hid _ := key
  clear key
  go_enter Tryd.func35, Tryd.ntmps35
  go_wp2
  refine wp_loop_rounds 3 ?_
  rw [rounds_succ]
  go_wp2_with (go_at_call 24; refine (H0.out _ (Below.refl _ _)).mono ?_; rintro e w1 ⟨rfl, hb1⟩; have k1 := K.out _ hb1; have Hb1 : Hid (Below W.heap.size W w1) := hb1; clear hb1)
  rw [rounds_succ]
  go_wp2_with (go_at_call 24; refine (H1.out _ Hb1.out).mono ?_; rintro e w2 ⟨rfl, hb2⟩; have Hb2 : Hid (Below W.heap.size W w2) := Hb1.out.trans (hb2.mono Hb1.out.size); clear hb2)
  rw [rounds_succ]
  go_wp2
  go_ret
  exact ⟨rfl, Hb2.out⟩

/-- A joinError of two errors, each a chain to an error of errors.New's make. -/
structure Join2 (W : World) (j bl : Nat) (v0 v1 : Value) : Prop where
  lj : W.cell? ⟨j, 0, none⟩ = some (.slice (some ⟨bl, 0, none⟩) 2 2)
  c0 : W.cell? ⟨bl, 0, none⟩ = some v0
  c1 : W.cell? ⟨bl, 1, none⟩ = some v1
theorem Join2.keep {W w' : World} {j bl : Nat} {v0 v1 : Value} (h : Join2 W j bl v0 v1) (hb : Below W.heap.size W w') : Join2 w' j bl v0 v1 :=
  ⟨by rw [hb.cell (p := ⟨j, 0, none⟩) (lt_of_cell h.lj)]; exact h.lj, by rw [hb.cell (p := ⟨bl, 0, none⟩) (lt_of_cell h.c0)]; exact h.c0, by rw [hb.cell (p := ⟨bl, 1, none⟩) (lt_of_cell h.c1)]; exact h.c1⟩

theorem ends_join (W : World) (j bl n0 n1 : Nat) (v0 v1 : Value) (a0 a1 : Addr) (ps0 ps1 : List Int) (h : Join2 W j bl v0 v1)
    (hc0 : Chain W (.iface 71 (.pointer (some a0))) n0 ps0 v0) (hn0 : n0 ≤ W.heap.size) (l0 : ps0.length ≤ 60) (hc1 : Chain W (.iface 71 (.pointer (some a1))) n1 ps1 v1) (hn1 : n1 ≤ W.heap.size) (l1 : ps1.length ≤ 60) :
    ∀ (r : Int) w1, Below W.heap.size W w1 → ((64 : Nat) : Int) ≤ r → r ≤ 1048576 → Calls Tryd.prog 35 #[.slice (some ⟨bl, 0, none⟩) 2 2, .int .i64 r] w1 fun e w' => e = .returned (.bool false) ∧ Below w1.heap.size w1 w' := by
  intro r w1 hb h3 hm
  have h' := h.keep hb
  obtain ⟨T0, x0, rfl⟩ := hc0.shape ⟨_, _, rfl⟩
  obtain ⟨T1, x1, rfl⟩ := hc1.shape ⟨_, _, rfl⟩
  refine any_two bl T0 T1 x0 x1 r w1 h'.c0 h'.c1 (fun w2 hb2 => ?_) (fun w2 hb2 => ?_)
  · have hb' := hb.trans (hb2.mono hb.size)
    exact endless_str n0 ps0 _ a0 w2 r (by omega) hm (hc0.keep hb' hn0) (Nat.le_trans hn0 hb'.size)
  · have hb' := hb.trans (hb2.mono hb.size)
    exact endless_str n1 ps1 _ a1 w2 r (by omega) hm (hc1.keep hb' hn1) (Nat.le_trans hn1 hb'.size)

theorem ends_at_join (W : World) (j bl n0 n1 : Nat) (v0 v1 : Value) (a0 a1 : Addr) (ps0 ps1 : List Int) (h : Join2 W j bl v0 v1)
    (hc0 : Chain W (.iface 71 (.pointer (some a0))) n0 ps0 v0) (hn0 : n0 ≤ W.heap.size) (l0 : ps0.length ≤ 60) (hc1 : Chain W (.iface 71 (.pointer (some a1))) n1 ps1 v1) (hn1 : n1 ≤ W.heap.size) (l1 : ps1.length ≤ 60) :
    EndsAt 64 W (.iface 75 (.pointer (some ⟨j, 0, none⟩))) :=
  ⟨⟨_, _, rfl⟩, rfl, fun w1 _ => inner_join _ w1, .slice (some ⟨bl, 0, none⟩) 2 2, fun w1 hb => branches_join j _ 2 2 w1 (h.keep hb).lj, ends_join W j bl n0 n1 v0 v1 a0 a1 ps0 ps1 h hc0 hn0 l0 hc1 hn1 l1⟩
end Go.Proofs.YtdojgjainfelcaaDoor
