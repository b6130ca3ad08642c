import Derived.Test.YtdojgjainfelcaaDoorK
namespace Go.Proofs.YtdojgjainfelcaaDoor
open Go.RowKit Go.Extern.Stop Go.Stop Go.Extern

theorem endless_nil (r : Int) (W : World) : Calls Tryd.prog 24 #[.nilIface, .int .i64 r] W fun e w' => e = .returned (.bool false) ∧ Below W.heap.size W w' := by
  go_enter Tryd.func24, Tryd.ntmps24
  go_wp2
  refine wp_loop_rounds 1 ?_
  rw [rounds_succ]
  go_wp2
  go_ret
  exact ⟨rfl, Below.refl _ _⟩

theorem outer_body_nil (a c : Nat) (w : World) (ha : w.cell? ⟨a, 0, none⟩ = some .nilIface) :
    Calls Tryd.prog 38 #[.pointer (some ⟨a, 0, none⟩), .pointer (some ⟨c, 0, none⟩)] w fun e w' => e = .returned (.tuple #[]) ∧ Below w.heap.size w w' := by
  have la := lt_of_cell ha
  go_enter Tryd.func38, Tryd.ntmps38
  go_wp2_with (go_at_call 19; refine (As_nil _ _).mono ?_; rintro e w' ⟨rfl, rfl⟩)
  go_end0
  exact ⟨rfl, ((Below.refl _ _).alloc (Nat.le_refl _) _)⟩
theorem outer_nil (W : World) :
    Calls Tryd.prog 25 #[.nilIface] W fun e w' => e = .returned (.pointer none) ∧ Below W.heap.size W w' := by
  have h1 := hmf
  have hc := calm_of 38 _ _ _ (enter38 _ _) (outer_body_nil W.heap.size (W.heap.size + 1) ((W.alloc (.cells #[.nilIface] 25)).alloc (.cells #[.pointer none] 40)) (by simp))
  have hc' := hc.mono (R' := fun e w' => e = .returned (.tuple #[]) ∧ w'.cell? ⟨W.heap.size + 1, 0, none⟩ = some (.pointer none) ∧ Hid (Below W.heap.size W w')) (fun e w' h => by
    obtain ⟨e1, hb⟩ := h
    refine ⟨e1, ?_, Below.trans (((Below.refl W.heap.size W).alloc (Nat.le_refl _) _).alloc (by rw [World.size_alloc]; omega) _) (hb.mono (by rw [World.size_alloc, World.size_alloc]; omega))⟩
    rw [hb.cell (p := ⟨W.heap.size + 1, 0, none⟩) (by rw [World.size_alloc, World.size_alloc]; exact Nat.lt_succ_self _)]; simp)
  clear hc
  go_enter Tryd.func25, Tryd.ntmps25
  go_wp2_with (go_at_call 37; refine hc'.mono ?_; rintro e w' ⟨rfl, k1, hb⟩)
  go_ret
  exact ⟨rfl, hb.out⟩

theorem Place_nil (W : World) : Calls Tryd.prog 11 #[.nilIface] W fun e w' => e = .returned (.tuple #[.int .i64 0, .bool false]) ∧ Below W.heap.size W w' := by
  go_enter Tryd.func11, Tryd.ntmps11
  go_wp2_with (first
    | (go_at_call 24; refine (endless_nil _ _).mono ?_; rintro e w1 ⟨rfl, hb1⟩; have Hb1 : Hid (Below W.heap.size W w1) := hb1; clear hb1)
    | (go_at_call 25; refine (outer_nil _).mono ?_; rintro e w2 ⟨rfl, hb2⟩; have Hb2 : Hid (Below W.heap.size W w2) := Hb1.out.trans (hb2.mono Hb1.out.size); clear hb2))
  go_ret2
  exact ⟨rfl, Hb2.out⟩
theorem Place_none (p : Addr) (s : Nat → Addr) (W : World) (L : Laid W s) : Calls Tryd.prog 11 #[.iface 71 (.pointer (some p))] W fun e w' => e = .returned (.tuple #[.int .i64 0, .bool false]) ∧ Below W.heap.size W w' := by
  have HL : Hid (Laid W s) := L
  clear L
  go_enter Tryd.func11, Tryd.ntmps11
  go_wp2_with (first
    | (go_at_call 24; refine (endless_str 0 [] _ p W 1048576 (by simp) (by omega) (.base _) (Nat.zero_le _)).mono ?_; rintro e w1 ⟨rfl, hb1⟩; have Hb1 : Hid (Below W.heap.size W w1) := hb1; clear hb1)
    | (go_at_call 25; refine (outer_none p _ (HL.out.keep Hb1.out).hg).mono ?_; rintro e w2 ⟨rfl, hb2⟩; have Hb2 : Hid (Below W.heap.size W w2) := Hb1.out.trans (hb2.mono Hb1.out.size); clear hb2))
  go_ret2
  exact ⟨rfl, Hb2.out⟩
theorem Place_hit (b : Nat) (p : Int) (s : Nat → Addr) (W : World) (L : Laid W s) (h0 : W.cell? ⟨b, 0, none⟩ = some (.int .i64 p)) (hE : Ends W (.iface 40 (.pointer (some ⟨b, 0, none⟩)))) :
    Calls Tryd.prog 11 #[.iface 40 (.pointer (some ⟨b, 0, none⟩))] W fun e w' => e = .returned (.tuple #[.int .i64 p, .bool true]) ∧ Below W.heap.size W w' := by
  have HL : Hid (Laid W s) := L
  have HE : Hid _ := hE.2
  have H0 : Hid (W.cell? ⟨b, 0, none⟩ = some (.int .i64 p)) := h0
  have lb : b < W.heap.size := lt_of_cell h0
  clear L hE h0
  go_enter Tryd.func11, Tryd.ntmps11
  go_wp2_with (first
    | (go_at_call 24; refine (HE.out _ (Below.refl _ _)).mono ?_; rintro e w1 ⟨rfl, hb1⟩; have Hb1 : Hid (Below W.heap.size W w1) := hb1; clear hb1)
    | (go_at_call 25; refine (outer_hit ⟨b, 0, none⟩ _ (HL.out.keep Hb1.out).hg).mono ?_; rintro e w2 ⟨rfl, hb2⟩; have Hb2 : Hid (Below W.heap.size W w2) := Hb1.out.trans (hb2.mono Hb1.out.size); clear hb2; have k2 : w2.cell? ⟨b, 0, none⟩ = some (.int .i64 p) := (by rw [Hb2.out.cell (p := ⟨b, 0, none⟩) lb]; exact H0.out)))
  go_ret2
  exact ⟨rfl, Hb2.out⟩

/-! own -/
theorem Tryd.own40 (v : Value) (w : World) : (Instr.typeAssert (.iface 40 v) 25 40 true).run Tryd.prog w = .ok (.tuple #[v, .bool true]) w := by kernel_rfl
theorem Tryd.own71 (v : Value) (w : World) : (Instr.typeAssert (.iface 71 v) 25 40 true).run Tryd.prog w = .ok (.tuple #[.pointer none, .bool false]) w := by kernel_rfl
theorem own_woe (a : Addr) (w : World) : Calls Tryd.prog 27 #[.iface 40 (.pointer (some a))] w fun e w' => e = .returned (.pointer (some a)) ∧ w = w' := by
  have h := Tryd.own40
  go_enter Tryd.func27, Tryd.ntmps27
  go_wp2
  go_ret
  exact ⟨rfl, rfl⟩
theorem own_str (v : Value) (w : World) : Calls Tryd.prog 27 #[.iface 71 v] w fun e w' => e = .returned (.pointer none) ∧ w = w' := by
  have h := Tryd.own71
  go_enter Tryd.func27, Tryd.ntmps27
  go_wp2
  go_ret
  exact ⟨rfl, rfl⟩
end Go.Proofs.YtdojgjainfelcaaDoor
