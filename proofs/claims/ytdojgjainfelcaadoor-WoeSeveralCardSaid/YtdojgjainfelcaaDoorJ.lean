import Derived.Test.YtdojgjainfelcaaDoorI
namespace Go.Proofs.YtdojgjainfelcaaDoor
open Go.RowKit Go.Extern.Stop Go.Stop Go.Extern

/-- WHAT THE LISTED VARIABLES GIVE A WALK: the eleven named errors, each at an address of its own; the handle of the type error. -/
structure Laid (W : World) (s : Nat → Addr) : Prop where
  g : ∀ i, i < 11 → W.cell? ⟨i, 0, none⟩ = some (.iface 71 (.pointer (some (s (i + 1)))))
  b : ∀ i, i < 11 → Blk W (s (i + 1))
  ne : ∀ i k, i < 11 → k < 11 → i ≠ k → s (i + 1) ≠ s (k + 1)
  hg : W.cell? ⟨11, 0, none⟩ = some (.iface 83 (.agg #[.pointer (some ⟨12, 25, none⟩)]))
theorem Blk.lt {W : World} {a : Addr} (h : Blk W a) : a.block < W.heap.size := by
  obtain ⟨c, t, h⟩ := h
  rcases Nat.lt_or_ge a.block W.heap.size with h' | h'
  · exact h'
  · rw [Array.getElem?_eq_none h'] at h; cases h
theorem Blk.keep {W w' : World} {a : Addr} (h : Blk W a) (hb : Below W.heap.size W w') : Blk w' a := by
  have := h.lt
  obtain ⟨c, t, h⟩ := h
  exact ⟨c, t, by rw [hb.block _ this]; exact h⟩
theorem Laid.keep {W w' : World} {s : Nat → Addr} (h : Laid W s) (hb : Below W.heap.size W w') : Laid w' s :=
  ⟨fun i hi => by rw [hb.cell (p := ⟨i, 0, none⟩) (lt_of_cell (h.g i hi))]; exact h.g i hi, fun i hi => (h.b i hi).keep hb, h.ne, by rw [hb.cell (p := ⟨11, 0, none⟩) (lt_of_cell h.hg)]; exact h.hg⟩

theorem Of_some (s : Nat → Addr) (c : Nat) (w : World) (h1 : 1 ≤ c) (h2 : c ≤ 11) (L : Laid w s) :
    Calls Tryd.prog 17 #[.int .i64 c] w fun e w' => e = .returned (.iface 71 (.pointer (some (s c)))) ∧ w = w' := by
  obtain ⟨i, rfl⟩ : ∃ i, c = i + 1 := ⟨c - 1, by omega⟩
  have hc := L.g i (by omega)
  clear L
  have : i = 0 ∨ i = 1 ∨ i = 2 ∨ i = 3 ∨ i = 4 ∨ i = 5 ∨ i = 6 ∨ i = 7 ∨ i = 8 ∨ i = 9 ∨ i = 10 := by omega
  clear h1 h2
  rcases this with rfl | rfl | rfl | rfl | rfl | rfl | rfl | rfl | rfl | rfl | rfl
  all_goals
    go_enter Tryd.func17, Tryd.ntmps17
    go_wp2
    go_ret
    exact ⟨rfl, rfl⟩

theorem Of_none (c : Int) (w : World) (h : c < 1 ∨ 11 < c) :
    Calls Tryd.prog 17 #[.int .i64 c] w fun e w' => e = .returned .nilIface ∧ w = w' := by
  have k1 : (c == 1) = false := by simp; omega
  have k2 : (c == 2) = false := by simp; omega
  have k3 : (c == 3) = false := by simp; omega
  have k4 : (c == 4) = false := by simp; omega
  have k5 : (c == 5) = false := by simp; omega
  have k6 : (c == 6) = false := by simp; omega
  have k7 : (c == 7) = false := by simp; omega
  have k8 : (c == 8) = false := by simp; omega
  have k9 : (c == 9) = false := by simp; omega
  have k10 : (c == 10) = false := by simp; omega
  have k11 : (c == 11) = false := by simp; omega
  clear h
  go_enter Tryd.func17, Tryd.ntmps17
  go_wp2
  go_ret
  exact ⟨rfl, rfl⟩

theorem At_nil (p : Int) (w : World) : Calls Tryd.prog 18 #[.int .i64 p, .nilIface] w fun e w' => e = .returned .nilIface ∧ w = w' := by
  go_enter Tryd.func18, Tryd.ntmps18
  go_wp2
  go_ret
  exact ⟨rfl, rfl⟩
theorem At_some (p : Int) (T : TypeId) (x : Value) (w : World) : Calls Tryd.prog 18 #[.int .i64 p, .iface T x] w fun e w' => e = .returned (.iface 40 (.pointer (some ⟨w.heap.size, 0, none⟩))) ∧ w' = w.alloc (.cells #[.int .i64 p, .iface T x] 44) := by
  go_enter Tryd.func18, Tryd.ntmps18
  go_wp2
  go_ret
  exact ⟨rfl, rfl⟩

/-- is. -/
theorem is_body (a b c : Nat) (T : TypeId) (x : Value) (d : Addr) (r : Bool) (old : Value) (w : World) (ha : w.cell? ⟨a, 0, none⟩ = some (.iface T x)) (hb : w.cell? ⟨b, 0, none⟩ = some (.iface 71 (.pointer (some d)))) (hc : w.cell? ⟨c, 0, none⟩ = some old) (hf : w.frozen? ⟨c, 0, none⟩ = false)
    (hu : Calls Tryd.prog 16 #[.iface T x, .iface 71 (.pointer (some d))] w fun e w' => e = .returned (.bool r) ∧ w = w') :
    Calls Tryd.prog 39 #[.pointer (some ⟨a, 0, none⟩), .pointer (some ⟨b, 0, none⟩), .pointer (some ⟨c, 0, none⟩)] w fun e w' => e = .returned (.tuple #[]) ∧ w' = w.setCell ⟨c, 0, none⟩ (.bool r) := by
  go_enter Tryd.func39, Tryd.ntmps39
  go_wp2_with (go_at_call 16; refine hu.mono ?_; rintro e w' ⟨rfl, rfl⟩)
  go_end0
  exact ⟨rfl, rfl⟩
theorem is_of (v : Value) (d : Addr) (r : Bool) (W : World) (h : ∀ w1, Below W.heap.size W w1 → IsC w1 v d r) :
    Calls Tryd.prog 26 #[v, .iface 71 (.pointer (some d))] W fun e w' => e = .returned (.bool r) ∧ Below W.heap.size W w' := by
  have h1 := hmf
  obtain ⟨⟨T, x, rfl⟩, _⟩ := h W (Below.refl _ _)
  have b3 : Below W.heap.size W (((W.alloc (.cells #[.iface T x] 25)).alloc (.cells #[.iface 71 (.pointer (some d))] 25)).alloc (.cells #[.bool false] 4)) :=
    (((Below.refl W.heap.size W).alloc (Nat.le_refl _) _).alloc (by rw [World.size_alloc]; omega) _).alloc (by rw [World.size_alloc, World.size_alloc]; omega) _
  have hi := (h _ b3).Is
  have hc := calm_of 39 _ _ _ (enter39 _ _ _) (is_body W.heap.size (W.heap.size + 1) (W.heap.size + 1 + 1) T x d r (.bool false) (((W.alloc (.cells #[.iface T x] 25)).alloc (.cells #[.iface 71 (.pointer (some d))] 25)).alloc (.cells #[.bool false] 4)) (by simp [go_sem]) (by simp [go_sem]) (by simp [go_sem]) (by simp [go_sem]) hi)
  clear h hi b3
  go_enter Tryd.func26, Tryd.ntmps26
  go_wp2_with (go_at_call 37; refine hc.mono ?_; rintro e w' ⟨rfl, rfl⟩)
  go_ret
  refine ⟨by simp, ?_⟩
  exact (((Below.refl W.heap.size W).alloc (Nat.le_refl _) _).alloc (by rw [World.size_alloc]; omega) _).alloc (by rw [World.size_alloc, World.size_alloc]; omega) _
end Go.Proofs.YtdojgjainfelcaaDoor
