import Derived.Test.YtdojgjainfelcaaDoorJ
namespace Go.Proofs.YtdojgjainfelcaaDoor
open Go.RowKit Go.Extern.Stop Go.Stop Go.Extern

/-- endless answers false at v, in every world above W. -/
def Ends (W : World) (v : Value) : Prop := (∃ T x, v = .iface T x) ∧ ∀ w1, Below W.heap.size W w1 → Calls Tryd.prog 24 #[v, .int .i64 1048576] w1 fun e w' => e = .returned (.bool false) ∧ Below w1.heap.size w1 w'
/-- Of the named errors v is those k with R k. -/
def Knows (W : World) (s : Nat → Addr) (v : Value) (R : Nat → Bool) : Prop := ∀ i, 1 ≤ i → i ≤ 11 → ∀ w1, Below W.heap.size W w1 → IsC w1 v (s i) (R i)

theorem Code_nil (w : World) : Calls Tryd.prog 12 #[.nilIface] w fun e w' => e = .returned (.int .i64 0) ∧ w = w' := by
  go_enter Tryd.func12, Tryd.ntmps12
  go_wp2
  go_ret
  exact ⟨rfl, rfl⟩

set_option maxHeartbeats 2000000 in
theorem Code_hit (s : Nat → Addr) (v : Value) (R : Nat → Bool) (k : Nat) (W : World) (L : Laid W s) (hE : Ends W v) (hK : Knows W s v R) (h1 : 1 ≤ k) (h2 : k ≤ 11) (hk : R k = true) (hl : ∀ i, 1 ≤ i → i < k → R i = false) :
    Calls Tryd.prog 12 #[v] W fun e w' => e = .returned (.int .i64 k) ∧ Below W.heap.size W w' := by
  obtain ⟨⟨T, x, rfl⟩, hE⟩ := hE
  have HE : Hid _ := hE
  have HK : Hid (Knows W s (.iface T x) R) := hK
  have HL : Hid (Laid W s) := L
  have Hk : Hid (R k = true) := hk
  have Hl : Hid (∀ i, 1 ≤ i → i < k → R i = false) := hl
  clear hE hK L hk hl
  go_enter Tryd.func12, Tryd.ntmps12
  go_wp2_with (go_at_call 24; refine (HE.out _ (Below.refl _ _)).mono ?_; rintro e w1 ⟨rfl, hb1⟩; have Hb1 : Hid (Below W.heap.size W w1) := hb1; clear hb1)
  go_loopw [3] (fun c wr => ∃ i : Nat, c = .int .i64 i ∧ 1 ≤ i ∧ i ≤ k ∧ Below W.heap.size W wr) (fun c _ => 12 - (intOf c).toNat)
  case atStart => exact ⟨1, rfl, by omega, h1, Hb1.out⟩
  case round =>
    obtain ⟨i, rfl, hi1, hik, hb⟩ := hrel
    have Hb : Hid (Below W.heap.size W wr) := hb
    have HI : Hid (1 ≤ i ∧ i ≤ k) := ⟨hi1, hik⟩
    clear hb
    have ho := Of_some s i wr hi1 (by omega) (HL.out.keep Hb.out)
    have hs := is_of (.iface T x) (s i) (R i) wr (fun w2 hb2 => HK.out i hi1 (by omega) w2 (Hb.out.trans (hb2.mono Hb.out.size)))
    by_cases hc : i = k
    · subst hc
      rw [Hk.out] at hs
      go_wp2_with (first
        | (go_at_call 17; refine ho.mono ?_; rintro e w2 ⟨rfl, rfl⟩)
        | (go_at_call 26; refine hs.mono ?_; rintro e w3 ⟨rfl, hb3⟩; have Hb3 : Hid (Below W.heap.size W w3) := Hb.out.trans (hb3.mono Hb.out.size); clear hb3))
      go_ret
      exact ⟨rfl, Hb3.out⟩
    · rw [Hl.out i hi1 (by omega)] at hs
      go_wp2_with (first
        | (go_at_call 17; refine ho.mono ?_; rintro e w2 ⟨rfl, rfl⟩)
        | (go_at_call 26; refine hs.mono ?_; rintro e w3 ⟨rfl, hb3⟩; have Hb3 : Hid (Below W.heap.size W w3) := Hb.out.trans (hb3.mono Hb.out.size); clear hb3))
      go_roundw
      case rel => exact ⟨i + 1, by go_num, by omega, by have := HI.out; omega, Hb3.out⟩
      case measure => simp [intOf]; omega

set_option maxHeartbeats 2000000 in
theorem Code_miss (s : Nat → Addr) (v : Value) (R : Nat → Bool) (W : World) (L : Laid W s) (hE : Ends W v) (hK : Knows W s v R) (hl : ∀ i, 1 ≤ i → i ≤ 11 → R i = false) :
    Calls Tryd.prog 12 #[v] W fun e w' => e = .returned (.int .i64 (-1)) ∧ Below W.heap.size W w' := by
  obtain ⟨⟨T, x, rfl⟩, hE⟩ := hE
  have HE : Hid _ := hE
  have HK : Hid (Knows W s (.iface T x) R) := hK
  have HL : Hid (Laid W s) := L
  have Hl : Hid (∀ i, 1 ≤ i → i ≤ 11 → R i = false) := hl
  clear hE hK L hl
  go_enter Tryd.func12, Tryd.ntmps12
  go_wp2_with (go_at_call 24; refine (HE.out _ (Below.refl _ _)).mono ?_; rintro e w1 ⟨rfl, hb1⟩; have Hb1 : Hid (Below W.heap.size W w1) := hb1; clear hb1)
  go_loopw [3] (fun c wr => ∃ i : Nat, c = .int .i64 i ∧ 1 ≤ i ∧ i ≤ 12 ∧ Below W.heap.size W wr) (fun c _ => 13 - (intOf c).toNat)
  case atStart => exact ⟨1, rfl, by omega, by omega, Hb1.out⟩
  case round =>
    obtain ⟨i, rfl, hi1, hik, hb⟩ := hrel
    have Hb : Hid (Below W.heap.size W wr) := hb
    clear hb
    by_cases hc : i = 12
    · subst hc
      have ho := Of_none ((12 : Nat) : Int) wr (by omega)
      go_wp2_with (go_at_call 17; refine ho.mono ?_; rintro e w2 ⟨rfl, rfl⟩)
      go_ret
      exact ⟨rfl, Hb.out⟩
    · have ho := Of_some s i wr hi1 (by omega) (HL.out.keep Hb.out)
      have hs := is_of (.iface T x) (s i) (R i) wr (fun w2 hb2 => HK.out i hi1 (by omega) w2 (Hb.out.trans (hb2.mono Hb.out.size)))
      rw [Hl.out i hi1 (by omega)] at hs
      go_wp2_with (first
        | (go_at_call 17; refine ho.mono ?_; rintro e w2 ⟨rfl, rfl⟩)
        | (go_at_call 26; refine hs.mono ?_; rintro e w3 ⟨rfl, hb3⟩; have Hb3 : Hid (Below W.heap.size W w3) := Hb.out.trans (hb3.mono Hb.out.size); clear hb3))
      go_roundw
      case rel => exact ⟨i + 1, by go_num, by omega, by omega, Hb3.out⟩
      case measure => simp [intOf]; omega

/-! outermost, Place -/
theorem outer_body_none (a c : Nat) (p : Addr) (old : Value) (w : World) (hg : w.cell? ⟨11, 0, none⟩ = some (.iface 83 (.agg #[.pointer (some ⟨12, 25, none⟩)]))) (ha : w.cell? ⟨a, 0, none⟩ = some (.iface 71 (.pointer (some p)))) (_hc : w.cell? ⟨c, 0, none⟩ = some old) :
    Calls Tryd.prog 38 #[.pointer (some ⟨a, 0, none⟩), .pointer (some ⟨c, 0, none⟩)] w fun e w' => e = .returned (.tuple #[]) ∧ Below w.heap.size w w' := by
  have la := lt_of_cell ha
  have lg := lt_of_cell hg
  have hA := As_s40 p w.heap.size (.pointer none) (w.alloc (.cells #[.pointer none] 40)) (by rw [World.cell?_alloc_lt _ _ _ lg]; exact hg) (by simp) (by simp)
  clear _hc hg
  go_enter Tryd.func38, Tryd.ntmps38
  go_wp2_with (go_at_call 19; refine hA.mono ?_; rintro e w' ⟨rfl, hb⟩)
  go_end0
  exact ⟨rfl, ((Below.refl _ _).alloc (Nat.le_refl _) _).trans (hb.mono (by simp))⟩

theorem outer_body_hit (a c : Nat) (p : Addr) (old : Value) (w : World) (hg : w.cell? ⟨11, 0, none⟩ = some (.iface 83 (.agg #[.pointer (some ⟨12, 25, none⟩)]))) (ha : w.cell? ⟨a, 0, none⟩ = some (.iface 40 (.pointer (some p)))) (hc : w.cell? ⟨c, 0, none⟩ = some old) (hf : w.frozen? ⟨c, 0, none⟩ = false) :
    Calls Tryd.prog 38 #[.pointer (some ⟨a, 0, none⟩), .pointer (some ⟨c, 0, none⟩)] w fun e w' => e = .returned (.tuple #[]) ∧ Below w.heap.size (w.setCell ⟨c, 0, none⟩ (.pointer (some p))) w' := by
  have la := lt_of_cell ha
  have lg := lt_of_cell hg
  have lc := lt_of_cell hc
  simp only at lc
  have hA := As_w40 p w.heap.size (.pointer none) (w.alloc (.cells #[.pointer none] 40)) (by rw [World.cell?_alloc_lt _ _ _ lg]; exact hg) (by simp) (by simp)
  have hA' := hA.mono (R' := fun ev w' => ev = .returned (.bool true) ∧ w'.cell? ⟨w.heap.size, 0, none⟩ = some (.pointer (some p)) ∧ w'.cell? ⟨c, 0, none⟩ = some old ∧ w'.frozen? ⟨c, 0, none⟩ = false ∧ Hid (Below w.heap.size w w')) (fun ev w' h => by
    obtain ⟨e, hb⟩ := h
    have hB : Below w.heap.size w w' := Below.trans (Below.setCell (p := ⟨w.heap.size, 0, none⟩) ((Below.refl w.heap.size w).alloc (Nat.le_refl _) _) (Nat.le_refl _) _) (hb.mono (by rw [World.size_alloc]; omega))
    refine ⟨e, ?_, ?_, ?_, hB⟩
    · rw [hb.cell (p := ⟨w.heap.size, 0, none⟩) (by rw [World.size_alloc]; exact Nat.lt_succ_self _)]
      exact World.cell?_setCell_same _ _ _ (by simp : _ = some (Value.pointer none))
    · rw [hB.cell (p := ⟨c, 0, none⟩) lc]; exact hc
    · rw [hB.frozen (p := ⟨c, 0, none⟩) lc]; exact hf)
  clear hA hc hf hg
  go_enter Tryd.func38, Tryd.ntmps38
  go_wp2_with (go_at_call 19; refine hA'.mono ?_; rintro e w' ⟨rfl, k1, k3, k4, hb⟩)
  go_end0
  refine ⟨rfl, ?_⟩
  have hb' := hb.out
  refine ⟨hb'.os, hb'.tape, hb'.output, by simpa using hb'.size, fun k hk => ?_⟩
  by_cases e : k = c
  · subst e; simp only [World.setCell, Array.getElem?_modify, if_true, hb'.block _ hk]
  · rw [Below.heap_setCell _ _ _ _ e, Below.heap_setCell _ _ _ _ e, hb'.block _ hk]

theorem outer_none (p : Addr) (W : World) (hg : W.cell? ⟨11, 0, none⟩ = some (.iface 83 (.agg #[.pointer (some ⟨12, 25, none⟩)]))) :
    Calls Tryd.prog 25 #[.iface 71 (.pointer (some p))] W fun e w' => e = .returned (.pointer none) ∧ Below W.heap.size W w' := by
  have h1 := hmf
  have lg := lt_of_cell hg
  have hc := calm_of 38 _ _ _ (enter38 _ _) (outer_body_none W.heap.size (W.heap.size + 1) p (.pointer none) ((W.alloc (.cells #[.iface 71 (.pointer (some p))] 25)).alloc (.cells #[.pointer none] 40))
    (by rw [World.cell?_alloc_lt _ _ _ (by rw [World.size_alloc]; exact Nat.lt_succ_of_lt lg), World.cell?_alloc_lt _ _ _ lg]; exact hg) (by simp) (by simp))
  have hc' := hc.mono (R' := fun e w' => e = .returned (.tuple #[]) ∧ w'.cell? ⟨W.heap.size + 1, 0, none⟩ = some (.pointer none) ∧ Hid (Below W.heap.size W w')) (fun e w' h => by
    obtain ⟨e1, hb⟩ := h
    refine ⟨e1, ?_, Below.trans (((Below.refl W.heap.size W).alloc (Nat.le_refl _) _).alloc (by rw [World.size_alloc]; omega) _) (hb.mono (by rw [World.size_alloc, World.size_alloc]; omega))⟩
    rw [hb.cell (p := ⟨W.heap.size + 1, 0, none⟩) (by rw [World.size_alloc, World.size_alloc]; exact Nat.lt_succ_self _)]; simp)
  clear hc hg
  go_enter Tryd.func25, Tryd.ntmps25
  go_wp2_with (go_at_call 37; refine hc'.mono ?_; rintro e w' ⟨rfl, k1, hb⟩)
  go_ret
  exact ⟨rfl, hb.out⟩

theorem outer_hit (p : Addr) (W : World) (hg : W.cell? ⟨11, 0, none⟩ = some (.iface 83 (.agg #[.pointer (some ⟨12, 25, none⟩)]))) :
    Calls Tryd.prog 25 #[.iface 40 (.pointer (some p))] W fun e w' => e = .returned (.pointer (some p)) ∧ Below W.heap.size W w' := by
  have h1 := hmf
  have lg := lt_of_cell hg
  have hc := calm_of 38 _ _ _ (enter38 _ _) (outer_body_hit W.heap.size (W.heap.size + 1) p (.pointer none) ((W.alloc (.cells #[.iface 40 (.pointer (some p))] 25)).alloc (.cells #[.pointer none] 40))
    (by rw [World.cell?_alloc_lt _ _ _ (by rw [World.size_alloc]; exact Nat.lt_succ_of_lt lg), World.cell?_alloc_lt _ _ _ lg]; exact hg) (by simp) (by simp) (by simp))
  have hc' := hc.mono (R' := fun e w' => e = .returned (.tuple #[]) ∧ w'.cell? ⟨W.heap.size + 1, 0, none⟩ = some (.pointer (some p)) ∧ Hid (Below W.heap.size W w')) (fun e w' h => by
    obtain ⟨e1, hb⟩ := h
    refine ⟨e1, ?_, Below.trans (below2 _ _ _ _) (hb.mono (by rw [World.size_alloc, World.size_alloc]; omega))⟩
    rw [hb.cell (p := ⟨W.heap.size + 1, 0, none⟩) (by rw [World.size_alloc, World.size_alloc]; exact Nat.lt_succ_self _)]
    exact World.cell?_setCell_same _ _ _ (by simp : _ = some (Value.pointer none)))
  clear hc hg
  go_enter Tryd.func25, Tryd.ntmps25
  go_wp2_with (go_at_call 37; refine hc'.mono ?_; rintro e w' ⟨rfl, k1, hb⟩)
  go_ret
  exact ⟨rfl, hb.out⟩
end Go.Proofs.YtdojgjainfelcaaDoor
