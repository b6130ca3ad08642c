import Derived.Test.YtdojgjainfelcaaDoorF
namespace Go.Proofs.YtdojgjainfelcaaDoor
open Go.RowKit Go.Extern.Stop Go.Stop Go.Extern

theorem join_unwrap (j : Nat) (b : Addr) (n m : Nat) (w : World) (h : w.cell? ⟨j, 0, none⟩ = some (.slice (some b) n m)) :
    Calls Tryd.prog 68 #[.pointer (some ⟨j, 0, none⟩)] w fun e w' => e = .returned (.slice (some b) n m) ∧ w = w' := by
  go_enter Tryd.func68, Tryd.ntmps68
  go_wp2
  go_ret
  exact ⟨rfl, rfl⟩

theorem branches_body_str (a c : Nat) (p : Addr) (w : World) (ha : w.cell? ⟨a, 0, none⟩ = some (.iface 71 (.pointer (some p)))) :
    Calls Tryd.prog 44 #[.pointer (some ⟨a, 0, none⟩), .pointer (some ⟨c, 0, none⟩)] w fun e w' => e = .returned (.tuple #[]) ∧ Below w.heap.size w w' := by
  have la := lt_of_cell ha
  have hc := As_s89 p w.heap.size .nilIface (w.alloc (.cells #[.nilIface] 89)) (by simp) (by simp)
  go_enter Tryd.func44, Tryd.ntmps44
  go_wp2_with (go_at_call 19; refine hc.mono ?_; rintro e w' ⟨rfl, hb⟩)
  go_end0
  exact ⟨rfl, ((Below.refl _ _).alloc (Nat.le_refl _) _).trans (hb.mono (by simp))⟩

theorem branches_body_join (a c j : Nat) (b : Addr) (n m : Nat) (old : Value) (w : World) (ha : w.cell? ⟨a, 0, none⟩ = some (.iface 75 (.pointer (some ⟨j, 0, none⟩))))
    (hc : w.cell? ⟨c, 0, none⟩ = some old) (hf : w.frozen? ⟨c, 0, none⟩ = false) (hj : w.cell? ⟨j, 0, none⟩ = some (.slice (some b) n m)) :
    Calls Tryd.prog 44 #[.pointer (some ⟨a, 0, none⟩), .pointer (some ⟨c, 0, none⟩)] w fun e w' => e = .returned (.tuple #[]) ∧ Below w.heap.size (w.setCell ⟨c, 0, none⟩ (.slice (some b) n m)) w' := by
  have la := lt_of_cell ha
  have lc := lt_of_cell hc
  have lj := lt_of_cell hj
  simp only at la lc lj
  have hA := As_j89 ⟨j, 0, none⟩ w.heap.size .nilIface (w.alloc (.cells #[.nilIface] 89)) (by simp) (by simp)
  have hA' : Calls Tryd.prog 19 #[.iface 75 (.pointer (some ⟨j, 0, none⟩)), .iface 96 (.pointer (some ⟨w.heap.size, 0, none⟩))] (w.alloc (.cells #[.nilIface] 89))
      fun ev w' => ev = .returned (.bool true) ∧ w'.cell? ⟨w.heap.size, 0, none⟩ = some (.iface 75 (.pointer (some ⟨j, 0, none⟩))) ∧ w'.cell? ⟨j, 0, none⟩ = some (.slice (some b) n m) ∧
        w'.cell? ⟨c, 0, none⟩ = some old ∧ w'.frozen? ⟨c, 0, none⟩ = false ∧ Hid (Below w.heap.size w w') := by
    refine hA.mono fun ev w' h => ?_
    obtain ⟨e, hb⟩ := h
    have hB : Below w.heap.size w w' := Below.trans (Below.setCell (p := ⟨w.heap.size, 0, none⟩) ((Below.refl w.heap.size w).alloc (Nat.le_refl _) _) (Nat.le_refl _) _) (hb.mono (by rw [World.size_alloc]; omega))
    refine ⟨e, ?_, ?_, ?_, ?_, hB⟩
    · rw [hb.cell (p := ⟨w.heap.size, 0, none⟩) (by rw [World.size_alloc]; exact Nat.lt_succ_self _)]
      exact World.cell?_setCell_same _ _ _ (by simp : _ = some Value.nilIface)
    · rw [hB.cell (p := ⟨j, 0, none⟩) lj]; exact hj
    · rw [hB.cell (p := ⟨c, 0, none⟩) lc]; exact hc
    · rw [hB.frozen (p := ⟨c, 0, none⟩) lc]; exact hf
  clear hA hc hf hj
  have m1 := Tryd.methodUnwrapJ
  go_enter Tryd.func44, Tryd.ntmps44
  go_wp2_with (first
    | (go_at_call 19; refine hA'.mono ?_; rintro e w' ⟨rfl, k1, k2, k3, k4, hb⟩)
    | (go_at_call 68; refine (join_unwrap j b n m _ ‹_›).mono ?_; rintro e w' ⟨rfl, rfl⟩))
  go_end0
  refine ⟨rfl, ?_⟩
  have hb' := hb.out
  refine ⟨hb'.os, hb'.tape, hb'.output, by simpa using hb'.size, fun k hk => ?_⟩
  by_cases e : k = c
  · subst e; simp only [World.setCell, Array.getElem?_modify, if_true, hb'.block _ hk]
  · rw [Below.heap_setCell _ _ _ _ e, Below.heap_setCell _ _ _ _ e, hb'.block _ hk]

/-- What branches answers. -/
theorem branches_str (p : Addr) (W : World) :
    Calls Tryd.prog 36 #[.iface 71 (.pointer (some p))] W fun e w' => e = .returned (.slice none 0 0) ∧ Below W.heap.size W w' := by
  have h1 := hmf
  have hc := calm_of 44 _ ((W.alloc (.cells #[.iface 71 (.pointer (some p))] 25)).alloc (.cells #[.slice none 0 0] 74)) _ (enter44 _ _) (branches_body_str W.heap.size (W.heap.size + 1) p _ (by simp))
  go_enter Tryd.func36, Tryd.ntmps36
  go_wp2_with (go_at_call 37; refine hc.mono ?_; rintro e w' ⟨rfl, hb⟩; have k1 := hb.cell (p := ⟨W.heap.size + 1, 0, none⟩) (by simp))
  go_ret
  exact ⟨rfl, Below.trans (((Below.refl _ _).alloc (Nat.le_refl _) _).alloc (by simp) _) (hb.mono (by simp; omega))⟩

theorem branches_join (j : Nat) (b : Addr) (n m : Nat) (W : World) (hj : W.cell? ⟨j, 0, none⟩ = some (.slice (some b) n m)) :
    Calls Tryd.prog 36 #[.iface 75 (.pointer (some ⟨j, 0, none⟩))] W fun e w' => e = .returned (.slice (some b) n m) ∧ Below W.heap.size W w' := by
  have h1 := hmf
  have lj := lt_of_cell hj
  simp only at lj
  have hc := calm_of 44 _ ((W.alloc (.cells #[.iface 75 (.pointer (some ⟨j, 0, none⟩))] 25)).alloc (.cells #[.slice none 0 0] 74)) _ (enter44 _ _)
    (branches_body_join W.heap.size (W.heap.size + 1) j b n m (.slice none 0 0) _ (by simp) (by simp) (by simp)
      (by rw [World.cell?_alloc_lt _ _ _ (by simp; omega), World.cell?_alloc_lt _ _ _ lj]; exact hj))
  have hc' := hc.mono (R' := fun e w' => e = .returned (.tuple #[]) ∧ w'.cell? ⟨W.heap.size + 1, 0, none⟩ = some (.slice (some b) n m) ∧ Hid (Below W.heap.size W w')) (fun e w' h => by
    obtain ⟨e1, hb⟩ := h
    refine ⟨e1, ?_, Below.trans ?_ (hb.mono (by simp; omega))⟩
    · rw [hb.cell (p := ⟨W.heap.size + 1, 0, none⟩) (by simp)]
      exact World.cell?_setCell_same _ _ _ (by simp : _ = some (Value.slice none 0 0))
    · exact below2 _ _ _ _)
  clear hj hc
  go_enter Tryd.func36, Tryd.ntmps36
  go_wp2_with (go_at_call 37; refine hc'.mono ?_; rintro e w' ⟨rfl, k1, hb⟩)
  go_ret
  exact ⟨rfl, hb.out⟩
end Go.Proofs.YtdojgjainfelcaaDoor
