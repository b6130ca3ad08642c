import Derived.Test.YtdojgjainfelcaaDoorA
namespace Go.Proofs.YtdojgjainfelcaaDoor
open Go.RowKit Go.Extern.Stop Go.Stop Go.Extern

theorem calm_of (k : Nat) (cap : Array Value) (w : World) (R : World → Prop)
    (hk : ∀ w, (callFunc k cap).run Tryd.prog w = .ok (.enter k cap) w)
    (h : Calls Tryd.prog k cap w fun e w' => e = .returned (.tuple #[]) ∧ R w') :
    Calls Tryd.prog 37 #[.func (.func k) #[] cap] w fun e w' => e = .returned (.tuple #[]) ∧ R w' := by
  go_enter_defers Tryd.func37, Tryd.ntmps37
  go_wp2
  refine h.mono ?_
  rintro e w' ⟨rfl, hr⟩
  have hr' : Hid (R w') := hr
  clear hr
  go_wp2
  refine leaves_cons (f := 45) (args := #[]) (by simp) (by simp [go_sem]) ?_
  refine (catch_idle _).mono ?_
  rintro e u' w'' ⟨rfl, rfl, rfl⟩
  simp [Leaves, settle, results, Tryd.results37, go_sem]
  exact hr'
theorem enter40 (a b : Value) (w : World) : (callFunc 40 #[a, b]).run Tryd.prog w = .ok (.enter 40 #[a, b]) w := by kernel_rfl
theorem enter44 (a b : Value) (w : World) : (callFunc 44 #[a, b]).run Tryd.prog w = .ok (.enter 44 #[a, b]) w := by kernel_rfl
theorem enter38 (a b : Value) (w : World) : (callFunc 38 #[a, b]).run Tryd.prog w = .ok (.enter 38 #[a, b]) w := by kernel_rfl
theorem enter39 (a b c : Value) (w : World) : (callFunc 39 #[a, b, c]).run Tryd.prog w = .ok (.enter 39 #[a, b, c]) w := by kernel_rfl

theorem bcell {W w1 : World} (hb : Below W.heap.size W w1) : (∀ b o, b < W.heap.size → w1.cell? ⟨b, o, none⟩ = W.cell? ⟨b, o, none⟩) ∧ (∀ b o, b < W.heap.size → w1.frozen? ⟨b, o, none⟩ = W.frozen? ⟨b, o, none⟩) :=
  ⟨fun b o h => hb.cell (p := ⟨b, o, none⟩) h, fun b o h => hb.frozen (p := ⟨b, o, none⟩) h⟩

theorem below2 (W : World) (o1 o2 : Obj) (u : Value) : Below W.heap.size W (((W.alloc o1).alloc o2).setCell ⟨W.heap.size + 1, 0, none⟩ u) :=
  Below.setCell (p := ⟨W.heap.size + 1, 0, none⟩) (((Below.refl W.heap.size W).alloc (Nat.le_refl _) o1).alloc (by simp) o2) (Nat.le_succ _) u

/-- An error's value: nil, or a type and what it holds. -/
def IsErr (u : Value) : Prop := u = .nilIface ∨ ∃ T x, u = .iface T x
theorem IsErr.iface (T : TypeId) (x : Value) : IsErr (.iface T x) := .inr ⟨T, x, rfl⟩
theorem IsErr.nil : IsErr .nilIface := .inl rfl

/-- inner's closure. -/
theorem inner_body (a c : Nat) (v u old : Value) (w : World) (ie : IsErr u) (ha : w.cell? ⟨a, 0, none⟩ = some v) (hc : w.cell? ⟨c, 0, none⟩ = some old) (hf : w.frozen? ⟨c, 0, none⟩ = false)
    (hu : Calls Tryd.prog 41 #[v] w fun e w' => e = .returned u ∧ w = w') :
    Calls Tryd.prog 40 #[.pointer (some ⟨a, 0, none⟩), .pointer (some ⟨c, 0, none⟩)] w fun e w' => e = .returned (.tuple #[]) ∧ w' = w.setCell ⟨c, 0, none⟩ u := by
  rcases ie with rfl | ⟨T, x, rfl⟩
  all_goals
    go_enter Tryd.func40, Tryd.ntmps40
    go_wp2_with (go_at_call 41; refine hu.mono ?_; rintro e w' ⟨rfl, rfl⟩)
    go_end0
    exact ⟨rfl, rfl⟩

theorem inner_of (T : TypeId) (v u : Value) (W : World) (ie : IsErr u) (hu : ∀ w, Below W.heap.size W w → Calls Tryd.prog 41 #[.iface T v] w fun e w' => e = .returned u ∧ w = w') :
    Calls Tryd.prog 28 #[.iface T v] W fun e w' => e = .returned u ∧ Below W.heap.size W w' := by
  have h1 := hmf
  have hc := calm_of 40 _ ((W.alloc (.cells #[.iface T v] 25)).alloc (.cells #[.nilIface] 25)) _ (enter40 _ _) (inner_body W.heap.size (W.heap.size + 1) (.iface T v) u .nilIface _ ie (by simp) (by simp) (by simp) (hu _ (((Below.refl _ _).alloc (Nat.le_refl _) _).alloc (by simp) _)))
  clear hu ie
  go_enter Tryd.func28, Tryd.ntmps28
  go_wp2_with (go_at_call 37; refine hc.mono ?_; rintro e w' ⟨rfl, rfl⟩)
  go_ret
  refine ⟨by simp, ?_⟩
  exact ((Below.refl _ _).alloc (Nat.le_refl _) _).alloc (by simp) _

theorem inner_woe (b : Nat) (v : Value) (W : World) (ie : IsErr v) (h : W.cell? ⟨b, 1, none⟩ = some v) :
    Calls Tryd.prog 28 #[.iface 40 (.pointer (some ⟨b, 0, none⟩))] W fun e w' => e = .returned v ∧ Below W.heap.size W w' := by
  refine inner_of _ _ _ _ ie fun w hb => unwrap_woe b v w ?_
  rw [hb.cell (p := ⟨b, 1, none⟩)]; exact h
  rcases Nat.lt_or_ge b W.heap.size with h' | h'
  · exact h'
  · simp [World.cell?, Array.getElem?_eq_none h'] at h
theorem inner_str (v : Value) (W : World) :
    Calls Tryd.prog 28 #[.iface 71 v] W fun e w' => e = .returned .nilIface ∧ Below W.heap.size W w' :=
  inner_of _ _ _ _ .nil fun w _ => unwrap_str v w
theorem inner_join (v : Value) (W : World) :
    Calls Tryd.prog 28 #[.iface 75 v] W fun e w' => e = .returned .nilIface ∧ Below W.heap.size W w' :=
  inner_of _ _ _ _ .nil fun w _ => unwrap_join v w
end Go.Proofs.YtdojgjainfelcaaDoor
