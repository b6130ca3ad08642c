import Derived.Test.YtdojgjainfelcaaDoorC
namespace Go.Proofs.YtdojgjainfelcaaDoor
open Go.RowKit Go.Extern.Stop Go.Stop Go.Extern

set_option maxHeartbeats 4000000 in
/-- errors.as at an error of errors.New's make, the target's element type interface{ Unwrap() []error }. -/
theorem as_s89 (p t a : Addr) (w : World) :
    Calls Tryd.prog 34 #[.iface 71 (.pointer (some p)), .iface 96 (.pointer (some t)), .agg #[.pointer (some ⟨12, 96, none⟩), .pointer (some a), .int .u64 150], .iface 83 (.agg #[.pointer (some ⟨12, 89, none⟩)])] w
      fun ev w' => ev = .returned (.bool false) ∧ Below w.heap.size w w' := by
  have h29 := @run_callFunc_extern Tryd.prog 29 _ ReflectliteType.typeOf Tryd.func29 (by kernel_rfl) (by kernel_rfl) (by kernel_rfl) (by kernel_rfl)
  have h70 := @run_callFunc_extern Tryd.prog 70 _ (ReflectliteType.relation "AssignableTo" ReflectliteType.assignableTo) Tryd.func70 (by kernel_rfl) (by kernel_rfl) (by kernel_rfl) (by kernel_rfl)
  have t1 := Tryd.typeOf71
  have t2 := Tryd.methodAssignableTo
  have t3 := Tryd.assign71_89
  have t4 := Tryd.noAs71
  have t5 := Tryd.noUnwrapE
  have t6 := Tryd.noUnwraps71
  go_enter Tryd.func34, Tryd.ntmps34
  go_wp2
  refine wp_loop_rounds 1 ?_
  rw [rounds_succ]
  go_wp2
  go_ret
  exact ⟨rfl, (Below.refl _ _).alloc (Nat.le_refl _) _⟩

set_option maxHeartbeats 4000000 in
theorem as_s40 (p t a : Addr) (w : World) :
    Calls Tryd.prog 34 #[.iface 71 (.pointer (some p)), .iface 42 (.pointer (some t)), .agg #[.pointer (some ⟨12, 42, none⟩), .pointer (some a), .int .u64 150], .iface 83 (.agg #[.pointer (some ⟨12, 40, none⟩)])] w
      fun ev w' => ev = .returned (.bool false) ∧ Below w.heap.size w w' := by
  have h29 := @run_callFunc_extern Tryd.prog 29 _ ReflectliteType.typeOf Tryd.func29 (by kernel_rfl) (by kernel_rfl) (by kernel_rfl) (by kernel_rfl)
  have h70 := @run_callFunc_extern Tryd.prog 70 _ (ReflectliteType.relation "AssignableTo" ReflectliteType.assignableTo) Tryd.func70 (by kernel_rfl) (by kernel_rfl) (by kernel_rfl) (by kernel_rfl)
  have t1 := Tryd.typeOf71
  have t2 := Tryd.methodAssignableTo
  have t3 := Tryd.assign71_40
  have t4 := Tryd.noAs71
  have t5 := Tryd.noUnwrapE
  have t6 := Tryd.noUnwraps71
  go_enter Tryd.func34, Tryd.ntmps34
  go_wp2
  refine wp_loop_rounds 1 ?_
  rw [rounds_succ]
  go_wp2
  go_ret
  exact ⟨rfl, (Below.refl _ _).alloc (Nat.le_refl _) _⟩

theorem lt_of_cell {W : World} {a : Addr} {v : Value} (h : W.cell? a = some v) : a.block < W.heap.size := by
  rcases Nat.lt_or_ge a.block W.heap.size with h' | h'
  · exact h'
  · simp [World.cell?, Array.getElem?_eq_none h'] at h

set_option maxHeartbeats 4000000 in
/-- .. at a joinError: the target gets it. -/
theorem as_j89 (p : Addr) (t a : Nat) (old : Value) (w : World) (ha : w.cell? ⟨a, 0, none⟩ = some (.pointer (some ⟨t, 0, none⟩))) (ht : w.cell? ⟨t, 0, none⟩ = some old) (hf : w.frozen? ⟨t, 0, none⟩ = false) :
    Calls Tryd.prog 34 #[.iface 75 (.pointer (some p)), .iface 96 (.pointer (some ⟨t, 0, none⟩)), .agg #[.pointer (some ⟨12, 96, none⟩), .pointer (some ⟨a, 0, none⟩), .int .u64 150], .iface 83 (.agg #[.pointer (some ⟨12, 89, none⟩)])] w
      fun ev w' => ev = .returned (.bool true) ∧ Below w.heap.size (w.setCell ⟨t, 0, none⟩ (.iface 75 (.pointer (some p)))) w' := by
  have h29 := @run_callFunc_extern Tryd.prog 29 _ ReflectliteType.typeOf Tryd.func29 (by kernel_rfl) (by kernel_rfl) (by kernel_rfl) (by kernel_rfl)
  have h70 := @run_callFunc_extern Tryd.prog 70 _ (ReflectliteType.relation "AssignableTo" ReflectliteType.assignableTo) Tryd.func70 (by kernel_rfl) (by kernel_rfl) (by kernel_rfl) (by kernel_rfl)
  have h31 := @run_callFunc_extern Tryd.prog 31 _ (fun args => ReflectliteValue.unpack (args.getD 0 (.tuple #[]))) Tryd.func31 (by kernel_rfl) (by kernel_rfl) (by kernel_rfl) (by kernel_rfl)
  have h42 := @run_callFunc_extern Tryd.prog 42 _ (ReflectliteValue.method (ReflectliteValue.valueError "reflectlite.Value.Elem" 0) ReflectliteValue.elem) Tryd.func42 (by kernel_rfl) (by kernel_rfl) (by kernel_rfl) (by kernel_rfl)
  have h43 := @run_callFunc_extern Tryd.prog 43 _ ReflectliteValue.set Tryd.func43 (by kernel_rfl) (by kernel_rfl) (by kernel_rfl) (by kernel_rfl)
  have t1 := Tryd.typeOf75
  have t2 := Tryd.methodAssignableTo
  have t3 := Tryd.assign75_89
  have t4 := Tryd.valueOf75
  have la := lt_of_cell ha
  have lt := lt_of_cell ht
  have el := Tryd.elemV96 ⟨a, 0, none⟩ ⟨t, 0, none⟩ (w.alloc (.cells #[.pointer (some ⟨12, 96, none⟩), .pointer (some ⟨a, 0, none⟩), .int .u64 150] 64)) (by rw [World.cell?_alloc_lt _ _ _ la]; exact ha)
  have st := Tryd.set89 ⟨t, 0, none⟩ ⟨w.heap.size + 1, 0, none⟩ p old ((w.alloc (.cells #[.pointer (some ⟨12, 96, none⟩), .pointer (some ⟨a, 0, none⟩), .int .u64 150] 64)).alloc (.cells #[.pointer (some p)] 75))
    (by rw [World.cell?_alloc_at _ _ _ _ (by simp)]; rfl)
    (by rw [World.cell?_alloc_lt _ _ _ (by simp at lt ⊢; omega), World.cell?_alloc_lt _ _ _ lt]; exact ht)
    (by rw [World.frozen?_alloc_old _ _ _ (by simp at lt ⊢; omega), World.frozen?_alloc_old _ _ _ (Nat.ne_of_lt lt)]; exact hf)
  go_enter Tryd.func34, Tryd.ntmps34
  go_wp2
  refine wp_loop_rounds 1 ?_
  rw [rounds_succ]
  go_wp2
  go_ret
  exact ⟨rfl, (((Below.refl _ _).alloc (by simp) _).alloc (by simp) _)⟩

set_option maxHeartbeats 4000000 in
theorem as_w40 (p : Addr) (t a : Nat) (old : Value) (w : World) (ha : w.cell? ⟨a, 0, none⟩ = some (.pointer (some ⟨t, 0, none⟩))) (ht : w.cell? ⟨t, 0, none⟩ = some old) (hf : w.frozen? ⟨t, 0, none⟩ = false) :
    Calls Tryd.prog 34 #[.iface 40 (.pointer (some p)), .iface 42 (.pointer (some ⟨t, 0, none⟩)), .agg #[.pointer (some ⟨12, 42, none⟩), .pointer (some ⟨a, 0, none⟩), .int .u64 150], .iface 83 (.agg #[.pointer (some ⟨12, 40, none⟩)])] w
      fun ev w' => ev = .returned (.bool true) ∧ Below w.heap.size (w.setCell ⟨t, 0, none⟩ (.pointer (some p))) w' := by
  have h29 := @run_callFunc_extern Tryd.prog 29 _ ReflectliteType.typeOf Tryd.func29 (by kernel_rfl) (by kernel_rfl) (by kernel_rfl) (by kernel_rfl)
  have h70 := @run_callFunc_extern Tryd.prog 70 _ (ReflectliteType.relation "AssignableTo" ReflectliteType.assignableTo) Tryd.func70 (by kernel_rfl) (by kernel_rfl) (by kernel_rfl) (by kernel_rfl)
  have h31 := @run_callFunc_extern Tryd.prog 31 _ (fun args => ReflectliteValue.unpack (args.getD 0 (.tuple #[]))) Tryd.func31 (by kernel_rfl) (by kernel_rfl) (by kernel_rfl) (by kernel_rfl)
  have h42 := @run_callFunc_extern Tryd.prog 42 _ (ReflectliteValue.method (ReflectliteValue.valueError "reflectlite.Value.Elem" 0) ReflectliteValue.elem) Tryd.func42 (by kernel_rfl) (by kernel_rfl) (by kernel_rfl) (by kernel_rfl)
  have h43 := @run_callFunc_extern Tryd.prog 43 _ ReflectliteValue.set Tryd.func43 (by kernel_rfl) (by kernel_rfl) (by kernel_rfl) (by kernel_rfl)
  have t1 := Tryd.typeOf40
  have t2 := Tryd.methodAssignableTo
  have t3 := Tryd.assign40_40
  have t4 := Tryd.valueOf40
  have la := lt_of_cell ha
  have lt := lt_of_cell ht
  have el := Tryd.elemV42 ⟨a, 0, none⟩ ⟨t, 0, none⟩ (w.alloc (.cells #[.pointer (some ⟨12, 42, none⟩), .pointer (some ⟨a, 0, none⟩), .int .u64 150] 64)) (by rw [World.cell?_alloc_lt _ _ _ la]; exact ha)
  have st := Tryd.set40 ⟨t, 0, none⟩ ⟨w.heap.size + 1, 0, none⟩ p old ((w.alloc (.cells #[.pointer (some ⟨12, 42, none⟩), .pointer (some ⟨a, 0, none⟩), .int .u64 150] 64)).alloc (.cells #[.pointer (some p)] 40))
    (by rw [World.cell?_alloc_at _ _ _ _ (by simp)]; rfl)
    (by rw [World.cell?_alloc_lt _ _ _ (by simp at lt ⊢; omega), World.cell?_alloc_lt _ _ _ lt]; exact ht)
    (by rw [World.frozen?_alloc_old _ _ _ (by simp at lt ⊢; omega), World.frozen?_alloc_old _ _ _ (Nat.ne_of_lt lt)]; exact hf)
  go_enter Tryd.func34, Tryd.ntmps34
  go_wp2
  refine wp_loop_rounds 1 ?_
  rw [rounds_succ]
  go_wp2
  go_ret
  exact ⟨rfl, (((Below.refl _ _).alloc (by simp) _).alloc (by simp) _)⟩
end Go.Proofs.YtdojgjainfelcaaDoor
