/- sieve.May; sieve.Good at a note that can be, and at none; slices that the call lays whole. A template (fill.py). -/
import Derived.Test.YtlhhjbjdinimjaaSg
namespace Go.Proofs.Ytlhhjbjdinimjaa
open Go.RowKit Go.Extern.Stop Go.Stop Go.Extern Go.Sort

theorem row_lit {α : Type} {c : α → List Value} {k : Nat} (hk : ∀ a, (c a).length = k) {w : World} {g cap : Nat} {t : TypeId} {xs : List α} (h : BlkW w g t (flat c xs).toArray) (hc : xs.length ≤ cap) : RowC c k w (.slice (some ⟨g, 0, none⟩) xs.length cap) xs :=
  .inr ⟨g, 0, cap, rfl, h.lt, hc, fun i hi j v hv => by
    have hj : j < k := by have := (List.getElem?_eq_some_iff.1 hv).1; rwa [hk] at this
    rw [Nat.zero_add, h.cell (i * k + j), List.getElem?_toArray, flat_at hk xs i j hi hj]
    exact hv⟩
def mayK (now : Int) (s : Sp) : Bool := s.is && (s.low != now)
theorem may_in (now : Int) (s : Sp) (b : Nat) (w : World) (h : BlkW w b 3 #[.int .i64 now]) : Calls Try.prog 30 #[sv s, .pointer (some ⟨b, 0, none⟩)] w fun e w' => e = .returned (.bool (mayK now s)) ∧ Below w.heap.size w w' := by
  have p0 := h.cell 0
  have z1 := h.lt
  clear h
  simp only [List.getElem?_toArray, List.getElem?_cons_zero] at p0
  unfold sv mayK
  obtain ⟨is, lo, hi⟩ := s
  cases is
  · go_enter Try.func30, Try.ntmps30
    go_wp2
    go_ret
    exact ⟨rfl, below_alloc (Below.refl _ _) _⟩
  · go_enter Try.func30, Try.ntmps30
    go_wp2
    go_ret
    exact ⟨by simp, below_alloc (Below.refl _ _) _⟩
theorem tells_may (now : Int) (b : Nat) (W : World) (h : BlkW W b 3 #[.int .i64 now]) : Tells 30 #[.pointer (some ⟨b, 0, none⟩)] sv (mayK now) W :=
  ⟨fun x w => by kernel_rfl, fun x w hb => may_in now x b w (h.below hb)⟩
theorem May_any (now : Int) (u : Value) (ks : List Sp) (W : World) (hu : RowC sc 3 W u ks) (hk : ks.length ≤ 200) :
    Calls Try.prog 19 #[.int .i64 now, u] W fun e w' => e = .returned (.bool (!(ks.any (mayK now)))) ∧ Below W.heap.size W w' := by
  have BX := Lib.hid (below_alloc (Below.refl W.heap.size W) (.cells #[.int .i64 now] 3))
  have C := Lib.hid (hasS 30 _ _ _ u ks (hu.keep BX.out) hk (tells_may now W.heap.size _ (BlkW.new W _ _)))
  obtain ⟨ao, cp, rfl⟩ := hu.slice
  clear hu
  go_enter Try.func19, Try.ntmps19
  go_wp2_with fail
  refine C.out.mono ?_
  rintro e w1 ⟨rfl, hb⟩
  have B1 := Lib.hid (below_trans BX.out hb)
  clear hb
  go_wp2
  go_ret
  exact ⟨rfl, B1.out⟩
theorem re_of {f : FuncId} {args : Array Value} {v : Value} (h : ∀ W : World, Calls Try.prog f args W fun e w' => e = .returned v ∧ Below W.heap.size W w') (W : World) (d : Nat) (os : Array Obj) :
    Calls Try.prog f args (grow (redrawn W d) os) fun e w'' => e = .returned v ∧ ∃ p : Regrown, w'' = grow (redrawn W p.d) p.os := Calls.regrown_of (h _)
theorem guardW : Try.prog.eqGuardType Try.prog.depth 37 = false := by kernel_rfl
set_option maxRecDepth 100000 in
set_option maxHeartbeats 2000000 in
theorem Good_yes (W : World) : Calls Try.prog 20 #[nv ⟨⟨1, 1, 0, 0, false⟩, 0, 3⟩] W fun e w' => e = .returned (.bool true) ∧ Below W.heap.size W w' := by
  unfold nv
  dsimp only
  have C1 := Lib.hid (fun W => re_of (fun W => Ref_any 1 1 0 0 false W) W)
  have C2 := Lib.hid (fun W => re_of (fun W => Good_any 1 1 0 0 false W) W)
  have C3 := Lib.hid (fun W => re_of (fun W => Nil_any 1 1 0 0 false W) W)
  rw [show goodB 1 1 0 0 = true by decide] at C2
  rw [show ((1 : Int) == 0) = false by decide] at C3
  have k1 : ∀ w, (binOp .eql 37 (.agg #[.int .i64 1, .int .i64 1, .int .i64 0, .int .i64 0, .bool false]) (.agg #[.int .i64 1, .int .i64 1, .int .i64 0, .int .i64 0, .bool false])).run Try.prog w = .ok (.bool true) w := fun w => by rw [eq23]; rfl
  have k2 := heldW
  have k3 := guardW
  have B0 := Lib.hid (below_alloc (Below.refl W.heap.size W) (.cells #[.int .i64 1, .int .i64 1, .int .i64 0, .int .i64 0, .bool false, .int .i64 0, .int .i64 3] 39))
  have X0 := BlkW.new W 39 (nc ⟨⟨1, 1, 0, 0, false⟩, 0, 3⟩).toArray
  go_enter Try.func20, Try.ntmps20
  go_wp2_with fail
  generalize hX : W.alloc (.cells #[.int .i64 1, .int .i64 1, .int .i64 0, .int .i64 0, .bool false, .int .i64 0, .int .i64 3] 39) = X at B0 ⊢
  have X0 : BlkW X W.heap.size 39 (nc ⟨⟨1, 1, 0, 0, false⟩, 0, 3⟩).toArray := by rw [← hX]; exact X0
  have X7 := cell7 X0
  dsimp only at X7
  obtain ⟨a0, a1, a2, a3, a4, a5, a6⟩ := X7
  obtain ⟨q0, q1, q2, q3, q4, q5, q6⟩ : _ ∧ _ ∧ _ ∧ _ ∧ _ ∧ _ ∧ _ := ⟨cell_regrown a0, cell_regrown a1, cell_regrown a2, cell_regrown a3, cell_regrown a4, cell_regrown a5, cell_regrown a6⟩
  clear hX a0 a1 a2 a3 a4 a5 a6
  refine wp_region_quiet_below (by kernel_rfl) (by kernel_rfl) ?_
  repeat (go_big_quiet_step ((first | with_reducible exact C1.out _ _ _ | with_reducible exact C2.out _ _ _ | with_reducible exact C3.out _ _ _)))
  refine wpQuiet_nil ?_
  intro _ hw'
  obtain ⟨⟨dq, osq⟩, hw''⟩ := hw'
  subst hw''
  have HE := Lib.hid (below_trans B0.out (below_regrown X dq osq))
  clear q0 q1 q2 q3 q4 q5 q6
  go_wp2
  go_ret
  exact ⟨rfl, HE.out⟩
set_option maxRecDepth 100000 in
set_option maxHeartbeats 2000000 in
theorem Good_no (W : World) : Calls Try.prog 20 #[nv ⟨⟨0, 0, 0, 0, false⟩, 0, 0⟩] W fun e w' => e = .returned (.bool false) ∧ Below W.heap.size W w' := by
  unfold nv
  dsimp only
  have C1 := Lib.hid (fun W => re_of (fun W => Ref_any 0 0 0 0 false W) W)
  have C2 := Lib.hid (fun W => re_of (fun W => Good_any 0 0 0 0 false W) W)
  have C3 := Lib.hid (fun W => re_of (fun W => Nil_any 0 0 0 0 false W) W)
  rw [show goodB 0 0 0 0 = true by decide] at C2
  rw [show ((0 : Int) == 0) = true by decide] at C3
  have k1 : ∀ w, (binOp .eql 37 (.agg #[.int .i64 0, .int .i64 0, .int .i64 0, .int .i64 0, .bool false]) (.agg #[.int .i64 0, .int .i64 0, .int .i64 0, .int .i64 0, .bool false])).run Try.prog w = .ok (.bool true) w := fun w => by rw [eq23]; rfl
  have k2 := heldW
  have k3 := guardW
  have B0 := Lib.hid (below_alloc (Below.refl W.heap.size W) (.cells #[.int .i64 0, .int .i64 0, .int .i64 0, .int .i64 0, .bool false, .int .i64 0, .int .i64 0] 39))
  have X0 := BlkW.new W 39 (nc ⟨⟨0, 0, 0, 0, false⟩, 0, 0⟩).toArray
  go_enter Try.func20, Try.ntmps20
  go_wp2_with fail
  generalize hX : W.alloc (.cells #[.int .i64 0, .int .i64 0, .int .i64 0, .int .i64 0, .bool false, .int .i64 0, .int .i64 0] 39) = X at B0 ⊢
  have X0 : BlkW X W.heap.size 39 (nc ⟨⟨0, 0, 0, 0, false⟩, 0, 0⟩).toArray := by rw [← hX]; exact X0
  have X7 := cell7 X0
  dsimp only at X7
  obtain ⟨a0, a1, a2, a3, a4, a5, a6⟩ := X7
  obtain ⟨q0, q1, q2, q3, q4, q5, q6⟩ : _ ∧ _ ∧ _ ∧ _ ∧ _ ∧ _ ∧ _ := ⟨cell_regrown a0, cell_regrown a1, cell_regrown a2, cell_regrown a3, cell_regrown a4, cell_regrown a5, cell_regrown a6⟩
  clear hX a0 a1 a2 a3 a4 a5 a6
  refine wp_region_quiet_below (by kernel_rfl) (by kernel_rfl) ?_
  repeat (go_big_quiet_step ((first | with_reducible exact C1.out _ _ _ | with_reducible exact C2.out _ _ _ | with_reducible exact C3.out _ _ _)))
  refine wpQuiet_nil ?_
  intro _ hw'
  obtain ⟨⟨dq, osq⟩, hw''⟩ := hw'
  subst hw''
  have HE := Lib.hid (below_trans B0.out (below_regrown X dq osq))
  clear q0 q1 q2 q3 q4 q5 q6
  go_wp2
  go_ret
  exact ⟨rfl, HE.out⟩
end Go.Proofs.Ytlhhjbjdinimjaa
