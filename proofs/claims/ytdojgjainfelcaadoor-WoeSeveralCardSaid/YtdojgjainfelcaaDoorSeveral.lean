import Derived.Test.YtdojgjainfelcaaDoorStrange
namespace Go.Proofs.YtdojgjainfelcaaDoor
open Go.RowKit Go.Extern.Stop Go.Stop Go.Extern

theorem info25 : (Tryd.prog.info? 25).map (fun i => (i.zero, i.size, i.bytes)) = some (some .nilIface, 1, 16) := by kernel_rfl

theorem make2 (W : World) : (Instr.makeSlice 74 (.int .i64 0) (.int .i64 2)).run Tryd.prog W = .ok (.slice (some ⟨W.heap.size, 0, none⟩) 0 2) (W.alloc (.cells #[.nilIface, .nilIface] 25)) := by kernel_rfl

/-- errors.Join of two errors. -/
def JoinPost (W : World) (v0 v1 : Value) (e : Ending) (w' : World) : Prop :=
  ∃ j bl, e = .returned (.iface 75 (.pointer (some ⟨j, 0, none⟩))) ∧ Join2 w' j bl v0 v1 ∧ Below W.heap.size W w'

set_option maxRecDepth 100000 in
set_option maxHeartbeats 4000000 in
theorem Join_two (b : Nat) (T0 T1 : TypeId) (x0 x1 : Value) (W : World) (c0 : W.cell? ⟨b, 0, none⟩ = some (.iface T0 x0)) (c1 : W.cell? ⟨b, 1, none⟩ = some (.iface T1 x1)) :
    Calls Tryd.prog 23 #[.slice (some ⟨b, 0, none⟩) 2 2] W (JoinPost W (.iface T0 x0) (.iface T1 x1)) := by
  obtain ⟨i0, hi, hz0, hz1, hz2⟩ := info_parts info25
  have lb : b < W.heap.size := lt_of_cell c0
  have hm := make2
  have lb1 : b < W.heap.size + 1 := by omega
  have lb2 : b < W.heap.size + 1 + 1 := by omega
  have lb3 : b < W.heap.size + 1 + 1 + 1 := by omega
  go_enter Tryd.func23, Tryd.ntmps23
  go_wp2
  refine wp_loop_rounds 3 ?_
  rw [rounds_succ]
  go_wp2
  rw [rounds_succ]
  go_wp2
  rw [rounds_succ]
  go_wp2
  refine wp_loop_rounds 3 ?_
  rw [rounds_succ]
  go_wp2
  rw [rounds_succ]
  go_wp2
  rw [rounds_succ]
  go_wp2
  go_ret
  have b1 : Below W.heap.size W (W.alloc (.cells #[.iface T0 x0, .iface T1 x1] 25)) := (Below.refl W.heap.size W).alloc (Nat.le_refl _) _
  have b2 := b1.alloc b1.size (.cells #[.slice (some ⟨W.heap.size, 0, none⟩) 2 2] 77)
  have b3 := b2.alloc b2.size (.cells #[.iface T0 x0] 25)
  have b4 := b3.alloc b3.size (.cells #[.iface T1 x1] 25)
  exact ⟨W.heap.size + 1, W.heap.size, rfl, ⟨by simp [go_sem], by simp [go_sem], by simp [go_sem]⟩, b4⟩

set_option maxRecDepth 100000 in
set_option maxHeartbeats 4000000 in
/-- errors.is at a joinError of two. -/
theorem is_join (j bl : Nat) (v0 v1 : Value) (b : Addr) (r0 r1 : Bool) (W : World) (h : Join2 W j bl v0 v1) (h0 : IsC W v0 b r0) (h1 : IsC W v1 b r1) :
    Calls Tryd.prog 30 #[.iface 75 (.pointer (some ⟨j, 0, none⟩)), .iface 71 (.pointer (some b)), .bool true] W fun e w' => e = .returned (.bool (r0 || r1)) ∧ W = w' := by
  obtain ⟨⟨T0, x0, rfl⟩, h0⟩ := h0
  obtain ⟨⟨T1, x1, rfl⟩, h1⟩ := h1
  have e1 := eq_j
  have n1 := Tryd.noIs75
  have n2 := Tryd.noUnwrapJ
  have n3 := Tryd.hasUnwraps75
  have n4 := Tryd.methodUnwrapJ
  obtain ⟨lj, c0, c1⟩ := h
  have HU : Hid _ := join_unwrap j ⟨bl, 0, none⟩ 2 2 W lj
  have K0 : Hid (Calls Tryd.prog 30 #[.iface T0 x0, .iface 71 (.pointer (some b)), .bool true] W fun e w' => e = .returned (.bool r0) ∧ W = w') := h0
  have K1 : Hid (Calls Tryd.prog 30 #[.iface T1 x1, .iface 71 (.pointer (some b)), .bool true] W fun e w' => e = .returned (.bool r1) ∧ W = w') := h1
  clear h0 h1
  cases r0 <;> cases r1
  all_goals
    go_enter Tryd.func30, Tryd.ntmps30
    go_wp2
    refine wp_loop_rounds 1 ?_
    rw [rounds_succ]
    go_wp2_with (go_at_call 68; refine (join_unwrap j ⟨bl, 0, none⟩ 2 2 _ lj).mono ?_; rintro e w1 ⟨rfl, rfl⟩)
    refine wp_loop_rounds 3 ?_
    rw [rounds_succ]
    go_wp2_with (go_at_call 30; refine K0.out.mono ?_; rintro e w1 ⟨rfl, rfl⟩)
  · rw [rounds_succ]
    go_wp2_with (go_at_call 30; refine K1.out.mono ?_; rintro e w1 ⟨rfl, rfl⟩)
    rw [rounds_succ]
    go_wp2
    go_ret
    exact ⟨rfl, rfl⟩
  · rw [rounds_succ]
    go_wp2_with (go_at_call 30; refine K1.out.mono ?_; rintro e w1 ⟨rfl, rfl⟩)
    go_ret
    exact ⟨rfl, rfl⟩
  · go_ret
    exact ⟨rfl, rfl⟩
  · go_ret
    exact ⟨rfl, rfl⟩

set_option maxRecDepth 100000 in
set_option maxHeartbeats 4000000 in
/-- errors.is at a Woe around a joinError of two. -/
theorem is_wjoin (f j bl : Nat) (v0 v1 : Value) (b : Addr) (r0 r1 : Bool) (W : World) (hf : W.cell? ⟨f, 1, none⟩ = some (.iface 75 (.pointer (some ⟨j, 0, none⟩)))) (h : Join2 W j bl v0 v1) (h0 : IsC W v0 b r0) (h1 : IsC W v1 b r1) :
    Calls Tryd.prog 30 #[.iface 40 (.pointer (some ⟨f, 0, none⟩)), .iface 71 (.pointer (some b)), .bool true] W fun e w' => e = .returned (.bool (r0 || r1)) ∧ W = w' := by
  obtain ⟨⟨T0, x0, rfl⟩, h0⟩ := h0
  obtain ⟨⟨T1, x1, rfl⟩, h1⟩ := h1
  have e1 := eq_j
  have e2 := eq_w
  have n1 := Tryd.noIs75
  have n2 := Tryd.noUnwrapJ
  have n3 := Tryd.hasUnwraps75
  have n4 := Tryd.methodUnwrapJ
  have n5 := Tryd.noIs40
  have n6 := Tryd.hasUnwrapW
  have n7 := Tryd.methodUnwrapW
  obtain ⟨lj, c0, c1⟩ := h
  have K0 : Hid (Calls Tryd.prog 30 #[.iface T0 x0, .iface 71 (.pointer (some b)), .bool true] W fun e w' => e = .returned (.bool r0) ∧ W = w') := h0
  have K1 : Hid (Calls Tryd.prog 30 #[.iface T1 x1, .iface 71 (.pointer (some b)), .bool true] W fun e w' => e = .returned (.bool r1) ∧ W = w') := h1
  clear h0 h1
  cases r0 <;> cases r1
  all_goals
    go_enter Tryd.func30, Tryd.ntmps30
    go_wp2
    refine wp_loop_rounds 2 ?_
    rw [rounds_succ]
    go_wp2_with (go_at_call 21; refine (woe_unwrap _ _ _ hf).mono ?_; rintro e w1 ⟨rfl, rfl⟩)
    rw [rounds_succ]
    go_wp2_with (go_at_call 68; refine (join_unwrap j ⟨bl, 0, none⟩ 2 2 _ lj).mono ?_; rintro e w1 ⟨rfl, rfl⟩)
    refine wp_loop_rounds 3 ?_
    rw [rounds_succ]
    go_wp2_with (go_at_call 30; refine K0.out.mono ?_; rintro e w1 ⟨rfl, rfl⟩)
  · rw [rounds_succ]
    go_wp2_with (go_at_call 30; refine K1.out.mono ?_; rintro e w1 ⟨rfl, rfl⟩)
    rw [rounds_succ]
    go_wp2
    go_ret
    exact ⟨rfl, rfl⟩
  · rw [rounds_succ]
    go_wp2_with (go_at_call 30; refine K1.out.mono ?_; rintro e w1 ⟨rfl, rfl⟩)
    go_ret
    exact ⟨rfl, rfl⟩
  · go_ret
    exact ⟨rfl, rfl⟩
  · go_ret
    exact ⟨rfl, rfl⟩

/-- A joinError of two chains, in world W. -/
structure J2 (W : World) (j : Nat) (a0 a1 : Addr) : Prop where
  ex : ∃ bl v0 v1 ps0 ps1, Join2 W j bl v0 v1 ∧ Ch W (.iface 71 (.pointer (some a0))) ps0 v0 ∧ ps0.length ≤ 60 ∧ Ch W (.iface 71 (.pointer (some a1))) ps1 v1 ∧ ps1.length ≤ 60
  b0 : Blk W a0
  b1 : Blk W a1
theorem J2.keep {W w' : World} {j : Nat} {a0 a1 : Addr} (h : J2 W j a0 a1) (hb : Below W.heap.size W w') : J2 w' j a0 a1 := by
  obtain ⟨⟨bl, v0, v1, ps0, ps1, h1, h2, h3, h4, h5⟩, k0, k1⟩ := h
  exact ⟨⟨bl, v0, v1, ps0, ps1, h1.keep hb, h2.keep hb, h3, h4.keep hb, h5⟩, k0.keep hb, k1.keep hb⟩
theorem J2.is {W : World} {j : Nat} {a0 a1 b : Addr} (h : J2 W j a0 a1) (hb : Blk W b) : IsC W (.iface 75 (.pointer (some ⟨j, 0, none⟩))) b (decide (a0 = b) || decide (a1 = b)) := by
  obtain ⟨⟨bl, v0, v1, ps0, ps1, h1, h2, h3, h4, h5⟩, k0, k1⟩ := h
  exact ⟨⟨_, _, rfl⟩, is_join j bl v0 v1 b _ _ W h1 (h2.is k0 hb) (h4.is k1 hb)⟩
theorem J2.wis {W : World} {f j : Nat} {a0 a1 b : Addr} (h : J2 W j a0 a1) (hf : W.cell? ⟨f, 1, none⟩ = some (.iface 75 (.pointer (some ⟨j, 0, none⟩)))) (hb : Blk W b) : IsC W (.iface 40 (.pointer (some ⟨f, 0, none⟩))) b (decide (a0 = b) || decide (a1 = b)) := by
  obtain ⟨⟨bl, v0, v1, ps0, ps1, h1, h2, h3, h4, h5⟩, k0, k1⟩ := h
  exact ⟨⟨_, _, rfl⟩, is_wjoin f j bl v0 v1 b _ _ W hf h1 (h2.is k0 hb) (h4.is k1 hb)⟩
theorem J2.endsAt {W : World} {j : Nat} {a0 a1 : Addr} (h : J2 W j a0 a1) : EndsAt 64 W (.iface 75 (.pointer (some ⟨j, 0, none⟩))) := by
  obtain ⟨⟨bl, v0, v1, ps0, ps1, h1, h2, h3, h4, h5⟩, k0, k1⟩ := h
  exact ends_at_join W j bl _ _ v0 v1 a0 a1 ps0 ps1 h1 h2 (Nat.le_refl _) h3 h4 (Nat.le_refl _) h5
theorem J2.chends {W : World} {j : Nat} {a0 a1 : Addr} {ps : List Int} {v : Value} (h : J2 W j a0 a1) (hc : Ch W (.iface 75 (.pointer (some ⟨j, 0, none⟩))) ps v) (hl : ps.length ≤ 100) : Ends W v :=
  ⟨hc.shape, fun w1 hb => endless_gen 64 _ w1 _ ps v 1048576 (by omega) (Nat.le_refl _) (hc.keep hb) (Nat.le_refl _) (h.keep hb).endsAt⟩
end Go.Proofs.YtdojgjainfelcaaDoor
