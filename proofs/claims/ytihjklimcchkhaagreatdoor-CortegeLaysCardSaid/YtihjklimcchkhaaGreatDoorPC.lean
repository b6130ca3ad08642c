/- pile: Next does what the plain job does. A template (fill.py). -/
/- pile: can, Start. A template (fill.py). -/
import Derived.Test.YtihjklimcchkhaaGreatDoorPB
namespace Go.Proofs.YtihjklimcchkhaaGreatDoor
open Go.RowKit Go.Extern.Stop Go.Stop Go.Extern Go.Sort
/-- What a job must be for a contract to speak of its next step. -/
def JOk (j : Jb) : Prop :=
  (j.op.kind = 1 ∧ (j.done = 0 ∨ j.done = 1 ∨ j.done = 6 ∨ j.done = 2 ∨ j.done = 3 ∨ (j.done = 4 ∧ wrap64 (j.top.tag + 1) = j.top.tag + 1))) ∨
  (j.op.kind = 2 ∧ (j.done = 6 ∨ j.done = 0 ∨ j.done = 3 ∨ (j.done = 5 ∧ wrap64 (j.top.tag + 1) = j.top.tag + 1) ∨ j.done = 7 ∨ j.done = 8)) ∨
  (j.op.kind = 3 ∧ (j.done = 0 ∨ j.done = 3 ∨ j.done = 7))
section
variable {w w' : World} {b : Nat} {j j' : Jb}
theorem push_is (h : JAt w b j) (x : Wd × Bool) (hd : j.done = 0 ∨ j.done = 1 ∨ j.done = 6 ∨ j.done = 2 ∨ j.done = 3 ∨ (j.done = 4 ∧ wrap64 (j.top.tag + 1) = j.top.tag + 1)) :
    Calls Tryz.prog 98 #[.pointer (some ⟨b, 0, none⟩), rpv x] w (JLeaf w b (j.push x)) := by
  rcases hd with hd | hd | hd | hd | hd | ⟨hd, ht⟩
  · rw [show j.push x = j.ask { zc with kind := 8 } 1 by unfold Jb.push; rw [if_pos hd]]
    exact push_begun h x hd
  · cases hx : x.2 with
    | true =>
      rw [show j.push x = (j.setNode x.1).store (x.1.slot, x.1.gen, 1) (nw j.op.val) 2 by unfold Jb.push; rw [if_neg (by rw [hd]; decide), if_pos hd, if_pos hx]]
      exact push_given h x hd hx
    | false =>
      rw [show j.push x = j.end_ 4 0 by unfold Jb.push; rw [if_neg (by rw [hd]; decide), if_pos hd, if_neg (by rw [hx]; decide)]]
      exact push_full h x hd hx
  · cases hx : x.2 with
    | true =>
      rw [show j.push x = j.end_ 1 0 by unfold Jb.push; rw [if_neg (by rw [hd]; decide), if_neg (by rw [hd]; decide), if_pos hd, if_pos hx]]
      exact push_done h x hd hx
    | false =>
      rw [show j.push x = j.load (0, 0, 0) 3 by unfold Jb.push; rw [if_neg (by rw [hd]; decide), if_neg (by rw [hd]; decide), if_pos hd, if_neg (by rw [hx]; decide)]]
      exact push_slow h x hd hx
  · rw [show j.push x = j.load (0, 0, 0) 3 by unfold Jb.push; rw [if_neg (by rw [hd]; decide), if_neg (by rw [hd]; decide), if_neg (by rw [hd]; decide), if_pos hd]]
    exact push_filled h x hd
  · rw [show j.push x = (j.setTop x.1).store (j.node.slot, j.node.gen, 2) x.1.ref 4 by unfold Jb.push; rw [if_neg (by rw [hd]; decide), if_neg (by rw [hd]; decide), if_neg (by rw [hd]; decide), if_neg (by rw [hd]; decide), if_pos hd]]
    exact push_looked h x hd
  · rw [show j.push x = j.swapTop j.node by unfold Jb.push; rw [if_neg (by rw [hd]; decide), if_neg (by rw [hd]; decide), if_neg (by rw [hd]; decide), if_neg (by rw [hd]; decide), if_neg (by rw [hd]; decide), if_pos hd]]
    exact push_linked h x hd ht
theorem pop_is (h : JAt w b j) (x : Wd × Bool) (hd : j.done = 6 ∨ j.done = 0 ∨ j.done = 3 ∨ (j.done = 5 ∧ wrap64 (j.top.tag + 1) = j.top.tag + 1) ∨ j.done = 7 ∨ j.done = 8) :
    Calls Tryz.prog 99 #[.pointer (some ⟨b, 0, none⟩), rpv x] w (JLeaf w b (j.pop x)) := by
  rcases hd with hd | hd | hd | ⟨hd, ht⟩ | hd | hd
  · cases hx : x.2 with
    | true =>
      rw [show j.pop x = j.load (j.top.slot, j.top.gen, 1) 7 by unfold Jb.pop; rw [if_pos hd, if_pos hx]]
      exact pop_quick h x hd hx
    | false =>
      rw [show j.pop x = j.protectTop by unfold Jb.pop; rw [if_pos hd, if_neg (by rw [hx]; decide)]]
      exact pop_slow h x hd hx
  · rw [show j.pop x = j.protectTop by unfold Jb.pop; rw [if_neg (by rw [hd]; decide), if_pos hd]]
    exact pop_begun h x hd
  · by_cases hx : x.1.slot = 0
    · rw [show j.pop x = (j.setTop x.1).end_ 2 0 by unfold Jb.pop; rw [if_neg (by rw [hd]; decide), if_neg (by rw [hd]; decide), if_pos hd, if_pos (by unfold Wd.nil; simp [hx])]]
      exact pop_nil h x hd hx
    · rw [show j.pop x = (j.setTop x.1).load (x.1.slot, x.1.gen, 2) 5 by unfold Jb.pop; rw [if_neg (by rw [hd]; decide), if_neg (by rw [hd]; decide), if_pos hd, if_neg (by unfold Wd.nil; simp [hx])]]
      exact pop_looked h x hd hx
  · rw [show j.pop x = j.swapTop x.1 by unfold Jb.pop; rw [if_neg (by rw [hd]; decide), if_neg (by rw [hd]; decide), if_neg (by rw [hd]; decide), if_pos hd]]
    exact pop_followed h x hd ht
  · rw [show j.pop x = (j.setVal x.1.num).ask { zc with kind := 10, old := j.top } 8 by unfold Jb.pop; rw [if_neg (by rw [hd]; decide), if_neg (by rw [hd]; decide), if_neg (by rw [hd]; decide), if_neg (by rw [hd]; decide), if_pos hd]]
    exact pop_read h x hd
  · rw [show j.pop x = j.end_ 1 j.val by unfold Jb.pop; rw [if_neg (by rw [hd]; decide), if_neg (by rw [hd]; decide), if_neg (by rw [hd]; decide), if_neg (by rw [hd]; decide), if_neg (by rw [hd]; decide), if_pos hd]]
    exact pop_over h x hd
theorem peek_is (h : JAt w b j) (x : Wd × Bool) (hd : j.done = 0 ∨ j.done = 3 ∨ j.done = 7) :
    Calls Tryz.prog 100 #[.pointer (some ⟨b, 0, none⟩), rpv x] w (JLeaf w b (j.peek x)) := by
  rcases hd with hd | hd | hd
  · rw [show j.peek x = j.protectTop by unfold Jb.peek; rw [if_pos hd]]
    exact peek_begun h x hd
  · by_cases hx : x.1.slot = 0
    · rw [show j.peek x = j.end_ 2 0 by unfold Jb.peek; rw [if_neg (by rw [hd]; decide), if_pos hd, if_pos (by unfold Wd.nil; simp [hx])]]
      exact peek_nil h x hd hx
    · rw [show j.peek x = j.load (x.1.slot, x.1.gen, 1) 7 by unfold Jb.peek; rw [if_neg (by rw [hd]; decide), if_pos hd, if_neg (by unfold Wd.nil; simp [hx])]]
      exact peek_looked h x hd hx
  · rw [show j.peek x = j.end_ 1 x.1.num by unfold Jb.peek; rw [if_neg (by rw [hd]; decide), if_neg (by rw [hd]; decide), if_pos hd]]
    exact peek_over h x hd
theorem jnext_is (h : JAt w b j) (x : Wd × Bool) (ok : JOk j) :
    Calls Tryz.prog 69 #[.pointer (some ⟨b, 0, none⟩), rpv x] w (JNext w b (j.next x)) := by
  rcases ok with ⟨hk, hd⟩ | ⟨hk, hd⟩ | ⟨hk, hd⟩
  · rw [show j.next x = j.push x by unfold Jb.next; rw [if_pos hk]]
    exact jnext_push h x hk fun W h' => push_is h' x hd
  · rw [show j.next x = j.pop x by unfold Jb.next; rw [if_neg (by rw [hk]; decide), if_pos hk]]
    exact jnext_pop h x hk fun W h' => pop_is h' x hd
  · rw [show j.next x = j.peek x by unfold Jb.next; rw [if_neg (by rw [hk]; decide), if_neg (by rw [hk]; decide), if_pos hk]]
    exact jnext_peek h x hk fun W h' => peek_is h' x hd
end
end Go.Proofs.YtihjklimcchkhaaGreatDoor

namespace Go.Proofs.YtihjklimcchkhaaGreatDoor
open Go.RowKit Go.Extern.Stop Go.Stop Go.Extern Go.Sort
def opv (o : Po) : Value := .agg #[.int .i64 o.kind, .int .i64 o.key, .int .i64 o.val, .int .i64 o.tall]
section
variable {w w' : World} {b : Nat} {j j' : Jb}
set_option maxRecDepth 100000 in
set_option maxHeartbeats 1000000 in
theorem pcan_push (v : Int) (hv : 0 ≤ v ∧ v ≤ 1000000) (w : World) :
    Calls Tryz.prog 97 #[.agg #[.int .i64 1, .int .i64 0, .int .i64 v, .int .i64 0]] w fun e w' => e = .returned (.bool true) ∧ Below w.heap.size w w' := by
  have h1 : ¬ v < 0 := by omega
  have h2 : ¬ 1000000 < v := by omega
  go_enter Tryz.func97, Tryz.ntmps97
  go_wp2_with fail
  go_ret
  exact ⟨rfl, below_alloc (Below.refl _ _) _⟩
set_option maxRecDepth 100000 in
set_option maxHeartbeats 1000000 in
theorem pcan_else (k : Int) (hk : k = 2 ∨ k = 3) (w : World) :
    Calls Tryz.prog 97 #[.agg #[.int .i64 k, .int .i64 0, .int .i64 0, .int .i64 0]] w fun e w' => e = .returned (.bool true) ∧ Below w.heap.size w w' := by
  rcases hk with rfl | rfl
  all_goals
    go_enter Tryz.func97, Tryz.ntmps97
    go_wp2_with fail
    go_ret
    exact ⟨rfl, below_alloc (Below.refl _ _) _⟩
/-- An operation that can be. -/
def Po.can (o : Po) : Prop := o.key = 0 ∧ o.tall = 0 ∧ ((o.kind = 1 ∧ (0 ≤ o.val ∧ o.val ≤ 1000000)) ∨ ((o.kind = 2 ∨ o.kind = 3) ∧ o.val = 0))
theorem pcan_is (o : Po) (ho : o.can) (w : World) : Calls Tryz.prog 97 #[opv o] w fun e w' => e = .returned (.bool true) ∧ Below w.heap.size w w' := by
  obtain ⟨kind, key, val, tall⟩ := o
  obtain ⟨h1, h2, h3⟩ := ho
  simp only at h1 h2 h3
  subst h1 h2
  rcases h3 with ⟨h3, h4⟩ | ⟨h3, h4⟩
  · subst h3
    exact pcan_push val h4 w
  · subst h4
    exact pcan_else kind h3 w
set_option maxRecDepth 100000 in
set_option maxHeartbeats 1000000 in
theorem Start_is (o : Po) (ho : o.can) (w : World) :
    Calls Tryz.prog 68 #[opv o] w fun e w' => ∃ b, e = .returned (.tuple #[.pointer (some ⟨b, 0, none⟩), .nilIface]) ∧ w.heap.size ≤ b ∧ Hid (JAt w' b (Jb.new o)) ∧ Hid (Below w.heap.size w w') := by
  have HC := Lib.hid (pcan_is o ho)
  unfold opv at HC
  clear ho
  unfold opv
  go_enter Tryz.func68, Tryz.ntmps68
  go_wp2_with fail
  refine (HC.out _).mono ?_
  rintro e w1 ⟨rfl, hb⟩
  have hX := (BlkW.new w 78 #[.int .i64 o.kind, .int .i64 o.key, .int .i64 o.val, .int .i64 o.tall]).below hb
  have HB := Lib.hid (below_trans (below_alloc (Below.refl _ _) _) hb)
  clear hb
  have hz := hX.lt
  have b0 : w1.cell? ⟨w.heap.size, 0, none⟩ = some (.int .i64 o.kind) := hX.cell 0
  have b1 : w1.cell? ⟨w.heap.size, 1, none⟩ = some (.int .i64 o.key) := hX.cell 1
  have b2 : w1.cell? ⟨w.heap.size, 2, none⟩ = some (.int .i64 o.val) := hX.cell 2
  have b3 : w1.cell? ⟨w.heap.size, 3, none⟩ = some (.int .i64 o.tall) := hX.cell 3
  clear hX
  generalize w.heap.size = g at hz b0 b1 b2 b3 ⊢
  go_wp2_with fail
  exact bodyPost_ret (v := .tuple #[.pointer (some ⟨w1.heap.size, 0, none⟩), .nilIface]) (by simp [results, Tryz.results68, go_sem]) rfl ⟨w1.heap.size, rfl, HB.out.size, Lib.hid (BlkW.new w1 172 (jc (Jb.new o)).toArray), Lib.hid (below_trans HB.out (below_alloc (Below.refl _ _) _))⟩
end
end Go.Proofs.YtihjklimcchkhaaGreatDoor
