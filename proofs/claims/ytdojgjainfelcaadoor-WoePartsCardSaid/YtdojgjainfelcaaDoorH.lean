import Derived.Test.YtdojgjainfelcaaDoorG
import Derived.LoopTactic
namespace Go.Proofs.YtdojgjainfelcaaDoor
open Go.RowKit Go.Extern.Stop Go.Stop Go.Extern

theorem Chain.keep {w w' : World} {t e : Value} {n B : Nat} {ps : List Int} (h : Chain w t n ps e) (hb : Below B w w') (hn : n ≤ B) : Chain w' t n ps e := by
  induction h with
  | base n => exact .base n
  | @woe n b p ps e T hlt h0 h1 hz r ih =>
    have hlB : b < B := by omega
    exact .woe hlt (by rw [hb.cell (p := ⟨b, 0, none⟩) hlB]; exact h0) (by rw [hb.cell (p := ⟨b, 1, none⟩) hlB]; exact h1) (by rw [hb.block _ hlB]; exact hz) (ih (by omega))

theorem any_nil (r : Int) (W : World) :
    Calls Tryd.prog 35 #[.slice none 0 0, .int .i64 r] W fun e w' => e = .returned (.bool false) ∧ Below W.heap.size W w' := by
  go_enter Tryd.func35, Tryd.ntmps35
  go_wp2
  refine wp_loop_rounds 1 ?_
  rw [rounds_succ]
  go_wp2
  go_ret
  exact ⟨rfl, Below.refl _ _⟩

/-- WHAT endless MEETS at the end t of a chain. -/
def EndsAt (m : Nat) (W : World) (t : Value) : Prop :=
  (∃ T x, t = .iface T x) ∧ deep t = 0 ∧ (∀ w1, Below W.heap.size W w1 → Calls Tryd.prog 28 #[t] w1 fun e w' => e = .returned .nilIface ∧ Below w1.heap.size w1 w') ∧
    ∃ s, (∀ w1, Below W.heap.size W w1 → Calls Tryd.prog 36 #[t] w1 fun e w' => e = .returned s ∧ Below w1.heap.size w1 w') ∧
      (∀ (r : Int) w1, Below W.heap.size W w1 → (m : Int) ≤ r → r ≤ 1048576 → Calls Tryd.prog 35 #[s, .int .i64 r] w1 fun e w' => e = .returned (.bool false) ∧ Below w1.heap.size w1 w')

set_option maxHeartbeats 2000000 in
theorem endless_gen (m : Nat) (t : Value) (W : World) (n : Nat) (ps : List Int) (v : Value) (room : Nat) (hroom : ps.length + m + 1 ≤ room) (hm : room ≤ 1048576) (hc : Chain W t n ps v) (hn : n ≤ W.heap.size) (ht : EndsAt m W t) :
    Calls Tryd.prog 24 #[v, .int .i64 room] W fun e w' => e = .returned (.bool false) ∧ Below W.heap.size W w' := by
  obtain ⟨hsh, hd, hI, s, hB, hA⟩ := ht
  have HI : Hid (∀ w1, Below W.heap.size W w1 → Calls Tryd.prog 28 #[t] w1 fun e w' => e = .returned .nilIface ∧ Below w1.heap.size w1 w') := hI
  have HB : Hid (∀ w1, Below W.heap.size W w1 → Calls Tryd.prog 36 #[t] w1 fun e w' => e = .returned s ∧ Below w1.heap.size w1 w') := hB
  have HA : Hid (∀ (r : Int) w1, Below W.heap.size W w1 → (m : Int) ≤ r → r ≤ 1048576 → Calls Tryd.prog 35 #[s, .int .i64 r] w1 fun e w' => e = .returned (.bool false) ∧ Below w1.heap.size w1 w') := hA
  have HC : Hid (Chain W t n ps v) := hc
  have HD : Hid (deep t = 0) := hd
  obtain ⟨T0, x0, rfl⟩ := hsh
  clear hI hB hA hc hd
  go_enter Tryd.func24, Tryd.ntmps24
  go_wp2
  go_loopw [0, 1] (fun e r wr => ∃ n ps k, Chain W (.iface T0 x0) n ps e ∧ n ≤ W.heap.size ∧ r = .int .i64 (k : Nat) ∧ ps.length + m + 1 ≤ k ∧ k ≤ 1048576 ∧ Below W.heap.size W wr) (fun e _ _ => deep e)
  case atStart => exact ⟨n, ps, room, HC.out, hn, rfl, hroom, hm, Below.refl _ _⟩
  case round =>
    obtain ⟨n', ps', k, hrel, hn', rfl, hk, hkm, hb⟩ := hrel
    have Hb : Hid _ := hb
    clear HC hb
    cases hrel with
    | base =>
      have hk4 : m + 1 ≤ k := by simp at hk; omega
      go_wp2_with (first
        | (go_at_call 28; refine (HI.out _ Hb.out).mono ?_; rintro e w1 ⟨rfl, hb1⟩; have Hb1 : Hid (Below W.heap.size W w1) := Hb.out.trans (hb1.mono Hb.out.size); clear hb1)
        | (go_at_call 36; refine (HB.out _ Hb1.out).mono ?_; rintro e w2 ⟨rfl, hb2⟩; have Hb2 : Hid (Below W.heap.size W w2) := Hb1.out.trans (hb2.mono Hb1.out.size); clear hb2)
        | (go_at_call 35; refine (HA.out _ _ Hb2.out (by omega) (by omega)).mono ?_; rintro e w3 ⟨rfl, hb3⟩; have Hb3 : Hid (Below W.heap.size W w3) := Hb2.out.trans (hb3.mono Hb2.out.size); clear hb3))
      go_ret
      exact ⟨rfl, Hb3.out⟩
    | @woe _ b p ps'' e' T' hlt h0 h1 hz r =>
      obtain ⟨T', x', rfl⟩ := r.shape ⟨_, _, rfl⟩
      have hr : Hid _ := r
      have hkk : ps''.length + m + 2 ≤ k := by simp at hk; omega
      have h1' : Hid (wr.cell? ⟨b, 1, none⟩ = some (.iface T' x')) := by
        show _ = _
        rw [Hb.out.cell (p := ⟨b, 1, none⟩) (by show b < _; omega)]; exact h1
      clear r hk h0 h1 hz
      go_wp2_with (go_at_call 28; refine (inner_woe b (.iface T' x') _ (.iface _ _) h1'.out).mono ?_; rintro e w1 ⟨rfl, hb1⟩; have Hb1 : Hid (Below W.heap.size W w1) := Hb.out.trans (hb1.mono Hb.out.size); clear hb1)
      go_roundw
      case rel => exact ⟨b, ps'', k - 1, hr.out, by omega, by go_num, by omega, by omega, Hb1.out⟩
      case measure => exact Nat.lt_succ_of_le (hr.out.deep_le HD.out)
end Go.Proofs.YtdojgjainfelcaaDoor
