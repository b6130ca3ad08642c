/- rite: spans that are compared and stored; leave. A template (fill.py). -/
import Derived.Test.YtjilhncnbkaebaaGreatDoorRe
import Derived.Test.YtjilhncnbkaebaaGreatDoorVA
namespace Go.Proofs.YtjilhncnbkaebaaGreatDoor
open Go.RowKit Go.Extern.Stop Go.Stop Go.Extern Go.Sort
theorem sHeld : Tryz.prog.stoodInHeld 113 = false := by kernel_rfl
theorem sGuard : Tryz.prog.eqGuardType Tryz.prog.depth 113 = false := by kernel_rfl
theorem sT : Tryz.prog.underlying 113 = some (.struct (Tryz.prog.fieldsOf 113)) := by kernel_rfl
theorem sF : (Tryz.prog.fieldsOf 113).toList = [{ name := "Is", type := 4, offset := 0, embedded := false, tag := "", pkgPath := "", byteOffset := 0 },
        { name := "Low", type := 3, offset := 1, embedded := false, tag := "", pkgPath := "", byteOffset := 8 },
        { name := "High", type := 3, offset := 2, embedded := false, tag := "", pkgPath := "", byteOffset := 16 }] := by kernel_rfl
def spB (b : Bool) (l h : Int) (b' : Bool) (l' h' : Int) : Bool := b == b' && l == l' && h == h'
theorem spEqIn (b : Bool) (l h : Int) (b' : Bool) (l' h' : Int) (w : World) : (Op.equalIn 10000 113 (.agg #[.bool b, .int .i64 l, .int .i64 h]) (.agg #[.bool b', .int .i64 l', .int .i64 h'])).run Tryz.prog w = .ok (spB b l h b' l' h') w := by
  rw [run_equalIn_agg _ _ _ _ _ sT sHeld, sF]
  have e1 : ∀ (x y : Int) (w : World), (Op.equalIn 9999 3 (.int .i64 x) (.int .i64 y)).run Tryz.prog w = .ok (x == y) w := fun x y w => run_equalIn_int w 9998 3 .i64 .i64 x y Tryz.underlying3
  have e2 : ∀ (x y : Bool) (w : World), (Op.equalIn 9999 4 (.bool x) (.bool y)).run Tryz.prog w = .ok (x == y) w := fun x y w => run_equalIn_bool' w 9998 4 x y Tryz.underlying4
  simp only [Op.eqFields]
  simp [go_sem, e1, e2]
  unfold spB
  (repeat' split) <;> simp_all
theorem sp_ne (b : Bool) (l h : Int) (b' : Bool) (l' h' : Int) (w : World) : (binOp .neq 113 (.agg #[.bool b, .int .i64 l, .int .i64 h]) (.agg #[.bool b', .int .i64 l', .int .i64 h'])).run Tryz.prog w = .ok (.bool (!(spB b l h b' l' h'))) w := by
  rw [run_neq_struct, spEqIn]; rfl
theorem spB_iff (a b : Sp) : spB a.is a.low a.high b.is b.low b.high = decide (a = b) := by
  rw [Bool.eq_iff_iff, decide_eq_true_eq]
  cases a; cases b
  simp [spB, and_assoc]
section
variable {w : World} {r : Nat} {sv fv nv : Value} {m : Rt}
theorem RtAt.span3 (h : RtAt w r sv fv nv m) : w.cell? ⟨r, 102, none⟩ = some (.bool m.span.is) ∧ w.cell? ⟨r, 103, none⟩ = some (.int .i64 m.span.low) ∧ w.cell? ⟨r, 104, none⟩ = some (.int .i64 m.span.high) :=
  ⟨h.cell 102 (by kernel_rfl), h.cell 103 (by kernel_rfl), h.cell 104 (by kernel_rfl)⟩
/-! ### leave -/
def keptL (k : Nat → Wd) : List Wd := [k 0, k 1, k 2, k 3, k 4, k 5, k 6, k 7, k 8]
def nz (d : Wd) : Bool := decide (d ≠ zw)
theorem fk_some (k : Nat → Wd) : ∀ j, ∀ h : j < (keptL k).length, ((keptL k).take j).any nz = false → nz (keptL k)[j] = true → firstKept k 0 9 = some j ∧ j < 9 := by
  intro j h
  have hj : j < 9 := h
  match j, hj with
  | 0, _ | 1, _ | 2, _ | 3, _ | 4, _ | 5, _ | 6, _ | 7, _ | 8, _ =>
    intro h1 h2
    have h3 := of_decide_eq_true h2
    simp only [keptL, List.getElem_cons_succ, List.getElem_cons_zero, ne_eq] at h3
    simp only [keptL, List.take_succ_cons, List.take_zero, List.any_cons, List.any_nil, Bool.or_eq_false_iff, nz, decide_eq_false_iff_not, Decidable.not_not] at h1
    clear h2
    simp_all [firstKept]
theorem fk_none (k : Nat → Wd) (h : (keptL k).any nz = false) : firstKept k 0 9 = none := by
  simp only [keptL, List.any_cons, List.any_nil, Bool.or_eq_false_iff, nz, decide_eq_false_iff_not, Decidable.not_not] at h
  simp_all [firstKept]
theorem nz_any (d : Wd) (w : World) : Calls Tryz.prog 101 #[Sv.wv d] w fun e w' => e = .returned (.bool (nz d)) ∧ Below w.heap.size w w' := by
  have k1 := noHeld
  have k2 := noGuard
  have k3 := ne23
  have e := eqB_iff d zw
  unfold zw at e
  dsimp only at e
  have e2 : nz d = !decide (d = zw) := by unfold nz; by_cases h : d = zw <;> simp [h]
  rw [e2]
  unfold zw
  rw [← e]
  clear e e2
  unfold Sv.wv
  go_enter Tryz.func101, Tryz.ntmps101
  go_wp2
  go_ret
  exact ⟨rfl, (Below.refl _ _).alloc (Nat.le_refl _) _⟩
theorem tells_nz (W : World) : Sv.Tells 101 #[] Sv.wv nz W := ⟨fun x w => by kernel_rfl, fun x w _ => nz_any x w⟩
theorem RtAt.keptRow (h : RtAt w r sv fv nv m) : Sv.RowC Sv.wc 5 w (.slice (some ⟨r, 57, none⟩) 9 9) (keptL m.kept) := by
  refine .inr ⟨r, 57, 9, rfl, BlkW.lt h, Nat.le_refl 9, fun i hi => ?_⟩
  have hi : i < 9 := hi
  match i, hi with
  | 0, _ | 1, _ | 2, _ | 3, _ | 4, _ | 5, _ | 6, _ | 7, _ | 8, _ => exact h.range _ _ (by kernel_rfl)
theorem wzw : wv zw = .agg #[.int .i64 0, .int .i64 0, .int .i64 0, .int .i64 0, .bool false] := rfl
set_option maxRecDepth 100000 in
set_option maxHeartbeats 1000000 in
theorem leave_say (h : RtAt w r sv fv nv m) (hm : m.me < 6) (n : Nat) (hf : firstKept m.kept 0 9 = some n) :
    Calls Tryz.prog 75 #[.pointer (some ⟨r, 0, none⟩)] w (Leaf w r sv fv nv (m.say n zw)) := by
  have HR := Lib.hid h
  have HF := Lib.hid hf
  have C := Lib.hid (Sv.idxW 101 #[] nz w _ (keptL m.kept) h.keptRow (Nat.le_of_ble_eq_true rfl) (tells_nz w))
  clear h hf
  go_enter Tryz.func75, Tryz.ntmps75
  go_wp2_with fail
  refine C.out.mono ?_
  rintro e w1 ⟨i, rfl, hi, hj, hb⟩
  have HB := Lib.hid hb.out
  have hi0 : (0 : Int) ≤ i ∧ i = (n : Int) ∧ n < 9 := by
    by_cases h0 : 0 ≤ i
    · obtain ⟨j, hlt, e1, e2, e3⟩ := hj h0
      have := fk_some _ j hlt e2 e3
      rw [HF.out] at this
      have e4 : n = j := by simpa using this.1
      exact ⟨h0, by rw [e1, e4], e4 ▸ this.2⟩
    · rw [decide_eq_false h0] at hi
      have := fk_none _ hi.symm
      rw [HF.out] at this; cases this
  obtain ⟨h0, rfl, hn⟩ := hi0
  have HR1 := Lib.hid (HR.out.below HB.out)
  clear hi hj hb C HR
  go_wp2_with fail
  rw [← wzw]
  refine (say_any HR1.out hm n hn zw).mono ?_
  rintro e w3 ⟨rfl, h1, h2⟩
  go_wp2
  go_end0
  exact ⟨rfl, h1, Lib.hid ((Only.of_below HB.out).trans h2.out)⟩
set_option maxRecDepth 100000 in
set_option maxHeartbeats 1000000 in
theorem leave_ok (h : RtAt w r sv fv nv m) (hf : firstKept m.kept 0 9 = none) (hs : m.span = zs) :
    Calls Tryz.prog 75 #[.pointer (some ⟨r, 0, none⟩)] w (Leaf w r nilS nilS nv m.ok) := by
  have HR := Lib.hid h
  have HF := Lib.hid hf
  have C := Lib.hid (Sv.idxW 101 #[] nz w _ (keptL m.kept) h.keptRow (Nat.le_of_ble_eq_true rfl) (tells_nz w))
  have HS := Lib.hid hs
  have k1 := sHeld
  have k2 := sGuard
  have k3 := sp_ne
  clear h hf hs
  go_enter Tryz.func75, Tryz.ntmps75
  go_wp2_with fail
  refine C.out.mono ?_
  rintro e w1 ⟨i, rfl, hi, hj, hb⟩
  have HB := Lib.hid hb.out
  have hi0 : ¬ (0 : Int) ≤ i := fun h0 => by
    obtain ⟨j, hlt, e1, e2, e3⟩ := hj h0
    have := fk_some _ j hlt e2 e3
    rw [HF.out] at this
    cases this.1
  have HR1 := Lib.hid (HR.out.below HB.out)
  obtain ⟨s0, s1, s2⟩ := HR1.out.span3
  rw [HS.out] at s0 s1 s2
  have e1 : spB false 0 0 false 0 0 = true := rfl
  clear hi hj hb C HR
  unfold zs at s0 s1 s2
  dsimp only at s0 s1 s2
  go_wp2_with fail
  refine (succeed_any HR1.out).mono ?_
  rintro e w3 ⟨rfl, h1, h2⟩
  go_wp2
  go_end0
  exact ⟨rfl, h1, Lib.hid ((Only.of_below HB.out).trans h2.out)⟩
end
end Go.Proofs.YtjilhncnbkaebaaGreatDoor
