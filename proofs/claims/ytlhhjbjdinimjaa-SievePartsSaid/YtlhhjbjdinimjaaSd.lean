/- The law's own in and great; the reference's Same: each as far as the laws ask. A template (fill.py). -/
import Derived.Test.YtlhhjbjdinimjaaSc
namespace Go.Proofs.Ytlhhjbjdinimjaa
open Go.RowKit Go.Extern.Stop Go.Stop Go.Extern Go.Sort

def True1 (W : World) (e : Ending) (w' : World) : Prop := e = .returned (.bool true) ∧ Below W.heap.size W w'
theorem re7 {w : World} {g o : Nat} {n : Nt} (h : w.rangeAt g o (nc n)) :
    (∀ d os, (grow (redrawn w d) os).cell? ⟨g, o, none⟩ = some (.int .i64 n.ref.slot)) ∧ (∀ d os, (grow (redrawn w d) os).cell? ⟨g, o + 1, none⟩ = some (.int .i64 n.ref.gen)) ∧ (∀ d os, (grow (redrawn w d) os).cell? ⟨g, o + 2, none⟩ = some (.int .i64 n.ref.tag)) ∧ (∀ d os, (grow (redrawn w d) os).cell? ⟨g, o + 3, none⟩ = some (.int .i64 n.ref.num)) ∧
    (∀ d os, (grow (redrawn w d) os).cell? ⟨g, o + 4, none⟩ = some (.bool n.ref.mark)) ∧ (∀ d os, (grow (redrawn w d) os).cell? ⟨g, o + 5, none⟩ = some (.int .i64 n.birth)) ∧ (∀ d os, (grow (redrawn w d) os).cell? ⟨g, o + 6, none⟩ = some (.int .i64 n.death)) := by
  obtain ⟨q0, q1, q2, q3, q4, q5, q6⟩ := nc_cells h
  exact ⟨cell_regrown q0, cell_regrown q1, cell_regrown q2, cell_regrown q3, cell_regrown q4, cell_regrown q5, cell_regrown q6⟩
theorem RowC.re {α : Type} {c : α → List Value} {k : Nat} {W : World} {v : Value} {xs : List α} (h : RowC c k W v xs) (d : Nat) (os : Array Obj) : RowC c k (grow (redrawn W d) os) v xs := h.keep (below_regrown W d os)
theorem count_re {W : World} (v : Value) (n : Nt) (xs : List Nt) (hv : RowC nc 7 W v xs) (hl : xs.length ≤ 200) (d : Nat) (os : Array Obj) :
    Calls Try.prog 14 #[v, nv n] (grow (redrawn W d) os) fun e w'' => e = .returned (.int .i64 (cnt n xs : Int)) ∧ ∃ p : Regrown, w'' = grow (redrawn W p.d) p.os :=
  Calls.regrown_of (count_any v n xs _ (hv.re d os) hl)
def WRel (len : Nat) (w : World) (vi : Value) (wr : World) : Prop := ∃ k : Nat, k ≤ len ∧ vi = .int .i64 (k : Int) ∧ Below w.heap.size w wr
set_option maxRecDepth 100000 in
set_option maxHeartbeats 1000000 in
/-- All of ys are among bs, as often at least. -/
theorem in_any (va vb : Value) (ys bs : List Nt) (w : World) (ha : RowC nc 7 w va ys) (hb : RowC nc 7 w vb bs) (la : ys.length ≤ 200) (lb : bs.length ≤ 200) (hin : ∀ n, n ∈ ys → cnt n ys ≤ cnt n bs) :
    Calls Try.prog 15 #[va, vb] w (True1 w) := by
  have HA := Lib.hid ha
  have HC := Lib.hid hb
  have HI := Lib.hid hin
  obtain ⟨ao, cp, rfl⟩ := ha.slice
  obtain ⟨ao', cp', rfl⟩ := hb.slice
  clear ha hb hin
  go_enter Try.func15, Try.ntmps15
  go_wp2
  go_loopw [5] (fun vi wr => WRel ys.length w vi wr) (fun vi _ => ys.length - (intOf vi).toNat)
  case atStart => exact ⟨0, Nat.zero_le _, rfl, Below.refl _ _⟩
  case round =>
    obtain ⟨k, hkl, rfl, hbel⟩ := hrel
    obtain ⟨wo, rfl⟩ : ∃ wo : World, wo = wr := ⟨_, rfl⟩
    have HB := Lib.hid hbel
    by_cases hlt : k < ys.length
    · rcases HA.out with ⟨_, e⟩ | ⟨b, off, cap', e, hbx, hcap, hcell⟩
      · subst e; exact absurd hlt (Nat.not_lt_zero _)
      · injection e with e1 e2 e3
        subst e1
        have hc := rangeAt_block (hcell k hlt) (hbel.block b hbx)
        have HM := Lib.hid (List.getElem_mem hlt)
        obtain ⟨a, ha⟩ : ∃ a, a = ys[k] := ⟨_, rfl⟩
        rw [← ha] at hc HM
        have HL := HI.out a HM.out
        have C1 := Lib.hid (fun d os => count_re (W := wo) _ a ys (HA.out.keep hbel) la d os)
        have C2 := Lib.hid (fun d os => count_re (W := wo) _ a bs (HC.out.keep hbel) lb d os)
        obtain ⟨q0, q1, q2, q3, q4, q5, q6⟩ := re7 hc
        unfold nv at C1 C2
        clear hc hcell ha e2 e3 hbel
        have j1 : (k : Int) < ys.length := by omega
        have h1 : decide ((cnt a bs : Int) < (cnt a ys : Int)) = false := by simp; omega
        have h2 : decide (cnt a bs < cnt a ys) = false := by simp; omega
        clear HL
        go_wp2_with fail
        refine wp_region_quiet_below (by kernel_rfl) (by kernel_rfl) ?_
        repeat (go_big_quiet_step ((first | with_reducible exact C1.out _ _ | with_reducible exact C2.out _ _)))
        refine wpQuiet_nil ?_
        intro _ hw'
        obtain ⟨⟨dq, osq⟩, hw''⟩ := hw'
        subst hw''
        have HE := Lib.hid (HB.out.trans ((below_regrown wo dq osq).mono HB.out.size))
        clear q0 q1 q2 q3 q4 q5 q6
        go_wp2
        go_roundw
        case rel => exact ⟨k + 1, by omega, by go_num, HE.out⟩
        case measure => simp [intOf]; omega
    · obtain rfl : k = ys.length := by omega
      go_wp2
      go_ret
      exact ⟨rfl, HB.out⟩
set_option maxRecDepth 100000 in
set_option maxHeartbeats 1000000 in
/-- Two slices that read as one list. -/
theorem Same_any (va vb : Value) (ys : List Nt) (w : World) (ha : RowC nc 7 w va ys) (hb : RowC nc 7 w vb ys) (la : ys.length ≤ 200) :
    Calls Try.prog 16 #[va, vb] w (True1 w) := by
  have HA := Lib.hid ha
  have HC := Lib.hid hb
  obtain ⟨ao, cp, rfl⟩ := ha.slice
  obtain ⟨ao', cp', rfl⟩ := hb.slice
  clear ha hb
  go_enter Try.func16, Try.ntmps16
  go_wp2
  go_loopw [5] (fun vi wr => WRel ys.length w vi wr) (fun vi _ => ys.length - (intOf vi).toNat)
  case atStart => exact ⟨0, Nat.zero_le _, rfl, Below.refl _ _⟩
  case round =>
    obtain ⟨k, hkl, rfl, hbel⟩ := hrel
    obtain ⟨wo, rfl⟩ : ∃ wo : World, wo = wr := ⟨_, rfl⟩
    have HB := Lib.hid hbel
    by_cases hlt : k < ys.length
    · rcases HA.out with ⟨_, e⟩ | ⟨b, off, cap', e, hbx, hcap, hcell⟩
      · subst e; exact absurd hlt (Nat.not_lt_zero _)
      · rcases HC.out with ⟨_, e'⟩ | ⟨b', off', cap'', e', hbx', hcap', hcell'⟩
        · subst e'; exact absurd hlt (Nat.not_lt_zero _)
        · injection e with e1 e2 e3
          subst e1
          injection e' with e1' e2' e3'
          subst e1'
          have hc := rangeAt_block (hcell k hlt) (hbel.block b hbx)
          have hc' := rangeAt_block (hcell' k hlt) (hbel.block b' hbx')
          obtain ⟨a, ha⟩ : ∃ a, a = ys[k] := ⟨_, rfl⟩
          rw [← ha] at hc hc'
          obtain ⟨q0, q1, q2, q3, q4, q5, q6⟩ := nc_cells hc
          obtain ⟨p0, p1, p2, p3, p4, p5, p6⟩ := nc_cells hc'
          clear hc hcell ha e2 e3 hc' hcell' e2' e3' hbel
          have j1 : (k : Int) < ys.length := by omega
          have k1 : ∀ w, (binOp .neq 39 (.agg #[.int .i64 a.ref.slot, .int .i64 a.ref.gen, .int .i64 a.ref.tag, .int .i64 a.ref.num, .bool a.ref.mark, .int .i64 a.birth, .int .i64 a.death]) (.agg #[.int .i64 a.ref.slot, .int .i64 a.ref.gen, .int .i64 a.ref.tag, .int .i64 a.ref.num, .bool a.ref.mark, .int .i64 a.birth, .int .i64 a.death])).run Try.prog w = .ok (.bool false) w := fun w => by
            rw [neqN, eqN_iff]; simp
          have k2 := heldN
          have k3 := guardN
          go_wp2
          go_quiet (fail)
          clear q0 q1 q2 q3 q4 q5 q6 p0 p1 p2 p3 p4 p5 p6
          go_wp2
          go_roundw
          case rel => exact ⟨k + 1, by omega, by go_num, below_drewN HB.out _⟩
          case measure => simp [intOf]; omega
    · obtain rfl : k = ys.length := by omega
      go_wp2
      go_ret
      exact ⟨rfl, HB.out⟩
/-- What threads announce. -/
structure Kp where
  vs : Value
  ve : Value
  vp : Value
  slots : List Wd
  eras : List Int
  spans : List Sp
  now : Int
def kv (k : Kp) : Value := .agg #[k.vs, k.ve, k.vp, .int .i64 k.now]
structure KpAt (w : World) (k : Kp) : Prop where
  slots : RowC wc 5 w k.vs k.slots
  eras : RowC ic 1 w k.ve k.eras
  spans : RowC sc 3 w k.vp k.spans
theorem KpAt.keep {w w' : World} {k : Kp} (h : KpAt w k) (hb : Below w.heap.size w w') : KpAt w' k := ⟨h.slots.keep hb, h.eras.keep hb, h.spans.keep hb⟩
def Kp.Small (k : Kp) : Prop := k.slots.length ≤ 60 ∧ k.eras.length ≤ 60 ∧ k.spans.length ≤ 60
theorem great_no (v : Value) (xs : List Nt) (k : Kp) (w : World) (hv : RowC nc 7 w v xs) (hk : KpAt w k) (hx : xs.length ≤ 60) (hs : k.Small) :
    Calls Try.prog 9 #[v, kv k] w fun e w' => e = .returned (.bool false) ∧ Below w.heap.size w w' := by
  obtain ⟨h1, h2, h3⟩ := hs
  obtain ⟨vs, ve, vp, sl, er, sp, now⟩ := k
  obtain ⟨ao, cp, rfl⟩ := hv.slice
  obtain ⟨a1, c1, e1⟩ := hk.slots.slice
  obtain ⟨a2, c2, e2⟩ := hk.eras.slice
  obtain ⟨a3, c3, e3⟩ := hk.spans.slice
  simp only at e1 e2 e3 h1 h2 h3
  subst e1 e2 e3
  clear hv hk
  have d0 : decide ((60 : Int) < xs.length) = false := by simp; omega
  have d1 : decide ((60 : Int) < sl.length) = false := by simp; omega
  have d2 : decide ((60 : Int) < er.length) = false := by simp; omega
  have d3 : decide ((60 : Int) < sp.length) = false := by simp; omega
  unfold kv
  go_enter Try.func9, Try.ntmps9
  go_wp2
  go_ret
  exact ⟨rfl, below_alloc (Below.refl _ _) _⟩
theorem great_yes (v : Value) (xs : List Nt) (k : Kp) (w : World) (hv : RowC nc 7 w v xs) (hk : KpAt w k) (hs : ¬ (xs.length ≤ 60 ∧ k.Small)) :
    Calls Try.prog 9 #[v, kv k] w fun e w' => e = .returned (.bool true) ∧ Below w.heap.size w w' := by
  unfold Kp.Small at hs
  obtain ⟨vs, ve, vp, sl, er, sp, now⟩ := k
  obtain ⟨ao, cp, rfl⟩ := hv.slice
  obtain ⟨a1, c1, e1⟩ := hk.slots.slice
  obtain ⟨a2, c2, e2⟩ := hk.eras.slice
  obtain ⟨a3, c3, e3⟩ := hk.spans.slice
  simp only at e1 e2 e3 hs
  subst e1 e2 e3
  clear hv hk
  unfold kv
  have h : 60 < xs.length ∨ (xs.length ≤ 60 ∧ 60 < sl.length) ∨ (xs.length ≤ 60 ∧ sl.length ≤ 60 ∧ 60 < er.length) ∨ (xs.length ≤ 60 ∧ sl.length ≤ 60 ∧ er.length ≤ 60 ∧ 60 < sp.length) := by omega
  rcases h with h | ⟨h0, h⟩ | ⟨h0, h1, h⟩ | ⟨h0, h1, h2, h⟩
  · have d0 : decide ((60 : Int) < xs.length) = true := by simp; omega
    clear hs h
    go_enter Try.func9, Try.ntmps9
    go_wp2
    go_ret
    exact ⟨rfl, below_alloc (Below.refl _ _) _⟩
  · have d0 : decide ((60 : Int) < xs.length) = false := by simp; omega
    have d1 : decide ((60 : Int) < sl.length) = true := by simp; omega
    clear hs h h0
    go_enter Try.func9, Try.ntmps9
    go_wp2
    go_ret
    exact ⟨rfl, below_alloc (Below.refl _ _) _⟩
  · have d0 : decide ((60 : Int) < xs.length) = false := by simp; omega
    have d1 : decide ((60 : Int) < sl.length) = false := by simp; omega
    have d2 : decide ((60 : Int) < er.length) = true := by simp; omega
    clear hs h h0 h1
    go_enter Try.func9, Try.ntmps9
    go_wp2
    go_ret
    exact ⟨rfl, below_alloc (Below.refl _ _) _⟩
  · have d0 : decide ((60 : Int) < xs.length) = false := by simp; omega
    have d1 : decide ((60 : Int) < sl.length) = false := by simp; omega
    have d2 : decide ((60 : Int) < er.length) = false := by simp; omega
    have d3 : decide ((60 : Int) < sp.length) = true := by simp; omega
    clear hs h h0 h1 h2
    go_enter Try.func9, Try.ntmps9
    go_wp2
    go_ret
    exact ⟨rfl, below_alloc (Below.refl _ _) _⟩
end Go.Proofs.Ytlhhjbjdinimjaa
