/- The law's own small functions: count, in, great, freed; the reference's Same. A template (fill.py). -/
import Derived.Test.YtlhhjbjdinimjaaSl
namespace Go.Proofs.Ytlhhjbjdinimjaa
open Go.RowKit Go.Extern.Stop Go.Stop Go.Extern Go.Sort

/-- How often a note is in a list. -/
def cnt (n : Nt) (xs : List Nt) : Nat := xs.countP (fun m => decide (m = n))
theorem cnt_le (n : Nt) (xs : List Nt) : cnt n xs ≤ xs.length := List.countP_le_length
theorem cnt_take (n : Nt) (xs : List Nt) (k : Nat) (h : k < xs.length) : cnt n (xs.take (k + 1)) = cnt n (xs.take k) + if xs[k] = n then 1 else 0 := by
  unfold cnt
  rw [List.take_succ_eq_append_getElem h, List.countP_append]
  by_cases e : xs[k] = n <;> simp [e]
def CntRel (n : Nt) (xs : List Nt) (w : World) (vc vi : Value) (wr : World) : Prop :=
  ∃ k : Nat, k ≤ xs.length ∧ vi = .int .i64 (k : Int) ∧ vc = .int .i64 (cnt n (xs.take k) : Int) ∧ Below w.heap.size w wr
theorem below_drewN {B : Nat} {a w : World} (h : Below B a w) (n : Nat) : Below B a (w.drewN n) := ⟨h.os, h.tape, h.output, h.size, h.block⟩
set_option maxRecDepth 100000 in
set_option maxHeartbeats 1000000 in
theorem count_any (v : Value) (n : Nt) (xs : List Nt) (w : World) (hv : RowC nc 7 w v xs) (hl : xs.length ≤ 200) :
    Calls Try.prog 14 #[v, nv n] w fun e w' => e = .returned (.int .i64 (cnt n xs : Int)) ∧ Below w.heap.size w w' := by
  obtain ⟨ao, cp, rfl⟩ := hv.slice
  have B0 := Lib.hid (below_alloc (Below.refl w.heap.size w) (.cells (nc n).toArray 39))
  have HV := Lib.hid (hv.keep B0.out)
  have X0 := Lib.hid (BlkW.new w 39 (nc n).toArray)
  clear hv
  unfold nv
  go_enter Try.func14, Try.ntmps14
  go_wp2
  go_loopw [5, 6] (fun vc vi wr => CntRel n xs (w.alloc (.cells (nc n).toArray 39)) vc vi wr) (fun _ vi _ => xs.length - (intOf vi).toNat)
  case atStart => exact ⟨0, Nat.zero_le _, rfl, rfl, Below.refl _ _⟩
  case round =>
    obtain ⟨k, hkl, rfl, rfl, hbel⟩ := hrel
    obtain ⟨wo, rfl⟩ : ∃ wo : World, wo = wr := ⟨_, rfl⟩
    have HB := Lib.hid hbel
    have hct := cnt_le n (xs.take k)
    have hct2 : (xs.take k).length ≤ k := List.length_take_le _ _
    by_cases hlt : k < xs.length
    · rcases HV.out with ⟨_, e⟩ | ⟨b, off, cap', e, hbx, hcap, hcell⟩
      · subst e; exact absurd hlt (Nat.not_lt_zero _)
      · injection e with e1 e2 e3
        subst e1
        have hc := rangeAt_block (hcell k hlt) (hbel.block b hbx)
        have HC := Lib.hid (cnt_take n xs k hlt)
        obtain ⟨a, ha⟩ : ∃ a, a = xs[k] := ⟨_, rfl⟩
        rw [← ha] at hc HC
        obtain ⟨q0, q1, q2, q3, q4, q5, q6⟩ := nc_cells hc
        obtain ⟨p0, p1, p2, p3, p4, p5, p6⟩ := cell7 (X0.out.below hbel)
        clear hc hcell ha e2 e3 hbel
        have j1 : (k : Int) < xs.length := by omega
        have k1 := eqlN
        have k2 := heldN
        have k3 := guardN
        have HE := Lib.hid (eqN_iff a n)
        cases hq : eqN a.ref.slot a.ref.gen a.ref.tag a.ref.num a.ref.mark a.birth a.death n.ref.slot n.ref.gen n.ref.tag n.ref.num n.ref.mark n.birth n.death with
        | true =>
          have HQ := Lib.hid (show a = n by have h := HE.out; rw [hq] at h; exact of_decide_eq_true h.symm)
          have HX := Lib.hid (IntWalk.wrap64_in ((cnt n (xs.take k) : Int) + 1) ⟨by omega, by omega⟩)
          go_wp2
          go_quiet (fail)
          clear q0 q1 q2 q3 q4 q5 q6 p0 p1 p2 p3 p4 p5 p6
          go_wp2
          go_roundw
          case rel => exact ⟨k + 1, by omega, by go_num, by rw [HC.out, if_pos HQ.out]; first | go_num | (rw [HX.out]; go_num), below_drewN HB.out _⟩
          case measure => simp [intOf]; omega
        | false =>
          have HQ := Lib.hid (show ¬ a = n by have h := HE.out; rw [hq] at h; exact of_decide_eq_false h.symm)
          go_wp2
          go_quiet (fail)
          clear q0 q1 q2 q3 q4 q5 q6 p0 p1 p2 p3 p4 p5 p6
          go_wp2
          go_roundw
          case rel => exact ⟨k + 1, by omega, by go_num, by rw [HC.out, if_neg HQ.out]; rfl, below_drewN HB.out _⟩
          case measure => simp [intOf]; omega
    · obtain rfl : k = xs.length := by omega
      go_wp2
      go_ret
      exact ⟨by rw [List.take_length]; rfl, B0.out.trans (HB.out.mono B0.out.size)⟩
end Go.Proofs.Ytlhhjbjdinimjaa
