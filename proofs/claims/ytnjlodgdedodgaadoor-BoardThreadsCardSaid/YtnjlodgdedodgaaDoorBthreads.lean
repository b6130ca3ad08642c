/- The walk of BoardThreads. A template (fill.py). -/
import Derived.Test.YtnjlodgdedodgaaDoorBonce
namespace Go.Proofs.YtnjlodgdedodgaaDoor
open Go.RowKit Go.Extern.Stop Go.Stop Go.Extern Go.Sort

/-- How many cells ahead of the cell i are the thread's. -/
def cnt (t i : Int) : Int := (if i ≤ 25 + 9 * t then 0 else if i ≤ 34 + 9 * t then i - 25 - 9 * t else 9) + (if i ≤ 79 + t then 0 else 1)
theorem cnt_le (t i : Int) : 0 ≤ cnt t i ∧ cnt t i ≤ 10 := by unfold cnt; (repeat' split) <;> omega
theorem cnt_same {t i : Int} (h : ¬ ((25 ≤ i ∧ i < 79 ∧ (i - 25) / 9 = t) ∨ (79 ≤ i ∧ i - 79 = t))) (h0 : 0 ≤ i) (ht : 0 ≤ t ∧ t < 6) : cnt t (i + 1) = cnt t i := by unfold cnt; (repeat' split) <;> omega
theorem cnt_more {t i : Int} (h : (25 ≤ i ∧ i < 79 ∧ (i - 25) / 9 = t) ∨ (79 ≤ i ∧ i - 79 = t)) (ht : 0 ≤ t ∧ t < 6) : cnt t (i + 1) = cnt t i + 1 := by unfold cnt; (repeat' split) <;> omega
theorem cnt_end {t : Int} (ht : 0 ≤ t ∧ t < 6) : cnt t 85 = 10 := by unfold cnt; (repeat' split) <;> omega
theorem cnt_start {t : Int} (ht : 0 ≤ t ∧ t < 6) : cnt t 0 = 0 := by unfold cnt; (repeat' split) <;> omega
def RelT (t : Int) (w : World) (v i : Value) (wr : World) : Prop := Below w.heap.size w wr ∧ ∃ k : Int, 0 ≤ k ∧ k ≤ 85 ∧ i = .int .i64 k ∧ v = .int .i64 (cnt t k)

set_option maxRecDepth 100000 in
set_option maxHeartbeats 4000000 in
theorem threads_any (n : Int) (a : Addr) (w : World) (L : HasArg w a) : Calls Tryd.prog 7 #[.int .i64 n] w (True1 w) := by
  have HL := Lib.hid L
  clear L
  obtain ⟨t, h1, h2, h3⟩ := mod_in n 6 (by decide)
  have HT := Lib.hid (show 0 ≤ t ∧ t < 6 from ⟨h1, h2⟩)
  clear h1 h2
  go_enter Tryd.func7, Tryd.ntmps7
  go_wp2_with fail
  refine (awake_true a _ HL.out).mono ?_
  rintro e w1 ⟨rfl, hb⟩
  have B1 := Lib.hid hb
  clear hb HL
  go_wp2_with fail
  rw [h3]
  clear h3
  go_loopw [4, 5] (fun v i wr => RelT t w v i wr) (fun _ i _ => 85 - (intOf i).toNat)
  case atStart => exact ⟨B1.out, 0, by omega, by omega, rfl, by rw [cnt_start HT.out]⟩
  case round =>
    obtain ⟨hbr, k, hk0, hk1, rfl, rfl⟩ := hrel
    have HB := Lib.hid hbr
    have HK := Lib.hid (show 0 ≤ k ∧ k ≤ 85 from ⟨hk0, hk1⟩)
    clear hbr hk1 B1
    have hw : wrap64 (k + 1) = k + 1 := IntWalk.wrap64_in _ ⟨by omega, by have := HK.out; omega⟩
    by_cases hend : k = 85
    · subst hend
      have hc := cnt_end HT.out
      go_wp2_with fail
      refine (Cells_any _).mono ?_
      rintro e w5 ⟨rfl, rfl⟩
      rw [hc]
      go_wp2
      go_ret
      exact ⟨rfl, HB.out⟩
    · have h4 : (0 ≤ k ∧ k < 24) ∨ k = 24 ∨ ((25 ≤ k ∧ k < 79) ∧ (k - 25) / 9 = t) ∨ ((25 ≤ k ∧ k < 79) ∧ ¬ (k - 25) / 9 = t) ∨ ((79 ≤ k ∧ k < 85) ∧ k - 79 = t) ∨ ((79 ≤ k ∧ k < 85) ∧ ¬ k - 79 = t) := by have := HK.out; omega
      rcases h4 with h | h | ⟨h, ht⟩ | ⟨h, ht⟩ | ⟨h, ht⟩ | ⟨h, ht⟩
      · have HH := Lib.hid h
        have HW := Lib.hid hw
        have k1 : k < 85 := by omega
        clear hw h hend
        go_wp2_with fail
        refine (Cells_any _).mono ?_
        rintro e w5 ⟨rfl, rfl⟩
        go_wp2_with fail
        refine (Where_root k HH.out _).mono ?_
        rintro e w2 ⟨rfl, hb⟩
        have B2 := Lib.hid (below_trans HB.out hb)
        clear hb
        unfold sRoot
        have HS := Lib.hid (show cnt t (k + 1) = cnt t k from cnt_same (by have := HT.out; have := HH.out; omega) hk0 HT.out)
        clear hk0 HK k1
        go_wp2
        go_roundw
        case rel =>
          have hh := HH.out
          rw [HW.out]
          exact ⟨B2.out, k + 1, by omega, by omega, rfl, by rw [HS.out]⟩
        case measure =>
          have hh := HH.out
          rw [HW.out]
          simp [intOf]; omega
      · have HH := Lib.hid h
        have HW := Lib.hid hw
        have k1 : k < 85 := by omega
        clear hw h hend
        go_wp2_with fail
        refine (Cells_any _).mono ?_
        rintro e w5 ⟨rfl, rfl⟩
        go_wp2_with fail
        refine (Where_era k HH.out _).mono ?_
        rintro e w2 ⟨rfl, hb⟩
        have B2 := Lib.hid (below_trans HB.out hb)
        clear hb
        unfold sEra
        have HS := Lib.hid (show cnt t (k + 1) = cnt t k from cnt_same (by have := HT.out; have := HH.out; omega) hk0 HT.out)
        clear hk0 HK k1
        go_wp2
        go_roundw
        case rel =>
          have hh := HH.out
          rw [HW.out]
          exact ⟨B2.out, k + 1, by omega, by omega, rfl, by rw [HS.out]⟩
        case measure =>
          have hh := HH.out
          rw [HW.out]
          simp [intOf]; omega
      · have HH := Lib.hid h
        have HW := Lib.hid hw
        have k1 : k < 85 := by omega
        clear hw h hend
        go_wp2_with fail
        refine (Cells_any _).mono ?_
        rintro e w5 ⟨rfl, rfl⟩
        go_wp2_with fail
        refine (Where_keep k HH.out _).mono ?_
        rintro e w2 ⟨rfl, hb⟩
        have B2 := Lib.hid (below_trans HB.out hb)
        clear hb
        unfold sKeep
        have HS := Lib.hid (show cnt t (k + 1) = cnt t k + 1 from cnt_more (by have := HT.out; have := HH.out; omega) HT.out)
        have hc : wrap64 (cnt t k + 1) = cnt t k + 1 := IntWalk.wrap64_in _ ⟨by have := cnt_le t k; omega, by have := cnt_le t k; omega⟩
        have HC := Lib.hid hc
        clear hc
        clear hk0 HK k1
        rw [ht]
        go_wp2
        go_roundw
        case rel =>
          have hh := HH.out
          rw [HW.out]
          exact ⟨B2.out, k + 1, by omega, by omega, rfl, by rw [HS.out, HC.out]⟩
        case measure =>
          have hh := HH.out
          rw [HW.out]
          simp [intOf]; omega
      · have HH := Lib.hid h
        have HW := Lib.hid hw
        have k1 : k < 85 := by omega
        clear hw h hend
        go_wp2_with fail
        refine (Cells_any _).mono ?_
        rintro e w5 ⟨rfl, rfl⟩
        go_wp2_with fail
        refine (Where_keep k HH.out _).mono ?_
        rintro e w2 ⟨rfl, hb⟩
        have B2 := Lib.hid (below_trans HB.out hb)
        clear hb
        unfold sKeep
        have HS := Lib.hid (show cnt t (k + 1) = cnt t k from cnt_same (by have := HT.out; have := HH.out; omega) hk0 HT.out)
        clear hk0 HK k1
        have hd : ((k - 25) / 9 == t) = false := by simpa using ht
        clear ht
        generalize (k - 25) / 9 = q at hd ⊢
        go_wp2
        go_roundw
        case rel =>
          have hh := HH.out
          rw [HW.out]
          exact ⟨B2.out, k + 1, by omega, by omega, rfl, by rw [HS.out]⟩
        case measure =>
          have hh := HH.out
          rw [HW.out]
          simp [intOf]; omega
      · have HH := Lib.hid h
        have HW := Lib.hid hw
        have k1 : k < 85 := by omega
        clear hw h hend
        go_wp2_with fail
        refine (Cells_any _).mono ?_
        rintro e w5 ⟨rfl, rfl⟩
        go_wp2_with fail
        refine (Where_span k HH.out _).mono ?_
        rintro e w2 ⟨rfl, hb⟩
        have B2 := Lib.hid (below_trans HB.out hb)
        clear hb
        unfold sSpan
        have HS := Lib.hid (show cnt t (k + 1) = cnt t k + 1 from cnt_more (by have := HT.out; have := HH.out; omega) HT.out)
        have hc : wrap64 (cnt t k + 1) = cnt t k + 1 := IntWalk.wrap64_in _ ⟨by have := cnt_le t k; omega, by have := cnt_le t k; omega⟩
        have HC := Lib.hid hc
        clear hc
        clear hk0 HK k1
        rw [ht]
        go_wp2
        go_roundw
        case rel =>
          have hh := HH.out
          rw [HW.out]
          exact ⟨B2.out, k + 1, by omega, by omega, rfl, by rw [HS.out, HC.out]⟩
        case measure =>
          have hh := HH.out
          rw [HW.out]
          simp [intOf]; omega
      · have HH := Lib.hid h
        have HW := Lib.hid hw
        have k1 : k < 85 := by omega
        clear hw h hend
        go_wp2_with fail
        refine (Cells_any _).mono ?_
        rintro e w5 ⟨rfl, rfl⟩
        go_wp2_with fail
        refine (Where_span k HH.out _).mono ?_
        rintro e w2 ⟨rfl, hb⟩
        have B2 := Lib.hid (below_trans HB.out hb)
        clear hb
        unfold sSpan
        have HS := Lib.hid (show cnt t (k + 1) = cnt t k from cnt_same (by have := HT.out; have := HH.out; omega) hk0 HT.out)
        clear hk0 HK k1
        have hd : (k - 79 == t) = false := by simpa using ht
        clear ht
        generalize k - 79 = q at hd ⊢
        go_wp2
        go_roundw
        case rel =>
          have hh := HH.out
          rw [HW.out]
          exact ⟨B2.out, k + 1, by omega, by omega, rfl, by rw [HS.out]⟩
        case measure =>
          have hh := HH.out
          rw [HW.out]
          simp [intOf]; omega
end Go.Proofs.YtnjlodgdedodgaaDoor
