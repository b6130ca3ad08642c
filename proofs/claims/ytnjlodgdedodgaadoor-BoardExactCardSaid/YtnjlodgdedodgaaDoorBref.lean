/- The reference of layer 4 (in, Root, Keep, Span, Where); the walk of BoardExact. A template (fill.py). -/
import Derived.Test.YtnjlodgdedodgaaDoorBapart
namespace Go.Proofs.YtnjlodgdedodgaaDoor
open Go.RowKit Go.Extern.Stop Go.Stop Go.Extern Go.Sort

/-! ### the reference -/
theorem rin_any (n m : Int) (w : World) : Calls Tryd.prog 28 #[.int .i64 n, .int .i64 m] w fun e w' => e = .returned (.bool (decide (0 ≤ n) && decide (n < m))) ∧ w = w' := by
  rcases Bool.eq_false_or_eq_true (decide (0 ≤ n)) with k1 | k1
  · rcases Bool.eq_false_or_eq_true (decide (n < m)) with k2 | k2
    all_goals
      rw [k1, k2]
      go_enter Tryd.func28, Tryd.ntmps28
      go_wp2
      go_ret
      exact ⟨rfl, rfl⟩
  · rw [k1]
    go_enter Tryd.func28, Tryd.ntmps28
    go_wp2
    go_ret
    exact ⟨rfl, rfl⟩
theorem rin_yes (n m : Int) (h : 0 ≤ n ∧ n < m) (w : World) : Calls Tryd.prog 28 #[.int .i64 n, .int .i64 m] w fun e w' => e = .returned (.bool true) ∧ w = w' := by
  have := rin_any n m w
  have k : (decide (0 ≤ n) && decide (n < m)) = true := by simpa using h
  rwa [k] at this
theorem rin_no (n m : Int) (h : ¬ (0 ≤ n ∧ n < m)) (w : World) : Calls Tryd.prog 28 #[.int .i64 n, .int .i64 m] w fun e w' => e = .returned (.bool false) ∧ w = w' := by
  have := rin_any n m w
  have k : (decide (0 ≤ n) && decide (n < m)) = false := by simpa using h
  rwa [k] at this
theorem rRoot_yes (n : Int) (h : 0 ≤ n ∧ n < 24) (w : World) : Calls Tryd.prog 15 #[.int .i64 n] w fun e w' => e = .returned (.int .i64 (n)) ∧ w = w' := by
  have hy0 := rin_yes n 24 (by omega)
  clear h
  go_enter Tryd.func15, Tryd.ntmps15
  go_wp2_with fail
  refine (hy0 _).mono ?_
  rintro e w1 ⟨rfl, rfl⟩
  go_wp2
  go_ret
  exact ⟨rfl, rfl⟩
theorem rRoot_no (n : Int) (h : ¬ (0 ≤ n ∧ n < 24)) (w : World) : Calls Tryd.prog 15 #[.int .i64 n] w fun e w' => e = .returned (.int .i64 (-1)) ∧ w = w' := by
  have hy0 := rin_no n 24 (by omega)
  clear h
  go_enter Tryd.func15, Tryd.ntmps15
  go_wp2_with fail
  refine (hy0 _).mono ?_
  rintro e w1 ⟨rfl, rfl⟩
  go_wp2
  go_ret
  exact ⟨rfl, rfl⟩
theorem rKeep_yes (t n : Int) (h : (0 ≤ t ∧ t < 6) ∧ (0 ≤ n ∧ n < 9)) (w : World) : Calls Tryd.prog 16 #[.int .i64 t, .int .i64 n] w fun e w' => e = .returned (.int .i64 (25 + t * 9 + n)) ∧ w = w' := by
  have hy0 := rin_yes t 6 (by omega)
  have hy1 := rin_yes n 9 (by omega)
  have ha : wrap64 (wrap64 (25 + wrap64 (9 * t)) + n) = 25 + t * 9 + n := by
    rw [IntWalk.wrap64_in (9 * t) ⟨by omega, by omega⟩, IntWalk.wrap64_in (25 + 9 * t) ⟨by omega, by omega⟩, IntWalk.wrap64_in _ ⟨by omega, by omega⟩]; omega
  clear h
  go_enter Tryd.func16, Tryd.ntmps16
  go_wp2_with fail
  refine (hy0 _).mono ?_
  rintro e w1 ⟨rfl, rfl⟩
  go_wp2_with fail
  refine (hy1 _).mono ?_
  rintro e w1 ⟨rfl, rfl⟩
  go_wp2
  go_ret
  exact ⟨congrArg (fun x => Ending.returned (.int .i64 x)) ha, rfl⟩
theorem rKeep_no1 (t n : Int) (h : ¬ (0 ≤ t ∧ t < 6)) (w : World) : Calls Tryd.prog 16 #[.int .i64 t, .int .i64 n] w fun e w' => e = .returned (.int .i64 (-1)) ∧ w = w' := by
  have hy0 := rin_no t 6 (by omega)
  clear h
  go_enter Tryd.func16, Tryd.ntmps16
  go_wp2_with fail
  refine (hy0 _).mono ?_
  rintro e w1 ⟨rfl, rfl⟩
  go_wp2
  go_ret
  exact ⟨rfl, rfl⟩
theorem rKeep_no2 (t n : Int) (h : (0 ≤ t ∧ t < 6) ∧ ¬ (0 ≤ n ∧ n < 9)) (w : World) : Calls Tryd.prog 16 #[.int .i64 t, .int .i64 n] w fun e w' => e = .returned (.int .i64 (-1)) ∧ w = w' := by
  have hy0 := rin_yes t 6 (by omega)
  have hy1 := rin_no n 9 (by omega)
  clear h
  go_enter Tryd.func16, Tryd.ntmps16
  go_wp2_with fail
  refine (hy0 _).mono ?_
  rintro e w1 ⟨rfl, rfl⟩
  go_wp2_with fail
  refine (hy1 _).mono ?_
  rintro e w1 ⟨rfl, rfl⟩
  go_wp2
  go_ret
  exact ⟨rfl, rfl⟩
theorem rSpan_yes (t : Int) (h : 0 ≤ t ∧ t < 6) (w : World) : Calls Tryd.prog 17 #[.int .i64 t] w fun e w' => e = .returned (.int .i64 (79 + t)) ∧ w = w' := by
  have hy0 := rin_yes t 6 (by omega)
  have ha : wrap64 (79 + t) = 79 + t := IntWalk.wrap64_in _ ⟨by omega, by omega⟩
  clear h
  go_enter Tryd.func17, Tryd.ntmps17
  go_wp2_with fail
  refine (hy0 _).mono ?_
  rintro e w1 ⟨rfl, rfl⟩
  go_wp2
  go_ret
  exact ⟨congrArg (fun x => Ending.returned (.int .i64 x)) ha, rfl⟩
theorem rSpan_no (t : Int) (h : ¬ (0 ≤ t ∧ t < 6)) (w : World) : Calls Tryd.prog 17 #[.int .i64 t] w fun e w' => e = .returned (.int .i64 (-1)) ∧ w = w' := by
  have hy0 := rin_no t 6 (by omega)
  clear h
  go_enter Tryd.func17, Tryd.ntmps17
  go_wp2_with fail
  refine (hy0 _).mono ?_
  rintro e w1 ⟨rfl, rfl⟩
  go_wp2
  go_ret
  exact ⟨rfl, rfl⟩
set_option maxRecDepth 20000 in
theorem rWhere_root (f : Int) (h : 0 ≤ f ∧ f < 24) (w : World) : Calls Tryd.prog 13 #[ad 0 0 f] w fun e w' => e = .returned (.tuple #[.string sRoot, .int .i64 (0), .int .i64 (f)]) ∧ Below w.heap.size w w' := by
  have HK := Lib.hid h
  have k00 : decide (f < 0) = false := decide_eq_false (by omega)
  have k01 : decide (85 ≤ f) = false := decide_eq_false (by omega)
  have k1 : f < 24 := by omega
  clear h
  unfold ad
  go_enter Tryd.func13, Tryd.ntmps13
  go_wp2
  exact bodyPost_ret (v := .tuple #[.string sRoot, .int .i64 (0), .int .i64 (f)]) (by simp [sRoot, results, Tryd.results13, go_sem]) rfl ⟨rfl, below_alloc (Below.refl _ _) _⟩
set_option maxRecDepth 20000 in
theorem rWhere_era (f : Int) (h : f = 24) (w : World) : Calls Tryd.prog 13 #[ad 0 0 f] w fun e w' => e = .returned (.tuple #[.string sEra, .int .i64 (0), .int .i64 (0)]) ∧ Below w.heap.size w w' := by
  have HK := Lib.hid h
  have k00 : decide (f < 0) = false := decide_eq_false (by omega)
  have k01 : decide (85 ≤ f) = false := decide_eq_false (by omega)
  have k1 : decide (f < 24) = false := decide_eq_false (by omega)
  have k2 : (f == 24) = true := by simpa using h
  clear h
  unfold ad
  go_enter Tryd.func13, Tryd.ntmps13
  go_wp2
  exact bodyPost_ret (v := .tuple #[.string sEra, .int .i64 (0), .int .i64 (0)]) (by simp [sEra, results, Tryd.results13, go_sem]) rfl ⟨rfl, below_alloc (Below.refl _ _) _⟩
set_option maxRecDepth 20000 in
theorem rWhere_keep (f : Int) (h : 25 ≤ f ∧ f < 79) (w : World) : Calls Tryd.prog 13 #[ad 0 0 f] w fun e w' => e = .returned (.tuple #[.string sKeep, .int .i64 ((f - 25) / 9), .int .i64 ((f - 25) % 9)]) ∧ Below w.heap.size w w' := by
  have HK := Lib.hid h
  have k00 : decide (f < 0) = false := decide_eq_false (by omega)
  have k01 : decide (85 ≤ f) = false := decide_eq_false (by omega)
  have k1 : decide (f < 24) = false := decide_eq_false (by omega)
  have k2 : (f == 24) = false := beq_eq_false_iff_ne.2 (by omega)
  have k3 : f < 79 := by omega
  clear h
  unfold ad
  go_enter Tryd.func13, Tryd.ntmps13
  go_wp2
  have hk := HK.out
  have ha : wrap64 (f - 25) = f - 25 := IntWalk.wrap64_in _ ⟨by omega, by omega⟩
  have hq : wrap64 ((f - 25).tdiv 9) = (f - 25) / 9 := by rw [Int.tdiv_eq_ediv_of_nonneg (by omega)]; exact IntWalk.wrap64_in _ ⟨by omega, by omega⟩
  have hr : (f - 25).tmod 9 = (f - 25) % 9 := Int.tmod_eq_emod_of_nonneg (by omega)
  exact bodyPost_ret (v := .tuple #[.string sKeep, .int .i64 ((f - 25) / 9), .int .i64 ((f - 25) % 9)]) (by simp [sKeep, results, Tryd.results13, go_sem, ha, hq, hr]) rfl ⟨rfl, below_alloc (Below.refl _ _) _⟩
set_option maxRecDepth 20000 in
theorem rWhere_span (f : Int) (h : 79 ≤ f ∧ f < 85) (w : World) : Calls Tryd.prog 13 #[ad 0 0 f] w fun e w' => e = .returned (.tuple #[.string sSpan, .int .i64 (f - 79), .int .i64 (0)]) ∧ Below w.heap.size w w' := by
  have HK := Lib.hid h
  have k00 : decide (f < 0) = false := decide_eq_false (by omega)
  have k01 : decide (85 ≤ f) = false := decide_eq_false (by omega)
  have k1 : decide (f < 24) = false := decide_eq_false (by omega)
  have k2 : (f == 24) = false := beq_eq_false_iff_ne.2 (by omega)
  have k3 : decide (f < 79) = false := decide_eq_false (by omega)
  clear h
  unfold ad
  go_enter Tryd.func13, Tryd.ntmps13
  go_wp2
  have hk := HK.out
  have ha : wrap64 (f - 79) = f - 79 := IntWalk.wrap64_in _ ⟨by omega, by omega⟩
  exact bodyPost_ret (v := .tuple #[.string sSpan, .int .i64 (f - 79), .int .i64 (0)]) (by simp [sSpan, results, Tryd.results13, go_sem, ha]) rfl ⟨rfl, below_alloc (Below.refl _ _) _⟩
set_option maxRecDepth 20000 in
theorem rWhere_no (s g f : Int) (h : ¬ (s = 0 ∧ g = 0) ∨ ((s = 0 ∧ g = 0) ∧ ¬ (0 ≤ f ∧ f < 85))) (w : World) : Calls Tryd.prog 13 #[ad s g f] w fun e w' => e = .returned (.tuple #[.string ⟨#[]⟩, .int .i64 0, .int .i64 0]) ∧ Below w.heap.size w w' := by
  have h' : ¬ s = 0 ∨ (s = 0 ∧ ¬ g = 0) ∨ (s = 0 ∧ g = 0 ∧ f < 0) ∨ (s = 0 ∧ g = 0 ∧ ¬ f < 0 ∧ 85 ≤ f) := by omega
  clear h
  unfold ad
  rcases h' with h | ⟨rfl, h⟩ | ⟨rfl, rfl, h⟩ | ⟨rfl, rfl, h, h2⟩
  · go_enter Tryd.func13, Tryd.ntmps13
    go_wp2
    exact bodyPost_ret (v := .tuple #[.string ⟨#[]⟩, .int .i64 0, .int .i64 0]) (by simp [results, Tryd.results13, go_sem]) rfl ⟨rfl, below_alloc (Below.refl _ _) _⟩
  · go_enter Tryd.func13, Tryd.ntmps13
    go_wp2
    exact bodyPost_ret (v := .tuple #[.string ⟨#[]⟩, .int .i64 0, .int .i64 0]) (by simp [results, Tryd.results13, go_sem]) rfl ⟨rfl, below_alloc (Below.refl _ _) _⟩
  · go_enter Tryd.func13, Tryd.ntmps13
    go_wp2
    exact bodyPost_ret (v := .tuple #[.string ⟨#[]⟩, .int .i64 0, .int .i64 0]) (by simp [results, Tryd.results13, go_sem]) rfl ⟨rfl, below_alloc (Below.refl _ _) _⟩
  · have k : decide (f < 0) = false := decide_eq_false h
    clear h
    go_enter Tryd.func13, Tryd.ntmps13
    go_wp2
    exact bodyPost_ret (v := .tuple #[.string ⟨#[]⟩, .int .i64 0, .int .i64 0]) (by simp [results, Tryd.results13, go_sem]) rfl ⟨rfl, below_alloc (Below.refl _ _) _⟩
end Go.Proofs.YtnjlodgdedodgaaDoor
