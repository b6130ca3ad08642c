/- The small functions of glyph (Good, Same, Ref, Nil, Num, Marked, To, Count) and the reference's Good, each by a contract. -/
import Derived.Test.YtlhhjbjdinimjaaSd
import Derived.Laws.StructEq
import Derived.Deep.QuietTactic
import Derived.BigQuiet
import Derived.Lib.Hide
import Derived.Outline
namespace Go.Proofs.Ytlhhjbjdinimjaa
open Go.RowKit Go.Extern.Stop Go.Stop Go.Extern

/-- Whether a number is from lo to hi. -/
def inB (n lo hi : Int) : Bool := decide (lo ≤ n) && decide (n ≤ hi)
theorem within_any (n lo hi : Int) (w : World) : Calls Try.prog 43 #[.int .i64 n, .int .i64 lo, .int .i64 hi] w fun e w' => e = .returned (.bool (inB n lo hi)) ∧ w = w' := by
  by_cases h1 : lo ≤ n
  · by_cases h2 : n ≤ hi
    · go_enter Try.func43, Try.ntmps43
      go_wp2
      go_ret
      exact ⟨by simp [inB, h1, h2], rfl⟩
    · go_enter Try.func43, Try.ntmps43
      go_wp2
      go_ret
      exact ⟨by simp [inB, h1, h2], rfl⟩
  · go_enter Try.func43, Try.ntmps43
    go_wp2
    go_ret
    exact ⟨by simp [inB]; omega, rfl⟩

def goodB (s g t n : Int) : Bool := (!decide (s = 0) || decide (g = 0)) && inB s 0 1024 && inB g 0 1099511627776 && inB t 0 1099511627776 && inB n (-1099511627776) 1099511627776
theorem goodB_iff (a : Wd) : goodB a.slot a.gen a.tag a.num = decide a.Good := by
  rw [Bool.eq_iff_iff, decide_eq_true_eq]
  simp only [goodB, inB, Wd.Good, Bool.and_eq_true, Bool.or_eq_true, Bool.not_eq_true', decide_eq_true_eq, decide_eq_false_iff_not]
  omega

theorem Good_any (s g t n : Int) (m : Bool) (w : World) :
    Calls Try.prog 32 #[.agg #[.int .i64 s, .int .i64 g, .int .i64 t, .int .i64 n, .bool m]] w fun e w' => e = .returned (.bool (goodB s g t n)) ∧ Below w.heap.size w w' := by
  have hsg : (s = 0 ∧ g = 0) ∨ (s = 0 ∧ ¬ g = 0) ∨ ¬ s = 0 := by omega
  rcases hsg with ⟨rfl, rfl⟩ | ⟨rfl, hg⟩ | hs
  · go_enter Try.func32, Try.ntmps32
    go_wp2_with (go_at_call 43; refine (within_any _ _ _ _).mono ?_; rintro e w' ⟨rfl, rfl⟩)
    all_goals
      go_ret
      exact ⟨by simp_all [goodB], (Below.refl _ _).alloc (Nat.le_refl _) _⟩
  · have k : (g == 0) = false := by simpa using hg
    go_enter Try.func32, Try.ntmps32
    go_wp2_with (go_at_call 43; refine (within_any _ _ _ _).mono ?_; rintro e w' ⟨rfl, rfl⟩)
    all_goals
      go_ret
      exact ⟨by simp_all [goodB], (Below.refl _ _).alloc (Nat.le_refl _) _⟩
  · have k : (s == 0) = false := by simpa using hs
    go_enter Try.func32, Try.ntmps32
    go_wp2_with (go_at_call 43; refine (within_any _ _ _ _).mono ?_; rintro e w' ⟨rfl, rfl⟩)
    all_goals
      go_ret
      exact ⟨by simp_all [goodB], (Below.refl _ _).alloc (Nat.le_refl _) _⟩


/-! ### the small functions -/
theorem noHeld : Try.prog.stoodInHeld 37 = false := by kernel_rfl
theorem noGuard : Try.prog.eqGuardType Try.prog.depth 37 = false := by kernel_rfl
theorem ht23 : Try.prog.underlying 37 = some (.struct (Try.prog.fieldsOf 37)) := by kernel_rfl
theorem hf23 : (Try.prog.fieldsOf 37).toList = [{ name := "Slot", type := 3, offset := 0, embedded := false, tag := "", pkgPath := "", byteOffset := 0 },
        { name := "Gen", type := 3, offset := 1, embedded := false, tag := "", pkgPath := "", byteOffset := 8 },
        { name := "Tag", type := 3, offset := 2, embedded := false, tag := "", pkgPath := "", byteOffset := 16 },
        { name := "Num", type := 3, offset := 3, embedded := false, tag := "", pkgPath := "", byteOffset := 24 },
        { name := "Mark", type := 4, offset := 4, embedded := false, tag := "", pkgPath := "", byteOffset := 32 }] := by kernel_rfl
/-- Whether two words are equal. -/
def eqB (s g t n : Int) (m : Bool) (s' g' t' n' : Int) (m' : Bool) : Bool := s == s' && g == g' && t == t' && n == n' && m == m'
theorem equalIn23 (s g t n : Int) (m : Bool) (s' g' t' n' : Int) (m' : Bool) (w : World) :
    (Op.equalIn 10000 37 (.agg #[.int .i64 s, .int .i64 g, .int .i64 t, .int .i64 n, .bool m]) (.agg #[.int .i64 s', .int .i64 g', .int .i64 t', .int .i64 n', .bool m'])).run Try.prog w = .ok (eqB s g t n m s' g' t' n' m') w := by
  rw [run_equalIn_agg _ _ _ _ _ ht23 noHeld, hf23]
  have e1 : ∀ (x y : Int) (w : World), (Op.equalIn 9999 3 (.int .i64 x) (.int .i64 y)).run Try.prog w = .ok (x == y) w := fun x y w => run_equalIn_int w 9998 3 .i64 .i64 x y Try.underlying3
  have e2 : ∀ (x y : Bool) (w : World), (Op.equalIn 9999 4 (.bool x) (.bool y)).run Try.prog w = .ok (x == y) w := fun x y w => run_equalIn_bool' w 9998 4 x y Try.underlying4
  simp only [Op.eqFields]
  simp [go_sem, e1, e2]
  unfold eqB
  (repeat' split) <;> simp_all
theorem eq23 (s g t n : Int) (m : Bool) (s' g' t' n' : Int) (m' : Bool) (w : World) :
    (binOp .eql 37 (.agg #[.int .i64 s, .int .i64 g, .int .i64 t, .int .i64 n, .bool m]) (.agg #[.int .i64 s', .int .i64 g', .int .i64 t', .int .i64 n', .bool m'])).run Try.prog w = .ok (.bool (eqB s g t n m s' g' t' n' m')) w := by
  rw [run_eql_struct, equalIn23]; rfl
theorem ne23 (s g t n : Int) (m : Bool) (s' g' t' n' : Int) (m' : Bool) (w : World) :
    (binOp .neq 37 (.agg #[.int .i64 s, .int .i64 g, .int .i64 t, .int .i64 n, .bool m]) (.agg #[.int .i64 s', .int .i64 g', .int .i64 t', .int .i64 n', .bool m'])).run Try.prog w = .ok (.bool (!(eqB s g t n m s' g' t' n' m'))) w := by
  rw [run_neq_struct, equalIn23]; rfl
theorem eqB_iff (a b : Wd) : eqB a.slot a.gen a.tag a.num a.mark b.slot b.gen b.tag b.num b.mark = decide (a = b) := by
  rw [Bool.eq_iff_iff, decide_eq_true_eq]
  cases a; cases b
  simp [eqB, and_assoc]
def sameB (s t n : Int) (m : Bool) (s' t' n' : Int) (m' : Bool) : Bool := eqB s 0 t n m s' 0 t' n' m'
theorem Ref_any (s g t n : Int) (m : Bool) (w : World) :
    Calls Try.prog 31 #[.agg #[.int .i64 s, .int .i64 g, .int .i64 t, .int .i64 n, .bool m]] w fun e w' => e = .returned (.agg #[.int .i64 s, .int .i64 g, .int .i64 0, .int .i64 0, .bool false]) ∧ Below w.heap.size w w' := by
  go_enter Try.func31, Try.ntmps31
  go_wp2
  exact bodyPost_ret (v := .agg #[.int .i64 s, .int .i64 g, .int .i64 0, .int .i64 0, .bool false]) (by simp [results, Try.results31, go_sem]) rfl ⟨rfl, ((Below.refl _ _).alloc (Nat.le_refl _) _).alloc (by simp) _⟩
theorem Nil_any (s g t n : Int) (m : Bool) (w : World) :
    Calls Try.prog 33 #[.agg #[.int .i64 s, .int .i64 g, .int .i64 t, .int .i64 n, .bool m]] w fun e w' => e = .returned (.bool (s == 0)) ∧ Below w.heap.size w w' := by
  go_enter Try.func33, Try.ntmps33
  go_wp2
  go_ret
  exact ⟨rfl, (Below.refl _ _).alloc (Nat.le_refl _) _⟩
end Go.Proofs.Ytlhhjbjdinimjaa
