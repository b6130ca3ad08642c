/- The small functions of glyph (Good, Same, Ref, Nil, Num, Marked, To, Count) and the reference's Good, each by a contract. -/
import Derived.Test.YtihjklimcchkhaaGreatDoorBlk
import Derived.Test.YtihjklimcchkhaaGreatDoorWDM
import Derived.Laws.StructEq
import Derived.Deep.QuietTactic
import Derived.BigQuiet
import Derived.Lib.Hide
import Derived.Outline
namespace Go.Proofs.YtihjklimcchkhaaGreatDoor
open Go.RowKit Go.Extern.Stop Go.Stop Go.Extern

/-! ### the small functions -/
theorem noHeld : Tryz.prog.stoodInHeld 34 = false := by kernel_rfl
theorem noGuard : Tryz.prog.eqGuardType Tryz.prog.depth 34 = false := by kernel_rfl
theorem ht23 : Tryz.prog.underlying 34 = some (.struct (Tryz.prog.fieldsOf 34)) := by kernel_rfl
theorem hf23 : (Tryz.prog.fieldsOf 34).toList = [{ name := "Slot", type := 3, offset := 0, embedded := false, tag := "", pkgPath := "", byteOffset := 0 },
        { name := "Gen", type := 3, offset := 1, embedded := false, tag := "", pkgPath := "", byteOffset := 8 },
        { name := "Tag", type := 3, offset := 2, embedded := false, tag := "", pkgPath := "", byteOffset := 16 },
        { name := "Num", type := 3, offset := 3, embedded := false, tag := "", pkgPath := "", byteOffset := 24 },
        { name := "Mark", type := 4, offset := 4, embedded := false, tag := "", pkgPath := "", byteOffset := 32 }] := by kernel_rfl
/-- Whether two words are equal. -/
def eqB (s g t n : Int) (m : Bool) (s' g' t' n' : Int) (m' : Bool) : Bool := s == s' && g == g' && t == t' && n == n' && m == m'
theorem equalIn23 (s g t n : Int) (m : Bool) (s' g' t' n' : Int) (m' : Bool) (w : World) :
    (Op.equalIn 10000 34 (.agg #[.int .i64 s, .int .i64 g, .int .i64 t, .int .i64 n, .bool m]) (.agg #[.int .i64 s', .int .i64 g', .int .i64 t', .int .i64 n', .bool m'])).run Tryz.prog w = .ok (eqB s g t n m s' g' t' n' m') w := by
  rw [run_equalIn_agg _ _ _ _ _ ht23 noHeld, hf23]
  have e1 : ∀ (x y : Int) (w : World), (Op.equalIn 9999 3 (.int .i64 x) (.int .i64 y)).run Tryz.prog w = .ok (x == y) w := fun x y w => run_equalIn_int w 9998 3 .i64 .i64 x y Tryz.underlying3
  have e2 : ∀ (x y : Bool) (w : World), (Op.equalIn 9999 4 (.bool x) (.bool y)).run Tryz.prog w = .ok (x == y) w := fun x y w => run_equalIn_bool' w 9998 4 x y Tryz.underlying4
  simp only [Op.eqFields]
  simp [go_sem, e1, e2]
  unfold eqB
  (repeat' split) <;> simp_all
theorem eq23 (s g t n : Int) (m : Bool) (s' g' t' n' : Int) (m' : Bool) (w : World) :
    (binOp .eql 34 (.agg #[.int .i64 s, .int .i64 g, .int .i64 t, .int .i64 n, .bool m]) (.agg #[.int .i64 s', .int .i64 g', .int .i64 t', .int .i64 n', .bool m'])).run Tryz.prog w = .ok (.bool (eqB s g t n m s' g' t' n' m')) w := by
  rw [run_eql_struct, equalIn23]; rfl
theorem ne23 (s g t n : Int) (m : Bool) (s' g' t' n' : Int) (m' : Bool) (w : World) :
    (binOp .neq 34 (.agg #[.int .i64 s, .int .i64 g, .int .i64 t, .int .i64 n, .bool m]) (.agg #[.int .i64 s', .int .i64 g', .int .i64 t', .int .i64 n', .bool m'])).run Tryz.prog w = .ok (.bool (!(eqB s g t n m s' g' t' n' m'))) w := by
  rw [run_neq_struct, equalIn23]; rfl
theorem eqB_iff (a b : Wd) : eqB a.slot a.gen a.tag a.num a.mark b.slot b.gen b.tag b.num b.mark = decide (a = b) := by
  rw [Bool.eq_iff_iff, decide_eq_true_eq]
  cases a; cases b
  simp [eqB, and_assoc]
def sameB (s t n : Int) (m : Bool) (s' t' n' : Int) (m' : Bool) : Bool := eqB s 0 t n m s' 0 t' n' m'
theorem Same_any (s g t n : Int) (m : Bool) (s' g' t' n' : Int) (m' : Bool) (w : World) :
    Calls Tryz.prog 96 #[.agg #[.int .i64 s, .int .i64 g, .int .i64 t, .int .i64 n, .bool m], .agg #[.int .i64 s', .int .i64 g', .int .i64 t', .int .i64 n', .bool m']] w fun e w' => e = .returned (.bool (sameB s t n m s' t' n' m')) ∧ Below w.heap.size w w' := by
  have k1 := noHeld
  have k2 := noGuard
  have k3 := eq23
  go_enter Tryz.func96, Tryz.ntmps96
  go_wp2
  go_ret
  exact ⟨rfl, ((Below.refl _ _).alloc (Nat.le_refl _) _).alloc (by simp) _⟩
theorem Ref_any (s g t n : Int) (m : Bool) (w : World) :
    Calls Tryz.prog 45 #[.agg #[.int .i64 s, .int .i64 g, .int .i64 t, .int .i64 n, .bool m]] w fun e w' => e = .returned (.agg #[.int .i64 s, .int .i64 g, .int .i64 0, .int .i64 0, .bool false]) ∧ Below w.heap.size w w' := by
  go_enter Tryz.func45, Tryz.ntmps45
  go_wp2
  exact bodyPost_ret (v := .agg #[.int .i64 s, .int .i64 g, .int .i64 0, .int .i64 0, .bool false]) (by simp [results, Tryz.results45, go_sem]) rfl ⟨rfl, ((Below.refl _ _).alloc (Nat.le_refl _) _).alloc (by simp) _⟩
theorem Nil_any (s g t n : Int) (m : Bool) (w : World) :
    Calls Tryz.prog 21 #[.agg #[.int .i64 s, .int .i64 g, .int .i64 t, .int .i64 n, .bool m]] w fun e w' => e = .returned (.bool (s == 0)) ∧ Below w.heap.size w w' := by
  go_enter Tryz.func21, Tryz.ntmps21
  go_wp2
  go_ret
  exact ⟨rfl, (Below.refl _ _).alloc (Nat.le_refl _) _⟩
theorem Num_any (n : Int) (w : World) :
    Calls Tryz.prog 81 #[.int .i64 n] w fun e w' => e = .returned (.agg #[.int .i64 0, .int .i64 0, .int .i64 0, .int .i64 n, .bool false]) ∧ Below w.heap.size w w' := by
  go_enter Tryz.func81, Tryz.ntmps81
  go_wp2
  exact bodyPost_ret (v := .agg #[.int .i64 0, .int .i64 0, .int .i64 0, .int .i64 n, .bool false]) (by simp [results, Tryz.results81, go_sem]) rfl ⟨rfl, (Below.refl _ _).alloc (Nat.le_refl _) _⟩
set_option maxHeartbeats 1000000 in
theorem To_any (s g t n : Int) (m : Bool) (s' g' t' n' : Int) (m' : Bool) (w : World) :
    Calls Tryz.prog 82 #[.agg #[.int .i64 s, .int .i64 g, .int .i64 t, .int .i64 n, .bool m], .agg #[.int .i64 s', .int .i64 g', .int .i64 t', .int .i64 n', .bool m']] w fun e w' => e = .returned (.agg #[.int .i64 s', .int .i64 g', .int .i64 (wrap64 (t + 1)), .int .i64 0, .bool false]) ∧ Below w.heap.size w w' := by
  go_enter Tryz.func82, Tryz.ntmps82
  go_wp2_with fail
  refine (Ref_any _ _ _ _ _ _).mono ?_
  rintro e w1 ⟨rfl, hb⟩
  obtain ⟨hc, hf⟩ := bcell hb
  have hz := hb.size
  simp only [World.size_alloc] at hc hf hz
  have hz0 : w.heap.size < w1.heap.size := by omega
  have hz1 : w.heap.size + 1 < w1.heap.size := by omega
  have hz2 : w.heap.size + 1 + 1 < w1.heap.size := by omega
  have HB : Hid _ := hb
  have HZ : Hid _ := hz
  clear hb hz
  go_wp2
  refine bodyPost_ret (v := .agg #[.int .i64 s', .int .i64 g', .int .i64 (wrap64 (t + 1)), .int .i64 0, .bool false]) (by simp [results, Tryz.results82, go_sem, hc, hz2]) rfl ⟨rfl, ?_⟩
  clear hc hf
  have hb : Below w.heap.size w w1 := below_trans (below_alloc (below_alloc (below_alloc (Below.refl _ _) _) _) _) HB.out
  clear HB
  repeat (first | with_reducible exact hb | with_reducible refine below_alloc ?_ _ | with_reducible refine below_set ?_ _ _ _ (by omega))
set_option maxHeartbeats 1000000 in
theorem Count_any (s g t n : Int) (m : Bool) (k : Int) (w : World) :
    Calls Tryz.prog 157 #[.agg #[.int .i64 s, .int .i64 g, .int .i64 t, .int .i64 n, .bool m], .int .i64 k] w fun e w' => e = .returned (.agg #[.int .i64 0, .int .i64 0, .int .i64 (wrap64 (t + 1)), .int .i64 (wrap64 (n + k)), .bool false]) ∧ Below w.heap.size w w' := by
  go_enter Tryz.func157, Tryz.ntmps157
  go_wp2_with fail
  refine (Num_any _ _).mono ?_
  rintro e w1 ⟨rfl, hb⟩
  obtain ⟨hc, hf⟩ := bcell hb
  have hz := hb.size
  simp only [World.size_alloc] at hc hf hz
  have hz0 : w.heap.size < w1.heap.size := by omega
  have hz1 : w.heap.size + 1 < w1.heap.size := by omega
  have HB : Hid _ := hb
  have HZ : Hid _ := hz
  clear hb hz
  go_wp2
  refine bodyPost_ret (v := .agg #[.int .i64 0, .int .i64 0, .int .i64 (wrap64 (t + 1)), .int .i64 (wrap64 (n + k)), .bool false]) (by simp [results, Tryz.results157, go_sem, hc, hz1]) rfl ⟨rfl, ?_⟩
  clear hc hf
  have hb : Below w.heap.size w w1 := below_trans (below_alloc (below_alloc (Below.refl _ _) _) _) HB.out
  clear HB
  repeat (first | with_reducible exact hb | with_reducible refine below_alloc ?_ _ | with_reducible refine below_set ?_ _ _ _ (by omega))
end Go.Proofs.YtihjklimcchkhaaGreatDoor
