/- The == of notes; the functions that keep (slotKeeps, eraKeeps, spanKeeps); note. A template (fill.py). -/
import Derived.Test.YtlhhjbjdinimjaaSb
namespace Go.Proofs.Ytlhhjbjdinimjaa
open Go.RowKit Go.Extern.Stop Go.Stop Go.Extern Go.Sort

theorem heldW : Try.prog.stoodInHeld 37 = false := by kernel_rfl
theorem heldN : Try.prog.stoodInHeld 39 = false := by kernel_rfl
theorem guardN : Try.prog.eqGuardType Try.prog.depth 39 = false := by kernel_rfl
theorem htW : Try.prog.underlying 37 = some (.struct (Try.prog.fieldsOf 37)) := by kernel_rfl
theorem htN : Try.prog.underlying 39 = some (.struct (Try.prog.fieldsOf 39)) := by kernel_rfl
theorem hfW : (Try.prog.fieldsOf 37).toList = [{ name := "Slot", type := 3, offset := 0, embedded := false, tag := "", pkgPath := "", byteOffset := 0 },
        { name := "Gen", type := 3, offset := 1, embedded := false, tag := "", pkgPath := "", byteOffset := 8 },
        { name := "Tag", type := 3, offset := 2, embedded := false, tag := "", pkgPath := "", byteOffset := 16 },
        { name := "Num", type := 3, offset := 3, embedded := false, tag := "", pkgPath := "", byteOffset := 24 },
        { name := "Mark", type := 4, offset := 4, embedded := false, tag := "", pkgPath := "", byteOffset := 32 }] := by kernel_rfl
theorem hfN : (Try.prog.fieldsOf 39).toList = [{ name := "Ref", type := 37, offset := 0, embedded := false, tag := "", pkgPath := "", byteOffset := 0 },
        { name := "Birth", type := 3, offset := 5, embedded := false, tag := "", pkgPath := "", byteOffset := 40 },
        { name := "Death", type := 3, offset := 6, embedded := false, tag := "", pkgPath := "", byteOffset := 48 }] := by kernel_rfl
/-- Whether two words, two notes are equal. -/
def eqW (s g t n : Int) (m : Bool) (s' g' t' n' : Int) (m' : Bool) : Bool := s == s' && g == g' && t == t' && n == n' && m == m'
def eqN (s g t n : Int) (m : Bool) (b d : Int) (s' g' t' n' : Int) (m' : Bool) (b' d' : Int) : Bool := eqW s g t n m s' g' t' n' m' && b == b' && d == d'
theorem equalW (s g t n : Int) (m : Bool) (s' g' t' n' : Int) (m' : Bool) (w : World) :
    (Op.equalIn 9999 37 (.agg #[.int .i64 s, .int .i64 g, .int .i64 t, .int .i64 n, .bool m]) (.agg #[.int .i64 s', .int .i64 g', .int .i64 t', .int .i64 n', .bool m'])).run Try.prog w = .ok (eqW s g t n m s' g' t' n' m') w := by
  rw [run_equalIn_struct _ 9998 _ _ _ htW heldW, hfW]
  have e1 : ∀ (x y : Int) (w : World), (Op.equalIn 9998 3 (.int .i64 x) (.int .i64 y)).run Try.prog w = .ok (x == y) w := fun x y w => run_equalIn_int w 9997 3 .i64 .i64 x y Try.underlying3
  have e2 : ∀ (x y : Bool) (w : World), (Op.equalIn 9998 4 (.bool x) (.bool y)).run Try.prog w = .ok (x == y) w := fun x y w => run_equalIn_bool' w 9997 4 x y Try.underlying4
  simp only [Op.eqFields]
  simp [go_sem, e1, e2]
  unfold eqW
  (repeat' split) <;> simp_all
theorem partW (s g t n : Int) (m : Bool) (b d : Int) (w : World) : (part 37 #[.int .i64 s, .int .i64 g, .int .i64 t, .int .i64 n, .bool m, .int .i64 b, .int .i64 d] 0).run Try.prog w = .ok (.agg #[.int .i64 s, .int .i64 g, .int .i64 t, .int .i64 n, .bool m]) w := by kernel_rfl
theorem equalN (s g t n : Int) (m : Bool) (b d : Int) (s' g' t' n' : Int) (m' : Bool) (b' d' : Int) (w : World) :
    (Op.equalIn 10000 39 (.agg #[.int .i64 s, .int .i64 g, .int .i64 t, .int .i64 n, .bool m, .int .i64 b, .int .i64 d]) (.agg #[.int .i64 s', .int .i64 g', .int .i64 t', .int .i64 n', .bool m', .int .i64 b', .int .i64 d'])).run Try.prog w = .ok (eqN s g t n m b d s' g' t' n' m' b' d') w := by
  rw [run_equalIn_struct _ 9999 _ _ _ htN heldN, hfN]
  have e1 : ∀ (x y : Int) (w : World), (Op.equalIn 9999 3 (.int .i64 x) (.int .i64 y)).run Try.prog w = .ok (x == y) w := fun x y w => run_equalIn_int w 9998 3 .i64 .i64 x y Try.underlying3
  simp only [Op.eqFields]
  simp [Sem.run_bind, partW, equalW]
  simp [go_sem, e1]
  unfold eqN
  (repeat' split) <;> simp_all
theorem eqlN (s g t n : Int) (m : Bool) (b d : Int) (s' g' t' n' : Int) (m' : Bool) (b' d' : Int) (w : World) :
    (binOp .eql 39 (.agg #[.int .i64 s, .int .i64 g, .int .i64 t, .int .i64 n, .bool m, .int .i64 b, .int .i64 d]) (.agg #[.int .i64 s', .int .i64 g', .int .i64 t', .int .i64 n', .bool m', .int .i64 b', .int .i64 d'])).run Try.prog w = .ok (.bool (eqN s g t n m b d s' g' t' n' m' b' d')) w := by
  rw [run_eql_struct, equalN]; rfl
theorem neqN (s g t n : Int) (m : Bool) (b d : Int) (s' g' t' n' : Int) (m' : Bool) (b' d' : Int) (w : World) :
    (binOp .neq 39 (.agg #[.int .i64 s, .int .i64 g, .int .i64 t, .int .i64 n, .bool m, .int .i64 b, .int .i64 d]) (.agg #[.int .i64 s', .int .i64 g', .int .i64 t', .int .i64 n', .bool m', .int .i64 b', .int .i64 d'])).run Try.prog w = .ok (.bool (!(eqN s g t n m b d s' g' t' n' m' b' d'))) w := by
  rw [run_neq_struct, equalN]; rfl
theorem eqN_iff (a b : Nt) : eqN a.ref.slot a.ref.gen a.ref.tag a.ref.num a.ref.mark a.birth a.death b.ref.slot b.ref.gen b.ref.tag b.ref.num b.ref.mark b.birth b.death = decide (a = b) := by
  rw [Bool.eq_iff_iff, decide_eq_true_eq]
  obtain ⟨⟨_, _, _, _, _⟩, _, _⟩ := a; obtain ⟨⟨_, _, _, _, _⟩, _, _⟩ := b
  simp [eqN, eqW, and_assoc]

/-! ### what keeps a note -/
def slotK (k : Wd) (n : Nt) : Bool := k.slot == n.ref.slot
def eraK (k : Int) (n : Nt) : Bool := decide (0 < k) && decide (n.birth ≤ k) && decide (k ≤ n.death)
def spanK (k : Sp) (n : Nt) : Bool := k.is && decide (k.low ≤ n.death) && decide (n.birth ≤ k.high)
theorem slotKeeps_any (k : Wd) (n : Nt) (w : World) : Calls Try.prog 24 #[wv k, nv n] w fun e w' => e = .returned (.bool (slotK k n)) ∧ Below w.heap.size w w' := by
  unfold wv nv slotK
  go_enter Try.func24, Try.ntmps24
  go_wp2
  go_ret
  exact ⟨rfl, below_alloc (below_alloc (Below.refl _ _) _) _⟩
theorem eraKeeps_any (k : Int) (n : Nt) (w : World) : Calls Try.prog 26 #[iv k, nv n] w fun e w' => e = .returned (.bool (eraK k n)) ∧ Below w.heap.size w w' := by
  unfold iv nv eraK
  obtain ⟨⟨s, g, t, u, m⟩, b, d⟩ := n
  by_cases h1 : 0 < k
  · by_cases h2 : b ≤ k
    · go_enter Try.func26, Try.ntmps26
      go_wp2
      go_ret
      exact ⟨by simp [h1, h2], below_alloc (Below.refl _ _) _⟩
    · go_enter Try.func26, Try.ntmps26
      go_wp2
      go_ret
      exact ⟨by simp; omega, below_alloc (Below.refl _ _) _⟩
  · go_enter Try.func26, Try.ntmps26
    go_wp2
    go_ret
    exact ⟨by simp; omega, below_alloc (Below.refl _ _) _⟩
theorem spanKeeps_any (k : Sp) (n : Nt) (w : World) : Calls Try.prog 28 #[sv k, nv n] w fun e w' => e = .returned (.bool (spanK k n)) ∧ Below w.heap.size w w' := by
  unfold sv nv spanK
  obtain ⟨⟨s, g, t, u, m⟩, b, d⟩ := n
  obtain ⟨is, lo, hi⟩ := k
  cases is with
  | true =>
    by_cases h2 : lo ≤ d
    · go_enter Try.func28, Try.ntmps28
      go_wp2
      go_ret
      exact ⟨by simp [h2], below_alloc (below_alloc (Below.refl _ _) _) _⟩
    · go_enter Try.func28, Try.ntmps28
      go_wp2
      go_ret
      exact ⟨by simp; omega, below_alloc (below_alloc (Below.refl _ _) _) _⟩
  | false =>
    go_enter Try.func28, Try.ntmps28
    go_wp2
    go_ret
    exact ⟨by simp, below_alloc (below_alloc (Below.refl _ _) _) _⟩
/-- Epochs' own: what is retired too short a time ahead of the clock. -/
def epochK (now : Int) (n : Nt) : Bool := decide (now < -9223372036854775806) || decide (wrap64 (now - 2) < n.death)
theorem note_any (s b d : Int) (w : World) : Calls Try.prog 18 #[.int .i64 s, .int .i64 b, .int .i64 d] w fun e w' => e = .returned (nv ⟨⟨s, 1, 0, 0, false⟩, b, d⟩) ∧ Below w.heap.size w w' := by
  unfold nv
  go_enter Try.func18, Try.ntmps18
  go_wp2
  exact bodyPost_ret (v := .agg #[.int .i64 s, .int .i64 1, .int .i64 0, .int .i64 0, .bool false, .int .i64 b, .int .i64 d]) (by simp [results, Try.results18, go_sem]) rfl ⟨rfl, below_alloc (Below.refl _ _) _⟩
end Go.Proofs.Ytlhhjbjdinimjaa
