/- cortege: can, Start; the reference's Start; Next of no job; the == of operations and of calls. A template (made by gen_XCg.py). -/
import Derived.Test.YtihjklimcchkhaaDoorCf
import Derived.Test.YtihjklimcchkhaaDoorCr
namespace Go.Proofs.YtihjklimcchkhaaDoor.Co
open Go.RowKit Go.Extern.Stop Go.Stop Go.Extern Go.Sort
/-- Which operations can be. -/
def Po.Can (o : Po) : Prop := o.key = 0 ∧ o.tall = 0 ∧ ((o.kind = 4 ∧ 0 ≤ o.val ∧ o.val ≤ 1073741824) ∨ (o.kind = 5 ∧ o.val = 0))
instance (o : Po) : Decidable o.Can := by unfold Po.Can; infer_instance
theorem oHeld : Tryd.prog.stoodInHeld 23 = false := by kernel_rfl
theorem oGuard : Tryd.prog.eqGuardType Tryd.prog.depth 23 = false := by kernel_rfl
theorem oT : Tryd.prog.underlying 23 = some (.struct (Tryd.prog.fieldsOf 23)) := by kernel_rfl
theorem oF : (Tryd.prog.fieldsOf 23).toList = [{ name := "Kind", type := 3, offset := 0, embedded := false, tag := "", pkgPath := "", byteOffset := 0 },
        { name := "Key", type := 3, offset := 1, embedded := false, tag := "", pkgPath := "", byteOffset := 8 },
        { name := "Val", type := 3, offset := 2, embedded := false, tag := "", pkgPath := "", byteOffset := 16 },
        { name := "Tall", type := 3, offset := 3, embedded := false, tag := "", pkgPath := "", byteOffset := 24 }] := by kernel_rfl
def opB (a b c d a' b' c' d' : Int) : Bool := a == a' && b == b' && c == c' && d == d'
theorem opEqIn (a b c d a' b' c' d' : Int) (w : World) : (Op.equalIn 10000 23 (.agg #[.int .i64 a, .int .i64 b, .int .i64 c, .int .i64 d]) (.agg #[.int .i64 a', .int .i64 b', .int .i64 c', .int .i64 d'])).run Tryd.prog w = .ok (opB a b c d a' b' c' d') w := by
  rw [run_equalIn_agg _ _ _ _ _ oT oHeld, oF]
  have e1 : ∀ (x y : Int) (w : World), (Op.equalIn 9999 3 (.int .i64 x) (.int .i64 y)).run Tryd.prog w = .ok (x == y) w := fun x y w => run_equalIn_int w 9998 3 .i64 .i64 x y Tryd.underlying3
  simp only [Op.eqFields]
  simp [go_sem, e1]
  unfold opB
  (repeat' split) <;> simp_all
theorem op_eq (a b c d a' b' c' d' : Int) (w : World) : (binOp .eql 23 (.agg #[.int .i64 a, .int .i64 b, .int .i64 c, .int .i64 d]) (.agg #[.int .i64 a', .int .i64 b', .int .i64 c', .int .i64 d'])).run Tryd.prog w = .ok (.bool (opB a b c d a' b' c' d')) w := by
  rw [run_eql_struct, opEqIn]; rfl
/-! ### a call's == -/
theorem cHeldA : Tryd.prog.stoodInHeld 35 = false := by kernel_rfl
theorem cHeldW : Tryd.prog.stoodInHeld 37 = false := by kernel_rfl
theorem cHeldN : Tryd.prog.stoodInHeld 39 = false := by kernel_rfl
theorem cHeld : Tryd.prog.stoodInHeld 41 = false := by kernel_rfl
theorem cGuard : Tryd.prog.eqGuardType Tryd.prog.depth 41 = false := by kernel_rfl
theorem cTA : Tryd.prog.underlying 35 = some (.struct (Tryd.prog.fieldsOf 35)) := by kernel_rfl
theorem cTW : Tryd.prog.underlying 37 = some (.struct (Tryd.prog.fieldsOf 37)) := by kernel_rfl
theorem cTN : Tryd.prog.underlying 39 = some (.struct (Tryd.prog.fieldsOf 39)) := by kernel_rfl
theorem cT : Tryd.prog.underlying 41 = some (.struct (Tryd.prog.fieldsOf 41)) := by kernel_rfl
theorem cFA : (Tryd.prog.fieldsOf 35).toList = [{ name := "Slot", type := 3, offset := 0, embedded := false, tag := "", pkgPath := "", byteOffset := 0 },
        { name := "Gen", type := 3, offset := 1, embedded := false, tag := "", pkgPath := "", byteOffset := 8 },
        { name := "Field", type := 3, offset := 2, embedded := false, tag := "", pkgPath := "", byteOffset := 16 }] := by kernel_rfl
theorem cFW : (Tryd.prog.fieldsOf 37).toList = [{ name := "Slot", type := 3, offset := 0, embedded := false, tag := "", pkgPath := "", byteOffset := 0 },
        { name := "Gen", type := 3, offset := 1, embedded := false, tag := "", pkgPath := "", byteOffset := 8 },
        { name := "Tag", type := 3, offset := 2, embedded := false, tag := "", pkgPath := "", byteOffset := 16 },
        { name := "Num", type := 3, offset := 3, embedded := false, tag := "", pkgPath := "", byteOffset := 24 },
        { name := "Mark", type := 4, offset := 4, embedded := false, tag := "", pkgPath := "", byteOffset := 32 }] := by kernel_rfl
theorem cFN : (Tryd.prog.fieldsOf 39).toList = [{ name := "Code", type := 3, offset := 0, embedded := false, tag := "", pkgPath := "", byteOffset := 0 },
        { name := "Val", type := 3, offset := 1, embedded := false, tag := "", pkgPath := "", byteOffset := 8 }] := by kernel_rfl
theorem cF : (Tryd.prog.fieldsOf 41).toList = [{ name := "Kind", type := 3, offset := 0, embedded := false, tag := "", pkgPath := "", byteOffset := 0 },
        { name := "At", type := 35, offset := 1, embedded := false, tag := "", pkgPath := "", byteOffset := 8 },
        { name := "Old", type := 37, offset := 4, embedded := false, tag := "", pkgPath := "", byteOffset := 32 },
        { name := "New", type := 37, offset := 9, embedded := false, tag := "", pkgPath := "", byteOffset := 72 },
        { name := "I", type := 3, offset := 14, embedded := false, tag := "", pkgPath := "", byteOffset := 112 },
        { name := "J", type := 3, offset := 15, embedded := false, tag := "", pkgPath := "", byteOffset := 120 },
        { name := "Answer", type := 39, offset := 16, embedded := false, tag := "", pkgPath := "", byteOffset := 128 }] := by kernel_rfl
theorem eqA9 (s g f : Int) (w : World) : (Op.equalIn 9999 35 (.agg #[.int .i64 s, .int .i64 g, .int .i64 f]) (.agg #[.int .i64 s, .int .i64 g, .int .i64 f])).run Tryd.prog w = .ok true w := by
  rw [run_equalIn_struct _ 9998 _ _ _ cTA cHeldA, cFA]
  have e1 : ∀ (x y : Int) (w : World), (Op.equalIn 9998 3 (.int .i64 x) (.int .i64 y)).run Tryd.prog w = .ok (x == y) w := fun x y w => run_equalIn_int w 9997 3 .i64 .i64 x y Tryd.underlying3
  simp only [Op.eqFields]
  simp [go_sem, e1]
theorem eqN9 (s g : Int) (w : World) : (Op.equalIn 9999 39 (.agg #[.int .i64 s, .int .i64 g]) (.agg #[.int .i64 s, .int .i64 g])).run Tryd.prog w = .ok true w := by
  rw [run_equalIn_struct _ 9998 _ _ _ cTN cHeldN, cFN]
  have e1 : ∀ (x y : Int) (w : World), (Op.equalIn 9998 3 (.int .i64 x) (.int .i64 y)).run Tryd.prog w = .ok (x == y) w := fun x y w => run_equalIn_int w 9997 3 .i64 .i64 x y Tryd.underlying3
  simp only [Op.eqFields]
  simp [go_sem, e1]
theorem eqW9 (s g t n : Int) (m : Bool) (w : World) : (Op.equalIn 9999 37 (.agg #[.int .i64 s, .int .i64 g, .int .i64 t, .int .i64 n, .bool m]) (.agg #[.int .i64 s, .int .i64 g, .int .i64 t, .int .i64 n, .bool m])).run Tryd.prog w = .ok true w := by
  rw [run_equalIn_struct _ 9998 _ _ _ cTW cHeldW, cFW]
  have e1 : ∀ (x y : Int) (w : World), (Op.equalIn 9998 3 (.int .i64 x) (.int .i64 y)).run Tryd.prog w = .ok (x == y) w := fun x y w => run_equalIn_int w 9997 3 .i64 .i64 x y Tryd.underlying3
  have e2 : ∀ (x y : Bool) (w : World), (Op.equalIn 9998 4 (.bool x) (.bool y)).run Tryd.prog w = .ok (x == y) w := fun x y w => run_equalIn_bool' w 9997 4 x y Tryd.underlying4
  simp only [Op.eqFields]
  simp [go_sem, e1, e2]
theorem partA (k s g f s1 g1 t1 n1 s2 g2 t2 n2 i j c v : Int) (m1 m2 : Bool) (w : World) : (part 35 #[.int .i64 k, .int .i64 s, .int .i64 g, .int .i64 f, .int .i64 s1, .int .i64 g1, .int .i64 t1, .int .i64 n1, .bool m1, .int .i64 s2, .int .i64 g2, .int .i64 t2, .int .i64 n2, .bool m2, .int .i64 i, .int .i64 j, .int .i64 c, .int .i64 v] 1).run Tryd.prog w = .ok (.agg #[.int .i64 s, .int .i64 g, .int .i64 f]) w := by kernel_rfl
theorem partO (k s g f s1 g1 t1 n1 s2 g2 t2 n2 i j c v : Int) (m1 m2 : Bool) (w : World) : (part 37 #[.int .i64 k, .int .i64 s, .int .i64 g, .int .i64 f, .int .i64 s1, .int .i64 g1, .int .i64 t1, .int .i64 n1, .bool m1, .int .i64 s2, .int .i64 g2, .int .i64 t2, .int .i64 n2, .bool m2, .int .i64 i, .int .i64 j, .int .i64 c, .int .i64 v] 4).run Tryd.prog w = .ok (.agg #[.int .i64 s1, .int .i64 g1, .int .i64 t1, .int .i64 n1, .bool m1]) w := by kernel_rfl
theorem partN (k s g f s1 g1 t1 n1 s2 g2 t2 n2 i j c v : Int) (m1 m2 : Bool) (w : World) : (part 37 #[.int .i64 k, .int .i64 s, .int .i64 g, .int .i64 f, .int .i64 s1, .int .i64 g1, .int .i64 t1, .int .i64 n1, .bool m1, .int .i64 s2, .int .i64 g2, .int .i64 t2, .int .i64 n2, .bool m2, .int .i64 i, .int .i64 j, .int .i64 c, .int .i64 v] 9).run Tryd.prog w = .ok (.agg #[.int .i64 s2, .int .i64 g2, .int .i64 t2, .int .i64 n2, .bool m2]) w := by kernel_rfl
theorem partR (k s g f s1 g1 t1 n1 s2 g2 t2 n2 i j c v : Int) (m1 m2 : Bool) (w : World) : (part 39 #[.int .i64 k, .int .i64 s, .int .i64 g, .int .i64 f, .int .i64 s1, .int .i64 g1, .int .i64 t1, .int .i64 n1, .bool m1, .int .i64 s2, .int .i64 g2, .int .i64 t2, .int .i64 n2, .bool m2, .int .i64 i, .int .i64 j, .int .i64 c, .int .i64 v] 16).run Tryd.prog w = .ok (.agg #[.int .i64 c, .int .i64 v]) w := by kernel_rfl
theorem eqC (k s g f s1 g1 t1 n1 s2 g2 t2 n2 i j c v : Int) (m1 m2 : Bool) (w : World) : (Op.equalIn 10000 41 (.agg #[.int .i64 k, .int .i64 s, .int .i64 g, .int .i64 f, .int .i64 s1, .int .i64 g1, .int .i64 t1, .int .i64 n1, .bool m1, .int .i64 s2, .int .i64 g2, .int .i64 t2, .int .i64 n2, .bool m2, .int .i64 i, .int .i64 j, .int .i64 c, .int .i64 v]) (.agg #[.int .i64 k, .int .i64 s, .int .i64 g, .int .i64 f, .int .i64 s1, .int .i64 g1, .int .i64 t1, .int .i64 n1, .bool m1, .int .i64 s2, .int .i64 g2, .int .i64 t2, .int .i64 n2, .bool m2, .int .i64 i, .int .i64 j, .int .i64 c, .int .i64 v])).run Tryd.prog w = .ok true w := by
  rw [run_equalIn_struct _ 9999 _ _ _ cT cHeld, cF]
  have e1 : ∀ (x y : Int) (w : World), (Op.equalIn 9999 3 (.int .i64 x) (.int .i64 y)).run Tryd.prog w = .ok (x == y) w := fun x y w => run_equalIn_int w 9998 3 .i64 .i64 x y Tryd.underlying3
  simp only [Op.eqFields]
  simp [Sem.run_bind, partA, partO, partN, partR, eqA9, eqW9, eqN9]
  simp [go_sem, e1]
theorem call_ne (c : Ca) (w : World) : (binOp .neq 41 (.agg (cac c).toArray) (.agg (cac c).toArray)).run Tryd.prog w = .ok (.bool false) w := by
  rw [run_neq_struct, show ((cac c).toArray : Array Value) = #[.int .i64 c.c.kind, .int .i64 c.c.s, .int .i64 c.c.g, .int .i64 c.c.f, .int .i64 c.c.old.slot, .int .i64 c.c.old.gen, .int .i64 c.c.old.tag, .int .i64 c.c.old.num, .bool c.c.old.mark, .int .i64 c.c.new.slot, .int .i64 c.c.new.gen, .int .i64 c.c.new.tag, .int .i64 c.c.new.num, .bool c.c.new.mark, .int .i64 c.c.i, .int .i64 c.c.j, .int .i64 c.code, .int .i64 c.aval] from rfl, eqC]; rfl
section
variable {w w' : World} {b : Nat} {j j' : Jb}
set_option maxRecDepth 100000 in
set_option maxHeartbeats 1000000 in
theorem can_yes (o : Po) (ho : o.Can) (w : World) : Calls Tryd.prog 10 #[opv o] w fun e w' => e = .returned (.bool true) ∧ Below w.heap.size w w' := by
  obtain ⟨k, key, v, t⟩ := o
  obtain ⟨h1, h2, h3⟩ := ho
  simp only at h1 h2 h3
  subst h1 h2
  unfold opv
  have k1 := oHeld
  have k2 := oGuard
  rcases h3 with ⟨rfl, h4, h5⟩ | ⟨rfl, rfl⟩
  · have h1 : ¬ v < 0 := by omega
    have h2 : ¬ 1073741824 < v := by omega
    clear h4 h5
    go_enter Tryd.func10, Tryd.ntmps10
    go_wp2_with fail
    go_ret
    exact ⟨rfl, below_alloc (Below.refl _ _) _⟩
  · go_enter Tryd.func10, Tryd.ntmps10
    go_wp2_with fail
    go_ret
    exact ⟨rfl, below_alloc (Below.refl _ _) _⟩
set_option maxRecDepth 100000 in
set_option maxHeartbeats 1000000 in
theorem can_no (o : Po) (ho : ¬ o.Can) (w : World) : Calls Tryd.prog 10 #[opv o] w fun e w' => e = .returned (.bool false) ∧ Below w.heap.size w w' := by
  obtain ⟨k, key, v, t⟩ := o
  unfold opv
  have k1 := oHeld
  have k2 := oGuard
  have k3 := op_eq
  have hc : (k = 4 ∧ v < 0) ∨ (k = 4 ∧ ¬ v < 0 ∧ 1073741824 < v) ∨ (k = 4 ∧ ¬ v < 0 ∧ ¬ 1073741824 < v ∧ opB 4 key 0 t 4 0 0 0 = false) ∨ (k = 5 ∧ opB 5 key v t 5 0 0 0 = false) ∨ ((k == 4) = false ∧ (k == 5) = false) := by
    have ho' : ¬ (key = 0 ∧ t = 0 ∧ ((k = 4 ∧ 0 ≤ v ∧ v ≤ 1073741824) ∨ (k = 5 ∧ v = 0))) := ho
    have e1 : opB 4 key 0 t 4 0 0 0 = false ↔ ¬ (key = 0 ∧ t = 0) := by simp [opB]
    have e2 : opB 5 key v t 5 0 0 0 = false ↔ ¬ (key = 0 ∧ v = 0 ∧ t = 0) := by simp [opB]
    rw [e1, e2]
    simp only [beq_eq_false_iff_ne, ne_eq]
    omega
  clear ho
  rcases hc with ⟨rfl, h1⟩ | ⟨rfl, h1, h2⟩ | ⟨rfl, h1, h2, h3⟩ | ⟨rfl, h3⟩ | ⟨h1, h2⟩
  all_goals
    go_enter Tryd.func10, Tryd.ntmps10
    go_wp2_with fail
    go_ret
    exact ⟨rfl, below_alloc (Below.refl _ _) _⟩
set_option maxRecDepth 100000 in
set_option maxHeartbeats 1000000 in
theorem Start_yes (o : Po) (ho : o.Can) (w : World) :
    Calls Tryd.prog 5 #[opv o] w fun e w' => ∃ b, e = .returned (.tuple #[.pointer (some ⟨b, 0, none⟩), .nilIface]) ∧ w.heap.size ≤ b ∧ Hid (JAt w' b (Jb.new o)) ∧ Hid (Below w.heap.size w w') := by
  have HC := Lib.hid (can_yes o ho)
  unfold opv at HC
  clear ho
  unfold opv
  go_enter Tryd.func5, Tryd.ntmps5
  go_wp2_with fail
  refine (HC.out _).mono ?_
  rintro e w1 ⟨rfl, hb⟩
  have hX := (BlkW.new w 23 #[.int .i64 o.kind, .int .i64 o.key, .int .i64 o.val, .int .i64 o.tall]).below hb
  have HB := Lib.hid (below_trans (below_alloc (Below.refl _ _) _) hb)
  clear hb
  have hz := hX.lt
  have b0 : w1.cell? ⟨w.heap.size, 0, none⟩ = some (.int .i64 o.kind) := hX.cell 0
  have b1 : w1.cell? ⟨w.heap.size, 1, none⟩ = some (.int .i64 o.key) := hX.cell 1
  have b2 : w1.cell? ⟨w.heap.size, 2, none⟩ = some (.int .i64 o.val) := hX.cell 2
  have b3 : w1.cell? ⟨w.heap.size, 3, none⟩ = some (.int .i64 o.tall) := hX.cell 3
  clear hX
  generalize w.heap.size = g at hz b0 b1 b2 b3 ⊢
  go_wp2_with fail
  exact bodyPost_ret (v := .tuple #[.pointer (some ⟨w1.heap.size, 0, none⟩), .nilIface]) (by simp [results, Tryd.results5, go_sem]) rfl ⟨w1.heap.size, rfl, HB.out.size, Lib.hid (BlkW.new w1 51 (jc (Jb.new o)).toArray), Lib.hid (below_trans HB.out (below_alloc (Below.refl _ _) _))⟩
set_option maxRecDepth 100000 in
set_option maxHeartbeats 1000000 in
theorem Start_no (o : Po) (ho : ¬ o.Can) (a : Addr) (w : World) (L : Bd.HasArg w a) :
    Calls Tryd.prog 5 #[opv o] w fun e w' => ∃ u, e = .returned (.tuple #[.pointer none, u]) ∧ Ch w' (.iface 93 (.pointer (some a))) [8] u ∧ Below w.heap.size w w' := by
  have HC := Lib.hid (can_no o ho)
  unfold opv at HC
  clear ho
  unfold opv
  have HL := Lib.hid L
  clear L
  go_enter Tryd.func5, Tryd.ntmps5
  go_wp2_with fail
  refine (HC.out _).mono ?_
  rintro e w1 ⟨rfl, hb⟩
  have HB := Lib.hid (below_trans (below_alloc (Below.refl _ _) _) hb)
  clear hb
  have L1 := Bd.cell_keep HL.out HB.out
  have hz := lt_of_cell L1
  unfold Bd.HasArg at HL
  go_wp2_with fail
  refine (At_some 8 _ _ _).mono ?_
  rintro e w2 ⟨rfl, rfl⟩
  go_wp2
  go_ret2
  exact ⟨_, rfl, Ch.push 8 Ch.base, below_trans HB.out (below_alloc (Below.refl _ _) _)⟩
set_option maxRecDepth 100000 in
set_option maxHeartbeats 1000000 in
theorem rStart_yes (o : Po) (ho : o.Can) (w : World) :
    Calls Tryd.prog 6 #[opv o] w fun e w' => ∃ b, e = .returned (.pointer (some ⟨b, 0, none⟩)) ∧ w.heap.size ≤ b ∧ Hid (UAt w' b (Rf.new o)) ∧ Hid (Below w.heap.size w w') := by
  have hb := below_alloc (Below.refl w.heap.size w) (.cells #[.int .i64 o.kind, .int .i64 o.key, .int .i64 o.val, .int .i64 o.tall] 23)
  have HB := Lib.hid (below_alloc hb (.cells (uc (Rf.new o)).toArray 53))
  have hn := BlkW.new (w.alloc (.cells #[.int .i64 o.kind, .int .i64 o.key, .int .i64 o.val, .int .i64 o.tall] 23)) 53 (uc (Rf.new o)).toArray
  have hs := hb.size
  rw [World.size_alloc] at hn hs
  have HN := Lib.hid hn
  have HZ := Lib.hid hs
  clear hn hs
  clear hb
  obtain ⟨k, key, v, t⟩ := o
  obtain ⟨h1, h2, h3⟩ := ho
  simp only at h1 h2 h3
  subst h1 h2
  unfold opv
  rcases h3 with ⟨rfl, h4, h5⟩ | ⟨rfl, rfl⟩
  · have h1 : ¬ v < 0 := by omega
    have h2 : ¬ 1073741824 < v := by omega
    clear h4 h5
    go_enter Tryd.func6, Tryd.ntmps6
    go_wp2
    go_ret
    exact ⟨_, rfl, HZ.out, HN, HB⟩
  · go_enter Tryd.func6, Tryd.ntmps6
    go_wp2
    go_ret
    exact ⟨_, rfl, HZ.out, HN, HB⟩
set_option maxRecDepth 100000 in
set_option maxHeartbeats 1000000 in
theorem rStart_no (o : Po) (ho : ¬ o.Can) (w : World) :
    Calls Tryd.prog 6 #[opv o] w fun e w' => e = .returned (.pointer none) ∧ Below w.heap.size w w' := by
  obtain ⟨k, key, v, t⟩ := o
  unfold opv
  have hc : k < 4 ∨ (¬ k < 4 ∧ 5 < k) ∨ (¬ k < 4 ∧ ¬ 5 < k ∧ (key != 0) = true) ∨ (¬ k < 4 ∧ ¬ 5 < k ∧ (key != 0) = false ∧ (t != 0) = true) ∨ (¬ k < 4 ∧ ¬ 5 < k ∧ (key != 0) = false ∧ (t != 0) = false ∧ v < 0) ∨ (¬ k < 4 ∧ ¬ 5 < k ∧ (key != 0) = false ∧ (t != 0) = false ∧ ¬ v < 0 ∧ 1073741824 < v) ∨ (¬ k < 4 ∧ ¬ 5 < k ∧ (key != 0) = false ∧ (t != 0) = false ∧ ¬ v < 0 ∧ ¬ 1073741824 < v ∧ (k != 4) = true ∧ (v != 0) = true) := by
    have ho' : ¬ (key = 0 ∧ t = 0 ∧ ((k = 4 ∧ 0 ≤ v ∧ v ≤ 1073741824) ∨ (k = 5 ∧ v = 0))) := ho
    simp only [bne_iff_ne, bne_eq_false_iff_eq, ne_eq]
    omega
  clear ho
  rcases hc with h1 | ⟨h1, h2⟩ | ⟨h1, h2, h3⟩ | ⟨h1, h2, h3, h4⟩ | ⟨h1, h2, h3, h4, h5⟩ | ⟨h1, h2, h3, h4, h5, h6⟩ | ⟨h1, h2, h3, h4, h5, h6, h7, h8⟩
  all_goals
    go_enter Tryd.func6, Tryd.ntmps6
    go_wp2
    go_ret
    exact ⟨rfl, below_alloc (Below.refl _ _) _⟩
set_option maxRecDepth 100000 in
set_option maxHeartbeats 1000000 in
theorem jnone (w : World) : Calls Tryd.prog 8 #[.pointer none, rpv (zw, false)] w fun e w' => e = .returned (cav za) ∧ Below w.heap.size w w' := by
  have hb := below_alloc (Below.refl w.heap.size w) (.cells (rpc (zw, false)).toArray 44)
  have HB := Lib.hid (below_alloc hb (.cells (cac za).toArray 41))
  have hq := BlkW.new (w.alloc (.cells (rpc (zw, false)).toArray 44)) 41 (cac za).toArray
  rw [World.size_alloc] at hq
  have HQ := Lib.hid hq
  clear hq hb
  unfold rpv
  go_enter Tryd.func8, Tryd.ntmps8
  go_upto_region 1 with fail
  show Code.wp _ _ _ _ ((w.alloc (.cells (rpc (zw, false)).toArray 44)).alloc (.cells (cac za).toArray 41))
  generalize (w.alloc (.cells (rpc (zw, false)).toArray 44)).alloc (.cells (cac za).toArray 41) = W at HB HQ ⊢
  have HG : Hid (w.heap.size ≤ w.heap.size + 1) := Lib.hid (by omega)
  obtain ⟨g, hg⟩ : ∃ g, g = w.heap.size := ⟨_, rfl⟩
  rw [← hg] at HQ ⊢
  have HGE := Lib.hid hg
  clear hg
  go_wp2_with (refine wp_store_c HQ.out rfl (.tmp 4) (.tmp 7) rfl (by rfl) za (by rfl) ?_; intro W9 k1 k2; have K1 := Lib.hid k1; have K2 := Lib.hid k2; clear k1 k2)
  exact bodyPost_ret (v := cav za) (rresults rfl _ (by rfl) (rans_load K1.out)) rfl ⟨rfl, below_low HB.out (K2.out.below (B := w.heap.size) (fun j e => by rw [e, HGE.out]; exact HG.out) HB.out.size)⟩
end
end Go.Proofs.YtihjklimcchkhaaDoor.Co
