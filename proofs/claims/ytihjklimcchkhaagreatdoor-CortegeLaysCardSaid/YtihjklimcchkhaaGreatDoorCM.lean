/- cortege: an answer's box. A template (made by split of gen_XCr.py's text). -/
/- cortege: can, Start; the reference's Start; Next of no job; the == of operations and of calls. A template (made by gen_XCg.py). -/
/- The awake law of cortege's seat. A template (made by gen_XCh.py). -/
import Derived.Test.YtihjklimcchkhaaGreatDoorCW
import Derived.Test.YtihjklimcchkhaaGreatDoorCD
namespace Go.Proofs.YtihjklimcchkhaaGreatDoor.Co
open Go.RowKit Go.Extern.Stop Go.Stop Go.Extern Go.Sort
section
variable {w w' : World} {b q : Nat} {c : Ca}
theorem wp_store_c {ops : Array Oper} {rest : List Oper} {op : Oper} {a : Act} {W : World} {Q : Exit → Act → World → Prop} (hq : BlkW W q 51 (cac za).toArray) (hgd : op.guard = none) (px py : Operand) (hop : op.op = .store 51 px py)
    (hx : a.eval px = .pointer (some ⟨q, 0, none⟩)) (c : Ca) (hy : a.eval py = .agg (cac c).toArray)
    (k : ∀ w', BlkW w' q 51 (cac c).toArray → Off (fun j => j = q) W w' → wpList Tryz.prog ops Q rest (a.put op.dst undef) w') : wpList Tryz.prog ops Q (op :: rest) a W := by
  refine wpList_store_mid hgd 51 px py hop q 0 (cac c).toArray hx hy (there_of_blk hq 0 18 (by decide)) (show (Tryz.prog.info? 51).map (·.size) = some (cac c).toArray.size from infoCl) (cac_one c) ?_
  have h1 : BlkW (W.setCells q 0 (cac c)) q 51 (cac c).toArray := by
    have h1 := blk_puts (cac c) 0 hq
    rwa [show putL (cac za) 0 (cac c) = cac c from by kernel_rfl] at h1
  exact k _ h1 (Off.sets (K := fun j => j = q) (.inl rfl) _ 0 (Off.refl _ W))
theorem infoWd : (Tryz.prog.info? 34).map (·.size) = some 5 := by kernel_rfl
theorem blk_range {W : World} {g : Nat} {t : TypeId} {l : List Value} (h : BlkW W g t l.toArray) (o : Nat) (cs : List Value) (e : (l.drop o).take cs.length = cs) : W.rangeAt g o cs := fun j v hv => by
  have hj : j < cs.length := (List.getElem?_eq_some_iff.1 hv).1
  rw [BlkW.cell h, List.getElem?_toArray]
  rw [← e, List.getElem?_take_of_lt (by simpa using hj), List.getElem?_drop] at hv
  exact hv
theorem below_low {B : Nat} {a x y : World} (h : Below B a x) (k : Below B x y) : Below B a y := h.trans k
end
end Go.Proofs.YtihjklimcchkhaaGreatDoor.Co

namespace Go.Proofs.YtihjklimcchkhaaGreatDoor.Co
open Go.RowKit Go.Extern.Stop Go.Stop Go.Extern Go.Sort
/-- Which operations can be. -/
def Po.Can (o : Po) : Prop := o.key = 0 ∧ o.tall = 0 ∧ ((o.kind = 4 ∧ 0 ≤ o.val ∧ o.val ≤ 1073741824) ∨ (o.kind = 5 ∧ o.val = 0))
instance (o : Po) : Decidable o.Can := by unfold Po.Can; infer_instance
theorem oHeld : Tryz.prog.stoodInHeld 78 = false := by kernel_rfl
theorem oGuard : Tryz.prog.eqGuardType Tryz.prog.depth 78 = false := by kernel_rfl
theorem oT : Tryz.prog.underlying 78 = some (.struct (Tryz.prog.fieldsOf 78)) := by kernel_rfl
theorem oF : (Tryz.prog.fieldsOf 78).toList = [{ name := "Kind", type := 3, offset := 0, embedded := false, tag := "", pkgPath := "", byteOffset := 0 },
        { name := "Key", type := 3, offset := 1, embedded := false, tag := "", pkgPath := "", byteOffset := 8 },
        { name := "Val", type := 3, offset := 2, embedded := false, tag := "", pkgPath := "", byteOffset := 16 },
        { name := "Tall", type := 3, offset := 3, embedded := false, tag := "", pkgPath := "", byteOffset := 24 }] := by kernel_rfl
def opB (a b c d a' b' c' d' : Int) : Bool := a == a' && b == b' && c == c' && d == d'
theorem opEqIn (a b c d a' b' c' d' : Int) (w : World) : (Op.equalIn 10000 78 (.agg #[.int .i64 a, .int .i64 b, .int .i64 c, .int .i64 d]) (.agg #[.int .i64 a', .int .i64 b', .int .i64 c', .int .i64 d'])).run Tryz.prog w = .ok (opB a b c d a' b' c' d') w := by
  rw [run_equalIn_agg _ _ _ _ _ oT oHeld, oF]
  have e1 : ∀ (x y : Int) (w : World), (Op.equalIn 9999 3 (.int .i64 x) (.int .i64 y)).run Tryz.prog w = .ok (x == y) w := fun x y w => run_equalIn_int w 9998 3 .i64 .i64 x y Tryz.underlying3
  simp only [Op.eqFields]
  simp [go_sem, e1]
  unfold opB
  (repeat' split) <;> simp_all
theorem op_eq (a b c d a' b' c' d' : Int) (w : World) : (binOp .eql 78 (.agg #[.int .i64 a, .int .i64 b, .int .i64 c, .int .i64 d]) (.agg #[.int .i64 a', .int .i64 b', .int .i64 c', .int .i64 d'])).run Tryz.prog w = .ok (.bool (opB a b c d a' b' c' d')) w := by
  rw [run_eql_struct, opEqIn]; rfl
/-! ### a call's == -/
theorem cHeld : Tryz.prog.stoodInHeld 51 = false := by kernel_rfl
theorem cGuard : Tryz.prog.eqGuardType Tryz.prog.depth 51 = false := by kernel_rfl
section
variable {w w' : World} {b : Nat} {j j' : Jb}
set_option maxRecDepth 100000 in
set_option maxHeartbeats 1000000 in
theorem can_yes (o : Po) (ho : o.Can) (w : World) : Calls Tryz.prog 101 #[opv o] w fun e w' => e = .returned (.bool true) ∧ Below w.heap.size w w' := by
  obtain ⟨k, key, v, t⟩ := o
  obtain ⟨h1, h2, h3⟩ := ho
  simp only at h1 h2 h3
  subst h1 h2
  unfold opv
  have k1 := oHeld
  have k2 := oGuard
  rcases h3 with ⟨rfl, h4, h5⟩ | ⟨rfl, rfl⟩
  · have h1 : ¬ v < 0 := by omega
    have h2 : ¬ 1073741824 < v := by omega
    clear h4 h5
    go_enter Tryz.func101, Tryz.ntmps101
    go_wp2_with fail
    go_ret
    exact ⟨rfl, below_alloc (Below.refl _ _) _⟩
  · go_enter Tryz.func101, Tryz.ntmps101
    go_wp2_with fail
    go_ret
    exact ⟨rfl, below_alloc (Below.refl _ _) _⟩
set_option maxRecDepth 100000 in
set_option maxHeartbeats 1000000 in
theorem can_no (o : Po) (ho : ¬ o.Can) (w : World) : Calls Tryz.prog 101 #[opv o] w fun e w' => e = .returned (.bool false) ∧ Below w.heap.size w w' := by
  obtain ⟨k, key, v, t⟩ := o
  unfold opv
  have k1 := oHeld
  have k2 := oGuard
  have k3 := op_eq
  have hc : (k = 4 ∧ v < 0) ∨ (k = 4 ∧ ¬ v < 0 ∧ 1073741824 < v) ∨ (k = 4 ∧ ¬ v < 0 ∧ ¬ 1073741824 < v ∧ opB 4 key 0 t 4 0 0 0 = false) ∨ (k = 5 ∧ opB 5 key v t 5 0 0 0 = false) ∨ ((k == 4) = false ∧ (k == 5) = false) := by
    have ho' : ¬ (key = 0 ∧ t = 0 ∧ ((k = 4 ∧ 0 ≤ v ∧ v ≤ 1073741824) ∨ (k = 5 ∧ v = 0))) := ho
    have e1 : opB 4 key 0 t 4 0 0 0 = false ↔ ¬ (key = 0 ∧ t = 0) := by simp [opB]
    have e2 : opB 5 key v t 5 0 0 0 = false ↔ ¬ (key = 0 ∧ v = 0 ∧ t = 0) := by simp [opB]
    rw [e1, e2]
    simp only [beq_eq_false_iff_ne, ne_eq]
    omega
  clear ho
  rcases hc with ⟨rfl, h1⟩ | ⟨rfl, h1, h2⟩ | ⟨rfl, h1, h2, h3⟩ | ⟨rfl, h3⟩ | ⟨h1, h2⟩
  all_goals
    go_enter Tryz.func101, Tryz.ntmps101
    go_wp2_with fail
    go_ret
    exact ⟨rfl, below_alloc (Below.refl _ _) _⟩
set_option maxRecDepth 100000 in
set_option maxHeartbeats 1000000 in
theorem Start_yes (o : Po) (ho : o.Can) (w : World) :
    Calls Tryz.prog 73 #[opv o] w fun e w' => ∃ b, e = .returned (.tuple #[.pointer (some ⟨b, 0, none⟩), .nilIface]) ∧ w.heap.size ≤ b ∧ Hid (JAt w' b (Jb.new o)) ∧ Hid (Below w.heap.size w w') := by
  have HC := Lib.hid (can_yes o ho)
  unfold opv at HC
  clear ho
  unfold opv
  go_enter Tryz.func73, Tryz.ntmps73
  go_wp2_with fail
  refine (HC.out _).mono ?_
  rintro e w1 ⟨rfl, hb⟩
  have hX := (BlkW.new w 78 #[.int .i64 o.kind, .int .i64 o.key, .int .i64 o.val, .int .i64 o.tall]).below hb
  have HB := Lib.hid (below_trans (below_alloc (Below.refl _ _) _) hb)
  clear hb
  have hz := hX.lt
  have b0 : w1.cell? ⟨w.heap.size, 0, none⟩ = some (.int .i64 o.kind) := hX.cell 0
  have b1 : w1.cell? ⟨w.heap.size, 1, none⟩ = some (.int .i64 o.key) := hX.cell 1
  have b2 : w1.cell? ⟨w.heap.size, 2, none⟩ = some (.int .i64 o.val) := hX.cell 2
  have b3 : w1.cell? ⟨w.heap.size, 3, none⟩ = some (.int .i64 o.tall) := hX.cell 3
  clear hX
  generalize w.heap.size = g at hz b0 b1 b2 b3 ⊢
  go_wp2_with fail
  exact bodyPost_ret (v := .tuple #[.pointer (some ⟨w1.heap.size, 0, none⟩), .nilIface]) (by simp [results, Tryz.results73, go_sem]) rfl ⟨w1.heap.size, rfl, HB.out.size, Lib.hid (BlkW.new w1 176 (jc (Jb.new o)).toArray), Lib.hid (below_trans HB.out (below_alloc (Below.refl _ _) _))⟩
set_option maxRecDepth 100000 in
set_option maxHeartbeats 1000000 in
theorem Start_no (o : Po) (ho : ¬ o.Can) (a : Addr) (w : World) (L : Bd.HasArg w a) :
    Calls Tryz.prog 73 #[opv o] w fun e w' => ∃ u, e = .returned (.tuple #[.pointer none, u]) ∧ Ch w' (.iface 260 (.pointer (some a))) [8] u ∧ Below w.heap.size w w' := by
  have HC := Lib.hid (can_no o ho)
  unfold opv at HC
  clear ho
  unfold opv
  have HL := Lib.hid L
  clear L
  go_enter Tryz.func73, Tryz.ntmps73
  go_wp2_with fail
  refine (HC.out _).mono ?_
  rintro e w1 ⟨rfl, hb⟩
  have HB := Lib.hid (below_trans (below_alloc (Below.refl _ _) _) hb)
  clear hb
  have L1 := Bd.cell_keep HL.out HB.out
  have hz := lt_of_cell L1
  unfold Bd.HasArg at HL
  go_wp2_with fail
  refine (At_some 8 _ _ _).mono ?_
  rintro e w2 ⟨rfl, rfl⟩
  go_wp2
  go_ret2
  exact ⟨_, rfl, Ch.push 8 Ch.base, below_trans HB.out (below_alloc (Below.refl _ _) _)⟩
end
end Go.Proofs.YtihjklimcchkhaaGreatDoor.Co

namespace Go.Proofs.YtihjklimcchkhaaGreatDoor.Co
open Go.RowKit Go.Extern.Stop Go.Stop Go.Extern Go.Sort
/-- A job and boxes beside it, in a world that came from w. -/
def Ax (W w : World) (b : Nat) (j : Jb) (bx : List (Nat × TypeId × Array Value)) : Prop := JAt W b j ∧ w.heap.size ≤ b ∧ Below w.heap.size w W ∧ ∀ x, x ∈ bx → BlkW W x.1 x.2.1 x.2.2 ∧ x.1 ≠ b
instance (j : Jb) : Decidable (JOk j) := by unfold JOk; infer_instance
section
variable {W W' w : World} {b : Nat} {j : Jb} {bx : List (Nat × TypeId × Array Value)}
theorem Ax.below (h : Ax W w b j bx) (hb : Below W.heap.size W W') : Ax W' w b j bx :=
  ⟨h.1.below hb, h.2.1, below_low h.2.2.1 (hb.mono h.2.2.1.size), fun x hx => ⟨(h.2.2.2 x hx).1.below hb, (h.2.2.2 x hx).2⟩⟩
theorem Ax.box (h : Ax W w b j bx) (t : TypeId) (cs : Array Value) : Ax (W.alloc (.cells cs t)) w b j ((W.heap.size, t, cs) :: bx) := by
  have h' := h.below (below_alloc (Below.refl W.heap.size W) (.cells cs t))
  refine ⟨h'.1, h'.2.1, h'.2.2.1, fun x hx => ?_⟩
  rcases List.mem_cons.1 hx with rfl | hx
  · exact ⟨BlkW.new _ _ _, fun e => by have := BlkW.lt h.1; simp only at e; omega⟩
  · exact h'.2.2.2 x hx
theorem Ax.put (h : Ax W w b j bx) {c : Ca} (k1 : BlkW W' W.heap.size 51 (cac c).toArray) (k2 : Off (fun i => i = W.heap.size) (W.alloc (.cells (cac za).toArray 51)) W') : Ax W' w b j ((W.heap.size, 51, (cac c).toArray) :: bx) := by
  have h' := h.box 51 (cac za).toArray
  have hlt := BlkW.lt h.1
  refine ⟨k2.blk h'.1 (fun e => by have e : b = W.heap.size := e; omega), h'.2.1, below_low h'.2.2.1 (k2.below (fun i e => by rw [e]; exact h.2.2.1.size) h'.2.2.1.size), fun x hx => ?_⟩
  rcases List.mem_cons.1 hx with rfl | hx
  · exact ⟨k1, fun e => by have e : W.heap.size = b := e; omega⟩
  · have hx' := h.2.2.2 x hx
    exact ⟨k2.blk (hx'.1.below (below_alloc (Below.refl _ _) _)) (fun e => by have := BlkW.lt hx'.1; omega), hx'.2⟩
theorem wpList_load_w {ops : Array Oper} {rest : List Oper} {op : Oper} {a : Act} {w : World} {Q : Exit → Act → World → Prop} (hw : Region.wanted op (yielded ops a.tmps) = true) (ty : TypeId) (x : Operand) (ho : op.op = .load ty x)
    (b o : Nat) (hx : a.eval x = .pointer (some ⟨b, o, none⟩)) (cs : List Value) (d : TypeDesc) (hc : w.rangeAt b o cs)
    (hu : Tryz.prog.underlying ty = some d) (hd : d.isRow = true) (hi : (Tryz.prog.info? ty).map (·.size) = some cs.length)
    (h : wpList Tryz.prog ops Q rest (a.put op.dst (.agg cs.toArray)) w) : wpList Tryz.prog ops Q (op :: rest) a w :=
  wpList_step fun K hK => by
    simp only [hw, if_true]
    exact wp_load_mid ty x ho b o hx cs d hc hu hd hi (hK _ _ h)
theorem Ax.range (h : Ax W w b j bx) (g : Nat) (c : Ca) (hx : (g, 51, (cac c).toArray) ∈ bx) : W.rangeAt g 0 (cac c) := blk_range ((h.2.2.2 _ hx).1) 0 _ (by kernel_rfl)
theorem Ax.next (h : Ax W w b j bx) (x : Wd × Bool) (ok : JOk j) {c : Ca} (hc : (j.go x).ca = c) : Calls Tryz.prog 74 #[.pointer (some ⟨b, 0, none⟩), rpv x] W fun e w' => e = .returned (.agg (cac c).toArray) ∧ Hid (Ax w' w b (j.go x) bx) :=
  (jnext_is h.1 x ok).mono fun e w' ⟨he, h1, h2⟩ => ⟨hc ▸ he, Lib.hid ⟨h1.out, h.2.1, below_low h.2.2.1 (h2.out.below (fun j e => by rw [e]; exact h.2.1) h.2.2.1.size), fun x hx => ⟨h2.out.blk (h.2.2.2 x hx).1 (h.2.2.2 x hx).2, (h.2.2.2 x hx).2⟩⟩⟩
theorem Ax.get (h : Ax W w b j bx) (x : Nat × TypeId × Array Value) (hx : x ∈ bx) : BlkW W x.1 x.2.1 x.2.2 := (h.2.2.2 x hx).1
theorem Ax.of (h : Ax W w b j bx) : Below w.heap.size w W := h.2.2.1
end
theorem Is_same {w : World} {a : Addr} {ps : List Int} {v : Value} (h : Ch w (.iface 260 (.pointer (some a))) ps v) :
    Calls Tryz.prog 47 #[v, .iface 260 (.pointer (some a))] w fun e w' => e = .returned (.bool true) ∧ w = w' := by
  have := (IsC.chain h (fun hne => absurd rfl hne)).Is
  simpa using this
def k0 : Jb := Jb.new ⟨5, 0, 0, 0⟩
def k1 : Jb := k0.go (zw, false)
def k2 : Jb := k1.go (⟨4, 1, 2, 0, false⟩, true)
def k3 : Jb := k2.go (⟨5, 1, 0, 0, false⟩, true)
def k4 : Jb := k3.go (⟨6, 1, 0, 0, false⟩, true)
def k5 : Jb := k4.go (⟨4, 1, 2, 0, false⟩, true)
def k6 : Jb := k5.go (⟨0, 0, 0, 7, false⟩, true)
def k7 : Jb := k6.go (zw, true)
def k8 : Jb := k7.go (zw, true)
theorem k0_ok : JOk k0 := by decide +kernel
theorem k0_ca : (k0.go (zw, false)).ca = cProtect (0, 0, 0) 0 := by kernel_rfl
theorem k1_ok : JOk k1 := by decide +kernel
theorem k1_ca : (k1.go (⟨4, 1, 2, 0, false⟩, true)).ca = cLoad (0, 0, 1) := by kernel_rfl
theorem k2_ok : JOk k2 := by decide +kernel
theorem k2_ca : (k2.go (⟨5, 1, 0, 0, false⟩, true)).ca = cProtect (4, 1, 2) 1 := by kernel_rfl
theorem k3_ok : JOk k3 := by decide +kernel
theorem k3_ca : (k3.go (⟨6, 1, 0, 0, false⟩, true)).ca = cLoad (0, 0, 0) := by kernel_rfl
theorem k4_ok : JOk k4 := by decide +kernel
theorem k4_ca : (k4.go (⟨4, 1, 2, 0, false⟩, true)).ca = cLoad (6, 1, 1) := by kernel_rfl
theorem k5_ok : JOk k5 := by decide +kernel
theorem k5_ca : (k5.go (⟨0, 0, 0, 7, false⟩, true)).ca = cSwap (0, 0, 0) ⟨4, 1, 2, 0, false⟩ ⟨6, 1, 0, 0, false⟩ := by kernel_rfl
theorem k6_ok : JOk k6 := by decide +kernel
theorem k6_ca : (k6.go (zw, true)).ca = cRetire ⟨4, 1, 2, 0, false⟩ := by kernel_rfl
theorem k7_ok : JOk k7 := by decide +kernel
theorem k7_ca : (k7.go (zw, true)).ca = cDone 1 7 := by kernel_rfl
set_option maxRecDepth 100000 in
set_option maxHeartbeats 4000000 in
theorem awake_is (w : World) (a : Addr) (L : Bd.HasArg w a) : Calls Tryz.prog 37 #[] w fun e w' => e = .returned (.bool true) ∧ Below w.heap.size w w' := by
  have HL := Lib.hid L
  clear L
  go_enter Tryz.func37, Tryz.ntmps37
  go_wp2_with fail
  refine (Start_yes ⟨5, 0, 0, 0⟩ (by decide) w).mono ?_
  rintro e w1 ⟨b, rfl, h0, h1, h2⟩
  have A : Hid (Ax w1 w b k0 []) := Lib.hid ⟨h1.out, h0, h2.out, fun x hx => by cases hx⟩
  clear h0 h1 h2
  go_upto_region 5 with fail
  replace A := Lib.hid (A.out.box 34 #[.int .i64 4, .int .i64 1, .int .i64 2, .int .i64 0, .bool false])
  show Code.wp _ _ _ _ (w1.alloc (.cells #[.int .i64 4, .int .i64 1, .int .i64 2, .int .i64 0, .bool false] 34))
  generalize w1.alloc (.cells #[.int .i64 4, .int .i64 1, .int .i64 2, .int .i64 0, .bool false] 34) = v0 at A ⊢
  generalize w1.heap.size = g0 at A ⊢
  go_wp2_with fail
  refine (A.out.next (zw, false) k0_ok k0_ca).mono ?_
  rintro e u0 ⟨rfl, A⟩
  replace A : Hid (Ax u0 w b k1 _) := A
  go_upto_region 6 with (refine wp_store_c (BlkW.new u0 51 (cac za).toArray) rfl (.tmp 4) (.tmp 28) rfl (by rfl) (cProtect (0, 0, 0) 0) (by rfl) ?_; intro v1 k1 k2; replace A := Lib.hid (A.out.put k1 k2); clear k1 k2)
  generalize u0.heap.size = g1 at A ⊢
  have X := A.out.get (g0, 34, #[.int .i64 4, .int .i64 1, .int .i64 2, .int .i64 0, .bool false]) (by simp)
  have x0 := X.cell 0
  have x1 := X.cell 1
  have x2 := X.cell 2
  have x3 := X.cell 3
  have x4 := X.cell 4
  have xz := X.lt
  clear X
  simp only [List.getElem?_toArray, List.getElem?_cons_succ, List.getElem?_cons_zero] at x0 x1 x2 x3 x4
  go_wp2_with fail
  clear x0 x1 x2 x3 x4 xz
  refine (A.out.next (⟨4, 1, 2, 0, false⟩, true) k1_ok k1_ca).mono ?_
  rintro e u1 ⟨rfl, A⟩
  replace A : Hid (Ax u1 w b k2 _) := A
  go_upto_region 7 with (refine wp_store_c (BlkW.new u1 51 (cac za).toArray) rfl (.tmp 5) (.tmp 32) rfl (by rfl) (cLoad (0, 0, 1)) (by rfl) ?_; intro v2 k1 k2; replace A := Lib.hid (A.out.put k1 k2); clear k1 k2)
  generalize u1.heap.size = g2 at A ⊢
  go_wp2_with fail
  refine (A.out.next (⟨5, 1, 0, 0, false⟩, true) k2_ok k2_ca).mono ?_
  rintro e u2 ⟨rfl, A⟩
  replace A : Hid (Ax u2 w b k3 _) := A
  go_upto_region 8 with (refine wp_store_c (BlkW.new u2 51 (cac za).toArray) rfl (.tmp 6) (.tmp 36) rfl (by rfl) (cProtect (4, 1, 2) 1) (by rfl) ?_; intro v3 k1 k2; replace A := Lib.hid (A.out.put k1 k2); clear k1 k2)
  generalize u2.heap.size = g3 at A ⊢
  go_wp2_with fail
  refine (A.out.next (⟨6, 1, 0, 0, false⟩, true) k3_ok k3_ca).mono ?_
  rintro e u3 ⟨rfl, A⟩
  replace A : Hid (Ax u3 w b k4 _) := A
  go_upto_region 9 with (refine wp_store_c (BlkW.new u3 51 (cac za).toArray) rfl (.tmp 7) (.tmp 40) rfl (by rfl) (cLoad (0, 0, 0)) (by rfl) ?_; intro v4 k1 k2; replace A := Lib.hid (A.out.put k1 k2); clear k1 k2)
  generalize u3.heap.size = g4 at A ⊢
  have X := A.out.get (g0, 34, #[.int .i64 4, .int .i64 1, .int .i64 2, .int .i64 0, .bool false]) (by simp)
  have x0 := X.cell 0
  have x1 := X.cell 1
  have x2 := X.cell 2
  have x3 := X.cell 3
  have x4 := X.cell 4
  have xz := X.lt
  clear X
  simp only [List.getElem?_toArray, List.getElem?_cons_succ, List.getElem?_cons_zero] at x0 x1 x2 x3 x4
  go_wp2_with fail
  clear x0 x1 x2 x3 x4 xz
  refine (A.out.next (⟨4, 1, 2, 0, false⟩, true) k4_ok k4_ca).mono ?_
  rintro e u4 ⟨rfl, A⟩
  replace A : Hid (Ax u4 w b k5 _) := A
  go_upto_region 10 with (refine wp_store_c (BlkW.new u4 51 (cac za).toArray) rfl (.tmp 8) (.tmp 44) rfl (by rfl) (cLoad (6, 1, 1)) (by rfl) ?_; intro v5 k1 k2; replace A := Lib.hid (A.out.put k1 k2); clear k1 k2)
  generalize u4.heap.size = g5 at A ⊢
  go_wp2_with fail
  refine (A.out.next (⟨0, 0, 0, 7, false⟩, true) k5_ok k5_ca).mono ?_
  rintro e u5 ⟨rfl, A⟩
  replace A : Hid (Ax u5 w b k6 _) := A
  go_upto_region 11 with (refine wp_store_c (BlkW.new u5 51 (cac za).toArray) rfl (.tmp 9) (.tmp 48) rfl (by rfl) (cSwap (0, 0, 0) ⟨4, 1, 2, 0, false⟩ ⟨6, 1, 0, 0, false⟩) (by rfl) ?_; intro v6 k1 k2; replace A := Lib.hid (A.out.put k1 k2); clear k1 k2)
  generalize u5.heap.size = g6 at A ⊢
  go_wp2_with fail
  refine (A.out.next (zw, true) k6_ok k6_ca).mono ?_
  rintro e u6 ⟨rfl, A⟩
  replace A : Hid (Ax u6 w b k7 _) := A
  go_upto_region 12 with (refine wp_store_c (BlkW.new u6 51 (cac za).toArray) rfl (.tmp 10) (.tmp 51) rfl (by rfl) (cRetire ⟨4, 1, 2, 0, false⟩) (by rfl) ?_; intro v7 k1 k2; replace A := Lib.hid (A.out.put k1 k2); clear k1 k2)
  generalize u6.heap.size = g7 at A ⊢
  go_wp2_with fail
  refine (A.out.next (zw, true) k7_ok k7_ca).mono ?_
  rintro e u7 ⟨rfl, A⟩
  replace A : Hid (Ax u7 w b k8 _) := A
  go_upto_region 13 with (refine wp_store_c (BlkW.new u7 51 (cac za).toArray) rfl (.tmp 11) (.tmp 54) rfl (by rfl) (cDone 1 7) (by rfl) ?_; intro v8 k1 k2; replace A := Lib.hid (A.out.put k1 k2); clear k1 k2)
  generalize u7.heap.size = g8 at A ⊢
  have HA := Lib.hid (show v8.cell? _ = _ from Bd.cell_keep HL.out A.out.of)
  go_wp2_with fail
  refine (Start_no ⟨1, 0, 0, 0⟩ (by decide) a v8 HA.out).mono ?_
  rintro e w9 ⟨u, rfl, hch, hb⟩
  have HCH := Lib.hid hch
  obtain ⟨T, y, hu⟩ := hch.shape
  subst hu
  replace A := Lib.hid (A.out.below hb)
  replace HA := Lib.hid (show w9.cell? _ = _ from Bd.cell_keep HL.out A.out.of)
  clear hb hch
  have xg := HA.out
  have q1 := cHeld
  have q2 := cGuard
  have r0 : ∀ w, (binOp .eql 51 (.agg (cac (cProtect (0, 0, 0) 0)).toArray) (.agg #[.int .i64 6, .int .i64 0, .int .i64 0, .int .i64 0, .int .i64 0, .int .i64 0, .int .i64 0, .int .i64 0, .bool false, .int .i64 0, .int .i64 0, .int .i64 0, .int .i64 0, .bool false, .int .i64 0, .int .i64 0, .int .i64 0, .int .i64 0])).run Tryz.prog w = .ok (.bool true) w := fun w => by kernel_rfl
  have r1 : ∀ w, (binOp .eql 51 (.agg (cac (cLoad (0, 0, 1))).toArray) (.agg #[.int .i64 3, .int .i64 0, .int .i64 0, .int .i64 1, .int .i64 0, .int .i64 0, .int .i64 0, .int .i64 0, .bool false, .int .i64 0, .int .i64 0, .int .i64 0, .int .i64 0, .bool false, .int .i64 0, .int .i64 0, .int .i64 0, .int .i64 0])).run Tryz.prog w = .ok (.bool true) w := fun w => by kernel_rfl
  have r2 : ∀ w, (binOp .eql 51 (.agg (cac (cProtect (4, 1, 2) 1)).toArray) (.agg #[.int .i64 6, .int .i64 4, .int .i64 1, .int .i64 2, .int .i64 0, .int .i64 0, .int .i64 0, .int .i64 0, .bool false, .int .i64 0, .int .i64 0, .int .i64 0, .int .i64 0, .bool false, .int .i64 1, .int .i64 0, .int .i64 0, .int .i64 0])).run Tryz.prog w = .ok (.bool true) w := fun w => by kernel_rfl
  have r3 : ∀ w, (binOp .eql 51 (.agg (cac (cLoad (0, 0, 0))).toArray) (.agg #[.int .i64 3, .int .i64 0, .int .i64 0, .int .i64 0, .int .i64 0, .int .i64 0, .int .i64 0, .int .i64 0, .bool false, .int .i64 0, .int .i64 0, .int .i64 0, .int .i64 0, .bool false, .int .i64 0, .int .i64 0, .int .i64 0, .int .i64 0])).run Tryz.prog w = .ok (.bool true) w := fun w => by kernel_rfl
  have r4 : ∀ w, (binOp .eql 51 (.agg (cac (cLoad (6, 1, 1))).toArray) (.agg #[.int .i64 3, .int .i64 6, .int .i64 1, .int .i64 1, .int .i64 0, .int .i64 0, .int .i64 0, .int .i64 0, .bool false, .int .i64 0, .int .i64 0, .int .i64 0, .int .i64 0, .bool false, .int .i64 0, .int .i64 0, .int .i64 0, .int .i64 0])).run Tryz.prog w = .ok (.bool true) w := fun w => by kernel_rfl
  have r5 : ∀ w, (binOp .eql 51 (.agg (cac (cSwap (0, 0, 0) ⟨4, 1, 2, 0, false⟩ ⟨6, 1, 0, 0, false⟩)).toArray) (.agg #[.int .i64 5, .int .i64 0, .int .i64 0, .int .i64 0, .int .i64 4, .int .i64 1, .int .i64 2, .int .i64 0, .bool false, .int .i64 6, .int .i64 1, .int .i64 3, .int .i64 0, .bool false, .int .i64 0, .int .i64 0, .int .i64 0, .int .i64 0])).run Tryz.prog w = .ok (.bool true) w := fun w => by kernel_rfl
  have r6 : ∀ w, (binOp .eql 51 (.agg (cac (cRetire ⟨4, 1, 2, 0, false⟩)).toArray) (.agg #[.int .i64 10, .int .i64 0, .int .i64 0, .int .i64 0, .int .i64 4, .int .i64 1, .int .i64 2, .int .i64 0, .bool false, .int .i64 0, .int .i64 0, .int .i64 0, .int .i64 0, .bool false, .int .i64 0, .int .i64 0, .int .i64 0, .int .i64 0])).run Tryz.prog w = .ok (.bool true) w := fun w => by kernel_rfl
  have r7 : ∀ w, (binOp .eql 51 (.agg (cac (cDone 1 7)).toArray) (.agg #[.int .i64 12, .int .i64 0, .int .i64 0, .int .i64 0, .int .i64 0, .int .i64 0, .int .i64 0, .int .i64 0, .bool false, .int .i64 0, .int .i64 0, .int .i64 0, .int .i64 0, .bool false, .int .i64 0, .int .i64 0, .int .i64 1, .int .i64 7])).run Tryz.prog w = .ok (.bool true) w := fun w => by kernel_rfl
  have X := A.out.get (g0, 34, #[.int .i64 4, .int .i64 1, .int .i64 2, .int .i64 0, .bool false]) (by simp)
  have y0 := X.cell 0
  have y1 := X.cell 1
  have y2 := X.cell 2
  have y3 := X.cell 3
  have y4 := X.cell 4
  have yz := X.lt
  clear X
  simp only [List.getElem?_toArray, List.getElem?_cons_succ, List.getElem?_cons_zero] at y0 y1 y2 y3 y4
  have H0 := Lib.hid (A.out.range g1 (cProtect (0, 0, 0) 0) (by simp))
  have H1 := Lib.hid (A.out.range g2 (cLoad (0, 0, 1)) (by simp))
  have H2 := Lib.hid (A.out.range g3 (cProtect (4, 1, 2) 1) (by simp))
  have H3 := Lib.hid (A.out.range g4 (cLoad (0, 0, 0)) (by simp))
  have H4 := Lib.hid (A.out.range g5 (cLoad (6, 1, 1)) (by simp))
  have H5 := Lib.hid (A.out.range g6 (cSwap (0, 0, 0) ⟨4, 1, 2, 0, false⟩ ⟨6, 1, 0, 0, false⟩) (by simp))
  have H6 := Lib.hid (A.out.range g7 (cRetire ⟨4, 1, 2, 0, false⟩) (by simp))
  have H7 := Lib.hid (A.out.range g8 (cDone 1 7) (by simp))
  go_wp2_with (first
    | (go_at_call 47; refine (Is_same HCH.out).mono ?_; rintro e w10 ⟨rfl, rfl⟩)
    | (refine wpList_load_w (by rfl) 51 (.tmp 4) rfl g1 0 (by rfl) (cac (cProtect (0, 0, 0) 0)) _ H0.out Tryz.underlying51 rfl infoCl ?_)
    | (refine wpList_load_w (by rfl) 51 (.tmp 5) rfl g2 0 (by rfl) (cac (cLoad (0, 0, 1))) _ H1.out Tryz.underlying51 rfl infoCl ?_)
    | (refine wpList_load_w (by rfl) 51 (.tmp 6) rfl g3 0 (by rfl) (cac (cProtect (4, 1, 2) 1)) _ H2.out Tryz.underlying51 rfl infoCl ?_)
    | (refine wpList_load_w (by rfl) 51 (.tmp 7) rfl g4 0 (by rfl) (cac (cLoad (0, 0, 0))) _ H3.out Tryz.underlying51 rfl infoCl ?_)
    | (refine wpList_load_w (by rfl) 51 (.tmp 8) rfl g5 0 (by rfl) (cac (cLoad (6, 1, 1))) _ H4.out Tryz.underlying51 rfl infoCl ?_)
    | (refine wpList_load_w (by rfl) 51 (.tmp 9) rfl g6 0 (by rfl) (cac (cSwap (0, 0, 0) ⟨4, 1, 2, 0, false⟩ ⟨6, 1, 0, 0, false⟩)) _ H5.out Tryz.underlying51 rfl infoCl ?_)
    | (refine wpList_load_w (by rfl) 51 (.tmp 10) rfl g7 0 (by rfl) (cac (cRetire ⟨4, 1, 2, 0, false⟩)) _ H6.out Tryz.underlying51 rfl infoCl ?_)
    | (refine wpList_load_w (by rfl) 51 (.tmp 11) rfl g8 0 (by rfl) (cac (cDone 1 7)) _ H7.out Tryz.underlying51 rfl infoCl ?_))
  go_ret
  exact ⟨rfl, A.out.of⟩
end Go.Proofs.YtihjklimcchkhaaGreatDoor.Co
