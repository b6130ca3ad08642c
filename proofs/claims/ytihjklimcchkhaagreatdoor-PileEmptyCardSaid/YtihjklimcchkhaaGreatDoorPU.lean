/- Items: of no plot, and of an empty stack. A template (fill.py). -/
/- The awake law of pile's seat. A template (made by gen_XPv.py). -/
import Derived.Test.YtihjklimcchkhaaGreatDoorPB
import Derived.Test.YtihjklimcchkhaaGreatDoorFB
import Derived.LoopTactic
import Derived.Test.YtihjklimcchkhaaGreatDoorPC
import Derived.Test.YtihjklimcchkhaaGreatDoorRs
namespace Go.Proofs.YtihjklimcchkhaaGreatDoor
open Go.RowKit Go.Extern.Stop Go.Stop Go.Extern Go.Sort
theorem peek_p {w : World} {E : Flt → Addr} {B p bs bb : Nat} {t : St} (h : PlotAt w E B p bs bb t) (s g f : Int) :
    Calls Tryz.prog 20 #[.pointer (some ⟨p, 0, none⟩), .agg #[.int .i64 s, .int .i64 g, .int .i64 f]] w fun e w' => e = .returned (peekV (t.peek s g f)) ∧ Below w.heap.size w w' := by
  obtain ⟨⟨v, fv, h⟩, o, L⟩ := h
  exact peek_any h L o s g f
theorem peek_root {t : St} (hm : t.m = 85) (hr : t.board 0 = zw) : t.peek 0 0 0 = some zw := by
  unfold St.peek
  have hl : t.loc 0 0 0 = some (.board 0) := by unfold St.loc; rw [if_pos ⟨rfl, rfl⟩, if_pos (by rw [hm]; omega)]; rfl
  have hmi : t.miss 0 0 .freed = none := by unfold St.miss; rw [if_neg (by omega)]
  rw [hl, hmi]
  show some (t.board 0) = some zw
  rw [hr]
set_option maxRecDepth 100000 in
set_option maxHeartbeats 1000000 in
theorem Items_nil {w : World} {E : Flt → Addr} (L : Env w E) : Calls Tryz.prog 36 #[.pointer none] w fun e w' => (∃ T y, e = .returned (.tuple #[.slice none 0 0, .slice none 0 0, .iface T y])) ∧ Below w.heap.size w w' := by
  have c := L.nil
  have hz := lt_of_cell c
  clear L
  go_enter Tryz.func36, Tryz.ntmps36
  go_wp2_with fail
  refine (At_some 7 _ _ _).mono ?_
  rintro e w1 ⟨rfl, rfl⟩
  go_wp2
  exact bodyPost_ret (v := .tuple #[.slice none 0 0, .slice none 0 0, .iface 158 (.pointer (some ⟨w.heap.size, 0, none⟩))]) (by simp [results, Tryz.results36, go_sem]) rfl ⟨⟨_, _, rfl⟩, below_alloc (Below.refl _ _) _⟩
set_option maxRecDepth 100000 in
set_option maxHeartbeats 2000000 in
theorem Items_none {w : World} {E : Flt → Addr} {B p bs bb : Nat} {t : St} (h : PlotAt w E B p bs bb t) (hm : t.m = 85) (hr : t.board 0 = zw) :
    Calls Tryz.prog 36 #[.pointer (some ⟨p, 0, none⟩)] w fun e w' => e = .returned (.tuple #[.slice none 0 0, .slice none 0 0, .nilIface]) ∧ Below w.heap.size w w' := by
  have HP := Lib.hid h
  have HK := Lib.hid (peek_root hm hr)
  clear h hm hr
  go_enter Tryz.func36, Tryz.ntmps36
  go_wp2_with fail
  refine (proot_is _).mono ?_
  rintro e w1 ⟨rfl, hb⟩
  have HB1 := Lib.hid hb
  have HX := Lib.hid (BlkW.new w1 47 #[.int .i64 0, .int .i64 0, .int .i64 0])
  have HB2 := Lib.hid (below_alloc hb (.cells #[.int .i64 0, .int .i64 0, .int .i64 0] 47))
  clear hb
  go_upto_region 6 with fail
  show Code.wp _ _ _ _ (w1.alloc (.cells #[.int .i64 0, .int .i64 0, .int .i64 0] 47))
  generalize w1.alloc (.cells #[.int .i64 0, .int .i64 0, .int .i64 0] 47) = W at HX HB2 ⊢
  generalize w1.heap.size = q at HX ⊢
  go_wp2
  go_loopw [5, 6, 17] (fun v5 v6 vi wr => v5 = .slice none 0 0 ∧ v6 = .slice none 0 0 ∧ vi = .int .i64 0 ∧ wr = W) (fun _ _ _ _ => 0)
  case atStart => exact ⟨rfl, rfl, rfl, rfl⟩
  case round =>
    obtain ⟨rfl, rfl, rfl, rfl⟩ := hrel
    have a0 : wr.cell? ⟨q, 0, none⟩ = some (.int .i64 0) := HX.out.cell 0
    have a1 : wr.cell? ⟨q, 1, none⟩ = some (.int .i64 0) := HX.out.cell 1
    have a2 : wr.cell? ⟨q, 2, none⟩ = some (.int .i64 0) := HX.out.cell 2
    have hz := HX.out.lt
    have HPK := Lib.hid (peek_p (HP.out.keep HB2.out) 0 0 0)
    rw [HK.out] at HPK
    go_wp2_with fail
    refine HPK.out.mono ?_
    rintro e w2 ⟨rfl, hb⟩
    have HB3 := Lib.hid (below_trans HB2.out hb)
    clear hb a0 a1 a2 hz HPK HX
    unfold peekV
    have HN := Lib.hid (fun W => Nil_is 0 0 0 0 false true rfl W)
    go_wp2_with fail
    refine (HN.out _).mono ?_
    rintro e w3 ⟨rfl, hb⟩
    have HB4 := Lib.hid (below_trans (below_alloc HB3.out (.cells #[.int .i64 0, .int .i64 0, .int .i64 0, .int .i64 0, .bool false] 34)) hb)
    clear hb
    go_wp2
    exact bodyPost_ret (v := .tuple #[.slice none 0 0, .slice none 0 0, .nilIface]) (by simp [results, Tryz.results36, go_sem]) rfl ⟨rfl, HB4.out⟩
end Go.Proofs.YtihjklimcchkhaaGreatDoor

namespace Go.Proofs.YtihjklimcchkhaaGreatDoor.Pw
open Go.RowKit Go.Extern.Stop Go.Stop Go.Extern Go.Sort
/-- A job and boxes beside it, in a world that came from w. -/
def Ax (W w : World) (b : Nat) (j : Jb) (bx : List (Nat × TypeId × Array Value)) : Prop := JAt W b j ∧ w.heap.size ≤ b ∧ Below w.heap.size w W ∧ ∀ x, x ∈ bx → BlkW W x.1 x.2.1 x.2.2 ∧ x.1 ≠ b
instance (j : Jb) : Decidable (JOk j) := by unfold JOk; infer_instance
instance (o : Po) : Decidable o.can := by unfold Po.can; infer_instance
theorem below_low' {B : Nat} {a x y : World} (h : Below B a x) (k : Below B x y) : Below B a y := h.trans k
section
variable {W W' w : World} {b : Nat} {j : Jb} {bx : List (Nat × TypeId × Array Value)}
theorem Ax.below (h : Ax W w b j bx) (hb : Below W.heap.size W W') : Ax W' w b j bx :=
  ⟨h.1.below hb, h.2.1, below_low' h.2.2.1 (hb.mono h.2.2.1.size), fun x hx => ⟨(h.2.2.2 x hx).1.below hb, (h.2.2.2 x hx).2⟩⟩
theorem Ax.box (h : Ax W w b j bx) (t : TypeId) (cs : Array Value) : Ax (W.alloc (.cells cs t)) w b j ((W.heap.size, t, cs) :: bx) := by
  have h' := h.below (below_alloc (Below.refl W.heap.size W) (.cells cs t))
  refine ⟨h'.1, h'.2.1, h'.2.2.1, fun x hx => ?_⟩
  rcases List.mem_cons.1 hx with rfl | hx
  · exact ⟨BlkW.new _ _ _, fun e => by have := BlkW.lt h.1; simp only at e; omega⟩
  · exact h'.2.2.2 x hx
theorem Ax.put (h : Ax W w b j bx) {c : Cl} {x0 y0 : Int} (k1 : BlkW W' W.heap.size 51 (cac c x0 y0).toArray) (k2 : Off (fun i => i = W.heap.size) (W.alloc (.cells (cac zc 0 0).toArray 51)) W') : Ax W' w b j ((W.heap.size, 51, (cac c x0 y0).toArray) :: bx) := by
  have h' := h.box 51 (cac zc 0 0).toArray
  have hlt := BlkW.lt h.1
  refine ⟨k2.blk h'.1 (fun e => by have e : b = W.heap.size := e; omega), h'.2.1, below_low' h'.2.2.1 (k2.below (fun i e => by rw [e]; exact h.2.2.1.size) h'.2.2.1.size), fun x hx => ?_⟩
  rcases List.mem_cons.1 hx with rfl | hx
  · exact ⟨k1, fun e => by have e : W.heap.size = b := e; omega⟩
  · have hx' := h.2.2.2 x hx
    exact ⟨k2.blk (hx'.1.below (below_alloc (Below.refl _ _) _)) (fun e => by have := BlkW.lt hx'.1; omega), hx'.2⟩
theorem wp_store_c {q : Nat} {ops : Array Oper} {rest : List Oper} {op : Oper} {a : Act} {W : World} {Q : Exit → Act → World → Prop} (hq : BlkW W q 51 (cac zc 0 0).toArray) (hgd : op.guard = none) (px py : Operand) (hop : op.op = .store 51 px py)
    (hx : a.eval px = .pointer (some ⟨q, 0, none⟩)) (c : Cl) (x0 y0 : Int) (hy : a.eval py = .agg (cac c x0 y0).toArray)
    (k : ∀ w', BlkW w' q 51 (cac c x0 y0).toArray → Off (fun j => j = q) W w' → wpList Tryz.prog ops Q rest (a.put op.dst undef) w') : wpList Tryz.prog ops Q (op :: rest) a W := by
  refine wpList_store_mid hgd 51 px py hop q 0 (cac c x0 y0).toArray hx hy (there_of_blk hq 0 18 (by decide)) (show (Tryz.prog.info? 51).map (·.size) = some (cac c x0 y0).toArray.size from infoCl) (cac_one c x0 y0) ?_
  have h1 : BlkW (W.setCells q 0 (cac c x0 y0)) q 51 (cac c x0 y0).toArray := by
    have h1 := blk_puts (cac c x0 y0) 0 hq
    rwa [show putL (cac zc 0 0) 0 (cac c x0 y0) = cac c x0 y0 from by kernel_rfl] at h1
  exact k _ h1 (Off.sets (K := fun j => j = q) (.inl rfl) _ 0 (Off.refl _ W))
theorem wpList_load_w {ops : Array Oper} {rest : List Oper} {op : Oper} {a : Act} {w : World} {Q : Exit → Act → World → Prop} (hw : Region.wanted op (yielded ops a.tmps) = true) (ty : TypeId) (x : Operand) (ho : op.op = .load ty x)
    (b o : Nat) (hx : a.eval x = .pointer (some ⟨b, o, none⟩)) (cs : List Value) (d : TypeDesc) (hc : w.rangeAt b o cs)
    (hu : Tryz.prog.underlying ty = some d) (hd : d.isRow = true) (hi : (Tryz.prog.info? ty).map (·.size) = some cs.length)
    (h : wpList Tryz.prog ops Q rest (a.put op.dst (.agg cs.toArray)) w) : wpList Tryz.prog ops Q (op :: rest) a w :=
  wpList_step fun K hK => by
    simp only [hw, if_true]
    exact wp_load_mid ty x ho b o hx cs d hc hu hd hi (hK _ _ h)
theorem blk_range {W : World} {g : Nat} {t : TypeId} {l : List Value} (h : BlkW W g t l.toArray) (o : Nat) (cs : List Value) (e : (l.drop o).take cs.length = cs) : W.rangeAt g o cs := fun j v hv => by
  have hj : j < cs.length := (List.getElem?_eq_some_iff.1 hv).1
  rw [BlkW.cell h, List.getElem?_toArray]
  rw [← e, List.getElem?_take_of_lt (by simpa using hj), List.getElem?_drop] at hv
  exact hv
theorem Ax.range (h : Ax W w b j bx) (g : Nat) (c : Cl) (x0 y0 : Int) (hx : (g, 51, (cac c x0 y0).toArray) ∈ bx) : W.rangeAt g 0 (cac c x0 y0) := blk_range ((h.2.2.2 _ hx).1) 0 _ (by kernel_rfl)
theorem Ax.next (h : Ax W w b j bx) (x : Wd × Bool) (ok : JOk j) {c : Cl} {x0 y0 : Int} (hc : (j.next x).call = c ∧ (j.next x).code = x0 ∧ (j.next x).aval = y0) : Calls Tryz.prog 69 #[.pointer (some ⟨b, 0, none⟩), rpv x] W fun e w' => e = .returned (.agg (cac c x0 y0).toArray) ∧ Hid (Ax w' w b (j.next x) bx) := by
  obtain ⟨e1, e2, e3⟩ := hc
  subst e1 e2 e3
  exact (jnext_is h.1 x ok).mono fun e w' ⟨he, h1, h2⟩ => ⟨he, Lib.hid ⟨h1.out, h.2.1, below_low' h.2.2.1 (h2.out.below (fun j e => by rw [e]; exact h.2.1) h.2.2.1.size), fun x hx => ⟨h2.out.blk (h.2.2.2 x hx).1 (h.2.2.2 x hx).2, (h.2.2.2 x hx).2⟩⟩⟩
theorem Ax.get (h : Ax W w b j bx) (x : Nat × TypeId × Array Value) (hx : x ∈ bx) : BlkW W x.1 x.2.1 x.2.2 := (h.2.2.2 x hx).1
theorem Ax.of (h : Ax W w b j bx) : Below w.heap.size w W := h.2.2.1
theorem pcan_get (w : World) : Calls Tryz.prog 97 #[.agg #[.int .i64 8, .int .i64 0, .int .i64 0, .int .i64 0]] w fun e w' => e = .returned (.bool false) ∧ Below w.heap.size w w' := by
  go_enter Tryz.func97, Tryz.ntmps97
  go_wp2_with fail
  go_ret
  exact ⟨rfl, below_alloc (Below.refl _ _) _⟩
theorem Start_get (a : Addr) (w : World) (L : Bd.HasArg w a) :
    Calls Tryz.prog 68 #[.agg #[.int .i64 8, .int .i64 0, .int .i64 0, .int .i64 0]] w fun e w' => ∃ u, e = .returned (.tuple #[.pointer none, u]) ∧ Ch w' (.iface 260 (.pointer (some a))) [7] u ∧ Below w.heap.size w w' := by
  have HL := Lib.hid L
  clear L
  go_enter Tryz.func68, Tryz.ntmps68
  go_wp2_with fail
  refine (pcan_get _).mono ?_
  rintro e w1 ⟨rfl, hb⟩
  have HB := Lib.hid (below_trans (below_alloc (Below.refl _ _) _) hb)
  clear hb
  have L1 := Bd.cell_keep HL.out HB.out
  have hz := lt_of_cell L1
  unfold Bd.HasArg at HL
  go_wp2_with fail
  refine (At_some 7 _ _ _).mono ?_
  rintro e w2 ⟨rfl, rfl⟩
  go_wp2
  go_ret2
  exact ⟨_, rfl, Ch.push 7 Ch.base, below_trans HB.out (below_alloc (Below.refl _ _) _)⟩
end
theorem infoWd5 : (Tryz.prog.info? 34).map (·.size) = some 5 := by kernel_rfl
theorem heldC : Tryz.prog.stoodInHeld 51 = false := by kernel_rfl
theorem guardC : Tryz.prog.eqGuardType Tryz.prog.depth 51 = false := by kernel_rfl
def k0 : Jb := Jb.new ⟨1, 0, 7, 0⟩
def k1 : Jb := k0.next (zw, false)
def k2 : Jb := k1.next (⟨4, 1, 0, 0, false⟩, true)
def k3 : Jb := k2.next (zw, true)
def k4 : Jb := k3.next (⟨2, 3, 8, 0, false⟩, true)
def k5 : Jb := k4.next (zw, true)
def k6 : Jb := k5.next (zw, true)
theorem k0_ok : JOk k0 := by decide +kernel
theorem k0_ca : (k0.next (zw, false)).call = { zc with kind := 8 } ∧ (k0.next (zw, false)).code = 0 ∧ (k0.next (zw, false)).aval = 0 := ⟨by kernel_rfl, by kernel_rfl, by kernel_rfl⟩
theorem k1_ok : JOk k1 := by decide +kernel
theorem k1_ca : (k1.next (⟨4, 1, 0, 0, false⟩, true)).call = { zc with kind := 4, s := 4, g := 1, f := 1, new := nw 7 } ∧ (k1.next (⟨4, 1, 0, 0, false⟩, true)).code = 0 ∧ (k1.next (⟨4, 1, 0, 0, false⟩, true)).aval = 0 := ⟨by kernel_rfl, by kernel_rfl, by kernel_rfl⟩
theorem k2_ok : JOk k2 := by decide +kernel
theorem k2_ca : (k2.next (zw, true)).call = { zc with kind := 3 } ∧ (k2.next (zw, true)).code = 0 ∧ (k2.next (zw, true)).aval = 0 := ⟨by kernel_rfl, by kernel_rfl, by kernel_rfl⟩
theorem k3_ok : JOk k3 := by decide +kernel
theorem k3_ca : (k3.next (⟨2, 3, 8, 0, false⟩, true)).call = { zc with kind := 4, s := 4, g := 1, f := 2, new := ⟨2, 3, 0, 0, false⟩ } ∧ (k3.next (⟨2, 3, 8, 0, false⟩, true)).code = 0 ∧ (k3.next (⟨2, 3, 8, 0, false⟩, true)).aval = 0 := ⟨by kernel_rfl, by kernel_rfl, by kernel_rfl⟩
theorem k4_ok : JOk k4 := by decide +kernel
theorem k4_ca : (k4.next (zw, true)).call = { zc with kind := 5, old := ⟨2, 3, 8, 0, false⟩, new := ⟨4, 1, 9, 0, false⟩ } ∧ (k4.next (zw, true)).code = 0 ∧ (k4.next (zw, true)).aval = 0 := ⟨by kernel_rfl, by kernel_rfl, by kernel_rfl⟩
theorem k5_ok : JOk k5 := by decide +kernel
theorem k5_ca : (k5.next (zw, true)).call = { zc with kind := 12 } ∧ (k5.next (zw, true)).code = 1 ∧ (k5.next (zw, true)).aval = 0 := ⟨by kernel_rfl, by kernel_rfl, by kernel_rfl⟩
set_option maxRecDepth 100000 in
set_option maxHeartbeats 4000000 in
theorem awake_is (w : World) (a : Addr) (L : Bd.HasArg w a) : Calls Tryz.prog 31 #[] w fun e w' => e = .returned (.bool true) ∧ Below w.heap.size w w' := by
  have HL := Lib.hid L
  clear L
  go_enter Tryz.func31, Tryz.ntmps31
  go_wp2_with fail
  refine (Start_is ⟨1, 0, 7, 0⟩ (by decide) w).mono ?_
  rintro e w1 ⟨b, rfl, h0, h1, h2⟩
  have A : Hid (Ax w1 w b k0 []) := Lib.hid ⟨h1.out, h0, h2.out, fun x hx => by cases hx⟩
  clear h0 h1 h2
  go_upto_region 5 with fail
  replace A := Lib.hid (A.out.box 34 #[.int .i64 4, .int .i64 1, .int .i64 0, .int .i64 0, .bool false])
  show Code.wp _ _ _ _ (w1.alloc (.cells #[.int .i64 4, .int .i64 1, .int .i64 0, .int .i64 0, .bool false] 34))
  generalize w1.alloc (.cells #[.int .i64 4, .int .i64 1, .int .i64 0, .int .i64 0, .bool false] 34) = v0 at A ⊢
  generalize w1.heap.size = g0 at A ⊢
  go_wp2_with fail
  refine (A.out.next (zw, false) k0_ok k0_ca).mono ?_
  rintro e u0 ⟨rfl, A⟩
  replace A : Hid (Ax u0 w b k1 _) := A
  go_upto_region 6 with (refine wp_store_c (BlkW.new u0 51 (cac zc 0 0).toArray) rfl (.tmp 4) (.tmp 26) rfl (by rfl) ({ zc with kind := 8 }) 0 0 (by rfl) ?_; intro v1 k1 k2; replace A := Lib.hid (A.out.put k1 k2); clear k1 k2)
  generalize u0.heap.size = g1 at A ⊢
  have X := A.out.get (g0, 34, #[.int .i64 4, .int .i64 1, .int .i64 0, .int .i64 0, .bool false]) (by simp)
  have x0 := X.cell 0
  have x1 := X.cell 1
  have x2 := X.cell 2
  have x3 := X.cell 3
  have x4 := X.cell 4
  have xz := X.lt
  clear X
  simp only [List.getElem?_toArray, List.getElem?_cons_succ, List.getElem?_cons_zero] at x0 x1 x2 x3 x4
  go_wp2_with fail
  clear x0 x1 x2 x3 x4 xz
  refine (A.out.next (⟨4, 1, 0, 0, false⟩, true) k1_ok k1_ca).mono ?_
  rintro e u1 ⟨rfl, A⟩
  replace A : Hid (Ax u1 w b k2 _) := A
  go_upto_region 7 with (refine wp_store_c (BlkW.new u1 51 (cac zc 0 0).toArray) rfl (.tmp 5) (.tmp 30) rfl (by rfl) ({ zc with kind := 4, s := 4, g := 1, f := 1, new := nw 7 }) 0 0 (by rfl) ?_; intro v2 k1 k2; replace A := Lib.hid (A.out.put k1 k2); clear k1 k2)
  generalize u1.heap.size = g2 at A ⊢
  go_wp2_with fail
  refine (A.out.next (zw, true) k2_ok k2_ca).mono ?_
  rintro e u2 ⟨rfl, A⟩
  replace A : Hid (Ax u2 w b k3 _) := A
  go_upto_region 8 with (refine wp_store_c (BlkW.new u2 51 (cac zc 0 0).toArray) rfl (.tmp 6) (.tmp 33) rfl (by rfl) ({ zc with kind := 3 }) 0 0 (by rfl) ?_; intro v3 k1 k2; replace A := Lib.hid (A.out.put k1 k2); clear k1 k2)
  generalize u2.heap.size = g3 at A ⊢
  go_wp2_with fail
  refine (A.out.next (⟨2, 3, 8, 0, false⟩, true) k3_ok k3_ca).mono ?_
  rintro e u3 ⟨rfl, A⟩
  replace A : Hid (Ax u3 w b k4 _) := A
  go_upto_region 9 with (refine wp_store_c (BlkW.new u3 51 (cac zc 0 0).toArray) rfl (.tmp 7) (.tmp 37) rfl (by rfl) ({ zc with kind := 4, s := 4, g := 1, f := 2, new := ⟨2, 3, 0, 0, false⟩ }) 0 0 (by rfl) ?_; intro v4 k1 k2; replace A := Lib.hid (A.out.put k1 k2); clear k1 k2)
  generalize u3.heap.size = g4 at A ⊢
  go_wp2_with fail
  refine (A.out.next (zw, true) k4_ok k4_ca).mono ?_
  rintro e u4 ⟨rfl, A⟩
  replace A : Hid (Ax u4 w b k5 _) := A
  go_upto_region 10 with (refine wp_store_c (BlkW.new u4 51 (cac zc 0 0).toArray) rfl (.tmp 8) (.tmp 40) rfl (by rfl) ({ zc with kind := 5, old := ⟨2, 3, 8, 0, false⟩, new := ⟨4, 1, 9, 0, false⟩ }) 0 0 (by rfl) ?_; intro v5 k1 k2; replace A := Lib.hid (A.out.put k1 k2); clear k1 k2)
  generalize u4.heap.size = g5 at A ⊢
  go_wp2_with fail
  refine (A.out.next (zw, true) k5_ok k5_ca).mono ?_
  rintro e u5 ⟨rfl, A⟩
  replace A : Hid (Ax u5 w b k6 _) := A
  go_upto_region 11 with (refine wp_store_c (BlkW.new u5 51 (cac zc 0 0).toArray) rfl (.tmp 9) (.tmp 43) rfl (by rfl) ({ zc with kind := 12 }) 1 0 (by rfl) ?_; intro v6 k1 k2; replace A := Lib.hid (A.out.put k1 k2); clear k1 k2)
  generalize u5.heap.size = g6 at A ⊢
  have HA := Lib.hid (show v6.cell? _ = _ from Bd.cell_keep HL.out A.out.of)
  go_wp2_with fail
  refine (Start_get a v6 HA.out).mono ?_
  rintro e w9 ⟨u, rfl, hch, hb⟩
  have HCH := Lib.hid hch
  obtain ⟨T, y, hu⟩ := hch.shape
  subst hu
  replace A := Lib.hid (A.out.below hb)
  replace HA := Lib.hid (show w9.cell? _ = _ from Bd.cell_keep HL.out A.out.of)
  clear hb hch
  have xg := HA.out
  have q1 := heldC
  have q2 := guardC
  have q3 := noHeld
  have q4 := noGuard
  have r0 : ∀ w, (binOp .eql 51 (.agg (cac ({ zc with kind := 8 }) 0 0).toArray) (.agg #[.int .i64 8, .int .i64 0, .int .i64 0, .int .i64 0, .int .i64 0, .int .i64 0, .int .i64 0, .int .i64 0, .bool false, .int .i64 0, .int .i64 0, .int .i64 0, .int .i64 0, .bool false, .int .i64 0, .int .i64 0, .int .i64 0, .int .i64 0])).run Tryz.prog w = .ok (.bool true) w := fun w => by kernel_rfl
  have r1 : ∀ w, (binOp .eql 51 (.agg (cac ({ zc with kind := 4, s := 4, g := 1, f := 1, new := nw 7 }) 0 0).toArray) (.agg #[.int .i64 4, .int .i64 4, .int .i64 1, .int .i64 1, .int .i64 0, .int .i64 0, .int .i64 0, .int .i64 0, .bool false, .int .i64 0, .int .i64 0, .int .i64 0, .int .i64 7, .bool false, .int .i64 0, .int .i64 0, .int .i64 0, .int .i64 0])).run Tryz.prog w = .ok (.bool true) w := fun w => by kernel_rfl
  have r2 : ∀ w, (binOp .eql 51 (.agg (cac ({ zc with kind := 3 }) 0 0).toArray) (.agg #[.int .i64 3, .int .i64 0, .int .i64 0, .int .i64 0, .int .i64 0, .int .i64 0, .int .i64 0, .int .i64 0, .bool false, .int .i64 0, .int .i64 0, .int .i64 0, .int .i64 0, .bool false, .int .i64 0, .int .i64 0, .int .i64 0, .int .i64 0])).run Tryz.prog w = .ok (.bool true) w := fun w => by kernel_rfl
  have r4 : ∀ w, (binOp .eql 51 (.agg (cac ({ zc with kind := 5, old := ⟨2, 3, 8, 0, false⟩, new := ⟨4, 1, 9, 0, false⟩ }) 0 0).toArray) (.agg #[.int .i64 5, .int .i64 0, .int .i64 0, .int .i64 0, .int .i64 2, .int .i64 3, .int .i64 8, .int .i64 0, .bool false, .int .i64 4, .int .i64 1, .int .i64 9, .int .i64 0, .bool false, .int .i64 0, .int .i64 0, .int .i64 0, .int .i64 0])).run Tryz.prog w = .ok (.bool true) w := fun w => by kernel_rfl
  have r5 : ∀ w, (binOp .eql 51 (.agg (cac ({ zc with kind := 12 }) 1 0).toArray) (.agg #[.int .i64 12, .int .i64 0, .int .i64 0, .int .i64 0, .int .i64 0, .int .i64 0, .int .i64 0, .int .i64 0, .bool false, .int .i64 0, .int .i64 0, .int .i64 0, .int .i64 0, .bool false, .int .i64 0, .int .i64 0, .int .i64 1, .int .i64 0])).run Tryz.prog w = .ok (.bool true) w := fun w => by kernel_rfl
  have r3 : ∀ w, (binOp .eql 34 (.agg (wc ⟨2, 3, 0, 0, false⟩).toArray) (.agg #[.int .i64 2, .int .i64 3, .int .i64 0, .int .i64 0, .bool false])).run Tryz.prog w = .ok (.bool true) w := fun w => by kernel_rfl
  have H0 := Lib.hid (A.out.range g1 ({ zc with kind := 8 }) 0 0 (by simp))
  have H1 := Lib.hid (A.out.range g2 ({ zc with kind := 4, s := 4, g := 1, f := 1, new := nw 7 }) 0 0 (by simp))
  have H2 := Lib.hid (A.out.range g3 ({ zc with kind := 3 }) 0 0 (by simp))
  have H4 := Lib.hid (A.out.range g5 ({ zc with kind := 5, old := ⟨2, 3, 8, 0, false⟩, new := ⟨4, 1, 9, 0, false⟩ }) 0 0 (by simp))
  have H5 := Lib.hid (A.out.range g6 ({ zc with kind := 12 }) 1 0 (by simp))
  have H3 : Hid (w9.rangeAt g4 9 (wc ⟨2, 3, 0, 0, false⟩)) := Lib.hid (blk_range (A.out.get (g4, 51, (cac ({ zc with kind := 4, s := 4, g := 1, f := 2, new := ⟨2, 3, 0, 0, false⟩ }) 0 0).toArray) (by simp)) 9 _ (by kernel_rfl))
  go_wp2_with (first
    | (go_at_call 47; refine (Is_same HCH.out).mono ?_; rintro e w10 ⟨rfl, rfl⟩)
    | (refine wpList_load_w (by rfl) 51 (.tmp 4) rfl g1 0 (by rfl) (cac ({ zc with kind := 8 }) 0 0) _ H0.out Tryz.underlying51 rfl infoCl ?_)
    | (refine wpList_load_w (by rfl) 51 (.tmp 5) rfl g2 0 (by rfl) (cac ({ zc with kind := 4, s := 4, g := 1, f := 1, new := nw 7 }) 0 0) _ H1.out Tryz.underlying51 rfl infoCl ?_)
    | (refine wpList_load_w (by rfl) 51 (.tmp 6) rfl g3 0 (by rfl) (cac ({ zc with kind := 3 }) 0 0) _ H2.out Tryz.underlying51 rfl infoCl ?_)
    | (refine wpList_load_w (by rfl) 51 (.tmp 8) rfl g5 0 (by rfl) (cac ({ zc with kind := 5, old := ⟨2, 3, 8, 0, false⟩, new := ⟨4, 1, 9, 0, false⟩ }) 0 0) _ H4.out Tryz.underlying51 rfl infoCl ?_)
    | (refine wpList_load_w (by rfl) 51 (.tmp 9) rfl g6 0 (by rfl) (cac ({ zc with kind := 12 }) 1 0) _ H5.out Tryz.underlying51 rfl infoCl ?_)
    | (refine wpList_load_w (by rfl) 34 (.tmp 65) rfl g4 9 (by rfl) (wc ⟨2, 3, 0, 0, false⟩) _ H3.out Tryz.underlying34 rfl infoWd5 ?_))
  go_ret
  exact ⟨rfl, A.out.of⟩
end Go.Proofs.YtihjklimcchkhaaGreatDoor.Pw
