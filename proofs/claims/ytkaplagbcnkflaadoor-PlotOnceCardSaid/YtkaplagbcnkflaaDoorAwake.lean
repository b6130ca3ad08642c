/- The document's examples of plot: awake. A template (fill.py). -/
import Derived.Test.YtkaplagbcnkflaaDoorSeq
import Derived.Deep.DrawnRows
import Derived.Deep.RegionHeld3
namespace Go.Proofs.YtkaplagbcnkflaaDoor
open Go.RowKit Go.Extern.Stop Go.Stop Go.Extern Go.Sort
section
variable {w W w' : World} {E : Flt → Addr} {B p bs bb : Nat} {t t' : St}
theorem Is_same {a : Addr} {ps : List Int} {v : Value} (h : Ch w (.iface 121 (.pointer (some a))) ps v) :
    Calls Tryd.prog 16 #[v, .iface 121 (.pointer (some a))] w fun e w' => e = .returned (.bool true) ∧ w = w' := by
  have := (IsC.chain h (fun hne => absurd rfl hne)).Is
  simpa using this
/-- An access whose reply is known. -/
def DoEq (W : World) (E : Flt → Addr) (B p bs bb : Nat) (t' : St) (s g u n : Int) (m ok : Bool) (e : Ending) (w' : World) : Prop :=
  e = .returned (.tuple #[.agg #[.int .i64 s, .int .i64 g, .int .i64 u, .int .i64 n, .bool m, .bool ok], .nilIface]) ∧ Hid (PlotAt w' E B p bs bb t') ∧ Hid (Below B W w') ∧ Hid (Kept p bs bb W w')
theorem do_eq (h : PlotAt w E B p bs bb t) (hB : 6 ≤ B) (ht : t.steps < 900000) (a : Ac) (hc : t.can a = true) (s g u n : Int) (m ok : Bool) (hd : (t.step a).2 = (⟨s, g, u, n, m⟩, ok)) :
    Calls Tryd.prog 9 #[.pointer (some ⟨p, 0, none⟩), av a] w (DoEq w E B p bs bb (t.step a).1 s g u n m ok) := by
  have := do_is h hB ht a hc
  rw [hd] at this
  exact this
theorem fault_at (h : PlotAt w E B p bs bb t) (k : Nat) (x : Flt) (hf : t.fault = some (k, x)) :
    Calls Tryd.prog 14 #[.pointer (some ⟨p, 0, none⟩)] w (FaultPost w E k x) := by
  obtain ⟨⟨v, fv, h⟩, o, L⟩ := h
  exact fault_some h L k x hf
theorem live_at (h : PlotAt w E B p bs bb t) : Calls Tryd.prog 10 #[.pointer (some ⟨p, 0, none⟩)] w fun e w' => e = .returned (.int .i64 ((t.n : Int) - t.free.length)) ∧ Below w.heap.size w w' := by
  obtain ⟨⟨v, fv, h⟩, o, L⟩ := h
  exact live_any h o
theorem made_at_ (h : PlotAt w E B p bs bb t) : Calls Tryd.prog 11 #[.pointer (some ⟨p, 0, none⟩)] w fun e w' => e = .returned (.int .i64 (t.made : Int)) ∧ w = w' := by
  obtain ⟨⟨v, fv, h⟩, o, L⟩ := h
  exact made_any h
theorem steps_at (h : PlotAt w E B p bs bb t) : Calls Tryd.prog 17 #[.pointer (some ⟨p, 0, none⟩)] w fun e w' => e = .returned (.int .i64 (t.steps : Int)) ∧ w = w' := by
  obtain ⟨⟨v, fv, h⟩, o, L⟩ := h
  exact steps_any h
end
attribute [local go_sem ↓] Go.wp_at_zero Go.wp_at_succ
def aA : Ac := ⟨4, 0, 0, 0, zw, nw 7⟩
def aB : Ac := ⟨5, 0, 0, 0, ⟨1, 1, 0, 0, false⟩, zw⟩
def aC : Ac := ⟨4, 0, 0, 0, zw, zw⟩
def aD : Ac := ⟨1, 1, 1, 0, zw, zw⟩
def aF : Ac := ⟨1, 0, 0, 3, zw, zw⟩
def t1 : St := ((St.new 2 3).step aA).1
def t2 : St := (t1.step aB).1
def t3 : St := (t2.step aC).1
def t4 : St := (t3.step aD).1
theorem q1 : ((St.new 2 3).step aA).2 = (⟨1, 1, 0, 0, false⟩, true) := by rfl
theorem q2 : (t1.step aB).2 = (⟨0, 0, 0, 0, false⟩, true) := by rfl
theorem q3 : (t2.step aC).2 = (⟨1, 2, 0, 0, false⟩, true) := by rfl
theorem q4 : (t3.step aD).2 = (⟨0, 0, 0, -1, false⟩, false) := by rfl
theorem k1 : (St.new 2 3).can aA = true := by rfl
theorem k2 : t1.can aB = true := by rfl
theorem k3 : t2.can aC = true := by rfl
theorem k4 : t3.can aD = true := by rfl
theorem k5 : t4.can aF = false := by rfl
theorem q5 : t4.fault = some (4, .stale) ∧ t4.n = 2 ∧ t4.free.length = 1 ∧ t4.made = 2 ∧ t4.steps = 4 := ⟨by rfl, by rfl, by rfl, by rfl, by rfl⟩
theorem q6 : t1.steps = 1 ∧ t2.steps = 2 ∧ t3.steps = 3 := ⟨by rfl, by rfl, by rfl⟩
theorem eqA (w : World) : (binOp .eql 35 (.agg #[.int .i64 1, .int .i64 1, .int .i64 0, .int .i64 0, .bool false]) (.agg #[.int .i64 1, .int .i64 1, .int .i64 0, .int .i64 0, .bool false])).run Tryd.prog w = .ok (.bool true) w := eq23 _ _ _ _ _ _ _ _ _ _ w
theorem eqC (w : World) : (binOp .eql 35 (.agg #[.int .i64 1, .int .i64 2, .int .i64 0, .int .i64 0, .bool false]) (.agg #[.int .i64 1, .int .i64 2, .int .i64 0, .int .i64 0, .bool false])).run Tryd.prog w = .ok (.bool true) w := eq23 _ _ _ _ _ _ _ _ _ _ w
theorem eqD (w : World) : (binOp .eql 39 (.agg #[.int .i64 0, .int .i64 0, .int .i64 0, .int .i64 (-1), .bool false, .bool false]) (.agg #[.int .i64 0, .int .i64 0, .int .i64 0, .int .i64 (-1), .bool false, .bool false])).run Tryd.prog w = .ok (.bool true) w := by kernel_rfl
theorem live_aw {w : World} {E : Flt → Addr} {B p bs bb : Nat} (h : PlotAt w E B p bs bb t4) : Calls Tryd.prog 10 #[.pointer (some ⟨p, 0, none⟩)] w fun e w' => e = .returned (.int .i64 1) ∧ Below w.heap.size w w' := by
  have := live_at h
  rw [q5.2.1, q5.2.2.1] at this
  exact this
theorem made_aw {w : World} {E : Flt → Addr} {B p bs bb : Nat} (h : PlotAt w E B p bs bb t4) : Calls Tryd.prog 11 #[.pointer (some ⟨p, 0, none⟩)] w fun e w' => e = .returned (.int .i64 2) ∧ w = w' := by
  have := made_at_ h
  rw [q5.2.2.2.1] at this
  exact this
theorem steps_aw {w : World} {E : Flt → Addr} {B p bs bb : Nat} (h : PlotAt w E B p bs bb t4) : Calls Tryd.prog 17 #[.pointer (some ⟨p, 0, none⟩)] w fun e w' => e = .returned (.int .i64 4) ∧ w = w' := by
  have := steps_at h
  rw [q5.2.2.2.2] at this
  exact this
theorem keep_cell {w w' : World} {a : Addr} {v : Value} (hb : Below w.heap.size w w') (h : w.cell? a = some v) : w'.cell? a = some v := by rw [hb.cell (lt_of_cell h)]; exact h
theorem alloc_keep {w : World} {E : Flt → Addr} {B p bs bb : Nat} {t : St} (h : PlotAt w E B p bs bb t) (o : Obj) : PlotAt (w.alloc o) E B p bs bb t := h.keep (below_alloc (Below.refl _ _) _)
theorem low {B : Nat} {w a b : World} (h : Hid (Below B w a)) (k : Hid (Below B a b)) : Hid (Below B w b) := h.out.trans k.out
theorem low_alloc {B : Nat} {w a : World} (h : Hid (Below B w a)) (hB : B ≤ w.heap.size) (o : Obj) : Hid (Below B w (a.alloc o)) := h.out.alloc (Nat.le_trans hB h.out.size) o
set_option maxRecDepth 100000 in
set_option maxHeartbeats 4000000 in
theorem awake_true (E : Flt → Addr) (w : World) (L : Env w E) : Calls Tryd.prog 7 #[] w (True1 w) := by
  have HL := Lib.hid L
  have hB := L.size
  clear L
  go_enter Tryd.func7, Tryd.ntmps7
  go_wp2_with fail
  refine (new_is HL.out 2 3 (by omega) (by omega)).mono ?_
  rintro e w1 ⟨p, bs, bb, rfl, P1, B1, _, _⟩
  go_wp2_with fail
  refine (do_eq P1.out hB (by decide) aA k1 1 1 0 0 false true q1).mono ?_
  rintro e w2 ⟨rfl, P2, C2, K2⟩
  have B2 := low B1 C2
  have P2 := Lib.hid (alloc_keep P2.out (.cells #[.int .i64 1, .int .i64 1, .int .i64 0, .int .i64 0, .bool false, .bool true] 39))
  have B2 := low_alloc B2 (Nat.le_refl _) (.cells #[.int .i64 1, .int .i64 1, .int .i64 0, .int .i64 0, .bool false, .bool true] 39)
  have X3 := Lib.hid (BlkW.new w2 39 #[.int .i64 1, .int .i64 1, .int .i64 0, .int .i64 0, .bool false, .bool true])
  clear C2 K2 B1 P1
  go_wp2_with fail
  refine (do_eq P2.out hB (by have := q6.1; show t1.steps < _; omega) aB k2 0 0 0 0 false true q2).mono ?_
  rintro e w3 ⟨rfl, P3, C3, K3⟩
  have B3 := low B2 C3
  have X3 := Lib.hid ((K3.out.rep P2.out X3.out).alloc (.cells #[.int .i64 0, .int .i64 0, .int .i64 0, .int .i64 0, .bool false, .bool true] 39))
  have P3 := Lib.hid (alloc_keep P3.out (.cells #[.int .i64 0, .int .i64 0, .int .i64 0, .int .i64 0, .bool false, .bool true] 39))
  have B3 := low_alloc B3 (Nat.le_refl _) (.cells #[.int .i64 0, .int .i64 0, .int .i64 0, .int .i64 0, .bool false, .bool true] 39)
  have X5 := Lib.hid (BlkW.new w3 39 #[.int .i64 0, .int .i64 0, .int .i64 0, .int .i64 0, .bool false, .bool true])
  clear C3 K3 B2 P2
  go_wp2_with fail
  refine (do_eq P3.out hB (by have := q6.2.1; show t2.steps < _; omega) aC k3 1 2 0 0 false true q3).mono ?_
  rintro e w4 ⟨rfl, P4, C4, K4⟩
  have B4 := low B3 C4
  have X3 := Lib.hid ((K4.out.rep P3.out X3.out).alloc (.cells #[.int .i64 1, .int .i64 2, .int .i64 0, .int .i64 0, .bool false, .bool true] 39))
  have X5 := Lib.hid ((K4.out.rep P3.out X5.out).alloc (.cells #[.int .i64 1, .int .i64 2, .int .i64 0, .int .i64 0, .bool false, .bool true] 39))
  have P4 := Lib.hid (alloc_keep P4.out (.cells #[.int .i64 1, .int .i64 2, .int .i64 0, .int .i64 0, .bool false, .bool true] 39))
  have B4 := low_alloc B4 (Nat.le_refl _) (.cells #[.int .i64 1, .int .i64 2, .int .i64 0, .int .i64 0, .bool false, .bool true] 39)
  have X7 := Lib.hid (BlkW.new w4 39 #[.int .i64 1, .int .i64 2, .int .i64 0, .int .i64 0, .bool false, .bool true])
  clear C4 K4 B3 P3
  go_wp2_with fail
  refine (do_eq P4.out hB (by have := q6.2.2; show t3.steps < _; omega) aD k4 0 0 0 (-1) false false q4).mono ?_
  rintro e w5 ⟨rfl, P5, C5, K5⟩
  have B5 := low B4 C5
  have X3 := Lib.hid ((K5.out.rep P4.out X3.out).alloc (.cells #[.int .i64 0, .int .i64 0, .int .i64 0, .int .i64 (-1), .bool false, .bool false] 39))
  have X5 := Lib.hid ((K5.out.rep P4.out X5.out).alloc (.cells #[.int .i64 0, .int .i64 0, .int .i64 0, .int .i64 (-1), .bool false, .bool false] 39))
  have X7 := Lib.hid ((K5.out.rep P4.out X7.out).alloc (.cells #[.int .i64 0, .int .i64 0, .int .i64 0, .int .i64 (-1), .bool false, .bool false] 39))
  have P5 := Lib.hid (alloc_keep P5.out (.cells #[.int .i64 0, .int .i64 0, .int .i64 0, .int .i64 (-1), .bool false, .bool false] 39))
  have B5 := low_alloc B5 (Nat.le_refl _) (.cells #[.int .i64 0, .int .i64 0, .int .i64 0, .int .i64 (-1), .bool false, .bool false] 39)
  have X9 := Lib.hid (BlkW.new w5 39 #[.int .i64 0, .int .i64 0, .int .i64 0, .int .i64 (-1), .bool false, .bool false])
  clear C5 K5 B4 P4
  go_wp2_with fail
  refine (do_no P5.out aF k5).mono ?_
  rintro e w6 ⟨y, rfl, hch, hb⟩
  unfold rv zw
  dsimp only
  have hb := below_alloc hb (.cells #[.int .i64 0, .int .i64 0, .int .i64 0, .int .i64 0, .bool false, .bool false] 39)
  have HC := Lib.hid (hch.keep (below_alloc (Below.refl w6.heap.size w6) (.cells #[.int .i64 0, .int .i64 0, .int .i64 0, .int .i64 0, .bool false, .bool false] 39)))
  have B6 := Lib.hid (show Below w.heap.size w _ from B5.out.trans (hb.mono B5.out.size))
  have X3 := Lib.hid (X3.out.below hb)
  have X5 := Lib.hid (X5.out.below hb)
  have X7 := Lib.hid (X7.out.below hb)
  have X9 := Lib.hid (X9.out.below hb)
  have P6 := Lib.hid (P5.out.keep hb)
  clear hch hb B5 P5
  go_wp2_with fail
  refine (fault_at P6.out 4 .stale q5.1).mono ?_
  rintro e w7 ⟨y7, rfl, hch, hb⟩
  have HC := Lib.hid (HC.out.keep hb)
  have B7 := Lib.hid (show Below w.heap.size w w7 from B6.out.trans (hb.mono B6.out.size))
  have X3 := Lib.hid (X3.out.below hb)
  have X5 := Lib.hid (X5.out.below hb)
  have X7 := Lib.hid (X7.out.below hb)
  have X9 := Lib.hid (X9.out.below hb)
  have P7 := Lib.hid (P6.out.keep hb)
  have HS := Lib.hid hch
  clear hch hb B6 P6
  go_wp2_with fail
  refine (Place_ch P7.out.2.2.et HS.out (by simp)).mono ?_
  rintro e w8 ⟨rfl, hb⟩
  have HC := Lib.hid (HC.out.keep hb)
  have B8 := Lib.hid (show Below w.heap.size w w8 from B7.out.trans (hb.mono B7.out.size))
  have X3 := X3.out.below hb
  have X5 := X5.out.below hb
  have X7 := X7.out.below hb
  have X9 := X9.out.below hb
  have P8 := Lib.hid (P7.out.keep hb)
  clear HS hb B7 P7
  have a0 := X3.cell 0
  have a1 := X3.cell 1
  have a2 := X3.cell 2
  have a3 := X3.cell 3
  have a4 := X3.cell 4
  have b5 := X5.cell 5
  have c0 := X7.cell 0
  have c1 := X7.cell 1
  have c2 := X7.cell 2
  have c3 := X7.cell 3
  have c4 := X7.cell 4
  have d0 := X9.cell 0
  have d1 := X9.cell 1
  have d2 := X9.cell 2
  have d3 := X9.cell 3
  have d4 := X9.cell 4
  have d5 := X9.cell 5
  simp only [List.getElem?_toArray, List.getElem?_cons_succ, List.getElem?_cons_zero] at a0 a1 a2 a3 a4 b5 c0 c1 c2 c3 c4 d0 d1 d2 d3 d4 d5
  have ga := P8.out.2.2.arg
  have gs := P8.out.2.2.stale
  have eA := eqA
  have eC := eqC
  have eD := eqD
  have n1 := noHeld
  have n2 := noGuard
  clear X3 X5 X7 X9
  go_upto_region 10 with (fail)
  have PD := Lib.hid (P8.out.keep ((Below.refl w8.heap.size w8).drew))
  have CD := Lib.hid (HC.out.keep ((Below.refl w8.heap.size w8).drew))
  have BD := Lib.hid (show Below w.heap.size w w8.drew from B8.out.drew)
  clear HC P8 B8
  generalize w2.heap.size = n2 at a0 a1 a2 a3 a4 ⊢
  generalize w3.heap.size = n3 at b5 ⊢
  generalize w4.heap.size = n4 at c0 c1 c2 c3 c4 ⊢
  generalize w5.heap.size = n5 at d0 d1 d2 d3 d4 d5 ⊢
  go_region_held3 (fun w' => w'.cell? ⟨n2, 0, none⟩ = some (.int .i64 1) ∧ w'.cell? ⟨n2, 1, none⟩ = some (.int .i64 1) ∧ w'.cell? ⟨n2, 2, none⟩ = some (.int .i64 0) ∧ w'.cell? ⟨n2, 3, none⟩ = some (.int .i64 0) ∧ w'.cell? ⟨n2, 4, none⟩ = some (.bool false) ∧ w'.cell? ⟨n3, 5, none⟩ = some (.bool true) ∧ w'.cell? ⟨n4, 0, none⟩ = some (.int .i64 1) ∧ w'.cell? ⟨n4, 1, none⟩ = some (.int .i64 2) ∧ w'.cell? ⟨n4, 2, none⟩ = some (.int .i64 0) ∧ w'.cell? ⟨n4, 3, none⟩ = some (.int .i64 0) ∧ w'.cell? ⟨n4, 4, none⟩ = some (.bool false) ∧ w'.cell? ⟨n5, 0, none⟩ = some (.int .i64 0) ∧ w'.cell? ⟨n5, 1, none⟩ = some (.int .i64 0) ∧ w'.cell? ⟨n5, 2, none⟩ = some (.int .i64 0) ∧ w'.cell? ⟨n5, 3, none⟩ = some (.int .i64 (-1)) ∧ w'.cell? ⟨n5, 4, none⟩ = some (.bool false) ∧ w'.cell? ⟨n5, 5, none⟩ = some (.bool false) ∧ w'.cell? ⟨0, 0, none⟩ = some (.iface 121 (.pointer (some (E .arg)))) ∧ w'.cell? ⟨1, 0, none⟩ = some (.iface 121 (.pointer (some (E .stale)))))
    (first
      | go_keep
      | (go_split_ands
         (repeat' apply And.intro) <;> exact keep_cell (by assumption) (by assumption)))
    (first
    | (go_at_call 16; ((with_reducible refine (Is_same CD.out).mono ?_); rintro e w9 ⟨rfl, rfl⟩))
    | (go_at_call 14; refine (fault_at PD.out 4 .stale q5.1).mono ?_; rintro e w9 ⟨y9, rfl, hch9, hb9⟩)
    | (go_at_call 16; ((with_reducible refine (Is_same hch9).mono ?_); rintro e w10 ⟨rfl, rfl⟩))
    | (go_at_call 10; refine (live_aw (PD.out.keep hb9)).mono ?_; rintro e w11 ⟨rfl, hb11⟩)
    | (go_at_call 11; refine (made_aw ((PD.out.keep hb9).keep hb11)).mono ?_; rintro e w12 ⟨rfl, rfl⟩)
    | (go_at_call 17; refine (steps_aw ((PD.out.keep hb9).keep hb11)).mono ?_; rintro e w13 ⟨rfl, rfl⟩))
  all_goals
    have hE : Below w.heap.size w w11 := (BD.out.trans (hb9.mono BD.out.size)).trans (hb11.mono (Nat.le_trans BD.out.size hb9.size))
    have HE := Lib.hid hE
    go_wp2
    go_ret
    exact ⟨rfl, HE.out⟩
end Go.Proofs.YtkaplagbcnkflaaDoor
