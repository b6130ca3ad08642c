/- The document's examples on the sieve (awake). A template (fill.py). -/
import Derived.Test.YtlhhjbjdinimjaaSm
import Derived.Deep.RegionHeld3
import Derived.Deep.Cut
import Derived.Deep.DrawnRows
namespace Go.Proofs.Ytlhhjbjdinimjaa
open Go.RowKit Go.Extern.Stop Go.Stop Go.Extern Go.Sort

/-- Notes by number, as awake lays them. -/
def nt (s b d : Int) : Nt := ⟨⟨s, 1, 0, 0, false⟩, b, d⟩
def L3 : List Nt := [nt 1 0 3, nt 2 0 4, nt 3 0 5]
def L1 : List Nt := [nt 1 2 4]
theorem f1 : (L3.filter fun n => !epochK 6 n) = [nt 1 0 3, nt 2 0 4] := by decide +kernel
theorem f2 : L3.filter (epochK 6) = [nt 3 0 5] := by decide +kernel
theorem f3 : (L1.filter fun n => !eraP [5] n) = [nt 1 2 4] := by decide +kernel
theorem f4 : L1.filter (eraP [5]) = [] := by decide +kernel
theorem f5 : (L1.filter fun n => !eraP [3] n) = [] := by decide +kernel
theorem f6 : L1.filter (eraP [3]) = [nt 1 2 4] := by decide +kernel
theorem f7 : (L3.filter fun n => !slotP [⟨2, 0, 0, 0, false⟩] n) = [nt 1 0 3, nt 3 0 5] := by decide +kernel
theorem f8 : L3.filter (slotP [⟨2, 0, 0, 0, false⟩]) = [nt 2 0 4] := by decide +kernel
theorem RowC.form {α : Type} {c : α → List Value} {k : Nat} {W : World} {v : Value} {xs : List α} (h : RowC c k W v xs) (h0 : 0 < xs.length) : ∃ b off cap, v = .slice (some ⟨b, off, none⟩) xs.length cap ∧ b < W.heap.size ∧ ∀ i (h : i < xs.length), W.rangeAt b (off + i * k) (c xs[i]) := by
  rcases h with ⟨_, rfl⟩ | ⟨b, off, cap, h1, h2, _, h4⟩
  · exact absurd h0 (Nat.lt_irrefl 0)
  · exact ⟨b, off, cap, h1, h2, h4⟩
theorem eqSame (s b d : Int) (w : World) : (binOp .eql 39 (.agg #[.int .i64 s, .int .i64 1, .int .i64 0, .int .i64 0, .bool false, .int .i64 b, .int .i64 d]) (.agg #[.int .i64 s, .int .i64 1, .int .i64 0, .int .i64 0, .bool false, .int .i64 b, .int .i64 d])).run Try.prog w = .ok (.bool true) w := by
  rw [eqlN]; simp [eqN, eqW]
theorem blk_drew {w : World} {g : Nat} {t : TypeId} {cs : Array Value} (h : BlkW w g t cs) : BlkW w.drew g t cs := h
theorem Good_y (W : World) : Calls Try.prog 20 #[.agg #[.int .i64 1, .int .i64 1, .int .i64 0, .int .i64 0, .bool false, .int .i64 0, .int .i64 3]] W fun e w' => e = .returned (.bool true) ∧ Below W.heap.size W w' := Good_yes W
theorem Good_n (W : World) : Calls Try.prog 20 #[.agg #[.int .i64 0, .int .i64 0, .int .i64 0, .int .i64 0, .bool false, .int .i64 0, .int .i64 0]] W fun e w' => e = .returned (.bool false) ∧ Below W.heap.size W w' := Good_no W
theorem May_one (W : World) (b : Nat) (hb : BlkW W b 41 #[.bool true, .int .i64 3, .int .i64 0, .bool false, .int .i64 0, .int .i64 0]) : Calls Try.prog 19 #[.int .i64 3, .slice (some ⟨b, 0, none⟩) 2 2] W fun e w' => e = .returned (.bool true) ∧ Below W.heap.size W w' :=
  May_any 3 _ [⟨true, 3, 0⟩, ⟨false, 0, 0⟩] _ (row_lit sc_len (cap := 2) (xs := [⟨true, 3, 0⟩, ⟨false, 0, 0⟩]) hb (by decide)) (by decide)
theorem May_two (W : World) (b : Nat) (hb : BlkW W b 41 #[.bool true, .int .i64 2, .int .i64 0]) : Calls Try.prog 19 #[.int .i64 3, .slice (some ⟨b, 0, none⟩) 1 1] W fun e w' => e = .returned (.bool false) ∧ Below W.heap.size W w' :=
  May_any 3 _ [⟨true, 2, 0⟩] _ (row_lit sc_len (cap := 1) (xs := [⟨true, 2, 0⟩]) hb (by decide)) (by decide)
theorem keep_cell {w w' : World} {a : Addr} {v : Value} (h : w.cell? a = some v) (hb : Below w.heap.size w w') : w'.cell? a = some v := by
  rw [hb.cell (lt_of_cell h)]; exact h
set_option maxRecDepth 100000 in
set_option maxHeartbeats 16000000 in
theorem awake_true (w : World) : Calls Try.prog 8 #[] w (True1 w) := by
  go_enter Try.func8, Try.ntmps8
  go_wp2_with fail
  refine (note_any 1 0 3 _).mono ?_
  rintro e w1 ⟨rfl, hb⟩
  have B := Lib.hid hb
  clear hb
  unfold nv; dsimp only
  go_wp2_with fail
  refine (note_any 2 0 4 _).mono ?_
  rintro e w2 ⟨rfl, hb⟩
  replace B := Lib.hid (below_trans B.out hb)
  clear hb
  unfold nv; dsimp only
  go_wp2_with fail
  refine (note_any 3 0 5 _).mono ?_
  rintro e w3 ⟨rfl, hb⟩
  replace B := Lib.hid (below_alloc (below_trans B.out hb) (.cells (flat nc L3).toArray 39))
  have RL := Lib.hid (row_lit nc_len (cap := 3) (BlkW.new w3 39 (flat nc L3).toArray) (by decide))
  clear hb
  unfold nv; dsimp only
  go_wp2_with fail
  refine (Epochs_any _ 6 L3 _ RL.out (by decide)).mono ?_
  rintro e w4 ⟨a, b, rfl, ra, rb, hb⟩
  rw [f1] at ra
  rw [f2] at rb
  replace B := Lib.hid (below_trans B.out hb.out)
  replace RL := Lib.hid (RL.out.keep hb.out)
  clear hb
  generalize w3.heap.size = g at RL ⊢
  obtain ⟨a0, a1, rfl⟩ := ra.out.slice
  clear ra
  go_wp2_with fail
  refine (note_any 1 2 4 _).mono ?_
  rintro e w5 ⟨rfl, hb⟩
  replace B := Lib.hid (below_alloc (below_alloc (below_trans B.out hb) (.cells (flat nc L1).toArray 39)) (.cells (flat ic [5]).toArray 3))
  have hx := below_alloc (below_alloc hb (.cells (flat nc L1).toArray 39)) (.cells (flat ic [5]).toArray 3)
  replace RL := Lib.hid (RL.out.keep hx)
  replace rb := Lib.hid (rb.out.keep hx)
  have R1 := Lib.hid (row_lit nc_len (cap := 1) (xs := L1) ((blk2 w5 (flat nc L1).toArray (flat ic [5]).toArray 39 3).1) (by decide))
  have R2 := Lib.hid (row_lit ic_len (cap := 1) (xs := [5]) ((blk2 w5 (flat nc L1).toArray (flat ic [5]).toArray 39 3).2) (by decide))
  clear hb hx
  unfold nv; dsimp only
  go_wp2_with fail
  refine (Eras_any _ _ L1 [5] _ R1.out R2.out (by decide) (by decide)).mono ?_
  rintro e w6 ⟨c, d, rfl, rc, rd, hb⟩
  rw [f3] at rc
  rw [f4] at rd
  replace B := Lib.hid (below_trans B.out hb.out)
  replace RL := Lib.hid (RL.out.keep hb.out)
  replace rb := Lib.hid (rb.out.keep hb.out)
  obtain ⟨c0, c1, rfl⟩ := rc.out.slice
  obtain ⟨d0, d1, rfl⟩ := rd.out.slice
  clear hb rc rd R1 R2
  go_wp2_with fail
  refine (note_any 1 2 4 _).mono ?_
  rintro e w7 ⟨rfl, hb⟩
  replace B := Lib.hid (below_alloc (below_alloc (below_trans B.out hb) (.cells (flat nc L1).toArray 39)) (.cells (flat ic [3]).toArray 3))
  have hx := below_alloc (below_alloc hb (.cells (flat nc L1).toArray 39)) (.cells (flat ic [3]).toArray 3)
  replace RL := Lib.hid (RL.out.keep hx)
  replace rb := Lib.hid (rb.out.keep hx)
  have R1 := Lib.hid (row_lit nc_len (cap := 1) (xs := L1) ((blk2 w7 (flat nc L1).toArray (flat ic [3]).toArray 39 3).1) (by decide))
  have R2 := Lib.hid (row_lit ic_len (cap := 1) (xs := [3]) ((blk2 w7 (flat nc L1).toArray (flat ic [3]).toArray 39 3).2) (by decide))
  clear hb hx
  unfold nv; dsimp only
  go_wp2_with fail
  refine (Eras_any _ _ L1 [3] _ R1.out R2.out (by decide) (by decide)).mono ?_
  rintro e w8 ⟨f, h, rfl, rf, rh, hb⟩
  rw [f5] at rf
  rw [f6] at rh
  replace B := Lib.hid (below_alloc (below_trans B.out hb.out) (.cells (flat wc [⟨2, 0, 0, 0, false⟩]).toArray 37))
  have hx := below_alloc hb.out (.cells (flat wc [⟨2, 0, 0, 0, false⟩]).toArray 37)
  replace RL := Lib.hid (RL.out.keep hx)
  replace rb := Lib.hid (rb.out.keep hx)
  have R2 := Lib.hid (row_lit wc_len (cap := 1) (xs := [⟨2, 0, 0, 0, false⟩]) (BlkW.new w8 37 (flat wc [⟨2, 0, 0, 0, false⟩]).toArray) (by decide))
  obtain ⟨g0, g1, rfl⟩ := rf.out.slice
  obtain ⟨h0, h1, rfl⟩ := rh.out.slice
  clear hb hx rf rh R1
  go_wp2_with fail
  refine (Slots_any _ _ L3 [⟨2, 0, 0, 0, false⟩] _ RL.out R2.out (by decide) (by decide)).mono ?_
  rintro e w9 ⟨i, j, rfl, ri, rj, hb⟩
  rw [f7] at ri
  rw [f8] at rj
  replace B := Lib.hid (below_trans B.out hb.out)
  replace RL := Lib.hid (RL.out.keep hb.out)
  replace rb := Lib.hid (rb.out.keep hb.out)
  obtain ⟨i0, i1, rfl⟩ := ri.out.slice
  clear hb ri R2
  obtain ⟨bb, bo, bc, rfl, zb, hcb⟩ := rb.out.form (by decide)
  obtain ⟨jb, jo, jc, rfl, zj, hcj⟩ := rj.out.form (by decide)
  have qb := nc_cells (hcb 0 (by decide))
  have qj := nc_cells (hcj 0 (by decide))
  obtain ⟨lb, lo, lc, e, zl, hcl⟩ := RL.out.form (by decide)
  cases e
  have q0 := nc_cells (hcl 0 (by decide))
  have q1 := nc_cells (hcl 1 (by decide))
  have q2 := nc_cells (hcl 2 (by decide))
  simp only [L3, nt, List.getElem_cons_zero, List.getElem_cons_succ, Nat.zero_mul, Nat.add_zero, Nat.zero_add, Nat.one_mul] at qb qj q0 q1 q2
  obtain ⟨b0, b1, b2, b3, b4, b5, b6⟩ := qb
  obtain ⟨j0, j1, j2, j3, j4, j5, j6⟩ := qj
  obtain ⟨x0, x1, x2, x3, x4, x5, x6⟩ := q0
  obtain ⟨y0, y1, y2, y3, y4, y5, y6⟩ := q1
  obtain ⟨z0, z1, z2, z3, z4, z5, z6⟩ := q2
  have k1 := eqSame
  have k2 := heldN
  have k3 := guardN
  clear hcb hcj hcl rb rj
  go_upto_region 6 with (fail)
  clear RL
  dsimp only [List.append]
  go_region_held3 (fun w' => w'.cell? ⟨bb, bo, none⟩ = some (.int .i64 3) ∧ w'.cell? ⟨bb, bo + 1, none⟩ = some (.int .i64 1) ∧ w'.cell? ⟨bb, bo + 2, none⟩ = some (.int .i64 0) ∧ w'.cell? ⟨bb, bo + 3, none⟩ = some (.int .i64 0) ∧ w'.cell? ⟨bb, bo + 4, none⟩ = some (.bool false) ∧ w'.cell? ⟨bb, bo + 5, none⟩ = some (.int .i64 0) ∧ w'.cell? ⟨bb, bo + 6, none⟩ = some (.int .i64 5) ∧ w'.cell? ⟨jb, jo, none⟩ = some (.int .i64 2) ∧ w'.cell? ⟨jb, jo + 1, none⟩ = some (.int .i64 1) ∧ w'.cell? ⟨jb, jo + 2, none⟩ = some (.int .i64 0) ∧ w'.cell? ⟨jb, jo + 3, none⟩ = some (.int .i64 0) ∧ w'.cell? ⟨jb, jo + 4, none⟩ = some (.bool false) ∧ w'.cell? ⟨jb, jo + 5, none⟩ = some (.int .i64 0) ∧ w'.cell? ⟨jb, jo + 6, none⟩ = some (.int .i64 4) ∧ w'.cell? ⟨g, 0, none⟩ = some (.int .i64 1) ∧ w'.cell? ⟨g, 1, none⟩ = some (.int .i64 1) ∧ w'.cell? ⟨g, 2, none⟩ = some (.int .i64 0) ∧ w'.cell? ⟨g, 3, none⟩ = some (.int .i64 0) ∧ w'.cell? ⟨g, 4, none⟩ = some (.bool false) ∧ w'.cell? ⟨g, 5, none⟩ = some (.int .i64 0) ∧ w'.cell? ⟨g, 6, none⟩ = some (.int .i64 3) ∧ w'.cell? ⟨g, 7, none⟩ = some (.int .i64 2) ∧ w'.cell? ⟨g, 8, none⟩ = some (.int .i64 1) ∧ w'.cell? ⟨g, 9, none⟩ = some (.int .i64 0) ∧ w'.cell? ⟨g, 10, none⟩ = some (.int .i64 0) ∧ w'.cell? ⟨g, 11, none⟩ = some (.bool false) ∧ w'.cell? ⟨g, 12, none⟩ = some (.int .i64 0) ∧ w'.cell? ⟨g, 13, none⟩ = some (.int .i64 4) ∧ w'.cell? ⟨g, 14, none⟩ = some (.int .i64 3) ∧ w'.cell? ⟨g, 15, none⟩ = some (.int .i64 1) ∧ w'.cell? ⟨g, 16, none⟩ = some (.int .i64 0) ∧ w'.cell? ⟨g, 17, none⟩ = some (.int .i64 0) ∧ w'.cell? ⟨g, 18, none⟩ = some (.bool false) ∧ w'.cell? ⟨g, 19, none⟩ = some (.int .i64 0) ∧ w'.cell? ⟨g, 20, none⟩ = some (.int .i64 5))
    (first
      | go_keep
      | (go_split_ands
         (repeat' apply And.intro) <;> exact keep_cell (by assumption) (by assumption)))
    (first
    | (go_at_call 19; ((with_reducible refine (May_one _ _ (by first | exact BlkW.new _ _ _ | exact blk_drew (BlkW.new _ _ _))).mono ?_); rintro e u1 ⟨rfl, hb1⟩))
    | (go_at_call 19; ((with_reducible refine (May_two _ _ (by first | exact BlkW.new _ _ _ | exact blk_drew (BlkW.new _ _ _))).mono ?_); rintro e u2 ⟨rfl, hb2⟩))
    | (go_at_call 20; ((with_reducible refine (Good_y _).mono ?_); rintro e u3 ⟨rfl, hb3⟩))
    | (go_at_call 20; ((with_reducible refine (Good_n _).mono ?_); rintro e u4 ⟨rfl, hb4⟩)))
  all_goals
    have HE := Lib.hid (below_trans (below_trans (below_trans (below_alloc (below_trans (below_alloc B.out (.cells #[.bool true, .int .i64 3, .int .i64 0, .bool false, .int .i64 0, .int .i64 0] 41)).drew hb1) (.cells #[.bool true, .int .i64 2, .int .i64 0] 41)) hb2) hb3) hb4)
    go_wp2
    go_ret
    exact ⟨rfl, HE.out⟩
end Go.Proofs.Ytlhhjbjdinimjaa
