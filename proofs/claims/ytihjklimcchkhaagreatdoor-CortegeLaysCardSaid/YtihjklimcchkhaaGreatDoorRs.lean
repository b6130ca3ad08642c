/- The awake law of rite's seat. A template (made by gen_XRs.py). -/
import Derived.Test.YtihjklimcchkhaaGreatDoorRQ
import Derived.Test.YtihjklimcchkhaaGreatDoorFB
import Derived.Deep.RegionHeld3
namespace Go.Proofs.YtihjklimcchkhaaGreatDoor
open Go.RowKit Go.Extern.Stop Go.Stop Go.Extern Go.Sort
/-- A rite and boxes beside it, in a world that came from w. -/
def Aw (W w : World) (r : Nat) (m : Rt) (bx : List (Nat × TypeId × Array Value)) : Prop := ∃ K, RiteIs W w.heap.size r m K ∧ Below w.heap.size w W ∧ ∀ x, x ∈ bx → BlkW W x.1 x.2.1 x.2.2 ∧ ¬ K x.1
section
variable {W W' w : World} {r : Nat} {m m' : Rt} {bx : List (Nat × TypeId × Array Value)}
theorem Aw.below (h : Aw W w r m bx) (hb : Below W.heap.size W W') : Aw W' w r m bx := by
  obtain ⟨K, ⟨sv, fv, nv, h1⟩, h2, h3⟩ := h
  exact ⟨K, ⟨sv, fv, nv, h1.below hb⟩, below_low h2 (hb.mono h2.size), fun x hx => ⟨(h3 x hx).1.below hb, (h3 x hx).2⟩⟩
theorem Aw.box (h : Aw W w r m bx) (t : TypeId) (cs : Array Value) : Aw (W.alloc (.cells cs t)) w r m ((W.heap.size, t, cs) :: bx) := by
  have hb := below_alloc (Below.refl W.heap.size W) (.cells cs t)
  obtain ⟨K, ⟨sv, fv, nv, h1⟩, h2, h3⟩ := h
  refine ⟨K, ⟨sv, fv, nv, h1.below hb⟩, below_low h2 (hb.mono h2.size), fun x hx => ?_⟩
  rcases List.mem_cons.1 hx with rfl | hx
  · exact ⟨BlkW.new _ _ _, fun e => by have := (h1.low _ e).2; omega⟩
  · exact ⟨(h3 x hx).1.below hb, (h3 x hx).2⟩
theorem Aw.call {F : Nat} {args : Array Value} (h : Aw W w r m bx) (hc : ∀ sv fv nv K, RiteP W w.heap.size r sv fv nv m K → Calls Tryz.prog F args W (EPost W w.heap.size r K m')) : Calls Tryz.prog F args W fun e w' => e = .returned .nilIface ∧ Hid (Aw w' w r m' bx) := by
  obtain ⟨K, ⟨sv, fv, nv, h1⟩, h2, h3⟩ := h
  refine (hc sv fv nv K h1).mono fun e w' ⟨he, hs⟩ => ⟨he, Lib.hid ?_⟩
  obtain ⟨K', h4, h5, h6⟩ := hs.out
  refine ⟨K', h4, ?_, fun x hx => ⟨h5.blk (h3 x hx).1 (h3 x hx).2, fun e => ?_⟩⟩
  · exact below_low h2 (h5.below (fun j hj => (h1.low j hj).1) h2.size)
  · rcases h6 _ e with k | k
    · exact (h3 x hx).2 k
    · have := (h3 x hx).1.lt; omega
theorem Aw.at_ (h : Aw W w r m bx) : ∃ sv fv nv, RtAt W r sv fv nv m := by
  obtain ⟨K, ⟨sv, fv, nv, h1⟩, _⟩ := h
  exact ⟨sv, fv, nv, h1.at_⟩
theorem Aw.next (h : Aw W w r m bx) (hb : m.st.busy = true) : Calls Tryz.prog 27 #[.pointer (some ⟨r, 0, none⟩)] W fun e w' => e = .returned (.tuple #[aav m.st.acc, .bool true]) ∧ Hid (Aw w' w r m bx) := by
  obtain ⟨sv, fv, nv, ha⟩ := h.at_
  exact (Next_busy ha hb).mono fun e w' ⟨he, hb'⟩ => ⟨he, Lib.hid (h.below hb')⟩
theorem Aw.get (h : Aw W w r m bx) (x : Nat × TypeId × Array Value) (hx : x ∈ bx) : BlkW W x.1 x.2.1 x.2.2 := by
  obtain ⟨K, _, _, h3⟩ := h
  exact (h3 x hx).1
theorem Aw.of (h : Aw W w r m bx) : Below w.heap.size w W := by
  obtain ⟨K, _, h2, _⟩ := h
  exact h2
theorem Keep_a (w : World) : Calls Tryz.prog 24 #[.int .i64 0, .int .i64 1] w fun e w' => e = .returned (.tuple #[.agg #[.int .i64 0, .int .i64 0, .int .i64 26], .nilIface]) ∧ Below w.heap.size w w' := Bd.Keep_yes 0 1 ⟨by decide, by decide⟩ w
theorem New_a (w : World) : Calls Tryz.prog 25 #[.int .i64 2, .int .i64 0, .int .i64 2, .int .i64 3] w fun f w' => f = .returned (.tuple #[.pointer (some ⟨w.heap.size, 0, none⟩), .nilIface]) ∧ Hid (Aw w' w w.heap.size a0 []) :=
  (New_is 2 0 2 3 (by decide) (by decide) (by decide) (by decide) w).mono fun f w' ⟨he, h1, h2⟩ => ⟨he, Lib.hid ⟨_, ⟨_, _, _, h1.out⟩, h2.out, fun x hx => by cases hx⟩⟩
end
theorem Is_same {w : World} {a : Addr} {ps : List Int} {v : Value} (h : Ch w (.iface 260 (.pointer (some a))) ps v) :
    Calls Tryz.prog 47 #[v, .iface 260 (.pointer (some a))] w fun e w' => e = .returned (.bool true) ∧ w = w' := by
  have := (IsC.chain h (fun hne => absurd rfl hne)).Is
  simpa using this
theorem aav1 : aav a1.st.acc = .agg #[.int .i64 1, .int .i64 0, .int .i64 0, .int .i64 0, .int .i64 0, .int .i64 0, .int .i64 0, .int .i64 0, .bool false, .int .i64 0, .int .i64 0, .int .i64 0, .int .i64 0, .bool false] := rfl
theorem aav2 : aav a2.st.acc = .agg #[.int .i64 2, .int .i64 0, .int .i64 0, .int .i64 26, .int .i64 0, .int .i64 0, .int .i64 0, .int .i64 0, .bool false, .int .i64 3, .int .i64 1, .int .i64 0, .int .i64 0, .bool false] := rfl
theorem aav3 : aav a3.st.acc = .agg #[.int .i64 1, .int .i64 0, .int .i64 0, .int .i64 0, .int .i64 0, .int .i64 0, .int .i64 0, .int .i64 0, .bool false, .int .i64 0, .int .i64 0, .int .i64 0, .int .i64 0, .bool false] := rfl
set_option maxRecDepth 100000 in
set_option maxHeartbeats 1000000 in
theorem awake_is (w : World) (a : Addr) (L : Bd.HasArg w a) : Calls Tryz.prog 12 #[] w fun e w' => e = .returned (.bool true) ∧ Below w.heap.size w w' := by
  have HL := Lib.hid L
  clear L
  go_enter Tryz.func12, Tryz.ntmps12
  go_wp2_with fail
  refine (New_a w).mono ?_
  rintro e w1 ⟨rfl, A⟩
  generalize w.heap.size = r at A ⊢
  go_wp2_with fail
  refine (Bd.Root_yes 0 ⟨by decide, by decide⟩ _).mono ?_
  rintro e w2 ⟨rfl, hb⟩
  replace A := Lib.hid (A.out.below hb)
  clear hb
  unfold Bd.ad
  go_wp2_with fail
  replace A := Lib.hid (A.out.box 47 #[.int .i64 0, .int .i64 0, .int .i64 0])
  generalize w2.alloc (.cells #[.int .i64 0, .int .i64 0, .int .i64 0] 47) = Wg1 at A ⊢
  generalize w2.heap.size = g1 at A ⊢
  refine (Keep_a _).mono ?_
  rintro e w4 ⟨rfl, hb⟩
  replace A := Lib.hid (A.out.below hb)
  clear hb
  have X := A.out.get (g1, 47, #[.int .i64 0, .int .i64 0, .int .i64 0]) (by simp)
  have x0 := X.cell 0
  have x1 := X.cell 1
  have x2 := X.cell 2
  have xz := X.lt
  clear X
  simp only [List.getElem?_toArray, List.getElem?_cons_succ, List.getElem?_cons_zero] at x0 x1 x2
  go_wp2_with fail
  clear x0 x1 x2 xz
  replace A := Lib.hid ((A.out.box 47 #[.int .i64 0, .int .i64 0, .int .i64 26]).box 34 #[.int .i64 3, .int .i64 1, .int .i64 5, .int .i64 0, .bool false])
  rw [World.size_alloc] at A
  generalize (w4.alloc (.cells #[.int .i64 0, .int .i64 0, .int .i64 26] 47)).alloc (.cells #[.int .i64 3, .int .i64 1, .int .i64 5, .int .i64 0, .bool false] 34) = w5 at A ⊢
  generalize w4.heap.size = g2 at A ⊢
  refine (A.out.call fun _ _ _ _ h => a_begin h).mono ?_
  rintro e w6 ⟨rfl, A⟩
  go_wp2_with fail
  refine (A.out.next rfl).mono ?_
  rintro e w7 ⟨rfl, A⟩
  rw [aav1]
  have X := A.out.get (g2 + 1, 34, #[.int .i64 3, .int .i64 1, .int .i64 5, .int .i64 0, .bool false]) (by simp)
  have x0 := X.cell 0
  have x1 := X.cell 1
  have x2 := X.cell 2
  have x3 := X.cell 3
  have x4 := X.cell 4
  have xz := X.lt
  clear X
  simp only [List.getElem?_toArray, List.getElem?_cons_succ, List.getElem?_cons_zero] at x0 x1 x2 x3 x4
  go_wp2_with fail
  clear x0 x1 x2 x3 x4 xz
  replace A := Lib.hid (A.out.box 67 #[.int .i64 1, .int .i64 0, .int .i64 0, .int .i64 0, .int .i64 0, .int .i64 0, .int .i64 0, .int .i64 0, .bool false, .int .i64 0, .int .i64 0, .int .i64 0, .int .i64 0, .bool false])
  generalize w7.alloc (.cells #[.int .i64 1, .int .i64 0, .int .i64 0, .int .i64 0, .int .i64 0, .int .i64 0, .int .i64 0, .int .i64 0, .bool false, .int .i64 0, .int .i64 0, .int .i64 0, .int .i64 0, .bool false] 67) = Wg4 at A ⊢
  generalize w7.heap.size = g4 at A ⊢
  refine (A.out.call fun _ _ _ _ h => a_took1 h).mono ?_
  rintro e w8 ⟨rfl, A⟩
  go_wp2_with fail
  refine (A.out.next rfl).mono ?_
  rintro e w9 ⟨rfl, A⟩
  rw [aav2]
  go_wp2_with fail
  replace A := Lib.hid (A.out.box 67 #[.int .i64 2, .int .i64 0, .int .i64 0, .int .i64 26, .int .i64 0, .int .i64 0, .int .i64 0, .int .i64 0, .bool false, .int .i64 3, .int .i64 1, .int .i64 0, .int .i64 0, .bool false])
  generalize w9.alloc (.cells #[.int .i64 2, .int .i64 0, .int .i64 0, .int .i64 26, .int .i64 0, .int .i64 0, .int .i64 0, .int .i64 0, .bool false, .int .i64 3, .int .i64 1, .int .i64 0, .int .i64 0, .bool false] 67) = Wg5 at A ⊢
  generalize w9.heap.size = g5 at A ⊢
  refine (A.out.call fun _ _ _ _ h => a_took2 h).mono ?_
  rintro e w10 ⟨rfl, A⟩
  go_wp2_with fail
  refine (A.out.next rfl).mono ?_
  rintro e w11 ⟨rfl, A⟩
  rw [aav3]
  have X := A.out.get (g2 + 1, 34, #[.int .i64 3, .int .i64 1, .int .i64 5, .int .i64 0, .bool false]) (by simp)
  have x0 := X.cell 0
  have x1 := X.cell 1
  have x2 := X.cell 2
  have x3 := X.cell 3
  have x4 := X.cell 4
  have xz := X.lt
  clear X
  simp only [List.getElem?_toArray, List.getElem?_cons_succ, List.getElem?_cons_zero] at x0 x1 x2 x3 x4
  go_wp2_with fail
  clear x0 x1 x2 x3 x4 xz
  replace A := Lib.hid (A.out.box 67 #[.int .i64 1, .int .i64 0, .int .i64 0, .int .i64 0, .int .i64 0, .int .i64 0, .int .i64 0, .int .i64 0, .bool false, .int .i64 0, .int .i64 0, .int .i64 0, .int .i64 0, .bool false])
  generalize w11.alloc (.cells #[.int .i64 1, .int .i64 0, .int .i64 0, .int .i64 0, .int .i64 0, .int .i64 0, .int .i64 0, .int .i64 0, .bool false, .int .i64 0, .int .i64 0, .int .i64 0, .int .i64 0, .bool false] 67) = Wg6 at A ⊢
  generalize w11.heap.size = g6 at A ⊢
  refine (A.out.call fun _ _ _ _ h => a_took3 h).mono ?_
  rintro e w12 ⟨rfl, A⟩
  go_wp2_with fail
  refine (New_no w12 a (show w12.cell? _ = _ from keep_cell A.out.of HL.out)).mono ?_
  rintro e w13 ⟨u, rfl, hch, hb⟩
  have HCH := Lib.hid hch
  obtain ⟨T, y, hu⟩ := hch.shape
  subst hu
  replace A := Lib.hid (A.out.below hb)
  have HA := Lib.hid (show w13.cell? _ = _ from keep_cell A.out.of HL.out)
  clear hb hch
  go_upto_region 15 with fail
  have X := A.out.get (g1, 47, #[.int .i64 0, .int .i64 0, .int .i64 0]) (by simp)
  have xa0 := cell_regrown (X.cell 0)
  have xa1 := cell_regrown (X.cell 1)
  have xa2 := cell_regrown (X.cell 2)
  clear X
  simp only [List.getElem?_toArray, List.getElem?_cons_succ, List.getElem?_cons_zero] at xa0 xa1 xa2
  have X := A.out.get (g2, 47, #[.int .i64 0, .int .i64 0, .int .i64 26]) (by simp)
  have xb0 := cell_regrown (X.cell 0)
  have xb1 := cell_regrown (X.cell 1)
  have xb2 := cell_regrown (X.cell 2)
  clear X
  simp only [List.getElem?_toArray, List.getElem?_cons_succ, List.getElem?_cons_zero] at xb0 xb1 xb2
  have X := A.out.get (g2 + 1, 34, #[.int .i64 3, .int .i64 1, .int .i64 5, .int .i64 0, .bool false]) (by simp)
  have xc0 := cell_regrown (X.cell 0)
  have xc1 := cell_regrown (X.cell 1)
  have xc2 := cell_regrown (X.cell 2)
  have xc3 := cell_regrown (X.cell 3)
  have xc4 := cell_regrown (X.cell 4)
  clear X
  simp only [List.getElem?_toArray, List.getElem?_cons_succ, List.getElem?_cons_zero] at xc0 xc1 xc2 xc3 xc4
  have X := A.out.get (g4, 67, #[.int .i64 1, .int .i64 0, .int .i64 0, .int .i64 0, .int .i64 0, .int .i64 0, .int .i64 0, .int .i64 0, .bool false, .int .i64 0, .int .i64 0, .int .i64 0, .int .i64 0, .bool false]) (by simp)
  have xd0 := cell_regrown (X.cell 0)
  have xd1 := cell_regrown (X.cell 1)
  have xd2 := cell_regrown (X.cell 2)
  have xd3 := cell_regrown (X.cell 3)
  have xd4 := cell_regrown (X.cell 4)
  have xd5 := cell_regrown (X.cell 5)
  have xd6 := cell_regrown (X.cell 6)
  have xd7 := cell_regrown (X.cell 7)
  have xd8 := cell_regrown (X.cell 8)
  have xd9 := cell_regrown (X.cell 9)
  have xd10 := cell_regrown (X.cell 10)
  have xd11 := cell_regrown (X.cell 11)
  have xd12 := cell_regrown (X.cell 12)
  have xd13 := cell_regrown (X.cell 13)
  clear X
  simp only [List.getElem?_toArray, List.getElem?_cons_succ, List.getElem?_cons_zero] at xd0 xd1 xd2 xd3 xd4 xd5 xd6 xd7 xd8 xd9 xd10 xd11 xd12 xd13
  have X := A.out.get (g5, 67, #[.int .i64 2, .int .i64 0, .int .i64 0, .int .i64 26, .int .i64 0, .int .i64 0, .int .i64 0, .int .i64 0, .bool false, .int .i64 3, .int .i64 1, .int .i64 0, .int .i64 0, .bool false]) (by simp)
  have xe0 := cell_regrown (X.cell 0)
  have xe1 := cell_regrown (X.cell 1)
  have xe2 := cell_regrown (X.cell 2)
  have xe3 := cell_regrown (X.cell 3)
  have xe4 := cell_regrown (X.cell 4)
  have xe5 := cell_regrown (X.cell 5)
  have xe6 := cell_regrown (X.cell 6)
  have xe7 := cell_regrown (X.cell 7)
  have xe8 := cell_regrown (X.cell 8)
  have xe9 := cell_regrown (X.cell 9)
  have xe10 := cell_regrown (X.cell 10)
  have xe11 := cell_regrown (X.cell 11)
  have xe12 := cell_regrown (X.cell 12)
  have xe13 := cell_regrown (X.cell 13)
  clear X
  simp only [List.getElem?_toArray, List.getElem?_cons_succ, List.getElem?_cons_zero] at xe0 xe1 xe2 xe3 xe4 xe5 xe6 xe7 xe8 xe9 xe10 xe11 xe12 xe13
  have X := A.out.get (g6, 67, #[.int .i64 1, .int .i64 0, .int .i64 0, .int .i64 0, .int .i64 0, .int .i64 0, .int .i64 0, .int .i64 0, .bool false, .int .i64 0, .int .i64 0, .int .i64 0, .int .i64 0, .bool false]) (by simp)
  have xf0 := cell_regrown (X.cell 0)
  have xf1 := cell_regrown (X.cell 1)
  have xf2 := cell_regrown (X.cell 2)
  have xf3 := cell_regrown (X.cell 3)
  have xf4 := cell_regrown (X.cell 4)
  have xf5 := cell_regrown (X.cell 5)
  have xf6 := cell_regrown (X.cell 6)
  have xf7 := cell_regrown (X.cell 7)
  have xf8 := cell_regrown (X.cell 8)
  have xf9 := cell_regrown (X.cell 9)
  have xf10 := cell_regrown (X.cell 10)
  have xf11 := cell_regrown (X.cell 11)
  have xf12 := cell_regrown (X.cell 12)
  have xf13 := cell_regrown (X.cell 13)
  clear X
  simp only [List.getElem?_toArray, List.getElem?_cons_succ, List.getElem?_cons_zero] at xf0 xf1 xf2 xf3 xf4 xf5 xf6 xf7 xf8 xf9 xf10 xf11 xf12 xf13
  have xg := cell_regrown HA.out
  have q1 : Tryz.prog.stoodInHeld 67 = false := by kernel_rfl
  have q2 : Tryz.prog.eqGuardType Tryz.prog.depth 67 = false := by kernel_rfl
  have q3 : Tryz.prog.stoodInHeld 63 = false := by kernel_rfl
  have q4 : Tryz.prog.eqGuardType Tryz.prog.depth 63 = false := by kernel_rfl
  have q5 : ∀ w, (binOp .eql 67 (.agg #[.int .i64 1, .int .i64 0, .int .i64 0, .int .i64 0, .int .i64 0, .int .i64 0, .int .i64 0, .int .i64 0, .bool false, .int .i64 0, .int .i64 0, .int .i64 0, .int .i64 0, .bool false]) (.agg #[.int .i64 1, .int .i64 0, .int .i64 0, .int .i64 0, .int .i64 0, .int .i64 0, .int .i64 0, .int .i64 0, .bool false, .int .i64 0, .int .i64 0, .int .i64 0, .int .i64 0, .bool false])).run Tryz.prog w = .ok (.bool true) w := fun w => by kernel_rfl
  have q6 : ∀ w, (binOp .eql 67 (.agg #[.int .i64 2, .int .i64 0, .int .i64 0, .int .i64 26, .int .i64 0, .int .i64 0, .int .i64 0, .int .i64 0, .bool false, .int .i64 3, .int .i64 1, .int .i64 0, .int .i64 0, .bool false]) (.agg #[.int .i64 2, .int .i64 0, .int .i64 0, .int .i64 26, .int .i64 0, .int .i64 0, .int .i64 0, .int .i64 0, .bool false, .int .i64 3, .int .i64 1, .int .i64 0, .int .i64 0, .bool false])).run Tryz.prog w = .ok (.bool true) w := fun w => by kernel_rfl
  have q7 : ∀ w, (binOp .eql 63 (.agg #[.int .i64 3, .int .i64 1, .int .i64 5, .int .i64 0, .bool false, .bool true]) (.agg #[.int .i64 3, .int .i64 1, .int .i64 5, .int .i64 0, .bool false, .bool true])).run Tryz.prog w = .ok (.bool true) w := fun w => by kernel_rfl
  obtain ⟨sv, fv, nv, hat⟩ := A.out.at_
  have C1 : Hid (∀ d os, Calls Tryz.prog 45 #[.agg #[.int .i64 3, .int .i64 1, .int .i64 5, .int .i64 0, .bool false]] (grow (redrawn w13 d) os) fun e w'' => e = .returned (.agg #[.int .i64 3, .int .i64 1, .int .i64 0, .int .i64 0, .bool false]) ∧ ∃ p : Regrown, w'' = grow (redrawn w13 p.d) p.os) := Lib.hid (fun d os => Calls.regrown_of (Ref_any 3 1 5 0 false _))
  have C2 : Hid (∀ d os, Calls Tryz.prog 17 #[.pointer (some ⟨r, 0, none⟩)] (grow (redrawn w13 d) os) fun e w'' => e = .returned (.bool false) ∧ ∃ p : Regrown, w'' = grow (redrawn w13 p.d) p.os) := Lib.hid (fun d os => Calls.regrown_of ((Busy_is (hat.below (below_regrown w13 d os))).mono fun e w' ⟨he, hw⟩ => ⟨he, by rw [hw]; exact Below.refl _ _⟩))
  have C3 : Hid (∀ d os, Calls Tryz.prog 46 #[.pointer (some ⟨r, 0, none⟩)] (grow (redrawn w13 d) os) fun e w'' => e = .returned (.agg #[.int .i64 3, .int .i64 1, .int .i64 5, .int .i64 0, .bool false, .bool true]) ∧ ∃ p : Regrown, w'' = grow (redrawn w13 p.d) p.os) := Lib.hid (fun d os => Calls.regrown_of (Reply_is (hat.below (below_regrown w13 d os))))
  have C4 : Hid (∀ d os, Calls Tryz.prog 47 #[.iface T y, .iface 260 (.pointer (some a))] (grow (redrawn w13 d) os) fun e w'' => e = .returned (.bool true) ∧ ∃ p : Regrown, w'' = grow (redrawn w13 p.d) p.os) := Lib.hid (fun d os => Calls.regrown_of ((Is_same (HCH.out.keep (below_regrown w13 d os))).mono fun e w' ⟨he, hw⟩ => ⟨he, by rw [hw]; exact Below.refl _ _⟩))
  have HBW := Lib.hid A.out.of
  clear hat
  refine wp_region_quiet_below (by kernel_rfl) (by kernel_rfl) ?_
  repeat (go_big_quiet_step ((first | with_reducible exact C1.out _ _ | with_reducible exact C2.out _ _ | with_reducible exact C3.out _ _ | with_reducible exact C4.out _ _)))
  refine wpQuiet_nil ?_
  intro _ hw'
  obtain ⟨⟨dq, osq⟩, hw''⟩ := hw'
  subst hw''
  have HE := Lib.hid (below_trans HBW.out (below_regrown w13 dq osq))
  go_wp2
  go_ret
  exact ⟨rfl, HE.out⟩
end Go.Proofs.YtihjklimcchkhaaGreatDoor
