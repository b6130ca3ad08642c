/- A crew: a plot and workers beside each other; a step, idle, what was said. Of cortege's workers (ported from XPr). A template (fill.py). -/
/- cortege: Lay, Items of a queue that was laid. A template (fill.py). -/
/- crew: a plot, and workers with new rites; the row of pointers to them. Of cortege's workers (ported from XPt). A template (fill.py). -/
import Derived.Test.YtihjklimcchkhaaGreatDoorQn
import Derived.Test.YtihjklimcchkhaaGreatDoorPu
import Derived.Test.YtihjklimcchkhaaGreatDoorPO
import Derived.Test.YtihjklimcchkhaaGreatDoorCM
import Derived.Test.YtihjklimcchkhaaGreatDoorTD
import Derived.LoopTactic
namespace Go.Proofs.YtihjklimcchkhaaGreatDoor.Cq
open Go.RowKit Go.Extern.Stop Go.Stop Go.Extern Go.Sort
def rsOf (n : Nat) (r : Nat → Nat) (x : Nat → Rt × Wr) : List (Nat × Rt) := (List.range n).map fun i => (r i, (x i).1)
theorem rsOf_len (n : Nat) (r : Nat → Nat) (x : Nat → Rt × Wr) : (rsOf n r x).length = n := by simp [rsOf]
theorem rsOf_get {n : Nat} {r : Nat → Nat} {x : Nat → Rt × Wr} {i : Nat} (h : i < (rsOf n r x).length) : (rsOf n r x)[i] = (r i, (x i).1) := by simp [rsOf]
def upd {α : Type} (x : Nat → α) (i : Nat) (v : α) : Nat → α := fun j => if j = i then v else x j
theorem upd_self {α : Type} (x : Nat → α) (i : Nat) (v : α) : upd x i v i = v := if_pos rfl
theorem upd_ne {α : Type} (x : Nat → α) {i j : Nat} (v : α) (h : j ≠ i) : upd x i v j = x j := if_neg h
theorem rsOf_set {n : Nat} {r : Nat → Nat} {x : Nat → Rt × Wr} {i : Nat} (v : Rt × Wr) : (rsOf n r x).set i (r i, v.1) = rsOf n r (upd x i v) := by
  apply List.ext_getElem
  · simp [rsOf]
  · intro k h1 h2
    rw [rsOf_get h2, List.getElem_set]
    by_cases e : i = k
    · subst e; rw [if_pos rfl, upd_self]
    · rw [if_neg e, rsOf_get, upd_ne _ _ (fun h => e h.symm)]
/-- Only what is a box. -/
theorem WkAt.restrict {bx : Bx} {B : Nat} {O : Nat → Prop} {g r ob oc : Nat} {a : Wr} (h : WkAt bx B O g r ob oc a) : WkAt bx B (fun b => O b ∧ bx b ≠ none) g r ob oc a := by
  obtain ⟨jp, sv, h1, h2, h3, h4, h5, h6, h7, h8, h9⟩ := h
  refine ⟨jp, sv, h1, h2, ⟨h3, by rw [h1]; exact fun e => by cases e⟩, fun e => h4 e.1, h5, h6, ?_, h8, fun b e => ⟨h9 b e, ?_⟩⟩
  · rcases h7 with h | ⟨b, jb, e1, e2, q1, q2, q3⟩
    · exact .inl h
    · exact .inr ⟨b, jb, e1, e2, q1, ⟨q2, by rw [q3]; exact fun e => by cases e⟩, q3⟩
  · rcases h8 with ⟨e2, _⟩ | ⟨sb, cap, cur, e2, q1, q2, _⟩
    · rw [e2] at e; simp [Value.ownBlock] at e
    · rw [e2] at e
      have hsb : sb = b := by simpa [Value.ownBlock] using e
      rw [← hsb, q2]; exact fun e => by cases e
/-- Workers beside each other, and the row lb of pointers to them. -/
def CrewOn (W w : World) (E : Flt → Addr) (B p bs bb : Nat) (t : St) (n : Nat) (g : Nat → Nat) (lb : Nat) (x : Nat → Rt × Wr) : Prop :=
  ∃ (r ob oc : Nat → Nat) (O : Nat → Nat → Prop) (bx : Bx), Cw W w E B p bs bb t (rsOf n r x) bx ∧ (∀ i, i < n → WkAt bx B (O i) (g i) (r i) (ob i) (oc i) (x i).2) ∧
    (∀ i j, i < n → j < n → i ≠ j → ∀ b, O i b → ¬ O j b) ∧ (∀ i j, i < n → j < n → ¬ O i (ob j)) ∧ (∀ i, i < n → ∀ b, O i b → bx b ≠ none) ∧
    (∃ cs, bx lb = some (104, cs) ∧ ∀ i, i < n → cs[i]? = some (.pointer (some ⟨g i, 0, none⟩))) ∧ (∀ i, i < n → ¬ O i lb)
def idleB (x : Rt × Wr) : Bool := !x.1.st.busy && x.2.j.isNone && !x.2.inn && decide (x.2.ops.length ≤ x.2.said.length)
section
variable {W W' w : World} {E : Flt → Addr} {B p bs bb : Nat} {t : St} {n lb : Nat} {g : Nat → Nat} {x : Nat → Rt × Wr}
theorem CrewOn.below (h : CrewOn W w E B p bs bb t n g lb x) (hb : Below W.heap.size W W') : CrewOn W' w E B p bs bb t n g lb x := by
  obtain ⟨r, ob, oc, O, bx, h1, h2⟩ := h
  exact ⟨r, ob, oc, O, bx, h1.below hb, h2⟩
theorem CrewOn.of (h : CrewOn W w E B p bs bb t n g lb x) : Below B w W ∧ B ≤ W.heap.size := by
  obtain ⟨r, ob, oc, O, bx, h1, h2⟩ := h
  exact h1.of
theorem CrewOn.row (h : CrewOn W w E B p bs bb t n g lb x) {i : Nat} (hi : i < n) : W.cell? ⟨lb, i, none⟩ = some (.pointer (some ⟨g i, 0, none⟩)) ∧ lb < W.heap.size := by
  obtain ⟨r, ob, oc, O, bx, h1, h2, h3, h4, h5, ⟨cs, h6, h7⟩, h8⟩ := h
  exact ⟨(BlkW.cell (h1.get h6) i).trans (h7 i hi), (h1.get h6).lt⟩
theorem CrewOn.plot (h : CrewOn W w E B p bs bb t n g lb x) : PlotAt W E B p bs bb t ∧ 9 ≤ B := by
  obtain ⟨r, ob, oc, O, bx, ⟨K, h1, h2, h3, h4, h5, h6, h7⟩, _⟩ := h
  exact ⟨h1, h6⟩
theorem CrewOn.idle (h : CrewOn W w E B p bs bb t n g lb x) {i : Nat} (hi : i < n) {q : Bool} (hq : idleB (x i) = q) : Calls Tryz.prog 76 #[.pointer (some ⟨g i, 0, none⟩)] W fun e w' => e = .returned (.bool q) ∧ Hid (CrewOn w' w E B p bs bb t n g lb x) := by
  obtain ⟨r, ob, oc, O, bx, h1, h2⟩ := h
  obtain ⟨jp, sv, k1, k2, k3, k4, k5, k6, k7, k8, k9⟩ := h2.1 i hi
  obtain ⟨sa, sc, rfl⟩ := k8.slice
  have hi' : i < (rsOf n r x).length := by rw [rsOf_len]; exact hi
  have hg : (rsOf n r x)[i] = (r i, (x i).1) := rsOf_get hi'
  refine (h1.idleC hi' (by rw [hg]; exact k1) q ?_).mono fun e w' ⟨he, hw⟩ => ⟨he, Lib.hid ⟨r, ob, oc, O, bx, hw.out, h2⟩⟩
  rw [hg, ← hq]
  unfold idleB
  rcases k7 with ⟨rfl, e⟩ | ⟨b, jb, rfl, e, _⟩
  · rw [e]; rfl
  · rw [e]; rfl
/-- What a step leaves of a worker, and of the heap. -/
def wStepX (t : St) (y : Rt × Wr) : Rt × Wr := (if (wto 199 y).1.st.busy then (wto 199 y).1.goOn (t.step (wto 199 y).1.st.acc).2 else (wto 199 y).1, (wto 199 y).2)
def wStepT (t : St) (y : Rt × Wr) : St := if (wto 199 y).1.st.busy then (t.step (wto 199 y).1.st.acc).1 else t
theorem CrewOn.step (h : CrewOn W w E B p bs bb t n g lb x) {i : Nat} (hi : i < n) (hb : WOk 199 (x i)) (ht : t.steps < 900000) (hc : (wto 199 (x i)).1.st.busy = true → t.can (wto 199 (x i)).1.st.acc = true ∧ GoOk (wto 199 (x i)).1 (t.step (wto 199 (x i)).1.st.acc).2) {q : Bool} (hq : (wto 199 (x i)).1.st.busy = q) :
    Calls Tryz.prog 44 #[.pointer (some ⟨g i, 0, none⟩), .pointer (some ⟨p, 0, none⟩)] W fun e w' => e = .returned (.bool q) ∧ Hid (CrewOn w' w E B p bs bb (wStepT t (x i)) n g lb (upd x i (wStepX t (x i)))) := by
  obtain ⟨r, ob, oc, O, bx, h1, h2, h3, h4, h5, ⟨cs, h6, h7⟩, h8⟩ := h
  have hi' : i < (rsOf n r x).length := by rw [rsOf_len]; exact hi
  refine (wstep_is h1 hi' (rsOf_get hi') (h2 i hi) hb rfl ht hc).mono fun e w' ⟨he, bx', O', k1, k2, k3, k4⟩ => ⟨by rw [he, hq], Lib.hid ?_⟩
  have hset : (rsOf n r x).set i (r i, if (wto 199 (x i)).1.st.busy = true then (wto 199 (x i)).1.goOn (t.step (wto 199 (x i)).1.st.acc).2 else (wto 199 (x i)).1) = rsOf n r (upd x i (wStepX t (x i))) := rsOf_set (wStepX t (x i))
  rw [hset] at k1
  have hob : ∀ j, j < n → bx (ob j) ≠ none := fun j hj e => by
    obtain ⟨jp, sv, _, _, _, _, _, ⟨T, c, q1, _⟩, _⟩ := h2 j hj
    rw [q1] at e; cases e
  have hold : ∀ j, j < n → j ≠ i → ∀ b, O j b → ¬ O' b := fun j hj hji b e e' => by
    rcases k4 b e' with k | k
    · exact h3 j i hj hi hji b e k
    · exact h5 j hj b e k
  have hnob : ∀ j, j < n → ¬ O' (ob j) := fun j hj e => (k4 _ e).elim (h4 i j hi hj) (hob j hj)
  refine ⟨r, ob, oc, fun j b => if j = i then O' b ∧ bx' b ≠ none else O j b, bx', k1.out, fun j hj => ?_, fun j k hj hk hjk b e e' => ?_, fun j k hj hk e => ?_, fun j hj b e => ?_, ⟨cs, k3 lb _ h6 (h8 i hi), h7⟩, fun j hj e => ?_⟩
  · by_cases hji : j = i
    · subst hji
      rw [upd_self]
      simp only [if_true]
      exact k2.restrict
    · rw [upd_ne _ _ hji]
      simp only [if_neg hji]
      exact (h2 j hj).other k3 (fun b e => fun e' => h3 j i hj hi hji b e e') (h4 i j hi hj)
  · by_cases hji : j = i
    · by_cases hki : k = i
      · exact hjk (hji.trans hki.symm)
      · simp only [if_pos hji, if_neg hki] at e e'
        exact hold k hk hki b e' e.1
    · by_cases hki : k = i
      · simp only [if_neg hji, if_pos hki] at e e'
        exact hold j hj hji b e e'.1
      · simp only [if_neg hji, if_neg hki] at e e'
        exact h3 j k hj hk hjk b e e'
  · by_cases hji : j = i
    · simp only [if_pos hji] at e
      exact hnob k hk e.1
    · simp only [if_neg hji] at e
      exact h4 j k hj hk e
  · by_cases hji : j = i
    · simp only [if_pos hji] at e
      exact e.2
    · simp only [if_neg hji] at e
      intro en
      cases hb : bx b with
      | none => exact h5 j hj b e hb
      | some v =>
        have := k3 b v hb (fun e' => h3 j i hj hi hji b e e')
        rw [this] at en; cases en
  · by_cases hji : j = i
    · simp only [if_pos hji] at e
      rcases k4 lb e.1 with k | k
      · exact h8 i hi k
      · rw [h6] at k; cases k
    · simp only [if_neg hji] at e
      exact h8 j hj e
/-- What a worker said. -/
theorem CrewOn.said (h : CrewOn W w E B p bs bb t n g lb x) {i : Nat} (hi : i < n) {l : List (Int × Int)} (hl : (x i).2.said = l) (h0 : 0 < l.length) :
    ∃ sb cap, W.cell? ⟨g i, 4, none⟩ = some (.slice (some ⟨sb, 0, none⟩) l.length cap) ∧ g i < W.heap.size ∧ sb < W.heap.size ∧ l.length ≤ cap ∧ ∀ k, ∀ hk : k < l.length, W.cell? ⟨sb, k * 2, none⟩ = some (.int .i64 l[k].1) ∧ W.cell? ⟨sb, k * 2 + 1, none⟩ = some (.int .i64 l[k].2) := by
  obtain ⟨r, ob, oc, O, bx, h1, h2, h3, h4, h5, _⟩ := h
  obtain ⟨jp, sv, k1, k2, k3, k4, k5, k6, k7, k8, k9⟩ := h2 i hi
  rw [hl] at k8
  rcases k8 with ⟨_, e⟩ | ⟨sb, cap, cur, rfl, q1, q2, q3, q4, q5, q6⟩
  · rw [e] at h0; exact absurd h0 (by decide)
  · have hb := h1.get k1
    have hs := h1.get q2
    refine ⟨sb, cap, hb.cell 4, hb.lt, hs.lt, q3, fun k hk => ?_⟩
    have key : ∀ j, j < 2 → W.cell? ⟨sb, k * 2 + j, none⟩ = (anc l[k])[j]? := fun j hj => by
      have e1 := Sv.flat_at (c := anc) (k := 2) (fun _ => rfl) l k j hk hj
      rw [← q6] at e1
      rw [BlkW.cell hs, ← Array.getElem?_toList, ← e1, List.getElem?_take_of_lt (by omega)]
    exact ⟨key 0 (by omega), key 1 (by omega)⟩
end
end Go.Proofs.YtihjklimcchkhaaGreatDoor.Cq

namespace Go.Proofs.YtihjklimcchkhaaGreatDoor.Cq
open Go.RowKit Go.Extern.Stop Go.Stop Go.Extern Go.Sort
def aNew : Ac := ⟨4, 0, 0, 0, zw, zw⟩
def aRoot (n : Int) (d : Wd) : Ac := ⟨2, 0, 0, n, zw, d⟩
/-- The variable that holds ErrFull. -/
def HasFull (w : World) (a : Addr) : Prop := w.cell? ⟨5, 0, none⟩ = some (.iface 260 (.pointer (some a)))
theorem step_new_m (t : St) : (t.step aNew).1.m = t.m ∧ (t.step aNew).1.n = t.n ∧ (t.step aNew).1.steps = t.steps + 1 ∧ (t.step aNew).1.board = t.board := by
  rw [step_give (a := aNew) rfl]
  unfold St.give
  cases hf : t.tick.free with
  | nil => exact ⟨rfl, rfl, rfl, rfl⟩
  | cons i r => exact ⟨rfl, rfl, rfl, rfl⟩
theorem step_root {t : St} (hm : t.m = 85) (n : Nat) (hn : n < 85) (d : Wd) : t.can (aRoot n d) = true ∧ (t.step (aRoot n d)).1 = { t with steps := t.steps + 1, board := fun k => if k = n then d else t.board k } := by
  have hl : t.loc 0 0 (n : Int) = some (.board n) := loc_board t n (by omega)
  refine ⟨can_cell t _ (.inr (.inl rfl)) (.board n) hl, ?_⟩
  rw [step_cell (a := aRoot n d) (.inr (.inl rfl)) hl (miss_board t _ _)]
  unfold St.touch
  rw [if_neg (show ¬ (aRoot n d).kind = 1 by show ¬ (2 : Int) = 1; decide), if_pos (show (aRoot n d).kind = 2 from rfl)]
  rfl
section
variable {W W' w : World} {E : Flt → Addr} {B p bs bb : Nat} {t : St} {rs : List (Nat × Rt)} {bx bx' : Bx}
theorem cwPlot (h : Cw W w E B p bs bb t rs bx) : PlotAt W E B p bs bb t ∧ 9 ≤ B := by
  obtain ⟨K, h1, h2, h3, h4, h5, h6, h7⟩ := h
  exact ⟨h1, h6⟩
theorem cwPeek (h : Cw W w E B p bs bb t rs bx) (s g f : Int) {o : Option Wd} (ho : t.peek s g f = o) :
    Calls Tryz.prog 20 #[.pointer (some ⟨p, 0, none⟩), .agg #[.int .i64 s, .int .i64 g, .int .i64 f]] W fun e w' => e = .returned (peekV o) ∧ Hid (Cw w' w E B p bs bb t rs bx) :=
  (peek_p (cwPlot h).1 s g f).mono fun e w' ⟨he, hb⟩ => ⟨ho ▸ he, Lib.hid (h.below hb)⟩
theorem cw_cell (h : Cw W w E B p bs bb t rs bx) {t' : St} {rs' : List (Nat × Rt)} {bx2 : Bx} (h' : Cw W' w E B p bs bb t' rs' bx2) {a : Addr} (ha : a.block < B) : W'.cell? a = W.cell? a := (h'.of.1.cell ha).trans (h.of.1.cell ha).symm
theorem peek_board {t : St} {f : Nat} (hf : f < t.m) : t.peek 0 0 (f : Int) = some (t.board f) := by
  unfold St.peek
  have hl : t.loc 0 0 (f : Int) = some (.board f) := by unfold St.loc; rw [if_pos ⟨rfl, rfl⟩, if_pos (by omega)]; congr 2
  have hmi : t.miss 0 0 .freed = none := by unfold St.miss; rw [if_neg (by omega)]
  rw [hl, hmi]; rfl
set_option maxRecDepth 100000 in
set_option maxHeartbeats 1000000 in
theorem Lay_nil {w : World} {E : Flt → Addr} (L : Env w E) : Calls Tryz.prog 40 #[.pointer none] w fun e w' => (∃ T y, e = .returned (.iface T y)) ∧ Below w.heap.size w w' := by
  have c := L.nil
  have hz := lt_of_cell c
  clear L
  go_enter Tryz.func40, Tryz.ntmps40
  go_wp2_with fail
  refine (At_some 8 _ _ _).mono ?_
  rintro e w1 ⟨rfl, rfl⟩
  go_wp2
  go_ret
  exact ⟨⟨_, _, rfl⟩, below_alloc (Below.refl _ _) _⟩
set_option maxRecDepth 100000 in
set_option maxHeartbeats 1000000 in
theorem Items_nil {w : World} {E : Flt → Addr} (L : Env w E) : Calls Tryz.prog 41 #[.pointer none] w fun e w' => (∃ T y, e = .returned (.tuple #[.slice none 0 0, .slice none 0 0, .iface T y])) ∧ Below w.heap.size w w' := by
  have c := L.nil
  have hz := lt_of_cell c
  clear L
  go_enter Tryz.func41, Tryz.ntmps41
  go_wp2_with fail
  refine (At_some 8 _ _ _).mono ?_
  rintro e w1 ⟨rfl, rfl⟩
  go_wp2
  exact bodyPost_ret (v := .tuple #[.slice none 0 0, .slice none 0 0, .iface 158 (.pointer (some ⟨w.heap.size, 0, none⟩))]) (by simp [results, Tryz.results41, go_sem]) rfl ⟨⟨_, _, rfl⟩, below_alloc (Below.refl _ _) _⟩
set_option maxRecDepth 100000 in
set_option maxHeartbeats 2000000 in
theorem Lay_full {a : Addr} (h : Cw W w E B p bs bb t rs bx) (ht : t.steps < 800000) (hm : t.m = 85) (hd : (t.step aNew).2 = (zw, false)) (hf : HasFull W a) :
    Calls Tryz.prog 40 #[.pointer (some ⟨p, 0, none⟩)] W fun e w' => (∃ T y, e = .returned (.iface T y)) ∧ Hid (Cw w' w E B p bs bb (t.step aNew).1 rs bx) := by
  have HC := Lib.hid h
  have HC0 := Lib.hid h
  have HP := Lib.hid (peek_board (t := t) (f := 1) (by omega))
  have HF := Lib.hid hf
  clear h hf
  go_enter Tryz.func40, Tryz.ntmps40
  go_wp2_with fail
  refine (Co.root1 _).mono ?_
  rintro e w1 ⟨rfl, hb⟩
  have HB1 := Lib.hid hb
  replace HC := Lib.hid (HC.out.below hb)
  clear hb
  have HPK := Lib.hid (cwPeek HC.out 0 0 1 HP.out)
  unfold peekV at HPK
  go_wp2_with fail
  refine HPK.out.mono ?_
  rintro e w2 ⟨rfl, h1⟩
  clear HPK HC
  have HD := Lib.hid (fun (W2 : World) (h2 : Cw W2 w E B p bs bb t rs bx) => h2.Do (by omega) aNew rfl)
  rw [hd] at HD
  replace h1 := Lib.hid (h1.out.alloc (.cells (wc (t.board 1)).toArray 34))
  go_upto_region 4 with fail
  show Code.wp _ _ _ _ (w2.alloc (.cells (wc (t.board 1)).toArray 34))
  generalize w2.alloc (.cells (wc (t.board 1)).toArray 34) = w3 at h1 ⊢
  have HDO := Lib.hid (HD.out _ h1.out)
  unfold av rpv at HDO
  go_wp2_with fail
  refine HDO.out.mono ?_
  rintro e w4 ⟨rfl, h2⟩
  have hfull : w4.cell? ⟨5, 0, none⟩ = some (.iface 260 (.pointer (some a))) := (cw_cell HC0.out h2.out (by have := (cwPlot h2.out).2; show 5 < B; omega)).trans HF.out
  have hz := lt_of_cell hfull
  clear HDO HD h1
  go_wp2_with fail
  refine (At_some 8 _ _ _).mono ?_
  rintro e w5 ⟨rfl, rfl⟩
  go_wp2
  go_ret
  exact ⟨⟨_, _, rfl⟩, Lib.hid ((h2.out.alloc _).alloc _)⟩
theorem idx2_0 (w : World) : (Instr.index 92 (.agg #[.int .i64 0, .int .i64 1]) (.int .i64 0)).run Tryz.prog w = .ok (.int .i64 0) w := by kernel_rfl
theorem idx2_1 (w : World) : (Instr.index 92 (.agg #[.int .i64 0, .int .i64 1]) (.int .i64 1)).run Tryz.prog w = .ok (.int .i64 1) w := by kernel_rfl
/-- The plot behind so many of the stores. -/
def layN (t : St) (d : Wd) : Nat → St
  | 0 => (t.step aNew).1
  | n + 1 => { layN t d n with steps := (layN t d n).steps + 1, board := fun k => if k = n then d.ref else (layN t d n).board k }
theorem layN_m {t : St} (hm : t.m = 85) (d : Wd) : ∀ n, (layN t d n).m = 85
  | 0 => (step_new_m t).1.trans hm
  | n + 1 => layN_m hm d n
theorem layN_steps (t : St) (d : Wd) : ∀ n, n ≤ 2 → (layN t d n).steps ≤ t.steps + 3
  | 0, _ => by have := (step_new_m t).2.2.1; show (t.step aNew).1.steps ≤ _; omega
  | 1, _ => by have := (step_new_m t).2.2.1; show (t.step aNew).1.steps + 1 ≤ _; omega
  | 2, _ => by have := (step_new_m t).2.2.1; show (t.step aNew).1.steps + 1 + 1 ≤ _; omega
theorem layN_succ {t : St} (_ : t.m = 85) (d : Wd) (n : Nat) (_ : n ≤ 2) : layN t d (n + 1) = { layN t d n with steps := (layN t d n).steps + 1, board := fun k => if k = n then d.ref else (layN t d n).board k } := rfl
set_option maxRecDepth 100000 in
set_option maxHeartbeats 4000000 in
theorem Lay_ok {d : Wd} (h : Cw W w E B p bs bb t rs bx) (ht : t.steps < 800000) (hm : t.m = 85) (hd : (t.step aNew).2 = (d, true)) :
    Calls Tryz.prog 40 #[.pointer (some ⟨p, 0, none⟩)] W fun e w' => e = .returned .nilIface ∧ Hid (Cw w' w E B p bs bb (layN t d 2) rs bx) := by
  have HC := Lib.hid h
  have HP := Lib.hid (peek_board (t := t) (f := 1) (by omega))
  clear h
  go_enter Tryz.func40, Tryz.ntmps40
  go_wp2_with fail
  refine (Co.root1 _).mono ?_
  rintro e w1 ⟨rfl, hb⟩
  replace HC := Lib.hid (HC.out.below hb)
  clear hb
  have HPK := Lib.hid (cwPeek HC.out 0 0 1 HP.out)
  unfold peekV at HPK
  go_wp2_with fail
  refine HPK.out.mono ?_
  rintro e w2 ⟨rfl, h1⟩
  clear HPK HC
  have HD := Lib.hid (fun (W2 : World) (h2 : Cw W2 w E B p bs bb t rs bx) => h2.Do (by omega) aNew rfl)
  rw [hd] at HD
  replace h1 := Lib.hid (h1.out.alloc (.cells (wc (t.board 1)).toArray 34))
  go_upto_region 4 with fail
  show Code.wp _ _ _ _ (w2.alloc (.cells (wc (t.board 1)).toArray 34))
  generalize w2.alloc (.cells (wc (t.board 1)).toArray 34) = w3 at h1 ⊢
  have HDO := Lib.hid (HD.out _ h1.out)
  unfold av rpv at HDO
  go_wp2_with fail
  refine HDO.out.mono ?_
  rintro e w4 ⟨rfl, h2⟩
  have HC4 := Lib.hid (h2.out.new 63 (rpc (d, true)).toArray (by decide) (by decide) (by decide))
  have HG4 := Lib.hid h2.out.fresh_none
  clear HDO HD h1 h2
  go_upto_region 7 with fail
  show Code.wp _ _ _ _ (w4.alloc (.cells (rpc (d, true)).toArray 63))
  generalize w4.alloc (.cells (rpc (d, true)).toArray 63) = w5 at HC4 ⊢
  generalize w4.heap.size = g at HC4 HG4 ⊢
  have x5 : w5.cell? ⟨g, 5, none⟩ = some (.bool true) := (rep6 (x := (d, true)) (HC4.out.get (Bx.put_self ..))).2.2.2.2.2
  have hzx := (HC4.out.get (Bx.put_self ..)).lt
  go_wp2
  clear x5 hzx
  go_loopw [35] (fun vi wr => ∃ i : Nat, i ≤ 2 ∧ vi = .int .i64 (i : Int) ∧ Cw wr w E B p bs bb (layN t d i) rs (bx.put g 63 (rpc (d, true)).toArray)) (fun i _ => 3 - (intOf i).toNat)
  case atStart => exact ⟨0, by omega, rfl, HC4.out⟩
  case round =>
    obtain ⟨i, hi, rfl, hcw⟩ := hrel
    obtain ⟨wo, rfl⟩ : ∃ wo : World, wo = wr := ⟨_, rfl⟩
    replace HC4 := Lib.hid hcw
    clear hcw
    have hc : i = 0 ∨ i = 1 ∨ i = 2 := by omega
    rcases hc with rfl | rfl | rfl
    · clear hi
      rw [show ((0 : Nat) : Int) = (0 : Int) from rfl]
      have q1 := idx2_0
      have HST := Lib.hid (show (layN t d 0).can (aRoot 0 d.ref) = true ∧ ((layN t d 0).step (aRoot 0 d.ref)).1 = _ from step_root (t := layN t d 0) (layN_m hm d 0) 0 (by omega) d.ref)
      have HC5 := Lib.hid HC4.out.drew
      obtain ⟨x0, x1, x2, x3, x4, x5⟩ := rep6 (x := (d, true)) (HC4.out.get (Bx.put_self ..))
      have hzx := (HC4.out.get (Bx.put_self ..)).lt
      have hst : (layN t d 0).steps < 900000 := by have := layN_steps t d 0 (by omega); omega
      have HSS := Lib.hid hst
      clear hst
      go_upto_region 12 with fail
      go_region_held3 (fun w' => w'.cell? ⟨g, 0, none⟩ = some (.int .i64 d.slot) ∧ w'.cell? ⟨g, 1, none⟩ = some (.int .i64 d.gen) ∧ w'.cell? ⟨g, 2, none⟩ = some (.int .i64 d.tag) ∧ w'.cell? ⟨g, 3, none⟩ = some (.int .i64 d.num) ∧ w'.cell? ⟨g, 4, none⟩ = some (.bool d.mark) ∧ w'.cell? ⟨g, 5, none⟩ = some (.bool true))
        (first | go_keep | exact rep6 (x := (d, true)) ((HC5.out.below hb).get (Bx.put_self ..)) | exact rep6 (x := (d, true)) (((HC5.out.below hb).below hb2).get (Bx.put_self ..)) | exact rep6 (x := (d, true)) (h6.out.get (Bx.put_self ..)))
        (first
        | (go_at_call 75; refine (Co.root0 _).mono ?_; rintro e w5 ⟨rfl, hb⟩)
        | (go_at_call 45; refine (Ref_any _ _ _ _ _ _).mono ?_; rintro e w6 ⟨rfl, hb2⟩; have HDO := Lib.hid (((HC5.out.below hb).below hb2).Do HSS.out (aRoot 0 d.ref) HST.out.1); rw [HST.out.2] at HDO)
        | (go_at_call 26; refine HDO.out.mono ?_; rintro e w7 ⟨rfl, h6⟩))
      all_goals
        have HC7 : Hid (Cw w7 w E B p bs bb (layN t d (0 + 1)) rs (bx.put g 63 (rpc (d, true)).toArray)) := Lib.hid (by have := h6.out; rw [layN_succ hm d 0 (by omega)]; exact this)
        clear x0 x1 x2 x3 x4 x5 hzx h6 HDO HST HC4 HC5 HSS hb hb2
        go_wp2
        go_roundw
        case rel => exact ⟨0 + 1, by omega, by go_num, HC7.out⟩
        case measure => simp [intOf]
    · clear hi
      rw [show ((1 : Nat) : Int) = (1 : Int) from rfl]
      have q1 := idx2_1
      have HST := Lib.hid (show (layN t d 1).can (aRoot 1 d.ref) = true ∧ ((layN t d 1).step (aRoot 1 d.ref)).1 = _ from step_root (t := layN t d 1) (layN_m hm d 1) 1 (by omega) d.ref)
      have HC5 := Lib.hid HC4.out.drew
      obtain ⟨x0, x1, x2, x3, x4, x5⟩ := rep6 (x := (d, true)) (HC4.out.get (Bx.put_self ..))
      have hzx := (HC4.out.get (Bx.put_self ..)).lt
      have hst : (layN t d 1).steps < 900000 := by have := layN_steps t d 1 (by omega); omega
      have HSS := Lib.hid hst
      clear hst
      go_upto_region 12 with fail
      go_region_held3 (fun w' => w'.cell? ⟨g, 0, none⟩ = some (.int .i64 d.slot) ∧ w'.cell? ⟨g, 1, none⟩ = some (.int .i64 d.gen) ∧ w'.cell? ⟨g, 2, none⟩ = some (.int .i64 d.tag) ∧ w'.cell? ⟨g, 3, none⟩ = some (.int .i64 d.num) ∧ w'.cell? ⟨g, 4, none⟩ = some (.bool d.mark) ∧ w'.cell? ⟨g, 5, none⟩ = some (.bool true))
        (first | go_keep | exact rep6 (x := (d, true)) ((HC5.out.below hb).get (Bx.put_self ..)) | exact rep6 (x := (d, true)) (((HC5.out.below hb).below hb2).get (Bx.put_self ..)) | exact rep6 (x := (d, true)) (h6.out.get (Bx.put_self ..)))
        (first
        | (go_at_call 75; refine (Co.root1 _).mono ?_; rintro e w5 ⟨rfl, hb⟩)
        | (go_at_call 45; refine (Ref_any _ _ _ _ _ _).mono ?_; rintro e w6 ⟨rfl, hb2⟩; have HDO := Lib.hid (((HC5.out.below hb).below hb2).Do HSS.out (aRoot 1 d.ref) HST.out.1); rw [HST.out.2] at HDO)
        | (go_at_call 26; refine HDO.out.mono ?_; rintro e w7 ⟨rfl, h6⟩))
      all_goals
        have HC7 : Hid (Cw w7 w E B p bs bb (layN t d (1 + 1)) rs (bx.put g 63 (rpc (d, true)).toArray)) := Lib.hid (by have := h6.out; rw [layN_succ hm d 1 (by omega)]; exact this)
        clear x0 x1 x2 x3 x4 x5 hzx h6 HDO HST HC4 HC5 HSS hb hb2
        go_wp2
        go_roundw
        case rel => exact ⟨1 + 1, by omega, by go_num, HC7.out⟩
        case measure => simp [intOf]
    · have HF := Lib.hid (HC4.out.sub (bx' := bx) fun k x e => by rw [Bx.put_ne _ _ _ (fun e' => by rw [e', HG4.out] at e; cases e)]; exact e)
      clear HC4 HG4
      go_wp2
      go_ret
      exact ⟨rfl, HF⟩
def ad3 (s g f : Int) : Array Value := #[.int .i64 s, .int .i64 g, .int .i64 f]
theorem cell3 {w : World} {q : Nat} {s g f : Int} (h : BlkW w q 47 (ad3 s g f)) : w.cell? ⟨q, 0, none⟩ = some (.int .i64 s) ∧ w.cell? ⟨q, 1, none⟩ = some (.int .i64 g) ∧ w.cell? ⟨q, 2, none⟩ = some (.int .i64 f) := ⟨h.cell 0, h.cell 1, h.cell 2⟩
theorem cellW {w : World} {q : Nat} {d : Wd} (h : BlkW w q 34 (wc d).toArray) : w.cell? ⟨q, 0, none⟩ = some (.int .i64 d.slot) ∧ w.cell? ⟨q, 1, none⟩ = some (.int .i64 d.gen) ∧ w.cell? ⟨q, 2, none⟩ = some (.int .i64 d.tag) ∧ w.cell? ⟨q, 3, none⟩ = some (.int .i64 d.num) ∧ w.cell? ⟨q, 4, none⟩ = some (.bool d.mark) := ⟨h.cell 0, h.cell 1, h.cell 2, h.cell 3, h.cell 4⟩
theorem infoWrd3 : (Tryz.prog.info? 34).map (fun i => (i.zero, i.size, i.bytes)) = some (some (.agg #[.int .i64 0, .int .i64 0, .int .i64 0, .int .i64 0, .bool false]), 5, 40) := by kernel_rfl
theorem wc_one (d : Wd) : ∀ u ∈ wc d, u.oneCell' = true := fun u hu => by
  simp only [wc, List.mem_cons, List.not_mem_nil, or_false] at hu
  rcases hu with rfl | rfl | rfl | rfl | rfl <;> rfl
def ItRel (w : World) (E : Flt → Addr) (B p bs bb : Nat) (t : St) (rs : List (Nat × Rt)) (bx : Bx) (q : Nat) (d : Wd) (v5 v6 vi : Value) (wr : World) : Prop :=
  v5 = .slice none 0 0 ∧ ((v6 = .slice none 0 0 ∧ vi = .int .i64 0 ∧ Cw wr w E B p bs bb t rs (bx.put q 47 (ad3 0 0 0))) ∨
    (∃ rb c, v6 = .slice (some ⟨rb, 0, none⟩) 1 c ∧ vi = .int .i64 1 ∧ Cw wr w E B p bs bb t rs (bx.put q 47 (ad3 d.slot d.gen 2))))
set_option maxRecDepth 100000 in
set_option maxHeartbeats 4000000 in
theorem Items_one {d : Wd} (h : Cw W w E B p bs bb t rs bx) (h0 : t.peek 0 0 0 = some d) (hd : ¬ d.slot = 0) (h2 : t.peek d.slot d.gen 2 = some zw) :
    Calls Tryz.prog 41 #[.pointer (some ⟨p, 0, none⟩)] W fun e w' => (∃ rb c, e = .returned (.tuple #[.slice none 0 0, .slice (some ⟨rb, 0, none⟩) 1 c, .nilIface])) ∧ Hid (Cw w' w E B p bs bb t rs bx) := by
  have HC := Lib.hid h
  have HP0 := Lib.hid h0
  have HP2 := Lib.hid h2
  have HN1 := Lib.hid (fun W => Nil_is d.slot d.gen d.tag d.num d.mark false (by simpa using hd) W)
  have HN2 := Lib.hid (fun W => Nil_is 0 0 0 0 false true rfl W)
  clear h h0 h2 hd
  go_enter Tryz.func41, Tryz.ntmps41
  go_wp2_with fail
  refine (Co.root0 _).mono ?_
  rintro e w1 ⟨rfl, hb⟩
  replace HC := Lib.hid (HC.out.below hb)
  have HQ := Lib.hid HC.out.fresh_none
  have HQB := Lib.hid HC.out.of.2
  replace HC := Lib.hid (HC.out.new 47 (ad3 0 0 0) (by decide) (by decide) (by decide))
  clear hb
  go_upto_region 6 with fail
  show Code.wp _ _ _ _ (w1.alloc (.cells (ad3 0 0 0) 47))
  generalize w1.alloc (.cells (ad3 0 0 0) 47) = w2 at HC ⊢
  generalize w1.heap.size = q at HC HQ HQB ⊢
  go_wp2
  go_loopw [5, 6, 17] (ItRel w E B p bs bb t rs bx q d) (fun _ _ i _ => 2 - (intOf i).toNat)
  case atStart => exact ⟨rfl, .inl ⟨rfl, rfl, HC.out⟩⟩
  case round =>
    obtain ⟨rfl, hrel⟩ := hrel
    obtain ⟨wo, rfl⟩ : ∃ wo : World, wo = wr := ⟨_, rfl⟩
    clear HC
    rcases hrel with ⟨rfl, rfl, hcw⟩ | ⟨rb, c, rfl, rfl, hcw⟩
    · have HC := Lib.hid hcw
      clear hcw
      obtain ⟨a0, a1, a2⟩ := cell3 (HC.out.get (Bx.put_self ..))
      have hzq := (HC.out.get (Bx.put_self ..)).lt
      have HPK := Lib.hid (cwPeek HC.out 0 0 0 HP0.out)
      unfold peekV at HPK
      go_wp2_with fail
      refine HPK.out.mono ?_
      rintro e w3 ⟨rfl, h3⟩
      clear HPK HC a0 a1 a2 hzq
      have HG := Lib.hid h3.out.fresh_none
      have HC4 := Lib.hid (h3.out.new 34 (wc d).toArray (by decide) (by decide) (by decide))
      clear h3
      go_upto_region 9 with fail
      show Code.wp _ _ _ _ (w3.alloc (.cells (wc d).toArray 34))
      generalize w3.alloc (.cells (wc d).toArray 34) = w4 at HC4 ⊢
      generalize w3.heap.size = gw at HC4 HG ⊢
      have hqg : q ≠ gw := fun e => by have h := HG.out; rw [← e, Bx.put_self] at h; cases h
      obtain ⟨b0, b1, b2, b3, b4⟩ := cellW (HC4.out.get (Bx.put_self ..))
      have hzg := (HC4.out.get (Bx.put_self ..)).lt
      go_wp2_with fail
      refine (HN1.out _).mono ?_
      rintro e w5 ⟨rfl, hb⟩
      replace HC4 := Lib.hid (HC4.out.below hb)
      clear hb b0 b1 b2 b3 b4 hzg
      obtain ⟨b0, b1, b2, b3, b4⟩ := cellW (HC4.out.get (Bx.put_self ..))
      have hzg := (HC4.out.get (Bx.put_self ..)).lt
      go_wp2_with fail
      refine (Ref_any _ _ _ _ _ _).mono ?_
      rintro e w6 ⟨rfl, hb⟩
      replace HC4 := Lib.hid (HC4.out.below hb)
      clear hb b0 b1 b2 b3 b4 hzg
      obtain ⟨i0, hi0, hz0, hs0, hy0⟩ := info_parts infoWrd3
      have HB6 := Lib.hid HC4.out.of.2
      go_upto_region 16 with (at_builtin; refine Sv.wpList_append_row _ (c := wc) (k := 5) (fun _ => rfl) (by decide) wc_one rfl _ _ 71 rfl B 34 i0 (.agg #[.int .i64 0, .int .i64 0, .int .i64 0, .int .i64 0, .bool false]) 40 Tryz.underlying71 hi0 hz0 hs0 hy0 rfl (.slice none 0 0) 0 [] (by rfl) ⟨rfl, .inl ⟨rfl, rfl⟩⟩ (.slice (some ⟨w6.heap.size, 0, none⟩) 1 1) [d.ref] (by rfl) (.inr ⟨w6.heap.size, 0, 1, rfl, ?c1, Nat.le_refl 1, fun k hk => ?c2⟩) ?c3 ?c4 ?c5 ?_)
      case c1 => simp only [World.size_alloc]; omega
      case c2 =>
        obtain rfl : k = 0 := by simp at hk; omega
        exact blkA_range (BlkW.new w6 34 (wc d.ref).toArray) 0 _ (by kernel_rfl)
      case c3 => simp [maxLen]
      case c4 => simp
      case c5 => have := HB6.out; simp only [World.size_alloc]; omega
      intro v' w7 hap
      have hb : Below (w6.alloc (.cells (wc d.ref).toArray 34)).heap.size (w6.alloc (.cells (wc d.ref).toArray 34)) w7 := ⟨hap.2.1.os, hap.2.1.tape, hap.2.1.output, hap.2.1.size, fun k hk => hap.2.1.block k hk (by simp [Value.ownBlock])⟩
      have HC7 := Lib.hid ((HC4.out.alloc (.cells (wc d.ref).toArray 34)).below hb)
      obtain ⟨rb, cp1, hv⟩ : ∃ rb cp, v' = .slice (some ⟨rb, 0, none⟩) 1 cp := by
        rcases hap.1.2 with ⟨_, e0⟩ | ⟨g, cap, cur, e, _⟩
        · simp at e0
        · exact ⟨g, cap, e⟩
      subst hv
      clear hap hb HC4 HB6 hi0 hz0 hs0 hy0
      obtain ⟨b0, b1, b2, b3, b4⟩ := cellW (HC7.out.get (Bx.put_self ..))
      have hzg := (HC7.out.get (Bx.put_self ..)).lt
      go_wp2_with fail
      refine (Field_at _ _ _ _ _ _ _).mono ?_
      rintro e w8 ⟨rfl, hb⟩
      have HC8 := Lib.hid ((HC7.out.below hb).sub (bx' := bx.put q 47 (ad3 0 0 0)) fun k x e => by rw [Bx.put_ne _ _ _ (fun e' => by rw [e', HG.out] at e; cases e)]; exact e)
      clear hb HC7 b0 b1 b2 b3 b4 hzg
      have hbq := HC8.out.get (Bx.put_self ..)
      obtain ⟨a0, a1, a2⟩ := cell3 hbq
      have hzq := hbq.lt
      have fz : ∀ o, w8.frozen? ⟨q, o, none⟩ = false := hbq.frozen
      have HC9 := Lib.hid (HC8.out.off (Bx.put_self ..) HQB.out ((((Off.refl (fun j => j = q) w8).set (.inl rfl) 0 (.int .i64 d.slot)).set (.inl rfl) 1 (.int .i64 d.gen)).set (.inl rfl) 2 (.int .i64 2)) (cs' := ad3 d.slot d.gen 2) (BlkW.set (BlkW.set (BlkW.set hbq 0 (.int .i64 d.slot)) 1 (.int .i64 d.gen)) 2 (.int .i64 2)) (by decide))
      rw [Bx.put_put] at HC9
      clear hbq HC8
      go_wp2
      go_roundw
      case rel => exact ⟨rfl, .inr ⟨rb, cp1, rfl, by go_num, HC9.out⟩⟩
      case measure => simp [intOf]
    · have HC := Lib.hid hcw
      clear hcw
      obtain ⟨a0, a1, a2⟩ := cell3 (HC.out.get (Bx.put_self ..))
      have hzq := (HC.out.get (Bx.put_self ..)).lt
      have HPK := Lib.hid (cwPeek HC.out d.slot d.gen 2 HP2.out)
      unfold peekV at HPK
      go_wp2_with fail
      refine HPK.out.mono ?_
      rintro e w3 ⟨rfl, h3⟩
      clear HPK HC a0 a1 a2 hzq
      have HC4 := Lib.hid (h3.out.alloc (.cells (wc zw).toArray 34))
      clear h3
      go_wp2_with fail
      refine (HN2.out _).mono ?_
      rintro e w5 ⟨rfl, hb⟩
      have HF := Lib.hid ((HC4.out.below hb).sub (bx' := bx) fun k x e => by rw [Bx.put_ne _ _ _ (fun e' => by rw [e', HQ.out] at e; cases e)]; exact e)
      clear hb HC4
      go_wp2
      exact bodyPost_ret (v := .tuple #[.slice none 0 0, .slice (some ⟨rb, 0, none⟩) 1 c, .nilIface]) (by simp [results, Tryz.results41, go_sem]) rfl ⟨⟨rb, c, rfl⟩, HF⟩
set_option maxRecDepth 100000 in
set_option maxHeartbeats 4000000 in
/-- Of a plot on which no queue was laid. -/
theorem Items_zero (h : Cw W w E B p bs bb t rs bx) (h0 : t.peek 0 0 0 = some zw) :
    Calls Tryz.prog 41 #[.pointer (some ⟨p, 0, none⟩)] W fun e w' => e = .returned (.tuple #[.slice none 0 0, .slice none 0 0, .nilIface]) ∧ Hid (Cw w' w E B p bs bb t rs bx) := by
  have HC := Lib.hid h
  have HP0 := Lib.hid h0
  have HN2 := Lib.hid (fun W => Nil_is 0 0 0 0 false true rfl W)
  clear h h0
  go_enter Tryz.func41, Tryz.ntmps41
  go_wp2_with fail
  refine (Co.root0 _).mono ?_
  rintro e w1 ⟨rfl, hb⟩
  replace HC := Lib.hid (HC.out.below hb)
  have HQ := Lib.hid HC.out.fresh_none
  replace HC := Lib.hid (HC.out.new 47 (ad3 0 0 0) (by decide) (by decide) (by decide))
  clear hb
  go_upto_region 6 with fail
  show Code.wp _ _ _ _ (w1.alloc (.cells (ad3 0 0 0) 47))
  generalize w1.alloc (.cells (ad3 0 0 0) 47) = w2 at HC ⊢
  generalize w1.heap.size = q at HC HQ ⊢
  go_wp2
  go_loopw [5, 6, 17] (fun v5 v6 vi wr => v5 = .slice none 0 0 ∧ v6 = .slice none 0 0 ∧ vi = .int .i64 0 ∧ w2 = wr) (fun _ _ _ _ => 0)
  case atStart => exact ⟨rfl, rfl, rfl, rfl⟩
  case round =>
    obtain ⟨rfl, rfl, rfl, rfl⟩ := hrel
    obtain ⟨a0, a1, a2⟩ := cell3 (HC.out.get (Bx.put_self ..))
    have hzq := (HC.out.get (Bx.put_self ..)).lt
    have HPK := Lib.hid (cwPeek HC.out 0 0 0 HP0.out)
    unfold peekV at HPK
    go_wp2_with fail
    refine HPK.out.mono ?_
    rintro e w3 ⟨rfl, h3⟩
    clear HPK HC a0 a1 a2 hzq
    have HC4 := Lib.hid (h3.out.alloc (.cells (wc zw).toArray 34))
    clear h3
    go_wp2_with fail
    refine (HN2.out _).mono ?_
    rintro e w5 ⟨rfl, hb⟩
    have HF := Lib.hid ((HC4.out.below hb).sub (bx' := bx) fun k x e => by rw [Bx.put_ne _ _ _ (fun e' => by rw [e', HQ.out] at e; cases e)]; exact e)
    clear hb HC4
    go_wp2
    exact bodyPost_ret (v := .tuple #[.slice none 0 0, .slice none 0 0, .nilIface]) (by simp [results, Tryz.results41, go_sem]) rfl ⟨rfl, HF⟩
end
end Go.Proofs.YtihjklimcchkhaaGreatDoor.Cq

namespace Go.Proofs.YtihjklimcchkhaaGreatDoor.Cq
open Go.RowKit Go.Extern.Stop Go.Stop Go.Extern Go.Sort
def gcc (g : Nat) : List Value := [.pointer (some ⟨g, 0, none⟩)]
/-- A row of pointers: none yet, or a block of its own among the boxes. -/
def LstAt (bx : Bx) (B : Nat) (sv : Value) (said : List (Nat)) : Prop :=
  (sv = .slice none 0 0 ∧ said = []) ∨ ∃ sb cap cur, sv = .slice (some ⟨sb, 0, none⟩) said.length cap ∧ B ≤ sb ∧ bx sb = some (104, cur) ∧ said.length ≤ cap ∧ cap ≤ maxLen ∧ cur.size = cap * 1 ∧ cur.toList.take (said.length * 1) = Sv.flat gcc said
section
variable {W W' w : World} {E : Flt → Addr} {B p bs bb : Nat} {t : St} {rs : List (Nat × Rt)} {bx bx' : Bx}
theorem LstAt.own {sv : Value} {said : List (Nat)} (hs : LstAt bx B sv said) (h : Cw W w E B p bs bb t rs bx) : W.ownsRow B 104 1 sv said.length (Sv.flat gcc said) := by
  refine ⟨Sv.flat_len (k := 1) (fun a => (rfl : (gcc a).length = 1)) said, ?_⟩
  rcases hs with ⟨e, e2⟩ | ⟨sb, cap, cur, e, h1, h2, h3, h4, h5, h6⟩
  · exact .inl ⟨e, by rw [e2]; rfl⟩
  · exact .inr ⟨sb, cap, cur, e, h1, h.get h2, h3, h4, h5, h6⟩
/-- A worker more. -/
theorem _root_.Go.Proofs.YtihjklimcchkhaaGreatDoor.Cw.appendedLC {sv v' : Value} {said ys : List (Nat)} (h : Cw W w E B p bs bb t rs bx) (hs : LstAt bx B sv said) (hp : Sv.AppPost W gcc 1 B 104 sv said.length (Sv.flat gcc said) ys v' W') :
    ∃ bx', Cw W' w E B p bs bb t rs bx' ∧ LstAt bx' B v' (said ++ ys) ∧ ∀ g x, bx g = some x → some g ≠ sv.ownBlock → bx' g = some x := by
  obtain ⟨ho, hg, hv, hB⟩ := hp
  have hfl : Sv.flat gcc said ++ Sv.flat gcc ys = Sv.flat gcc (said ++ ys) := by rw [Sv.flat_app]
  have hl : (said ++ ys).length = said.length + ys.length := List.length_append
  rw [hfl] at ho
  obtain ⟨hlen, ho⟩ := ho
  have hlt : ∀ g x, bx g = some x → g < W.heap.size := fun g x e => (h.get (T := x.1) (cs := x.2) e).lt
  have mk : ∀ (bx2 : Bx) (g cap : Nat) (cur : Array Value), v' = .slice (some ⟨g, 0, none⟩) (said.length + ys.length) cap → B ≤ g → said.length + ys.length ≤ cap → cap ≤ maxLen → cur.size = cap * 1 → cur.toList.take ((said.length + ys.length) * 1) = Sv.flat gcc (said ++ ys) → bx2 g = some (104, cur) → LstAt bx2 B v' (said ++ ys) := fun bx2 g cap cur e1 e2 e3 e4 e5 e6 e7 => .inr ⟨g, cap, cur, by rw [hl]; exact e1, e2, e7, by rw [hl]; exact e3, e4, e5, by rw [hl]; exact e6⟩
  rcases hs with ⟨rfl, rfl⟩ | ⟨sb, cap0, cur0, rfl, q1, q2, q3, q4, q5, q6⟩
  · have hb : Below W.heap.size W W' := ⟨hg.os, hg.tape, hg.output, hg.size, fun k hk => hg.block k hk (by simp [Value.ownBlock])⟩
    rcases ho with ⟨e, e2⟩ | ⟨g, cap, cur, e, e1, e2, e3, e4, e5, e6⟩
    · refine ⟨bx, h.below hb, .inl ⟨e, ?_⟩, fun g x hx _ => hx⟩
      exact List.length_eq_zero_iff.1 (by rw [hl]; exact e2)
    · have hgn : g = W.heap.size := by
        rcases hv with hv | hv
        · rw [e] at hv; simp [Value.ownBlock] at hv
        · rw [e] at hv; simpa [Value.ownBlock] using hv
      refine ⟨bx.put g _ cur, h.box hb e2 (by omega) (by decide) (by decide) (by decide), mk _ g cap cur e e1 e3 e4 e5 e6 (Bx.put_self ..), fun k x hx _ => ?_⟩
      rw [Bx.put_ne _ _ _ (by have := hlt k x hx; omega)]
      exact hx
  · have hoff : Off (fun j => j = sb) W W' := ⟨hg.os, hg.tape, hg.output, hg.size, fun k hk hn => hg.block k hk (by simpa [Value.ownBlock] using hn)⟩
    rcases ho with ⟨e, e2⟩ | ⟨g, cap, cur, e, e1, e2, e3, e4, e5, e6⟩
    · exact absurd hv (by rw [e]; simp [Value.ownBlock])
    · rcases hv with hv | hv
      · have hgs : g = sb := by rw [e] at hv; simpa [Value.ownBlock] using hv
        subst hgs
        refine ⟨bx.put g _ cur, h.off q2 q1 hoff e2 (by decide), mk _ g cap cur e e1 e3 e4 e5 e6 (Bx.put_self ..), fun k x hx hk => ?_⟩
        rw [Bx.put_ne _ _ _ (by simpa [Value.ownBlock] using hk)]
        exact hx
      · have hgn : g = W.heap.size := by rw [e] at hv; simpa [Value.ownBlock] using hv
        refine ⟨(bx.drop sb).put g _ cur, h.offNew q2 q1 hoff (by decide) e2 (by omega) (by decide) (by decide) (by decide), mk _ g cap cur e e1 e3 e4 e5 e6 (Bx.put_self ..), fun k x hx hk => ?_⟩
        rw [Bx.put_ne _ _ _ (by have := hlt k x hx; omega), Bx.drop_ne _ (by simpa [Value.ownBlock] using hk)]
        exact hx
theorem LstAt.puts {sv : Value} {said : List Nat} (h : LstAt bx B sv said) {g : Nat} {T : TypeId} {cs : Array Value} (hg : bx g = none) : LstAt (bx.put g T cs) B sv said := by
  rcases h with h | ⟨sb, cap, cur, rfl, q1, q2, q3⟩
  · exact .inl h
  · exact .inr ⟨sb, cap, cur, rfl, q1, by rw [Bx.put_ne _ _ _ (fun e => by rw [e, hg] at q2; cases q2)]; exact q2, q3⟩
theorem LstAt.own_ne {sv : Value} {said : List Nat} (h : LstAt bx B sv said) {g : Nat} {T : TypeId} {cs : Array Value} (hx : bx g = some (T, cs)) (hT : T ≠ 104) : some g ≠ sv.ownBlock := fun e => by
  rcases h with ⟨e2, _⟩ | ⟨sb, cap, cur, e2, q1, q2, _⟩
  · rw [e2] at e; simp [Value.ownBlock] at e
  · rw [e2] at e
    have hsq : g = sb := by simpa [Value.ownBlock] using e
    rw [← hsq, hx] at q2
    injection q2 with e
    injection e with e
    exact hT e
end
theorem infoWk : (Tryz.prog.info? 104).map (fun i => (i.zero, i.size, i.bytes)) = some (some (.pointer none), 1, 8) := by kernel_rfl
theorem gcc_one (g : Nat) : ∀ u ∈ gcc g, u.oneCell' = true := fun u hu => by
  simp only [gcc, List.mem_cons, List.not_mem_nil, or_false] at hu
  subst hu; rfl
/-- A worker that is new. -/
def wNew (e : Int) (n most : Nat) (ops : Nat → List Po) (j : Nat) : Rt × Wr := (Rt.new e j n most, ⟨ops j, [], none, false⟩)
/-- Amid the loop. -/
def CrRel (w : World) (E : Flt → Addr) (B p bs bb : Nat) (t : St) (e : Int) (n most : Nat) (ops : Nat → List Po) (ob oc : Nat → Nat) (cb : Nat → Array Value) (lv vi : Value) (wr : World) : Prop :=
  ∃ (i : Nat) (bx : Bx) (r g : Nat → Nat), i ≤ n ∧ vi = .int .i64 (i : Int) ∧ Cw wr w E B p bs bb t (rsOf i r (wNew e n most ops)) bx ∧ LstAt bx B lv ((List.range i).map g) ∧
    (∀ j, j < i → bx (g j) = some (103, (wkc (r j) (.slice (some ⟨ob j, 0, none⟩) (ops j).length (oc j)) (.pointer none) false (.slice none 0 0)).toArray) ∧ B ≤ g j) ∧
    (∀ j k, j < i → k < i → j ≠ k → g j ≠ g k) ∧ (∀ j, j < n → bx (ob j) = some (78, cb (ob j)))
/-- What a crew is. -/
def CrewPost (w : World) (E : Flt → Addr) (e : Int) (n most sl : Nat) (d : Wd) (ops : Nat → List Po) (f : Ending) (w' : World) : Prop :=
  ∃ p bs bb g lb cap, f = .returned (.tuple #[.pointer (some ⟨p, 0, none⟩), .slice (some ⟨lb, 0, none⟩) n cap]) ∧ n ≤ cap ∧ Hid (CrewOn w' w E w.heap.size p bs bb (layN (ydSt sl) d 2) n g lb (wNew e n most ops)) ∧ Hid (Below w.heap.size w w')
theorem rsOf_succ (i : Nat) (r : Nat → Nat) (x : Nat → Rt × Wr) (v : Nat) : rsOf i r x ++ [(v, (x i).1)] = rsOf (i + 1) (upd r i v) x := by
  unfold rsOf
  rw [List.range_succ, List.map_append]
  congr 1
  · apply List.map_congr_left
    intro j hj
    have := List.mem_range.1 hj
    rw [upd_ne _ _ (by omega)]
  · simp [upd]
theorem rangeMap_succ (i : Nat) (g : Nat → Nat) (v : Nat) : (List.range i).map g ++ [v] = (List.range (i + 1)).map (upd g i v) := by
  rw [List.range_succ, List.map_append]
  congr 1
  · apply List.map_congr_left
    intro j hj
    have := List.mem_range.1 hj
    rw [upd_ne _ _ (by omega)]
  · simp [upd]
set_option maxRecDepth 100000 in
set_option maxHeartbeats 4000000 in
theorem crew_is (E : Flt → Addr) (w : World) (L : Env w E) (e : Int) (n most sl : Nat) (he : 1 ≤ e ∧ e ≤ 5) (hn : 1 ≤ n ∧ n ≤ 6) (hno : 1 ≤ most ∧ most ≤ 64) (hs : sl ≤ 1024) (ops : Nat → List Po) (ob oc : Nat → Nat) (cb : Nat → Array Value) (ov cov : Nat) {d : Wd} (hd : ((ydSt sl).step aNew).2 = (d, true))
    (hov : ∀ j, j < n → w.cell? ⟨ov, j, none⟩ = some (.slice (some ⟨ob j, 0, none⟩) (ops j).length (oc j))) (hob : ∀ j, j < n → BlkW w (ob j) 78 (cb (ob j)) ∧ (ops j).length ≤ oc j ∧ ∀ k, ∀ h : k < (ops j).length, ((cb (ob j)).toList.drop (k * 4)).take 4 = opc (ops j)[k]) (hcv : n ≤ cov) :
    Calls Tryz.prog 42 #[.int .i64 e, .int .i64 (most : Int), .int .i64 (sl : Int), .slice (some ⟨ov, 0, none⟩) n cov] w (CrewPost w E e n most sl d ops) := by
  have HL := Lib.hid L
  have hB := L.size
  have HOV := Lib.hid hov
  have HOB := Lib.hid hob
  clear L hov hob
  go_enter Tryz.func42, Tryz.ntmps42
  go_wp2_with fail
  refine (Bd.Cells_any w).mono ?_
  rintro f w1 ⟨rfl, rfl⟩
  go_wp2_with fail
  refine (new_is HL.out sl 85 hs (by omega)).mono ?_
  rintro f w2 ⟨p, bs, bb, rfl, P2, C2, _, _⟩
  have B2 := Lib.hid C2.out
  clear C2
  go_wp2_with fail
  refine (Era_agg w2).mono ?_
  rintro f w3 ⟨rfl, hb3⟩
  have P3 := Lib.hid (P2.out.keep hb3)
  have B3 := Lib.hid (show Below w.heap.size w w3 from B2.out.trans (hb3.mono B2.out.size))
  clear hb3 P2 B2
  go_wp2_with fail
  refine (do_era P3.out hB).mono ?_
  rintro f w4 ⟨v, rfl, P4, C4⟩
  have B4 := Lib.hid (show Below w.heap.size w w4 from B3.out.trans C4.out)
  clear C4 P3 B3
  have hz : ∀ j, j < n → ob j < w.heap.size := fun j hj => (HOB.out j hj).1.lt
  have HLY := Lib.hid (Lay_ok (Cw.none_ P4.out B4.out hB) (show (ydSt sl).steps < 800000 from (by decide : 1 < 800000)) rfl hd)
  clear P4 B4
  go_wp2_with fail
  refine HLY.out.mono ?_
  rintro f w4 ⟨rfl, C4⟩
  have B4 := Lib.hid C4.out.of.1
  clear HLY
  have H4 := Lib.hid (C4.out.elders (fun b => (List.range n).any fun j => ob j == b) cb (T := 78) (fun b hb => by
    obtain ⟨j, hj, e⟩ := List.any_eq_true.1 hb
    have e : ob j = b := by simpa using e
    have hj := List.mem_range.1 hj
    subst e
    exact ⟨hz j hj, (HOB.out j hj).1.below B4.out⟩) (by decide) (by decide) (by decide))
  have HO4 : Hid (∀ j, j < n → (fun b => if ((List.range n).any fun j => ob j == b) = true then some (78, cb b) else (none : Option (TypeId × Array Value))) (ob j) = some (78, cb (ob j))) := Lib.hid fun j hj => if_pos (List.any_eq_true.2 ⟨j, List.mem_range.2 hj, by simp⟩)
  generalize (fun b => if ((List.range n).any fun j => ob j == b) = true then some (78, cb b) else (none : Option (TypeId × Array Value))) = bx0 at H4 HO4
  clear hz C4
  go_wp2
  go_loopw [12, 13] (CrRel w E w.heap.size p bs bb (layN (ydSt sl) d 2) e n most ops ob oc cb) (fun _ i _ => n - (intOf i).toNat)
  case atStart =>
    have hn0 : bx0 w4.heap.size = none := H4.out.fresh_none
    refine ⟨0, _, fun _ => 0, fun _ => 0, by omega, rfl, H4.out.new 104 #[] (by decide) (by decide) (by decide), .inr ⟨w4.heap.size, 0, #[], rfl, B4.out.size, Bx.put_self .., Nat.le_refl _, by simp [maxLen], rfl, rfl⟩, fun j hj => absurd hj (Nat.not_lt_zero j), fun j _ hj => absurd hj (Nat.not_lt_zero j), fun j hj => ?_⟩
    rw [Bx.put_ne _ _ _ (fun e => by have h := HO4.out j hj; rw [e, hn0] at h; cases h)]
    exact HO4.out j hj
  case round =>
    obtain ⟨i, bx, r, g, hi, rfl, hcw, hls, hwk, hgn, hbo⟩ := hrel
    obtain ⟨wo, rfl⟩ : ∃ wo : World, wo = wr := ⟨_, rfl⟩
    have HC := Lib.hid hcw
    have HLS := Lib.hid hls
    have HW := Lib.hid hwk
    have HG := Lib.hid hgn
    have HBO := Lib.hid hbo
    clear hcw hls hwk hgn hbo H4 HO4 B4
    by_cases hlt : i < n
    · have j1 : (i : Int) < n := by omega
      go_wp2_with fail
      refine (New_is e i n most he hn hlt hno wo).mono ?_
      rintro f w5 ⟨rfl, R5, C5⟩
      have hcx : w5.cell? ⟨ov, i, none⟩ = some (.slice (some ⟨ob i, 0, none⟩) (ops i).length (oc i)) := by
        have h := HOV.out i hlt
        exact keep_cell (C5.out) ((HC.out.of.1.cell (p := ⟨ov, i, none⟩) (lt_of_cell h)).trans h)
      have hzo : ov < w5.heap.size := lt_of_cell hcx
      have H5 := Lib.hid (show Cw w5 w E w.heap.size p bs bb (layN (ydSt sl) d 2) (rsOf (i + 1) (upd r i wo.heap.size) (wNew e n most ops)) bx from by
        have := HC.out.add R5.out C5.out
        rw [← rsOf_succ]
        exact this)
      have h5n : bx w5.heap.size = none := H5.out.fresh_none
      have H6 := Lib.hid (H5.out.new 103 (wkc wo.heap.size (.slice (some ⟨ob i, 0, none⟩) (ops i).length (oc i)) (.pointer none) false (.slice none 0 0)).toArray (by decide) (by decide) (by decide))
      have HL6 := Lib.hid (HLS.out.puts (g := w5.heap.size) (T := 103) (cs := (wkc wo.heap.size (.slice (some ⟨ob i, 0, none⟩) (ops i).length (oc i)) (.pointer none) false (.slice none 0 0)).toArray) h5n)
      have H5N := Lib.hid h5n
      obtain ⟨i0, hi0, hz0, hs0, hy0⟩ := info_parts infoWk
      have HLT := Lib.hid hlt
      have HB5 := Lib.hid H5.out.of.2
      clear h5n R5 C5 HC
      have hll : ((List.range i).map g).length = i := by simp
      go_wp2_with (at_builtin; refine Sv.wpList_append_row _ (c := gcc) (k := 1) (fun _ => rfl) (by decide) gcc_one rfl _ _ 97 rfl w.heap.size 104 i0 (.pointer none) 8 Tryz.underlying97 hi0 hz0 hs0 hy0 rfl u12 ((List.range i).map g).length _ (by rfl) (HL6.out.own (H6.out.alloc _)) (.slice (some ⟨w5.heap.size + 1, 0, none⟩) 1 1) [w5.heap.size] (by rfl) (.inr ⟨w5.heap.size + 1, 0, 1, rfl, ?c1, Nat.le_refl 1, fun k hk => ?c2⟩) ?c3 ?c4 ?c5 ?_)
      case c1 => simp only [World.size_alloc]; omega
      case c2 =>
        obtain rfl : k = 0 := by simp at hk; omega
        have := BlkW.new (w5.alloc (.cells (wkc wo.heap.size (.slice (some ⟨ob i, 0, none⟩) (ops i).length (oc i)) (.pointer none) false (.slice none 0 0)).toArray 103)) 104 (gcc w5.heap.size).toArray
        rw [World.size_alloc] at this
        exact blkA_range this 0 _ (by kernel_rfl)
      case c3 => simp [maxLen]; omega
      case c4 => simp; omega
      case c5 => have := HB5.out; simp only [World.size_alloc]; omega
      intro v' w6 hap
      obtain ⟨ao1, cp1, ev1⟩ := Sv.own_slice hap.1
      have hap' : Sv.AppPost ((w5.alloc (.cells (wkc wo.heap.size (.slice (some ⟨ob i, 0, none⟩) (ops i).length (oc i)) (.pointer none) false (.slice none 0 0)).toArray 103)).alloc (.cells (gcc w5.heap.size).toArray 104)) gcc 1 w.heap.size 104 u12 ((List.range i).map g).length (Sv.flat gcc ((List.range i).map g)) [w5.heap.size] v' w6 := by rw [hll]; exact hap
      obtain ⟨bx3, hc3, hs3, hk3⟩ := (H6.out.alloc _).appendedLC HL6.out hap'
      have HC3 := Lib.hid hc3
      have HS3 := Lib.hid (show LstAt bx3 w.heap.size v' ((List.range (i + 1)).map (upd g i w5.heap.size)) from by rw [← rangeMap_succ]; exact hs3)
      have hgs : ∀ j, j < i → g j ≠ w5.heap.size := fun j hj e => by have h := (HW.out j hj).1; rw [e, H5N.out] at h; cases h
      have HW3 : Hid (∀ j, j < i + 1 → bx3 (upd g i w5.heap.size j) = some (103, (wkc (upd r i wo.heap.size j) (.slice (some ⟨ob j, 0, none⟩) (ops j).length (oc j)) (.pointer none) false (.slice none 0 0)).toArray) ∧ w.heap.size ≤ upd g i w5.heap.size j) := Lib.hid fun j hj => by
        by_cases hji : j = i
        · subst hji
          rw [upd_self, upd_self]
          exact ⟨hk3 _ _ (Bx.put_self ..) (HL6.out.own_ne (Bx.put_self ..) (by decide)), HB5.out⟩
        · rw [upd_ne _ _ hji, upd_ne _ _ hji]
          have hj' : j < i := by omega
          have h := (HW.out j hj').1
          have h' : (bx.put w5.heap.size 103 (wkc wo.heap.size (.slice (some ⟨ob i, 0, none⟩) (ops i).length (oc i)) (.pointer none) false (.slice none 0 0)).toArray) (g j) = some _ := (Bx.put_ne _ _ _ (hgs j hj')).trans h
          exact ⟨hk3 _ _ h' (HL6.out.own_ne h' (by decide)), (HW.out j hj').2⟩
      have HG3 : Hid (∀ j k, j < i + 1 → k < i + 1 → j ≠ k → upd g i w5.heap.size j ≠ upd g i w5.heap.size k) := Lib.hid fun j k hj hk hjk => by
        by_cases hji : j = i
        · subst hji
          rw [upd_self, upd_ne _ _ (fun e => hjk e.symm)]
          exact fun e => hgs k (by omega) e.symm
        · by_cases hki : k = i
          · subst hki
            rw [upd_self, upd_ne _ _ hji]
            exact hgs j (by omega)
          · rw [upd_ne _ _ hji, upd_ne _ _ hki]
            exact HG.out j k (by omega) (by omega) hjk
      have HBO3 : Hid (∀ j, j < n → bx3 (ob j) = some (78, cb (ob j))) := Lib.hid fun j hj => by
        have h := HBO.out j hj
        have h' : (bx.put w5.heap.size 103 (wkc wo.heap.size (.slice (some ⟨ob i, 0, none⟩) (ops i).length (oc i)) (.pointer none) false (.slice none 0 0)).toArray) (ob j) = some _ := (Bx.put_ne _ _ _ (fun e => by rw [e, H5N.out] at h; cases h)).trans h
        exact hk3 _ _ h' (HL6.out.own_ne h' (by decide))
      generalize upd g i w5.heap.size = g' at HS3 HW3 HG3
      generalize upd r i wo.heap.size = r' at HC3 HW3
      clear hap hap' hc3 hs3 hk3 hgs H5 H6 HL6 H5N HB5 HW HG HBO HLS hcx hzo hll hi0 hz0 hs0 hy0
      subst ev1
      go_wp2
      refine ⟨⟨i + 1, bx3, r', g', by omega, by go_num, HC3.out, HS3.out, HW3.out, HG3.out, HBO3.out⟩, by simp [intOf]; omega⟩
    · obtain rfl : n = i := by omega
      have j1 : ¬ ((n : Int) < n) := by omega
      rcases HLS.out with ⟨_, e0⟩ | ⟨lb, cap, cur, rfl, hge, hblk, hnc, hcm, hcs, htk⟩
      · simp at e0; omega
      · have hll : ((List.range n).map g).length = n := by simp
        rw [hll] at hnc htk ⊢
        have HCR : Hid (CrewOn wo w E w.heap.size p bs bb (layN (ydSt sl) d 2) n g lb (wNew e n most ops)) := by
          refine Lib.hid ⟨r, ob, oc, fun j b => b = g j, bx, HC.out, fun j hj => ?_, fun j k hj hk hjk b e1 e2 => HG.out j k hj hk hjk (e1.symm.trans e2), fun j k hj hk e => ?_, fun j hj b e => (by rw [e, (HW.out j hj).1]; exact (fun h => (by cases h))), ⟨cur, hblk, fun j hj => ?_⟩, fun j hj e => ?_⟩
          · obtain ⟨h1, h2⟩ := HW.out j hj
            obtain ⟨o1, o2, o3⟩ := HOB.out j hj
            refine ⟨none, .slice none 0 0, h1, h2, rfl, fun e => ?_, o2, ⟨_, _, HBO.out j hj, o3⟩, .inl ⟨rfl, rfl⟩, .inl ⟨rfl, rfl⟩, fun b e => by simp [Value.ownBlock] at e⟩
            rw [← e, HBO.out j hj] at h1
            injection h1 with h1
            injection h1 with h1
            exact absurd h1 (by decide)
          · have e : ob k = g j := e
            have h := (HW.out j hj).1
            rw [← e, HBO.out k hk] at h
            injection h with h
            injection h with h
            exact absurd h (by decide)
          · have h1 : (cur.toList.take (n * 1))[j]? = some (.pointer (some ⟨g j, 0, none⟩)) := by
              rw [htk]
              have := Sv.flat_at (c := gcc) (k := 1) (fun _ => rfl) ((List.range n).map g) j 0 (by simpa using hj) (by omega)
              simp only [Nat.mul_one, Nat.add_zero] at this
              rw [this]
              simp [gcc]
            rw [List.getElem?_take_of_lt (by omega)] at h1
            simpa using h1
          · have e : lb = g j := e
            have h := (HW.out j hj).1
            rw [← e, hblk] at h
            injection h with h
            injection h with h
            exact absurd h (by decide)
        have HBB := Lib.hid HC.out.of.1
        clear HC HW HG HBO HLS hblk htk
        go_wp2
        refine bodyPost_ret (v := .tuple #[.pointer (some ⟨p, 0, none⟩), .slice (some ⟨lb, 0, none⟩) n cap]) (by simp [results, Tryz.results42, go_sem]) rfl ?_
        exact ⟨p, bs, bb, g, lb, cap, rfl, hnc, HCR, HBB⟩
end Go.Proofs.YtihjklimcchkhaaGreatDoor.Cq
