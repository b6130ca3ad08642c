/- A crew: a plot and workers beside each other; a step, idle, what was said. A template (fill.py). -/
import Derived.Test.YtihjklimcchkhaaGreatDoorPn
namespace Go.Proofs.YtihjklimcchkhaaGreatDoor
open Go.RowKit Go.Extern.Stop Go.Stop Go.Extern Go.Sort
def rsOf (n : Nat) (r : Nat → Nat) (x : Nat → Rt × Wr) : List (Nat × Rt) := (List.range n).map fun i => (r i, (x i).1)
theorem rsOf_len (n : Nat) (r : Nat → Nat) (x : Nat → Rt × Wr) : (rsOf n r x).length = n := by simp [rsOf]
theorem rsOf_get {n : Nat} {r : Nat → Nat} {x : Nat → Rt × Wr} {i : Nat} (h : i < (rsOf n r x).length) : (rsOf n r x)[i] = (r i, (x i).1) := by simp [rsOf]
def upd {α : Type} (x : Nat → α) (i : Nat) (v : α) : Nat → α := fun j => if j = i then v else x j
theorem upd_self {α : Type} (x : Nat → α) (i : Nat) (v : α) : upd x i v i = v := if_pos rfl
theorem upd_ne {α : Type} (x : Nat → α) {i j : Nat} (v : α) (h : j ≠ i) : upd x i v j = x j := if_neg h
theorem rsOf_set {n : Nat} {r : Nat → Nat} {x : Nat → Rt × Wr} {i : Nat} (v : Rt × Wr) : (rsOf n r x).set i (r i, v.1) = rsOf n r (upd x i v) := by
  apply List.ext_getElem
  · simp [rsOf]
  · intro k h1 h2
    rw [rsOf_get h2, List.getElem_set]
    by_cases e : i = k
    · subst e; rw [if_pos rfl, upd_self]
    · rw [if_neg e, rsOf_get, upd_ne _ _ (fun h => e h.symm)]
/-- Only what is a box. -/
theorem WkAt.restrict {bx : Bx} {B : Nat} {O : Nat → Prop} {g r ob oc : Nat} {a : Wr} (h : WkAt bx B O g r ob oc a) : WkAt bx B (fun b => O b ∧ bx b ≠ none) g r ob oc a := by
  obtain ⟨jp, sv, h1, h2, h3, h4, h5, h6, h7, h8, h9⟩ := h
  refine ⟨jp, sv, h1, h2, ⟨h3, by rw [h1]; exact fun e => by cases e⟩, fun e => h4 e.1, h5, h6, ?_, h8, fun b e => ⟨h9 b e, ?_⟩⟩
  · rcases h7 with h | ⟨b, jb, e1, e2, q1, q2, q3⟩
    · exact .inl h
    · exact .inr ⟨b, jb, e1, e2, q1, ⟨q2, by rw [q3]; exact fun e => by cases e⟩, q3⟩
  · rcases h8 with ⟨e2, _⟩ | ⟨sb, cap, cur, e2, q1, q2, _⟩
    · rw [e2] at e; simp [Value.ownBlock] at e
    · rw [e2] at e
      have hsb : sb = b := by simpa [Value.ownBlock] using e
      rw [← hsb, q2]; exact fun e => by cases e
/-- Workers beside each other, and the row lb of pointers to them. -/
def CrewOn (W w : World) (E : Flt → Addr) (B p bs bb : Nat) (t : St) (n : Nat) (g : Nat → Nat) (lb : Nat) (x : Nat → Rt × Wr) : Prop :=
  ∃ (r ob oc : Nat → Nat) (O : Nat → Nat → Prop) (bx : Bx), Cw W w E B p bs bb t (rsOf n r x) bx ∧ (∀ i, i < n → WkAt bx B (O i) (g i) (r i) (ob i) (oc i) (x i).2) ∧
    (∀ i j, i < n → j < n → i ≠ j → ∀ b, O i b → ¬ O j b) ∧ (∀ i j, i < n → j < n → ¬ O i (ob j)) ∧ (∀ i, i < n → ∀ b, O i b → bx b ≠ none) ∧
    (∃ cs, bx lb = some (83, cs) ∧ ∀ i, i < n → cs[i]? = some (.pointer (some ⟨g i, 0, none⟩))) ∧ (∀ i, i < n → ¬ O i lb)
def idleB (x : Rt × Wr) : Bool := !x.1.st.busy && x.2.j.isNone && !x.2.inn && decide (x.2.ops.length ≤ x.2.said.length)
section
variable {W W' w : World} {E : Flt → Addr} {B p bs bb : Nat} {t : St} {n lb : Nat} {g : Nat → Nat} {x : Nat → Rt × Wr}
theorem CrewOn.below (h : CrewOn W w E B p bs bb t n g lb x) (hb : Below W.heap.size W W') : CrewOn W' w E B p bs bb t n g lb x := by
  obtain ⟨r, ob, oc, O, bx, h1, h2⟩ := h
  exact ⟨r, ob, oc, O, bx, h1.below hb, h2⟩
theorem CrewOn.of (h : CrewOn W w E B p bs bb t n g lb x) : Below B w W ∧ B ≤ W.heap.size := by
  obtain ⟨r, ob, oc, O, bx, h1, h2⟩ := h
  exact h1.of
theorem CrewOn.row (h : CrewOn W w E B p bs bb t n g lb x) {i : Nat} (hi : i < n) : W.cell? ⟨lb, i, none⟩ = some (.pointer (some ⟨g i, 0, none⟩)) ∧ lb < W.heap.size := by
  obtain ⟨r, ob, oc, O, bx, h1, h2, h3, h4, h5, ⟨cs, h6, h7⟩, h8⟩ := h
  exact ⟨(BlkW.cell (h1.get h6) i).trans (h7 i hi), (h1.get h6).lt⟩
theorem CrewOn.plot (h : CrewOn W w E B p bs bb t n g lb x) : PlotAt W E B p bs bb t ∧ 9 ≤ B := by
  obtain ⟨r, ob, oc, O, bx, ⟨K, h1, h2, h3, h4, h5, h6, h7⟩, _⟩ := h
  exact ⟨h1, h6⟩
theorem CrewOn.idle (h : CrewOn W w E B p bs bb t n g lb x) {i : Nat} (hi : i < n) {q : Bool} (hq : idleB (x i) = q) : Calls Tryz.prog 70 #[.pointer (some ⟨g i, 0, none⟩)] W fun e w' => e = .returned (.bool q) ∧ Hid (CrewOn w' w E B p bs bb t n g lb x) := by
  obtain ⟨r, ob, oc, O, bx, h1, h2⟩ := h
  obtain ⟨jp, sv, k1, k2, k3, k4, k5, k6, k7, k8, k9⟩ := h2.1 i hi
  obtain ⟨sa, sc, rfl⟩ := k8.slice
  have hi' : i < (rsOf n r x).length := by rw [rsOf_len]; exact hi
  have hg : (rsOf n r x)[i] = (r i, (x i).1) := rsOf_get hi'
  refine (h1.idle hi' (by rw [hg]; exact k1) q ?_).mono fun e w' ⟨he, hw⟩ => ⟨he, Lib.hid ⟨r, ob, oc, O, bx, hw.out, h2⟩⟩
  rw [hg, ← hq]
  unfold idleB
  rcases k7 with ⟨rfl, e⟩ | ⟨b, jb, rfl, e, _⟩
  · rw [e]; rfl
  · rw [e]; rfl
/-- What a step leaves of a worker, and of the heap. -/
def wStepX (t : St) (y : Rt × Wr) : Rt × Wr := (if (wto 199 y).1.st.busy then (wto 199 y).1.goOn (t.step (wto 199 y).1.st.acc).2 else (wto 199 y).1, (wto 199 y).2)
def wStepT (t : St) (y : Rt × Wr) : St := if (wto 199 y).1.st.busy then (t.step (wto 199 y).1.st.acc).1 else t
theorem CrewOn.step (h : CrewOn W w E B p bs bb t n g lb x) {i : Nat} (hi : i < n) (hb : WOk 199 (x i)) (ht : t.steps < 900000) (hc : (wto 199 (x i)).1.st.busy = true → t.can (wto 199 (x i)).1.st.acc = true ∧ GoOk (wto 199 (x i)).1 (t.step (wto 199 (x i)).1.st.acc).2) {q : Bool} (hq : (wto 199 (x i)).1.st.busy = q) :
    Calls Tryz.prog 33 #[.pointer (some ⟨g i, 0, none⟩), .pointer (some ⟨p, 0, none⟩)] W fun e w' => e = .returned (.bool q) ∧ Hid (CrewOn w' w E B p bs bb (wStepT t (x i)) n g lb (upd x i (wStepX t (x i)))) := by
  obtain ⟨r, ob, oc, O, bx, h1, h2, h3, h4, h5, ⟨cs, h6, h7⟩, h8⟩ := h
  have hi' : i < (rsOf n r x).length := by rw [rsOf_len]; exact hi
  refine (wstep_is h1 hi' (rsOf_get hi') (h2 i hi) hb rfl ht hc).mono fun e w' ⟨he, bx', O', k1, k2, k3, k4⟩ => ⟨by rw [he, hq], Lib.hid ?_⟩
  have hset : (rsOf n r x).set i (r i, if (wto 199 (x i)).1.st.busy = true then (wto 199 (x i)).1.goOn (t.step (wto 199 (x i)).1.st.acc).2 else (wto 199 (x i)).1) = rsOf n r (upd x i (wStepX t (x i))) := rsOf_set (wStepX t (x i))
  rw [hset] at k1
  have hob : ∀ j, j < n → bx (ob j) ≠ none := fun j hj e => by
    obtain ⟨jp, sv, _, _, _, _, _, ⟨T, c, q1, _⟩, _⟩ := h2 j hj
    rw [q1] at e; cases e
  have hold : ∀ j, j < n → j ≠ i → ∀ b, O j b → ¬ O' b := fun j hj hji b e e' => by
    rcases k4 b e' with k | k
    · exact h3 j i hj hi hji b e k
    · exact h5 j hj b e k
  have hnob : ∀ j, j < n → ¬ O' (ob j) := fun j hj e => (k4 _ e).elim (h4 i j hi hj) (hob j hj)
  refine ⟨r, ob, oc, fun j b => if j = i then O' b ∧ bx' b ≠ none else O j b, bx', k1.out, fun j hj => ?_, fun j k hj hk hjk b e e' => ?_, fun j k hj hk e => ?_, fun j hj b e => ?_, ⟨cs, k3 lb _ h6 (h8 i hi), h7⟩, fun j hj e => ?_⟩
  · by_cases hji : j = i
    · subst hji
      rw [upd_self]
      simp only [if_true]
      exact k2.restrict
    · rw [upd_ne _ _ hji]
      simp only [if_neg hji]
      exact (h2 j hj).other k3 (fun b e => fun e' => h3 j i hj hi hji b e e') (h4 i j hi hj)
  · by_cases hji : j = i
    · by_cases hki : k = i
      · exact hjk (hji.trans hki.symm)
      · simp only [if_pos hji, if_neg hki] at e e'
        exact hold k hk hki b e' e.1
    · by_cases hki : k = i
      · simp only [if_neg hji, if_pos hki] at e e'
        exact hold j hj hji b e e'.1
      · simp only [if_neg hji, if_neg hki] at e e'
        exact h3 j k hj hk hjk b e e'
  · by_cases hji : j = i
    · simp only [if_pos hji] at e
      exact hnob k hk e.1
    · simp only [if_neg hji] at e
      exact h4 j k hj hk e
  · by_cases hji : j = i
    · simp only [if_pos hji] at e
      exact e.2
    · simp only [if_neg hji] at e
      intro en
      cases hb : bx b with
      | none => exact h5 j hj b e hb
      | some v =>
        have := k3 b v hb (fun e' => h3 j i hj hi hji b e e')
        rw [this] at en; cases en
  · by_cases hji : j = i
    · simp only [if_pos hji] at e
      rcases k4 lb e.1 with k | k
      · exact h8 i hi k
      · rw [h6] at k; cases k
    · simp only [if_neg hji] at e
      exact h8 j hj e
/-- What a worker said. -/
theorem CrewOn.said (h : CrewOn W w E B p bs bb t n g lb x) {i : Nat} (hi : i < n) {l : List (Int × Int)} (hl : (x i).2.said = l) (h0 : 0 < l.length) :
    ∃ sb cap, W.cell? ⟨g i, 4, none⟩ = some (.slice (some ⟨sb, 0, none⟩) l.length cap) ∧ g i < W.heap.size ∧ sb < W.heap.size ∧ l.length ≤ cap ∧ ∀ k, ∀ hk : k < l.length, W.cell? ⟨sb, k * 2, none⟩ = some (.int .i64 l[k].1) ∧ W.cell? ⟨sb, k * 2 + 1, none⟩ = some (.int .i64 l[k].2) := by
  obtain ⟨r, ob, oc, O, bx, h1, h2, h3, h4, h5, _⟩ := h
  obtain ⟨jp, sv, k1, k2, k3, k4, k5, k6, k7, k8, k9⟩ := h2 i hi
  rw [hl] at k8
  rcases k8 with ⟨_, e⟩ | ⟨sb, cap, cur, rfl, q1, q2, q3, q4, q5, q6⟩
  · rw [e] at h0; exact absurd h0 (by decide)
  · have hb := h1.get k1
    have hs := h1.get q2
    refine ⟨sb, cap, hb.cell 4, hb.lt, hs.lt, q3, fun k hk => ?_⟩
    have key : ∀ j, j < 2 → W.cell? ⟨sb, k * 2 + j, none⟩ = (anc l[k])[j]? := fun j hj => by
      have e1 := Sv.flat_at (c := anc) (k := 2) (fun _ => rfl) l k j hk hj
      rw [← q6] at e1
      rw [BlkW.cell hs, ← Array.getElem?_toList, ← e1, List.getElem?_take_of_lt (by omega)]
    exact ⟨key 0 (by omega), key 1 (by omega)⟩
end
end Go.Proofs.YtihjklimcchkhaaGreatDoor
