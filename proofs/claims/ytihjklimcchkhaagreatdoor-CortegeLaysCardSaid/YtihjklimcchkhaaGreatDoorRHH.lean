/- rite: its rows (what was heard, what may be freed, what is noted); note. A template (made by gen_XRh.py). -/
/- rite: listen, loose, release, strike. A template (made by gen_XRi.py). -/
import Derived.Test.YtihjklimcchkhaaGreatDoorVx
import Derived.Test.YtihjklimcchkhaaGreatDoorFA
namespace Go.Proofs.YtihjklimcchkhaaGreatDoor
open Go.RowKit Go.Extern.Stop Go.Stop Go.Extern Go.Sort

/-! ### the rows -/
/-- A slice of notes that nobody writes: what may be freed. -/
def FreeR (w : World) (B : Nat) (nv v : Value) (xs : List Nt) : Prop :=
  ((∃ ao cap, v = .slice ao 0 cap) ∧ xs = []) ∨ ∃ b off cap cs, v = .slice (some ⟨b, off, none⟩) xs.length cap ∧ xs.length ≤ cap ∧ B ≤ b ∧ BlkW w b 74 cs ∧ nv.ownBlock ≠ some b ∧ ∀ i, ∀ h : i < xs.length, w.rangeAt b (off + i * 7) (Sv.nc xs[i])
/-- A rite with its rows, in the blocks K. -/
structure RiteP (w : World) (B r : Nat) (sv fv nv : Value) (m : Rt) (K : Nat → Prop) : Prop where
  at_ : RtAt w r sv fv nv m
  said : w.ownsRow B 34 5 sv m.st.said.length (Sv.flat Sv.wc m.st.said)
  notes : w.ownsRow B 74 7 nv m.notes.length (Sv.flat Sv.nc m.notes)
  free : FreeR w B nv fv m.st.free
  kr : K r
  ks : ∀ b, sv.ownBlock = some b → K b
  kn : ∀ b, nv.ownBlock = some b → K b
  kf : m.st.free = [] ∨ ∀ b, fv.ownBlock = some b → K b
  low : ∀ b, K b → B ≤ b ∧ b < w.heap.size
def RiteIs (w : World) (B r : Nat) (m : Rt) (K : Nat → Prop) : Prop := ∃ sv fv nv, RiteP w B r sv fv nv m K
/-- What a call leaves. -/
def RStep (w : World) (B r : Nat) (K : Nat → Prop) (m : Rt) (w' : World) : Prop := ∃ K', RiteIs w' B r m K' ∧ Off K w w' ∧ ∀ b, K' b → K b ∨ w.heap.size ≤ b
def RPost (w : World) (B r : Nat) (K : Nat → Prop) (m : Rt) (e : Ending) (w' : World) : Prop := e = .returned (.tuple #[]) ∧ Hid (RStep w B r K m w')
section
variable {w w' : World} {B r : Nat} {sv fv nv : Value} {m : Rt} {K : Nat → Prop}
theorem own_off {base n : Nat} {e : TypeId} {size : Nat} {v : Value} {xs : List Value} {K' : Nat → Prop} (h : w.ownsRow base e size v n xs) (ho : Off K' w w') (hn : ∀ b, v.ownBlock = some b → ¬ K' b) : w'.ownsRow base e size v n xs :=
  Sv.own_block h (fun g hg => ho.block g (h.lt g hg).2 (hn g hg))
theorem FreeR.off {v : Value} {xs : List Nt} {K' : Nat → Prop} (h : FreeR w B nv v xs) (ho : Off K' w w') (hn : xs = [] ∨ ∀ b, v.ownBlock = some b → ¬ K' b) : FreeR w' B nv v xs := by
  rcases h with h | ⟨b, off, cap, cs, e, h1, h2, h3, h4, h5⟩
  · exact .inl h
  · rcases hn with hx | hn
    · subst hx
      exact .inl ⟨⟨_, _, e⟩, rfl⟩
    · have hb := ho.block b h3.lt (hn b (by rw [e]; rfl))
      exact .inr ⟨b, off, cap, cs, e, h1, h2, hb.trans h3, h4, fun i hi => range_block (h5 i hi) hb⟩
theorem RiteP.off {K' : Nat → Prop} (h : RiteP w B r sv fv nv m K) (ho : Off K' w w') (hn : ∀ b, K b → ¬ K' b) : RiteP w' B r sv fv nv m K :=
  ⟨(ho.block r (BlkW.lt h.at_) (hn r h.kr)).trans h.at_, own_off h.said ho (fun b e => hn b (h.ks b e)), own_off h.notes ho (fun b e => hn b (h.kn b e)), h.free.off ho (h.kf.imp id fun k b e => hn b (k b e)), h.kr, h.ks, h.kn, h.kf, fun b hb => ⟨(h.low b hb).1, Nat.lt_of_lt_of_le (h.low b hb).2 ho.size⟩⟩
theorem RiteP.below (h : RiteP w B r sv fv nv m K) (hb : Below w.heap.size w w') : RiteP w' B r sv fv nv m K := h.off (Off.of_below (K := fun _ => False) hb) (fun _ _ e => e)
theorem RiteP.ne (h : RiteP w B r sv fv nv m K) : sv.ownBlock ≠ some r ∧ nv.ownBlock ≠ some r ∧ (∀ b, sv.ownBlock = some b → nv.ownBlock ≠ some b) := by
  refine ⟨own_ne h.said h.at_ (by decide), own_ne h.notes h.at_ (by decide), fun b e => ?_⟩
  rcases h.said.2 with ⟨rfl, _⟩ | ⟨g, cap, cur, rfl, _, hh, _⟩
  · simp [Value.ownBlock] at e
  · have : g = b := by simpa [Value.ownBlock] using e
    subst this
    exact own_ne (t := 34) (cs := cur) h.notes hh (by decide)
/-- A step that turned the own block alone. -/
theorem RiteP.only {sv' fv' : Value} {m' : Rt} (h : RiteP w B r sv fv nv m K) (hr : RtAt w' r sv' fv' nv m') (ho : Only r w w')
    (hs : (sv' = sv ∧ m'.st.said = m.st.said) ∨ (sv' = nilS ∧ m'.st.said = [])) (hf : (fv' = fv ∧ m'.st.free = m.st.free) ∨ (fv' = nilS ∧ m'.st.free = [])) (hn : m'.notes = m.notes) : RiteP w' B r sv' fv' nv m' K := by
  have n := h.ne
  refine ⟨hr, ?_, by rw [hn]; exact own_off h.notes ho (fun b e k => n.2.1 (k ▸ e)), ?_, h.kr, ?_, h.kn, ?_, fun b hb => ⟨(h.low b hb).1, Nat.lt_of_lt_of_le (h.low b hb).2 ho.size⟩⟩
  · rcases hs with ⟨rfl, e⟩ | ⟨rfl, e⟩
    · rw [e]; exact own_off h.said ho (fun b e k => n.1 (k ▸ e))
    · rw [e]; exact World.ownsRow_nil _ _ _ _
  · rcases hf with ⟨rfl, e⟩ | ⟨rfl, e⟩
    · rw [e]
      refine h.free.off ho ?_
      rcases h.free with ⟨_, e0⟩ | ⟨b, off, cap, cs, ev, _, _, hb, _, _⟩
      · exact .inl e0
      · refine .inr fun b' e' k => ?_
        rw [ev] at e'
        have e' : b = b' := by simpa [Value.ownBlock] using e'
        subst e'; subst k
        exact BlkW.ne_ hb h.at_ (by decide) rfl
    · rw [e]; exact .inl ⟨⟨_, _, rfl⟩, rfl⟩
  · rcases hs with ⟨rfl, _⟩ | ⟨rfl, _⟩
    · exact h.ks
    · intro b e; simp [nilS, Value.ownBlock] at e
  · rcases hf with ⟨rfl, e⟩ | ⟨rfl, e⟩
    · rw [e]; exact h.kf
    · exact .inl e
theorem RiteP.step_only {sv' fv' : Value} {m' : Rt} (h : RiteP w B r sv fv nv m K) (hr : RtAt w' r sv' fv' nv m') (ho : Only r w w')
    (hs : (sv' = sv ∧ m'.st.said = m.st.said) ∨ (sv' = nilS ∧ m'.st.said = [])) (hf : (fv' = fv ∧ m'.st.free = m.st.free) ∨ (fv' = nilS ∧ m'.st.free = [])) (hn : m'.notes = m.notes) : RStep w B r K m' w' :=
  ⟨K, ⟨sv', fv', nv, h.only hr ho hs hf hn⟩, ⟨ho.os, ho.tape, ho.output, ho.size, fun j hj hk => ho.block j hj (fun e => hk (by subst e; exact h.kr))⟩, fun _ e => .inl e⟩
theorem RStep.trans {w2 : World} {m2 : Rt} {K' : Nat → Prop} (ho : Off K w w') (hk : ∀ b, K' b → K b ∨ w.heap.size ≤ b) (h : RStep w' B r K' m2 w2) : RStep w B r K m2 w2 := by
  obtain ⟨K2, h1, h2, h3⟩ := h
  refine ⟨K2, h1, ho.trans h2 (fun j hj e => ?_), fun b e => ?_⟩
  · rcases hk j e with k | k
    · exact k
    · omega
  · rcases h3 b e with k | k
    · exact hk b k
    · exact .inr (Nat.le_trans ho.size k)
theorem RStep.then_ {w2 : World} {m2 : Rt} (h : RStep w B r K m w') (hk : ∀ K', RiteIs w' B r m K' → RStep w' B r K' m2 w2) : RStep w B r K m2 w2 := by
  obtain ⟨K', h1, h2, h3⟩ := h
  exact RStep.trans h2 h3 (hk K' h1)
theorem RStep.below {w2 : World} (hb : Below w.heap.size w w') (h : RStep w' B r K m w2) : RStep w B r K m w2 := RStep.trans (Off.of_below hb) (fun _ e => .inl e) h
theorem grown_cell {row : Option Nat} {b o : Nat} {v : Value} (hg : w.grownBy w' row) (hn : row ≠ some b) (h : w.cell? ⟨b, o, none⟩ = some v) : w'.cell? ⟨b, o, none⟩ = some v := by
  rw [World.cell?_of_block (w := w) (a := ⟨b, o, none⟩) (hg.block b (lt_of_cell h) (fun e => hn e.symm))]; exact h
theorem set_cell_ne {b o o' : Nat} {u v : Value} (hn : o ≠ o') (h : w.cell? ⟨b, o, none⟩ = some v) : (w.setCell ⟨b, o', none⟩ u).cell? ⟨b, o, none⟩ = some v := by
  rw [← h]
  apply World.cell?_setCell_other
  exact fun e => hn (congrArg Addr.off e).symm
/-- A row has grown: the rite's own cell of it is stored anew. -/
theorem FreeR.grow {u1 : World} {v v1 : Value} {xs : List Nt} (h : FreeR w B nv v xs) (hr : ∀ cs b, BlkW w b 74 cs → b ≠ r) (hg : Off (fun j => nv.ownBlock = some j ∨ j = r) w u1) (ha : v1.ownBlock = nv.ownBlock ∨ v1.ownBlock = some w.heap.size) : FreeR u1 B v1 v xs := by
  rcases h with h | ⟨b, off, cap, cs, e, h1, h2, h3, h4, h5⟩
  · exact .inl h
  · have hb := hg.block b h3.lt (by rintro (k | k); exact h4 k; exact hr _ _ h3 k)
    refine .inr ⟨b, off, cap, cs, e, h1, h2, hb.trans h3, ?_, fun i hi => range_block (h5 i hi) hb⟩
    rcases ha with ha | ha
    · rw [ha]; exact h4
    · rw [ha]; intro k; injection k with k; have := h3.lt; omega
theorem RiteP.noted {u1 : World} (h : RiteP w B r sv fv nv m K) (hg : w.grownBy u1 nv.ownBlock) (n : Nt) {v1 : Value} (ho : u1.ownsRow B 74 7 v1 (m.notes.length + [n].length) (Sv.flat Sv.nc m.notes ++ Sv.flat Sv.nc [n])) (ha : v1.ownBlock = nv.ownBlock ∨ v1.ownBlock = some w.heap.size) :
    RStep w B r K { m with notes := m.notes ++ [n] } (u1.setCell ⟨r, 105, none⟩ v1) := by
  have hne := h.ne
  have O1 : Off (fun j => nv.ownBlock = some j) w u1 := (Off.refl _ w).grown hg (fun k e => .inl e)
  have RU : RtAt u1 r sv fv nv m := (O1.block r (BlkW.lt h.at_) hne.2.1).trans h.at_
  have RV : RtAt (u1.setCell ⟨r, 105, none⟩ v1) r sv fv v1 { m with notes := m.notes ++ [n] } := RU.set 105 v1 (by kernel_rfl)
  have O2 : Off (fun j => j = r) u1 (u1.setCell ⟨r, 105, none⟩ v1) := (Off.refl (fun j => j = r) u1).set (.inl rfl) 105 v1
  have O3 : Off (fun j => nv.ownBlock = some j ∨ j = r) w (u1.setCell ⟨r, 105, none⟩ v1) :=
    (show Off (fun j => nv.ownBlock = some j ∨ j = r) w u1 from ⟨O1.os, O1.tape, O1.output, O1.size, fun j hj hn => O1.block j hj (fun e => hn (.inl e))⟩).trans O2 (fun _ _ e => .inr e)
  refine ⟨fun b => K b ∨ v1.ownBlock = some b, ⟨sv, fv, v1, RV, own_off h.said O3 (fun b e k => ?_), ?_, ?_, .inl h.kr, fun b e => .inl (h.ks b e), fun b e => .inr e, h.kf.imp id (fun k b e => .inl (k b e)), fun b hb => ?_⟩, ⟨O3.os, O3.tape, O3.output, O3.size, fun j hj hn => O3.block j hj ?_⟩, fun b hb => ?_⟩
  · rcases k with k | k
    · exact hne.2.2 b e k
    · exact hne.1 (k ▸ e)
  · have h1 := own_off ho O2 (fun b e k => own_ne ho RU (by decide) (k ▸ e))
    simpa [Sv.flat_app] using h1
  · exact h.free.grow (r := r) (fun cs b hb e => by subst e; exact BlkW.ne_ hb h.at_ (by decide) rfl) O3 ha
  · rcases hb with hb | hb
    · exact ⟨(h.low b hb).1, Nat.lt_of_lt_of_le (h.low b hb).2 O3.size⟩
    · exact ⟨(ho.lt b hb).1, Nat.lt_of_lt_of_le (ho.lt b hb).2 O2.size⟩
  · rintro (k | k)
    · exact hn (h.kn j k)
    · subst k; exact hn h.kr
  · rcases hb with hb | hb
    · exact .inl hb
    · rcases ha with e | e
      · rw [e] at hb; exact .inl (h.kn b hb)
      · rw [e] at hb; injection hb with hb; exact .inr (by omega)
theorem RiteP.heardP {u1 : World} (h : RiteP w B r sv fv nv m K) (hg : w.grownBy u1 sv.ownBlock) (n : Wd) {v1 : Value} (ho : u1.ownsRow B 34 5 v1 (m.st.said.length + [n].length) (Sv.flat Sv.wc m.st.said ++ Sv.flat Sv.wc [n])) (ha : v1.ownBlock = sv.ownBlock ∨ v1.ownBlock = some w.heap.size) :
    ∃ K', RiteP (u1.setCell ⟨r, 50, none⟩ v1) B r v1 fv nv { m with st := { m.st with said := m.st.said ++ [n] } } K' ∧ Off K w (u1.setCell ⟨r, 50, none⟩ v1) ∧ ∀ b, K' b → K b ∨ w.heap.size ≤ b := by
  have hne := h.ne
  have O1 : Off (fun j => sv.ownBlock = some j) w u1 := (Off.refl _ w).grown hg (fun k e => .inl e)
  have RU : RtAt u1 r sv fv nv m := (O1.block r (BlkW.lt h.at_) hne.1).trans h.at_
  have RV : RtAt (u1.setCell ⟨r, 50, none⟩ v1) r v1 fv nv { m with st := { m.st with said := m.st.said ++ [n] } } := RU.set 50 v1 (by kernel_rfl)
  have O2 : Off (fun j => j = r) u1 (u1.setCell ⟨r, 50, none⟩ v1) := (Off.refl (fun j => j = r) u1).set (.inl rfl) 50 v1
  have O3 : Off (fun j => sv.ownBlock = some j ∨ j = r) w (u1.setCell ⟨r, 50, none⟩ v1) :=
    (show Off (fun j => sv.ownBlock = some j ∨ j = r) w u1 from ⟨O1.os, O1.tape, O1.output, O1.size, fun j hj hn => O1.block j hj (fun e => hn (.inl e))⟩).trans O2 (fun _ _ e => .inr e)
  have hfb : m.st.free = [] ∨ ∀ b, fv.ownBlock = some b → ¬ (sv.ownBlock = some b ∨ b = r) := by
    rcases h.free with ⟨_, e⟩ | ⟨b, off, cap, cs, e, _, _, h3, _, _⟩
    · exact .inl e
    · refine .inr fun b' e' => ?_
      rw [e] at e'
      have e' : b = b' := by simpa [Value.ownBlock] using e'
      subst e'
      rintro (k | k)
      · exact own_ne h.said h3 (by decide) k
      · subst k; exact BlkW.ne_ h3 h.at_ (by decide) rfl
  refine ⟨fun b => K b ∨ v1.ownBlock = some b, ⟨RV, ?_, own_off h.notes O3 (fun b e k => ?_), h.free.off O3 hfb, .inl h.kr, fun b e => .inr e, fun b e => .inl (h.kn b e), h.kf.imp id (fun k b e => .inl (k b e)), fun b hb => ?_⟩, ⟨O3.os, O3.tape, O3.output, O3.size, fun j hj hn => O3.block j hj ?_⟩, fun b hb => ?_⟩
  · have h1 := own_off ho O2 (fun b e k => own_ne ho RU (by decide) (k ▸ e))
    simpa [Sv.flat_app] using h1
  · rcases k with k | k
    · exact hne.2.2 b k e
    · exact hne.2.1 (k ▸ e)
  · rcases hb with hb | hb
    · exact ⟨(h.low b hb).1, Nat.lt_of_lt_of_le (h.low b hb).2 O3.size⟩
    · exact ⟨(ho.lt b hb).1, Nat.lt_of_lt_of_le (ho.lt b hb).2 O2.size⟩
  · rintro (k | k)
    · exact hn (h.ks j k)
    · subst k; exact hn h.kr
  · rcases hb with hb | hb
    · exact .inl hb
    · rcases ha with e | e
      · rw [e] at hb; exact .inl (h.ks b hb)
      · rw [e] at hb; injection hb with hb; exact .inr (by omega)
/-! ### note -/
theorem RtAt.nvc (h : RtAt w r sv fv nv m) : w.cell? ⟨r, 105, none⟩ = some nv := h.cell 105 (by kernel_rfl)
set_option maxRecDepth 100000 in
set_option maxHeartbeats 2000000 in
theorem note_any (h : RiteP w B r sv fv nv m K) (hl : m.notes.length ≤ 1000) :
    Calls Tryz.prog 123 #[.pointer (some ⟨r, 0, none⟩)] w (RPost w B r K m.note) := by
  obtain ⟨i5, hi5, hz5, hs5, hy5⟩ := info_parts Sv.infoNote
  have HP := Lib.hid h
  have n105 := h.at_.nvc
  have f105 := h.at_.frozen 105
  obtain ⟨q0, q1, q2, q3, q4⟩ := h.at_.old5
  have s3 := (h.at_.seen5).2.2.2.1
  have c3 := (h.at_.clock5).2.2.2.1
  have hz := BlkW.lt h.at_
  have hne := h.ne.2.1
  have hBz : B ≤ w.heap.size := Nat.le_of_lt (Nat.lt_of_le_of_lt (h.low r h.kr).1 (h.low r h.kr).2)
  have N0 := Lib.hid h.notes
  obtain ⟨L, hL⟩ : ∃ L, L = m.notes.length := ⟨_, rfl⟩
  have HL := Lib.hid hL
  rw [← hL] at N0 hl
  have N1 := Lib.hid (show w.drew.ownsRow B 74 7 nv L (Sv.flat Sv.nc m.notes) from N0.out)
  clear h hL
  go_enter Tryz.func123, Tryz.ntmps123
  go_upto_region 0 with fail
  refine wp_region_noPanic ?_
  refine wp_region_held_drew (S := (fun w' => w'.cell? ⟨r, 11, none⟩ = some (.int .i64 m.st.call.old.slot) ∧ w'.cell? ⟨r, 12, none⟩ = some (.int .i64 m.st.call.old.gen) ∧ w'.cell? ⟨r, 13, none⟩ = some (.int .i64 m.st.call.old.tag) ∧ w'.cell? ⟨r, 14, none⟩ = some (.int .i64 m.st.call.old.num) ∧ w'.cell? ⟨r, 15, none⟩ = some (.bool m.st.call.old.mark) ∧ w'.cell? ⟨r, 43, none⟩ = some (.int .i64 m.st.seen.num) ∧ w'.cell? ⟨r, 48, none⟩ = some (.int .i64 m.st.clock.num))) (by kernel_rfl) ?_ (fun hHeld => ?_)
  · (try dsimp only)
    (first
      | go_keep
      | (go_split_ands
         (repeat' apply And.intro) <;> first | exact keep_cell hb (by assumption) | exact grown_cell hg1 hne (by assumption) | exact set_cell_ne (by decide) (by assumption)))
  refine wpAnyH_take (i := 0) (v := ?_) rfl (by kernel_rfl) (by kernel_rfl) (by kernel_rfl) (fun _ _ _ h => h) (Or.inl ⟨by rfl, ?_⟩) (by assumption) ?_
  rotate_left
  · (intro w hSw; (try dsimp only at hSw); go_simp; (try with_reducible rfl))
  try simp only [Act.put, List.getElem_toArray, List.getElem_cons_succ, List.getElem_cons_zero, List.setIfInBounds_toArray, List.set_cons_zero, List.set_cons_succ]
  refine wpAnyH_take (i := 1) (v := ?_) rfl (by kernel_rfl) (by kernel_rfl) (by kernel_rfl) (fun _ _ _ h => h) (Or.inl ⟨by rfl, ?_⟩) (by assumption) ?_
  rotate_left
  · (intro w hSw; (try dsimp only at hSw); go_simp; (try with_reducible rfl))
  try simp only [Act.put, List.getElem_toArray, List.getElem_cons_succ, List.getElem_cons_zero, List.setIfInBounds_toArray, List.set_cons_zero, List.set_cons_succ]
  refine wpAnyH_take (i := 2) (v := ?_) rfl (by kernel_rfl) (by kernel_rfl) (by kernel_rfl) (fun _ _ _ h => h) (Or.inl ⟨by rfl, ?_⟩) (by assumption) ?_
  rotate_left
  · (intro w hSw; (try dsimp only at hSw); go_simp; (try with_reducible rfl))
  try simp only [Act.put, List.getElem_toArray, List.getElem_cons_succ, List.getElem_cons_zero, List.setIfInBounds_toArray, List.set_cons_zero, List.set_cons_succ]
  refine wpAnyH_take (i := 3) (v := ?_) rfl (by kernel_rfl) (by kernel_rfl) (by kernel_rfl) (fun _ _ _ h => h) (Or.inl ⟨by rfl, ?_⟩) (by assumption) ?_
  rotate_left
  · (intro w hSw; (try dsimp only at hSw); go_simp; (try with_reducible rfl))
  try simp only [Act.put, List.getElem_toArray, List.getElem_cons_succ, List.getElem_cons_zero, List.setIfInBounds_toArray, List.set_cons_zero, List.set_cons_succ]
  refine wpAnyH_take (i := 5) (v := ?_) rfl (by kernel_rfl) (by kernel_rfl) (by kernel_rfl) (fun _ _ _ h => h) (Or.inl ⟨by rfl, ?_⟩) (by assumption) ?_
  rotate_left
  · (intro w hSw; (try dsimp only at hSw); go_simp; (try with_reducible rfl))
  try simp only [Act.put, List.getElem_toArray, List.getElem_cons_succ, List.getElem_cons_zero, List.setIfInBounds_toArray, List.set_cons_zero, List.set_cons_succ]
  refine wpAnyH_take (i := 6) (v := ?_) rfl (by kernel_rfl) (by kernel_rfl) (by kernel_rfl) (fun _ _ _ h => h) (Or.inl ⟨by rfl, ?_⟩) (by assumption) ?_
  rotate_left
  · (intro w hSw; (try dsimp only at hSw); go_simp; (try with_reducible rfl))
  try simp only [Act.put, List.getElem_toArray, List.getElem_cons_succ, List.getElem_cons_zero, List.setIfInBounds_toArray, List.set_cons_zero, List.set_cons_succ]
  refine wpAnyH_take (i := 7) (v := ?_) rfl (by kernel_rfl) (by kernel_rfl) (by kernel_rfl) (fun _ _ _ h => h) (Or.inl ⟨by rfl, ?_⟩) (by assumption) ?_
  rotate_left
  · (intro w hSw; (try dsimp only at hSw); go_simp; (try with_reducible rfl))
  try simp only [Act.put, List.getElem_toArray, List.getElem_cons_succ, List.getElem_cons_zero, List.setIfInBounds_toArray, List.set_cons_zero, List.set_cons_succ]
  refine wpAnyH_take (i := 8) (v := ?_) rfl (by kernel_rfl) (by kernel_rfl) (by kernel_rfl) (fun _ _ _ h => h) (Or.inl ⟨by rfl, ?_⟩) (by assumption) ?_
  rotate_left
  · (intro w hSw; (try dsimp only at hSw); go_simp; (try with_reducible rfl))
  try simp only [Act.put, List.getElem_toArray, List.getElem_cons_succ, List.getElem_cons_zero, List.setIfInBounds_toArray, List.set_cons_zero, List.set_cons_succ]
  refine wpAnyH_take (i := 9) (v := ?_) rfl (by kernel_rfl) (by kernel_rfl) (by kernel_rfl) (fun _ _ _ h => h) (Or.inl ⟨by rfl, ?_⟩) (by assumption) ?_
  rotate_left
  · (intro w hSw; (try dsimp only at hSw); go_simp; (try with_reducible rfl))
  try simp only [Act.put, List.getElem_toArray, List.getElem_cons_succ, List.getElem_cons_zero, List.setIfInBounds_toArray, List.set_cons_zero, List.set_cons_succ]
  refine wpAnyH_take (i := 10) (v := ?_) rfl (by kernel_rfl) (by kernel_rfl) (by kernel_rfl) (fun _ _ _ h => h) (Or.inl ⟨by rfl, ?_⟩) (by assumption) ?_
  rotate_left
  · (intro w hSw; (try dsimp only at hSw); go_simp; (try with_reducible rfl))
  try simp only [Act.put, List.getElem_toArray, List.getElem_cons_succ, List.getElem_cons_zero, List.setIfInBounds_toArray, List.set_cons_zero, List.set_cons_succ]
  refine wpAnyH_take (i := 12) (v := ?_) rfl (by kernel_rfl) (by kernel_rfl) (by kernel_rfl) (fun _ _ _ h => h) (Or.inl ⟨by rfl, ?_⟩) (by assumption) ?_
  rotate_left
  · (intro w hSw; (try dsimp only at hSw); go_simp; (try with_reducible rfl))
  try simp only [Act.put, List.getElem_toArray, List.getElem_cons_succ, List.getElem_cons_zero, List.setIfInBounds_toArray, List.set_cons_zero, List.set_cons_succ]
  refine wpAnyH_take (i := 13) (v := ?_) rfl (by kernel_rfl) (by kernel_rfl) (by kernel_rfl) (fun _ _ _ h => h) (Or.inl ⟨by rfl, ?_⟩) (by assumption) ?_
  rotate_left
  · (intro w hSw; (try dsimp only at hSw); go_simp; (try with_reducible rfl))
  try simp only [Act.put, List.getElem_toArray, List.getElem_cons_succ, List.getElem_cons_zero, List.setIfInBounds_toArray, List.set_cons_zero, List.set_cons_succ]
  refine wpAnyH_take (i := 14) (v := ?_) rfl (by kernel_rfl) (by kernel_rfl) (by kernel_rfl) (fun _ _ _ h => h) (Or.inl ⟨by rfl, ?_⟩) (by assumption) ?_
  rotate_left
  · (intro w hSw; (try dsimp only at hSw); go_simp; (try with_reducible rfl))
  try simp only [Act.put, List.getElem_toArray, List.getElem_cons_succ, List.getElem_cons_zero, List.setIfInBounds_toArray, List.set_cons_zero, List.set_cons_succ]
  refine wpAnyH_take (i := 15) (v := ?_) rfl (by kernel_rfl) (by kernel_rfl) (by kernel_rfl) (fun _ _ _ h => h) (Or.inl ⟨by rfl, ?_⟩) (by assumption) ?_
  rotate_left
  · (intro w hSw; (try dsimp only at hSw); go_simp; (try with_reducible rfl))
  try simp only [Act.put, List.getElem_toArray, List.getElem_cons_succ, List.getElem_cons_zero, List.setIfInBounds_toArray, List.set_cons_zero, List.set_cons_succ]
  refine wpAnyH_take (i := 16) (v := ?_) rfl (by kernel_rfl) (by kernel_rfl) (by kernel_rfl) (fun _ _ _ h => h) (Or.inl ⟨by rfl, ?_⟩) (by assumption) ?_
  rotate_left
  · (intro w hSw; (try dsimp only at hSw); go_simp; (try with_reducible rfl))
  try simp only [Act.put, List.getElem_toArray, List.getElem_cons_succ, List.getElem_cons_zero, List.setIfInBounds_toArray, List.set_cons_zero, List.set_cons_succ]
  refine wpAnyH_take (i := 17) (v := ?_) rfl (by kernel_rfl) (by kernel_rfl) (by kernel_rfl) (fun _ _ _ h => h) (Or.inl ⟨by rfl, ?_⟩) (by assumption) ?_
  rotate_left
  · (intro w hSw; (try dsimp only at hSw); go_simp; (try with_reducible rfl))
  try simp only [Act.put, List.getElem_toArray, List.getElem_cons_succ, List.getElem_cons_zero, List.setIfInBounds_toArray, List.set_cons_zero, List.set_cons_succ]
  refine wpAnyH_take (i := 18) (v := ?_) rfl (by kernel_rfl) (by kernel_rfl) (by kernel_rfl) (fun _ _ _ h => h) (Or.inl ⟨by rfl, ?_⟩) (by assumption) ?_
  rotate_left
  · (intro w hSw; (try dsimp only at hSw); go_simp; (try with_reducible rfl))
  try simp only [Act.put, List.getElem_toArray, List.getElem_cons_succ, List.getElem_cons_zero, List.setIfInBounds_toArray, List.set_cons_zero, List.set_cons_succ]
  refine wpAnyH_take (i := 19) (v := ?_) rfl (by kernel_rfl) (by kernel_rfl) (by kernel_rfl) (fun _ _ _ h => h) (Or.inl ⟨by rfl, ?_⟩) (by assumption) ?_
  rotate_left
  · (intro w hSw; (try dsimp only at hSw); go_simp; (try with_reducible rfl))
  try simp only [Act.put, List.getElem_toArray, List.getElem_cons_succ, List.getElem_cons_zero, List.setIfInBounds_toArray, List.set_cons_zero, List.set_cons_succ]
  refine wpAnyH_take (i := 20) (v := ?_) rfl (by kernel_rfl) (by kernel_rfl) (by kernel_rfl) (fun _ _ _ h => h) (Or.inl ⟨by rfl, ?_⟩) (by assumption) ?_
  rotate_left
  · (intro w hSw; (try dsimp only at hSw); go_simp; (try with_reducible rfl))
  try simp only [Act.put, List.getElem_toArray, List.getElem_cons_succ, List.getElem_cons_zero, List.setIfInBounds_toArray, List.set_cons_zero, List.set_cons_succ]
  refine wpAnyH_take (i := 21) (v := ?_) rfl (by kernel_rfl) (by kernel_rfl) (by kernel_rfl) (fun _ _ _ h => h) (Or.inl ⟨by rfl, ?_⟩) (by assumption) ?_
  rotate_left
  · (intro w hSw; (try dsimp only at hSw); go_simp; (try with_reducible rfl))
  try simp only [Act.put, List.getElem_toArray, List.getElem_cons_succ, List.getElem_cons_zero, List.setIfInBounds_toArray, List.set_cons_zero, List.set_cons_succ]
  refine wpAnyH_take (i := 22) (v := ?_) rfl (by kernel_rfl) (by kernel_rfl) (by kernel_rfl) (fun _ _ _ h => h) (Or.inl ⟨by rfl, ?_⟩) (by assumption) ?_
  rotate_left
  · (intro w hSw; (try dsimp only at hSw); go_simp; (try with_reducible rfl))
  try simp only [Act.put, List.getElem_toArray, List.getElem_cons_succ, List.getElem_cons_zero, List.setIfInBounds_toArray, List.set_cons_zero, List.set_cons_succ]
  refine wpAnyH_take (i := 23) (v := ?_) rfl (by kernel_rfl) (by kernel_rfl) (by kernel_rfl) (fun _ _ _ h => h) (Or.inl ⟨by rfl, ?_⟩) (by assumption) ?_
  rotate_left
  · (intro w hSw; (try dsimp only at hSw); go_simp; (try with_reducible rfl))
  try simp only [Act.put, List.getElem_toArray, List.getElem_cons_succ, List.getElem_cons_zero, List.setIfInBounds_toArray, List.set_cons_zero, List.set_cons_succ]
  refine wpAnyH_ready (rs := [4, 11]) (by kernel_rfl) (by simp) ?_
  refine AllReadyH.cons rfl (fun K2 hK => ?_) (AllReadyH.cons rfl (fun K2 hK => ?_) (AllReadyH.nil))
  rw [if_pos (by rfl)]
  go_simp
  refine hK.out _ _ ?_ (fun hHeld => ?_)
  · (try dsimp only)
    (first
      | go_keep
      | (go_split_ands
         (repeat' apply And.intro) <;> first | exact keep_cell hb (by assumption) | exact grown_cell hg1 hne (by assumption) | exact set_cell_ne (by decide) (by assumption)))
  clear hK K2
  try simp only [Act.put, List.getElem_toArray, List.getElem_cons_succ, List.getElem_cons_zero, List.setIfInBounds_toArray, List.set_cons_zero, List.set_cons_succ]
  refine wpAnyH_ready (rs := [11]) (by kernel_rfl) (by simp) ?_
  refine AllReadyH.cons rfl (fun K2 hK => ?_) AllReadyH.nil
  rw [if_pos (by rfl)]
  go_simp
  (first
    | (go_at_call 45; refine (Ref_any _ _ _ _ _ _).mono ?_; rintro e w2 ⟨rfl, hb⟩; have g105 := keep_cell hb n105; have h105 : w2.frozen? ⟨r, 105, none⟩ = false := (hb.frozen (p := ⟨r, 105, none⟩) hz).trans f105; have hz2 := Nat.lt_of_lt_of_le hz hb.size; have HR2 := Lib.hid (RtAt.below HP.out.at_.drew hb); have N2 := Lib.hid (own_off N1.out (Off.of_below (K := fun _ => False) hb) (fun _ _ e => e)))
    | ((refine Sv.step_append_row _ Sv.nc_len (by decide) Sv.nc_one rfl (.tmp 6) (.tmp 27) 42 rfl B 74 i5 _ 56 Tryz.underlying42 hi5 hz5 hs5 hy5 rfl nv L _ (by rfl) (N2.out.alloc _) _ [⟨m.st.call.old.ref, m.st.seen.num, m.st.clock.num⟩] (by rfl) (.inr ⟨w2.heap.size, 0, 1, rfl, by simp, Nat.le_refl 1, fun i hi j v hv => ?ro⟩) (by simp only [maxLen]; simp; omega) (by simp; omega) (by simp; have := hb.size; simp at this; omega) ?_); (case ro => (obtain rfl : i = 0 := by simp at hi; omega); rw [show 0 + 0 * 7 + j = j by omega]; exact ((BlkW.new _ _ _).cell j).trans (by rw [List.getElem?_toArray]; exact hv)); rintro v1 u1 ⟨ho1, hg1, ha1, hl1⟩; obtain ⟨ao1, cp1, ev1⟩ := Sv.own_slice ho1; subst ev1; have RX := RtAt.below HR2.out (below_alloc (Below.refl w2.heap.size w2) (.cells #[.int .i64 m.st.call.old.slot, .int .i64 m.st.call.old.gen, .int .i64 0, .int .i64 0, .bool false, .int .i64 m.st.seen.num, .int .i64 m.st.clock.num] 74)); have RU : RtAt u1 r sv fv nv m := (hg1.block r (BlkW.lt RX) (fun e => hne e.symm)).trans RX; have u105 := RU.nvc; have uf := RU.frozen 105; have hz3 := BlkW.lt RU; have RU := Lib.hid RU))
  refine hK.out _ _ ?_ (fun hHeld => ?_)
  · (try dsimp only)
    (first
      | go_keep
      | (go_split_ands
         (repeat' apply And.intro) <;> first | exact keep_cell hb (by assumption) | exact grown_cell hg1 hne (by assumption) | exact set_cell_ne (by decide) (by assumption)))
  clear hK K2
  try simp only [Act.put, List.getElem_toArray, List.getElem_cons_succ, List.getElem_cons_zero, List.setIfInBounds_toArray, List.set_cons_zero, List.set_cons_succ]
  refine wpAnyH_take (i := 24) (v := ?_) rfl (by kernel_rfl) (by kernel_rfl) (by kernel_rfl) (fun _ _ _ h => h) (Or.inl ⟨by rfl, ?_⟩) (by assumption) ?_
  rotate_left
  · (intro w hSw; (try dsimp only at hSw); go_simp; (try with_reducible rfl))
  try simp only [Act.put, List.getElem_toArray, List.getElem_cons_succ, List.getElem_cons_zero, List.setIfInBounds_toArray, List.set_cons_zero, List.set_cons_succ]
  refine wpAnyH_ready (rs := [25]) (by kernel_rfl) (by simp) ?_
  refine AllReadyH.cons rfl (fun K2 hK => ?_) AllReadyH.nil
  rw [if_pos (by rfl)]
  go_simp
  refine hK.out _ _ ?_ (fun hHeld => ?_)
  · (try dsimp only)
    (first
      | go_keep
      | (go_split_ands
         (repeat' apply And.intro) <;> first | exact keep_cell hb (by assumption) | exact grown_cell hg1 hne (by assumption) | exact set_cell_ne (by decide) (by assumption)))
  clear hK K2
  try simp only [Act.put, List.getElem_toArray, List.getElem_cons_succ, List.getElem_cons_zero, List.setIfInBounds_toArray, List.set_cons_zero, List.set_cons_succ]
  refine wpAnyH_ready (rs := [26]) (by kernel_rfl) (by simp) ?_
  refine AllReadyH.cons rfl (fun K2 hK => ?_) AllReadyH.nil
  (first
    | (go_at_call 45; refine (Ref_any _ _ _ _ _ _).mono ?_; rintro e w2 ⟨rfl, hb⟩; have g105 := keep_cell hb n105; have h105 : w2.frozen? ⟨r, 105, none⟩ = false := (hb.frozen (p := ⟨r, 105, none⟩) hz).trans f105; have hz2 := Nat.lt_of_lt_of_le hz hb.size; have HR2 := Lib.hid (RtAt.below HP.out.at_.drew hb); have N2 := Lib.hid (own_off N1.out (Off.of_below (K := fun _ => False) hb) (fun _ _ e => e)))
    | ((refine Sv.step_append_row _ Sv.nc_len (by decide) Sv.nc_one rfl (.tmp 6) (.tmp 27) 42 rfl B 74 i5 _ 56 Tryz.underlying42 hi5 hz5 hs5 hy5 rfl nv L _ (by rfl) (N2.out.alloc _) _ [⟨m.st.call.old.ref, m.st.seen.num, m.st.clock.num⟩] (by rfl) (.inr ⟨w2.heap.size, 0, 1, rfl, by simp, Nat.le_refl 1, fun i hi j v hv => ?ro⟩) (by simp only [maxLen]; simp; omega) (by simp; omega) (by simp; have := hb.size; simp at this; omega) ?_); (case ro => (obtain rfl : i = 0 := by simp at hi; omega); rw [show 0 + 0 * 7 + j = j by omega]; exact ((BlkW.new _ _ _).cell j).trans (by rw [List.getElem?_toArray]; exact hv)); rintro v1 u1 ⟨ho1, hg1, ha1, hl1⟩; obtain ⟨ao1, cp1, ev1⟩ := Sv.own_slice ho1; subst ev1; have RX := RtAt.below HR2.out (below_alloc (Below.refl w2.heap.size w2) (.cells #[.int .i64 m.st.call.old.slot, .int .i64 m.st.call.old.gen, .int .i64 0, .int .i64 0, .bool false, .int .i64 m.st.seen.num, .int .i64 m.st.clock.num] 74)); have RU : RtAt u1 r sv fv nv m := (hg1.block r (BlkW.lt RX) (fun e => hne e.symm)).trans RX; have u105 := RU.nvc; have uf := RU.frozen 105; have hz3 := BlkW.lt RU; have RU := Lib.hid RU))
  refine hK.out _ _ ?_ (fun hHeld => ?_)
  · (try dsimp only)
    (first
      | go_keep
      | (go_split_ands
         (repeat' apply And.intro) <;> first | exact keep_cell hb (by assumption) | exact grown_cell hg1 hne (by assumption) | exact set_cell_ne (by decide) (by assumption)))
  clear hK K2
  try simp only [Act.put, List.getElem_toArray, List.getElem_cons_succ, List.getElem_cons_zero, List.setIfInBounds_toArray, List.set_cons_zero, List.set_cons_succ]
  refine wpAnyH_take (i := 27) (v := ?_) rfl (by kernel_rfl) (by kernel_rfl) (by kernel_rfl) (fun _ _ _ h => h) (Or.inl ⟨by rfl, ?_⟩) (by assumption) ?_
  rotate_left
  · (intro w hSw; (try dsimp only at hSw); go_simp; (try with_reducible rfl))
  try simp only [Act.put, List.getElem_toArray, List.getElem_cons_succ, List.getElem_cons_zero, List.setIfInBounds_toArray, List.set_cons_zero, List.set_cons_succ]
  refine wpAnyH_take (i := 28) (v := ?_) rfl (by kernel_rfl) (by kernel_rfl) (by kernel_rfl) (fun _ _ _ h => h) (Or.inl ⟨by rfl, ?_⟩) (by assumption) ?_
  rotate_left
  · (intro w hSw; (try dsimp only at hSw); go_simp; (try with_reducible rfl))
  try simp only [Act.put, List.getElem_toArray, List.getElem_cons_succ, List.getElem_cons_zero, List.setIfInBounds_toArray, List.set_cons_zero, List.set_cons_succ]
  refine wpAnyH_ready (rs := [29]) (by kernel_rfl) (by simp) ?_
  refine AllReadyH.cons rfl (fun K2 hK => ?_) AllReadyH.nil
  rw [if_pos (by rfl)]
  go_simp
  refine hK.out _ _ ?_ (fun hHeld => ?_)
  · (try dsimp only)
    (first
      | go_keep
      | (go_split_ands
         (repeat' apply And.intro) <;> first | exact keep_cell hb (by assumption) | exact grown_cell hg1 hne (by assumption) | exact set_cell_ne (by decide) (by assumption)))
  clear hK K2
  try simp only [Act.put, List.getElem_toArray, List.getElem_cons_succ, List.getElem_cons_zero, List.setIfInBounds_toArray, List.set_cons_zero, List.set_cons_succ]
  refine wpAnyH_done (by kernel_rfl) ?_ _
  refine NoPanic.normal ?_
  rotate_left
  rw [if_pos (by rfl)]
  go_simp
  (first
    | (go_at_call 45; refine (Ref_any _ _ _ _ _ _).mono ?_; rintro e w2 ⟨rfl, hb⟩; have g105 := keep_cell hb n105; have h105 : w2.frozen? ⟨r, 105, none⟩ = false := (hb.frozen (p := ⟨r, 105, none⟩) hz).trans f105; have hz2 := Nat.lt_of_lt_of_le hz hb.size; have HR2 := Lib.hid (RtAt.below HP.out.at_.drew hb); have N2 := Lib.hid (own_off N1.out (Off.of_below (K := fun _ => False) hb) (fun _ _ e => e)))
    | ((refine Sv.step_append_row _ Sv.nc_len (by decide) Sv.nc_one rfl (.tmp 6) (.tmp 27) 42 rfl B 74 i5 _ 56 Tryz.underlying42 hi5 hz5 hs5 hy5 rfl nv L _ (by rfl) (N2.out.alloc _) _ [⟨m.st.call.old.ref, m.st.seen.num, m.st.clock.num⟩] (by rfl) (.inr ⟨w2.heap.size, 0, 1, rfl, by simp, Nat.le_refl 1, fun i hi j v hv => ?ro⟩) (by simp only [maxLen]; simp; omega) (by simp; omega) (by simp; have := hb.size; simp at this; omega) ?_); (case ro => (obtain rfl : i = 0 := by simp at hi; omega); rw [show 0 + 0 * 7 + j = j by omega]; exact ((BlkW.new _ _ _).cell j).trans (by rw [List.getElem?_toArray]; exact hv)); rintro v1 u1 ⟨ho1, hg1, ha1, hl1⟩; obtain ⟨ao1, cp1, ev1⟩ := Sv.own_slice ho1; subst ev1; have RX := RtAt.below HR2.out (below_alloc (Below.refl w2.heap.size w2) (.cells #[.int .i64 m.st.call.old.slot, .int .i64 m.st.call.old.gen, .int .i64 0, .int .i64 0, .bool false, .int .i64 m.st.seen.num, .int .i64 m.st.clock.num] 74)); have RU : RtAt u1 r sv fv nv m := (hg1.block r (BlkW.lt RX) (fun e => hne e.symm)).trans RX; have u105 := RU.nvc; have uf := RU.frozen 105; have hz3 := BlkW.lt RU; have RU := Lib.hid RU))
  refine hK.out _ _ ?_ (fun hHeld => ?_)
  · (try dsimp only)
    (first
      | go_keep
      | (go_split_ands
         (repeat' apply And.intro) <;> first | exact keep_cell hb (by assumption) | exact grown_cell hg1 hne (by assumption) | exact set_cell_ne (by decide) (by assumption)))
  clear hK K2
  try simp only [Act.put, List.getElem_toArray, List.getElem_cons_succ, List.getElem_cons_zero, List.setIfInBounds_toArray, List.set_cons_zero, List.set_cons_succ]
  refine wpAnyH_take (i := 24) (v := ?_) rfl (by kernel_rfl) (by kernel_rfl) (by kernel_rfl) (fun _ _ _ h => h) (Or.inl ⟨by rfl, ?_⟩) (by assumption) ?_
  rotate_left
  · (intro w hSw; (try dsimp only at hSw); go_simp; (try with_reducible rfl))
  try simp only [Act.put, List.getElem_toArray, List.getElem_cons_succ, List.getElem_cons_zero, List.setIfInBounds_toArray, List.set_cons_zero, List.set_cons_succ]
  refine wpAnyH_ready (rs := [4, 25]) (by kernel_rfl) (by simp) ?_
  refine AllReadyH.cons rfl (fun K2 hK => ?_) (AllReadyH.cons rfl (fun K2 hK => ?_) (AllReadyH.nil))
  rw [if_pos (by rfl)]
  go_simp
  refine hK.out _ _ ?_ (fun hHeld => ?_)
  · (try dsimp only)
    (first
      | go_keep
      | (go_split_ands
         (repeat' apply And.intro) <;> first | exact keep_cell hb (by assumption) | exact grown_cell hg1 hne (by assumption) | exact set_cell_ne (by decide) (by assumption)))
  clear hK K2
  try simp only [Act.put, List.getElem_toArray, List.getElem_cons_succ, List.getElem_cons_zero, List.setIfInBounds_toArray, List.set_cons_zero, List.set_cons_succ]
  refine wpAnyH_ready (rs := [25]) (by kernel_rfl) (by simp) ?_
  refine AllReadyH.cons rfl (fun K2 hK => ?_) AllReadyH.nil
  rw [if_pos (by rfl)]
  go_simp
  refine hK.out _ _ ?_ (fun hHeld => ?_)
  · (try dsimp only)
    (first
      | go_keep
      | (go_split_ands
         (repeat' apply And.intro) <;> first | exact keep_cell hb (by assumption) | exact grown_cell hg1 hne (by assumption) | exact set_cell_ne (by decide) (by assumption)))
  clear hK K2
  try simp only [Act.put, List.getElem_toArray, List.getElem_cons_succ, List.getElem_cons_zero, List.setIfInBounds_toArray, List.set_cons_zero, List.set_cons_succ]
  refine wpAnyH_ready (rs := [26]) (by kernel_rfl) (by simp) ?_
  refine AllReadyH.cons rfl (fun K2 hK => ?_) AllReadyH.nil
  (first
    | (go_at_call 45; refine (Ref_any _ _ _ _ _ _).mono ?_; rintro e w2 ⟨rfl, hb⟩; have g105 := keep_cell hb n105; have h105 : w2.frozen? ⟨r, 105, none⟩ = false := (hb.frozen (p := ⟨r, 105, none⟩) hz).trans f105; have hz2 := Nat.lt_of_lt_of_le hz hb.size; have HR2 := Lib.hid (RtAt.below HP.out.at_.drew hb); have N2 := Lib.hid (own_off N1.out (Off.of_below (K := fun _ => False) hb) (fun _ _ e => e)))
    | ((refine Sv.step_append_row _ Sv.nc_len (by decide) Sv.nc_one rfl (.tmp 6) (.tmp 27) 42 rfl B 74 i5 _ 56 Tryz.underlying42 hi5 hz5 hs5 hy5 rfl nv L _ (by rfl) (N2.out.alloc _) _ [⟨m.st.call.old.ref, m.st.seen.num, m.st.clock.num⟩] (by rfl) (.inr ⟨w2.heap.size, 0, 1, rfl, by simp, Nat.le_refl 1, fun i hi j v hv => ?ro⟩) (by simp only [maxLen]; simp; omega) (by simp; omega) (by simp; have := hb.size; simp at this; omega) ?_); (case ro => (obtain rfl : i = 0 := by simp at hi; omega); rw [show 0 + 0 * 7 + j = j by omega]; exact ((BlkW.new _ _ _).cell j).trans (by rw [List.getElem?_toArray]; exact hv)); rintro v1 u1 ⟨ho1, hg1, ha1, hl1⟩; obtain ⟨ao1, cp1, ev1⟩ := Sv.own_slice ho1; subst ev1; have RX := RtAt.below HR2.out (below_alloc (Below.refl w2.heap.size w2) (.cells #[.int .i64 m.st.call.old.slot, .int .i64 m.st.call.old.gen, .int .i64 0, .int .i64 0, .bool false, .int .i64 m.st.seen.num, .int .i64 m.st.clock.num] 74)); have RU : RtAt u1 r sv fv nv m := (hg1.block r (BlkW.lt RX) (fun e => hne e.symm)).trans RX; have u105 := RU.nvc; have uf := RU.frozen 105; have hz3 := BlkW.lt RU; have RU := Lib.hid RU))
  refine hK.out _ _ ?_ (fun hHeld => ?_)
  · (try dsimp only)
    (first
      | go_keep
      | (go_split_ands
         (repeat' apply And.intro) <;> first | exact keep_cell hb (by assumption) | exact grown_cell hg1 hne (by assumption) | exact set_cell_ne (by decide) (by assumption)))
  clear hK K2
  try simp only [Act.put, List.getElem_toArray, List.getElem_cons_succ, List.getElem_cons_zero, List.setIfInBounds_toArray, List.set_cons_zero, List.set_cons_succ]
  refine wpAnyH_take (i := 27) (v := ?_) rfl (by kernel_rfl) (by kernel_rfl) (by kernel_rfl) (fun _ _ _ h => h) (Or.inl ⟨by rfl, ?_⟩) (by assumption) ?_
  rotate_left
  · (intro w hSw; (try dsimp only at hSw); go_simp; (try with_reducible rfl))
  try simp only [Act.put, List.getElem_toArray, List.getElem_cons_succ, List.getElem_cons_zero, List.setIfInBounds_toArray, List.set_cons_zero, List.set_cons_succ]
  refine wpAnyH_take (i := 28) (v := ?_) rfl (by kernel_rfl) (by kernel_rfl) (by kernel_rfl) (fun _ _ _ h => h) (Or.inl ⟨by rfl, ?_⟩) (by assumption) ?_
  rotate_left
  · (intro w hSw; (try dsimp only at hSw); go_simp; (try with_reducible rfl))
  try simp only [Act.put, List.getElem_toArray, List.getElem_cons_succ, List.getElem_cons_zero, List.setIfInBounds_toArray, List.set_cons_zero, List.set_cons_succ]
  refine wpAnyH_ready (rs := [29]) (by kernel_rfl) (by simp) ?_
  refine AllReadyH.cons rfl (fun K2 hK => ?_) AllReadyH.nil
  rw [if_pos (by rfl)]
  go_simp
  refine hK.out _ _ ?_ (fun hHeld => ?_)
  · (try dsimp only)
    (first
      | go_keep
      | (go_split_ands
         (repeat' apply And.intro) <;> first | exact keep_cell hb (by assumption) | exact grown_cell hg1 hne (by assumption) | exact set_cell_ne (by decide) (by assumption)))
  clear hK K2
  try simp only [Act.put, List.getElem_toArray, List.getElem_cons_succ, List.getElem_cons_zero, List.setIfInBounds_toArray, List.set_cons_zero, List.set_cons_succ]
  refine wpAnyH_done (by kernel_rfl) ?_ _
  refine NoPanic.normal ?_
  rotate_left
  rw [if_pos (by rfl)]
  go_simp
  refine hK.out _ _ ?_ (fun hHeld => ?_)
  · (try dsimp only)
    (first
      | go_keep
      | (go_split_ands
         (repeat' apply And.intro) <;> first | exact keep_cell hb (by assumption) | exact grown_cell hg1 hne (by assumption) | exact set_cell_ne (by decide) (by assumption)))
  clear hK K2
  try simp only [Act.put, List.getElem_toArray, List.getElem_cons_succ, List.getElem_cons_zero, List.setIfInBounds_toArray, List.set_cons_zero, List.set_cons_succ]
  refine wpAnyH_ready (rs := [4]) (by kernel_rfl) (by simp) ?_
  refine AllReadyH.cons rfl (fun K2 hK => ?_) AllReadyH.nil
  rw [if_pos (by rfl)]
  go_simp
  refine hK.out _ _ ?_ (fun hHeld => ?_)
  · (try dsimp only)
    (first
      | go_keep
      | (go_split_ands
         (repeat' apply And.intro) <;> first | exact keep_cell hb (by assumption) | exact grown_cell hg1 hne (by assumption) | exact set_cell_ne (by decide) (by assumption)))
  clear hK K2
  try simp only [Act.put, List.getElem_toArray, List.getElem_cons_succ, List.getElem_cons_zero, List.setIfInBounds_toArray, List.set_cons_zero, List.set_cons_succ]
  refine wpAnyH_ready (rs := [26]) (by kernel_rfl) (by simp) ?_
  refine AllReadyH.cons rfl (fun K2 hK => ?_) AllReadyH.nil
  (first
    | (go_at_call 45; refine (Ref_any _ _ _ _ _ _).mono ?_; rintro e w2 ⟨rfl, hb⟩; have g105 := keep_cell hb n105; have h105 : w2.frozen? ⟨r, 105, none⟩ = false := (hb.frozen (p := ⟨r, 105, none⟩) hz).trans f105; have hz2 := Nat.lt_of_lt_of_le hz hb.size; have HR2 := Lib.hid (RtAt.below HP.out.at_.drew hb); have N2 := Lib.hid (own_off N1.out (Off.of_below (K := fun _ => False) hb) (fun _ _ e => e)))
    | ((refine Sv.step_append_row _ Sv.nc_len (by decide) Sv.nc_one rfl (.tmp 6) (.tmp 27) 42 rfl B 74 i5 _ 56 Tryz.underlying42 hi5 hz5 hs5 hy5 rfl nv L _ (by rfl) (N2.out.alloc _) _ [⟨m.st.call.old.ref, m.st.seen.num, m.st.clock.num⟩] (by rfl) (.inr ⟨w2.heap.size, 0, 1, rfl, by simp, Nat.le_refl 1, fun i hi j v hv => ?ro⟩) (by simp only [maxLen]; simp; omega) (by simp; omega) (by simp; have := hb.size; simp at this; omega) ?_); (case ro => (obtain rfl : i = 0 := by simp at hi; omega); rw [show 0 + 0 * 7 + j = j by omega]; exact ((BlkW.new _ _ _).cell j).trans (by rw [List.getElem?_toArray]; exact hv)); rintro v1 u1 ⟨ho1, hg1, ha1, hl1⟩; obtain ⟨ao1, cp1, ev1⟩ := Sv.own_slice ho1; subst ev1; have RX := RtAt.below HR2.out (below_alloc (Below.refl w2.heap.size w2) (.cells #[.int .i64 m.st.call.old.slot, .int .i64 m.st.call.old.gen, .int .i64 0, .int .i64 0, .bool false, .int .i64 m.st.seen.num, .int .i64 m.st.clock.num] 74)); have RU : RtAt u1 r sv fv nv m := (hg1.block r (BlkW.lt RX) (fun e => hne e.symm)).trans RX; have u105 := RU.nvc; have uf := RU.frozen 105; have hz3 := BlkW.lt RU; have RU := Lib.hid RU))
  refine hK.out _ _ ?_ (fun hHeld => ?_)
  · (try dsimp only)
    (first
      | go_keep
      | (go_split_ands
         (repeat' apply And.intro) <;> first | exact keep_cell hb (by assumption) | exact grown_cell hg1 hne (by assumption) | exact set_cell_ne (by decide) (by assumption)))
  clear hK K2
  try simp only [Act.put, List.getElem_toArray, List.getElem_cons_succ, List.getElem_cons_zero, List.setIfInBounds_toArray, List.set_cons_zero, List.set_cons_succ]
  refine wpAnyH_take (i := 27) (v := ?_) rfl (by kernel_rfl) (by kernel_rfl) (by kernel_rfl) (fun _ _ _ h => h) (Or.inl ⟨by rfl, ?_⟩) (by assumption) ?_
  rotate_left
  · (intro w hSw; (try dsimp only at hSw); go_simp; (try with_reducible rfl))
  try simp only [Act.put, List.getElem_toArray, List.getElem_cons_succ, List.getElem_cons_zero, List.setIfInBounds_toArray, List.set_cons_zero, List.set_cons_succ]
  refine wpAnyH_take (i := 28) (v := ?_) rfl (by kernel_rfl) (by kernel_rfl) (by kernel_rfl) (fun _ _ _ h => h) (Or.inl ⟨by rfl, ?_⟩) (by assumption) ?_
  rotate_left
  · (intro w hSw; (try dsimp only at hSw); go_simp; (try with_reducible rfl))
  try simp only [Act.put, List.getElem_toArray, List.getElem_cons_succ, List.getElem_cons_zero, List.setIfInBounds_toArray, List.set_cons_zero, List.set_cons_succ]
  refine wpAnyH_ready (rs := [29]) (by kernel_rfl) (by simp) ?_
  refine AllReadyH.cons rfl (fun K2 hK => ?_) AllReadyH.nil
  rw [if_pos (by rfl)]
  go_simp
  refine hK.out _ _ ?_ (fun hHeld => ?_)
  · (try dsimp only)
    (first
      | go_keep
      | (go_split_ands
         (repeat' apply And.intro) <;> first | exact keep_cell hb (by assumption) | exact grown_cell hg1 hne (by assumption) | exact set_cell_ne (by decide) (by assumption)))
  clear hK K2
  try simp only [Act.put, List.getElem_toArray, List.getElem_cons_succ, List.getElem_cons_zero, List.setIfInBounds_toArray, List.set_cons_zero, List.set_cons_succ]
  refine wpAnyH_done (by kernel_rfl) ?_ _
  refine NoPanic.normal ?_
  all_goals
    go_end0
    refine ⟨rfl, Lib.hid ?_⟩
    have hb2 : Below w.heap.size w (w2.alloc (.cells #[.int .i64 m.st.call.old.slot, .int .i64 m.st.call.old.gen, .int .i64 0, .int .i64 0, .bool false, .int .i64 m.st.seen.num, .int .i64 m.st.clock.num] 74)) := below_alloc ((show Below w.heap.size w w.drew from (Below.refl _ _).drew).trans hb) _
    refine RStep.below hb2 ((HP.out.below hb2).noted hg1 ⟨m.st.call.old.ref, m.st.seen.num, m.st.clock.num⟩ ?_ ha1)
    rw [← HL.out]
    exact ho1
end
end Go.Proofs.YtihjklimcchkhaaGreatDoor

namespace Go.Proofs.YtihjklimcchkhaaGreatDoor
open Go.RowKit Go.Extern.Stop Go.Stop Go.Extern Go.Sort
section
variable {w w' : World} {B r : Nat} {sv fv nv : Value} {m : Rt} {K : Nat → Prop}
theorem RtAt.rows (h : RtAt w r sv fv nv m) : w.cell? ⟨r, 50, none⟩ = some sv ∧ w.cell? ⟨r, 51, none⟩ = some fv ∧ w.cell? ⟨r, 52, none⟩ = some (.int .i64 (m.st.pos : Int)) ∧ w.cell? ⟨r, 106, none⟩ = some (.int .i64 (m.freed : Int)) :=
  ⟨h.cell 50 (by kernel_rfl), h.cell 51 (by kernel_rfl), h.cell 52 (by kernel_rfl), h.cell 106 (by kernel_rfl)⟩
theorem div9 (n : Nat) : (n : Int) / 9 = ((n / 9 : Nat) : Int) := by omega
theorem mod9 (n : Nat) : (n : Int) % 9 = ((n % 9 : Nat) : Int) := by omega
/-- A slice of so many. -/
def _root_.Go.Value.isSliceOf (v : Value) (n : Nat) : Prop := ∃ ao c, v = .slice ao n c
set_option maxRecDepth 100000 in
set_option maxHeartbeats 2000000 in
theorem listen_more (h : RtAt w r sv fv nv m) (hs : sv.isSliceOf m.st.said.length) (ht : m.thr ≤ 6) (hw : m.saysWords = true) (hl : m.st.said.length < m.thr * 9) :
    Calls Tryz.prog 125 #[.pointer (some ⟨r, 0, none⟩)] w fun e w' => e = .returned (.bool true) ∧ Hid (RtAt w' r sv fv nv (m.load (0, 0, (keepAt (m.st.said.length / 9) (m.st.said.length % 9) : Nat)) 7)) ∧ Hid (Only r w w') := by
  have HR := Lib.hid h
  have c50 := h.rows.1
  have c55 := h.fix.2.2.1
  have hz := BlkW.lt h
  obtain ⟨ao, cp, rfl⟩ := hs
  obtain ⟨n, hn⟩ : ∃ n, n = m.st.said.length := ⟨_, rfl⟩
  rw [← hn] at c50 hl
  have HN := Lib.hid hn
  have j1 : (n : Int) < (m.thr : Int) * 9 := by omega
  have j2 : wrap64 ((m.thr : Int) * 9) = (m.thr : Int) * 9 := IntWalk.wrap64_in _ ⟨by omega, by omega⟩
  clear h hn
  go_enter Tryz.func125, Tryz.ntmps125
  go_wp2_with fail
  refine (saysWords_any HR.out).mono ?_
  rintro e w1 ⟨rfl, rfl⟩
  rw [hw]
  go_wp2_with fail
  rw [div9, mod9]
  refine (keep_is (n / 9) (n % 9) (by omega) (by omega) _).mono ?_
  rintro e w2 ⟨rfl, hb⟩
  have HR2 := Lib.hid (HR.out.below hb)
  have HO2 := Lib.hid (Only.of_below (r := r) hb)
  clear hb HR c50 c55
  have hD := (HR2.out.below (below_alloc (Below.refl _ _) (.cells #[.int .i64 0, .int .i64 0, .int .i64 ((keepAt (n / 9) (n % 9) : Nat) : Int)] 47))).drew
  have HA := Lib.hid (load_any hD (0, 0, (keepAt (n / 9) (n % 9) : Nat)) 7)
  have hz2 := BlkW.lt HR2.out
  clear hD
  go_upto_region 5 with fail
  go_region_with (first | (go_at_call 120; refine HA.out.mono ?_; rintro e w3 ⟨rfl, h1, h2⟩))
  all_goals
    go_wp2
    go_ret
    have e := HN.out
    subst e
    exact ⟨rfl, h1, Lib.hid ((HO2.out.trans (Only.of_below (below_alloc (Below.refl _ _) _).drew)).trans h2.out)⟩
set_option maxRecDepth 100000 in
set_option maxHeartbeats 2000000 in
theorem listen_none (h : RtAt w r sv fv nv m) (hs : sv.isSliceOf m.st.said.length) (ht : m.thr ≤ 6) (hw : m.saysWords = true) (hq : m.saysSpan = false) (hl : ¬ m.st.said.length < m.thr * 9) :
    Calls Tryz.prog 125 #[.pointer (some ⟨r, 0, none⟩)] w fun e w' => e = .returned (.bool false) ∧ w = w' := by
  have HR := Lib.hid h
  have c50 := h.rows.1
  have c55 := h.fix.2.2.1
  have hz := BlkW.lt h
  obtain ⟨ao, cp, rfl⟩ := hs
  obtain ⟨n, hn⟩ : ∃ n, n = m.st.said.length := ⟨_, rfl⟩
  rw [← hn] at c50 hl
  have HN := Lib.hid hn
  have j1 : ¬ (n : Int) < (m.thr : Int) * 9 := by omega
  have j3 : (m.thr : Int) * 9 ≤ (n : Int) := by omega
  have j2 : wrap64 ((m.thr : Int) * 9) = (m.thr : Int) * 9 := IntWalk.wrap64_in _ ⟨by omega, by omega⟩
  clear h hn
  go_enter Tryz.func125, Tryz.ntmps125
  go_wp2_with fail
  refine (saysWords_any HR.out).mono ?_
  rintro e w1 ⟨rfl, rfl⟩
  rw [hw]
  go_wp2_with fail
  refine (saysSpan_any HR.out).mono ?_
  rintro e w1 ⟨rfl, rfl⟩
  rw [hq]
  go_wp2
  go_ret
  exact ⟨rfl, rfl⟩
/-! ### loose -/
theorem RtAt.n105 (h : RtAt w r sv fv nv m) : w.cell? ⟨r, 105, none⟩ = some nv := h.nvc
theorem keepsH (he : m.eng = 2) (now : Int) : m.keeps now = Sv.slotP m.st.said := by
  funext n
  unfold Rt.keeps Sv.slotP
  rw [if_pos he]
  rfl
set_option maxRecDepth 100000 in
set_option maxHeartbeats 2000000 in
theorem loose_haz (h : RiteP w B r sv fv nv m K) (he : m.eng = 2) (hl : m.notes.length ≤ 200) (hk : m.st.said.length ≤ 200) (now : Int) :
    Calls Tryz.prog 128 #[.pointer (some ⟨r, 0, none⟩), .int .i64 now] w fun e w' => ∃ a, e = .returned a ∧ Hid (Sv.OwnN w' w.heap.size a (m.loose now)) ∧ Hid (Below w.heap.size w w') := by
  have HP := Lib.hid h
  have c53 := h.at_.fix.1
  rw [he] at c53
  have c50 := h.at_.rows.1
  have c105 := h.at_.n105
  have hz := BlkW.lt h.at_
  have HC := Lib.hid (Sv.Slots_any nv sv m.notes m.st.said w.drew (Sv.own_row Sv.nc_len (show w.drew.ownsRow B 74 7 nv m.notes.length (Sv.flat Sv.nc m.notes) from h.notes)) (Sv.own_row Sv.wc_len (show w.drew.ownsRow B 34 5 sv m.st.said.length (Sv.flat Sv.wc m.st.said) from h.said)) hl hk)
  have HE := Lib.hid (keepsH he now)
  clear h
  go_enter Tryz.func128, Tryz.ntmps128
  go_upto_region 4 with fail
  go_region_held3 (fun w' => w'.cell? ⟨r, 50, none⟩ = some sv ∧ w'.cell? ⟨r, 105, none⟩ = some nv)
    (first | go_keep | (have hq := hb.out; exact ⟨keep_cell hq c50, keep_cell hq c105⟩))
    (first | (go_at_call 162; refine HC.out.mono ?_; rintro e w3 ⟨a, b, rfl, ra, rb, hb⟩))
  all_goals
    obtain ⟨aa, ca, ea⟩ := Sv.own_slice ra.out
    subst ea
    go_wp2
    go_ret
    refine ⟨_, rfl, ?_, Lib.hid ((show Below w.heap.size w w.drew from (Below.refl _ _).drew).trans hb.out)⟩
    unfold Rt.loose
    rw [HE.out]
    exact ra
set_option maxRecDepth 100000 in
set_option maxHeartbeats 2000000 in
theorem strike_no (h : RiteP w B r sv fv nv m K) (hp : m.st.pos ≤ 2000) :
    Calls Tryz.prog 130 #[.pointer (some ⟨r, 0, none⟩), .bool false] w (RPost w B r K (m.strike false)) := by
  have HP := Lib.hid h
  have c52 := h.at_.rows.2.2.1
  have f52 := h.at_.frozen 52
  have hz := BlkW.lt h.at_
  have j1 : (m.st.pos : Int) ≤ 2000 := by omega
  clear h
  go_enter Tryz.func130, Tryz.ntmps130
  go_wp2
  refine bodyPost_ret (results_none rfl _ _ _) rfl ?_
  refine ⟨rfl, Lib.hid ?_⟩
  exact HP.out.step_only (sv' := sv) (fv' := fv) (m' := m.strike false) (HP.out.at_.set 52 (.int .i64 ((m.st.pos : Int) + 1)) (by kernel_rfl)) ((Off.refl (fun j => j = r) w).set (.inl rfl) 52 _) (.inl ⟨rfl, rfl⟩) (.inl ⟨rfl, rfl⟩) rfl
theorem off_cell {K' : Nat → Prop} {b o : Nat} {v : Value} (h : Off K' w w') (hb : b < w.heap.size) (hn : ¬ K' b) (e : w.cell? ⟨b, o, none⟩ = some v) : w'.cell? ⟨b, o, none⟩ = some v := (h.cell (o := o) hb hn).trans e
/-- The row of notes is another one in the same block. -/
theorem RiteP.renoted {u1 : World} (h : RiteP w B r sv fv nv m K) (O1 : Off (fun j => nv.ownBlock = some j) w u1) (ns : List Nt) {v1 : Value} (ho : u1.ownsRow B 74 7 v1 ns.length (Sv.flat Sv.nc ns)) (ha : v1.ownBlock = nv.ownBlock) :
    RStep w B r K { m with notes := ns } (u1.setCell ⟨r, 105, none⟩ v1) := by
  have hne := h.ne
  have RU : RtAt u1 r sv fv nv m := (O1.block r (BlkW.lt h.at_) hne.2.1).trans h.at_
  have RV : RtAt (u1.setCell ⟨r, 105, none⟩ v1) r sv fv v1 { m with notes := ns } := RU.set 105 v1 (by kernel_rfl)
  have O2 : Off (fun j => j = r) u1 (u1.setCell ⟨r, 105, none⟩ v1) := (Off.refl (fun j => j = r) u1).set (.inl rfl) 105 v1
  have O3 : Off (fun j => nv.ownBlock = some j ∨ j = r) w (u1.setCell ⟨r, 105, none⟩ v1) :=
    (show Off (fun j => nv.ownBlock = some j ∨ j = r) w u1 from ⟨O1.os, O1.tape, O1.output, O1.size, fun j hj hn => O1.block j hj (fun e => hn (.inl e))⟩).trans O2 (fun _ _ e => .inr e)
  refine ⟨K, ⟨sv, fv, v1, RV, own_off h.said O3 (fun b e k => ?_), own_off ho O2 (fun b e k => own_ne ho RU (by decide) (k ▸ e)), ?_, h.kr, h.ks, fun b e => h.kn b (ha ▸ e), h.kf, fun b hb => ⟨(h.low b hb).1, Nat.lt_of_lt_of_le (h.low b hb).2 O3.size⟩⟩, ⟨O3.os, O3.tape, O3.output, O3.size, fun j hj hn => O3.block j hj ?_⟩, fun b hb => .inl hb⟩
  · rcases k with k | k
    · exact hne.2.2 b e k
    · exact hne.1 (k ▸ e)
  · exact h.free.grow (r := r) (fun cs b hb e => by subst e; exact BlkW.ne_ hb h.at_ (by decide) rfl) O3 (.inl ha)
  · rintro (k | k)
    · exact hn (h.kn j k)
    · subst k; exact hn h.kr
end
end Go.Proofs.YtihjklimcchkhaaGreatDoor
