/- How a plot lies in memory; what stays of it behind each store. A template (fill.py). -/
import Derived.Test.YtihjklimcchkhaaGreatDoorWDM
import Derived.Test.YtihjklimcchkhaaGreatDoorGlyph
import Derived.Deep.MidRow
import Derived.Maps.AppendAt
import Derived.Deep.AppendLies
namespace Go.Proofs.YtihjklimcchkhaaGreatDoor
open Go.RowKit Go.Extern.Stop Go.Stop Go.Extern Go.Sort

/-! ### but for some blocks the world is as it was -/
structure Off (K : Nat → Prop) (w w' : World) : Prop where
  os : w'.os = w.os
  tape : w'.tape = w.tape
  output : w'.output = w.output
  size : w.heap.size ≤ w'.heap.size
  block : ∀ j, j < w.heap.size → ¬ K j → w'.heap[j]? = w.heap[j]?
section
variable {K K' : Nat → Prop} {a w w' : World}
theorem Off.refl (K : Nat → Prop) (w : World) : Off K w w := ⟨rfl, rfl, rfl, Nat.le_refl _, fun _ _ _ => rfl⟩
theorem Off.trans (h : Off K a w) (k : Off K' w w') (hk : ∀ j, j < a.heap.size → K' j → K j) : Off K a w' :=
  ⟨k.os.trans h.os, k.tape.trans h.tape, k.output.trans h.output, Nat.le_trans h.size k.size, fun j hj hn => (k.block j (Nat.lt_of_lt_of_le hj h.size) (fun e => hn (hk j hj e))).trans (h.block j hj hn)⟩
theorem Off.of_below (h : Below w.heap.size w w') : Off K w w' := ⟨h.os, h.tape, h.output, h.size, fun j hj _ => h.block j hj⟩
theorem Off.then (h : Off K a w) (k : Below w.heap.size w w') : Off K a w' := h.trans (Off.of_below (K := fun _ => False) k) (fun _ _ e => e.elim)
theorem Off.alloc (h : Off K a w) (o : Obj) : Off K a (w.alloc o) := h.then ((Below.refl _ _).alloc (Nat.le_refl _) _)
theorem Off.set (h : Off K a w) {b : Nat} (hb : K b ∨ a.heap.size ≤ b) (o : Nat) (v : Value) : Off K a (w.setCell ⟨b, o, none⟩ v) :=
  ⟨h.os, h.tape, h.output, by simpa [World.setCell] using h.size, fun j hj hn => (Below.heap_setCell w ⟨b, o, none⟩ v j (fun e => by
    have e : j = b := e
    subst e
    rcases hb with hb | hb
    · exact hn hb
    · omega)).trans (h.block j hj hn)⟩
theorem Off.sets {b : Nat} (hb : K b ∨ a.heap.size ≤ b) : ∀ (vs : List Value) (o : Nat) {w : World}, Off K a w → Off K a (w.setCells b o vs)
  | [], _, _, h => h
  | v :: r, o, _, h => Off.sets hb r (o + 1) (h.set hb o v)
theorem Off.grown (h : Off K a w) {row : Option Nat} (hg : w.grownBy w' row) (hr : ∀ k, row = some k → K k ∨ a.heap.size ≤ k) : Off K a w' :=
  ⟨hg.os.trans h.os, hg.tape.trans h.tape, hg.output.trans h.output, Nat.le_trans h.size hg.size, fun j hj hn => (hg.block j (Nat.lt_of_lt_of_le hj h.size) (fun e => by
    rcases hr j e.symm with k | k
    · exact hn k
    · omega)).trans (h.block j hj hn)⟩
theorem Off.below (h : Off K w w') {B : Nat} (hK : ∀ j, K j → B ≤ j) (hB : B ≤ w.heap.size) : Below B w w' :=
  ⟨h.os, h.tape, h.output, h.size, fun j hj => h.block j (by omega) (fun e => by have := hK j e; omega)⟩
theorem Off.blk (h : Off K w w') {g : Nat} {t : TypeId} {cs : Array Value} (hg : BlkW w g t cs) (hn : ¬ K g) : BlkW w' g t cs := (h.block g hg.lt hn).trans hg
theorem Off.cell (h : Off K w w') {b o : Nat} (hb : b < w.heap.size) (hn : ¬ K b) : w'.cell? ⟨b, o, none⟩ = w.cell? ⟨b, o, none⟩ := World.cell?_of_block (w := w) (h.block b hb hn)
end

theorem blk_sets {g : Nat} {t : TypeId} : ∀ (vs : List Value) (o : Nat) {w : World} {cs : Array Value}, BlkW w g t cs → ∃ cs', BlkW (w.setCells g o vs) g t cs' ∧ cs'.size = cs.size
  | [], _, _, cs, h => ⟨cs, h, rfl⟩
  | v :: r, o, _, _, h => by
    obtain ⟨cs', h1, h2⟩ := blk_sets r (o + 1) (h.set o v)
    exact ⟨cs', h1, by simpa using h2⟩
theorem blk_far {g b : Nat} {t : TypeId} {cs : Array Value} (hne : g ≠ b) : ∀ (vs : List Value) (o : Nat) {w : World}, BlkW w g t cs → BlkW (w.setCells b o vs) g t cs
  | [], _, _, h => h
  | v :: r, o, _, h => blk_far hne r (o + 1) (h.far hne v)
theorem BlkW.ne_ {w : World} {g g' : Nat} {t t' : TypeId} {cs cs' : Array Value} (h : BlkW w g t cs) (h' : BlkW w g' t' cs') (hne : t ≠ t') : g ≠ g' := by
  rintro rfl
  unfold BlkW at h h'
  rw [h] at h'
  injection h' with h'
  injection h' with _ ht
  exact hne ht
theorem own_ne {w : World} {base g : Nat} {e t : TypeId} {size n : Nat} {v : Value} {xs : List Value} {cs : Array Value} (h : w.ownsRow base e size v n xs) (hg : BlkW w g t cs) (hne : e ≠ t) : v.ownBlock ≠ some g := by
  rcases h.2 with ⟨rfl, _⟩ | ⟨g', cap, cur, rfl, _, hh, _⟩
  · simp [Value.ownBlock]
  · intro he
    have : g' = g := by simpa [Value.ownBlock] using he
    subst this
    exact BlkW.ne_ (t := e) hh hg hne rfl
theorem there_of_blk {w : World} {g : Nat} {t : TypeId} {cs : Array Value} (h : BlkW w g t cs) (o n : Nat) (hn : o + n ≤ cs.size) : w.there g o n := fun j hj =>
  ⟨by rw [h.cell]; simp; omega, h.frozen _⟩
theorem range_block {w w' : World} {b o : Nat} {cs : List Value} (h : w.rangeAt b o cs) (hb : w'.heap[b]? = w.heap[b]?) : w'.rangeAt b o cs := fun j v hv => by
  rw [World.cell?_of_block (w := w) (a := ⟨b, o + j, none⟩) hb]; exact h j v hv

/-! ### words in memory -/
/-- A word's five cells. -/
def wc (d : Wd) : List Value := [.int .i64 d.slot, .int .i64 d.gen, .int .i64 d.tag, .int .i64 d.num, .bool d.mark]
/-- A word as a value. -/
def wv (d : Wd) : Value := .agg #[.int .i64 d.slot, .int .i64 d.gen, .int .i64 d.tag, .int .i64 d.num, .bool d.mark]
def WdAt (w : World) (b o : Nat) (d : Wd) : Prop := w.rangeAt b o (wc d)
theorem WdAt.cells {w : World} {b o : Nat} {d : Wd} (h : WdAt w b o d) : w.cell? ⟨b, o, none⟩ = some (.int .i64 d.slot) ∧ w.cell? ⟨b, o + 1, none⟩ = some (.int .i64 d.gen) ∧ w.cell? ⟨b, o + 2, none⟩ = some (.int .i64 d.tag) ∧ w.cell? ⟨b, o + 3, none⟩ = some (.int .i64 d.num) ∧ w.cell? ⟨b, o + 4, none⟩ = some (.bool d.mark) :=
  ⟨h 0 _ rfl, h 1 _ rfl, h 2 _ rfl, h 3 _ rfl, h 4 _ rfl⟩
theorem wc_len (d : Wd) : (wc d).length = 5 := rfl

/-- The slots in block bs. -/
structure Slots (w : World) (bs n : Nat) (S : Nat → Sl) : Prop where
  blk : ∃ cs, BlkW w bs 142 cs ∧ cs.size = n * 52
  head : ∀ i, i < n → w.rangeAt bs (i * 52) [.int .i64 ((S i).gen : Int), .bool (S i).given]
  cell : ∀ i f, i < n → f < 10 → WdAt w bs (i * 52 + 2 + f * 5) ((S i).cell f)
structure Brd (w : World) (bb m : Nat) (D : Nat → Wd) : Prop where
  blk : ∃ cs, BlkW w bb 34 cs ∧ cs.size = m * 5
  cell : ∀ f, f < m → WdAt w bb (f * 5) (D f)
section
variable {w w' : World} {bs n : Nat} {S : Nat → Sl} {bb m : Nat} {D : Nat → Wd}
theorem Slots.block (h : Slots w bs n S) (hb : w'.heap[bs]? = w.heap[bs]?) : Slots w' bs n S :=
  ⟨by obtain ⟨cs, h1, h2⟩ := h.blk; exact ⟨cs, hb.trans h1, h2⟩, fun i hi => range_block (h.head i hi) hb, fun i f hi hf => range_block (h.cell i f hi hf) hb⟩
theorem Brd.block (h : Brd w bb m D) (hb : w'.heap[bb]? = w.heap[bb]?) : Brd w' bb m D :=
  ⟨by obtain ⟨cs, h1, h2⟩ := h.blk; exact ⟨cs, hb.trans h1, h2⟩, fun f hf => range_block (h.cell f hf) hb⟩
theorem Slots.lt (h : Slots w bs n S) : bs < w.heap.size := by obtain ⟨cs, h1, _⟩ := h.blk; exact h1.lt
theorem Brd.lt (h : Brd w bb m D) : bb < w.heap.size := by obtain ⟨cs, h1, _⟩ := h.blk; exact h1.lt
theorem Slots.there (h : Slots w bs n S) {o k : Nat} (hk : o + k ≤ n * 52) : w.there bs o k := by
  obtain ⟨cs, h1, h2⟩ := h.blk
  exact there_of_blk h1 o k (by omega)
theorem Brd.there (h : Brd w bb m D) {o k : Nat} (hk : o + k ≤ m * 5) : w.there bb o k := by
  obtain ⟨cs, h1, h2⟩ := h.blk
  exact there_of_blk h1 o k (by omega)
theorem Slots.word (h : Slots w bs n S) {i f : Nat} (hi : i < n) (hf : f < 10) (d : Wd) :
    Slots (w.setCells bs (i * 52 + 2 + f * 5) (wc d)) bs n (fun k => if k = i then { S i with cell := fun g => if g = f then d else (S i).cell g } else S k) := by
  refine ⟨?_, fun k hk => ?_, fun k g hk hg => ?_⟩
  · obtain ⟨cs, h1, h2⟩ := h.blk
    obtain ⟨cs', h3, h4⟩ := blk_sets (wc d) (i * 52 + 2 + f * 5) h1
    exact ⟨cs', h3, h4.trans h2⟩
  · have := World.rangeAt_setCells_apart (h.head k hk) bs (i * 52 + 2 + f * 5) (wc d) (by simp only [wc_len, List.length_cons, List.length_nil]; rcases Nat.lt_trichotomy k i with e | e | e <;> omega)
    by_cases e : k = i
    · subst e; simpa using this
    · simpa [e] using this
  · by_cases e : k = i
    · subst e
      by_cases e2 : g = f
      · subst e2
        simpa [WdAt] using World.rangeAt_setCells_same w bs (k * 52 + 2 + g * 5) (wc d) (h.there (by simp [wc_len]; omega))
      · have := World.rangeAt_setCells_apart (h.cell k g hk hg) bs (k * 52 + 2 + f * 5) (wc d) (by simp [wc_len]; omega)
        simpa [e2, WdAt] using this
    · have := World.rangeAt_setCells_apart (h.cell k g hk hg) bs (i * 52 + 2 + f * 5) (wc d) (by simp only [wc_len]; rcases Nat.lt_trichotomy k i with e | e | e <;> omega)
      simpa [e, WdAt] using this
theorem Slots.flag (h : Slots w bs n S) {i : Nat} (hi : i < n) (b : Bool) :
    Slots (w.setCells bs (i * 52 + 1) [.bool b]) bs n (fun k => if k = i then { S i with given := b } else S k) := by
  refine ⟨?_, fun k hk => ?_, fun k g hk hg => ?_⟩
  · obtain ⟨cs, h1, h2⟩ := h.blk
    obtain ⟨cs', h3, h4⟩ := blk_sets [.bool b] (i * 52 + 1) h1
    exact ⟨cs', h3, h4.trans h2⟩
  · by_cases e : k = i
    · subst e
      have h0 : w.rangeAt bs (k * 52) [.int .i64 ((S k).gen : Int)] := fun j v hv => by
        match j with
        | 0 => exact h.head k hk 0 v (by simpa using hv)
        | j + 1 => simp at hv
      have h1 := World.rangeAt_setCells_apart h0 bs (k * 52 + 1) [.bool b] (by simp)
      have h2 := World.rangeAt_setCells_same w bs (k * 52 + 1) [.bool b] (h.there (by simp; omega))
      intro j v hv
      match j with
      | 0 => exact h1 0 v (by simpa using hv)
      | 1 => exact h2 0 v (by simpa using hv)
      | j + 2 => simp at hv
    · have := World.rangeAt_setCells_apart (h.head k hk) bs (i * 52 + 1) [.bool b] (by simp; omega)
      simpa [e] using this
  · have := World.rangeAt_setCells_apart (h.cell k g hk hg) bs (i * 52 + 1) [.bool b] (by simp only [wc_len, List.length_cons, List.length_nil]; rcases Nat.lt_trichotomy k i with e | e | e <;> omega)
    by_cases e : k = i
    · subst e; simpa [WdAt] using this
    · simpa [e, WdAt] using this
/-- The cells of a slot that is given. -/
def freshCells (g : Int) : List Value := [.int .i64 g, .bool true] ++ (wc zw ++ (wc zw ++ (wc zw ++ (wc zw ++ (wc zw ++ (wc zw ++ (wc zw ++ (wc zw ++ (wc zw ++ wc zw)))))))))
theorem fresh_at (g : Int) : ∀ f, f < 10 → ∀ j, j < 5 → (freshCells g)[2 + f * 5 + j]? = (wc zw)[j]? := by
  intro f hf j hj
  match f, hf with
  | 0, _ | 1, _ | 2, _ | 3, _ | 4, _ | 5, _ | 6, _ | 7, _ | 8, _ | 9, _ =>
    match j, hj with
    | 0, _ | 1, _ | 2, _ | 3, _ | 4, _ => rfl
theorem Slots.fresh (h : Slots w bs n S) {i : Nat} (hi : i < n) (g : Nat) :
    Slots (w.setCells bs (i * 52) (freshCells g)) bs n (fun k => if k = i then ⟨g, true, fun _ => zw⟩ else S k) := by
  have hl : (freshCells g).length = 52 := rfl
  have hs := World.rangeAt_setCells_same w bs (i * 52) (freshCells g) (h.there (by rw [hl]; omega))
  refine ⟨?_, fun k hk => ?_, fun k f hk hf => ?_⟩
  · obtain ⟨cs, h1, h2⟩ := h.blk
    obtain ⟨cs', h3, h4⟩ := blk_sets (freshCells g) (i * 52) h1
    exact ⟨cs', h3, h4.trans h2⟩
  · by_cases e : k = i
    · subst e
      rw [if_pos rfl]
      intro j v hv
      match j with
      | 0 => exact hs 0 v (by simpa [freshCells] using hv)
      | 1 => exact hs 1 v (by simpa [freshCells] using hv)
      | j + 2 => simp at hv
    · rw [if_neg e]
      exact World.rangeAt_setCells_apart (h.head k hk) bs (i * 52) (freshCells g) (by simp only [hl, List.length_cons, List.length_nil]; rcases Nat.lt_trichotomy k i with e | e | e <;> omega)
  · by_cases e : k = i
    · subst e
      rw [if_pos rfl]
      intro j v hv
      have hj : j < 5 := (List.getElem?_eq_some_iff.1 hv).1
      have := hs (2 + f * 5 + j) v (by rw [fresh_at g f hf j hj]; exact hv)
      rw [show k * 52 + 2 + f * 5 + j = k * 52 + (2 + f * 5 + j) by omega]
      exact this
    · rw [if_neg e]
      exact World.rangeAt_setCells_apart (h.cell k f hk hf) bs (i * 52) (freshCells g) (by simp only [hl, wc_len]; rcases Nat.lt_trichotomy k i with e | e | e <;> omega)
theorem Brd.word (h : Brd w bb m D) {f : Nat} (hf : f < m) (d : Wd) : Brd (w.setCells bb (f * 5) (wc d)) bb m (fun k => if k = f then d else D k) := by
  refine ⟨?_, fun k hk => ?_⟩
  · obtain ⟨cs, h1, h2⟩ := h.blk
    obtain ⟨cs', h3, h4⟩ := blk_sets (wc d) (f * 5) h1
    exact ⟨cs', h3, h4.trans h2⟩
  · by_cases e : k = f
    · subst e
      rw [if_pos rfl]
      exact World.rangeAt_setCells_same w bb (k * 5) (wc d) (h.there (by simp [wc_len]; omega))
    · rw [if_neg e]
      exact World.rangeAt_setCells_apart (h.cell k hk) bb (f * 5) (wc d) (by simp [wc_len]; omega)
end

/-! ### a plot -/
/-- The row of the free slots: the one that is given next stands at its end. -/
def frow (l : List Nat) : List Value := (l.reverse).map fun (i : Nat) => Value.int .i64 ((i : Int) + 1)
/-- The first fault's error. -/
def FaultIs (w : World) (B : Nat) (E : Flt → Addr) (v : Value) : Option (Nat × Flt) → Prop
  | none => v = .nilIface
  | some (k, x) => ∃ b, v = .iface 158 (.pointer (some ⟨b, 0, none⟩)) ∧ B ≤ b ∧ BlkW w b 161 #[.int .i64 (k : Int), .iface 260 (.pointer (some (E x)))]
/-- A plot's own cells. -/
def pc (bs bb : Nat) (v fv : Value) (t : St) : Array Value := #[.slice (some ⟨bs, 0, none⟩) t.n t.n, .slice (some ⟨bb, 0, none⟩) t.m t.m, v, .int .i64 (t.steps : Int), .int .i64 (t.made : Int), fv]
structure Rep (w : World) (E : Flt → Addr) (B p bs bb : Nat) (v fv : Value) (t : St) : Prop where
  hp : BlkW w p 116 (pc bs bb v fv t)
  slots : Slots w bs t.n t.slot
  brd : Brd w bb t.m t.board
  free : w.ownsRow B 3 1 v t.free.length (frow t.free)
  fault : FaultIs w B E fv t.fault
  bp : B ≤ p
  bbs : B ≤ bs
  bbb : B ≤ bb
/-- The blocks that an access may turn. -/
def Mine (p bs bb : Nat) (v : Value) (j : Nat) : Prop := j = p ∨ j = bs ∨ j = bb ∨ v.ownBlock = some j
section
variable {w w' : World} {E : Flt → Addr} {B p bs bb : Nat} {v fv : Value} {t : St}
theorem FaultIs.keep {o : Option (Nat × Flt)} (h : FaultIs w B E fv o) (hk : ∀ b cs, BlkW w b 161 cs → w'.heap[b]? = w.heap[b]?) : FaultIs w' B E fv o := by
  match o, h with
  | none, h => exact h
  | some (k, x), ⟨b, h1, h2, h3⟩ => exact ⟨b, h1, h2, (hk b _ h3).trans h3⟩
theorem Rep.mine_ge (h : Rep w E B p bs bb v fv t) : ∀ j, Mine p bs bb v j → B ≤ j := by
  rintro j (rfl | rfl | rfl | e)
  · exact h.bp
  · exact h.bbs
  · exact h.bbb
  · exact (h.free.lt j e).1
theorem Rep.lt (h : Rep w E B p bs bb v fv t) : p < w.heap.size ∧ bs < w.heap.size ∧ bb < w.heap.size := ⟨h.hp.lt, h.slots.lt, h.brd.lt⟩
theorem Rep.ne (h : Rep w E B p bs bb v fv t) : p ≠ bs ∧ p ≠ bb ∧ bs ≠ bb ∧ v.ownBlock ≠ some p ∧ v.ownBlock ≠ some bs ∧ v.ownBlock ≠ some bb := by
  obtain ⟨cs, h1, _⟩ := h.slots.blk
  obtain ⟨cb, h2, _⟩ := h.brd.blk
  exact ⟨h.hp.ne_ h1 (by decide), h.hp.ne_ h2 (by decide), h1.ne_ h2 (by decide), own_ne h.free h.hp (by decide), own_ne h.free h1 (by decide), own_ne h.free h2 (by decide)⟩
theorem Rep.base_lt (h : Rep w E B p bs bb v fv t) : B ≤ w.heap.size := Nat.le_of_lt (Nat.lt_of_le_of_lt h.bp h.hp.lt)
theorem Rep.keep (h : Rep w E B p bs bb v fv t) (hb : Below w.heap.size w w') : Rep w' E B p bs bb v fv t :=
  ⟨h.hp.below hb, h.slots.block (hb.block _ h.slots.lt), h.brd.block (hb.block _ h.brd.lt),
    h.free.kept (row := none) ⟨hb.os, hb.tape, hb.output, hb.size, fun j hj _ => hb.block j hj⟩ (by cases hv : v.ownBlock <;> simp),
    h.fault.keep (fun b cs hk => hb.block b hk.lt), h.bp, h.bbs, h.bbb⟩
theorem Rep.alloc (h : Rep w E B p bs bb v fv t) (o : Obj) : Rep (w.alloc o) E B p bs bb v fv t := h.keep ((Below.refl _ _).alloc (Nat.le_refl _) _)
/-- A world that differs in one block of another type. -/
theorem Rep.other (h : Rep w E B p bs bb v fv t) (x : Nat) (hg : w.grownBy w' (some x)) (h1 : x ≠ p) (h2 : x ≠ bs) (h3 : x ≠ bb) (h4 : v.ownBlock ≠ some x) (h5 : ∀ cs, ¬ BlkW w x 161 cs) : Rep w' E B p bs bb v fv t :=
  ⟨(hg.block _ h.hp.lt (by simpa using Ne.symm h1)).trans h.hp, h.slots.block (hg.block _ h.slots.lt (by simpa using Ne.symm h2)), h.brd.block (hg.block _ h.brd.lt (by simpa using Ne.symm h3)),
    h.free.kept hg (.inr h4), h.fault.keep (fun b cs hk => hg.block b hk.lt (by
      intro e
      have e : b = x := by simpa using e
      subst e
      exact h5 cs hk)), h.bp, h.bbs, h.bbb⟩
theorem grown_set (w : World) (b o : Nat) (u : Value) : w.grownBy (w.setCell ⟨b, o, none⟩ u) (some b) := ⟨rfl, rfl, rfl, by simp [World.setCell], fun k _ hk => Below.heap_setCell w ⟨b, o, none⟩ u k (fun e => hk (by rw [e]))⟩
theorem grown_sets (b : Nat) : ∀ (vs : List Value) (o : Nat) (w : World), w.grownBy (w.setCells b o vs) (some b)
  | [], _, _ => ⟨rfl, rfl, rfl, Nat.le_refl _, fun _ _ _ => rfl⟩
  | v :: r, o, w => (grown_set w b o v).trans (grown_sets b r (o + 1) _)
/-- A store into the plot's own cells. -/
theorem Rep.own (h : Rep w E B p bs bb v fv t) (i : Nat) (u : Value) {v' fv' : Value} {t' : St} (hc : (pc bs bb v fv t).setIfInBounds i u = pc bs bb v' fv' t') (hs : t'.n = t.n ∧ t'.m = t.m ∧ t'.slot = t.slot ∧ t'.board = t.board)
    (hf : w.ownsRow B 3 1 v' t'.free.length (frow t'.free)) (hx : FaultIs w B E fv' t'.fault) : Rep (w.setCell ⟨p, i, none⟩ u) E B p bs bb v' fv' t' := by
  obtain ⟨n1, n2, n3, n4, n5, n6⟩ := h.ne
  obtain ⟨e1, e2, e3, e4⟩ := hs
  have hg := grown_set w p i u
  refine ⟨by rw [← hc]; exact h.hp.set i u, ?_, ?_, hf.kept hg (.inr (own_ne hf h.hp (by decide))), hx.keep (fun b cs hk => hg.block b hk.lt (by
    intro e
    have e : b = p := by simpa using e
    subst e
    exact BlkW.ne_ hk h.hp (by decide) rfl)), h.bp, h.bbs, h.bbb⟩
  · rw [e1, e3]; exact h.slots.block (hg.block _ h.slots.lt (by simpa using Ne.symm n1))
  · rw [e2, e4]; exact h.brd.block (hg.block _ h.brd.lt (by simpa using Ne.symm n2))
/-- A store into the block of the slots. -/
theorem Rep.inSlots (h : Rep w E B p bs bb v fv t) (o : Nat) (vs : List Value) {S : Nat → Sl} (hs : Slots (w.setCells bs o vs) bs t.n S) : Rep (w.setCells bs o vs) E B p bs bb v fv { t with slot := S } := by
  obtain ⟨n1, n2, n3, n4, n5, n6⟩ := h.ne
  obtain ⟨cs, hblk, _⟩ := h.slots.blk
  have hg := grown_sets bs vs o w
  refine ⟨(hg.block _ h.hp.lt (by simpa using n1)).trans h.hp, hs, h.brd.block (hg.block _ h.brd.lt (by simpa using Ne.symm n3)), h.free.kept hg (.inr n5), h.fault.keep (fun b cs hk => hg.block b hk.lt (by
    intro e
    have e : b = bs := by simpa using e
    subst e
    exact BlkW.ne_ hk hblk (by decide) rfl)), h.bp, h.bbs, h.bbb⟩
theorem Rep.inBrd (h : Rep w E B p bs bb v fv t) (o : Nat) (vs : List Value) {D : Nat → Wd} (hs : Brd (w.setCells bb o vs) bb t.m D) : Rep (w.setCells bb o vs) E B p bs bb v fv { t with board := D } := by
  obtain ⟨n1, n2, n3, n4, n5, n6⟩ := h.ne
  obtain ⟨cs, hblk, _⟩ := h.brd.blk
  have hg := grown_sets bb vs o w
  refine ⟨(hg.block _ h.hp.lt (by simpa using n2)).trans h.hp, h.slots.block (hg.block _ h.slots.lt (by simpa using n3)), hs, h.free.kept hg (.inr n6), h.fault.keep (fun b cs hk => hg.block b hk.lt (by
    intro e
    have e : b = bb := by simpa using e
    subst e
    exact BlkW.ne_ hk hblk (by decide) rfl)), h.bp, h.bbs, h.bbb⟩
/-- The address of a cell. -/
def Loc.at (bs bb : Nat) : Loc → Nat × Nat
  | .board f => (bb, f * 5)
  | .slot i f => (bs, i * 52 + 2 + f * 5)
def Loc.In (t : St) : Loc → Prop
  | .board f => f < t.m
  | .slot i f => i < t.n ∧ f < 10
theorem St.loc_in {s g f : Int} {l : Loc} (h : t.loc s g f = some l) : l.In t := by
  unfold St.loc at h
  split at h
  · split at h
    · obtain rfl := Option.some.inj h; show f.toNat < t.m; omega
    · cases h
  · split at h
    · obtain rfl := Option.some.inj h; show (s - 1).toNat < t.n ∧ f.toNat < 10; omega
    · cases h
theorem Rep.word (h : Rep w E B p bs bb v fv t) {l : Loc} (hl : l.In t) : WdAt w (l.at bs bb).1 (l.at bs bb).2 (t.read l) := by
  cases l with
  | board f => exact h.brd.cell f hl
  | slot i f => exact h.slots.cell i f hl.1 hl.2
theorem Rep.write (h : Rep w E B p bs bb v fv t) {l : Loc} (hl : l.In t) (d : Wd) : Rep (w.setCells (l.at bs bb).1 (l.at bs bb).2 (wc d)) E B p bs bb v fv (t.write l d) := by
  cases l with
  | board f => exact h.inBrd _ _ (h.brd.word hl d)
  | slot i f => exact h.inSlots _ _ (h.slots.word hl.1 hl.2 d)
theorem Rep.loc_mine {l : Loc} : Mine p bs bb v (l.at bs bb).1 := by
  cases l with
  | board f => exact .inr (.inr (.inl rfl))
  | slot i f => exact .inr (.inl rfl)
theorem Rep.there (h : Rep w E B p bs bb v fv t) {l : Loc} (hl : l.In t) : w.there (l.at bs bb).1 (l.at bs bb).2 5 := by
  cases l with
  | board f =>
    have hl : f < t.m := hl
    exact h.brd.there (by show f * 5 + 5 ≤ _; omega)
  | slot i f =>
    have hl : i < t.n ∧ f < 10 := hl
    exact h.slots.there (by show i * 52 + 2 + f * 5 + 5 ≤ _; omega)
end
end Go.Proofs.YtihjklimcchkhaaGreatDoor
