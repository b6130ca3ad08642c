/- What cortege stands on: with the rite, its texts; else what they have beside the rite. A template (fill.py; made by program). -/
import Derived.Test.YtihjklimcchkhaaDoorWd
import Derived.Test.YtihjklimcchkhaaDoorGlyph
import Derived.Test.YtihjklimcchkhaaDoorBr
import Derived.Deep.MidRow
import Derived.Maps.AppendAt
import Derived.Deep.AppendLies
import Derived.Deep.RegionWith
import Derived.Deep.Cut
import Derived.Deep.RegionHeld3
import Derived.Outline
namespace Go.Proofs.YtihjklimcchkhaaDoor
open Go.RowKit Go.Extern.Stop Go.Stop Go.Extern Go.Sort
/-! ### but for some blocks the world is as it was -/
structure Off (K : Nat → Prop) (w w' : World) : Prop where
  os : w'.os = w.os
  tape : w'.tape = w.tape
  output : w'.output = w.output
  size : w.heap.size ≤ w'.heap.size
  block : ∀ j, j < w.heap.size → ¬ K j → w'.heap[j]? = w.heap[j]?
section
variable {K K' : Nat → Prop} {a w w' : World}
theorem Off.refl (K : Nat → Prop) (w : World) : Off K w w := ⟨rfl, rfl, rfl, Nat.le_refl _, fun _ _ _ => rfl⟩
theorem Off.trans (h : Off K a w) (k : Off K' w w') (hk : ∀ j, j < a.heap.size → K' j → K j) : Off K a w' :=
  ⟨k.os.trans h.os, k.tape.trans h.tape, k.output.trans h.output, Nat.le_trans h.size k.size, fun j hj hn => (k.block j (Nat.lt_of_lt_of_le hj h.size) (fun e => hn (hk j hj e))).trans (h.block j hj hn)⟩
theorem Off.of_below (h : Below w.heap.size w w') : Off K w w' := ⟨h.os, h.tape, h.output, h.size, fun j hj _ => h.block j hj⟩
theorem Off.then (h : Off K a w) (k : Below w.heap.size w w') : Off K a w' := h.trans (Off.of_below (K := fun _ => False) k) (fun _ _ e => e.elim)
theorem Off.alloc (h : Off K a w) (o : Obj) : Off K a (w.alloc o) := h.then ((Below.refl _ _).alloc (Nat.le_refl _) _)
theorem Off.set (h : Off K a w) {b : Nat} (hb : K b ∨ a.heap.size ≤ b) (o : Nat) (v : Value) : Off K a (w.setCell ⟨b, o, none⟩ v) :=
  ⟨h.os, h.tape, h.output, by simpa [World.setCell] using h.size, fun j hj hn => (Below.heap_setCell w ⟨b, o, none⟩ v j (fun e => by
    have e : j = b := e
    subst e
    rcases hb with hb | hb
    · exact hn hb
    · omega)).trans (h.block j hj hn)⟩
theorem Off.sets {b : Nat} (hb : K b ∨ a.heap.size ≤ b) : ∀ (vs : List Value) (o : Nat) {w : World}, Off K a w → Off K a (w.setCells b o vs)
  | [], _, _, h => h
  | v :: r, o, _, h => Off.sets hb r (o + 1) (h.set hb o v)
theorem Off.grown (h : Off K a w) {row : Option Nat} (hg : w.grownBy w' row) (hr : ∀ k, row = some k → K k ∨ a.heap.size ≤ k) : Off K a w' :=
  ⟨hg.os.trans h.os, hg.tape.trans h.tape, hg.output.trans h.output, Nat.le_trans h.size hg.size, fun j hj hn => (hg.block j (Nat.lt_of_lt_of_le hj h.size) (fun e => by
    rcases hr j e.symm with k | k
    · exact hn k
    · omega)).trans (h.block j hj hn)⟩
theorem Off.below (h : Off K w w') {B : Nat} (hK : ∀ j, K j → B ≤ j) (hB : B ≤ w.heap.size) : Below B w w' :=
  ⟨h.os, h.tape, h.output, h.size, fun j hj => h.block j (by omega) (fun e => by have := hK j e; omega)⟩
theorem Off.blk (h : Off K w w') {g : Nat} {t : TypeId} {cs : Array Value} (hg : BlkW w g t cs) (hn : ¬ K g) : BlkW w' g t cs := (h.block g hg.lt hn).trans hg
theorem Off.cell (h : Off K w w') {b o : Nat} (hb : b < w.heap.size) (hn : ¬ K b) : w'.cell? ⟨b, o, none⟩ = w.cell? ⟨b, o, none⟩ := World.cell?_of_block (w := w) (h.block b hb hn)
end

theorem blk_sets {g : Nat} {t : TypeId} : ∀ (vs : List Value) (o : Nat) {w : World} {cs : Array Value}, BlkW w g t cs → ∃ cs', BlkW (w.setCells g o vs) g t cs' ∧ cs'.size = cs.size
  | [], _, _, cs, h => ⟨cs, h, rfl⟩
  | v :: r, o, _, _, h => by
    obtain ⟨cs', h1, h2⟩ := blk_sets r (o + 1) (h.set o v)
    exact ⟨cs', h1, by simpa using h2⟩
theorem blk_far {g b : Nat} {t : TypeId} {cs : Array Value} (hne : g ≠ b) : ∀ (vs : List Value) (o : Nat) {w : World}, BlkW w g t cs → BlkW (w.setCells b o vs) g t cs
  | [], _, _, h => h
  | v :: r, o, _, h => blk_far hne r (o + 1) (h.far hne v)
theorem BlkW.ne_ {w : World} {g g' : Nat} {t t' : TypeId} {cs cs' : Array Value} (h : BlkW w g t cs) (h' : BlkW w g' t' cs') (hne : t ≠ t') : g ≠ g' := by
  rintro rfl
  unfold BlkW at h h'
  rw [h] at h'
  injection h' with h'
  injection h' with _ ht
  exact hne ht
theorem own_ne {w : World} {base g : Nat} {e t : TypeId} {size n : Nat} {v : Value} {xs : List Value} {cs : Array Value} (h : w.ownsRow base e size v n xs) (hg : BlkW w g t cs) (hne : e ≠ t) : v.ownBlock ≠ some g := by
  rcases h.2 with ⟨rfl, _⟩ | ⟨g', cap, cur, rfl, _, hh, _⟩
  · simp [Value.ownBlock]
  · intro he
    have : g' = g := by simpa [Value.ownBlock] using he
    subst this
    exact BlkW.ne_ (t := e) hh hg hne rfl
theorem there_of_blk {w : World} {g : Nat} {t : TypeId} {cs : Array Value} (h : BlkW w g t cs) (o n : Nat) (hn : o + n ≤ cs.size) : w.there g o n := fun j hj =>
  ⟨by rw [h.cell]; simp; omega, h.frozen _⟩
theorem range_block {w w' : World} {b o : Nat} {cs : List Value} (h : w.rangeAt b o cs) (hb : w'.heap[b]? = w.heap[b]?) : w'.rangeAt b o cs := fun j v hv => by
  rw [World.cell?_of_block (w := w) (a := ⟨b, o + j, none⟩) hb]; exact h j v hv

/-! ### words in memory -/
/-- A word's five cells. -/
def wc (d : Wd) : List Value := [.int .i64 d.slot, .int .i64 d.gen, .int .i64 d.tag, .int .i64 d.num, .bool d.mark]
/-- A word as a value. -/
def wv (d : Wd) : Value := .agg #[.int .i64 d.slot, .int .i64 d.gen, .int .i64 d.tag, .int .i64 d.num, .bool d.mark]
def zw : Wd := ⟨0, 0, 0, 0, false⟩
def nw (k : Int) : Wd := ⟨0, 0, 0, k, false⟩
/-- A call. -/
structure Cl where
  kind : Int
  s : Int
  g : Int
  f : Int
  old : Wd
  new : Wd
  i : Int
  j : Int
def zc : Cl := ⟨0, 0, 0, 0, zw, zw, 0, 0⟩
def rpc (x : Wd × Bool) : List Value := [.int .i64 x.1.slot, .int .i64 x.1.gen, .int .i64 x.1.tag, .int .i64 x.1.num, .bool x.1.mark, .bool x.2]
def rpv (x : Wd × Bool) : Value := .agg #[.int .i64 x.1.slot, .int .i64 x.1.gen, .int .i64 x.1.tag, .int .i64 x.1.num, .bool x.1.mark, .bool x.2]
def adv (x : Int × Int × Int) : Value := .agg #[.int .i64 x.1, .int .i64 x.2.1, .int .i64 x.2.2]
def putL (l : List Value) (o : Nat) : List Value → List Value
  | [] => l
  | v :: r => putL (l.set o v) (o + 1) r
theorem blk_puts {g : Nat} {t : TypeId} : ∀ (vs : List Value) (o : Nat) {w : World} {l : List Value}, BlkW w g t l.toArray → BlkW (w.setCells g o vs) g t (putL l o vs).toArray
  | [], _, _, _, h => h
  | v :: r, o, _, _, h => blk_puts r (o + 1) (by have := h.set o v; rwa [List.setIfInBounds_toArray] at this)
/-- Only the block r may be another one. -/
def Only (r : Nat) (w w' : World) : Prop := Off (fun j => j = r) w w'
theorem Only.trans {r : Nat} {a b c : World} (h : Only r a b) (k : Only r b c) : Only r a c := Off.trans h k (fun _ _ e => e)
theorem Only.of_below {r : Nat} {a b : World} (h : Below a.heap.size a b) : Only r a b := Off.of_below h
theorem Only.lt {r : Nat} {a b : World} (h : Only r a b) {x : Nat} (hx : x < a.heap.size) : x < b.heap.size := Nat.lt_of_lt_of_le hx h.size
theorem Only.cell {r : Nat} {w w' : World} (h : Only r w w') {x o : Nat} {v : Value} (hx : x < w.heap.size) (hn : x ≠ r) (e : w.cell? ⟨x, o, none⟩ = some v) : w'.cell? ⟨x, o, none⟩ = some v := (Off.cell (o := o) h hx hn).trans e
theorem Only.sets {r : Nat} {w : World} (o : Nat) (l : List Value) : Only r w (w.setCells r o l) := Off.sets (K := fun j => j = r) (.inl rfl) _ _ (Off.refl _ w)
theorem Only.drew {r : Nat} {w : World} : Only r w w.drew := Only.of_below (Below.refl _ _).drew
theorem keep_cell {w w' : World} {a : Addr} {v : Value} (hb : Below w.heap.size w w') (h : w.cell? a = some v) : w'.cell? a = some v := by rw [hb.cell (lt_of_cell h)]; exact h
theorem box_rep (w : World) (x : Wd × Bool) : BlkW (w.alloc (.cells #[.int .i64 x.1.slot, .int .i64 x.1.gen, .int .i64 x.1.tag, .int .i64 x.1.num, .bool x.1.mark, .bool x.2] 44)) w.heap.size 44 (rpc x).toArray := BlkW.new _ _ _
theorem rep6 {w : World} {g : Nat} {x : Wd × Bool} (h : BlkW w g 44 (rpc x).toArray) : w.cell? ⟨g, 0, none⟩ = some (.int .i64 x.1.slot) ∧ w.cell? ⟨g, 1, none⟩ = some (.int .i64 x.1.gen) ∧ w.cell? ⟨g, 2, none⟩ = some (.int .i64 x.1.tag) ∧ w.cell? ⟨g, 3, none⟩ = some (.int .i64 x.1.num) ∧ w.cell? ⟨g, 4, none⟩ = some (.bool x.1.mark) ∧ w.cell? ⟨g, 5, none⟩ = some (.bool x.2) := ⟨h.cell 0, h.cell 1, h.cell 2, h.cell 3, h.cell 4, h.cell 5⟩
theorem infoCl : (Tryd.prog.info? 41).map (·.size) = some 18 := by kernel_rfl
end Go.Proofs.YtihjklimcchkhaaDoor
