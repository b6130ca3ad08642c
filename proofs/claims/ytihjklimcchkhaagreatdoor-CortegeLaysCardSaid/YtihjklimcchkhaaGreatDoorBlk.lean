/- Blocks that are known whole; words by value in such blocks; a world grown behind a variable; a slice that reads as a list. A template (fill.py). -/
import Derived.Test.YtihjklimcchkhaaGreatDoorErr
import Derived.Lib.QuietBelow
import Derived.Lib.Hide
import Derived.BigQuiet
import Derived.Laws.OwnMore
import Derived.Laws.AppendOwn
import Derived.Deep.AppendLies
import Derived.OwnWalk
namespace Go.Proofs.YtihjklimcchkhaaGreatDoor
open Go.RowKit Go.Extern.Stop Go.Stop Go.Extern Go.Sort

theorem below_alloc {W X : World} (h : Below W.heap.size W X) (o : Obj) : Below W.heap.size W (X.alloc o) := h.alloc h.size o
theorem below_trans {W X Y : World} (h : Below W.heap.size W X) (k : Below X.heap.size X Y) : Below W.heap.size W Y := h.trans (k.mono h.size)
theorem below_set {W X : World} (h : Below W.heap.size W X) (b o : Nat) (v : Value) (hb : W.heap.size ≤ b) : Below W.heap.size W (X.setCell ⟨b, o, none⟩ v) := h.setCell hb v
/-! ### a block that is known whole -/
def BlkW (w : World) (g : Nat) (t : TypeId) (cs : Array Value) : Prop := w.heap[g]? = some (.cells cs t (0, 0))
section
variable {w w' : World} {g : Nat} {t : TypeId} {cs : Array Value}
theorem BlkW.lt (h : BlkW w g t cs) : g < w.heap.size := by
  rcases Nat.lt_or_ge g w.heap.size with hlt | hge
  · exact hlt
  · unfold BlkW at h; rw [Array.getElem?_eq_none hge] at h; cases h
theorem BlkW.cell (h : BlkW w g t cs) (i : Nat) : w.cell? ⟨g, i, none⟩ = cs[i]? := by
  unfold BlkW at h
  simp [World.cell?, h]
theorem BlkW.frozen (h : BlkW w g t cs) (i : Nat) : w.frozen? ⟨g, i, none⟩ = false := by
  unfold BlkW at h
  simp [World.frozen?, h]
theorem BlkW.new (w : World) (t : TypeId) (cs : Array Value) : BlkW (w.alloc (.cells cs t)) w.heap.size t cs := by
  show (w.heap.push _)[w.heap.size]? = _
  simp
theorem BlkW.alloc (h : BlkW w g t cs) (o : Obj) : BlkW (w.alloc o) g t cs := (Below.heap_alloc w o g h.lt).trans h
theorem BlkW.set (h : BlkW w g t cs) (i : Nat) (u : Value) : BlkW (w.setCell ⟨g, i, none⟩ u) g t (cs.setIfInBounds i u) := by
  unfold BlkW at h ⊢
  simp [World.setCell, Array.getElem?_modify, h]
theorem BlkW.far (h : BlkW w g t cs) {b i : Nat} (hp : g ≠ b) (u : Value) : BlkW (w.setCell ⟨b, i, none⟩ u) g t cs := (Below.heap_setCell w ⟨b, i, none⟩ u g hp).trans h
theorem BlkW.below (h : BlkW w g t cs) (hb : Below w.heap.size w w') : BlkW w' g t cs := (hb.block g h.lt).trans h
end

theorem blk2 (w : World) (c1 c2 : Array Value) (t1 t2 : TypeId) :
    BlkW ((w.alloc (.cells c1 t1)).alloc (.cells c2 t2)) w.heap.size t1 c1 ∧ BlkW ((w.alloc (.cells c1 t1)).alloc (.cells c2 t2)) (w.heap.size + 1) t2 c2 := by
  have h2 := BlkW.new (w.alloc (.cells c1 t1)) t2 c2
  simp only [World.size_alloc] at h2
  exact ⟨(BlkW.new w t1 c1).alloc _, h2⟩
theorem blk3 (w : World) (c1 c2 c3 : Array Value) (t1 t2 t3 : TypeId) :
    BlkW (((w.alloc (.cells c1 t1)).alloc (.cells c2 t2)).alloc (.cells c3 t3)) w.heap.size t1 c1 ∧ BlkW (((w.alloc (.cells c1 t1)).alloc (.cells c2 t2)).alloc (.cells c3 t3)) (w.heap.size + 1) t2 c2 ∧
    BlkW (((w.alloc (.cells c1 t1)).alloc (.cells c2 t2)).alloc (.cells c3 t3)) (w.heap.size + 1 + 1) t3 c3 := by
  have h2 := (BlkW.new (w.alloc (.cells c1 t1)) t2 c2).alloc (.cells c3 t3)
  have h3 := BlkW.new ((w.alloc (.cells c1 t1)).alloc (.cells c2 t2)) t3 c3
  simp only [World.size_alloc] at h2 h3
  exact ⟨((BlkW.new w t1 c1).alloc _).alloc _, h2, h3⟩
theorem blk4 (w : World) (c1 c2 c3 c4 : Array Value) (t1 t2 t3 t4 : TypeId) :
    BlkW ((((w.alloc (.cells c1 t1)).alloc (.cells c2 t2)).alloc (.cells c3 t3)).alloc (.cells c4 t4)) w.heap.size t1 c1 ∧ BlkW ((((w.alloc (.cells c1 t1)).alloc (.cells c2 t2)).alloc (.cells c3 t3)).alloc (.cells c4 t4)) (w.heap.size + 1) t2 c2 ∧
    BlkW ((((w.alloc (.cells c1 t1)).alloc (.cells c2 t2)).alloc (.cells c3 t3)).alloc (.cells c4 t4)) (w.heap.size + 1 + 1) t3 c3 ∧ BlkW ((((w.alloc (.cells c1 t1)).alloc (.cells c2 t2)).alloc (.cells c3 t3)).alloc (.cells c4 t4)) (w.heap.size + 1 + 1 + 1) t4 c4 := by
  have h2 := ((BlkW.new (w.alloc (.cells c1 t1)) t2 c2).alloc (.cells c3 t3)).alloc (.cells c4 t4)
  have h3 := (BlkW.new ((w.alloc (.cells c1 t1)).alloc (.cells c2 t2)) t3 c3).alloc (.cells c4 t4)
  have h4 := BlkW.new (((w.alloc (.cells c1 t1)).alloc (.cells c2 t2)).alloc (.cells c3 t3)) t4 c4
  simp only [World.size_alloc] at h2 h3 h4
  exact ⟨(((BlkW.new w t1 c1).alloc _).alloc _).alloc _, h2, h3, h4⟩

theorem cell5 {w : World} {g : Nat} {v0 v1 v2 v3 v4 : Value} (h : BlkW w g 34 #[v0, v1, v2, v3, v4]) :
    w.cell? ⟨g, 0, none⟩ = some v0 ∧ w.cell? ⟨g, 1, none⟩ = some v1 ∧ w.cell? ⟨g, 2, none⟩ = some v2 ∧ w.cell? ⟨g, 3, none⟩ = some v3 ∧ w.cell? ⟨g, 4, none⟩ = some v4 :=
  ⟨h.cell 0, h.cell 1, h.cell 2, h.cell 3, h.cell 4⟩

theorem re5 {w : World} {g : Nat} {v0 v1 v2 v3 v4 : Value} (h : BlkW w g 34 #[v0, v1, v2, v3, v4]) :
    (∀ d os, (grow (redrawn w d) os).cell? ⟨g, 0, none⟩ = some v0) ∧ (∀ d os, (grow (redrawn w d) os).cell? ⟨g, 1, none⟩ = some v1) ∧ (∀ d os, (grow (redrawn w d) os).cell? ⟨g, 2, none⟩ = some v2) ∧
    (∀ d os, (grow (redrawn w d) os).cell? ⟨g, 3, none⟩ = some v3) ∧ (∀ d os, (grow (redrawn w d) os).cell? ⟨g, 4, none⟩ = some v4) :=
  ⟨cell_regrown (h.cell 0), cell_regrown (h.cell 1), cell_regrown (h.cell 2), cell_regrown (h.cell 3), cell_regrown (h.cell 4)⟩
/-- The slice v reads as the list xs. -/
def Row (w : World) (v : Value) (xs : List Int) : Prop :=
  ((∃ ao cap, v = .slice ao 0 cap) ∧ xs = []) ∨ ∃ b off cap, v = .slice (some ⟨b, off, none⟩) xs.length cap ∧ b < w.heap.size ∧ xs.length ≤ cap ∧ ∀ i (h : i < xs.length), w.cell? ⟨b, off + i, none⟩ = some (.int .i64 xs[i])
theorem Row.keep {w w' : World} {v : Value} {xs : List Int} (h : Row w v xs) (hb : Below w.heap.size w w') : Row w' v xs := by
  rcases h with h | ⟨b, off, cap, h1, h2, h3, h4⟩
  · exact .inl h
  · exact .inr ⟨b, off, cap, h1, Nat.lt_of_lt_of_le h2 hb.size, h3, fun i hi => by rw [hb.cell (p := ⟨b, off + i, none⟩) h2]; exact h4 i hi⟩
theorem Row.slice {W : World} {v : Value} {xs : List Int} (h : Row W v xs) : ∃ ao c, v = .slice ao xs.length c := by
  rcases h with ⟨⟨_, _, rfl⟩, rfl⟩ | ⟨b, off, cap, rfl, _⟩
  · exact ⟨_, _, rfl⟩
  · exact ⟨_, _, rfl⟩
end Go.Proofs.YtihjklimcchkhaaGreatDoor
