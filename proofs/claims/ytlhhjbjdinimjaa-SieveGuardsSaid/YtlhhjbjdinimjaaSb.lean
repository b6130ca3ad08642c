/- Blocks that are known whole; a slice that reads as a list of structs; words, notes and spans by their cells; rows of the call's own. A template (fill.py). -/
import Derived.Test.YtlhhjbjdinimjaaProg
import Derived.WalkKit
import Derived.RowKitTokens
import Derived.Below
import Derived.LoopTactic
import Derived.Laws.NewBlocks
import Derived.Lib.QuietBelow
import Derived.Lib.Hide
import Derived.BigQuiet
import Derived.Laws.OwnMore
import Derived.Laws.AppendOwn
import Derived.Deep.AppendLies
import Derived.Deep.MidRow
import Derived.OwnWalk
import Derived.Maps.AppendAt
import Derived.Deep.QuietTactic
import Derived.Laws.StructEq
import Derived.Outline
import Derived.Test.YtlhhjbjdinimjaaWd
namespace Go.Proofs.Ytlhhjbjdinimjaa
open Go.RowKit Go.Extern.Stop Go.Stop Go.Extern Go.Sort

theorem lt_of_cell {W : World} {a : Addr} {v : Value} (h : W.cell? a = some v) : a.block < W.heap.size := by
  rcases Nat.lt_or_ge a.block W.heap.size with h' | h'
  · exact h'
  · simp [World.cell?, Array.getElem?_eq_none h'] at h
theorem bcell {W w1 : World} (hb : Below W.heap.size W w1) : (∀ b o, b < W.heap.size → w1.cell? ⟨b, o, none⟩ = W.cell? ⟨b, o, none⟩) ∧ (∀ b o, b < W.heap.size → w1.frozen? ⟨b, o, none⟩ = W.frozen? ⟨b, o, none⟩) :=
  ⟨fun b o h => hb.cell (p := ⟨b, o, none⟩) h, fun b o h => hb.frozen (p := ⟨b, o, none⟩) h⟩
theorem below_alloc {W X : World} (h : Below W.heap.size W X) (o : Obj) : Below W.heap.size W (X.alloc o) := h.alloc h.size o
theorem below_trans {W X Y : World} (h : Below W.heap.size W X) (k : Below X.heap.size X Y) : Below W.heap.size W Y := h.trans (k.mono h.size)
theorem below_set {W X : World} (h : Below W.heap.size W X) (b o : Nat) (v : Value) (hb : W.heap.size ≤ b) : Below W.heap.size W (X.setCell ⟨b, o, none⟩ v) := h.setCell hb v
/-! ### a block that is known whole -/
def BlkW (w : World) (g : Nat) (t : TypeId) (cs : Array Value) : Prop := w.heap[g]? = some (.cells cs t (0, 0))
section
variable {w w' : World} {g : Nat} {t : TypeId} {cs : Array Value}
theorem BlkW.lt (h : BlkW w g t cs) : g < w.heap.size := by
  rcases Nat.lt_or_ge g w.heap.size with hlt | hge
  · exact hlt
  · unfold BlkW at h; rw [Array.getElem?_eq_none hge] at h; cases h
theorem BlkW.cell (h : BlkW w g t cs) (i : Nat) : w.cell? ⟨g, i, none⟩ = cs[i]? := by
  unfold BlkW at h
  simp [World.cell?, h]
theorem BlkW.frozen (h : BlkW w g t cs) (i : Nat) : w.frozen? ⟨g, i, none⟩ = false := by
  unfold BlkW at h
  simp [World.frozen?, h]
theorem BlkW.new (w : World) (t : TypeId) (cs : Array Value) : BlkW (w.alloc (.cells cs t)) w.heap.size t cs := by
  show (w.heap.push _)[w.heap.size]? = _
  simp
theorem BlkW.alloc (h : BlkW w g t cs) (o : Obj) : BlkW (w.alloc o) g t cs := (Below.heap_alloc w o g h.lt).trans h
theorem BlkW.set (h : BlkW w g t cs) (i : Nat) (u : Value) : BlkW (w.setCell ⟨g, i, none⟩ u) g t (cs.setIfInBounds i u) := by
  unfold BlkW at h ⊢
  simp [World.setCell, Array.getElem?_modify, h]
theorem BlkW.far (h : BlkW w g t cs) {b i : Nat} (hp : g ≠ b) (u : Value) : BlkW (w.setCell ⟨b, i, none⟩ u) g t cs := (Below.heap_setCell w ⟨b, i, none⟩ u g hp).trans h
theorem BlkW.below (h : BlkW w g t cs) (hb : Below w.heap.size w w') : BlkW w' g t cs := (hb.block g h.lt).trans h
end

theorem blk2 (w : World) (c1 c2 : Array Value) (t1 t2 : TypeId) :
    BlkW ((w.alloc (.cells c1 t1)).alloc (.cells c2 t2)) w.heap.size t1 c1 ∧ BlkW ((w.alloc (.cells c1 t1)).alloc (.cells c2 t2)) (w.heap.size + 1) t2 c2 := by
  have h2 := BlkW.new (w.alloc (.cells c1 t1)) t2 c2
  simp only [World.size_alloc] at h2
  exact ⟨(BlkW.new w t1 c1).alloc _, h2⟩
theorem blk3 (w : World) (c1 c2 c3 : Array Value) (t1 t2 t3 : TypeId) :
    BlkW (((w.alloc (.cells c1 t1)).alloc (.cells c2 t2)).alloc (.cells c3 t3)) w.heap.size t1 c1 ∧ BlkW (((w.alloc (.cells c1 t1)).alloc (.cells c2 t2)).alloc (.cells c3 t3)) (w.heap.size + 1) t2 c2 ∧
    BlkW (((w.alloc (.cells c1 t1)).alloc (.cells c2 t2)).alloc (.cells c3 t3)) (w.heap.size + 1 + 1) t3 c3 := by
  have h2 := (BlkW.new (w.alloc (.cells c1 t1)) t2 c2).alloc (.cells c3 t3)
  have h3 := BlkW.new ((w.alloc (.cells c1 t1)).alloc (.cells c2 t2)) t3 c3
  simp only [World.size_alloc] at h2 h3
  exact ⟨((BlkW.new w t1 c1).alloc _).alloc _, h2, h3⟩
theorem blk4 (w : World) (c1 c2 c3 c4 : Array Value) (t1 t2 t3 t4 : TypeId) :
    BlkW ((((w.alloc (.cells c1 t1)).alloc (.cells c2 t2)).alloc (.cells c3 t3)).alloc (.cells c4 t4)) w.heap.size t1 c1 ∧ BlkW ((((w.alloc (.cells c1 t1)).alloc (.cells c2 t2)).alloc (.cells c3 t3)).alloc (.cells c4 t4)) (w.heap.size + 1) t2 c2 ∧
    BlkW ((((w.alloc (.cells c1 t1)).alloc (.cells c2 t2)).alloc (.cells c3 t3)).alloc (.cells c4 t4)) (w.heap.size + 1 + 1) t3 c3 ∧ BlkW ((((w.alloc (.cells c1 t1)).alloc (.cells c2 t2)).alloc (.cells c3 t3)).alloc (.cells c4 t4)) (w.heap.size + 1 + 1 + 1) t4 c4 := by
  have h2 := ((BlkW.new (w.alloc (.cells c1 t1)) t2 c2).alloc (.cells c3 t3)).alloc (.cells c4 t4)
  have h3 := (BlkW.new ((w.alloc (.cells c1 t1)).alloc (.cells c2 t2)) t3 c3).alloc (.cells c4 t4)
  have h4 := BlkW.new (((w.alloc (.cells c1 t1)).alloc (.cells c2 t2)).alloc (.cells c3 t3)) t4 c4
  simp only [World.size_alloc] at h2 h3 h4
  exact ⟨(((BlkW.new w t1 c1).alloc _).alloc _).alloc _, h2, h3, h4⟩

theorem cell5 {w : World} {g : Nat} {v0 v1 v2 v3 v4 : Value} (h : BlkW w g 37 #[v0, v1, v2, v3, v4]) :
    w.cell? ⟨g, 0, none⟩ = some v0 ∧ w.cell? ⟨g, 1, none⟩ = some v1 ∧ w.cell? ⟨g, 2, none⟩ = some v2 ∧ w.cell? ⟨g, 3, none⟩ = some v3 ∧ w.cell? ⟨g, 4, none⟩ = some v4 :=
  ⟨h.cell 0, h.cell 1, h.cell 2, h.cell 3, h.cell 4⟩

theorem re5 {w : World} {g : Nat} {v0 v1 v2 v3 v4 : Value} (h : BlkW w g 37 #[v0, v1, v2, v3, v4]) :
    (∀ d os, (grow (redrawn w d) os).cell? ⟨g, 0, none⟩ = some v0) ∧ (∀ d os, (grow (redrawn w d) os).cell? ⟨g, 1, none⟩ = some v1) ∧ (∀ d os, (grow (redrawn w d) os).cell? ⟨g, 2, none⟩ = some v2) ∧
    (∀ d os, (grow (redrawn w d) os).cell? ⟨g, 3, none⟩ = some v3) ∧ (∀ d os, (grow (redrawn w d) os).cell? ⟨g, 4, none⟩ = some v4) :=
  ⟨cell_regrown (h.cell 0), cell_regrown (h.cell 1), cell_regrown (h.cell 2), cell_regrown (h.cell 3), cell_regrown (h.cell 4)⟩
/-- The slice v reads as the list xs. -/
def Row (w : World) (v : Value) (xs : List Int) : Prop :=
  ((∃ ao cap, v = .slice ao 0 cap) ∧ xs = []) ∨ ∃ b off cap, v = .slice (some ⟨b, off, none⟩) xs.length cap ∧ b < w.heap.size ∧ xs.length ≤ cap ∧ ∀ i (h : i < xs.length), w.cell? ⟨b, off + i, none⟩ = some (.int .i64 xs[i])
theorem Row.keep {w w' : World} {v : Value} {xs : List Int} (h : Row w v xs) (hb : Below w.heap.size w w') : Row w' v xs := by
  rcases h with h | ⟨b, off, cap, h1, h2, h3, h4⟩
  · exact .inl h
  · exact .inr ⟨b, off, cap, h1, Nat.lt_of_lt_of_le h2 hb.size, h3, fun i hi => by rw [hb.cell (p := ⟨b, off + i, none⟩) h2]; exact h4 i hi⟩
theorem Row.slice {W : World} {v : Value} {xs : List Int} (h : Row W v xs) : ∃ ao c, v = .slice ao xs.length c := by
  rcases h with ⟨⟨_, _, rfl⟩, rfl⟩ | ⟨b, off, cap, rfl, _⟩
  · exact ⟨_, _, rfl⟩
  · exact ⟨_, _, rfl⟩

theorem rangeAt_block {w w' : World} {b o : Nat} {l : List Value} (h : w.rangeAt b o l) (e : w'.heap[b]? = w.heap[b]?) : w'.rangeAt b o l := fun j v hv => by
  have := h j v hv
  rw [World.cell?_of_block (w := w) (w' := w') (a := ⟨b, o + j, none⟩) e]; exact this
/-- The slice v reads as the list xs, each element by its cells. -/
def RowC {α : Type} (cells : α → List Value) (k : Nat) (w : World) (v : Value) (xs : List α) : Prop :=
  ((∃ ao cap, v = .slice ao 0 cap) ∧ xs = []) ∨ ∃ b off cap, v = .slice (some ⟨b, off, none⟩) xs.length cap ∧ b < w.heap.size ∧ xs.length ≤ cap ∧ ∀ i (h : i < xs.length), w.rangeAt b (off + i * k) (cells xs[i])
theorem RowC.keep {α : Type} {cells : α → List Value} {k : Nat} {w w' : World} {v : Value} {xs : List α} (h : RowC cells k w v xs) (hb : Below w.heap.size w w') : RowC cells k w' v xs := by
  rcases h with h | ⟨b, off, cap, h1, h2, h3, h4⟩
  · exact .inl h
  · exact .inr ⟨b, off, cap, h1, Nat.lt_of_lt_of_le h2 hb.size, h3, fun i hi => rangeAt_block (h4 i hi) (hb.block b h2)⟩
theorem RowC.slice {α : Type} {cells : α → List Value} {k : Nat} {W : World} {v : Value} {xs : List α} (h : RowC cells k W v xs) : ∃ ao c, v = .slice ao xs.length c := by
  rcases h with ⟨⟨_, _, rfl⟩, rfl⟩ | ⟨b, off, cap, rfl, _⟩
  · exact ⟨_, _, rfl⟩
  · exact ⟨_, _, rfl⟩

/-! ### words, notes, spans -/
structure Nt where
  ref : Wd
  birth : Int
  death : Int
structure Sp where
  is : Bool
  low : Int
  high : Int
instance (a b : Nt) : Decidable (a = b) := decidable_of_iff (a.ref = b.ref ∧ a.birth = b.birth ∧ a.death = b.death) (by cases a; cases b; simp)
instance : DecidableEq Nt := fun _ _ => inferInstance
def wc (d : Wd) : List Value := [.int .i64 d.slot, .int .i64 d.gen, .int .i64 d.tag, .int .i64 d.num, .bool d.mark]
def nc (n : Nt) : List Value := [.int .i64 n.ref.slot, .int .i64 n.ref.gen, .int .i64 n.ref.tag, .int .i64 n.ref.num, .bool n.ref.mark, .int .i64 n.birth, .int .i64 n.death]
def sc (s : Sp) : List Value := [.bool s.is, .int .i64 s.low, .int .i64 s.high]
def ic (n : Int) : List Value := [.int .i64 n]
def wv (d : Wd) : Value := .agg #[.int .i64 d.slot, .int .i64 d.gen, .int .i64 d.tag, .int .i64 d.num, .bool d.mark]
def nv (n : Nt) : Value := .agg #[.int .i64 n.ref.slot, .int .i64 n.ref.gen, .int .i64 n.ref.tag, .int .i64 n.ref.num, .bool n.ref.mark, .int .i64 n.birth, .int .i64 n.death]
def sv (s : Sp) : Value := .agg #[.bool s.is, .int .i64 s.low, .int .i64 s.high]
def iv (n : Int) : Value := .int .i64 n
def flat {α : Type} (c : α → List Value) : List α → List Value
  | [] => []
  | d :: r => c d ++ flat c r
section
variable {α : Type} {c : α → List Value} {k : Nat}
theorem flat_len (hk : ∀ a, (c a).length = k) : ∀ G : List α, (flat c G).length = G.length * k
  | [] => by simp [flat]
  | d :: r => by rw [flat, List.length_append, flat_len hk r, List.length_cons, hk]; rw [Nat.add_mul]; omega
theorem flat_app : ∀ (G H : List α), flat c (G ++ H) = flat c G ++ flat c H
  | [], H => by simp [flat]
  | e :: r, H => by rw [List.cons_append, flat, flat_app r H, flat, List.append_assoc]
theorem flat_snoc (G : List α) (d : α) : flat c (G ++ [d]) = flat c G ++ c d := by rw [flat_app]; simp [flat]
theorem flat_at (hk : ∀ a, (c a).length = k) : ∀ (G : List α) (i j : Nat) (h : i < G.length), j < k → (flat c G)[i * k + j]? = (c G[i])[j]?
  | [], i, _, h, _ => absurd h (Nat.not_lt_zero _)
  | d :: r, 0, j, _, hj => by rw [flat, List.getElem?_append_left (by rw [hk]; omega)]; simp
  | d :: r, i + 1, j, h, hj => by
    rw [flat, List.getElem?_append_right (by rw [hk, Nat.add_mul]; omega)]
    have := flat_at hk r i j (by simpa using h) hj
    rw [show (i + 1) * k + j - (c d).length = i * k + j by rw [hk, Nat.add_mul]; omega, this]
    simp
theorem flat_one (h1 : ∀ a, ∀ u ∈ c a, u.oneCell' = true) : ∀ G : List α, ∀ u ∈ flat c G, u.oneCell' = true
  | [], u, hu => by simp [flat] at hu
  | d :: r, u, hu => by
    rw [flat] at hu
    rcases List.mem_append.1 hu with h | h
    · exact h1 d u h
    · exact flat_one h1 r u h
end
theorem nc_len (n : Nt) : (nc n).length = 7 := rfl
theorem wc_len (n : Wd) : (wc n).length = 5 := rfl
theorem sc_len (n : Sp) : (sc n).length = 3 := rfl
theorem ic_len (n : Int) : (ic n).length = 1 := rfl
theorem nc_one (n : Nt) : ∀ u ∈ nc n, u.oneCell' = true := by intro u hu; simp [nc] at hu; rcases hu with rfl | rfl | rfl | rfl | rfl | rfl | rfl <;> rfl
theorem wc_one (n : Wd) : ∀ u ∈ wc n, u.oneCell' = true := by intro u hu; simp [wc] at hu; rcases hu with rfl | rfl | rfl | rfl | rfl <;> rfl
theorem sc_one (n : Sp) : ∀ u ∈ sc n, u.oneCell' = true := by intro u hu; simp [sc] at hu; rcases hu with rfl | rfl | rfl <;> rfl
theorem ic_one (n : Int) : ∀ u ∈ ic n, u.oneCell' = true := by intro u hu; simp [ic] at hu; rw [hu]; rfl

end Go.Proofs.Ytlhhjbjdinimjaa
