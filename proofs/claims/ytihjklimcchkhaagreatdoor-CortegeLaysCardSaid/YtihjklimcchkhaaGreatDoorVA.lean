/- Blocks that are known whole; a slice that reads as a list of structs; words, notes and spans by their cells; rows of the call's own. A template (fill.py). -/
/- The == of notes; the functions that keep (slotKeeps, eraKeeps, spanKeeps); note. A template (fill.py). -/
/- Functions that take functions: among and its closures, slices.IndexFunc and ContainsFunc, at words, numbers and spans; the closure of Epochs. A template (made by gen_XSk.py). -/
/- sieve.part: notes parted by a function; Slots, Eras, Spans, Epochs. A template (fill.py). -/
/- Slots, Eras, Spans, Epochs: what each parts. A template (made by gen_XSl.py). -/
import Derived.Test.YtihjklimcchkhaaGreatDoorProg
import Derived.WalkKit
import Derived.RowKitTokens
import Derived.Below
import Derived.LoopTactic
import Derived.Laws.NewBlocks
import Derived.Lib.QuietBelow
import Derived.Lib.Hide
import Derived.BigQuiet
import Derived.Laws.OwnMore
import Derived.Laws.AppendOwn
import Derived.Deep.AppendLies
import Derived.Deep.MidRow
import Derived.OwnWalk
import Derived.Maps.AppendAt
import Derived.Deep.QuietTactic
import Derived.Laws.StructEq
import Derived.Outline
import Derived.Test.YtihjklimcchkhaaGreatDoorWDM
namespace Go.Proofs.YtihjklimcchkhaaGreatDoor.Sv
open Go.RowKit Go.Extern.Stop Go.Stop Go.Extern Go.Sort

theorem lt_of_cell {W : World} {a : Addr} {v : Value} (h : W.cell? a = some v) : a.block < W.heap.size := by
  rcases Nat.lt_or_ge a.block W.heap.size with h' | h'
  · exact h'
  · simp [World.cell?, Array.getElem?_eq_none h'] at h
theorem bcell {W w1 : World} (hb : Below W.heap.size W w1) : (∀ b o, b < W.heap.size → w1.cell? ⟨b, o, none⟩ = W.cell? ⟨b, o, none⟩) ∧ (∀ b o, b < W.heap.size → w1.frozen? ⟨b, o, none⟩ = W.frozen? ⟨b, o, none⟩) :=
  ⟨fun b o h => hb.cell (p := ⟨b, o, none⟩) h, fun b o h => hb.frozen (p := ⟨b, o, none⟩) h⟩
theorem below_alloc {W X : World} (h : Below W.heap.size W X) (o : Obj) : Below W.heap.size W (X.alloc o) := h.alloc h.size o
theorem below_trans {W X Y : World} (h : Below W.heap.size W X) (k : Below X.heap.size X Y) : Below W.heap.size W Y := h.trans (k.mono h.size)
theorem below_set {W X : World} (h : Below W.heap.size W X) (b o : Nat) (v : Value) (hb : W.heap.size ≤ b) : Below W.heap.size W (X.setCell ⟨b, o, none⟩ v) := h.setCell hb v
/-! ### a block that is known whole -/
def BlkW (w : World) (g : Nat) (t : TypeId) (cs : Array Value) : Prop := w.heap[g]? = some (.cells cs t (0, 0))
section
variable {w w' : World} {g : Nat} {t : TypeId} {cs : Array Value}
theorem BlkW.lt (h : BlkW w g t cs) : g < w.heap.size := by
  rcases Nat.lt_or_ge g w.heap.size with hlt | hge
  · exact hlt
  · unfold BlkW at h; rw [Array.getElem?_eq_none hge] at h; cases h
theorem BlkW.cell (h : BlkW w g t cs) (i : Nat) : w.cell? ⟨g, i, none⟩ = cs[i]? := by
  unfold BlkW at h
  simp [World.cell?, h]
theorem BlkW.frozen (h : BlkW w g t cs) (i : Nat) : w.frozen? ⟨g, i, none⟩ = false := by
  unfold BlkW at h
  simp [World.frozen?, h]
theorem BlkW.new (w : World) (t : TypeId) (cs : Array Value) : BlkW (w.alloc (.cells cs t)) w.heap.size t cs := by
  show (w.heap.push _)[w.heap.size]? = _
  simp
theorem BlkW.alloc (h : BlkW w g t cs) (o : Obj) : BlkW (w.alloc o) g t cs := (Below.heap_alloc w o g h.lt).trans h
theorem BlkW.set (h : BlkW w g t cs) (i : Nat) (u : Value) : BlkW (w.setCell ⟨g, i, none⟩ u) g t (cs.setIfInBounds i u) := by
  unfold BlkW at h ⊢
  simp [World.setCell, Array.getElem?_modify, h]
theorem BlkW.far (h : BlkW w g t cs) {b i : Nat} (hp : g ≠ b) (u : Value) : BlkW (w.setCell ⟨b, i, none⟩ u) g t cs := (Below.heap_setCell w ⟨b, i, none⟩ u g hp).trans h
theorem BlkW.below (h : BlkW w g t cs) (hb : Below w.heap.size w w') : BlkW w' g t cs := (hb.block g h.lt).trans h
end

theorem blk2 (w : World) (c1 c2 : Array Value) (t1 t2 : TypeId) :
    BlkW ((w.alloc (.cells c1 t1)).alloc (.cells c2 t2)) w.heap.size t1 c1 ∧ BlkW ((w.alloc (.cells c1 t1)).alloc (.cells c2 t2)) (w.heap.size + 1) t2 c2 := by
  have h2 := BlkW.new (w.alloc (.cells c1 t1)) t2 c2
  simp only [World.size_alloc] at h2
  exact ⟨(BlkW.new w t1 c1).alloc _, h2⟩
theorem blk3 (w : World) (c1 c2 c3 : Array Value) (t1 t2 t3 : TypeId) :
    BlkW (((w.alloc (.cells c1 t1)).alloc (.cells c2 t2)).alloc (.cells c3 t3)) w.heap.size t1 c1 ∧ BlkW (((w.alloc (.cells c1 t1)).alloc (.cells c2 t2)).alloc (.cells c3 t3)) (w.heap.size + 1) t2 c2 ∧
    BlkW (((w.alloc (.cells c1 t1)).alloc (.cells c2 t2)).alloc (.cells c3 t3)) (w.heap.size + 1 + 1) t3 c3 := by
  have h2 := (BlkW.new (w.alloc (.cells c1 t1)) t2 c2).alloc (.cells c3 t3)
  have h3 := BlkW.new ((w.alloc (.cells c1 t1)).alloc (.cells c2 t2)) t3 c3
  simp only [World.size_alloc] at h2 h3
  exact ⟨((BlkW.new w t1 c1).alloc _).alloc _, h2, h3⟩
theorem blk4 (w : World) (c1 c2 c3 c4 : Array Value) (t1 t2 t3 t4 : TypeId) :
    BlkW ((((w.alloc (.cells c1 t1)).alloc (.cells c2 t2)).alloc (.cells c3 t3)).alloc (.cells c4 t4)) w.heap.size t1 c1 ∧ BlkW ((((w.alloc (.cells c1 t1)).alloc (.cells c2 t2)).alloc (.cells c3 t3)).alloc (.cells c4 t4)) (w.heap.size + 1) t2 c2 ∧
    BlkW ((((w.alloc (.cells c1 t1)).alloc (.cells c2 t2)).alloc (.cells c3 t3)).alloc (.cells c4 t4)) (w.heap.size + 1 + 1) t3 c3 ∧ BlkW ((((w.alloc (.cells c1 t1)).alloc (.cells c2 t2)).alloc (.cells c3 t3)).alloc (.cells c4 t4)) (w.heap.size + 1 + 1 + 1) t4 c4 := by
  have h2 := ((BlkW.new (w.alloc (.cells c1 t1)) t2 c2).alloc (.cells c3 t3)).alloc (.cells c4 t4)
  have h3 := (BlkW.new ((w.alloc (.cells c1 t1)).alloc (.cells c2 t2)) t3 c3).alloc (.cells c4 t4)
  have h4 := BlkW.new (((w.alloc (.cells c1 t1)).alloc (.cells c2 t2)).alloc (.cells c3 t3)) t4 c4
  simp only [World.size_alloc] at h2 h3 h4
  exact ⟨(((BlkW.new w t1 c1).alloc _).alloc _).alloc _, h2, h3, h4⟩

theorem cell5 {w : World} {g : Nat} {v0 v1 v2 v3 v4 : Value} (h : BlkW w g 34 #[v0, v1, v2, v3, v4]) :
    w.cell? ⟨g, 0, none⟩ = some v0 ∧ w.cell? ⟨g, 1, none⟩ = some v1 ∧ w.cell? ⟨g, 2, none⟩ = some v2 ∧ w.cell? ⟨g, 3, none⟩ = some v3 ∧ w.cell? ⟨g, 4, none⟩ = some v4 :=
  ⟨h.cell 0, h.cell 1, h.cell 2, h.cell 3, h.cell 4⟩

theorem re5 {w : World} {g : Nat} {v0 v1 v2 v3 v4 : Value} (h : BlkW w g 34 #[v0, v1, v2, v3, v4]) :
    (∀ d os, (grow (redrawn w d) os).cell? ⟨g, 0, none⟩ = some v0) ∧ (∀ d os, (grow (redrawn w d) os).cell? ⟨g, 1, none⟩ = some v1) ∧ (∀ d os, (grow (redrawn w d) os).cell? ⟨g, 2, none⟩ = some v2) ∧
    (∀ d os, (grow (redrawn w d) os).cell? ⟨g, 3, none⟩ = some v3) ∧ (∀ d os, (grow (redrawn w d) os).cell? ⟨g, 4, none⟩ = some v4) :=
  ⟨cell_regrown (h.cell 0), cell_regrown (h.cell 1), cell_regrown (h.cell 2), cell_regrown (h.cell 3), cell_regrown (h.cell 4)⟩
/-- The slice v reads as the list xs. -/
def Row (w : World) (v : Value) (xs : List Int) : Prop :=
  ((∃ ao cap, v = .slice ao 0 cap) ∧ xs = []) ∨ ∃ b off cap, v = .slice (some ⟨b, off, none⟩) xs.length cap ∧ b < w.heap.size ∧ xs.length ≤ cap ∧ ∀ i (h : i < xs.length), w.cell? ⟨b, off + i, none⟩ = some (.int .i64 xs[i])
theorem Row.keep {w w' : World} {v : Value} {xs : List Int} (h : Row w v xs) (hb : Below w.heap.size w w') : Row w' v xs := by
  rcases h with h | ⟨b, off, cap, h1, h2, h3, h4⟩
  · exact .inl h
  · exact .inr ⟨b, off, cap, h1, Nat.lt_of_lt_of_le h2 hb.size, h3, fun i hi => by rw [hb.cell (p := ⟨b, off + i, none⟩) h2]; exact h4 i hi⟩
theorem Row.slice {W : World} {v : Value} {xs : List Int} (h : Row W v xs) : ∃ ao c, v = .slice ao xs.length c := by
  rcases h with ⟨⟨_, _, rfl⟩, rfl⟩ | ⟨b, off, cap, rfl, _⟩
  · exact ⟨_, _, rfl⟩
  · exact ⟨_, _, rfl⟩

theorem rangeAt_block {w w' : World} {b o : Nat} {l : List Value} (h : w.rangeAt b o l) (e : w'.heap[b]? = w.heap[b]?) : w'.rangeAt b o l := fun j v hv => by
  have := h j v hv
  rw [World.cell?_of_block (w := w) (w' := w') (a := ⟨b, o + j, none⟩) e]; exact this
/-- The slice v reads as the list xs, each element by its cells. -/
def RowC {α : Type} (cells : α → List Value) (k : Nat) (w : World) (v : Value) (xs : List α) : Prop :=
  ((∃ ao cap, v = .slice ao 0 cap) ∧ xs = []) ∨ ∃ b off cap, v = .slice (some ⟨b, off, none⟩) xs.length cap ∧ b < w.heap.size ∧ xs.length ≤ cap ∧ ∀ i (h : i < xs.length), w.rangeAt b (off + i * k) (cells xs[i])
theorem RowC.keep {α : Type} {cells : α → List Value} {k : Nat} {w w' : World} {v : Value} {xs : List α} (h : RowC cells k w v xs) (hb : Below w.heap.size w w') : RowC cells k w' v xs := by
  rcases h with h | ⟨b, off, cap, h1, h2, h3, h4⟩
  · exact .inl h
  · exact .inr ⟨b, off, cap, h1, Nat.lt_of_lt_of_le h2 hb.size, h3, fun i hi => rangeAt_block (h4 i hi) (hb.block b h2)⟩
theorem RowC.slice {α : Type} {cells : α → List Value} {k : Nat} {W : World} {v : Value} {xs : List α} (h : RowC cells k W v xs) : ∃ ao c, v = .slice ao xs.length c := by
  rcases h with ⟨⟨_, _, rfl⟩, rfl⟩ | ⟨b, off, cap, rfl, _⟩
  · exact ⟨_, _, rfl⟩
  · exact ⟨_, _, rfl⟩

/-! ### words, notes, spans -/
def wc (d : Wd) : List Value := [.int .i64 d.slot, .int .i64 d.gen, .int .i64 d.tag, .int .i64 d.num, .bool d.mark]
def nc (n : Nt) : List Value := [.int .i64 n.ref.slot, .int .i64 n.ref.gen, .int .i64 n.ref.tag, .int .i64 n.ref.num, .bool n.ref.mark, .int .i64 n.birth, .int .i64 n.death]
def sc (s : Sp) : List Value := [.bool s.is, .int .i64 s.low, .int .i64 s.high]
def ic (n : Int) : List Value := [.int .i64 n]
def wv (d : Wd) : Value := .agg #[.int .i64 d.slot, .int .i64 d.gen, .int .i64 d.tag, .int .i64 d.num, .bool d.mark]
def nv (n : Nt) : Value := .agg #[.int .i64 n.ref.slot, .int .i64 n.ref.gen, .int .i64 n.ref.tag, .int .i64 n.ref.num, .bool n.ref.mark, .int .i64 n.birth, .int .i64 n.death]
def sv (s : Sp) : Value := .agg #[.bool s.is, .int .i64 s.low, .int .i64 s.high]
def iv (n : Int) : Value := .int .i64 n
def flat {α : Type} (c : α → List Value) : List α → List Value
  | [] => []
  | d :: r => c d ++ flat c r
section
variable {α : Type} {c : α → List Value} {k : Nat}
theorem flat_len (hk : ∀ a, (c a).length = k) : ∀ G : List α, (flat c G).length = G.length * k
  | [] => by simp [flat]
  | d :: r => by rw [flat, List.length_append, flat_len hk r, List.length_cons, hk]; rw [Nat.add_mul]; omega
theorem flat_app : ∀ (G H : List α), flat c (G ++ H) = flat c G ++ flat c H
  | [], H => by simp [flat]
  | e :: r, H => by rw [List.cons_append, flat, flat_app r H, flat, List.append_assoc]
theorem flat_snoc (G : List α) (d : α) : flat c (G ++ [d]) = flat c G ++ c d := by rw [flat_app]; simp [flat]
theorem flat_at (hk : ∀ a, (c a).length = k) : ∀ (G : List α) (i j : Nat) (h : i < G.length), j < k → (flat c G)[i * k + j]? = (c G[i])[j]?
  | [], i, _, h, _ => absurd h (Nat.not_lt_zero _)
  | d :: r, 0, j, _, hj => by rw [flat, List.getElem?_append_left (by rw [hk]; omega)]; simp
  | d :: r, i + 1, j, h, hj => by
    rw [flat, List.getElem?_append_right (by rw [hk, Nat.add_mul]; omega)]
    have := flat_at hk r i j (by simpa using h) hj
    rw [show (i + 1) * k + j - (c d).length = i * k + j by rw [hk, Nat.add_mul]; omega, this]
    simp
theorem flat_one (h1 : ∀ a, ∀ u ∈ c a, u.oneCell' = true) : ∀ G : List α, ∀ u ∈ flat c G, u.oneCell' = true
  | [], u, hu => by simp [flat] at hu
  | d :: r, u, hu => by
    rw [flat] at hu
    rcases List.mem_append.1 hu with h | h
    · exact h1 d u h
    · exact flat_one h1 r u h
end
theorem nc_len (n : Nt) : (nc n).length = 7 := rfl
theorem wc_len (n : Wd) : (wc n).length = 5 := rfl
theorem nc_one (n : Nt) : ∀ u ∈ nc n, u.oneCell' = true := by intro u hu; simp [nc] at hu; rcases hu with rfl | rfl | rfl | rfl | rfl | rfl | rfl <;> rfl
theorem wc_one (n : Wd) : ∀ u ∈ wc n, u.oneCell' = true := by intro u hu; simp [wc] at hu; rcases hu with rfl | rfl | rfl | rfl | rfl <;> rfl
end Go.Proofs.YtihjklimcchkhaaGreatDoor.Sv

namespace Go.Proofs.YtihjklimcchkhaaGreatDoor.Sv
open Go.RowKit Go.Extern.Stop Go.Stop Go.Extern Go.Sort

theorem heldW : Tryz.prog.stoodInHeld 34 = false := by kernel_rfl
theorem heldN : Tryz.prog.stoodInHeld 74 = false := by kernel_rfl
theorem guardN : Tryz.prog.eqGuardType Tryz.prog.depth 74 = false := by kernel_rfl
theorem htW : Tryz.prog.underlying 34 = some (.struct (Tryz.prog.fieldsOf 34)) := by kernel_rfl
theorem htN : Tryz.prog.underlying 74 = some (.struct (Tryz.prog.fieldsOf 74)) := by kernel_rfl
theorem hfW : (Tryz.prog.fieldsOf 34).toList = [{ name := "Slot", type := 3, offset := 0, embedded := false, tag := "", pkgPath := "", byteOffset := 0 },
        { name := "Gen", type := 3, offset := 1, embedded := false, tag := "", pkgPath := "", byteOffset := 8 },
        { name := "Tag", type := 3, offset := 2, embedded := false, tag := "", pkgPath := "", byteOffset := 16 },
        { name := "Num", type := 3, offset := 3, embedded := false, tag := "", pkgPath := "", byteOffset := 24 },
        { name := "Mark", type := 4, offset := 4, embedded := false, tag := "", pkgPath := "", byteOffset := 32 }] := by kernel_rfl
theorem hfN : (Tryz.prog.fieldsOf 74).toList = [{ name := "Ref", type := 34, offset := 0, embedded := false, tag := "", pkgPath := "", byteOffset := 0 },
        { name := "Birth", type := 3, offset := 5, embedded := false, tag := "", pkgPath := "", byteOffset := 40 },
        { name := "Death", type := 3, offset := 6, embedded := false, tag := "", pkgPath := "", byteOffset := 48 }] := by kernel_rfl
/-- Whether two words, two notes are equal. -/
def eqW (s g t n : Int) (m : Bool) (s' g' t' n' : Int) (m' : Bool) : Bool := s == s' && g == g' && t == t' && n == n' && m == m'
def eqN (s g t n : Int) (m : Bool) (b d : Int) (s' g' t' n' : Int) (m' : Bool) (b' d' : Int) : Bool := eqW s g t n m s' g' t' n' m' && b == b' && d == d'
theorem equalW (s g t n : Int) (m : Bool) (s' g' t' n' : Int) (m' : Bool) (w : World) :
    (Op.equalIn 9999 34 (.agg #[.int .i64 s, .int .i64 g, .int .i64 t, .int .i64 n, .bool m]) (.agg #[.int .i64 s', .int .i64 g', .int .i64 t', .int .i64 n', .bool m'])).run Tryz.prog w = .ok (eqW s g t n m s' g' t' n' m') w := by
  rw [run_equalIn_struct _ 9998 _ _ _ htW heldW, hfW]
  have e1 : ∀ (x y : Int) (w : World), (Op.equalIn 9998 3 (.int .i64 x) (.int .i64 y)).run Tryz.prog w = .ok (x == y) w := fun x y w => run_equalIn_int w 9997 3 .i64 .i64 x y Tryz.underlying3
  have e2 : ∀ (x y : Bool) (w : World), (Op.equalIn 9998 4 (.bool x) (.bool y)).run Tryz.prog w = .ok (x == y) w := fun x y w => run_equalIn_bool' w 9997 4 x y Tryz.underlying4
  simp only [Op.eqFields]
  simp [go_sem, e1, e2]
  unfold eqW
  (repeat' split) <;> simp_all
theorem partW (s g t n : Int) (m : Bool) (b d : Int) (w : World) : (part 34 #[.int .i64 s, .int .i64 g, .int .i64 t, .int .i64 n, .bool m, .int .i64 b, .int .i64 d] 0).run Tryz.prog w = .ok (.agg #[.int .i64 s, .int .i64 g, .int .i64 t, .int .i64 n, .bool m]) w := by kernel_rfl
theorem equalN (s g t n : Int) (m : Bool) (b d : Int) (s' g' t' n' : Int) (m' : Bool) (b' d' : Int) (w : World) :
    (Op.equalIn 10000 74 (.agg #[.int .i64 s, .int .i64 g, .int .i64 t, .int .i64 n, .bool m, .int .i64 b, .int .i64 d]) (.agg #[.int .i64 s', .int .i64 g', .int .i64 t', .int .i64 n', .bool m', .int .i64 b', .int .i64 d'])).run Tryz.prog w = .ok (eqN s g t n m b d s' g' t' n' m' b' d') w := by
  rw [run_equalIn_struct _ 9999 _ _ _ htN heldN, hfN]
  have e1 : ∀ (x y : Int) (w : World), (Op.equalIn 9999 3 (.int .i64 x) (.int .i64 y)).run Tryz.prog w = .ok (x == y) w := fun x y w => run_equalIn_int w 9998 3 .i64 .i64 x y Tryz.underlying3
  simp only [Op.eqFields]
  simp [Sem.run_bind, partW, equalW]
  simp [go_sem, e1]
  unfold eqN
  (repeat' split) <;> simp_all
theorem eqlN (s g t n : Int) (m : Bool) (b d : Int) (s' g' t' n' : Int) (m' : Bool) (b' d' : Int) (w : World) :
    (binOp .eql 74 (.agg #[.int .i64 s, .int .i64 g, .int .i64 t, .int .i64 n, .bool m, .int .i64 b, .int .i64 d]) (.agg #[.int .i64 s', .int .i64 g', .int .i64 t', .int .i64 n', .bool m', .int .i64 b', .int .i64 d'])).run Tryz.prog w = .ok (.bool (eqN s g t n m b d s' g' t' n' m' b' d')) w := by
  rw [run_eql_struct, equalN]; rfl
theorem eqN_iff (a b : Nt) : eqN a.ref.slot a.ref.gen a.ref.tag a.ref.num a.ref.mark a.birth a.death b.ref.slot b.ref.gen b.ref.tag b.ref.num b.ref.mark b.birth b.death = decide (a = b) := by
  rw [Bool.eq_iff_iff, decide_eq_true_eq]
  obtain ⟨⟨_, _, _, _, _⟩, _, _⟩ := a; obtain ⟨⟨_, _, _, _, _⟩, _, _⟩ := b
  simp [eqN, eqW, and_assoc]

/-! ### what keeps a note -/
def slotK (k : Wd) (n : Nt) : Bool := k.slot == n.ref.slot
def eraK (k : Int) (n : Nt) : Bool := decide (0 < k) && decide (n.birth ≤ k) && decide (k ≤ n.death)
def spanK (k : Sp) (n : Nt) : Bool := k.is && decide (k.low ≤ n.death) && decide (n.birth ≤ k.high)
theorem slotKeeps_any (k : Wd) (n : Nt) (w : World) : Calls Tryz.prog 176 #[wv k, nv n] w fun e w' => e = .returned (.bool (slotK k n)) ∧ Below w.heap.size w w' := by
  unfold wv nv slotK
  go_enter Tryz.func176, Tryz.ntmps176
  go_wp2
  go_ret
  exact ⟨rfl, below_alloc (below_alloc (Below.refl _ _) _) _⟩
theorem eraKeeps_any (k : Int) (n : Nt) (w : World) : Calls Tryz.prog 178 #[iv k, nv n] w fun e w' => e = .returned (.bool (eraK k n)) ∧ Below w.heap.size w w' := by
  unfold iv nv eraK
  obtain ⟨⟨s, g, t, u, m⟩, b, d⟩ := n
  by_cases h1 : 0 < k
  · by_cases h2 : b ≤ k
    · go_enter Tryz.func178, Tryz.ntmps178
      go_wp2
      go_ret
      exact ⟨by simp [h1, h2], below_alloc (Below.refl _ _) _⟩
    · go_enter Tryz.func178, Tryz.ntmps178
      go_wp2
      go_ret
      exact ⟨by simp; omega, below_alloc (Below.refl _ _) _⟩
  · go_enter Tryz.func178, Tryz.ntmps178
    go_wp2
    go_ret
    exact ⟨by simp; omega, below_alloc (Below.refl _ _) _⟩
theorem spanKeeps_any (k : Sp) (n : Nt) (w : World) : Calls Tryz.prog 181 #[sv k, nv n] w fun e w' => e = .returned (.bool (spanK k n)) ∧ Below w.heap.size w w' := by
  unfold sv nv spanK
  obtain ⟨⟨s, g, t, u, m⟩, b, d⟩ := n
  obtain ⟨is, lo, hi⟩ := k
  cases is with
  | true =>
    by_cases h2 : lo ≤ d
    · go_enter Tryz.func181, Tryz.ntmps181
      go_wp2
      go_ret
      exact ⟨by simp [h2], below_alloc (below_alloc (Below.refl _ _) _) _⟩
    · go_enter Tryz.func181, Tryz.ntmps181
      go_wp2
      go_ret
      exact ⟨by simp; omega, below_alloc (below_alloc (Below.refl _ _) _) _⟩
  | false =>
    go_enter Tryz.func181, Tryz.ntmps181
    go_wp2
    go_ret
    exact ⟨by simp, below_alloc (below_alloc (Below.refl _ _) _) _⟩
/-- Epochs' own: what is retired too short a time ahead of the clock. -/
def epochK (now : Int) (n : Nt) : Bool := decide (now < -9223372036854775806) || decide (wrap64 (now - 2) < n.death)
end Go.Proofs.YtihjklimcchkhaaGreatDoor.Sv

namespace Go.Proofs.YtihjklimcchkhaaGreatDoor.Sv
open Go.RowKit Go.Extern.Stop Go.Stop Go.Extern Go.Sort

theorem wc_cells {w : World} {b o : Nat} {d : Wd} (h : w.rangeAt b o (wc d)) : w.cell? ⟨b, o, none⟩ = some (.int .i64 d.slot) ∧ w.cell? ⟨b, o + 1, none⟩ = some (.int .i64 d.gen) ∧ w.cell? ⟨b, o + 2, none⟩ = some (.int .i64 d.tag) ∧ w.cell? ⟨b, o + 3, none⟩ = some (.int .i64 d.num) ∧ w.cell? ⟨b, o + 4, none⟩ = some (.bool d.mark) :=
  ⟨h 0 _ rfl, h 1 _ rfl, h 2 _ rfl, h 3 _ rfl, h 4 _ rfl⟩
theorem sc_cells {w : World} {b o : Nat} {d : Sp} (h : w.rangeAt b o (sc d)) : w.cell? ⟨b, o, none⟩ = some (.bool d.is) ∧ w.cell? ⟨b, o + 1, none⟩ = some (.int .i64 d.low) ∧ w.cell? ⟨b, o + 2, none⟩ = some (.int .i64 d.high) :=
  ⟨h 0 _ rfl, h 1 _ rfl, h 2 _ rfl⟩
theorem ic_cells {w : World} {b o : Nat} {d : Int} (h : w.rangeAt b o (ic d)) : w.cell? ⟨b, o, none⟩ = some (.int .i64 d) ∧ True := ⟨h 0 _ rfl, trivial⟩
theorem nc_cells {w : World} {b o : Nat} {n : Nt} (h : w.rangeAt b o (nc n)) : w.cell? ⟨b, o, none⟩ = some (.int .i64 n.ref.slot) ∧ w.cell? ⟨b, o + 1, none⟩ = some (.int .i64 n.ref.gen) ∧ w.cell? ⟨b, o + 2, none⟩ = some (.int .i64 n.ref.tag) ∧ w.cell? ⟨b, o + 3, none⟩ = some (.int .i64 n.ref.num) ∧ w.cell? ⟨b, o + 4, none⟩ = some (.bool n.ref.mark) ∧
    w.cell? ⟨b, o + 5, none⟩ = some (.int .i64 n.birth) ∧ w.cell? ⟨b, o + 6, none⟩ = some (.int .i64 n.death) :=
  ⟨h 0 _ rfl, h 1 _ rfl, h 2 _ rfl, h 3 _ rfl, h 4 _ rfl, h 5 _ rfl, h 6 _ rfl⟩
theorem cell7 {w : World} {g : Nat} {t : TypeId} {n : Nt} (h : BlkW w g t (nc n).toArray) :
    w.cell? ⟨g, 0, none⟩ = some (.int .i64 n.ref.slot) ∧ w.cell? ⟨g, 1, none⟩ = some (.int .i64 n.ref.gen) ∧ w.cell? ⟨g, 2, none⟩ = some (.int .i64 n.ref.tag) ∧ w.cell? ⟨g, 3, none⟩ = some (.int .i64 n.ref.num) ∧ w.cell? ⟨g, 4, none⟩ = some (.bool n.ref.mark) ∧
    w.cell? ⟨g, 5, none⟩ = some (.int .i64 n.birth) ∧ w.cell? ⟨g, 6, none⟩ = some (.int .i64 n.death) :=
  ⟨h.cell 0, h.cell 1, h.cell 2, h.cell 3, h.cell 4, h.cell 5, h.cell 6⟩
/-- A function value with two captured places, one, that tells p of what it is given. -/
def Tells {α : Type} (F : FuncId) (cap : Array Value) (ev : α → Value) (p : α → Bool) (W : World) : Prop :=
  (∀ x w, (callFunc F (#[x] ++ cap)).run Tryz.prog w = .ok (.enter F (#[x] ++ cap)) w) ∧
  ∀ x w, Below W.heap.size W w → Calls Tryz.prog F (#[ev x] ++ cap) w fun e w' => e = .returned (.bool (p x)) ∧ Below w.heap.size w w'
theorem Tells.keep {α : Type} {F : FuncId} {cap : Array Value} {ev : α → Value} {p : α → Bool} {W W' : World} (h : Tells F cap ev p W) (hb : Below W.heap.size W W') : Tells F cap ev p W' :=
  ⟨h.1, fun x w hw => h.2 x w (below_trans hb hw)⟩
/-- The place of the first element that p tells, else -1. -/
def Found {α : Type} (p : α → Bool) (xs : List α) (w : World) (e : Ending) (w' : World) : Prop :=
  ∃ i : Int, e = .returned (.int .i64 i) ∧ decide (0 ≤ i) = xs.any p ∧ (0 ≤ i → ∃ j, ∃ h : j < xs.length, i = (j : Int) ∧ (xs.take j).any p = false ∧ p xs[j] = true) ∧ Hid (Below w.heap.size w w')
def IdxRel {α : Type} (p : α → Bool) (xs : List α) (w : World) (vi : Value) (wr : World) : Prop :=
  ∃ k : Nat, k ≤ xs.length ∧ vi = .int .i64 (k : Int) ∧ (xs.take k).any p = false ∧ Below w.heap.size w wr
theorem any_take_succ {α : Type} (p : α → Bool) (xs : List α) (k : Nat) (h : k < xs.length) : (xs.take (k + 1)).any p = ((xs.take k).any p || p xs[k]) := by
  rw [List.take_succ_eq_append_getElem h, List.any_append]; simp
theorem any_hit2 {α : Type} (p : α → Bool) (xs : List α) (k : Nat) (h : k < xs.length) (hn : (xs.take k).any p = false) (hp : p xs[k] = true) : xs.any p = true ∧ ∃ j, ∃ h : j < xs.length, (k : Int) = (j : Int) ∧ (xs.take j).any p = false ∧ p xs[j] = true := ⟨List.any_eq_true.2 ⟨_, List.getElem_mem h, hp⟩, k, h, rfl, hn, hp⟩
theorem epochs_in (now : Int) (n : Nt) (b : Nat) (w : World) (h : BlkW w b 3 #[.int .i64 now]) : Calls Tryz.prog 179 #[nv n, .pointer (some ⟨b, 0, none⟩)] w fun e w' => e = .returned (.bool (epochK now n)) ∧ Below w.heap.size w w' := by
  have p0 := h.cell 0
  have z1 := h.lt
  clear h
  simp only [List.getElem?_toArray, List.getElem?_cons_zero] at p0
  unfold nv epochK
  by_cases h1 : now < -9223372036854775806
  · go_enter Tryz.func179, Tryz.ntmps179
    go_wp2
    go_ret
    exact ⟨by simp [h1], below_alloc (Below.refl _ _) _⟩
  · go_enter Tryz.func179, Tryz.ntmps179
    go_wp2
    go_ret
    exact ⟨by simp; omega, below_alloc (Below.refl _ _) _⟩
theorem tells_epochs (now : Int) (b : Nat) (W : World) (h : BlkW W b 3 #[.int .i64 now]) : Tells 179 #[.pointer (some ⟨b, 0, none⟩)] nv (epochK now) W :=
  ⟨fun x w => by kernel_rfl, fun x w hb => epochs_in now x b w (h.below hb)⟩

/-! ### words -/
theorem inW (k : Wd) (n : Nt) (b1 b2 : Nat) (w : World) (h1 : BlkW w b1 251 #[.func (.func 176) #[] #[]]) (h2 : BlkW w b2 74 (nc n).toArray) :
    Calls Tryz.prog 185 #[wv k, .pointer (some ⟨b1, 0, none⟩), .pointer (some ⟨b2, 0, none⟩)] w fun e w' => e = .returned (.bool (slotK k n)) ∧ Below w.heap.size w w' := by
  obtain ⟨q0, q1, q2, q3, q4, q5, q6⟩ := cell7 h2
  have p0 := h1.cell 0
  have z1 := h1.lt
  have z2 := h2.lt
  clear h1 h2
  simp only [List.getElem?_toArray, List.getElem?_cons_zero] at p0
  unfold wv
  go_enter Tryz.func185, Tryz.ntmps185
  go_wp2_with fail
  refine (slotKeeps_any k n _).mono ?_
  rintro e w1 ⟨rfl, hb⟩
  have B1 := Lib.hid (below_trans (below_alloc (Below.refl w.heap.size w) (.cells (wc k).toArray 34)) hb)
  clear hb q0 q1 q2 q3 q4 q5 q6 p0
  go_wp2
  go_ret
  exact ⟨rfl, B1.out⟩
theorem tells_inW (n : Nt) (b1 b2 : Nat) (W : World) (h1 : BlkW W b1 251 #[.func (.func 176) #[] #[]]) (h2 : BlkW W b2 74 (nc n).toArray) :
    Tells 185 #[.pointer (some ⟨b1, 0, none⟩), .pointer (some ⟨b2, 0, none⟩)] wv (fun k => slotK k n) W :=
  ⟨fun x w => by kernel_rfl, fun x w hb => inW x n b1 b2 w (h1.below hb) (h2.below hb)⟩
set_option maxRecDepth 100000 in
set_option maxHeartbeats 1000000 in
theorem idxW (F : FuncId) (cap : Array Value) (p : Wd → Bool) (W : World) (v : Value) (xs : List Wd) (hv : RowC wc 5 W v xs) (hl : xs.length ≤ 200) (hT : Tells F cap wv p W) :
    Calls Tryz.prog 115 #[v, .func (.func F) #[] cap] W (Found p xs W) := by
  have HV := Lib.hid hv
  have HT := Lib.hid hT
  have hk := hT.1
  obtain ⟨ao, cp, rfl⟩ := hv.slice
  clear hv hT
  go_enter Tryz.func115, Tryz.ntmps115
  go_wp2
  go_loopw [8] (fun vi wr => IdxRel p xs W vi wr) (fun vi _ => xs.length - (intOf vi).toNat)
  case atStart => exact ⟨0, Nat.zero_le _, rfl, by simp, Below.refl _ _⟩
  case round =>
    obtain ⟨k, hkl, rfl, hany, hbel⟩ := hrel
    obtain ⟨wo, rfl⟩ : ∃ wo : World, wo = wr := ⟨_, rfl⟩
    have HB := Lib.hid hbel
    have HA := Lib.hid hany
    clear hany hbel
    by_cases hlt : k < xs.length
    · rcases HV.out with ⟨_, e⟩ | ⟨b, off, cap', e, hbx, hcap, hcell⟩
      · subst e; exact absurd hlt (Nat.not_lt_zero _)
      · injection e with e1 e2 e3
        subst e1
        have hc := rangeAt_block (hcell k hlt) (HB.out.block b hbx)
        have HN := Lib.hid (any_take_succ p xs k hlt)
        have HH := Lib.hid (any_hit2 p xs k hlt HA.out)
        obtain ⟨a, ha⟩ : ∃ a, a = xs[k] := ⟨_, rfl⟩
        rw [← ha] at hc HN HH
        have hcs := wc_cells hc
        obtain ⟨q0, q1, q2, q3, q4⟩ := hcs
        clear hc hcell ha e2 e3
        have j1 : (k : Int) < xs.length := by omega
        go_wp2_with fail
        refine (HT.out.2 a _ HB.out).mono ?_
        rintro e w1 ⟨rfl, hb⟩
        have B1 := Lib.hid (HB.out.trans (hb.mono HB.out.size))
        clear hb q0 q1 q2 q3 q4
        cases hp : p a with
        | true =>
          have H1 := Lib.hid (HH.out hp)
          clear hp
          go_wp2
          go_ret
          exact ⟨k, rfl, by rw [H1.out.1]; simp, fun _ => H1.out.2, B1.out⟩
        | false =>
          rw [hp] at HN
          clear hp
          go_wp2
          go_roundw
          case rel => exact ⟨k + 1, by omega, by go_num, by rw [HN.out, HA.out]; rfl, B1.out⟩
          case measure => simp [intOf]; omega
    · obtain rfl : k = xs.length := by omega
      go_wp2
      go_ret
      exact ⟨-1, rfl, by have h := HA.out; rw [List.take_length] at h; rw [h]; rfl, fun h => absurd h (by decide), HB.out⟩
theorem hasW (F : FuncId) (cap : Array Value) (p : Wd → Bool) (W : World) (v : Value) (xs : List Wd) (hv : RowC wc 5 W v xs) (hl : xs.length ≤ 200) (hT : Tells F cap wv p W) :
    Calls Tryz.prog 184 #[v, .func (.func F) #[] cap] W fun e w' => e = .returned (.bool (xs.any p)) ∧ Below W.heap.size W w' := by
  have C := idxW F cap p W v xs hv hl hT
  obtain ⟨ao, cp, rfl⟩ := hv.slice
  clear hv hT
  go_enter Tryz.func184, Tryz.ntmps184
  go_wp2_with fail
  refine C.mono ?_
  rintro e w1 ⟨i, rfl, hi, _, hb⟩
  have HI := Lib.hid hi
  clear hi C
  go_wp2
  go_ret
  exact ⟨by rw [← HI.out]; rfl, hb.out⟩
theorem amW (n : Nt) (b1 b2 : Nat) (W : World) (v : Value) (xs : List Wd) (hv : RowC wc 5 W v xs) (hl : xs.length ≤ 200) (h1 : BlkW W b1 71 #[v]) (h2 : BlkW W b2 251 #[.func (.func 176) #[] #[]]) :
    Calls Tryz.prog 183 #[nv n, .pointer (some ⟨b1, 0, none⟩), .pointer (some ⟨b2, 0, none⟩)] W fun e w' => e = .returned (.bool (xs.any fun k => slotK k n)) ∧ Below W.heap.size W w' := by
  have BX := Lib.hid (below_alloc (Below.refl W.heap.size W) (.cells (nc n).toArray 74))
  have C := Lib.hid (hasW 185 _ _ _ v xs (hv.keep BX.out) hl (tells_inW n b2 W.heap.size _ (h2.alloc _) (BlkW.new W _ _)))
  obtain ⟨ao, cp, rfl⟩ := hv.slice
  have p0 := h1.cell 0
  have z1 := h1.lt
  simp only [List.getElem?_toArray, List.getElem?_cons_zero] at p0
  clear hv h1 h2
  unfold nv
  go_enter Tryz.func183, Tryz.ntmps183
  go_wp2_with fail
  refine C.out.mono ?_
  rintro e w1 ⟨rfl, hb⟩
  have B1 := Lib.hid (below_trans BX.out hb)
  clear hb p0
  go_wp2
  go_ret
  exact ⟨rfl, B1.out⟩
/-- What among answers: a function that tells whether one of the list keeps a note. -/
theorem amongW (v : Value) (xs : List Wd) (W : World) (hv : RowC wc 5 W v xs) (hl : xs.length ≤ 200) :
    Calls Tryz.prog 175 #[v, .func (.func 176) #[] #[]] W fun e w' => ∃ cap, e = .returned (.func (.func 183) #[] cap) ∧ Hid (Tells 183 cap nv (fun n => xs.any fun k => slotK k n) w') ∧ Below W.heap.size W w' := by
  have B := Lib.hid (below_alloc (below_alloc (Below.refl W.heap.size W) (.cells #[v] 71)) (.cells #[.func (.func 176) #[] #[]] 251))
  have T : Hid (Tells 183 #[.pointer (some ⟨W.heap.size, 0, none⟩), .pointer (some ⟨W.heap.size + 1, 0, none⟩)] nv (fun n => xs.any fun k => slotK k n) ((W.alloc (.cells #[v] 71)).alloc (.cells #[.func (.func 176) #[] #[]] 251))) := by
    obtain ⟨k1, k2⟩ := blk2 W #[v] #[.func (.func 176) #[] #[]] 71 251
    refine ⟨fun x w => by kernel_rfl, fun n w hb => ?_⟩
    exact amW n _ _ w v xs ((hv.keep B.out).keep hb) hl (k1.below hb) (k2.below hb)
  obtain ⟨ao, cp, rfl⟩ := hv.slice
  clear hv
  go_enter Tryz.func175, Tryz.ntmps175
  go_wp2
  go_ret
  exact ⟨_, rfl, T, B.out⟩

/-! ### numbers -/
theorem inI (k : Int) (n : Nt) (b1 b2 : Nat) (w : World) (h1 : BlkW w b1 253 #[.func (.func 178) #[] #[]]) (h2 : BlkW w b2 74 (nc n).toArray) :
    Calls Tryz.prog 188 #[iv k, .pointer (some ⟨b1, 0, none⟩), .pointer (some ⟨b2, 0, none⟩)] w fun e w' => e = .returned (.bool (eraK k n)) ∧ Below w.heap.size w w' := by
  obtain ⟨q0, q1, q2, q3, q4, q5, q6⟩ := cell7 h2
  have p0 := h1.cell 0
  have z1 := h1.lt
  have z2 := h2.lt
  clear h1 h2
  simp only [List.getElem?_toArray, List.getElem?_cons_zero] at p0
  unfold iv
  go_enter Tryz.func188, Tryz.ntmps188
  go_wp2_with fail
  refine (eraKeeps_any k n _).mono ?_
  rintro e w1 ⟨rfl, hb⟩
  have B1 := Lib.hid (hb)
  clear hb q0 q1 q2 q3 q4 q5 q6 p0
  go_wp2
  go_ret
  exact ⟨rfl, B1.out⟩
theorem tells_inI (n : Nt) (b1 b2 : Nat) (W : World) (h1 : BlkW W b1 253 #[.func (.func 178) #[] #[]]) (h2 : BlkW W b2 74 (nc n).toArray) :
    Tells 188 #[.pointer (some ⟨b1, 0, none⟩), .pointer (some ⟨b2, 0, none⟩)] iv (fun k => eraK k n) W :=
  ⟨fun x w => by kernel_rfl, fun x w hb => inI x n b1 b2 w (h1.below hb) (h2.below hb)⟩
set_option maxRecDepth 100000 in
set_option maxHeartbeats 1000000 in
theorem idxI (F : FuncId) (cap : Array Value) (p : Int → Bool) (W : World) (v : Value) (xs : List Int) (hv : RowC ic 1 W v xs) (hl : xs.length ≤ 200) (hT : Tells F cap iv p W) :
    Calls Tryz.prog 191 #[v, .func (.func F) #[] cap] W (Found p xs W) := by
  have HV := Lib.hid hv
  have HT := Lib.hid hT
  have hk := hT.1
  obtain ⟨ao, cp, rfl⟩ := hv.slice
  clear hv hT
  go_enter Tryz.func191, Tryz.ntmps191
  go_wp2
  go_loopw [8] (fun vi wr => IdxRel p xs W vi wr) (fun vi _ => xs.length - (intOf vi).toNat)
  case atStart => exact ⟨0, Nat.zero_le _, rfl, by simp, Below.refl _ _⟩
  case round =>
    obtain ⟨k, hkl, rfl, hany, hbel⟩ := hrel
    obtain ⟨wo, rfl⟩ : ∃ wo : World, wo = wr := ⟨_, rfl⟩
    have HB := Lib.hid hbel
    have HA := Lib.hid hany
    clear hany hbel
    by_cases hlt : k < xs.length
    · rcases HV.out with ⟨_, e⟩ | ⟨b, off, cap', e, hbx, hcap, hcell⟩
      · subst e; exact absurd hlt (Nat.not_lt_zero _)
      · injection e with e1 e2 e3
        subst e1
        have hc := rangeAt_block (hcell k hlt) (HB.out.block b hbx)
        have HN := Lib.hid (any_take_succ p xs k hlt)
        have HH := Lib.hid (any_hit2 p xs k hlt HA.out)
        obtain ⟨a, ha⟩ : ∃ a, a = xs[k] := ⟨_, rfl⟩
        rw [← ha] at hc HN HH
        rw [Nat.mul_one] at hc
        have hcs := ic_cells hc
        obtain ⟨q0, _⟩ := hcs
        clear hc hcell ha e2 e3
        have j1 : (k : Int) < xs.length := by omega
        go_wp2_with fail
        refine (HT.out.2 a _ HB.out).mono ?_
        rintro e w1 ⟨rfl, hb⟩
        have B1 := Lib.hid (HB.out.trans (hb.mono HB.out.size))
        clear hb q0
        cases hp : p a with
        | true =>
          have H1 := Lib.hid (HH.out hp)
          clear hp
          go_wp2
          go_ret
          exact ⟨k, rfl, by rw [H1.out.1]; simp, fun _ => H1.out.2, B1.out⟩
        | false =>
          rw [hp] at HN
          clear hp
          go_wp2
          go_roundw
          case rel => exact ⟨k + 1, by omega, by go_num, by rw [HN.out, HA.out]; rfl, B1.out⟩
          case measure => simp [intOf]; omega
    · obtain rfl : k = xs.length := by omega
      go_wp2
      go_ret
      exact ⟨-1, rfl, by have h := HA.out; rw [List.take_length] at h; rw [h]; rfl, fun h => absurd h (by decide), HB.out⟩
theorem hasI (F : FuncId) (cap : Array Value) (p : Int → Bool) (W : World) (v : Value) (xs : List Int) (hv : RowC ic 1 W v xs) (hl : xs.length ≤ 200) (hT : Tells F cap iv p W) :
    Calls Tryz.prog 187 #[v, .func (.func F) #[] cap] W fun e w' => e = .returned (.bool (xs.any p)) ∧ Below W.heap.size W w' := by
  have C := idxI F cap p W v xs hv hl hT
  obtain ⟨ao, cp, rfl⟩ := hv.slice
  clear hv hT
  go_enter Tryz.func187, Tryz.ntmps187
  go_wp2_with fail
  refine C.mono ?_
  rintro e w1 ⟨i, rfl, hi, _, hb⟩
  have HI := Lib.hid hi
  clear hi C
  go_wp2
  go_ret
  exact ⟨by rw [← HI.out]; rfl, hb.out⟩
theorem amI (n : Nt) (b1 b2 : Nat) (W : World) (v : Value) (xs : List Int) (hv : RowC ic 1 W v xs) (hl : xs.length ≤ 200) (h1 : BlkW W b1 23 #[v]) (h2 : BlkW W b2 253 #[.func (.func 178) #[] #[]]) :
    Calls Tryz.prog 186 #[nv n, .pointer (some ⟨b1, 0, none⟩), .pointer (some ⟨b2, 0, none⟩)] W fun e w' => e = .returned (.bool (xs.any fun k => eraK k n)) ∧ Below W.heap.size W w' := by
  have BX := Lib.hid (below_alloc (Below.refl W.heap.size W) (.cells (nc n).toArray 74))
  have C := Lib.hid (hasI 188 _ _ _ v xs (hv.keep BX.out) hl (tells_inI n b2 W.heap.size _ (h2.alloc _) (BlkW.new W _ _)))
  obtain ⟨ao, cp, rfl⟩ := hv.slice
  have p0 := h1.cell 0
  have z1 := h1.lt
  simp only [List.getElem?_toArray, List.getElem?_cons_zero] at p0
  clear hv h1 h2
  unfold nv
  go_enter Tryz.func186, Tryz.ntmps186
  go_wp2_with fail
  refine C.out.mono ?_
  rintro e w1 ⟨rfl, hb⟩
  have B1 := Lib.hid (below_trans BX.out hb)
  clear hb p0
  go_wp2
  go_ret
  exact ⟨rfl, B1.out⟩
/-- What among answers: a function that tells whether one of the list keeps a note. -/
theorem amongI (v : Value) (xs : List Int) (W : World) (hv : RowC ic 1 W v xs) (hl : xs.length ≤ 200) :
    Calls Tryz.prog 177 #[v, .func (.func 178) #[] #[]] W fun e w' => ∃ cap, e = .returned (.func (.func 186) #[] cap) ∧ Hid (Tells 186 cap nv (fun n => xs.any fun k => eraK k n) w') ∧ Below W.heap.size W w' := by
  have B := Lib.hid (below_alloc (below_alloc (Below.refl W.heap.size W) (.cells #[v] 23)) (.cells #[.func (.func 178) #[] #[]] 253))
  have T : Hid (Tells 186 #[.pointer (some ⟨W.heap.size, 0, none⟩), .pointer (some ⟨W.heap.size + 1, 0, none⟩)] nv (fun n => xs.any fun k => eraK k n) ((W.alloc (.cells #[v] 23)).alloc (.cells #[.func (.func 178) #[] #[]] 253))) := by
    obtain ⟨k1, k2⟩ := blk2 W #[v] #[.func (.func 178) #[] #[]] 23 253
    refine ⟨fun x w => by kernel_rfl, fun n w hb => ?_⟩
    exact amI n _ _ w v xs ((hv.keep B.out).keep hb) hl (k1.below hb) (k2.below hb)
  obtain ⟨ao, cp, rfl⟩ := hv.slice
  clear hv
  go_enter Tryz.func177, Tryz.ntmps177
  go_wp2
  go_ret
  exact ⟨_, rfl, T, B.out⟩

/-! ### spans -/
theorem inS (k : Sp) (n : Nt) (b1 b2 : Nat) (w : World) (h1 : BlkW w b1 255 #[.func (.func 181) #[] #[]]) (h2 : BlkW w b2 74 (nc n).toArray) :
    Calls Tryz.prog 190 #[sv k, .pointer (some ⟨b1, 0, none⟩), .pointer (some ⟨b2, 0, none⟩)] w fun e w' => e = .returned (.bool (spanK k n)) ∧ Below w.heap.size w w' := by
  obtain ⟨q0, q1, q2, q3, q4, q5, q6⟩ := cell7 h2
  have p0 := h1.cell 0
  have z1 := h1.lt
  have z2 := h2.lt
  clear h1 h2
  simp only [List.getElem?_toArray, List.getElem?_cons_zero] at p0
  unfold sv
  go_enter Tryz.func190, Tryz.ntmps190
  go_wp2_with fail
  refine (spanKeeps_any k n _).mono ?_
  rintro e w1 ⟨rfl, hb⟩
  have B1 := Lib.hid (below_trans (below_alloc (Below.refl w.heap.size w) (.cells (sc k).toArray 124)) hb)
  clear hb q0 q1 q2 q3 q4 q5 q6 p0
  go_wp2
  go_ret
  exact ⟨rfl, B1.out⟩
theorem tells_inS (n : Nt) (b1 b2 : Nat) (W : World) (h1 : BlkW W b1 255 #[.func (.func 181) #[] #[]]) (h2 : BlkW W b2 74 (nc n).toArray) :
    Tells 190 #[.pointer (some ⟨b1, 0, none⟩), .pointer (some ⟨b2, 0, none⟩)] sv (fun k => spanK k n) W :=
  ⟨fun x w => by kernel_rfl, fun x w hb => inS x n b1 b2 w (h1.below hb) (h2.below hb)⟩
set_option maxRecDepth 100000 in
set_option maxHeartbeats 1000000 in
theorem idxS (F : FuncId) (cap : Array Value) (p : Sp → Bool) (W : World) (v : Value) (xs : List Sp) (hv : RowC sc 3 W v xs) (hl : xs.length ≤ 200) (hT : Tells F cap sv p W) :
    Calls Tryz.prog 173 #[v, .func (.func F) #[] cap] W (Found p xs W) := by
  have HV := Lib.hid hv
  have HT := Lib.hid hT
  have hk := hT.1
  obtain ⟨ao, cp, rfl⟩ := hv.slice
  clear hv hT
  go_enter Tryz.func173, Tryz.ntmps173
  go_wp2
  go_loopw [8] (fun vi wr => IdxRel p xs W vi wr) (fun vi _ => xs.length - (intOf vi).toNat)
  case atStart => exact ⟨0, Nat.zero_le _, rfl, by simp, Below.refl _ _⟩
  case round =>
    obtain ⟨k, hkl, rfl, hany, hbel⟩ := hrel
    obtain ⟨wo, rfl⟩ : ∃ wo : World, wo = wr := ⟨_, rfl⟩
    have HB := Lib.hid hbel
    have HA := Lib.hid hany
    clear hany hbel
    by_cases hlt : k < xs.length
    · rcases HV.out with ⟨_, e⟩ | ⟨b, off, cap', e, hbx, hcap, hcell⟩
      · subst e; exact absurd hlt (Nat.not_lt_zero _)
      · injection e with e1 e2 e3
        subst e1
        have hc := rangeAt_block (hcell k hlt) (HB.out.block b hbx)
        have HN := Lib.hid (any_take_succ p xs k hlt)
        have HH := Lib.hid (any_hit2 p xs k hlt HA.out)
        obtain ⟨a, ha⟩ : ∃ a, a = xs[k] := ⟨_, rfl⟩
        rw [← ha] at hc HN HH
        have hcs := sc_cells hc
        obtain ⟨q0, q1, q2⟩ := hcs
        clear hc hcell ha e2 e3
        have j1 : (k : Int) < xs.length := by omega
        go_wp2_with fail
        refine (HT.out.2 a _ HB.out).mono ?_
        rintro e w1 ⟨rfl, hb⟩
        have B1 := Lib.hid (HB.out.trans (hb.mono HB.out.size))
        clear hb q0 q1 q2
        cases hp : p a with
        | true =>
          have H1 := Lib.hid (HH.out hp)
          clear hp
          go_wp2
          go_ret
          exact ⟨k, rfl, by rw [H1.out.1]; simp, fun _ => H1.out.2, B1.out⟩
        | false =>
          rw [hp] at HN
          clear hp
          go_wp2
          go_roundw
          case rel => exact ⟨k + 1, by omega, by go_num, by rw [HN.out, HA.out]; rfl, B1.out⟩
          case measure => simp [intOf]; omega
    · obtain rfl : k = xs.length := by omega
      go_wp2
      go_ret
      exact ⟨-1, rfl, by have h := HA.out; rw [List.take_length] at h; rw [h]; rfl, fun h => absurd h (by decide), HB.out⟩
theorem hasS (F : FuncId) (cap : Array Value) (p : Sp → Bool) (W : World) (v : Value) (xs : List Sp) (hv : RowC sc 3 W v xs) (hl : xs.length ≤ 200) (hT : Tells F cap sv p W) :
    Calls Tryz.prog 159 #[v, .func (.func F) #[] cap] W fun e w' => e = .returned (.bool (xs.any p)) ∧ Below W.heap.size W w' := by
  have C := idxS F cap p W v xs hv hl hT
  obtain ⟨ao, cp, rfl⟩ := hv.slice
  clear hv hT
  go_enter Tryz.func159, Tryz.ntmps159
  go_wp2_with fail
  refine C.mono ?_
  rintro e w1 ⟨i, rfl, hi, _, hb⟩
  have HI := Lib.hid hi
  clear hi C
  go_wp2
  go_ret
  exact ⟨by rw [← HI.out]; rfl, hb.out⟩
theorem amS (n : Nt) (b1 b2 : Nat) (W : World) (v : Value) (xs : List Sp) (hv : RowC sc 3 W v xs) (hl : xs.length ≤ 200) (h1 : BlkW W b1 201 #[v]) (h2 : BlkW W b2 255 #[.func (.func 181) #[] #[]]) :
    Calls Tryz.prog 189 #[nv n, .pointer (some ⟨b1, 0, none⟩), .pointer (some ⟨b2, 0, none⟩)] W fun e w' => e = .returned (.bool (xs.any fun k => spanK k n)) ∧ Below W.heap.size W w' := by
  have BX := Lib.hid (below_alloc (Below.refl W.heap.size W) (.cells (nc n).toArray 74))
  have C := Lib.hid (hasS 190 _ _ _ v xs (hv.keep BX.out) hl (tells_inS n b2 W.heap.size _ (h2.alloc _) (BlkW.new W _ _)))
  obtain ⟨ao, cp, rfl⟩ := hv.slice
  have p0 := h1.cell 0
  have z1 := h1.lt
  simp only [List.getElem?_toArray, List.getElem?_cons_zero] at p0
  clear hv h1 h2
  unfold nv
  go_enter Tryz.func189, Tryz.ntmps189
  go_wp2_with fail
  refine C.out.mono ?_
  rintro e w1 ⟨rfl, hb⟩
  have B1 := Lib.hid (below_trans BX.out hb)
  clear hb p0
  go_wp2
  go_ret
  exact ⟨rfl, B1.out⟩
/-- What among answers: a function that tells whether one of the list keeps a note. -/
theorem amongS (v : Value) (xs : List Sp) (W : World) (hv : RowC sc 3 W v xs) (hl : xs.length ≤ 200) :
    Calls Tryz.prog 180 #[v, .func (.func 181) #[] #[]] W fun e w' => ∃ cap, e = .returned (.func (.func 189) #[] cap) ∧ Hid (Tells 189 cap nv (fun n => xs.any fun k => spanK k n) w') ∧ Below W.heap.size W w' := by
  have B := Lib.hid (below_alloc (below_alloc (Below.refl W.heap.size W) (.cells #[v] 201)) (.cells #[.func (.func 181) #[] #[]] 255))
  have T : Hid (Tells 189 #[.pointer (some ⟨W.heap.size, 0, none⟩), .pointer (some ⟨W.heap.size + 1, 0, none⟩)] nv (fun n => xs.any fun k => spanK k n) ((W.alloc (.cells #[v] 201)).alloc (.cells #[.func (.func 181) #[] #[]] 255))) := by
    obtain ⟨k1, k2⟩ := blk2 W #[v] #[.func (.func 181) #[] #[]] 201 255
    refine ⟨fun x w => by kernel_rfl, fun n w hb => ?_⟩
    exact amS n _ _ w v xs ((hv.keep B.out).keep hb) hl (k1.below hb) (k2.below hb)
  obtain ⟨ao, cp, rfl⟩ := hv.slice
  clear hv
  go_enter Tryz.func180, Tryz.ntmps180
  go_wp2
  go_ret
  exact ⟨_, rfl, T, B.out⟩
end Go.Proofs.YtihjklimcchkhaaGreatDoor.Sv

namespace Go.Proofs.YtihjklimcchkhaaGreatDoor.Sv
open Go.RowKit Go.Extern.Stop Go.Stop Go.Extern Go.Sort

theorem own_block {w w' : World} {b m : Nat} {T : TypeId} {size : Nat} {u : Value} {xs : List Value} (h : w.ownsRow b T size u m xs) (hb : ∀ g, u.ownBlock = some g → w'.heap[g]? = w.heap[g]?) : w'.ownsRow b T size u m xs := by
  refine ⟨h.1, ?_⟩
  rcases h.2 with h2 | ⟨g, cap, cur, rfl, h4, h5, h6⟩
  · exact .inl h2
  · exact .inr ⟨g, cap, cur, rfl, h4, (hb g rfl).trans h5, h6⟩
theorem own_slice {w : World} {b m : Nat} {T : TypeId} {size : Nat} {u : Value} {xs : List Value} (h : w.ownsRow b T size u m xs) : ∃ ao c, u = .slice ao m c := by
  rcases h.2 with ⟨rfl, e⟩ | ⟨g, cap, cur, rfl, _⟩
  · exact ⟨none, 0, by rw [e]⟩
  · exact ⟨_, _, rfl⟩
/-- A row of the call's own reads as its list. -/
theorem own_row {α : Type} {c : α → List Value} {k : Nat} (hk : ∀ a, (c a).length = k) {w : World} {b : Nat} {T : TypeId} {u : Value} {xs : List α} (h : w.ownsRow b T k u xs.length (flat c xs)) : RowC c k w u xs := by
  rcases h.2 with ⟨rfl, e⟩ | ⟨g, cap, cur, rfl, h4, h5, h6, h7, h8, h9⟩
  · exact .inl ⟨⟨none, 0, rfl⟩, List.eq_nil_of_length_eq_zero e⟩
  · refine .inr ⟨g, 0, cap, rfl, ?_, h6, fun i hi j v hv => ?_⟩
    · rcases Nat.lt_or_ge g w.heap.size with hlt | hge
      · exact hlt
      · rw [Array.getElem?_eq_none hge] at h5; cases h5
    · have hj : j < k := by have := (List.getElem?_eq_some_iff.1 hv).1; rwa [hk] at this
      have hlt : i * k + j < xs.length * k := by
        have : (i + 1) * k ≤ xs.length * k := Nat.mul_le_mul_right _ hi
        rw [Nat.add_mul] at this; omega
      rw [Nat.zero_add, h.cellAt (i * k + j) hlt, flat_at hk xs i j hi hj]
      exact hv
theorem infoNote : (Tryz.prog.info? 74).map (fun i => (i.zero, i.size, i.bytes)) = some (some (.agg #[.int .i64 0, .int .i64 0, .int .i64 0, .int .i64 0, .bool false, .int .i64 0, .int .i64 0]), 7, 56) := by kernel_rfl
theorem news7 (w : World) (n : Nt) (t : TypeId) : ∀ j u, (nc n)[j]? = some u → (w.alloc (.cells #[.int .i64 n.ref.slot, .int .i64 n.ref.gen, .int .i64 n.ref.tag, .int .i64 n.ref.num, .bool n.ref.mark, .int .i64 n.birth, .int .i64 n.death] t)).cell? ((⟨w.heap.size, 0, none⟩ : Addr).add j) = some u := fun j u hu => by
  have h := (BlkW.new w t #[.int .i64 n.ref.slot, .int .i64 n.ref.gen, .int .i64 n.ref.tag, .int .i64 n.ref.num, .bool n.ref.mark, .int .i64 n.birth, .int .i64 n.death]).cell j
  have e : (⟨w.heap.size, 0, none⟩ : Addr).add j = ⟨w.heap.size, j, none⟩ := by
    rw [show (⟨w.heap.size, 0, none⟩ : Addr) = ⟨w.heap.size, 0, none⟩ from rfl, Addr.add_mid, Nat.zero_add]
  rw [e, h, List.getElem?_toArray]
  exact hu
def OwnN (w : World) (base : Nat) (v : Value) (xs : List Nt) : Prop := w.ownsRow base 74 7 v xs.length (flat nc xs)
def Apart (v u : Value) : Prop := v.ownBlock = none ∨ v.ownBlock ≠ u.ownBlock
theorem Apart.symm {v u : Value} (h : Apart v u) : Apart u v := by
  rcases h with h | h
  · cases hu : u.ownBlock with
    | none => exact .inl hu
    | some x => exact .inr (by rw [h, hu]; simp)
  · exact .inr (fun e => h e.symm)
/-- Behind an append to one of two rows. -/
theorem apart_app {w : World} {base : Nat} {u v v' : Value} {xs : List Nt} (h : Apart u v) {n : Nat} (hu : OwnN w base u xs) (hn : w.heap.size ≤ n) (ha : v'.ownBlock = v.ownBlock ∨ v'.ownBlock = some n) : Apart u v' := by
  rcases ha with e | e
  · unfold Apart; rw [e]; exact h
  · cases hx : u.ownBlock with
    | none => exact .inl hx
    | some x => refine .inr ?_; rw [hx, e]; intro k; injection k with k; have := (hu.lt x hx).2; omega
theorem own_low {w : World} {b b' n : Nat} {e : TypeId} {size : Nat} {v : Value} {xs : List Value} (h : w.ownsRow b e size v n xs) (hb : b' ≤ b) : w.ownsRow b' e size v n xs := by
  refine ⟨h.1, ?_⟩
  rcases h.2 with h2 | ⟨g, cap, cur, h3, h4, h5⟩
  · exact .inl h2
  · exact .inr ⟨g, cap, cur, h3, Nat.le_trans hb h4, h5⟩
/-- What a part comes to. -/
def Parted (w : World) (xs : List Nt) (p : Nt → Bool) (e : Ending) (w' : World) : Prop :=
  ∃ a b, e = .returned (.tuple #[a, b]) ∧ Hid (OwnN w' w.heap.size a (xs.filter fun n => !p n)) ∧ Hid (RowC nc 7 w' b (xs.filter p)) ∧ Hid (Below w.heap.size w w')
def PRel (w : World) (xs : List Nt) (p : Nt → Bool) (va vb vi : Value) (wr : World) : Prop :=
  ∃ k : Nat, k ≤ xs.length ∧ vi = .int .i64 (k : Int) ∧ OwnN wr w.heap.size va ((xs.take k).filter fun n => !p n) ∧ OwnN wr w.heap.size vb ((xs.take k).filter p) ∧ Apart va vb ∧ Below w.heap.size w wr
theorem filt_yes (p : Nt → Bool) (xs : List Nt) (k : Nat) (h : k < xs.length) (hp : p xs[k] = true) : (xs.take (k + 1)).filter p = (xs.take k).filter p ++ [xs[k]] := by
  rw [List.take_succ_eq_append_getElem h, List.filter_append]; simp [hp]
theorem filt_no (p : Nt → Bool) (xs : List Nt) (k : Nat) (h : k < xs.length) (hp : p xs[k] = false) : (xs.take (k + 1)).filter p = (xs.take k).filter p := by
  rw [List.take_succ_eq_append_getElem h, List.filter_append]; simp [hp]
theorem filt_len (p : Nt → Bool) (xs : List Nt) (k : Nat) : ((xs.take k).filter p).length ≤ k := Nat.le_trans (List.length_filter_le _ _) (List.length_take_le _ _)
set_option maxRecDepth 100000 in
set_option maxHeartbeats 2000000 in
theorem part_any (F : FuncId) (cap : Array Value) (p : Nt → Bool) (W : World) (v : Value) (xs : List Nt) (hv : RowC nc 7 W v xs) (hl : xs.length ≤ 200) (hT : Tells F cap nv p W) :
    Calls Tryz.prog 174 #[v, .func (.func F) #[] cap] W (Parted W xs p) := by
  obtain ⟨i2, hi2, hz2, hs2, hy2⟩ := info_parts infoNote
  have HV := Lib.hid hv
  have HT := Lib.hid hT
  have hk := hT.1
  obtain ⟨ao, cp, rfl⟩ := hv.slice
  clear hv hT
  go_enter Tryz.func174, Tryz.ntmps174
  go_wp2
  go_loopw [4, 5, 10] (fun va vb vi wr => PRel W xs p va vb vi wr) (fun _ _ vi _ => xs.length - (intOf vi).toNat)
  case atStart => exact ⟨0, Nat.zero_le _, rfl, World.ownsRow_nil W _ _ _, World.ownsRow_nil W _ _ _, .inl rfl, Below.refl _ _⟩
  case round =>
    obtain ⟨k, hkl, rfl, hoa, hob, hap, hbel⟩ := hrel
    obtain ⟨wo, rfl⟩ : ∃ wo : World, wo = wr := ⟨_, rfl⟩
    have HB := Lib.hid hbel
    have OA := Lib.hid hoa
    have OB := Lib.hid hob
    have AP := Lib.hid hap
    clear hbel hoa hob hap
    have hfa := filt_len (fun n => !p n) xs k
    have hfb := filt_len p xs k
    by_cases hlt : k < xs.length
    · rcases HV.out with ⟨_, e⟩ | ⟨b, off, cap', e, hbx, hcap, hcell⟩
      · subst e; exact absurd hlt (Nat.not_lt_zero _)
      · injection e with e1 e2 e3
        subst e1
        have hc := rangeAt_block (hcell k hlt) (HB.out.block b hbx)
        have HY := Lib.hid (fun hp => filt_yes p xs k hlt hp)
        have HN := Lib.hid (fun hp => filt_no p xs k hlt hp)
        have HY' := Lib.hid (fun hp => filt_yes (fun n => !p n) xs k hlt hp)
        have HN' := Lib.hid (fun hp => filt_no (fun n => !p n) xs k hlt hp)
        obtain ⟨a, ha⟩ : ∃ a, a = xs[k] := ⟨_, rfl⟩
        rw [← ha] at hc HY HN HY' HN'
        obtain ⟨q0, q1, q2, q3, q4, q5, q6⟩ := nc_cells hc
        clear hc hcell ha e2 e3
        have j1 : (k : Int) < xs.length := by omega
        have BA := Lib.hid (below_alloc (Below.refl wo.heap.size wo) (.cells (nc a).toArray 74))
        have XA := Lib.hid (BlkW.new wo 74 (nc a).toArray)
        go_wp2_with fail
        refine (HT.out.2 a _ (HB.out.trans (BA.out.mono HB.out.size))).mono ?_
        rintro e w1 ⟨rfl, hb⟩
        have hb1 := below_trans BA.out hb
        have B1 := Lib.hid (HB.out.trans (hb1.mono HB.out.size))
        have OA := Lib.hid (own_block OA.out (fun g e => hb1.block g (OA.out.lt g e).2))
        have OB := Lib.hid (own_block OB.out (fun g e => hb1.block g (OB.out.lt g e).2))
        have x := XA.out.below hb
        have lx := x.lt
        clear q0 q1 q2 q3 q4 q5 q6
        obtain ⟨q0, q1, q2, q3, q4, q5, q6⟩ := cell7 x
        have hsz := B1.out.size
        clear hb hb1 x XA BA HB
        generalize wo.heap.size = x at q0 q1 q2 q3 q4 q5 q6 lx ⊢
        cases hp : p a with
        | true =>
          have H1 := Lib.hid (HY.out hp)
          have H2 := Lib.hid (HN'.out (by simp [hp]))
          clear hp HY HN HY' HN'
          go_wp2_with (at_builtin; refine wpList_append_own_at _ rfl _ _ 42 rfl W.heap.size 74 i2 _ 7 56 Tryz.underlying42 hi2 hz2 hs2 hy2 rfl (by decide) u5 _ _ (by rfl) (OB.out.alloc _) ⟨w1.heap.size, 0, none⟩ 1 1 (nc a) (by rfl) rfl ?c1 ?c2 ?c3 ?c4 ?c5 ?_)
          case c1 => exact news7 w1 a _
          case c2 => exact nc_one a
          case c3 => simp only [maxLen]; omega
          case c4 => omega
          case c5 => rw [World.size_alloc]; omega
          intro v' w4 hown' hgrow _ hat
          have hb4 := (B1.out.trans ((below_alloc (Below.refl w1.heap.size w1) (.cells (nc a).toArray 74)).mono B1.out.size)).grown hgrow (by rw [World.size_alloc]; omega) (fun q e => (OB.out.lt q e).1)
          have B4 := Lib.hid hb4
          have AP4 := Lib.hid (apart_app (base := W.heap.size) AP.out OA.out (Nat.le_succ _) hat)
          have OA4 := Lib.hid (World.ownsRow.kept (OA.out.alloc (.cells (nc a).toArray 74)) hgrow AP.out)
          have OB4 : Hid (OwnN w4 W.heap.size v' (((xs.take k).filter p) ++ [a])) := by
            have h := hown'
            unfold OwnN
            rw [flat_snoc, List.length_append]; exact h
          clear hown' hgrow hat hb4 q0 q1 q2 q3 q4 q5 q6 OA OB AP B1 lx hsz
          go_wp2
          go_roundw
          case rel => exact ⟨k + 1, by omega, by go_num, by rw [H2.out]; exact OA4.out, by rw [H1.out]; exact OB4.out, AP4.out, B4.out⟩
          case measure => simp [intOf]; omega
        | false =>
          have H1 := Lib.hid (HY'.out (by simp [hp]))
          have H2 := Lib.hid (HN.out hp)
          clear hp HY HN HY' HN'
          go_wp2_with (at_builtin; refine wpList_append_own_at _ rfl _ _ 42 rfl W.heap.size 74 i2 _ 7 56 Tryz.underlying42 hi2 hz2 hs2 hy2 rfl (by decide) u4 _ _ (by rfl) (OA.out.alloc _) ⟨w1.heap.size, 0, none⟩ 1 1 (nc a) (by rfl) rfl ?c1 ?c2 ?c3 ?c4 ?c5 ?_)
          case c1 => exact news7 w1 a _
          case c2 => exact nc_one a
          case c3 => simp only [maxLen]; omega
          case c4 => omega
          case c5 => rw [World.size_alloc]; omega
          intro v' w4 hown' hgrow _ hat
          have hb4 := (B1.out.trans ((below_alloc (Below.refl w1.heap.size w1) (.cells (nc a).toArray 74)).mono B1.out.size)).grown hgrow (by rw [World.size_alloc]; omega) (fun q e => (OA.out.lt q e).1)
          have B4 := Lib.hid hb4
          have AP4 := Lib.hid (apart_app (base := W.heap.size) AP.out.symm OB.out (Nat.le_succ _) hat).symm
          have OB4 := Lib.hid (World.ownsRow.kept (OB.out.alloc (.cells (nc a).toArray 74)) hgrow AP.out.symm)
          have OA4 : Hid (OwnN w4 W.heap.size v' (((xs.take k).filter fun n => !p n) ++ [a])) := by
            have h := hown'
            unfold OwnN
            rw [flat_snoc, List.length_append]; exact h
          clear hown' hgrow hat hb4 q0 q1 q2 q3 q4 q5 q6 OA OB AP B1 lx hsz
          go_wp2
          go_roundw
          case rel => exact ⟨k + 1, by omega, by go_num, by rw [H1.out]; exact OA4.out, by rw [H2.out]; exact OB4.out, AP4.out, B4.out⟩
          case measure => simp [intOf]; omega
    · obtain rfl : k = xs.length := by omega
      have HA := OA
      have HB' := Lib.hid (own_row nc_len OB.out)
      go_wp2
      go_ret2
      exact ⟨_, _, rfl, by have h := HA.out; rwa [List.take_length] at h, by have h := HB'.out; rwa [List.take_length] at h, HB.out⟩
end Go.Proofs.YtihjklimcchkhaaGreatDoor.Sv

namespace Go.Proofs.YtihjklimcchkhaaGreatDoor.Sv
open Go.RowKit Go.Extern.Stop Go.Stop Go.Extern Go.Sort
def slotP (ks : List Wd) (n : Nt) : Bool := ks.any fun k => slotK k n
def eraP (ks : List Int) (n : Nt) : Bool := ks.any fun k => eraK k n
def spanP (ks : List Sp) (n : Nt) : Bool := ks.any fun k => spanK k n
theorem Parted.from_ {w w1 : World} {xs : List Nt} {p : Nt → Bool} {e : Ending} {w' : World} (h : Parted w1 xs p e w') (hb : Below w.heap.size w w1) : Parted w xs p e w' := by
  obtain ⟨a, b, h1, h2, h3, h4⟩ := h
  exact ⟨a, b, h1, Lib.hid (own_low h2.out hb.size), h3, Lib.hid (below_trans hb h4.out)⟩

theorem Slots_any (v u : Value) (xs : List Nt) (ks : List Wd) (W : World) (hv : RowC nc 7 W v xs) (hu : RowC wc 5 W u ks) (hl : xs.length ≤ 200) (hk : ks.length ≤ 200) :
    Calls Tryz.prog 162 #[v, u] W (Parted W xs (slotP ks)) := by
  have HV := Lib.hid hv
  have C := Lib.hid (amongW u ks W hu hk)
  obtain ⟨ao, cp, rfl⟩ := hv.slice
  obtain ⟨ao', cp', rfl⟩ := hu.slice
  clear hv hu
  go_enter Tryz.func162, Tryz.ntmps162
  go_wp2_with fail
  refine C.out.mono ?_
  rintro e w1 ⟨cap, rfl, T, hb⟩
  have B1 := Lib.hid hb
  clear hb
  go_wp2_with fail
  refine (part_any _ cap (slotP ks) _ _ xs (HV.out.keep B1.out) hl T.out).mono ?_
  rintro e w2 ⟨a, b, rfl, ra, rb, hb⟩
  have B2 := Lib.hid (below_trans B1.out hb.out)
  clear hb
  go_wp2
  go_ret2
  exact ⟨a, b, rfl, Lib.hid (own_low ra.out B1.out.size), rb, B2⟩

theorem Eras_any (v u : Value) (xs : List Nt) (ks : List Int) (W : World) (hv : RowC nc 7 W v xs) (hu : RowC ic 1 W u ks) (hl : xs.length ≤ 200) (hk : ks.length ≤ 200) :
    Calls Tryz.prog 163 #[v, u] W (Parted W xs (eraP ks)) := by
  have HV := Lib.hid hv
  have C := Lib.hid (amongI u ks W hu hk)
  obtain ⟨ao, cp, rfl⟩ := hv.slice
  obtain ⟨ao', cp', rfl⟩ := hu.slice
  clear hv hu
  go_enter Tryz.func163, Tryz.ntmps163
  go_wp2_with fail
  refine C.out.mono ?_
  rintro e w1 ⟨cap, rfl, T, hb⟩
  have B1 := Lib.hid hb
  clear hb
  go_wp2_with fail
  refine (part_any _ cap (eraP ks) _ _ xs (HV.out.keep B1.out) hl T.out).mono ?_
  rintro e w2 ⟨a, b, rfl, ra, rb, hb⟩
  have B2 := Lib.hid (below_trans B1.out hb.out)
  clear hb
  go_wp2
  go_ret2
  exact ⟨a, b, rfl, Lib.hid (own_low ra.out B1.out.size), rb, B2⟩

theorem Spans_any (v u : Value) (xs : List Nt) (ks : List Sp) (W : World) (hv : RowC nc 7 W v xs) (hu : RowC sc 3 W u ks) (hl : xs.length ≤ 200) (hk : ks.length ≤ 200) :
    Calls Tryz.prog 166 #[v, u] W (Parted W xs (spanP ks)) := by
  have HV := Lib.hid hv
  have C := Lib.hid (amongS u ks W hu hk)
  obtain ⟨ao, cp, rfl⟩ := hv.slice
  obtain ⟨ao', cp', rfl⟩ := hu.slice
  clear hv hu
  go_enter Tryz.func166, Tryz.ntmps166
  go_wp2_with fail
  refine C.out.mono ?_
  rintro e w1 ⟨cap, rfl, T, hb⟩
  have B1 := Lib.hid hb
  clear hb
  go_wp2_with fail
  refine (part_any _ cap (spanP ks) _ _ xs (HV.out.keep B1.out) hl T.out).mono ?_
  rintro e w2 ⟨a, b, rfl, ra, rb, hb⟩
  have B2 := Lib.hid (below_trans B1.out hb.out)
  clear hb
  go_wp2
  go_ret2
  exact ⟨a, b, rfl, Lib.hid (own_low ra.out B1.out.size), rb, B2⟩

theorem Epochs_any (v : Value) (now : Int) (xs : List Nt) (W : World) (hv : RowC nc 7 W v xs) (hl : xs.length ≤ 200) :
    Calls Tryz.prog 165 #[v, .int .i64 now] W (Parted W xs (epochK now)) := by
  have HV := Lib.hid hv
  obtain ⟨ao, cp, rfl⟩ := hv.slice
  clear hv
  have B1 := Lib.hid (below_alloc (Below.refl W.heap.size W) (.cells #[.int .i64 now] 3))
  have T := Lib.hid (tells_epochs now W.heap.size _ (BlkW.new W 3 #[.int .i64 now]))
  go_enter Tryz.func165, Tryz.ntmps165
  go_wp2_with fail
  refine (part_any _ _ (epochK now) _ _ xs (HV.out.keep B1.out) hl T.out).mono ?_
  rintro e w2 ⟨a, b, rfl, ra, rb, hb⟩
  have B2 := Lib.hid (below_trans B1.out hb.out)
  clear hb
  go_wp2
  go_ret2
  exact ⟨a, b, rfl, Lib.hid (own_low ra.out B1.out.size), rb, B2⟩
end Go.Proofs.YtihjklimcchkhaaGreatDoor.Sv
