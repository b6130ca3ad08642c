/- What cortege stands on: with the rite, its texts; else what they have beside the rite. A template (fill.py; made by program). -/
/- cortege: a job as plain data and as it lies in memory: one block that is known whole; the reference's job likewise; both go on alike. A template (fill.py). -/
/- cortege: ask, end, load, store, protect, swap, the roots. A template (fill.py). -/
/- cortege: swap, bring, the looks, link, take. A template (made by gen_XCc.py). -/
import Derived.Test.YtihjklimcchkhaaGreatDoorRB
namespace Go.Proofs.YtihjklimcchkhaaGreatDoor


end Go.Proofs.YtihjklimcchkhaaGreatDoor

namespace Go.Proofs.YtihjklimcchkhaaGreatDoor.Co
open Go.RowKit Go.Extern.Stop Go.Stop Go.Extern Go.Sort
/-- An operation. -/
structure Po where
  kind : Int
  key : Int
  val : Int
  tall : Int
/-- A call with its answer. -/
structure Ca where
  c : Cl
  code : Int
  aval : Int
def za : Ca := ⟨zc, 0, 0⟩
/-- What comes in a word's place, with another's slot; any tag. -/
def tow (w r : Wd) : Wd := ⟨r.slot, r.gen, wrap64 (w.tag + 1), 0, false⟩
def cOf (c : Cl) : Ca := ⟨c, 0, 0⟩
def cDone (code v : Int) : Ca := ⟨{ zc with kind := 12 }, code, v⟩
def cLoad (a : Int × Int × Int) : Ca := cOf { zc with kind := 3, s := a.1, g := a.2.1, f := a.2.2 }
def cStore (a : Int × Int × Int) (w : Wd) : Ca := cOf { zc with kind := 4, s := a.1, g := a.2.1, f := a.2.2, new := w }
def cProtect (a : Int × Int × Int) (i : Int) : Ca := cOf { zc with kind := 6, s := a.1, g := a.2.1, f := a.2.2, i := i }
def cSwap (a : Int × Int × Int) (s r : Wd) : Ca := cOf { zc with kind := 5, s := a.1, g := a.2.1, f := a.2.2, old := s, new := tow s r }
def cAlloc : Ca := cOf { zc with kind := 8 }
def cRetire (w : Wd) : Ca := cOf { zc with kind := 10, old := w }
/-- The cell of a word's slot. -/
def fld (w : Wd) (f : Int) : Int × Int × Int := (w.slot, w.gen, f)
/-- Whether two words are the same but for their generations. -/
def sameW (a b : Wd) : Bool := sameB a.slot a.tag a.num a.mark b.slot b.tag b.num b.mark
/-- A job: where it stands, and its operation. -/
structure Jb where
  ca : Ca
  done : Int
  node : Wd
  head : Wd
  tail : Wd
  next : Wd
  val : Int
  op : Po
def Jb.new (o : Po) : Jb := ⟨za, 0, zw, zw, zw, zw, 0, o⟩
def Jb.ask (j : Jb) (c : Ca) (d : Int) : Jb := { j with ca := c, done := d }
def Jb.end_ (j : Jb) (code v : Int) : Jb := (Jb.new j.op).ask (cDone code v) 13
def Jb.setNode (j : Jb) (w : Wd) : Jb := { j with node := w }
def Jb.setHead (j : Jb) (w : Wd) : Jb := { j with head := w }
def Jb.setTail (j : Jb) (w : Wd) : Jb := { j with tail := w }
def Jb.setNext (j : Jb) (w : Wd) : Jb := { j with next := w }
def Jb.setVal (j : Jb) (v : Int) : Jb := { j with val := v }
def Jb.bring (j : Jb) : Jb := j.ask (cSwap (0, 0, 1) j.tail j.next) 7
def Jb.lookT (j : Jb) : Jb := j.ask (cProtect (0, 0, 1) 0) 3
def Jb.lookH (j : Jb) : Jb := j.ask (cProtect (0, 0, 0) 0) 3
def Jb.link (j : Jb) (now : Wd) : Jb :=
  if sameW now j.tail = false then j.lookT else if j.next.slot = 0 then j.ask (cSwap (fld j.tail 2) j.next j.node) 8 else j.bring
def Jb.take (j : Jb) (now : Wd) : Jb :=
  if sameW now j.head = false then j.lookH else if j.next.slot = 0 then j.end_ 2 0 else if j.head.slot = j.tail.slot then j.bring else j.ask (cLoad (fld j.next 1)) 10
section
variable (j : Jb) (x : Wd × Bool)
def Jb.enq : Jb :=
  if j.done = 0 then j.ask cAlloc 1
  else if j.done = 1 then (if x.2 then (j.setNode x.1).ask (cStore (fld x.1 1) (nw j.op.val)) 2 else j.end_ 4 0)
  else if j.done = 8 then (if x.2 then j.ask (cSwap (0, 0, 1) j.tail j.node) 9 else j.lookT)
  else if j.done = 2 then j.lookT
  else if j.done = 7 then j.lookT
  else if j.done = 3 then (j.setTail x.1).ask (cLoad (fld x.1 2)) 5
  else if j.done = 5 then (j.setNext x.1).ask (cLoad (0, 0, 1)) 6
  else if j.done = 6 then j.link x.1
  else if j.done = 9 then j.end_ 1 0 else j
def Jb.deq : Jb :=
  if j.done = 11 then (if x.2 then j.ask (cRetire j.head) 12 else j.lookH)
  else if j.done = 0 then j.lookH
  else if j.done = 7 then j.lookH
  else if j.done = 3 then (j.setHead x.1).ask (cLoad (0, 0, 1)) 4
  else if j.done = 4 then (j.setTail x.1).ask (cProtect (fld j.head 2) 1) 5
  else if j.done = 5 then (j.setNext x.1).ask (cLoad (0, 0, 0)) 6
  else if j.done = 6 then j.take x.1
  else if j.done = 10 then (j.setVal x.1.num).ask (cSwap (0, 0, 0) j.head j.next) 11
  else if j.done = 12 then j.end_ 1 j.val else j
def Jb.go : Jb := if j.op.kind = 4 then j.enq x else if j.op.kind = 5 then j.deq x else j
end
/-- The reference's job. -/
structure Rf where
  op : Po
  line : Int
  node : Wd
  h : Wd
  t : Wd
  n : Wd
  num : Int
  fin : Ca
def Rf.new (o : Po) : Rf := ⟨o, 0, zw, zw, zw, zw, 0, za⟩
def Rf.at_ (u : Rf) (l : Int) : Rf := { u with line := l }
def Rf.done (u : Rf) (code v : Int) : Rf × Ca := ({ u with line := 9, fin := cDone code v }, cDone code v)
def Rf.link (u : Rf) (now : Wd) : Rf × Ca :=
  if sameW now u.t = false then (u.at_ 3, cProtect (0, 0, 1) 0) else if u.n.slot = 0 then (u.at_ 7, cSwap (fld u.t 2) u.n u.node) else (u.at_ 6, cSwap (0, 0, 1) u.t u.n)
def Rf.take (u : Rf) (now : Wd) : Rf × Ca :=
  if sameW now u.h = false then (u.at_ 1, cProtect (0, 0, 0) 0) else if u.n.slot = 0 then u.done 2 0 else if u.h.slot = u.t.slot then (u.at_ 5, cSwap (0, 0, 1) u.t u.n) else (u.at_ 6, cLoad (fld u.n 1))
section
variable (u : Rf) (x : Wd × Bool)
def Rf.enq : Rf × Ca :=
  if u.line = 0 then (u.at_ 1, cAlloc)
  else if u.line = 1 then (if x.2 then ({ u with line := 2, node := x.1 }, cStore (fld x.1 1) (nw u.op.val)) else u.done 4 0)
  else if u.line = 3 then ({ u with line := 4, t := x.1 }, cLoad (fld x.1 2))
  else if u.line = 4 then ({ u with line := 5, n := x.1 }, cLoad (0, 0, 1))
  else if u.line = 5 then u.link x.1
  else if u.line = 7 then (if x.2 then (u.at_ 8, cSwap (0, 0, 1) u.t u.node) else (u.at_ 3, cProtect (0, 0, 1) 0))
  else if u.line = 8 then u.done 1 0
  else (u.at_ 3, cProtect (0, 0, 1) 0)
def Rf.deq : Rf × Ca :=
  if u.line = 1 then ({ u with line := 2, h := x.1 }, cLoad (0, 0, 1))
  else if u.line = 2 then ({ u with line := 3, t := x.1 }, cProtect (fld u.h 2) 1)
  else if u.line = 3 then ({ u with line := 4, n := x.1 }, cLoad (0, 0, 0))
  else if u.line = 4 then u.take x.1
  else if u.line = 6 then ({ u with line := 7, num := x.1.num }, cSwap (0, 0, 0) u.h u.n)
  else if u.line = 7 then (if x.2 then (u.at_ 8, cRetire u.h) else (u.at_ 1, cProtect (0, 0, 0) 0))
  else if u.line = 8 then u.done 1 u.num
  else (u.at_ 1, cProtect (0, 0, 0) 0)
def Rf.go : Rf × Ca := if u.line = 9 then (u, u.fin) else if u.op.kind = 4 then u.enq x else u.deq x
end
/-- Both stand at the same place. -/
def LinesE (d l : Int) : Prop := (d = 0 ∧ l = 0) ∨ (d = 1 ∧ l = 1) ∨ (d = 2 ∧ l = 2) ∨ (d = 7 ∧ l = 6) ∨ (d = 3 ∧ l = 3) ∨ (d = 5 ∧ l = 4) ∨ (d = 6 ∧ l = 5) ∨ (d = 8 ∧ l = 7) ∨ (d = 9 ∧ l = 8)
def LinesD (d l : Int) : Prop := (d = 0 ∧ l = 0) ∨ (d = 3 ∧ l = 1) ∨ (d = 4 ∧ l = 2) ∨ (d = 5 ∧ l = 3) ∨ (d = 6 ∧ l = 4) ∨ (d = 7 ∧ l = 5) ∨ (d = 10 ∧ l = 6) ∨ (d = 11 ∧ l = 7) ∨ (d = 12 ∧ l = 8)
instance (d l : Int) : Decidable (LinesE d l) := by unfold LinesE; infer_instance
instance (d l : Int) : Decidable (LinesD d l) := by unfold LinesD; infer_instance
/-! ### as they lie -/
def cac (c : Ca) : List Value := [.int .i64 c.c.kind, .int .i64 c.c.s, .int .i64 c.c.g, .int .i64 c.c.f, .int .i64 c.c.old.slot, .int .i64 c.c.old.gen, .int .i64 c.c.old.tag, .int .i64 c.c.old.num, .bool c.c.old.mark, .int .i64 c.c.new.slot, .int .i64 c.c.new.gen, .int .i64 c.c.new.tag, .int .i64 c.c.new.num, .bool c.c.new.mark, .int .i64 c.c.i, .int .i64 c.c.j, .int .i64 c.code, .int .i64 c.aval]
def cav (c : Ca) : Value := .agg (cac c).toArray
def opc (o : Po) : List Value := [.int .i64 o.kind, .int .i64 o.key, .int .i64 o.val, .int .i64 o.tall]
def opv (o : Po) : Value := .agg #[.int .i64 o.kind, .int .i64 o.key, .int .i64 o.val, .int .i64 o.tall]
def jsc (j : Jb) : List Value := cac j.ca ++ (.int .i64 j.done :: (wc j.node ++ (wc j.head ++ (wc j.tail ++ (wc j.next ++ [.int .i64 j.val])))))
def jc (j : Jb) : List Value := jsc j ++ opc j.op
theorem jc_len (j : Jb) : (jc j).length = 44 := rfl
/-- A job's own block. -/
def JAt (w : World) (b : Nat) (j : Jb) : Prop := BlkW w b 176 (jc j).toArray
/-- What a call leaves that turns the job's own block alone. -/
def JLeaf (w : World) (b : Nat) (j : Jb) (e : Ending) (w' : World) : Prop := e = .returned (.tuple #[]) ∧ Hid (JAt w' b j) ∧ Hid (Only b w w')
section
variable {w w' : World} {b : Nat} {j j' : Jb}
theorem JAt.puts (h : JAt w b j) (o : Nat) (vs : List Value) (e : putL (jc j) o vs = jc j') : JAt (w.setCells b o vs) b j' := by
  have := blk_puts vs o h
  rw [e] at this; exact this
theorem JAt.set (h : JAt w b j) (o : Nat) (v : Value) (e : (jc j).set o v = jc j') : JAt (w.setCell ⟨b, o, none⟩ v) b j' := by
  have := BlkW.set h o v
  rw [List.setIfInBounds_toArray, e] at this; exact this
theorem JAt.there (h : JAt w b j) (o n : Nat) (hn : o + n ≤ 44) : w.there b o n := there_of_blk h o n (by rw [List.size_toArray, jc_len]; exact hn)
theorem JAt.cell (h : JAt w b j) (o : Nat) {v : Value} (e : (jc j)[o]? = some v) : w.cell? ⟨b, o, none⟩ = some v := by
  rw [BlkW.cell h, List.getElem?_toArray]; exact e
theorem JAt.range (h : JAt w b j) (o : Nat) (cs : List Value) (e : ((jc j).drop o).take cs.length = cs) : w.rangeAt b o cs := fun i v hv => by
  have hj : i < cs.length := (List.getElem?_eq_some_iff.1 hv).1
  rw [BlkW.cell h, List.getElem?_toArray]
  rw [← e, List.getElem?_take_of_lt (by simpa using hj), List.getElem?_drop] at hv
  exact hv
theorem JAt.frozen (h : JAt w b j) (o : Nat) : w.frozen? ⟨b, o, none⟩ = false := BlkW.frozen h o
theorem JAt.below (h : JAt w b j) (hb : Below w.heap.size w w') : JAt w' b j := BlkW.below h hb
theorem JAt.drew (h : JAt w b j) : JAt w.drew b j := h.below (Below.refl _ _).drew
theorem JAt.done (h : JAt w b j) : w.cell? ⟨b, 18, none⟩ = some (.int .i64 j.done) := h.cell 18 (by kernel_rfl)
theorem JAt.kind (h : JAt w b j) : w.cell? ⟨b, 40, none⟩ = some (.int .i64 j.op.kind) := h.cell 40 (by kernel_rfl)
theorem JAt.oval (h : JAt w b j) : w.cell? ⟨b, 42, none⟩ = some (.int .i64 j.op.val) := h.cell 42 (by kernel_rfl)
theorem JAt.val (h : JAt w b j) : w.cell? ⟨b, 39, none⟩ = some (.int .i64 j.val) := h.cell 39 (by kernel_rfl)
theorem JAt.node5 (h : JAt w b j) : w.cell? ⟨b, 19, none⟩ = some (.int .i64 j.node.slot) ∧ w.cell? ⟨b, 20, none⟩ = some (.int .i64 j.node.gen) ∧ w.cell? ⟨b, 21, none⟩ = some (.int .i64 j.node.tag) ∧ w.cell? ⟨b, 22, none⟩ = some (.int .i64 j.node.num) ∧ w.cell? ⟨b, 23, none⟩ = some (.bool j.node.mark) := ⟨h.cell 19 (by kernel_rfl), h.cell 20 (by kernel_rfl), h.cell 21 (by kernel_rfl), h.cell 22 (by kernel_rfl), h.cell 23 (by kernel_rfl)⟩
theorem JAt.head5 (h : JAt w b j) : w.cell? ⟨b, 24, none⟩ = some (.int .i64 j.head.slot) ∧ w.cell? ⟨b, 25, none⟩ = some (.int .i64 j.head.gen) ∧ w.cell? ⟨b, 26, none⟩ = some (.int .i64 j.head.tag) ∧ w.cell? ⟨b, 27, none⟩ = some (.int .i64 j.head.num) ∧ w.cell? ⟨b, 28, none⟩ = some (.bool j.head.mark) := ⟨h.cell 24 (by kernel_rfl), h.cell 25 (by kernel_rfl), h.cell 26 (by kernel_rfl), h.cell 27 (by kernel_rfl), h.cell 28 (by kernel_rfl)⟩
theorem JAt.tail5 (h : JAt w b j) : w.cell? ⟨b, 29, none⟩ = some (.int .i64 j.tail.slot) ∧ w.cell? ⟨b, 30, none⟩ = some (.int .i64 j.tail.gen) ∧ w.cell? ⟨b, 31, none⟩ = some (.int .i64 j.tail.tag) ∧ w.cell? ⟨b, 32, none⟩ = some (.int .i64 j.tail.num) ∧ w.cell? ⟨b, 33, none⟩ = some (.bool j.tail.mark) := ⟨h.cell 29 (by kernel_rfl), h.cell 30 (by kernel_rfl), h.cell 31 (by kernel_rfl), h.cell 32 (by kernel_rfl), h.cell 33 (by kernel_rfl)⟩
theorem JAt.next5 (h : JAt w b j) : w.cell? ⟨b, 34, none⟩ = some (.int .i64 j.next.slot) ∧ w.cell? ⟨b, 35, none⟩ = some (.int .i64 j.next.gen) ∧ w.cell? ⟨b, 36, none⟩ = some (.int .i64 j.next.tag) ∧ w.cell? ⟨b, 37, none⟩ = some (.int .i64 j.next.num) ∧ w.cell? ⟨b, 38, none⟩ = some (.bool j.next.mark) := ⟨h.cell 34 (by kernel_rfl), h.cell 35 (by kernel_rfl), h.cell 36 (by kernel_rfl), h.cell 37 (by kernel_rfl), h.cell 38 (by kernel_rfl)⟩
theorem JAt.setNode (h : JAt w b j) (d : Wd) : JAt (w.setCells b 19 (wc d)) b (j.setNode d) := h.puts 19 (wc d) (by kernel_rfl)
theorem JAt.setHead (h : JAt w b j) (d : Wd) : JAt (w.setCells b 24 (wc d)) b (j.setHead d) := h.puts 24 (wc d) (by kernel_rfl)
theorem JAt.setTail (h : JAt w b j) (d : Wd) : JAt (w.setCells b 29 (wc d)) b (j.setTail d) := h.puts 29 (wc d) (by kernel_rfl)
theorem JAt.setNext (h : JAt w b j) (d : Wd) : JAt (w.setCells b 34 (wc d)) b (j.setNext d) := h.puts 34 (wc d) (by kernel_rfl)
theorem JAt.setVal (h : JAt w b j) (v : Int) : JAt (w.setCell ⟨b, 39, none⟩ (.int .i64 v)) b (j.setVal v) := h.set 39 _ (by kernel_rfl)
theorem JLeaf.from_ {w1 : World} {e : Ending} (h : JLeaf w1 b j e w') (hb : Only b w w1) : JLeaf w b j e w' := ⟨h.1, h.2.1, Lib.hid (Off.trans hb h.2.2.out (fun _ _ e => e))⟩
theorem cac_one (c : Ca) : (cac c).toArray.all (·.oneCell') = true := by kernel_rfl
theorem jsc_one (j : Jb) : (jsc j).toArray.all (·.oneCell') = true := by kernel_rfl
theorem infoJs : (Tryz.prog.info? 174).map (·.size) = some 40 := by kernel_rfl
/-- A store into the job's own block. -/
theorem wp_store_j {ops : Array Oper} {rest : List Oper} {op : Oper} {a : Act} {w : World} {Q : Exit → Act → World → Prop} (h : JAt w b j) (hgd : op.guard = none) (ty : TypeId) (x y : Operand) (ho : op.op = .store ty x y)
    (o : Nat) (cs : List Value) (hx : a.eval x = .pointer (some ⟨b, o, none⟩)) (hy : a.eval y = .agg cs.toArray) (hn : o + cs.length ≤ 44) (hi : (Tryz.prog.info? ty).map (·.size) = some cs.length) (h1 : cs.toArray.all (·.oneCell') = true)
    (j' : Jb) (e : putL (jc j) o cs = jc j')
    (k : ∀ w', JAt w' b j' → Only b w w' → b < w'.heap.size → wpList Tryz.prog ops Q rest (a.put op.dst undef) w') : wpList Tryz.prog ops Q (op :: rest) a w := by
  refine wpList_store_mid hgd ty x y ho b o cs.toArray hx hy (by simpa using h.there o cs.length hn) (by simpa using hi) h1 ?_
  have hh := h.puts o cs e
  exact k _ hh (Off.sets (K := fun i => i = b) (.inl rfl) _ o (Off.refl _ w)) (BlkW.lt hh)
end
end Go.Proofs.YtihjklimcchkhaaGreatDoor.Co

namespace Go.Proofs.YtihjklimcchkhaaGreatDoor.Co
open Go.RowKit Go.Extern.Stop Go.Stop Go.Extern Go.Sort
theorem Field_at (s g t n : Int) (m : Bool) (f : Int) (w : World) :
    Calls Tryz.prog 72 #[.agg #[.int .i64 s, .int .i64 g, .int .i64 t, .int .i64 n, .bool m], .int .i64 f] w fun e w' => e = .returned (.agg #[.int .i64 s, .int .i64 g, .int .i64 f]) ∧ Below w.heap.size w w' := by
  go_enter Tryz.func72, Tryz.ntmps72
  go_wp2
  exact bodyPost_ret (v := .agg #[.int .i64 s, .int .i64 g, .int .i64 f]) (by simp [results, Tryz.results72, go_sem]) rfl ⟨rfl, below_alloc (below_alloc (Below.refl _ _) _) _⟩
theorem Num_at (n : Int) (w : World) : Calls Tryz.prog 81 #[.int .i64 n] w fun e w' => e = .returned (.agg #[.int .i64 0, .int .i64 0, .int .i64 0, .int .i64 n, .bool false]) ∧ Below w.heap.size w w' := Num_any n w
theorem To_at (s g t n : Int) (m : Bool) (s' g' t' n' : Int) (m' : Bool) (w : World) :
    Calls Tryz.prog 82 #[.agg #[.int .i64 s, .int .i64 g, .int .i64 t, .int .i64 n, .bool m], .agg #[.int .i64 s', .int .i64 g', .int .i64 t', .int .i64 n', .bool m']] w fun e w' => e = .returned (.agg #[.int .i64 s', .int .i64 g', .int .i64 (wrap64 (t + 1)), .int .i64 0, .bool false]) ∧ Below w.heap.size w w' := To_any s g t n m s' g' t' n' m' w
theorem Nil_is (s g t n : Int) (m q : Bool) (hq : (s == 0) = q) (w : World) : Calls Tryz.prog 21 #[.agg #[.int .i64 s, .int .i64 g, .int .i64 t, .int .i64 n, .bool m]] w fun e w' => e = .returned (.bool q) ∧ Below w.heap.size w w' := hq ▸ Nil_any s g t n m w
section
variable {w w' : World} {b : Nat} {j j' : Jb}
theorem box_cac (w : World) (c : Ca) : BlkW (w.alloc (.cells (cac c).toArray 51)) w.heap.size 51 (cac c).toArray := BlkW.new _ _ _
set_option maxRecDepth 100000 in
set_option maxHeartbeats 1000000 in
theorem jask_any (h : JAt w b j) (c : Ca) (d : Int) :
    Calls Tryz.prog 137 #[.pointer (some ⟨b, 0, none⟩), cav c, .int .i64 d] w (JLeaf w b (j.ask c d)) := by
  have hb := below_alloc (Below.refl w.heap.size w) (.cells (cac c).toArray 51)
  have HR := Lib.hid (h.below hb)
  have HB := Lib.hid hb
  have HX := Lib.hid (box_cac w c)
  clear h hb
  show Calls _ _ #[_, .agg (cac c).toArray, _] _ _
  go_enter Tryz.func137, Tryz.ntmps137
  go_upto_region 1 with fail
  generalize w.alloc (.cells (cac c).toArray 51) = W at HR HX HB ⊢
  have hX := HX.out
  have HRG := Lib.hid (show W.rangeAt w.heap.size 0 (cac c) from fun i v hv => by rw [Nat.zero_add]; exact (BlkW.cell hX i).trans (by rw [List.getElem?_toArray]; exact hv))
  have hz := BlkW.lt HR.out
  clear hX HX
  generalize w.heap.size = g at HRG ⊢
  generalize hG : Value.agg (cac c).toArray = G
  have HG := Lib.hid hG
  clear hG
  go_wp2_with (first
    | (refine wpList_load_mid rfl 51 (.tmp 4) rfl g 0 rfl (cac c) _ HRG.out Tryz.underlying51 rfl infoCl ?_; rw [HG.out])
    | (refine wp_store_j HR.out rfl 51 (.tmp 11) (.tmp 8) rfl 0 (cac c) (by rfl) (HG.out.symm) (Nat.le_of_ble_eq_true rfl) infoCl (cac_one _) { j with ca := c } (by kernel_rfl) ?_; intro W1 R1 O1 hz1; have c18 := R1.done; have f18 := R1.frozen 18; have R1 := Lib.hid R1; have O1 := Lib.hid O1))
  go_end0
  exact ⟨rfl, Lib.hid (R1.out.set 18 (.int .i64 d) (by kernel_rfl)), Lib.hid ((Only.of_below HB.out).trans ((show Off (fun i => i = b) W _ from O1.out).set (.inl rfl) 18 _))⟩
set_option maxRecDepth 100000 in
set_option maxHeartbeats 1000000 in
theorem jload_any (h : JAt w b j) (x : Int × Int × Int) (d : Int) :
    Calls Tryz.prog 142 #[.pointer (some ⟨b, 0, none⟩), adv x, .int .i64 d] w (JLeaf w b (j.ask (cLoad x) d)) := by
  have HR := Lib.hid (h.below (below_alloc (Below.refl _ _) (.cells #[.int .i64 x.1, .int .i64 x.2.1, .int .i64 x.2.2] 47)))
  clear h
  unfold adv
  go_enter Tryz.func142, Tryz.ntmps142
  go_wp2_with fail
  refine (jask_any HR.out (cLoad x) d).mono ?_
  rintro e w1 ⟨rfl, h1, h2⟩
  go_wp2
  go_end0
  exact ⟨rfl, h1, Lib.hid ((Only.of_below (below_alloc (Below.refl _ _) _)).trans h2.out)⟩
set_option maxRecDepth 100000 in
set_option maxHeartbeats 1000000 in
theorem jprotect_any (h : JAt w b j) (x : Int × Int × Int) (i d : Int) :
    Calls Tryz.prog 145 #[.pointer (some ⟨b, 0, none⟩), adv x, .int .i64 i, .int .i64 d] w (JLeaf w b (j.ask (cProtect x i) d)) := by
  have HR := Lib.hid (h.below (below_alloc (Below.refl _ _) (.cells #[.int .i64 x.1, .int .i64 x.2.1, .int .i64 x.2.2] 47)))
  clear h
  unfold adv
  go_enter Tryz.func145, Tryz.ntmps145
  go_wp2_with fail
  refine (jask_any HR.out (cProtect x i) d).mono ?_
  rintro e w1 ⟨rfl, h1, h2⟩
  go_wp2
  go_end0
  exact ⟨rfl, h1, Lib.hid ((Only.of_below (below_alloc (Below.refl _ _) _)).trans h2.out)⟩
set_option maxRecDepth 100000 in
set_option maxHeartbeats 1000000 in
theorem jstore_any (h : JAt w b j) (x : Int × Int × Int) (v : Wd) (d : Int) :
    Calls Tryz.prog 139 #[.pointer (some ⟨b, 0, none⟩), adv x, wv v, .int .i64 d] w (JLeaf w b (j.ask (cStore x v) d)) := by
  have HR := Lib.hid (h.below (below_alloc (below_alloc (Below.refl _ _) (.cells #[.int .i64 x.1, .int .i64 x.2.1, .int .i64 x.2.2] 47)) (.cells #[.int .i64 v.slot, .int .i64 v.gen, .int .i64 v.tag, .int .i64 v.num, .bool v.mark] 34)))
  clear h
  unfold adv wv
  go_enter Tryz.func139, Tryz.ntmps139
  go_wp2_with fail
  refine (jask_any HR.out (cStore x v) d).mono ?_
  rintro e w1 ⟨rfl, h1, h2⟩
  go_wp2
  go_end0
  exact ⟨rfl, h1, Lib.hid ((Only.of_below (below_alloc (below_alloc (Below.refl _ _) _) _)).trans h2.out)⟩
set_option maxRecDepth 100000 in
set_option maxHeartbeats 1000000 in
theorem jend_any (h : JAt w b j) (x y : Int) :
    Calls Tryz.prog 138 #[.pointer (some ⟨b, 0, none⟩), .int .i64 x, .int .i64 y] w (JLeaf w b (j.end_ x y)) := by
  have HR := Lib.hid h
  have hz := BlkW.lt h
  clear h
  go_enter Tryz.func138, Tryz.ntmps138
  go_wp2_with (refine wp_store_j HR.out rfl 174 (.tmp 8) (.tmp 7) rfl 0 (jsc (Jb.new j.op)) (by rfl) (by rfl) (Nat.le_of_ble_eq_true rfl) infoJs (jsc_one _) (Jb.new j.op) (by kernel_rfl) ?_; intro W1 R1 O1 hz1; have R1 := Lib.hid R1; have O1 := Lib.hid O1)
  refine (jask_any R1.out (cDone x y) 13).mono ?_
  rintro e w1 ⟨rfl, h1, h2⟩
  go_wp2
  go_end0
  exact ⟨rfl, h1, Lib.hid (O1.out.trans h2.out)⟩
theorem root_is (n : Int) (hn : 0 ≤ n ∧ n < 24) (w : World) : Calls Tryz.prog 75 #[.int .i64 n] w fun e w' => e = .returned (.agg #[.int .i64 0, .int .i64 0, .int .i64 n]) ∧ Below w.heap.size w w' := by
  have HN := Lib.hid hn
  clear hn
  go_enter Tryz.func75, Tryz.ntmps75
  go_wp2_with fail
  refine (Bd.Root_yes n HN.out _).mono ?_
  rintro e w1 ⟨rfl, hb⟩
  obtain ⟨⟨c0, c1, c2⟩, ⟨f0, f1, f2⟩, hz, hB⟩ := Bd.box3 hb
  have HB := Lib.hid hB
  clear hb hB
  unfold Bd.ad
  go_wp2
  exact bodyPost_ret (v := .agg #[.int .i64 0, .int .i64 0, .int .i64 n]) (by simp [results, Tryz.results75, go_sem, c0, c1, c2, hz]) rfl ⟨rfl, below_alloc (Bd.set3 HB.out _ _ _) _⟩
theorem root0 (w : World) : Calls Tryz.prog 75 #[.int .i64 0] w fun e w' => e = .returned (.agg #[.int .i64 0, .int .i64 0, .int .i64 0]) ∧ Below w.heap.size w w' := root_is 0 (by decide) w
theorem root1 (w : World) : Calls Tryz.prog 75 #[.int .i64 1] w fun e w' => e = .returned (.agg #[.int .i64 0, .int .i64 0, .int .i64 1]) ∧ Below w.heap.size w w' := root_is 1 (by decide) w
end
end Go.Proofs.YtihjklimcchkhaaGreatDoor.Co

namespace Go.Proofs.YtihjklimcchkhaaGreatDoor.Co
open Go.RowKit Go.Extern.Stop Go.Stop Go.Extern Go.Sort
section
variable {w w' : World} {b : Nat} {j j' : Jb}
set_option maxRecDepth 100000 in
set_option maxHeartbeats 1000000 in
theorem jswap_any (h : JAt w b j) (x : Int × Int × Int) (s r : Wd) (d : Int) :
    Calls Tryz.prog 140 #[.pointer (some ⟨b, 0, none⟩), adv x, wv s, wv r, .int .i64 d] w (JLeaf w b (j.ask (cSwap x s r) d)) := by
  have hlt := BlkW.lt h
  have hb := below_alloc (below_alloc (below_alloc (Below.refl w.heap.size w) (.cells #[.int .i64 x.1, .int .i64 x.2.1, .int .i64 x.2.2] 47)) (.cells #[.int .i64 s.slot, .int .i64 s.gen, .int .i64 s.tag, .int .i64 s.num, .bool s.mark] 34)) (.cells #[.int .i64 r.slot, .int .i64 r.gen, .int .i64 r.tag, .int .i64 r.num, .bool r.mark] 34)
  have HR := Lib.hid (h.below hb)
  have HO := Lib.hid (Only.of_below (r := b) hb)
  obtain ⟨hA, hS, hR⟩ := blk3 w #[.int .i64 x.1, .int .i64 x.2.1, .int .i64 x.2.2] #[.int .i64 s.slot, .int .i64 s.gen, .int .i64 s.tag, .int .i64 s.num, .bool s.mark] #[.int .i64 r.slot, .int .i64 r.gen, .int .i64 r.tag, .int .i64 r.num, .bool r.mark] 47 34 34
  clear h hb
  unfold adv wv
  go_enter Tryz.func140, Tryz.ntmps140
  go_upto_region 1 with fail
  show Code.wp _ _ _ _ (((w.alloc (.cells #[.int .i64 x.1, .int .i64 x.2.1, .int .i64 x.2.2] 47)).alloc (.cells #[.int .i64 s.slot, .int .i64 s.gen, .int .i64 s.tag, .int .i64 s.num, .bool s.mark] 34)).alloc (.cells #[.int .i64 r.slot, .int .i64 r.gen, .int .i64 r.tag, .int .i64 r.num, .bool r.mark] 34))
  generalize ((w.alloc (.cells #[.int .i64 x.1, .int .i64 x.2.1, .int .i64 x.2.2] 47)).alloc (.cells #[.int .i64 s.slot, .int .i64 s.gen, .int .i64 s.tag, .int .i64 s.num, .bool s.mark] 34)).alloc (.cells #[.int .i64 r.slot, .int .i64 r.gen, .int .i64 r.tag, .int .i64 r.num, .bool r.mark] 34) = W at HR HO hA hS hR ⊢
  have z0 := hA.lt
  have z1 := hS.lt
  have z2 := hR.lt
  have a0 : W.cell? ⟨w.heap.size, 0, none⟩ = some (.int .i64 x.1) := hA.cell 0
  have a1 : W.cell? ⟨w.heap.size, 1, none⟩ = some (.int .i64 x.2.1) := hA.cell 1
  have a2 : W.cell? ⟨w.heap.size, 2, none⟩ = some (.int .i64 x.2.2) := hA.cell 2
  have s0 : W.cell? ⟨w.heap.size + 1, 0, none⟩ = some (.int .i64 s.slot) := hS.cell 0
  have s1 : W.cell? ⟨w.heap.size + 1, 1, none⟩ = some (.int .i64 s.gen) := hS.cell 1
  have s2 : W.cell? ⟨w.heap.size + 1, 2, none⟩ = some (.int .i64 s.tag) := hS.cell 2
  have s3 : W.cell? ⟨w.heap.size + 1, 3, none⟩ = some (.int .i64 s.num) := hS.cell 3
  have s4 : W.cell? ⟨w.heap.size + 1, 4, none⟩ = some (.bool s.mark) := hS.cell 4
  have r0 : W.cell? ⟨w.heap.size + 1 + 1, 0, none⟩ = some (.int .i64 r.slot) := hR.cell 0
  have r1 : W.cell? ⟨w.heap.size + 1 + 1, 1, none⟩ = some (.int .i64 r.gen) := hR.cell 1
  have r2 : W.cell? ⟨w.heap.size + 1 + 1, 2, none⟩ = some (.int .i64 r.tag) := hR.cell 2
  have r3 : W.cell? ⟨w.heap.size + 1 + 1, 3, none⟩ = some (.int .i64 r.num) := hR.cell 3
  have r4 : W.cell? ⟨w.heap.size + 1 + 1, 4, none⟩ = some (.bool r.mark) := hR.cell 4
  have n0 : w.heap.size ≠ b := by omega
  have n1 : w.heap.size + 1 ≠ b := by omega
  have n2 : w.heap.size + 1 + 1 ≠ b := by omega
  clear hA hS hR hlt
  generalize w.heap.size = g at z0 z1 z2 n0 n1 n2 a0 a1 a2 s0 s1 s2 s3 s4 r0 r1 r2 r3 r4 ⊢
  have hz := BlkW.lt HR.out
  have HD := Lib.hid HR.out.drew
  go_region_held3 (fun w' => w'.cell? ⟨g, 0, none⟩ = some (.int .i64 x.1) ∧ w'.cell? ⟨g, 1, none⟩ = some (.int .i64 x.2.1) ∧ w'.cell? ⟨g, 2, none⟩ = some (.int .i64 x.2.2) ∧ w'.cell? ⟨g + 1, 0, none⟩ = some (.int .i64 s.slot) ∧ w'.cell? ⟨g + 1, 1, none⟩ = some (.int .i64 s.gen) ∧ w'.cell? ⟨g + 1, 2, none⟩ = some (.int .i64 s.tag) ∧ w'.cell? ⟨g + 1, 3, none⟩ = some (.int .i64 s.num) ∧ w'.cell? ⟨g + 1, 4, none⟩ = some (.bool s.mark) ∧ w'.cell? ⟨g + 1 + 1, 0, none⟩ = some (.int .i64 r.slot) ∧ w'.cell? ⟨g + 1 + 1, 1, none⟩ = some (.int .i64 r.gen) ∧ w'.cell? ⟨g + 1 + 1, 2, none⟩ = some (.int .i64 r.tag) ∧ w'.cell? ⟨g + 1 + 1, 3, none⟩ = some (.int .i64 r.num) ∧ w'.cell? ⟨g + 1 + 1, 4, none⟩ = some (.bool r.mark))
    (first | go_keep | trivial | (have hq := Only.of_below (r := b) hb; exact ⟨hq.cell z0 n0 a0, hq.cell z0 n0 a1, hq.cell z0 n0 a2, hq.cell z1 n1 s0, hq.cell z1 n1 s1, hq.cell z1 n1 s2, hq.cell z1 n1 s3, hq.cell z1 n1 s4, hq.cell z2 n2 r0, hq.cell z2 n2 r1, hq.cell z2 n2 r2, hq.cell z2 n2 r3, hq.cell z2 n2 r4⟩) | (have hq := (Only.of_below (r := b) hb).trans h2.out; exact ⟨hq.cell z0 n0 a0, hq.cell z0 n0 a1, hq.cell z0 n0 a2, hq.cell z1 n1 s0, hq.cell z1 n1 s1, hq.cell z1 n1 s2, hq.cell z1 n1 s3, hq.cell z1 n1 s4, hq.cell z2 n2 r0, hq.cell z2 n2 r1, hq.cell z2 n2 r2, hq.cell z2 n2 r3, hq.cell z2 n2 r4⟩))
    (first
    | (go_at_call 82; refine (To_at _ _ _ _ _ _ _ _ _ _ _).mono ?_; rintro e w2 ⟨rfl, hb⟩; have HA := Lib.hid (jask_any (HD.out.below hb) (cSwap x s r) d))
    | (go_at_call 137; refine HA.out.mono ?_; rintro e w3 ⟨rfl, h1, h2⟩))
  all_goals
    go_wp2
    first
      | go_end0
      | refine bodyPost_ret (results_none rfl _ _ _) rfl ?_
    exact ⟨rfl, h1, Lib.hid (((HO.out.trans Only.drew).trans (Only.of_below hb)).trans h2.out)⟩
set_option maxRecDepth 100000 in
set_option maxHeartbeats 1000000 in
theorem jlookT (h : JAt w b j) : Calls Tryz.prog 141 #[.pointer (some ⟨b, 0, none⟩)] w (JLeaf w b j.lookT) := by
  have HR := Lib.hid h
  have hz := BlkW.lt h
  clear h
  have HD := Lib.hid HR.out.drew
  go_enter Tryz.func141, Tryz.ntmps141
  go_upto_region 0 with fail
  go_region_held3 (fun w' => True)
    (first | trivial | go_keep)
    (first
    | (go_at_call 75; refine (root1 _).mono ?_; rintro e w2 ⟨rfl, hb⟩; have HA := Lib.hid (jprotect_any (HD.out.below hb) (0, 0, 1) 0 3))
    | (go_at_call 145; refine HA.out.mono ?_; rintro e w3 ⟨rfl, h1, h2⟩))
  all_goals
    go_wp2
    first
      | go_end0
      | refine bodyPost_ret (results_none rfl _ _ _) rfl ?_
    exact ⟨rfl, h1, Lib.hid ((Only.drew.trans (Only.of_below hb)).trans h2.out)⟩
set_option maxRecDepth 100000 in
set_option maxHeartbeats 1000000 in
theorem jlookH (h : JAt w b j) : Calls Tryz.prog 144 #[.pointer (some ⟨b, 0, none⟩)] w (JLeaf w b j.lookH) := by
  have HR := Lib.hid h
  have hz := BlkW.lt h
  clear h
  have HD := Lib.hid HR.out.drew
  go_enter Tryz.func144, Tryz.ntmps144
  go_upto_region 0 with fail
  go_region_held3 (fun w' => True)
    (first | trivial | go_keep)
    (first
    | (go_at_call 75; refine (root0 _).mono ?_; rintro e w2 ⟨rfl, hb⟩; have HA := Lib.hid (jprotect_any (HD.out.below hb) (0, 0, 0) 0 3))
    | (go_at_call 145; refine HA.out.mono ?_; rintro e w3 ⟨rfl, h1, h2⟩))
  all_goals
    go_wp2
    first
      | go_end0
      | refine bodyPost_ret (results_none rfl _ _ _) rfl ?_
    exact ⟨rfl, h1, Lib.hid ((Only.drew.trans (Only.of_below hb)).trans h2.out)⟩
set_option maxRecDepth 100000 in
set_option maxHeartbeats 1000000 in
theorem jbring (h : JAt w b j) : Calls Tryz.prog 169 #[.pointer (some ⟨b, 0, none⟩)] w (JLeaf w b j.bring) := by
  have HR := Lib.hid h
  have hz := BlkW.lt h
  clear h
  have HD := Lib.hid HR.out.drew
  go_enter Tryz.func169, Tryz.ntmps169
  go_upto_region 0 with fail
  obtain ⟨ta0, ta1, ta2, ta3, ta4⟩ := HR.out.tail5
  obtain ⟨ne0, ne1, ne2, ne3, ne4⟩ := HR.out.next5
  go_region_held3 (fun w' => (w'.cell? ⟨b, 29, none⟩ = some (.int .i64 j.tail.slot) ∧ w'.cell? ⟨b, 30, none⟩ = some (.int .i64 j.tail.gen) ∧ w'.cell? ⟨b, 31, none⟩ = some (.int .i64 j.tail.tag) ∧ w'.cell? ⟨b, 32, none⟩ = some (.int .i64 j.tail.num) ∧ w'.cell? ⟨b, 33, none⟩ = some (.bool j.tail.mark)) ∧ (w'.cell? ⟨b, 34, none⟩ = some (.int .i64 j.next.slot) ∧ w'.cell? ⟨b, 35, none⟩ = some (.int .i64 j.next.gen) ∧ w'.cell? ⟨b, 36, none⟩ = some (.int .i64 j.next.tag) ∧ w'.cell? ⟨b, 37, none⟩ = some (.int .i64 j.next.num) ∧ w'.cell? ⟨b, 38, none⟩ = some (.bool j.next.mark)))
    (first | go_keep | trivial | exact ⟨JAt.tail5 (j := j) (HD.out.below hb), JAt.next5 (j := j) (HD.out.below hb)⟩ | exact ⟨JAt.tail5 (j := j.bring) h1.out, JAt.next5 (j := j.bring) h1.out⟩)
    (first
    | (go_at_call 75; refine (root1 _).mono ?_; rintro e w2 ⟨rfl, hb⟩; have HA := Lib.hid (jswap_any (HD.out.below hb) (0, 0, 1) j.tail j.next 7))
    | (go_at_call 140; refine HA.out.mono ?_; rintro e w3 ⟨rfl, h1, h2⟩))
  all_goals
    go_wp2
    first
      | go_end0
      | refine bodyPost_ret (results_none rfl _ _ _) rfl ?_
    exact ⟨rfl, h1, Lib.hid ((Only.drew.trans (Only.of_below hb)).trans h2.out)⟩
theorem Same_is {a c : Wd} {q : Bool} (h : sameW a c = q) (w : World) : Calls Tryz.prog 96 #[.agg #[.int .i64 a.slot, .int .i64 a.gen, .int .i64 a.tag, .int .i64 a.num, .bool a.mark], .agg #[.int .i64 c.slot, .int .i64 c.gen, .int .i64 c.tag, .int .i64 c.num, .bool c.mark]] w fun e w' => e = .returned (.bool q) ∧ Below w.heap.size w w' := h ▸ Same_any a.slot a.gen a.tag a.num a.mark c.slot c.gen c.tag c.num c.mark w
set_option maxRecDepth 100000 in
set_option maxHeartbeats 1000000 in
theorem link_other (h : JAt w b j) (now : Wd) (hs : sameW now j.tail = false) :
    Calls Tryz.prog 143 #[.pointer (some ⟨b, 0, none⟩), wv now] w (JLeaf w b (j.lookT)) := by
  have HS := Lib.hid hs
  clear hs
  have HR := Lib.hid (h.below (below_alloc (Below.refl w.heap.size w) (.cells #[.int .i64 now.slot, .int .i64 now.gen, .int .i64 now.tag, .int .i64 now.num, .bool now.mark] 34)))
  have HO := Lib.hid (Only.of_below (r := b) (below_alloc (Below.refl w.heap.size w) (.cells #[.int .i64 now.slot, .int .i64 now.gen, .int .i64 now.tag, .int .i64 now.num, .bool now.mark] 34)))
  have hX := BlkW.new w 34 #[.int .i64 now.slot, .int .i64 now.gen, .int .i64 now.tag, .int .i64 now.num, .bool now.mark]
  clear h
  unfold wv
  go_enter Tryz.func143, Tryz.ntmps143
  go_upto_region 2 with fail
  generalize w.alloc (.cells #[.int .i64 now.slot, .int .i64 now.gen, .int .i64 now.tag, .int .i64 now.num, .bool now.mark] 34) = W at HR HO hX ⊢
  have b0 := cell_regrown (show W.cell? ⟨w.heap.size, 0, none⟩ = some (.int .i64 now.slot) from hX.cell 0)
  have b1 := cell_regrown (show W.cell? ⟨w.heap.size, 1, none⟩ = some (.int .i64 now.gen) from hX.cell 1)
  have b2 := cell_regrown (show W.cell? ⟨w.heap.size, 2, none⟩ = some (.int .i64 now.tag) from hX.cell 2)
  have b3 := cell_regrown (show W.cell? ⟨w.heap.size, 3, none⟩ = some (.int .i64 now.num) from hX.cell 3)
  have b4 := cell_regrown (show W.cell? ⟨w.heap.size, 4, none⟩ = some (.bool now.mark) from hX.cell 4)
  clear hX
  generalize w.heap.size = g at b0 b1 b2 b3 b4 ⊢
  obtain ⟨q0, q1, q2, q3, q4⟩ := HR.out.tail5
  replace q0 := cell_regrown q0
  replace q1 := cell_regrown q1
  replace q2 := cell_regrown q2
  replace q3 := cell_regrown q3
  replace q4 := cell_regrown q4
  have HN : Hid (∀ d os, Calls Tryz.prog 96 #[.agg #[.int .i64 now.slot, .int .i64 now.gen, .int .i64 now.tag, .int .i64 now.num, .bool now.mark], .agg #[.int .i64 j.tail.slot, .int .i64 j.tail.gen, .int .i64 j.tail.tag, .int .i64 j.tail.num, .bool j.tail.mark]] (grow (redrawn W d) os) fun e w'' => e = .returned (.bool false) ∧ ∃ p : Regrown, w'' = grow (redrawn W p.d) p.os) := Lib.hid (fun d os => Calls.regrown_of (Same_is HS.out _))
  refine wp_region_quiet_below (by kernel_rfl) (by kernel_rfl) ?_
  repeat (go_big_quiet_step ((first | with_reducible exact HN.out _ _)))
  refine wpQuiet_nil ?_
  intro _ hw'
  obtain ⟨⟨dq, osq⟩, hw''⟩ := hw'
  subst hw''
  have hb := below_regrown W dq osq
  generalize grow (redrawn W dq) osq = w1 at hb ⊢
  have HR1 := Lib.hid (HR.out.below hb)
  have HO1 := Lib.hid (HO.out.trans (Only.of_below (r := b) hb))
  clear HR HO hb b0 b1 b2 b3 b4 q0 q1 q2 q3 q4 HN HS
  have hz := BlkW.lt HR1.out
  go_wp2_with fail
  refine (jlookT HR1.out).mono ?_
  rintro e w2 ⟨rfl, h1, h2⟩
  go_wp2
  first
    | go_end0
    | refine bodyPost_ret (results_none rfl _ _ _) rfl ?_
  exact ⟨rfl, h1, Lib.hid (HO1.out.trans h2.out)⟩
set_option maxRecDepth 100000 in
set_option maxHeartbeats 1000000 in
theorem link_bring (h : JAt w b j) (now : Wd) (hs : sameW now j.tail = true) (hx : ¬ j.next.slot = 0) :
    Calls Tryz.prog 143 #[.pointer (some ⟨b, 0, none⟩), wv now] w (JLeaf w b (j.bring)) := by
  have HS := Lib.hid hs
  clear hs
  have HX := Lib.hid hx
  clear hx
  have HR := Lib.hid (h.below (below_alloc (Below.refl w.heap.size w) (.cells #[.int .i64 now.slot, .int .i64 now.gen, .int .i64 now.tag, .int .i64 now.num, .bool now.mark] 34)))
  have HO := Lib.hid (Only.of_below (r := b) (below_alloc (Below.refl w.heap.size w) (.cells #[.int .i64 now.slot, .int .i64 now.gen, .int .i64 now.tag, .int .i64 now.num, .bool now.mark] 34)))
  have hX := BlkW.new w 34 #[.int .i64 now.slot, .int .i64 now.gen, .int .i64 now.tag, .int .i64 now.num, .bool now.mark]
  clear h
  unfold wv
  go_enter Tryz.func143, Tryz.ntmps143
  go_upto_region 2 with fail
  generalize w.alloc (.cells #[.int .i64 now.slot, .int .i64 now.gen, .int .i64 now.tag, .int .i64 now.num, .bool now.mark] 34) = W at HR HO hX ⊢
  have b0 := cell_regrown (show W.cell? ⟨w.heap.size, 0, none⟩ = some (.int .i64 now.slot) from hX.cell 0)
  have b1 := cell_regrown (show W.cell? ⟨w.heap.size, 1, none⟩ = some (.int .i64 now.gen) from hX.cell 1)
  have b2 := cell_regrown (show W.cell? ⟨w.heap.size, 2, none⟩ = some (.int .i64 now.tag) from hX.cell 2)
  have b3 := cell_regrown (show W.cell? ⟨w.heap.size, 3, none⟩ = some (.int .i64 now.num) from hX.cell 3)
  have b4 := cell_regrown (show W.cell? ⟨w.heap.size, 4, none⟩ = some (.bool now.mark) from hX.cell 4)
  clear hX
  generalize w.heap.size = g at b0 b1 b2 b3 b4 ⊢
  obtain ⟨q0, q1, q2, q3, q4⟩ := HR.out.tail5
  replace q0 := cell_regrown q0
  replace q1 := cell_regrown q1
  replace q2 := cell_regrown q2
  replace q3 := cell_regrown q3
  replace q4 := cell_regrown q4
  have HN : Hid (∀ d os, Calls Tryz.prog 96 #[.agg #[.int .i64 now.slot, .int .i64 now.gen, .int .i64 now.tag, .int .i64 now.num, .bool now.mark], .agg #[.int .i64 j.tail.slot, .int .i64 j.tail.gen, .int .i64 j.tail.tag, .int .i64 j.tail.num, .bool j.tail.mark]] (grow (redrawn W d) os) fun e w'' => e = .returned (.bool true) ∧ ∃ p : Regrown, w'' = grow (redrawn W p.d) p.os) := Lib.hid (fun d os => Calls.regrown_of (Same_is HS.out _))
  refine wp_region_quiet_below (by kernel_rfl) (by kernel_rfl) ?_
  repeat (go_big_quiet_step ((first | with_reducible exact HN.out _ _)))
  refine wpQuiet_nil ?_
  intro _ hw'
  obtain ⟨⟨dq, osq⟩, hw''⟩ := hw'
  subst hw''
  have hb := below_regrown W dq osq
  generalize grow (redrawn W dq) osq = w1 at hb ⊢
  have HR1 := Lib.hid (HR.out.below hb)
  have HO1 := Lib.hid (HO.out.trans (Only.of_below (r := b) hb))
  clear HR HO hb b0 b1 b2 b3 b4 q0 q1 q2 q3 q4 HN HS
  have hz := BlkW.lt HR1.out
  obtain ⟨q0, q1, q2, q3, q4⟩ := HR1.out.next5
  have HQ := Lib.hid (show (j.next.slot == 0) = false by have := HX.out; simpa using this)
  go_wp2_with fail
  refine (Nil_is _ _ _ _ _ _ HQ.out _).mono ?_
  rintro e w2 ⟨rfl, hb⟩
  have HR2 := Lib.hid (HR1.out.below hb)
  have HO2 := Lib.hid (HO1.out.trans (Only.of_below (r := b) hb))
  clear HR1 HO1 hb q0 q1 q2 q3 q4 HQ HX hz
  have hz := BlkW.lt HR2.out
  go_wp2_with fail
  refine (jbring HR2.out).mono ?_
  rintro e w3 ⟨rfl, h1, h2⟩
  go_wp2
  first
    | go_end0
    | refine bodyPost_ret (results_none rfl _ _ _) rfl ?_
  exact ⟨rfl, h1, Lib.hid (HO2.out.trans h2.out)⟩
set_option maxRecDepth 100000 in
set_option maxHeartbeats 1000000 in
theorem link_last (h : JAt w b j) (now : Wd) (hs : sameW now j.tail = true) (hx : j.next.slot = 0) :
    Calls Tryz.prog 143 #[.pointer (some ⟨b, 0, none⟩), wv now] w (JLeaf w b (j.ask (cSwap (fld j.tail 2) j.next j.node) 8)) := by
  have HS := Lib.hid hs
  clear hs
  have HX := Lib.hid hx
  clear hx
  have HR := Lib.hid (h.below (below_alloc (Below.refl w.heap.size w) (.cells #[.int .i64 now.slot, .int .i64 now.gen, .int .i64 now.tag, .int .i64 now.num, .bool now.mark] 34)))
  have HO := Lib.hid (Only.of_below (r := b) (below_alloc (Below.refl w.heap.size w) (.cells #[.int .i64 now.slot, .int .i64 now.gen, .int .i64 now.tag, .int .i64 now.num, .bool now.mark] 34)))
  have hX := BlkW.new w 34 #[.int .i64 now.slot, .int .i64 now.gen, .int .i64 now.tag, .int .i64 now.num, .bool now.mark]
  clear h
  unfold wv
  go_enter Tryz.func143, Tryz.ntmps143
  go_upto_region 2 with fail
  generalize w.alloc (.cells #[.int .i64 now.slot, .int .i64 now.gen, .int .i64 now.tag, .int .i64 now.num, .bool now.mark] 34) = W at HR HO hX ⊢
  have b0 := cell_regrown (show W.cell? ⟨w.heap.size, 0, none⟩ = some (.int .i64 now.slot) from hX.cell 0)
  have b1 := cell_regrown (show W.cell? ⟨w.heap.size, 1, none⟩ = some (.int .i64 now.gen) from hX.cell 1)
  have b2 := cell_regrown (show W.cell? ⟨w.heap.size, 2, none⟩ = some (.int .i64 now.tag) from hX.cell 2)
  have b3 := cell_regrown (show W.cell? ⟨w.heap.size, 3, none⟩ = some (.int .i64 now.num) from hX.cell 3)
  have b4 := cell_regrown (show W.cell? ⟨w.heap.size, 4, none⟩ = some (.bool now.mark) from hX.cell 4)
  clear hX
  generalize w.heap.size = g at b0 b1 b2 b3 b4 ⊢
  obtain ⟨q0, q1, q2, q3, q4⟩ := HR.out.tail5
  replace q0 := cell_regrown q0
  replace q1 := cell_regrown q1
  replace q2 := cell_regrown q2
  replace q3 := cell_regrown q3
  replace q4 := cell_regrown q4
  have HN : Hid (∀ d os, Calls Tryz.prog 96 #[.agg #[.int .i64 now.slot, .int .i64 now.gen, .int .i64 now.tag, .int .i64 now.num, .bool now.mark], .agg #[.int .i64 j.tail.slot, .int .i64 j.tail.gen, .int .i64 j.tail.tag, .int .i64 j.tail.num, .bool j.tail.mark]] (grow (redrawn W d) os) fun e w'' => e = .returned (.bool true) ∧ ∃ p : Regrown, w'' = grow (redrawn W p.d) p.os) := Lib.hid (fun d os => Calls.regrown_of (Same_is HS.out _))
  refine wp_region_quiet_below (by kernel_rfl) (by kernel_rfl) ?_
  repeat (go_big_quiet_step ((first | with_reducible exact HN.out _ _)))
  refine wpQuiet_nil ?_
  intro _ hw'
  obtain ⟨⟨dq, osq⟩, hw''⟩ := hw'
  subst hw''
  have hb := below_regrown W dq osq
  generalize grow (redrawn W dq) osq = w1 at hb ⊢
  have HR1 := Lib.hid (HR.out.below hb)
  have HO1 := Lib.hid (HO.out.trans (Only.of_below (r := b) hb))
  clear HR HO hb b0 b1 b2 b3 b4 q0 q1 q2 q3 q4 HN HS
  have hz := BlkW.lt HR1.out
  obtain ⟨q0, q1, q2, q3, q4⟩ := HR1.out.next5
  have HQ := Lib.hid (show (j.next.slot == 0) = true by have := HX.out; simpa using this)
  go_wp2_with fail
  refine (Nil_is _ _ _ _ _ _ HQ.out _).mono ?_
  rintro e w2 ⟨rfl, hb⟩
  have HR2 := Lib.hid (HR1.out.below hb)
  have HO2 := Lib.hid (HO1.out.trans (Only.of_below (r := b) hb))
  clear HR1 HO1 hb q0 q1 q2 q3 q4 HQ HX hz
  have hz := BlkW.lt HR2.out
  have HD := Lib.hid HR2.out.drew
  go_upto_region 1 with fail
  obtain ⟨ta0, ta1, ta2, ta3, ta4⟩ := HR2.out.tail5
  obtain ⟨ne0, ne1, ne2, ne3, ne4⟩ := HR2.out.next5
  obtain ⟨no0, no1, no2, no3, no4⟩ := HR2.out.node5
  go_region_held3 (fun w' => (w'.cell? ⟨b, 29, none⟩ = some (.int .i64 j.tail.slot) ∧ w'.cell? ⟨b, 30, none⟩ = some (.int .i64 j.tail.gen) ∧ w'.cell? ⟨b, 31, none⟩ = some (.int .i64 j.tail.tag) ∧ w'.cell? ⟨b, 32, none⟩ = some (.int .i64 j.tail.num) ∧ w'.cell? ⟨b, 33, none⟩ = some (.bool j.tail.mark)) ∧ (w'.cell? ⟨b, 34, none⟩ = some (.int .i64 j.next.slot) ∧ w'.cell? ⟨b, 35, none⟩ = some (.int .i64 j.next.gen) ∧ w'.cell? ⟨b, 36, none⟩ = some (.int .i64 j.next.tag) ∧ w'.cell? ⟨b, 37, none⟩ = some (.int .i64 j.next.num) ∧ w'.cell? ⟨b, 38, none⟩ = some (.bool j.next.mark)) ∧ (w'.cell? ⟨b, 19, none⟩ = some (.int .i64 j.node.slot) ∧ w'.cell? ⟨b, 20, none⟩ = some (.int .i64 j.node.gen) ∧ w'.cell? ⟨b, 21, none⟩ = some (.int .i64 j.node.tag) ∧ w'.cell? ⟨b, 22, none⟩ = some (.int .i64 j.node.num) ∧ w'.cell? ⟨b, 23, none⟩ = some (.bool j.node.mark)))
    (first | go_keep | trivial | exact ⟨JAt.tail5 (j := j) (HD.out.below hb), JAt.next5 (j := j) (HD.out.below hb), JAt.node5 (j := j) (HD.out.below hb)⟩ | exact ⟨JAt.tail5 (j := (j.ask (cSwap (fld j.tail 2) j.next j.node) 8)) h1.out, JAt.next5 (j := (j.ask (cSwap (fld j.tail 2) j.next j.node) 8)) h1.out, JAt.node5 (j := (j.ask (cSwap (fld j.tail 2) j.next j.node) 8)) h1.out⟩)
    (first
    | (go_at_call 72; refine (Field_at _ _ _ _ _ _ _).mono ?_; rintro e w3 ⟨rfl, hb⟩; have HA := Lib.hid (jswap_any (HD.out.below hb) (fld j.tail 2) j.next j.node 8))
    | (go_at_call 140; refine HA.out.mono ?_; rintro e w4 ⟨rfl, h1, h2⟩))
  all_goals
    go_wp2
    first
      | go_end0
      | refine bodyPost_ret (results_none rfl _ _ _) rfl ?_
    exact ⟨rfl, h1, Lib.hid (((HO2.out.trans Only.drew).trans (Only.of_below hb)).trans h2.out)⟩
set_option maxRecDepth 100000 in
set_option maxHeartbeats 1000000 in
theorem take_other (h : JAt w b j) (now : Wd) (hs : sameW now j.head = false) :
    Calls Tryz.prog 146 #[.pointer (some ⟨b, 0, none⟩), wv now] w (JLeaf w b (j.lookH)) := by
  have HS := Lib.hid hs
  clear hs
  have HR := Lib.hid (h.below (below_alloc (Below.refl w.heap.size w) (.cells #[.int .i64 now.slot, .int .i64 now.gen, .int .i64 now.tag, .int .i64 now.num, .bool now.mark] 34)))
  have HO := Lib.hid (Only.of_below (r := b) (below_alloc (Below.refl w.heap.size w) (.cells #[.int .i64 now.slot, .int .i64 now.gen, .int .i64 now.tag, .int .i64 now.num, .bool now.mark] 34)))
  have hX := BlkW.new w 34 #[.int .i64 now.slot, .int .i64 now.gen, .int .i64 now.tag, .int .i64 now.num, .bool now.mark]
  clear h
  unfold wv
  go_enter Tryz.func146, Tryz.ntmps146
  go_upto_region 2 with fail
  generalize w.alloc (.cells #[.int .i64 now.slot, .int .i64 now.gen, .int .i64 now.tag, .int .i64 now.num, .bool now.mark] 34) = W at HR HO hX ⊢
  have b0 := cell_regrown (show W.cell? ⟨w.heap.size, 0, none⟩ = some (.int .i64 now.slot) from hX.cell 0)
  have b1 := cell_regrown (show W.cell? ⟨w.heap.size, 1, none⟩ = some (.int .i64 now.gen) from hX.cell 1)
  have b2 := cell_regrown (show W.cell? ⟨w.heap.size, 2, none⟩ = some (.int .i64 now.tag) from hX.cell 2)
  have b3 := cell_regrown (show W.cell? ⟨w.heap.size, 3, none⟩ = some (.int .i64 now.num) from hX.cell 3)
  have b4 := cell_regrown (show W.cell? ⟨w.heap.size, 4, none⟩ = some (.bool now.mark) from hX.cell 4)
  clear hX
  generalize w.heap.size = g at b0 b1 b2 b3 b4 ⊢
  obtain ⟨q0, q1, q2, q3, q4⟩ := HR.out.head5
  replace q0 := cell_regrown q0
  replace q1 := cell_regrown q1
  replace q2 := cell_regrown q2
  replace q3 := cell_regrown q3
  replace q4 := cell_regrown q4
  have HN : Hid (∀ d os, Calls Tryz.prog 96 #[.agg #[.int .i64 now.slot, .int .i64 now.gen, .int .i64 now.tag, .int .i64 now.num, .bool now.mark], .agg #[.int .i64 j.head.slot, .int .i64 j.head.gen, .int .i64 j.head.tag, .int .i64 j.head.num, .bool j.head.mark]] (grow (redrawn W d) os) fun e w'' => e = .returned (.bool false) ∧ ∃ p : Regrown, w'' = grow (redrawn W p.d) p.os) := Lib.hid (fun d os => Calls.regrown_of (Same_is HS.out _))
  refine wp_region_quiet_below (by kernel_rfl) (by kernel_rfl) ?_
  repeat (go_big_quiet_step ((first | with_reducible exact HN.out _ _)))
  refine wpQuiet_nil ?_
  intro _ hw'
  obtain ⟨⟨dq, osq⟩, hw''⟩ := hw'
  subst hw''
  have hb := below_regrown W dq osq
  generalize grow (redrawn W dq) osq = w1 at hb ⊢
  have HR1 := Lib.hid (HR.out.below hb)
  have HO1 := Lib.hid (HO.out.trans (Only.of_below (r := b) hb))
  clear HR HO hb b0 b1 b2 b3 b4 q0 q1 q2 q3 q4 HN HS
  have hz := BlkW.lt HR1.out
  go_wp2_with fail
  refine (jlookH HR1.out).mono ?_
  rintro e w2 ⟨rfl, h1, h2⟩
  go_wp2
  first
    | go_end0
    | refine bodyPost_ret (results_none rfl _ _ _) rfl ?_
  exact ⟨rfl, h1, Lib.hid (HO1.out.trans h2.out)⟩
set_option maxRecDepth 100000 in
set_option maxHeartbeats 1000000 in
theorem take_none (h : JAt w b j) (now : Wd) (hs : sameW now j.head = true) (hx : j.next.slot = 0) :
    Calls Tryz.prog 146 #[.pointer (some ⟨b, 0, none⟩), wv now] w (JLeaf w b (j.end_ 2 0)) := by
  have HS := Lib.hid hs
  clear hs
  have HX := Lib.hid hx
  clear hx
  have HR := Lib.hid (h.below (below_alloc (Below.refl w.heap.size w) (.cells #[.int .i64 now.slot, .int .i64 now.gen, .int .i64 now.tag, .int .i64 now.num, .bool now.mark] 34)))
  have HO := Lib.hid (Only.of_below (r := b) (below_alloc (Below.refl w.heap.size w) (.cells #[.int .i64 now.slot, .int .i64 now.gen, .int .i64 now.tag, .int .i64 now.num, .bool now.mark] 34)))
  have hX := BlkW.new w 34 #[.int .i64 now.slot, .int .i64 now.gen, .int .i64 now.tag, .int .i64 now.num, .bool now.mark]
  clear h
  unfold wv
  go_enter Tryz.func146, Tryz.ntmps146
  go_upto_region 2 with fail
  generalize w.alloc (.cells #[.int .i64 now.slot, .int .i64 now.gen, .int .i64 now.tag, .int .i64 now.num, .bool now.mark] 34) = W at HR HO hX ⊢
  have b0 := cell_regrown (show W.cell? ⟨w.heap.size, 0, none⟩ = some (.int .i64 now.slot) from hX.cell 0)
  have b1 := cell_regrown (show W.cell? ⟨w.heap.size, 1, none⟩ = some (.int .i64 now.gen) from hX.cell 1)
  have b2 := cell_regrown (show W.cell? ⟨w.heap.size, 2, none⟩ = some (.int .i64 now.tag) from hX.cell 2)
  have b3 := cell_regrown (show W.cell? ⟨w.heap.size, 3, none⟩ = some (.int .i64 now.num) from hX.cell 3)
  have b4 := cell_regrown (show W.cell? ⟨w.heap.size, 4, none⟩ = some (.bool now.mark) from hX.cell 4)
  clear hX
  generalize w.heap.size = g at b0 b1 b2 b3 b4 ⊢
  obtain ⟨q0, q1, q2, q3, q4⟩ := HR.out.head5
  replace q0 := cell_regrown q0
  replace q1 := cell_regrown q1
  replace q2 := cell_regrown q2
  replace q3 := cell_regrown q3
  replace q4 := cell_regrown q4
  have HN : Hid (∀ d os, Calls Tryz.prog 96 #[.agg #[.int .i64 now.slot, .int .i64 now.gen, .int .i64 now.tag, .int .i64 now.num, .bool now.mark], .agg #[.int .i64 j.head.slot, .int .i64 j.head.gen, .int .i64 j.head.tag, .int .i64 j.head.num, .bool j.head.mark]] (grow (redrawn W d) os) fun e w'' => e = .returned (.bool true) ∧ ∃ p : Regrown, w'' = grow (redrawn W p.d) p.os) := Lib.hid (fun d os => Calls.regrown_of (Same_is HS.out _))
  refine wp_region_quiet_below (by kernel_rfl) (by kernel_rfl) ?_
  repeat (go_big_quiet_step ((first | with_reducible exact HN.out _ _)))
  refine wpQuiet_nil ?_
  intro _ hw'
  obtain ⟨⟨dq, osq⟩, hw''⟩ := hw'
  subst hw''
  have hb := below_regrown W dq osq
  generalize grow (redrawn W dq) osq = w1 at hb ⊢
  have HR1 := Lib.hid (HR.out.below hb)
  have HO1 := Lib.hid (HO.out.trans (Only.of_below (r := b) hb))
  clear HR HO hb b0 b1 b2 b3 b4 q0 q1 q2 q3 q4 HN HS
  have hz := BlkW.lt HR1.out
  obtain ⟨q0, q1, q2, q3, q4⟩ := HR1.out.next5
  have HQ := Lib.hid (show (j.next.slot == 0) = true by have := HX.out; simpa using this)
  go_wp2_with fail
  refine (Nil_is _ _ _ _ _ _ HQ.out _).mono ?_
  rintro e w2 ⟨rfl, hb⟩
  have HR2 := Lib.hid (HR1.out.below hb)
  have HO2 := Lib.hid (HO1.out.trans (Only.of_below (r := b) hb))
  clear HR1 HO1 hb q0 q1 q2 q3 q4 HQ HX hz
  have hz := BlkW.lt HR2.out
  go_wp2_with fail
  refine (jend_any HR2.out 2 0).mono ?_
  rintro e w3 ⟨rfl, h1, h2⟩
  go_wp2
  first
    | go_end0
    | refine bodyPost_ret (results_none rfl _ _ _) rfl ?_
  exact ⟨rfl, h1, Lib.hid (HO2.out.trans h2.out)⟩
set_option maxRecDepth 100000 in
set_option maxHeartbeats 1000000 in
theorem take_bring (h : JAt w b j) (now : Wd) (hs : sameW now j.head = true) (hx : ¬ j.next.slot = 0) (hy : j.head.slot = j.tail.slot) :
    Calls Tryz.prog 146 #[.pointer (some ⟨b, 0, none⟩), wv now] w (JLeaf w b (j.bring)) := by
  have HS := Lib.hid hs
  clear hs
  have HX := Lib.hid hx
  clear hx
  have HY := Lib.hid hy
  clear hy
  have HR := Lib.hid (h.below (below_alloc (Below.refl w.heap.size w) (.cells #[.int .i64 now.slot, .int .i64 now.gen, .int .i64 now.tag, .int .i64 now.num, .bool now.mark] 34)))
  have HO := Lib.hid (Only.of_below (r := b) (below_alloc (Below.refl w.heap.size w) (.cells #[.int .i64 now.slot, .int .i64 now.gen, .int .i64 now.tag, .int .i64 now.num, .bool now.mark] 34)))
  have hX := BlkW.new w 34 #[.int .i64 now.slot, .int .i64 now.gen, .int .i64 now.tag, .int .i64 now.num, .bool now.mark]
  clear h
  unfold wv
  go_enter Tryz.func146, Tryz.ntmps146
  go_upto_region 2 with fail
  generalize w.alloc (.cells #[.int .i64 now.slot, .int .i64 now.gen, .int .i64 now.tag, .int .i64 now.num, .bool now.mark] 34) = W at HR HO hX ⊢
  have b0 := cell_regrown (show W.cell? ⟨w.heap.size, 0, none⟩ = some (.int .i64 now.slot) from hX.cell 0)
  have b1 := cell_regrown (show W.cell? ⟨w.heap.size, 1, none⟩ = some (.int .i64 now.gen) from hX.cell 1)
  have b2 := cell_regrown (show W.cell? ⟨w.heap.size, 2, none⟩ = some (.int .i64 now.tag) from hX.cell 2)
  have b3 := cell_regrown (show W.cell? ⟨w.heap.size, 3, none⟩ = some (.int .i64 now.num) from hX.cell 3)
  have b4 := cell_regrown (show W.cell? ⟨w.heap.size, 4, none⟩ = some (.bool now.mark) from hX.cell 4)
  clear hX
  generalize w.heap.size = g at b0 b1 b2 b3 b4 ⊢
  obtain ⟨q0, q1, q2, q3, q4⟩ := HR.out.head5
  replace q0 := cell_regrown q0
  replace q1 := cell_regrown q1
  replace q2 := cell_regrown q2
  replace q3 := cell_regrown q3
  replace q4 := cell_regrown q4
  have HN : Hid (∀ d os, Calls Tryz.prog 96 #[.agg #[.int .i64 now.slot, .int .i64 now.gen, .int .i64 now.tag, .int .i64 now.num, .bool now.mark], .agg #[.int .i64 j.head.slot, .int .i64 j.head.gen, .int .i64 j.head.tag, .int .i64 j.head.num, .bool j.head.mark]] (grow (redrawn W d) os) fun e w'' => e = .returned (.bool true) ∧ ∃ p : Regrown, w'' = grow (redrawn W p.d) p.os) := Lib.hid (fun d os => Calls.regrown_of (Same_is HS.out _))
  refine wp_region_quiet_below (by kernel_rfl) (by kernel_rfl) ?_
  repeat (go_big_quiet_step ((first | with_reducible exact HN.out _ _)))
  refine wpQuiet_nil ?_
  intro _ hw'
  obtain ⟨⟨dq, osq⟩, hw''⟩ := hw'
  subst hw''
  have hb := below_regrown W dq osq
  generalize grow (redrawn W dq) osq = w1 at hb ⊢
  have HR1 := Lib.hid (HR.out.below hb)
  have HO1 := Lib.hid (HO.out.trans (Only.of_below (r := b) hb))
  clear HR HO hb b0 b1 b2 b3 b4 q0 q1 q2 q3 q4 HN HS
  have hz := BlkW.lt HR1.out
  obtain ⟨q0, q1, q2, q3, q4⟩ := HR1.out.next5
  have HQ := Lib.hid (show (j.next.slot == 0) = false by have := HX.out; simpa using this)
  go_wp2_with fail
  refine (Nil_is _ _ _ _ _ _ HQ.out _).mono ?_
  rintro e w2 ⟨rfl, hb⟩
  have HR2 := Lib.hid (HR1.out.below hb)
  have HO2 := Lib.hid (HO1.out.trans (Only.of_below (r := b) hb))
  clear HR1 HO1 hb q0 q1 q2 q3 q4 HQ HX hz
  have hz := BlkW.lt HR2.out
  have HE := Lib.hid (show (j.head.slot == j.tail.slot) = true by have := HY.out; simpa using this)
  have qa : w2.cell? ⟨b, 24, none⟩ = some (.int .i64 j.head.slot) := HR2.out.head5.1
  have qb : w2.cell? ⟨b, 29, none⟩ = some (.int .i64 j.tail.slot) := HR2.out.tail5.1
  have HE2 := HE.out
  go_upto_region 6 with fail
  replace qa := cell_regrown qa
  replace qb := cell_regrown qb
  refine wp_region_quiet_below (by kernel_rfl) (by kernel_rfl) ?_
  repeat (go_big_quiet_step (fail))
  refine wpQuiet_nil ?_
  intro _ hw'
  obtain ⟨⟨dq, osq⟩, hw''⟩ := hw'
  subst hw''
  have hb := below_regrown w2 dq osq
  generalize grow (redrawn w2 dq) osq = w3 at hb ⊢
  have HR3 := Lib.hid (HR2.out.below hb)
  have HO3 := Lib.hid (HO2.out.trans (Only.of_below (r := b) hb))
  clear HR2 HO2 hb qa qb HE HE2 HY hz
  have hz := BlkW.lt HR3.out
  go_wp2_with fail
  refine (jbring HR3.out).mono ?_
  rintro e w4 ⟨rfl, h1, h2⟩
  go_wp2
  first
    | go_end0
    | refine bodyPost_ret (results_none rfl _ _ _) rfl ?_
  exact ⟨rfl, h1, Lib.hid (HO3.out.trans h2.out)⟩
set_option maxRecDepth 100000 in
set_option maxHeartbeats 1000000 in
theorem take_read (h : JAt w b j) (now : Wd) (hs : sameW now j.head = true) (hx : ¬ j.next.slot = 0) (hy : ¬ j.head.slot = j.tail.slot) :
    Calls Tryz.prog 146 #[.pointer (some ⟨b, 0, none⟩), wv now] w (JLeaf w b (j.ask (cLoad (fld j.next 1)) 10)) := by
  have HS := Lib.hid hs
  clear hs
  have HX := Lib.hid hx
  clear hx
  have HY := Lib.hid hy
  clear hy
  have HR := Lib.hid (h.below (below_alloc (Below.refl w.heap.size w) (.cells #[.int .i64 now.slot, .int .i64 now.gen, .int .i64 now.tag, .int .i64 now.num, .bool now.mark] 34)))
  have HO := Lib.hid (Only.of_below (r := b) (below_alloc (Below.refl w.heap.size w) (.cells #[.int .i64 now.slot, .int .i64 now.gen, .int .i64 now.tag, .int .i64 now.num, .bool now.mark] 34)))
  have hX := BlkW.new w 34 #[.int .i64 now.slot, .int .i64 now.gen, .int .i64 now.tag, .int .i64 now.num, .bool now.mark]
  clear h
  unfold wv
  go_enter Tryz.func146, Tryz.ntmps146
  go_upto_region 2 with fail
  generalize w.alloc (.cells #[.int .i64 now.slot, .int .i64 now.gen, .int .i64 now.tag, .int .i64 now.num, .bool now.mark] 34) = W at HR HO hX ⊢
  have b0 := cell_regrown (show W.cell? ⟨w.heap.size, 0, none⟩ = some (.int .i64 now.slot) from hX.cell 0)
  have b1 := cell_regrown (show W.cell? ⟨w.heap.size, 1, none⟩ = some (.int .i64 now.gen) from hX.cell 1)
  have b2 := cell_regrown (show W.cell? ⟨w.heap.size, 2, none⟩ = some (.int .i64 now.tag) from hX.cell 2)
  have b3 := cell_regrown (show W.cell? ⟨w.heap.size, 3, none⟩ = some (.int .i64 now.num) from hX.cell 3)
  have b4 := cell_regrown (show W.cell? ⟨w.heap.size, 4, none⟩ = some (.bool now.mark) from hX.cell 4)
  clear hX
  generalize w.heap.size = g at b0 b1 b2 b3 b4 ⊢
  obtain ⟨q0, q1, q2, q3, q4⟩ := HR.out.head5
  replace q0 := cell_regrown q0
  replace q1 := cell_regrown q1
  replace q2 := cell_regrown q2
  replace q3 := cell_regrown q3
  replace q4 := cell_regrown q4
  have HN : Hid (∀ d os, Calls Tryz.prog 96 #[.agg #[.int .i64 now.slot, .int .i64 now.gen, .int .i64 now.tag, .int .i64 now.num, .bool now.mark], .agg #[.int .i64 j.head.slot, .int .i64 j.head.gen, .int .i64 j.head.tag, .int .i64 j.head.num, .bool j.head.mark]] (grow (redrawn W d) os) fun e w'' => e = .returned (.bool true) ∧ ∃ p : Regrown, w'' = grow (redrawn W p.d) p.os) := Lib.hid (fun d os => Calls.regrown_of (Same_is HS.out _))
  refine wp_region_quiet_below (by kernel_rfl) (by kernel_rfl) ?_
  repeat (go_big_quiet_step ((first | with_reducible exact HN.out _ _)))
  refine wpQuiet_nil ?_
  intro _ hw'
  obtain ⟨⟨dq, osq⟩, hw''⟩ := hw'
  subst hw''
  have hb := below_regrown W dq osq
  generalize grow (redrawn W dq) osq = w1 at hb ⊢
  have HR1 := Lib.hid (HR.out.below hb)
  have HO1 := Lib.hid (HO.out.trans (Only.of_below (r := b) hb))
  clear HR HO hb b0 b1 b2 b3 b4 q0 q1 q2 q3 q4 HN HS
  have hz := BlkW.lt HR1.out
  obtain ⟨q0, q1, q2, q3, q4⟩ := HR1.out.next5
  have HQ := Lib.hid (show (j.next.slot == 0) = false by have := HX.out; simpa using this)
  go_wp2_with fail
  refine (Nil_is _ _ _ _ _ _ HQ.out _).mono ?_
  rintro e w2 ⟨rfl, hb⟩
  have HR2 := Lib.hid (HR1.out.below hb)
  have HO2 := Lib.hid (HO1.out.trans (Only.of_below (r := b) hb))
  clear HR1 HO1 hb q0 q1 q2 q3 q4 HQ HX hz
  have hz := BlkW.lt HR2.out
  have HE := Lib.hid (show (j.head.slot == j.tail.slot) = false by have := HY.out; simpa using this)
  have qa : w2.cell? ⟨b, 24, none⟩ = some (.int .i64 j.head.slot) := HR2.out.head5.1
  have qb : w2.cell? ⟨b, 29, none⟩ = some (.int .i64 j.tail.slot) := HR2.out.tail5.1
  have HE2 := HE.out
  go_upto_region 6 with fail
  replace qa := cell_regrown qa
  replace qb := cell_regrown qb
  refine wp_region_quiet_below (by kernel_rfl) (by kernel_rfl) ?_
  repeat (go_big_quiet_step (fail))
  refine wpQuiet_nil ?_
  intro _ hw'
  obtain ⟨⟨dq, osq⟩, hw''⟩ := hw'
  subst hw''
  have hb := below_regrown w2 dq osq
  generalize grow (redrawn w2 dq) osq = w3 at hb ⊢
  have HR3 := Lib.hid (HR2.out.below hb)
  have HO3 := Lib.hid (HO2.out.trans (Only.of_below (r := b) hb))
  clear HR2 HO2 hb qa qb HE HE2 HY hz
  have hz := BlkW.lt HR3.out
  have HD := Lib.hid HR3.out.drew
  go_upto_region 1 with fail
  obtain ⟨ne0, ne1, ne2, ne3, ne4⟩ := HR3.out.next5
  go_region_held3 (fun w' => (w'.cell? ⟨b, 34, none⟩ = some (.int .i64 j.next.slot) ∧ w'.cell? ⟨b, 35, none⟩ = some (.int .i64 j.next.gen) ∧ w'.cell? ⟨b, 36, none⟩ = some (.int .i64 j.next.tag) ∧ w'.cell? ⟨b, 37, none⟩ = some (.int .i64 j.next.num) ∧ w'.cell? ⟨b, 38, none⟩ = some (.bool j.next.mark)))
    (first | go_keep | trivial | exact JAt.next5 (j := j) (HD.out.below hb) | exact JAt.next5 (j := (j.ask (cLoad (fld j.next 1)) 10)) h1.out)
    (first
    | (go_at_call 72; refine (Field_at _ _ _ _ _ _ _).mono ?_; rintro e w4 ⟨rfl, hb⟩; have HA := Lib.hid (jload_any (HD.out.below hb) (fld j.next 1) 10))
    | (go_at_call 142; refine HA.out.mono ?_; rintro e w5 ⟨rfl, h1, h2⟩))
  all_goals
    go_wp2
    first
      | go_end0
      | refine bodyPost_ret (results_none rfl _ _ _) rfl ?_
    exact ⟨rfl, h1, Lib.hid (((HO3.out.trans Only.drew).trans (Only.of_below hb)).trans h2.out)⟩
theorem jlink (h : JAt w b j) (now : Wd) : Calls Tryz.prog 143 #[.pointer (some ⟨b, 0, none⟩), wv now] w (JLeaf w b (j.link now)) := by
  unfold Jb.link
  by_cases hs : sameW now j.tail = false
  · rw [if_pos hs]; exact link_other h now hs
  · rw [if_neg hs]
    have hs : sameW now j.tail = true := by simpa using hs
    by_cases hx : j.next.slot = 0
    · rw [if_pos hx]; exact link_last h now hs hx
    · rw [if_neg hx]; exact link_bring h now hs hx
theorem jtake (h : JAt w b j) (now : Wd) : Calls Tryz.prog 146 #[.pointer (some ⟨b, 0, none⟩), wv now] w (JLeaf w b (j.take now)) := by
  unfold Jb.take
  by_cases hs : sameW now j.head = false
  · rw [if_pos hs]; exact take_other h now hs
  · rw [if_neg hs]
    have hs : sameW now j.head = true := by simpa using hs
    by_cases hx : j.next.slot = 0
    · rw [if_pos hx]; exact take_none h now hs hx
    · rw [if_neg hx]
      by_cases hy : j.head.slot = j.tail.slot
      · rw [if_pos hy]; exact take_bring h now hs hx hy
      · rw [if_neg hy]; exact take_read h now hs hx hy
end
end Go.Proofs.YtihjklimcchkhaaGreatDoor.Co
