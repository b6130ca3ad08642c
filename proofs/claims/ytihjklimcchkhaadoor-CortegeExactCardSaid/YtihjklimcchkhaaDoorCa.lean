/- cortege: a job as plain data and as it lies in memory: one block that is known whole; the reference's job likewise; both go on alike. A template (fill.py). -/
import Derived.Test.YtihjklimcchkhaaDoorCw
namespace Go.Proofs.YtihjklimcchkhaaDoor.Co
open Go.RowKit Go.Extern.Stop Go.Stop Go.Extern Go.Sort
/-- An operation. -/
structure Po where
  kind : Int
  key : Int
  val : Int
  tall : Int
/-- A call with its answer. -/
structure Ca where
  c : Cl
  code : Int
  aval : Int
def za : Ca := ⟨zc, 0, 0⟩
/-- What comes in a word's place, with another's slot; any tag. -/
def tow (w r : Wd) : Wd := ⟨r.slot, r.gen, wrap64 (w.tag + 1), 0, false⟩
def cOf (c : Cl) : Ca := ⟨c, 0, 0⟩
def cDone (code v : Int) : Ca := ⟨{ zc with kind := 12 }, code, v⟩
def cLoad (a : Int × Int × Int) : Ca := cOf { zc with kind := 3, s := a.1, g := a.2.1, f := a.2.2 }
def cStore (a : Int × Int × Int) (w : Wd) : Ca := cOf { zc with kind := 4, s := a.1, g := a.2.1, f := a.2.2, new := w }
def cProtect (a : Int × Int × Int) (i : Int) : Ca := cOf { zc with kind := 6, s := a.1, g := a.2.1, f := a.2.2, i := i }
def cSwap (a : Int × Int × Int) (s r : Wd) : Ca := cOf { zc with kind := 5, s := a.1, g := a.2.1, f := a.2.2, old := s, new := tow s r }
def cAlloc : Ca := cOf { zc with kind := 8 }
def cRetire (w : Wd) : Ca := cOf { zc with kind := 10, old := w }
/-- The cell of a word's slot. -/
def fld (w : Wd) (f : Int) : Int × Int × Int := (w.slot, w.gen, f)
/-- Whether two words are the same but for their generations. -/
def sameW (a b : Wd) : Bool := sameB a.slot a.tag a.num a.mark b.slot b.tag b.num b.mark
/-- A job: where it stands, and its operation. -/
structure Jb where
  ca : Ca
  done : Int
  node : Wd
  head : Wd
  tail : Wd
  next : Wd
  val : Int
  op : Po
def Jb.new (o : Po) : Jb := ⟨za, 0, zw, zw, zw, zw, 0, o⟩
def Jb.ask (j : Jb) (c : Ca) (d : Int) : Jb := { j with ca := c, done := d }
def Jb.end_ (j : Jb) (code v : Int) : Jb := (Jb.new j.op).ask (cDone code v) 13
def Jb.setNode (j : Jb) (w : Wd) : Jb := { j with node := w }
def Jb.setHead (j : Jb) (w : Wd) : Jb := { j with head := w }
def Jb.setTail (j : Jb) (w : Wd) : Jb := { j with tail := w }
def Jb.setNext (j : Jb) (w : Wd) : Jb := { j with next := w }
def Jb.setVal (j : Jb) (v : Int) : Jb := { j with val := v }
def Jb.bring (j : Jb) : Jb := j.ask (cSwap (0, 0, 1) j.tail j.next) 7
def Jb.lookT (j : Jb) : Jb := j.ask (cProtect (0, 0, 1) 0) 3
def Jb.lookH (j : Jb) : Jb := j.ask (cProtect (0, 0, 0) 0) 3
def Jb.link (j : Jb) (now : Wd) : Jb :=
  if sameW now j.tail = false then j.lookT else if j.next.slot = 0 then j.ask (cSwap (fld j.tail 2) j.next j.node) 8 else j.bring
def Jb.take (j : Jb) (now : Wd) : Jb :=
  if sameW now j.head = false then j.lookH else if j.next.slot = 0 then j.end_ 2 0 else if j.head.slot = j.tail.slot then j.bring else j.ask (cLoad (fld j.next 1)) 10
section
variable (j : Jb) (x : Wd × Bool)
def Jb.enq : Jb :=
  if j.done = 0 then j.ask cAlloc 1
  else if j.done = 1 then (if x.2 then (j.setNode x.1).ask (cStore (fld x.1 1) (nw j.op.val)) 2 else j.end_ 4 0)
  else if j.done = 8 then (if x.2 then j.ask (cSwap (0, 0, 1) j.tail j.node) 9 else j.lookT)
  else if j.done = 2 then j.lookT
  else if j.done = 7 then j.lookT
  else if j.done = 3 then (j.setTail x.1).ask (cLoad (fld x.1 2)) 5
  else if j.done = 5 then (j.setNext x.1).ask (cLoad (0, 0, 1)) 6
  else if j.done = 6 then j.link x.1
  else if j.done = 9 then j.end_ 1 0 else j
def Jb.deq : Jb :=
  if j.done = 11 then (if x.2 then j.ask (cRetire j.head) 12 else j.lookH)
  else if j.done = 0 then j.lookH
  else if j.done = 7 then j.lookH
  else if j.done = 3 then (j.setHead x.1).ask (cLoad (0, 0, 1)) 4
  else if j.done = 4 then (j.setTail x.1).ask (cProtect (fld j.head 2) 1) 5
  else if j.done = 5 then (j.setNext x.1).ask (cLoad (0, 0, 0)) 6
  else if j.done = 6 then j.take x.1
  else if j.done = 10 then (j.setVal x.1.num).ask (cSwap (0, 0, 0) j.head j.next) 11
  else if j.done = 12 then j.end_ 1 j.val else j
def Jb.go : Jb := if j.op.kind = 4 then j.enq x else if j.op.kind = 5 then j.deq x else j
end
/-- The reference's job. -/
structure Rf where
  op : Po
  line : Int
  node : Wd
  h : Wd
  t : Wd
  n : Wd
  num : Int
  fin : Ca
def Rf.new (o : Po) : Rf := ⟨o, 0, zw, zw, zw, zw, 0, za⟩
def Rf.at_ (u : Rf) (l : Int) : Rf := { u with line := l }
def Rf.done (u : Rf) (code v : Int) : Rf × Ca := ({ u with line := 9, fin := cDone code v }, cDone code v)
def Rf.link (u : Rf) (now : Wd) : Rf × Ca :=
  if sameW now u.t = false then (u.at_ 3, cProtect (0, 0, 1) 0) else if u.n.slot = 0 then (u.at_ 7, cSwap (fld u.t 2) u.n u.node) else (u.at_ 6, cSwap (0, 0, 1) u.t u.n)
def Rf.take (u : Rf) (now : Wd) : Rf × Ca :=
  if sameW now u.h = false then (u.at_ 1, cProtect (0, 0, 0) 0) else if u.n.slot = 0 then u.done 2 0 else if u.h.slot = u.t.slot then (u.at_ 5, cSwap (0, 0, 1) u.t u.n) else (u.at_ 6, cLoad (fld u.n 1))
section
variable (u : Rf) (x : Wd × Bool)
def Rf.enq : Rf × Ca :=
  if u.line = 0 then (u.at_ 1, cAlloc)
  else if u.line = 1 then (if x.2 then ({ u with line := 2, node := x.1 }, cStore (fld x.1 1) (nw u.op.val)) else u.done 4 0)
  else if u.line = 3 then ({ u with line := 4, t := x.1 }, cLoad (fld x.1 2))
  else if u.line = 4 then ({ u with line := 5, n := x.1 }, cLoad (0, 0, 1))
  else if u.line = 5 then u.link x.1
  else if u.line = 7 then (if x.2 then (u.at_ 8, cSwap (0, 0, 1) u.t u.node) else (u.at_ 3, cProtect (0, 0, 1) 0))
  else if u.line = 8 then u.done 1 0
  else (u.at_ 3, cProtect (0, 0, 1) 0)
def Rf.deq : Rf × Ca :=
  if u.line = 1 then ({ u with line := 2, h := x.1 }, cLoad (0, 0, 1))
  else if u.line = 2 then ({ u with line := 3, t := x.1 }, cProtect (fld u.h 2) 1)
  else if u.line = 3 then ({ u with line := 4, n := x.1 }, cLoad (0, 0, 0))
  else if u.line = 4 then u.take x.1
  else if u.line = 6 then ({ u with line := 7, num := x.1.num }, cSwap (0, 0, 0) u.h u.n)
  else if u.line = 7 then (if x.2 then (u.at_ 8, cRetire u.h) else (u.at_ 1, cProtect (0, 0, 0) 0))
  else if u.line = 8 then u.done 1 u.num
  else (u.at_ 1, cProtect (0, 0, 0) 0)
def Rf.go : Rf × Ca := if u.line = 9 then (u, u.fin) else if u.op.kind = 4 then u.enq x else u.deq x
end
/-- Both stand at the same place. -/
def LinesE (d l : Int) : Prop := (d = 0 ∧ l = 0) ∨ (d = 1 ∧ l = 1) ∨ (d = 2 ∧ l = 2) ∨ (d = 7 ∧ l = 6) ∨ (d = 3 ∧ l = 3) ∨ (d = 5 ∧ l = 4) ∨ (d = 6 ∧ l = 5) ∨ (d = 8 ∧ l = 7) ∨ (d = 9 ∧ l = 8)
def LinesD (d l : Int) : Prop := (d = 0 ∧ l = 0) ∨ (d = 3 ∧ l = 1) ∨ (d = 4 ∧ l = 2) ∨ (d = 5 ∧ l = 3) ∨ (d = 6 ∧ l = 4) ∨ (d = 7 ∧ l = 5) ∨ (d = 10 ∧ l = 6) ∨ (d = 11 ∧ l = 7) ∨ (d = 12 ∧ l = 8)
instance (d l : Int) : Decidable (LinesE d l) := by unfold LinesE; infer_instance
instance (d l : Int) : Decidable (LinesD d l) := by unfold LinesD; infer_instance
def Alike (j : Jb) (u : Rf) : Prop := j.op = u.op ∧ (j.op.kind = 4 ∨ j.op.kind = 5) ∧
  ((j.done = 13 ∧ u.line = 9 ∧ j.ca = u.fin) ∨
   (((j.op.kind = 4 ∧ LinesE j.done u.line) ∨ (j.op.kind = 5 ∧ LinesD j.done u.line)) ∧ j.node = u.node ∧ j.head = u.h ∧ j.tail = u.t ∧ j.next = u.n ∧ j.val = u.num))
theorem alike_new (o : Po) (h : o.kind = 4 ∨ o.kind = 5) : Alike (Jb.new o) (Rf.new o) :=
  ⟨rfl, h, .inr ⟨h.elim (fun k => .inl ⟨k, .inl ⟨rfl, rfl⟩⟩) (fun k => .inr ⟨k, .inl ⟨rfl, rfl⟩⟩), rfl, rfl, rfl, rfl, rfl⟩⟩
theorem alike_link {ca : Ca} {d : Int} {node head tail next : Wd} {val : Int} {op : Po} {l : Int} {fin : Ca} (hk : op.kind = 4) (now : Wd) :
    Alike (Jb.link ⟨ca, d, node, head, tail, next, val, op⟩ now) (Rf.link ⟨op, l, node, head, tail, next, val, fin⟩ now).1 ∧ (Jb.link ⟨ca, d, node, head, tail, next, val, op⟩ now).ca = (Rf.link ⟨op, l, node, head, tail, next, val, fin⟩ now).2 := by
  unfold Jb.link Rf.link
  dsimp only
  by_cases hs : sameW now tail = false
  · rw [if_pos hs, if_pos hs]
    exact ⟨⟨rfl, .inl hk, .inr ⟨.inl ⟨hk, (by decide : LinesE 3 3)⟩, rfl, rfl, rfl, rfl, rfl⟩⟩, rfl⟩
  · rw [if_neg hs, if_neg hs]
    by_cases hn : next.slot = 0
    · rw [if_pos hn, if_pos hn]
      exact ⟨⟨rfl, .inl hk, .inr ⟨.inl ⟨hk, (by decide : LinesE 8 7)⟩, rfl, rfl, rfl, rfl, rfl⟩⟩, rfl⟩
    · rw [if_neg hn, if_neg hn]
      exact ⟨⟨rfl, .inl hk, .inr ⟨.inl ⟨hk, (by decide : LinesE 7 6)⟩, rfl, rfl, rfl, rfl, rfl⟩⟩, rfl⟩
theorem alike_take {ca : Ca} {d : Int} {node head tail next : Wd} {val : Int} {op : Po} {l : Int} {fin : Ca} (hk : op.kind = 5) (now : Wd) :
    Alike (Jb.take ⟨ca, d, node, head, tail, next, val, op⟩ now) (Rf.take ⟨op, l, node, head, tail, next, val, fin⟩ now).1 ∧ (Jb.take ⟨ca, d, node, head, tail, next, val, op⟩ now).ca = (Rf.take ⟨op, l, node, head, tail, next, val, fin⟩ now).2 := by
  unfold Jb.take Rf.take
  dsimp only
  by_cases hs : sameW now head = false
  · rw [if_pos hs, if_pos hs]
    exact ⟨⟨rfl, .inr hk, .inr ⟨.inr ⟨hk, (by decide : LinesD 3 1)⟩, rfl, rfl, rfl, rfl, rfl⟩⟩, rfl⟩
  · rw [if_neg hs, if_neg hs]
    by_cases hn : next.slot = 0
    · rw [if_pos hn, if_pos hn]
      exact ⟨⟨rfl, .inr hk, .inl ⟨rfl, rfl, rfl⟩⟩, rfl⟩
    · rw [if_neg hn, if_neg hn]
      by_cases he : head.slot = tail.slot
      · rw [if_pos he, if_pos he]
        exact ⟨⟨rfl, .inr hk, .inr ⟨.inr ⟨hk, (by decide : LinesD 7 5)⟩, rfl, rfl, rfl, rfl, rfl⟩⟩, rfl⟩
      · rw [if_neg he, if_neg he]
        exact ⟨⟨rfl, .inr hk, .inr ⟨.inr ⟨hk, (by decide : LinesD 10 6)⟩, rfl, rfl, rfl, rfl, rfl⟩⟩, rfl⟩
theorem alike_go {j : Jb} {u : Rf} (h : Alike j u) (x : Wd × Bool) : Alike (j.go x) (u.go x).1 ∧ (j.go x).ca = (u.go x).2 := by
  obtain ⟨ca, d, node, head, tail, next, val, op⟩ := j
  obtain ⟨op', l, n1, h1, t1, x1, v1, fin⟩ := u
  obtain ⟨e, hk, h⟩ := h
  simp only at e hk h
  subst e
  obtain ⟨kind, key, ov, tall⟩ := op
  simp only at hk h
  obtain ⟨xw, xb⟩ := x
  rcases h with ⟨rfl, rfl, rfl⟩ | ⟨h, rfl, rfl, rfl, rfl, rfl⟩
  · rcases hk with rfl | rfl
    · exact ⟨⟨rfl, .inl rfl, .inl ⟨rfl, rfl, rfl⟩⟩, rfl⟩
    · exact ⟨⟨rfl, .inr rfl, .inl ⟨rfl, rfl, rfl⟩⟩, rfl⟩
  · rcases h with ⟨rfl, h⟩ | ⟨rfl, h⟩
    · rcases h with ⟨rfl, rfl⟩ | ⟨rfl, rfl⟩ | ⟨rfl, rfl⟩ | ⟨rfl, rfl⟩ | ⟨rfl, rfl⟩ | ⟨rfl, rfl⟩ | ⟨rfl, rfl⟩ | ⟨rfl, rfl⟩ | ⟨rfl, rfl⟩
      · exact ⟨⟨rfl, .inl rfl, .inr ⟨.inl ⟨rfl, (by decide : LinesE 1 1)⟩, rfl, rfl, rfl, rfl, rfl⟩⟩, rfl⟩
      · cases xb
        · exact ⟨⟨rfl, .inl rfl, .inl ⟨rfl, rfl, rfl⟩⟩, rfl⟩
        · exact ⟨⟨rfl, .inl rfl, .inr ⟨.inl ⟨rfl, (by decide : LinesE 2 2)⟩, rfl, rfl, rfl, rfl, rfl⟩⟩, rfl⟩
      · exact ⟨⟨rfl, .inl rfl, .inr ⟨.inl ⟨rfl, (by decide : LinesE 3 3)⟩, rfl, rfl, rfl, rfl, rfl⟩⟩, rfl⟩
      · exact ⟨⟨rfl, .inl rfl, .inr ⟨.inl ⟨rfl, (by decide : LinesE 3 3)⟩, rfl, rfl, rfl, rfl, rfl⟩⟩, rfl⟩
      · exact ⟨⟨rfl, .inl rfl, .inr ⟨.inl ⟨rfl, (by decide : LinesE 5 4)⟩, rfl, rfl, rfl, rfl, rfl⟩⟩, rfl⟩
      · exact ⟨⟨rfl, .inl rfl, .inr ⟨.inl ⟨rfl, (by decide : LinesE 6 5)⟩, rfl, rfl, rfl, rfl, rfl⟩⟩, rfl⟩
      · exact alike_link rfl xw
      · cases xb
        · exact ⟨⟨rfl, .inl rfl, .inr ⟨.inl ⟨rfl, (by decide : LinesE 3 3)⟩, rfl, rfl, rfl, rfl, rfl⟩⟩, rfl⟩
        · exact ⟨⟨rfl, .inl rfl, .inr ⟨.inl ⟨rfl, (by decide : LinesE 9 8)⟩, rfl, rfl, rfl, rfl, rfl⟩⟩, rfl⟩
      · exact ⟨⟨rfl, .inl rfl, .inl ⟨rfl, rfl, rfl⟩⟩, rfl⟩
    · rcases h with ⟨rfl, rfl⟩ | ⟨rfl, rfl⟩ | ⟨rfl, rfl⟩ | ⟨rfl, rfl⟩ | ⟨rfl, rfl⟩ | ⟨rfl, rfl⟩ | ⟨rfl, rfl⟩ | ⟨rfl, rfl⟩ | ⟨rfl, rfl⟩
      · exact ⟨⟨rfl, .inr rfl, .inr ⟨.inr ⟨rfl, (by decide : LinesD 3 1)⟩, rfl, rfl, rfl, rfl, rfl⟩⟩, rfl⟩
      · exact ⟨⟨rfl, .inr rfl, .inr ⟨.inr ⟨rfl, (by decide : LinesD 4 2)⟩, rfl, rfl, rfl, rfl, rfl⟩⟩, rfl⟩
      · exact ⟨⟨rfl, .inr rfl, .inr ⟨.inr ⟨rfl, (by decide : LinesD 5 3)⟩, rfl, rfl, rfl, rfl, rfl⟩⟩, rfl⟩
      · exact ⟨⟨rfl, .inr rfl, .inr ⟨.inr ⟨rfl, (by decide : LinesD 6 4)⟩, rfl, rfl, rfl, rfl, rfl⟩⟩, rfl⟩
      · exact alike_take rfl xw
      · exact ⟨⟨rfl, .inr rfl, .inr ⟨.inr ⟨rfl, (by decide : LinesD 3 1)⟩, rfl, rfl, rfl, rfl, rfl⟩⟩, rfl⟩
      · exact ⟨⟨rfl, .inr rfl, .inr ⟨.inr ⟨rfl, (by decide : LinesD 11 7)⟩, rfl, rfl, rfl, rfl, rfl⟩⟩, rfl⟩
      · cases xb
        · exact ⟨⟨rfl, .inr rfl, .inr ⟨.inr ⟨rfl, (by decide : LinesD 3 1)⟩, rfl, rfl, rfl, rfl, rfl⟩⟩, rfl⟩
        · exact ⟨⟨rfl, .inr rfl, .inr ⟨.inr ⟨rfl, (by decide : LinesD 12 8)⟩, rfl, rfl, rfl, rfl, rfl⟩⟩, rfl⟩
      · exact ⟨⟨rfl, .inr rfl, .inl ⟨rfl, rfl, rfl⟩⟩, rfl⟩
/-! ### as they lie -/
def cac (c : Ca) : List Value := [.int .i64 c.c.kind, .int .i64 c.c.s, .int .i64 c.c.g, .int .i64 c.c.f, .int .i64 c.c.old.slot, .int .i64 c.c.old.gen, .int .i64 c.c.old.tag, .int .i64 c.c.old.num, .bool c.c.old.mark, .int .i64 c.c.new.slot, .int .i64 c.c.new.gen, .int .i64 c.c.new.tag, .int .i64 c.c.new.num, .bool c.c.new.mark, .int .i64 c.c.i, .int .i64 c.c.j, .int .i64 c.code, .int .i64 c.aval]
def cav (c : Ca) : Value := .agg (cac c).toArray
def opc (o : Po) : List Value := [.int .i64 o.kind, .int .i64 o.key, .int .i64 o.val, .int .i64 o.tall]
def opv (o : Po) : Value := .agg #[.int .i64 o.kind, .int .i64 o.key, .int .i64 o.val, .int .i64 o.tall]
def jsc (j : Jb) : List Value := cac j.ca ++ (.int .i64 j.done :: (wc j.node ++ (wc j.head ++ (wc j.tail ++ (wc j.next ++ [.int .i64 j.val])))))
def jc (j : Jb) : List Value := jsc j ++ opc j.op
def uc (u : Rf) : List Value := opc u.op ++ (.int .i64 u.line :: (wc u.node ++ (wc u.h ++ (wc u.t ++ (wc u.n ++ (.int .i64 u.num :: cac u.fin))))))
theorem jc_len (j : Jb) : (jc j).length = 44 := rfl
theorem uc_len (u : Rf) : (uc u).length = 44 := rfl
/-- A job's own block. -/
def JAt (w : World) (b : Nat) (j : Jb) : Prop := BlkW w b 51 (jc j).toArray
def UAt (w : World) (b : Nat) (u : Rf) : Prop := BlkW w b 53 (uc u).toArray
/-- What a call leaves that turns the job's own block alone. -/
def JLeaf (w : World) (b : Nat) (j : Jb) (e : Ending) (w' : World) : Prop := e = .returned (.tuple #[]) ∧ Hid (JAt w' b j) ∧ Hid (Only b w w')
section
variable {w w' : World} {b : Nat} {j j' : Jb} {u u' : Rf}
theorem JAt.puts (h : JAt w b j) (o : Nat) (vs : List Value) (e : putL (jc j) o vs = jc j') : JAt (w.setCells b o vs) b j' := by
  have := blk_puts vs o h
  rw [e] at this; exact this
theorem JAt.set (h : JAt w b j) (o : Nat) (v : Value) (e : (jc j).set o v = jc j') : JAt (w.setCell ⟨b, o, none⟩ v) b j' := by
  have := BlkW.set h o v
  rw [List.setIfInBounds_toArray, e] at this; exact this
theorem JAt.there (h : JAt w b j) (o n : Nat) (hn : o + n ≤ 44) : w.there b o n := there_of_blk h o n (by rw [List.size_toArray, jc_len]; exact hn)
theorem JAt.cell (h : JAt w b j) (o : Nat) {v : Value} (e : (jc j)[o]? = some v) : w.cell? ⟨b, o, none⟩ = some v := by
  rw [BlkW.cell h, List.getElem?_toArray]; exact e
theorem JAt.range (h : JAt w b j) (o : Nat) (cs : List Value) (e : ((jc j).drop o).take cs.length = cs) : w.rangeAt b o cs := fun i v hv => by
  have hj : i < cs.length := (List.getElem?_eq_some_iff.1 hv).1
  rw [BlkW.cell h, List.getElem?_toArray]
  rw [← e, List.getElem?_take_of_lt (by simpa using hj), List.getElem?_drop] at hv
  exact hv
theorem JAt.frozen (h : JAt w b j) (o : Nat) : w.frozen? ⟨b, o, none⟩ = false := BlkW.frozen h o
theorem JAt.below (h : JAt w b j) (hb : Below w.heap.size w w') : JAt w' b j := BlkW.below h hb
theorem JAt.drew (h : JAt w b j) : JAt w.drew b j := h.below (Below.refl _ _).drew
theorem JAt.done (h : JAt w b j) : w.cell? ⟨b, 18, none⟩ = some (.int .i64 j.done) := h.cell 18 (by kernel_rfl)
theorem JAt.kind (h : JAt w b j) : w.cell? ⟨b, 40, none⟩ = some (.int .i64 j.op.kind) := h.cell 40 (by kernel_rfl)
theorem JAt.oval (h : JAt w b j) : w.cell? ⟨b, 42, none⟩ = some (.int .i64 j.op.val) := h.cell 42 (by kernel_rfl)
theorem JAt.val (h : JAt w b j) : w.cell? ⟨b, 39, none⟩ = some (.int .i64 j.val) := h.cell 39 (by kernel_rfl)
theorem JAt.node5 (h : JAt w b j) : w.cell? ⟨b, 19, none⟩ = some (.int .i64 j.node.slot) ∧ w.cell? ⟨b, 20, none⟩ = some (.int .i64 j.node.gen) ∧ w.cell? ⟨b, 21, none⟩ = some (.int .i64 j.node.tag) ∧ w.cell? ⟨b, 22, none⟩ = some (.int .i64 j.node.num) ∧ w.cell? ⟨b, 23, none⟩ = some (.bool j.node.mark) := ⟨h.cell 19 (by kernel_rfl), h.cell 20 (by kernel_rfl), h.cell 21 (by kernel_rfl), h.cell 22 (by kernel_rfl), h.cell 23 (by kernel_rfl)⟩
theorem JAt.head5 (h : JAt w b j) : w.cell? ⟨b, 24, none⟩ = some (.int .i64 j.head.slot) ∧ w.cell? ⟨b, 25, none⟩ = some (.int .i64 j.head.gen) ∧ w.cell? ⟨b, 26, none⟩ = some (.int .i64 j.head.tag) ∧ w.cell? ⟨b, 27, none⟩ = some (.int .i64 j.head.num) ∧ w.cell? ⟨b, 28, none⟩ = some (.bool j.head.mark) := ⟨h.cell 24 (by kernel_rfl), h.cell 25 (by kernel_rfl), h.cell 26 (by kernel_rfl), h.cell 27 (by kernel_rfl), h.cell 28 (by kernel_rfl)⟩
theorem JAt.tail5 (h : JAt w b j) : w.cell? ⟨b, 29, none⟩ = some (.int .i64 j.tail.slot) ∧ w.cell? ⟨b, 30, none⟩ = some (.int .i64 j.tail.gen) ∧ w.cell? ⟨b, 31, none⟩ = some (.int .i64 j.tail.tag) ∧ w.cell? ⟨b, 32, none⟩ = some (.int .i64 j.tail.num) ∧ w.cell? ⟨b, 33, none⟩ = some (.bool j.tail.mark) := ⟨h.cell 29 (by kernel_rfl), h.cell 30 (by kernel_rfl), h.cell 31 (by kernel_rfl), h.cell 32 (by kernel_rfl), h.cell 33 (by kernel_rfl)⟩
theorem JAt.next5 (h : JAt w b j) : w.cell? ⟨b, 34, none⟩ = some (.int .i64 j.next.slot) ∧ w.cell? ⟨b, 35, none⟩ = some (.int .i64 j.next.gen) ∧ w.cell? ⟨b, 36, none⟩ = some (.int .i64 j.next.tag) ∧ w.cell? ⟨b, 37, none⟩ = some (.int .i64 j.next.num) ∧ w.cell? ⟨b, 38, none⟩ = some (.bool j.next.mark) := ⟨h.cell 34 (by kernel_rfl), h.cell 35 (by kernel_rfl), h.cell 36 (by kernel_rfl), h.cell 37 (by kernel_rfl), h.cell 38 (by kernel_rfl)⟩
theorem JAt.setNode (h : JAt w b j) (d : Wd) : JAt (w.setCells b 19 (wc d)) b (j.setNode d) := h.puts 19 (wc d) (by kernel_rfl)
theorem JAt.setHead (h : JAt w b j) (d : Wd) : JAt (w.setCells b 24 (wc d)) b (j.setHead d) := h.puts 24 (wc d) (by kernel_rfl)
theorem JAt.setTail (h : JAt w b j) (d : Wd) : JAt (w.setCells b 29 (wc d)) b (j.setTail d) := h.puts 29 (wc d) (by kernel_rfl)
theorem JAt.setNext (h : JAt w b j) (d : Wd) : JAt (w.setCells b 34 (wc d)) b (j.setNext d) := h.puts 34 (wc d) (by kernel_rfl)
theorem JAt.setVal (h : JAt w b j) (v : Int) : JAt (w.setCell ⟨b, 39, none⟩ (.int .i64 v)) b (j.setVal v) := h.set 39 _ (by kernel_rfl)
theorem JLeaf.from_ {w1 : World} {e : Ending} (h : JLeaf w1 b j e w') (hb : Only b w w1) : JLeaf w b j e w' := ⟨h.1, h.2.1, Lib.hid (Off.trans hb h.2.2.out (fun _ _ e => e))⟩
theorem cac_one (c : Ca) : (cac c).toArray.all (·.oneCell') = true := by kernel_rfl
theorem jsc_one (j : Jb) : (jsc j).toArray.all (·.oneCell') = true := by kernel_rfl
theorem infoJs : (Tryd.prog.info? 49).map (·.size) = some 40 := by kernel_rfl
/-- A store into the job's own block. -/
theorem wp_store_j {ops : Array Oper} {rest : List Oper} {op : Oper} {a : Act} {w : World} {Q : Exit → Act → World → Prop} (h : JAt w b j) (hgd : op.guard = none) (ty : TypeId) (x y : Operand) (ho : op.op = .store ty x y)
    (o : Nat) (cs : List Value) (hx : a.eval x = .pointer (some ⟨b, o, none⟩)) (hy : a.eval y = .agg cs.toArray) (hn : o + cs.length ≤ 44) (hi : (Tryd.prog.info? ty).map (·.size) = some cs.length) (h1 : cs.toArray.all (·.oneCell') = true)
    (j' : Jb) (e : putL (jc j) o cs = jc j')
    (k : ∀ w', JAt w' b j' → Only b w w' → b < w'.heap.size → wpList Tryd.prog ops Q rest (a.put op.dst undef) w') : wpList Tryd.prog ops Q (op :: rest) a w := by
  refine wpList_store_mid hgd ty x y ho b o cs.toArray hx hy (by simpa using h.there o cs.length hn) (by simpa using hi) h1 ?_
  have hh := h.puts o cs e
  exact k _ hh (Off.sets (K := fun i => i = b) (.inl rfl) _ o (Off.refl _ w)) (BlkW.lt hh)
theorem UAt.puts (h : UAt w b u) (o : Nat) (vs : List Value) (e : putL (uc u) o vs = uc u') : UAt (w.setCells b o vs) b u' := by
  have := blk_puts vs o h
  rw [e] at this; exact this
theorem UAt.set (h : UAt w b u) (o : Nat) (v : Value) (e : (uc u).set o v = uc u') : UAt (w.setCell ⟨b, o, none⟩ v) b u' := by
  have := BlkW.set h o v
  rw [List.setIfInBounds_toArray, e] at this; exact this
theorem UAt.there (h : UAt w b u) (o n : Nat) (hn : o + n ≤ 44) : w.there b o n := there_of_blk h o n (by rw [List.size_toArray, uc_len]; exact hn)
theorem UAt.cell (h : UAt w b u) (o : Nat) {v : Value} (e : (uc u)[o]? = some v) : w.cell? ⟨b, o, none⟩ = some v := by
  rw [BlkW.cell h, List.getElem?_toArray]; exact e
theorem UAt.range (h : UAt w b u) (o : Nat) (cs : List Value) (e : ((uc u).drop o).take cs.length = cs) : w.rangeAt b o cs := fun i v hv => by
  have hj : i < cs.length := (List.getElem?_eq_some_iff.1 hv).1
  rw [BlkW.cell h, List.getElem?_toArray]
  rw [← e, List.getElem?_take_of_lt (by simpa using hj), List.getElem?_drop] at hv
  exact hv
theorem UAt.frozen (h : UAt w b u) (o : Nat) : w.frozen? ⟨b, o, none⟩ = false := BlkW.frozen h o
theorem UAt.below (h : UAt w b u) (hb : Below w.heap.size w w') : UAt w' b u := BlkW.below h hb
theorem UAt.drew (h : UAt w b u) : UAt w.drew b u := h.below (Below.refl _ _).drew
theorem UAt.kind (h : UAt w b u) : w.cell? ⟨b, 0, none⟩ = some (.int .i64 u.op.kind) := h.cell 0 (by kernel_rfl)
theorem UAt.oval (h : UAt w b u) : w.cell? ⟨b, 2, none⟩ = some (.int .i64 u.op.val) := h.cell 2 (by kernel_rfl)
theorem UAt.line (h : UAt w b u) : w.cell? ⟨b, 4, none⟩ = some (.int .i64 u.line) := h.cell 4 (by kernel_rfl)
theorem UAt.num (h : UAt w b u) : w.cell? ⟨b, 25, none⟩ = some (.int .i64 u.num) := h.cell 25 (by kernel_rfl)
theorem UAt.node5 (h : UAt w b u) : w.cell? ⟨b, 5, none⟩ = some (.int .i64 u.node.slot) ∧ w.cell? ⟨b, 6, none⟩ = some (.int .i64 u.node.gen) ∧ w.cell? ⟨b, 7, none⟩ = some (.int .i64 u.node.tag) ∧ w.cell? ⟨b, 8, none⟩ = some (.int .i64 u.node.num) ∧ w.cell? ⟨b, 9, none⟩ = some (.bool u.node.mark) := ⟨h.cell 5 (by kernel_rfl), h.cell 6 (by kernel_rfl), h.cell 7 (by kernel_rfl), h.cell 8 (by kernel_rfl), h.cell 9 (by kernel_rfl)⟩
theorem UAt.h5 (h : UAt w b u) : w.cell? ⟨b, 10, none⟩ = some (.int .i64 u.h.slot) ∧ w.cell? ⟨b, 11, none⟩ = some (.int .i64 u.h.gen) ∧ w.cell? ⟨b, 12, none⟩ = some (.int .i64 u.h.tag) ∧ w.cell? ⟨b, 13, none⟩ = some (.int .i64 u.h.num) ∧ w.cell? ⟨b, 14, none⟩ = some (.bool u.h.mark) := ⟨h.cell 10 (by kernel_rfl), h.cell 11 (by kernel_rfl), h.cell 12 (by kernel_rfl), h.cell 13 (by kernel_rfl), h.cell 14 (by kernel_rfl)⟩
theorem UAt.t5 (h : UAt w b u) : w.cell? ⟨b, 15, none⟩ = some (.int .i64 u.t.slot) ∧ w.cell? ⟨b, 16, none⟩ = some (.int .i64 u.t.gen) ∧ w.cell? ⟨b, 17, none⟩ = some (.int .i64 u.t.tag) ∧ w.cell? ⟨b, 18, none⟩ = some (.int .i64 u.t.num) ∧ w.cell? ⟨b, 19, none⟩ = some (.bool u.t.mark) := ⟨h.cell 15 (by kernel_rfl), h.cell 16 (by kernel_rfl), h.cell 17 (by kernel_rfl), h.cell 18 (by kernel_rfl), h.cell 19 (by kernel_rfl)⟩
theorem UAt.n5 (h : UAt w b u) : w.cell? ⟨b, 20, none⟩ = some (.int .i64 u.n.slot) ∧ w.cell? ⟨b, 21, none⟩ = some (.int .i64 u.n.gen) ∧ w.cell? ⟨b, 22, none⟩ = some (.int .i64 u.n.tag) ∧ w.cell? ⟨b, 23, none⟩ = some (.int .i64 u.n.num) ∧ w.cell? ⟨b, 24, none⟩ = some (.bool u.n.mark) := ⟨h.cell 20 (by kernel_rfl), h.cell 21 (by kernel_rfl), h.cell 22 (by kernel_rfl), h.cell 23 (by kernel_rfl), h.cell 24 (by kernel_rfl)⟩
end
end Go.Proofs.YtihjklimcchkhaaDoor.Co
