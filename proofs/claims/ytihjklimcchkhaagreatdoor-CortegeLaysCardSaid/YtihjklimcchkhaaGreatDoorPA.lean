/- A job of the pile's as it lies in memory: one block that is known whole; ask, end, load, store. A template (fill.py). -/
/- pile: ask, end, load, store, the root. A template (fill.py). -/
import Derived.Test.YtihjklimcchkhaaGreatDoorRa
namespace Go.Proofs.YtihjklimcchkhaaGreatDoor
open Go.RowKit Go.Extern.Stop Go.Stop Go.Extern Go.Sort
/-- An operation. -/
structure Po where
  kind : Int
  key : Int
  val : Int
  tall : Int
/-- A job: where it stands, and its operation. -/
structure Jb where
  call : Cl
  code : Int
  aval : Int
  done : Int
  node : Wd
  top : Wd
  val : Int
  op : Po
def Jb.new (o : Po) : Jb := ⟨zc, 0, 0, 0, zw, zw, 0, o⟩
def Jb.ask (j : Jb) (c : Cl) (d : Int) : Jb := { j with call := c, code := 0, aval := 0, done := d }
def Jb.end_ (j : Jb) (code v : Int) : Jb := ⟨{ zc with kind := 12 }, code, v, 9, zw, zw, 0, j.op⟩
def Jb.load (j : Jb) (a : Int × Int × Int) (d : Int) : Jb := j.ask { zc with kind := 3, s := a.1, g := a.2.1, f := a.2.2 } d
def Jb.store (j : Jb) (a : Int × Int × Int) (w : Wd) (d : Int) : Jb := j.ask { zc with kind := 4, s := a.1, g := a.2.1, f := a.2.2, new := w } d
def Jb.protectTop (j : Jb) : Jb := j.ask { zc with kind := 6 } 3
def Jb.swapTop (j : Jb) (ref : Wd) : Jb := j.ask { zc with kind := 5, old := j.top, new := j.top.to ref } 6
def Jb.setNode (j : Jb) (w : Wd) : Jb := { j with node := w }
def Jb.setTop (j : Jb) (w : Wd) : Jb := { j with top := w }
def Jb.setVal (j : Jb) (v : Int) : Jb := { j with val := v }
section
variable (j : Jb) (x : Wd × Bool)
def Jb.push : Jb :=
  if j.done = 0 then j.ask { zc with kind := 8 } 1
  else if j.done = 1 then (if x.2 then (j.setNode x.1).store (x.1.slot, x.1.gen, 1) (nw j.op.val) 2 else j.end_ 4 0)
  else if j.done = 6 then (if x.2 then j.end_ 1 0 else j.load (0, 0, 0) 3)
  else if j.done = 2 then j.load (0, 0, 0) 3
  else if j.done = 3 then (j.setTop x.1).store (j.node.slot, j.node.gen, 2) x.1.ref 4
  else if j.done = 4 then j.swapTop j.node else j
def Jb.pop : Jb :=
  if j.done = 6 then (if x.2 then j.load (j.top.slot, j.top.gen, 1) 7 else j.protectTop)
  else if j.done = 0 then j.protectTop
  else if j.done = 3 then (if x.1.nil then (j.setTop x.1).end_ 2 0 else (j.setTop x.1).load (x.1.slot, x.1.gen, 2) 5)
  else if j.done = 5 then j.swapTop x.1
  else if j.done = 7 then (j.setVal x.1.num).ask { zc with kind := 10, old := j.top } 8
  else if j.done = 8 then j.end_ 1 j.val else j
def Jb.peek : Jb :=
  if j.done = 0 then j.protectTop
  else if j.done = 3 then (if x.1.nil then j.end_ 2 0 else j.load (x.1.slot, x.1.gen, 1) 7)
  else if j.done = 7 then j.end_ 1 x.1.num else j
def Jb.next : Jb := if j.op.kind = 1 then j.push x else if j.op.kind = 2 then j.pop x else if j.op.kind = 3 then j.peek x else j
end
def cac (c : Cl) (a b : Int) : List Value := [.int .i64 c.kind, .int .i64 c.s, .int .i64 c.g, .int .i64 c.f, .int .i64 c.old.slot, .int .i64 c.old.gen, .int .i64 c.old.tag, .int .i64 c.old.num, .bool c.old.mark, .int .i64 c.new.slot, .int .i64 c.new.gen, .int .i64 c.new.tag, .int .i64 c.new.num, .bool c.new.mark, .int .i64 c.i, .int .i64 c.j, .int .i64 a, .int .i64 b]
def cav (c : Cl) (a b : Int) : Value := .agg (cac c a b).toArray
def opc (o : Po) : List Value := [.int .i64 o.kind, .int .i64 o.key, .int .i64 o.val, .int .i64 o.tall]
def jsc (j : Jb) : List Value := cac j.call j.code j.aval ++ (.int .i64 j.done :: (wc j.node ++ (wc j.top ++ [.int .i64 j.val])))
def jc (j : Jb) : List Value := jsc j ++ opc j.op
theorem jc_len (j : Jb) : (jc j).length = 34 := rfl
/-- A job's own block. -/
def JAt (w : World) (b : Nat) (j : Jb) : Prop := BlkW w b 172 (jc j).toArray
/-- What a call leaves that turns the job's own block alone. -/
def JLeaf (w : World) (b : Nat) (j : Jb) (e : Ending) (w' : World) : Prop := e = .returned (.tuple #[]) ∧ Hid (JAt w' b j) ∧ Hid (Only b w w')
section
variable {w w' : World} {b : Nat} {j j' : Jb}
theorem JAt.puts (h : JAt w b j) (o : Nat) (vs : List Value) (e : putL (jc j) o vs = jc j') : JAt (w.setCells b o vs) b j' := by
  have := blk_puts vs o h
  rw [e] at this; exact this
theorem JAt.set (h : JAt w b j) (o : Nat) (v : Value) (e : (jc j).set o v = jc j') : JAt (w.setCell ⟨b, o, none⟩ v) b j' := by
  have := BlkW.set h o v
  rw [List.setIfInBounds_toArray, e] at this; exact this
theorem JAt.there (h : JAt w b j) (o n : Nat) (hn : o + n ≤ 34) : w.there b o n := there_of_blk h o n (by rw [List.size_toArray, jc_len]; exact hn)
theorem JAt.cell (h : JAt w b j) (o : Nat) {v : Value} (e : (jc j)[o]? = some v) : w.cell? ⟨b, o, none⟩ = some v := by
  rw [BlkW.cell h, List.getElem?_toArray]; exact e
theorem JAt.range (h : JAt w b j) (o : Nat) (cs : List Value) (e : ((jc j).drop o).take cs.length = cs) : w.rangeAt b o cs := fun i v hv => by
  have hj : i < cs.length := (List.getElem?_eq_some_iff.1 hv).1
  rw [BlkW.cell h, List.getElem?_toArray]
  rw [← e, List.getElem?_take_of_lt (by simpa using hj), List.getElem?_drop] at hv
  exact hv
theorem JAt.frozen (h : JAt w b j) (o : Nat) : w.frozen? ⟨b, o, none⟩ = false := BlkW.frozen h o
theorem JAt.below (h : JAt w b j) (hb : Below w.heap.size w w') : JAt w' b j := BlkW.below h hb
theorem JAt.done (h : JAt w b j) : w.cell? ⟨b, 18, none⟩ = some (.int .i64 j.done) := h.cell 18 (by kernel_rfl)
theorem JAt.kind (h : JAt w b j) : w.cell? ⟨b, 30, none⟩ = some (.int .i64 j.op.kind) := h.cell 30 (by kernel_rfl)
theorem JAt.oval (h : JAt w b j) : w.cell? ⟨b, 32, none⟩ = some (.int .i64 j.op.val) := h.cell 32 (by kernel_rfl)
theorem JAt.val (h : JAt w b j) : w.cell? ⟨b, 29, none⟩ = some (.int .i64 j.val) := h.cell 29 (by kernel_rfl)
theorem JAt.node5 (h : JAt w b j) : w.cell? ⟨b, 19, none⟩ = some (.int .i64 j.node.slot) ∧ w.cell? ⟨b, 20, none⟩ = some (.int .i64 j.node.gen) ∧ w.cell? ⟨b, 21, none⟩ = some (.int .i64 j.node.tag) ∧ w.cell? ⟨b, 22, none⟩ = some (.int .i64 j.node.num) ∧ w.cell? ⟨b, 23, none⟩ = some (.bool j.node.mark) :=
  ⟨h.cell 19 (by kernel_rfl), h.cell 20 (by kernel_rfl), h.cell 21 (by kernel_rfl), h.cell 22 (by kernel_rfl), h.cell 23 (by kernel_rfl)⟩
theorem JAt.top5 (h : JAt w b j) : w.cell? ⟨b, 24, none⟩ = some (.int .i64 j.top.slot) ∧ w.cell? ⟨b, 25, none⟩ = some (.int .i64 j.top.gen) ∧ w.cell? ⟨b, 26, none⟩ = some (.int .i64 j.top.tag) ∧ w.cell? ⟨b, 27, none⟩ = some (.int .i64 j.top.num) ∧ w.cell? ⟨b, 28, none⟩ = some (.bool j.top.mark) :=
  ⟨h.cell 24 (by kernel_rfl), h.cell 25 (by kernel_rfl), h.cell 26 (by kernel_rfl), h.cell 27 (by kernel_rfl), h.cell 28 (by kernel_rfl)⟩
theorem JAt.setTop (h : JAt w b j) (d : Wd) : JAt (w.setCells b 24 (wc d)) b (j.setTop d) := h.puts 24 (wc d) (by kernel_rfl)
theorem JAt.setNode (h : JAt w b j) (d : Wd) : JAt (w.setCells b 19 (wc d)) b (j.setNode d) := h.puts 19 (wc d) (by kernel_rfl)
theorem JLeaf.from_ {w1 : World} {e : Ending} (h : JLeaf w1 b j e w') (hb : Only b w w1) : JLeaf w b j e w' := ⟨h.1, h.2.1, Lib.hid (Off.trans hb h.2.2.out (fun _ _ e => e))⟩
theorem cac_one (c : Cl) (x y : Int) : (cac c x y).toArray.all (·.oneCell') = true := by kernel_rfl
theorem jsc_one (j : Jb) : (jsc j).toArray.all (·.oneCell') = true := by kernel_rfl
theorem infoJs : (Tryz.prog.info? 170).map (·.size) = some 30 := by kernel_rfl
/-- A store into the job's own block. -/
theorem wp_store_j {ops : Array Oper} {rest : List Oper} {op : Oper} {a : Act} {w : World} {Q : Exit → Act → World → Prop} (h : JAt w b j) (hgd : op.guard = none) (ty : TypeId) (x y : Operand) (ho : op.op = .store ty x y)
    (o : Nat) (cs : List Value) (hx : a.eval x = .pointer (some ⟨b, o, none⟩)) (hy : a.eval y = .agg cs.toArray) (hn : o + cs.length ≤ 34) (hi : (Tryz.prog.info? ty).map (·.size) = some cs.length) (h1 : cs.toArray.all (·.oneCell') = true)
    (j' : Jb) (e : putL (jc j) o cs = jc j')
    (k : ∀ w', JAt w' b j' → Only b w w' → b < w'.heap.size → wpList Tryz.prog ops Q rest (a.put op.dst undef) w') : wpList Tryz.prog ops Q (op :: rest) a w := by
  refine wpList_store_mid hgd ty x y ho b o cs.toArray hx hy (by simpa using h.there o cs.length hn) (by simpa using hi) h1 ?_
  have hh := h.puts o cs e
  exact k _ hh (Off.sets (K := fun i => i = b) (.inl rfl) _ o (Off.refl _ w)) (BlkW.lt hh)
end
end Go.Proofs.YtihjklimcchkhaaGreatDoor

namespace Go.Proofs.YtihjklimcchkhaaGreatDoor
open Go.RowKit Go.Extern.Stop Go.Stop Go.Extern Go.Sort
section
variable {w w' : World} {b : Nat} {j j' : Jb}
def Jb.askA (j : Jb) (c : Cl) (x y d : Int) : Jb := { j with call := c, code := x, aval := y, done := d }
theorem box_cac (w : World) (c : Cl) (x y : Int) : BlkW (w.alloc (.cells (cac c x y).toArray 51)) w.heap.size 51 (cac c x y).toArray := BlkW.new _ _ _
set_option maxRecDepth 100000 in
set_option maxHeartbeats 1000000 in
theorem jask_any (h : JAt w b j) (c : Cl) (x y d : Int) :
    Calls Tryz.prog 131 #[.pointer (some ⟨b, 0, none⟩), cav c x y, .int .i64 d] w (JLeaf w b (j.askA c x y d)) := by
  have hb := below_alloc (Below.refl w.heap.size w) (.cells (cac c x y).toArray 51)
  have HR := Lib.hid (h.below hb)
  have HB := Lib.hid hb
  have HX := Lib.hid (box_cac w c x y)
  clear h hb
  show Calls _ _ #[_, .agg (cac c x y).toArray, _] _ _
  go_enter Tryz.func131, Tryz.ntmps131
  go_upto_region 1 with fail
  generalize w.alloc (.cells (cac c x y).toArray 51) = W at HR HX HB ⊢
  have hX := HX.out
  have HRG := Lib.hid (show W.rangeAt w.heap.size 0 (cac c x y) from fun i v hv => by rw [Nat.zero_add]; exact (BlkW.cell hX i).trans (by rw [List.getElem?_toArray]; exact hv))
  have hz := BlkW.lt HR.out
  clear hX HX
  generalize w.heap.size = g at HRG ⊢
  generalize hG : Value.agg (cac c x y).toArray = G
  have HG := Lib.hid hG
  clear hG
  go_wp2_with (first
    | (refine wpList_load_mid rfl 51 (.tmp 4) rfl g 0 rfl (cac c x y) _ HRG.out Tryz.underlying51 rfl infoCl ?_; rw [HG.out])
    | (refine wp_store_j HR.out rfl 51 (.tmp 11) (.tmp 8) rfl 0 (cac c x y) (by rfl) (HG.out.symm) (Nat.le_of_ble_eq_true rfl) infoCl (cac_one _ _ _) { j with call := c, code := x, aval := y } (by kernel_rfl) ?_; intro W1 R1 O1 hz1; have c18 := R1.done; have f18 := R1.frozen 18; have R1 := Lib.hid R1; have O1 := Lib.hid O1))
  go_end0
  exact ⟨rfl, Lib.hid (R1.out.set 18 (.int .i64 d) (by kernel_rfl)), Lib.hid ((Only.of_below HB.out).trans ((show Off (fun i => i = b) W _ from O1.out).set (.inl rfl) 18 _))⟩
set_option maxRecDepth 100000 in
set_option maxHeartbeats 1000000 in
theorem jload_any (h : JAt w b j) (x : Int × Int × Int) (d : Int) :
    Calls Tryz.prog 134 #[.pointer (some ⟨b, 0, none⟩), adv x, .int .i64 d] w (JLeaf w b (j.load x d)) := by
  have HR := Lib.hid (h.below (below_alloc (Below.refl _ _) (.cells #[.int .i64 x.1, .int .i64 x.2.1, .int .i64 x.2.2] 47)))
  clear h
  unfold adv
  go_enter Tryz.func134, Tryz.ntmps134
  go_wp2_with fail
  refine (jask_any HR.out { zc with kind := 3, s := x.1, g := x.2.1, f := x.2.2 } 0 0 d).mono ?_
  rintro e w1 ⟨rfl, h1, h2⟩
  go_wp2
  go_end0
  exact ⟨rfl, h1, Lib.hid ((Only.of_below (below_alloc (Below.refl _ _) _)).trans h2.out)⟩
set_option maxRecDepth 100000 in
set_option maxHeartbeats 1000000 in
theorem jstore_any (h : JAt w b j) (x : Int × Int × Int) (v : Wd) (d : Int) :
    Calls Tryz.prog 133 #[.pointer (some ⟨b, 0, none⟩), adv x, wv v, .int .i64 d] w (JLeaf w b (j.store x v d)) := by
  have HR := Lib.hid (h.below (below_alloc (below_alloc (Below.refl _ _) (.cells #[.int .i64 x.1, .int .i64 x.2.1, .int .i64 x.2.2] 47)) (.cells #[.int .i64 v.slot, .int .i64 v.gen, .int .i64 v.tag, .int .i64 v.num, .bool v.mark] 34)))
  clear h
  unfold adv wv
  go_enter Tryz.func133, Tryz.ntmps133
  go_wp2_with fail
  refine (jask_any HR.out { zc with kind := 4, s := x.1, g := x.2.1, f := x.2.2, new := v } 0 0 d).mono ?_
  rintro e w1 ⟨rfl, h1, h2⟩
  go_wp2
  go_end0
  exact ⟨rfl, h1, Lib.hid ((Only.of_below (below_alloc (below_alloc (Below.refl _ _) _) _)).trans h2.out)⟩
set_option maxRecDepth 100000 in
set_option maxHeartbeats 1000000 in
theorem jend_any (h : JAt w b j) (x y : Int) :
    Calls Tryz.prog 132 #[.pointer (some ⟨b, 0, none⟩), .int .i64 x, .int .i64 y] w (JLeaf w b (j.end_ x y)) := by
  have HR := Lib.hid h
  have hz := BlkW.lt h
  clear h
  go_enter Tryz.func132, Tryz.ntmps132
  go_wp2_with (refine wp_store_j HR.out rfl 170 (.tmp 8) (.tmp 7) rfl 0 (jsc (Jb.new j.op)) (by rfl) (by rfl) (Nat.le_of_ble_eq_true rfl) infoJs (jsc_one _) (Jb.new j.op) (by kernel_rfl) ?_; intro W1 R1 O1 hz1; have R1 := Lib.hid R1; have O1 := Lib.hid O1)
  refine (jask_any R1.out { zc with kind := 12 } x y 9).mono ?_
  rintro e w1 ⟨rfl, h1, h2⟩
  go_wp2
  go_end0
  exact ⟨rfl, h1, Lib.hid (O1.out.trans h2.out)⟩
theorem proot_any (w : World) : Calls Tryz.prog 71 #[] w fun e w' => e = .returned (adv (0, 0, 0)) ∧ Below w.heap.size w w' := by
  go_enter Tryz.func71, Tryz.ntmps71
  go_wp2_with fail
  refine (Bd.Root_yes 0 (by decide) _).mono ?_
  rintro e w1 ⟨rfl, hb⟩
  obtain ⟨⟨c0, c1, c2⟩, ⟨f0, f1, f2⟩, hz, hB⟩ := Bd.box3 hb
  have HB := Lib.hid hB
  clear hb hB
  unfold Bd.ad
  go_wp2
  exact bodyPost_ret (v := adv (0, 0, 0)) (by simp [adv, results, Tryz.results71, go_sem, c0, c1, c2, hz]) rfl ⟨rfl, below_alloc (Bd.set3 HB.out _ _ _) _⟩
set_option maxRecDepth 100000 in
set_option maxHeartbeats 1000000 in
theorem jprotect_any (h : JAt w b j) :
    Calls Tryz.prog 136 #[.pointer (some ⟨b, 0, none⟩)] w (JLeaf w b j.protectTop) := by
  have HR := Lib.hid h
  clear h
  go_enter Tryz.func136, Tryz.ntmps136
  go_wp2_with fail
  refine (proot_any _).mono ?_
  rintro e w1 ⟨rfl, hb⟩
  have HB := Lib.hid hb
  clear hb
  unfold adv
  go_wp2_with fail
  refine (jask_any (HR.out.below HB.out) { zc with kind := 6 } 0 0 3).mono ?_
  rintro e w2 ⟨rfl, h1, h2⟩
  go_wp2
  go_end0
  exact ⟨rfl, h1, Lib.hid ((Only.of_below HB.out).trans h2.out)⟩
end
end Go.Proofs.YtihjklimcchkhaaGreatDoor
