/- A rite as it lies in memory: one block that is known whole; begin, end, succeed, ask, load, announce. A template (fill.py). -/
import Derived.Test.YtihjklimcchkhaaGreatDoorWDM
import Derived.Test.YtihjklimcchkhaaGreatDoorRep
import Derived.Test.YtihjklimcchkhaaGreatDoorBd
import Derived.Deep.RegionWith
import Derived.Deep.Cut
import Derived.Deep.RegionHeld3
import Derived.Outline
namespace Go.Proofs.YtihjklimcchkhaaGreatDoor
open Go.RowKit Go.Extern.Stop Go.Stop Go.Extern Go.Sort

/-! ### what lies in it -/
def rpc (x : Wd × Bool) : List Value := [.int .i64 x.1.slot, .int .i64 x.1.gen, .int .i64 x.1.tag, .int .i64 x.1.num, .bool x.1.mark, .bool x.2]
def rpv (x : Wd × Bool) : Value := .agg #[.int .i64 x.1.slot, .int .i64 x.1.gen, .int .i64 x.1.tag, .int .i64 x.1.num, .bool x.1.mark, .bool x.2]
def aac (a : Ac) : List Value := [.int .i64 a.kind, .int .i64 a.s, .int .i64 a.g, .int .i64 a.f, .int .i64 a.old.slot, .int .i64 a.old.gen, .int .i64 a.old.tag, .int .i64 a.old.num, .bool a.old.mark, .int .i64 a.new.slot, .int .i64 a.new.gen, .int .i64 a.new.tag, .int .i64 a.new.num, .bool a.new.mark]
def aav (a : Ac) : Value := .agg #[.int .i64 a.kind, .int .i64 a.s, .int .i64 a.g, .int .i64 a.f, .int .i64 a.old.slot, .int .i64 a.old.gen, .int .i64 a.old.tag, .int .i64 a.old.num, .bool a.old.mark, .int .i64 a.new.slot, .int .i64 a.new.gen, .int .i64 a.new.tag, .int .i64 a.new.num, .bool a.new.mark]
def clc (c : Cl) : List Value := [.int .i64 c.kind, .int .i64 c.s, .int .i64 c.g, .int .i64 c.f, .int .i64 c.old.slot, .int .i64 c.old.gen, .int .i64 c.old.tag, .int .i64 c.old.num, .bool c.old.mark, .int .i64 c.new.slot, .int .i64 c.new.gen, .int .i64 c.new.tag, .int .i64 c.new.num, .bool c.new.mark, .int .i64 c.i, .int .i64 c.j, .int .i64 0, .int .i64 0]
def clv (c : Cl) : Value := .agg #[.int .i64 c.kind, .int .i64 c.s, .int .i64 c.g, .int .i64 c.f, .int .i64 c.old.slot, .int .i64 c.old.gen, .int .i64 c.old.tag, .int .i64 c.old.num, .bool c.old.mark, .int .i64 c.new.slot, .int .i64 c.new.gen, .int .i64 c.new.tag, .int .i64 c.new.num, .bool c.new.mark, .int .i64 c.i, .int .i64 c.j, .int .i64 0, .int .i64 0]
def stc (sv fv : Value) (s : Sta) : List Value :=
  rpc s.last ++ (.bool s.busy :: (clc s.call ++ (.int .i64 s.done :: (aac s.acc ++ (wc s.seen ++ (wc s.clock ++ [sv, fv, .int .i64 (s.pos : Int)]))))))
def rc (sv fv nv : Value) (m : Rt) : List Value :=
  stc sv fv m.st ++ ([.int .i64 m.eng, .int .i64 (m.me : Int), .int .i64 (m.thr : Int), .int .i64 (m.most : Int)] ++
    (wc (m.kept 0) ++ (wc (m.kept 1) ++ (wc (m.kept 2) ++ (wc (m.kept 3) ++ (wc (m.kept 4) ++ (wc (m.kept 5) ++ (wc (m.kept 6) ++ (wc (m.kept 7) ++ (wc (m.kept 8) ++
    [.bool m.span.is, .int .i64 m.span.low, .int .i64 m.span.high, nv, .int .i64 (m.freed : Int)]))))))))))
def nilS : Value := .slice none 0 0
theorem rc_len (sv fv nv : Value) (m : Rt) : (rc sv fv nv m).length = 107 := rfl
/-- The rite's own block. -/
def RtAt (w : World) (r : Nat) (sv fv nv : Value) (m : Rt) : Prop := BlkW w r 126 (rc sv fv nv m).toArray
def putL (l : List Value) (o : Nat) : List Value → List Value
  | [] => l
  | v :: r => putL (l.set o v) (o + 1) r
theorem blk_puts {g : Nat} {t : TypeId} : ∀ (vs : List Value) (o : Nat) {w : World} {l : List Value}, BlkW w g t l.toArray → BlkW (w.setCells g o vs) g t (putL l o vs).toArray
  | [], _, _, _, h => h
  | v :: r, o, _, _, h => blk_puts r (o + 1) (by have := h.set o v; rwa [List.setIfInBounds_toArray] at this)
theorem RtAt.puts {w : World} {r : Nat} {sv fv nv : Value} {m : Rt} (h : RtAt w r sv fv nv m) (o : Nat) (vs : List Value) {sv' fv' nv' : Value} {m' : Rt} (e : putL (rc sv fv nv m) o vs = rc sv' fv' nv' m') : RtAt (w.setCells r o vs) r sv' fv' nv' m' := by
  have := blk_puts vs o h
  rw [e] at this; exact this
theorem RtAt.set {w : World} {r : Nat} {sv fv nv : Value} {m : Rt} (h : RtAt w r sv fv nv m) (o : Nat) (v : Value) {sv' fv' nv' : Value} {m' : Rt} (e : (rc sv fv nv m).set o v = rc sv' fv' nv' m') : RtAt (w.setCell ⟨r, o, none⟩ v) r sv' fv' nv' m' := by
  have := BlkW.set h o v
  rw [List.setIfInBounds_toArray, e] at this; exact this
theorem RtAt.range {w : World} {r : Nat} {sv fv nv : Value} {m : Rt} (h : RtAt w r sv fv nv m) (o : Nat) (cs : List Value) (e : ((rc sv fv nv m).drop o).take cs.length = cs) : w.rangeAt r o cs := fun j v hv => by
  have hj : j < cs.length := (List.getElem?_eq_some_iff.1 hv).1
  rw [BlkW.cell h, List.getElem?_toArray]
  rw [← e, List.getElem?_take_of_lt (by simpa using hj), List.getElem?_drop] at hv
  exact hv
theorem RtAt.there {w : World} {r : Nat} {sv fv nv : Value} {m : Rt} (h : RtAt w r sv fv nv m) (o n : Nat) (hn : o + n ≤ 107) : w.there r o n := there_of_blk h o n (by rw [List.size_toArray, rc_len]; exact hn)
theorem RtAt.cell {w : World} {r : Nat} {sv fv nv : Value} {m : Rt} (h : RtAt w r sv fv nv m) (o : Nat) {v : Value} (e : (rc sv fv nv m)[o]? = some v) : w.cell? ⟨r, o, none⟩ = some v := by
  rw [BlkW.cell h, List.getElem?_toArray]; exact e
theorem RtAt.frozen {w : World} {r : Nat} {sv fv nv : Value} {m : Rt} (h : RtAt w r sv fv nv m) (o : Nat) : w.frozen? ⟨r, o, none⟩ = false := BlkW.frozen h o
theorem RtAt.done {w : World} {r : Nat} {sv fv nv : Value} {m : Rt} (h : RtAt w r sv fv nv m) : w.cell? ⟨r, 25, none⟩ = some (.int .i64 m.st.done) := h.cell 25 (by kernel_rfl)
theorem RtAt.busy {w : World} {r : Nat} {sv fv nv : Value} {m : Rt} (h : RtAt w r sv fv nv m) : w.cell? ⟨r, 6, none⟩ = some (.bool m.st.busy) := h.cell 6 (by kernel_rfl)
theorem RtAt.kind {w : World} {r : Nat} {sv fv nv : Value} {m : Rt} (h : RtAt w r sv fv nv m) : w.cell? ⟨r, 7, none⟩ = some (.int .i64 m.st.call.kind) := h.cell 7 (by kernel_rfl)
theorem RtAt.fix {w : World} {r : Nat} {sv fv nv : Value} {m : Rt} (h : RtAt w r sv fv nv m) : w.cell? ⟨r, 53, none⟩ = some (.int .i64 m.eng) ∧ w.cell? ⟨r, 54, none⟩ = some (.int .i64 (m.me : Int)) ∧ w.cell? ⟨r, 55, none⟩ = some (.int .i64 (m.thr : Int)) ∧ w.cell? ⟨r, 56, none⟩ = some (.int .i64 (m.most : Int)) :=
  ⟨h.cell 53 (by kernel_rfl), h.cell 54 (by kernel_rfl), h.cell 55 (by kernel_rfl), h.cell 56 (by kernel_rfl)⟩
theorem RtAt.accs {w : World} {r : Nat} {sv fv nv : Value} {m : Rt} (h : RtAt w r sv fv nv m) : ∀ j v, (aac m.st.acc)[j]? = some v → w.cell? ⟨r, 26 + j, none⟩ = some v := h.range 26 (aac m.st.acc) (by kernel_rfl)
theorem RtAt.acc14 {w : World} {r : Nat} {sv fv nv : Value} {m : Rt} (h : RtAt w r sv fv nv m) : ∃ v0 v1 v2 v3 v4 v5 v6 v7 v8 v9 v10 v11 v12 v13, w.cell? ⟨r, 26, none⟩ = some v0 ∧ w.cell? ⟨r, 27, none⟩ = some v1 ∧ w.cell? ⟨r, 28, none⟩ = some v2 ∧ w.cell? ⟨r, 29, none⟩ = some v3 ∧ w.cell? ⟨r, 30, none⟩ = some v4 ∧ w.cell? ⟨r, 31, none⟩ = some v5 ∧ w.cell? ⟨r, 32, none⟩ = some v6 ∧
    w.cell? ⟨r, 33, none⟩ = some v7 ∧ w.cell? ⟨r, 34, none⟩ = some v8 ∧ w.cell? ⟨r, 35, none⟩ = some v9 ∧ w.cell? ⟨r, 36, none⟩ = some v10 ∧ w.cell? ⟨r, 37, none⟩ = some v11 ∧ w.cell? ⟨r, 38, none⟩ = some v12 ∧ w.cell? ⟨r, 39, none⟩ = some v13 :=
  ⟨_, _, _, _, _, _, _, _, _, _, _, _, _, _, h.accs 0 _ rfl, h.accs 1 _ rfl, h.accs 2 _ rfl, h.accs 3 _ rfl, h.accs 4 _ rfl, h.accs 5 _ rfl, h.accs 6 _ rfl, h.accs 7 _ rfl, h.accs 8 _ rfl, h.accs 9 _ rfl, h.accs 10 _ rfl, h.accs 11 _ rfl, h.accs 12 _ rfl, h.accs 13 _ rfl⟩
/-- Only the block r may be another one. -/
def Only (r : Nat) (w w' : World) : Prop := Off (fun j => j = r) w w'
/-- What a call leaves that turns the rite's own block alone. -/
def Leaf (w : World) (r : Nat) (sv fv nv : Value) (m : Rt) (e : Ending) (w' : World) : Prop := e = .returned (.tuple #[]) ∧ Hid (RtAt w' r sv fv nv m) ∧ Hid (Only r w w')
theorem Leaf.from_ {w w1 : World} {r : Nat} {sv fv nv : Value} {m : Rt} {e : Ending} {w' : World} (h : Leaf w1 r sv fv nv m e w') (hb : Only r w w1) : Leaf w r sv fv nv m e w' :=
  ⟨h.1, h.2.1, Off.trans hb h.2.2.out (fun _ _ e => e)⟩
theorem RtAt.below {w w' : World} {r : Nat} {sv fv nv : Value} {m : Rt} (h : RtAt w r sv fv nv m) (hb : Below w.heap.size w w') : RtAt w' r sv fv nv m := BlkW.below h hb
theorem Only.trans {r : Nat} {a b c : World} (h : Only r a b) (k : Only r b c) : Only r a c := Off.trans h k (fun _ _ e => e)
theorem Only.of_below {r : Nat} {a b : World} (h : Below a.heap.size a b) : Only r a b := Off.of_below h
theorem Only.lt {r : Nat} {a b : World} (h : Only r a b) {x : Nat} (hx : x < a.heap.size) : x < b.heap.size := Nat.lt_of_lt_of_le hx h.size
theorem Only.cell {r : Nat} {w w' : World} (h : Only r w w') {x o : Nat} {v : Value} (hx : x < w.heap.size) (hn : x ≠ r) (e : w.cell? ⟨x, o, none⟩ = some v) : w'.cell? ⟨x, o, none⟩ = some v := (Off.cell (o := o) h hx hn).trans e
/-- A store into the rite's own block; the world behind it by what it holds. -/
theorem wp_store_rt {ops : Array Oper} {rest : List Oper} {op : Oper} {a : Act} {w : World} {Q : Exit → Act → World → Prop} {r : Nat} {sv fv nv : Value} {m : Rt} (h : RtAt w r sv fv nv m) (hgd : op.guard = none) (ty : TypeId) (x y : Operand) (ho : op.op = .store ty x y)
    (o : Nat) (cs : List Value) (hx : a.eval x = .pointer (some ⟨r, o, none⟩)) (hy : a.eval y = .agg cs.toArray) (hn : o + cs.length ≤ 107) (hi : (Tryz.prog.info? ty).map (·.size) = some cs.length) (h1 : cs.toArray.all (·.oneCell') = true)
    (sv' fv' nv' : Value) (m' : Rt) (e : putL (rc sv fv nv m) o cs = rc sv' fv' nv' m')
    (k : ∀ w', RtAt w' r sv' fv' nv' m' → Only r w w' → r < w'.heap.size → wpList Tryz.prog ops Q rest (a.put op.dst undef) w') : wpList Tryz.prog ops Q (op :: rest) a w := by
  refine wpList_store_mid hgd ty x y ho r o cs.toArray hx hy (by simpa using h.there o cs.length hn) (by simpa using hi) h1 ?_
  have hh := h.puts o cs e
  exact k _ hh (Off.sets (K := fun j => j = r) (.inl rfl) _ o (Off.refl _ w)) (BlkW.lt hh)
section
variable {w : World} {r : Nat} {sv fv nv : Value} {m : Rt}
theorem stc_one (s : Sta) (hs : sv.oneCell' = true) (hf : fv.oneCell' = true) : (stc sv fv s).toArray.all (·.oneCell') = true :=
  all_oneCell_toArray fun v hv => by
    simp [stc, rpc, clc, aac, wc] at hv
    repeat (first | (subst hv; first | rfl | assumption) | (rcases hv with rfl | hv; · first | rfl | assumption))
theorem infoSta : (Tryz.prog.info? 121).map (·.size) = some 53 := by kernel_rfl
set_option maxRecDepth 100000 in
set_option maxHeartbeats 1000000 in
theorem end_any (h : RtAt w r sv fv nv m) (x : Wd × Bool) :
    Calls Tryz.prog 118 #[.pointer (some ⟨r, 0, none⟩), rpv x] w (Leaf w r nilS nilS nv (m.end_ x)) := by
  have HR := Lib.hid h
  have hz := BlkW.lt h
  clear h
  unfold rpv
  go_enter Tryz.func118, Tryz.ntmps118
  go_wp2_with (refine wp_store_rt (HR.out.below (below_alloc (Below.refl _ _) _)) rfl 121 (.tmp 7) (.tmp 6) rfl 0 (stc nilS nilS (m.st.end_ x)) (by rfl) (by rfl) (Nat.le_of_ble_eq_true rfl) infoSta (stc_one _ rfl rfl) nilS nilS nv (m.end_ x) (by kernel_rfl) ?_; intro W1 R1 O1 hz1; have R1 := Lib.hid R1; have O1 := Lib.hid O1)
  go_end0
  exact ⟨rfl, R1, Lib.hid ((Only.of_below (below_alloc (Below.refl _ _) _)).trans O1.out)⟩
set_option maxRecDepth 100000 in
set_option maxHeartbeats 1000000 in
theorem succeed_any (h : RtAt w r sv fv nv m) :
    Calls Tryz.prog 113 #[.pointer (some ⟨r, 0, none⟩)] w (Leaf w r nilS nilS nv m.ok) := by
  have HR := Lib.hid h
  clear h
  go_enter Tryz.func113, Tryz.ntmps113
  go_wp2_with fail
  refine (end_any HR.out (zw, true)).mono ?_
  rintro e w1 ⟨rfl, h1, h2⟩
  go_wp2
  go_end0
  exact ⟨rfl, h1, h2⟩
set_option maxRecDepth 100000 in
set_option maxHeartbeats 1000000 in
theorem ask_any (h : RtAt w r sv fv nv m) (a : Ac) (d : Int) :
    Calls Tryz.prog 119 #[.pointer (some ⟨r, 0, none⟩), aav a, .int .i64 d] w (Leaf w r sv fv nv (m.ask a d)) := by
  have HR := Lib.hid h
  have hz := BlkW.lt h
  obtain ⟨v0, v1, v2, v3, v4, v5, v6, v7, v8, v9, v10, v11, v12, v13, c0, c1, c2, c3, c4, c5, c6, c7, c8, c9, c10, c11, c12, c13⟩ := h.acc14
  have cd := h.done
  have fz : ∀ o, w.frozen? ⟨r, o, none⟩ = false := h.frozen
  clear h
  unfold aav
  go_enter Tryz.func119, Tryz.ntmps119
  go_wp2
  go_end0
  refine ⟨rfl, Lib.hid ?_, Lib.hid ?_⟩
  · exact ((HR.out.puts 26 (aac a) (sv' := sv) (fv' := fv) (nv' := nv) (m' := { m with st := { m.st with acc := a } }) (by kernel_rfl)).set 25 (.int .i64 d) (sv' := sv) (fv' := fv) (nv' := nv) (m' := m.ask a d) (by kernel_rfl)).below (below_alloc (Below.refl _ _) _)
  · exact ((Off.sets (K := fun j => j = r) (.inl rfl) (aac a) 26 (Off.refl _ w)).set (.inl rfl) 25 _).alloc _
theorem step_store_rt {ops : Array Oper} {op : Oper} {a : Act} {w : World} {K : Act → World → Prop} {Q : Exit → Act → World → Prop} {E : Prop} {r : Nat} {sv fv nv : Value} {m : Rt} (h : RtAt w r sv fv nv m) (hgd : op.guard = none) (ty : TypeId) (x y : Operand) (ho : op.op = .store ty x y)
    (o : Nat) (cs : List Value) (hx : a.eval x = .pointer (some ⟨r, o, none⟩)) (hy : a.eval y = .agg cs.toArray) (hn : o + cs.length ≤ 107) (hi : (Tryz.prog.info? ty).map (·.size) = some cs.length) (h1 : cs.toArray.all (·.oneCell') = true)
    (sv' fv' nv' : Value) (m' : Rt) (e : putL (rc sv fv nv m) o cs = rc sv' fv' nv' m')
    (k : ∀ w', RtAt w' r sv' fv' nv' m' → Only r w w' → r < w'.heap.size → K (a.put op.dst undef) w') : if Region.wanted op (yielded ops a.tmps) = true then Oper.wp Tryz.prog op a w K Q else E := by
  have hw : Region.wanted op (yielded ops a.tmps) = true := by simp [Region.wanted, hgd]
  rw [if_pos hw]
  refine wp_store_mid ty x y ho r o cs.toArray hx hy (by simpa using h.there o cs.length hn) (by simpa using hi) h1 ?_
  have hh := h.puts o cs e
  exact k _ hh (Off.sets (K := fun j => j = r) (.inl rfl) _ o (Off.refl _ w)) (BlkW.lt hh)
theorem RtAt.drew {w : World} {r : Nat} {sv fv nv : Value} {m : Rt} (h : RtAt w r sv fv nv m) : RtAt w.drew r sv fv nv m := h.below (Below.refl _ _).drew
theorem infoRep : (Tryz.prog.info? 63).map (·.size) = some 6 := by kernel_rfl
theorem infoCl : (Tryz.prog.info? 51).map (·.size) = some 18 := by kernel_rfl
set_option maxRecDepth 100000 in
set_option maxHeartbeats 2000000 in
theorem begin_any (h : RtAt w r sv fv nv m) (c : Cl) :
    Calls Tryz.prog 55 #[.pointer (some ⟨r, 0, none⟩), clv c] w (Leaf w r nilS nilS nv { m with st := m.st.begin_ c }) := by
  have HR := Lib.hid (h.below (below_alloc (Below.refl _ _) (.cells #[.int .i64 c.kind, .int .i64 c.s, .int .i64 c.g, .int .i64 c.f, .int .i64 c.old.slot, .int .i64 c.old.gen, .int .i64 c.old.tag, .int .i64 c.old.num, .bool c.old.mark, .int .i64 c.new.slot, .int .i64 c.new.gen, .int .i64 c.new.tag, .int .i64 c.new.num, .bool c.new.mark, .int .i64 c.i, .int .i64 c.j, .int .i64 0, .int .i64 0] 51)))
  have HX := Lib.hid (BlkW.new w 51 #[.int .i64 c.kind, .int .i64 c.s, .int .i64 c.g, .int .i64 c.f, .int .i64 c.old.slot, .int .i64 c.old.gen, .int .i64 c.old.tag, .int .i64 c.old.num, .bool c.old.mark, .int .i64 c.new.slot, .int .i64 c.new.gen, .int .i64 c.new.tag, .int .i64 c.new.num, .bool c.new.mark, .int .i64 c.i, .int .i64 c.j, .int .i64 0, .int .i64 0])
  have HO := Lib.hid (Only.of_below (r := r) (below_alloc (Below.refl w.heap.size w) (.cells #[.int .i64 c.kind, .int .i64 c.s, .int .i64 c.g, .int .i64 c.f, .int .i64 c.old.slot, .int .i64 c.old.gen, .int .i64 c.old.tag, .int .i64 c.old.num, .bool c.old.mark, .int .i64 c.new.slot, .int .i64 c.new.gen, .int .i64 c.new.tag, .int .i64 c.new.num, .bool c.new.mark, .int .i64 c.i, .int .i64 c.j, .int .i64 0, .int .i64 0] 51)))
  have hz := BlkW.lt h
  clear h
  unfold clv
  go_enter Tryz.func55, Tryz.ntmps55
  go_upto_region 1 with fail
  have hR := HR.out
  have hX := HX.out
  have hO := HO.out
  clear HR HX HO
  have hz1 : r < w.heap.size + 1 := by omega
  rw [← World.size_alloc w (.cells #[.int .i64 c.kind, .int .i64 c.s, .int .i64 c.g, .int .i64 c.f, .int .i64 c.old.slot, .int .i64 c.old.gen, .int .i64 c.old.tag, .int .i64 c.old.num, .bool c.old.mark, .int .i64 c.new.slot, .int .i64 c.new.gen, .int .i64 c.new.tag, .int .i64 c.new.num, .bool c.new.mark, .int .i64 c.i, .int .i64 c.j, .int .i64 0, .int .i64 0] 51)] at hz1
  generalize w.alloc (.cells #[.int .i64 c.kind, .int .i64 c.s, .int .i64 c.g, .int .i64 c.f, .int .i64 c.old.slot, .int .i64 c.old.gen, .int .i64 c.old.tag, .int .i64 c.old.num, .bool c.old.mark, .int .i64 c.new.slot, .int .i64 c.new.gen, .int .i64 c.new.tag, .int .i64 c.new.num, .bool c.new.mark, .int .i64 c.i, .int .i64 c.j, .int .i64 0, .int .i64 0] 51) = W at hR hX hO hz1 ⊢
  generalize w.heap.size = n at hX ⊢
  have hrn : n ≠ r := fun e => BlkW.ne_ hX hR (by decide) e
  have hz2 := BlkW.lt hX
  refine wp_region_held (S := fun w' => w'.rangeAt r 0 (rpc m.st.last) ∧ w'.rangeAt n 0 (clc c)) (by kernel_rfl) ?_
  have hS : W.drew.rangeAt r 0 (rpc m.st.last) ∧ W.drew.rangeAt n 0 (clc c) := ⟨hR.drew.range 0 _ (by kernel_rfl), fun j v hv => by
    rw [Nat.zero_add]
    exact (BlkW.cell (hX.below (Below.refl _ _).drew) j).trans (by rw [List.getElem?_toArray]; exact hv)⟩
  have HR := Lib.hid hR
  have HO := Lib.hid hO
  clear hR hX hO
  show wpAnyH _ _ _ _ _ 9 #[false, false, false, false, false, false, false, false, false] _ W.drew
  refine wpAnyH_take (i := 0) (v := .pointer (some ⟨r, 0, none⟩)) rfl (by kernel_rfl) (by kernel_rfl) (by kernel_rfl) (fun _ _ _ h => h) (Or.inl ⟨by rfl, fun w' _ => by go_simp⟩) hS ?_
  simp only [Act.put, List.getElem_toArray, List.getElem_cons_succ, List.getElem_cons_zero, List.setIfInBounds_toArray, List.set_cons_zero, List.set_cons_succ]
  refine wpAnyH_take (i := 1) (v := .pointer (some ⟨r, 0, none⟩)) rfl (by kernel_rfl) (by kernel_rfl) (by kernel_rfl) (fun _ _ _ h => h) (Or.inl ⟨by rfl, fun w' _ => by go_simp⟩) hS ?_
  simp only [Act.put, List.getElem_toArray, List.getElem_cons_succ, List.getElem_cons_zero, List.setIfInBounds_toArray, List.set_cons_zero, List.set_cons_succ]
  refine wpAnyH_take (i := 2) (v := .pointer (some ⟨r, 0, none⟩)) rfl (by kernel_rfl) (by kernel_rfl) (by kernel_rfl) (fun _ _ _ h => h) (Or.inl ⟨by rfl, fun w' _ => by go_simp⟩) hS ?_
  simp only [Act.put, List.getElem_toArray, List.getElem_cons_succ, List.getElem_cons_zero, List.setIfInBounds_toArray, List.set_cons_zero, List.set_cons_succ]
  refine wpAnyH_take (i := 3) (v := .pointer (some ⟨r, 0, none⟩)) rfl (by kernel_rfl) (by kernel_rfl) (by kernel_rfl) (fun _ _ _ h => h) (Or.inl ⟨by rfl, fun w' _ => by go_simp⟩) hS ?_
  simp only [Act.put, List.getElem_toArray, List.getElem_cons_succ, List.getElem_cons_zero, List.setIfInBounds_toArray, List.set_cons_zero, List.set_cons_succ]
  refine wpAnyH_take (i := 4) (v := .agg (rpc m.st.last).toArray) rfl (by kernel_rfl) (by kernel_rfl) (by kernel_rfl) (fun _ _ _ h => h) (yieldsIf_load_mid (by rfl) 63 (.tmp 7) rfl r 0 rfl (rpc m.st.last) _ (fun w' h => h.1) Tryz.underlying63 rfl infoRep) hS ?_
  simp only [Act.put, List.getElem_toArray, List.getElem_cons_succ, List.getElem_cons_zero, List.setIfInBounds_toArray, List.set_cons_zero, List.set_cons_succ]
  refine wpAnyH_take (i := 5) (v := .agg (clc c).toArray) rfl (by kernel_rfl) (by kernel_rfl) (by kernel_rfl) (fun _ _ _ h => h) (yieldsIf_load_mid (by rfl) 51 (.tmp 3) rfl n 0 rfl (clc c) _ (fun w' h => h.2) Tryz.underlying51 rfl infoCl) hS ?_
  simp only [Act.put, List.getElem_toArray, List.getElem_cons_succ, List.getElem_cons_zero, List.setIfInBounds_toArray, List.set_cons_zero, List.set_cons_succ]
  refine wpAnyH_take (i := 6) (v := .agg (stc nilS nilS (m.st.begin_ c)).toArray) rfl (by kernel_rfl) (by kernel_rfl) (by kernel_rfl) (fun _ _ _ h => h) (Or.inl ⟨by rfl, fun w' _ => by kernel_rfl⟩) hS ?_
  simp only [Act.put, List.getElem_toArray, List.getElem_cons_succ, List.getElem_cons_zero, List.setIfInBounds_toArray, List.set_cons_zero, List.set_cons_succ]
  generalize hG : Value.agg (stc nilS nilS (m.st.begin_ c)).toArray = G
  have HG := Lib.hid hG
  clear hG
  refine wpAnyH_take (i := 7) (v := .pointer (some ⟨r, 0, none⟩)) rfl (by kernel_rfl) (by kernel_rfl) (by kernel_rfl) (fun _ _ _ h => h) (Or.inl ⟨by rfl, fun w' _ => by go_simp⟩) hS ?_
  simp only [Act.put, List.getElem_toArray, List.getElem_cons_succ, List.getElem_cons_zero, List.setIfInBounds_toArray, List.set_cons_zero, List.set_cons_succ]
  refine wpAnyH_ready (rs := [8]) (by kernel_rfl) (by simp) ?_
  refine AllReadyH.cons rfl (fun K hK => ?_) AllReadyH.nil
  refine step_store_rt HR.out.drew rfl 121 (.tmp 11) (.tmp 10) rfl 0 (stc nilS nilS (m.st.begin_ c)) (by rfl) (HG.out.symm) (Nat.le_of_ble_eq_true rfl) infoSta (stc_one _ rfl rfl) nilS nilS nv { m with st := m.st.begin_ c } (by kernel_rfl) ?_
  intro W1 R1 O1 hz3
  refine hK.out _ _ ⟨R1.range 0 _ (by kernel_rfl), range_block hS.2 (O1.block n hz2 hrn)⟩ (fun _ => ?_)
  refine wpAnyH_done (by kernel_rfl) ?_ _
  go_end0
  exact ⟨rfl, Lib.hid R1, Lib.hid ((HO.out.trans (Only.of_below (Below.refl _ _).drew)).trans O1)⟩
def adv (x : Int × Int × Int) : Value := .agg #[.int .i64 x.1, .int .i64 x.2.1, .int .i64 x.2.2]
set_option maxRecDepth 100000 in
set_option maxHeartbeats 1000000 in
theorem load_any (h : RtAt w r sv fv nv m) (x : Int × Int × Int) (d : Int) :
    Calls Tryz.prog 120 #[.pointer (some ⟨r, 0, none⟩), adv x, .int .i64 d] w (Leaf w r sv fv nv (m.load x d)) := by
  have HR := Lib.hid (h.below (below_alloc (Below.refl _ _) (.cells #[.int .i64 x.1, .int .i64 x.2.1, .int .i64 x.2.2] 47)))
  clear h
  unfold adv
  go_enter Tryz.func120, Tryz.ntmps120
  go_wp2_with fail
  refine (ask_any HR.out ⟨1, x.1, x.2.1, x.2.2, zw, zw⟩ d).mono ?_
  rintro e w1 ⟨rfl, h1, h2⟩
  go_wp2
  go_end0
  exact ⟨rfl, h1, Lib.hid ((Only.of_below (below_alloc (Below.refl _ _) _)).trans h2.out)⟩
set_option maxRecDepth 100000 in
set_option maxHeartbeats 1000000 in
theorem loadClock_any (h : RtAt w r sv fv nv m) (d : Int) :
    Calls Tryz.prog 112 #[.pointer (some ⟨r, 0, none⟩), .int .i64 d] w (Leaf w r sv fv nv (m.loadClock d)) := by
  have HR := Lib.hid h
  clear h
  go_enter Tryz.func112, Tryz.ntmps112
  go_wp2_with fail
  refine (Bd.Era_any _).mono ?_
  rintro e w1 ⟨rfl, hb⟩
  have HB := Lib.hid hb
  clear hb
  unfold Bd.ad
  go_wp2_with fail
  refine (load_any (HR.out.below HB.out) (0, 0, 24) d).mono ?_
  rintro e w2 ⟨rfl, h1, h2⟩
  go_wp2
  go_end0
  exact ⟨rfl, h1, Lib.hid ((Only.of_below HB.out).trans h2.out)⟩
set_option maxRecDepth 100000 in
set_option maxHeartbeats 1000000 in
theorem announce_any (h : RtAt w r sv fv nv m) (f : Int) (d : Wd) :
    Calls Tryz.prog 154 #[.pointer (some ⟨r, 0, none⟩), adv (0, 0, f), wv d] w (Leaf w r sv fv nv (m.ask ⟨2, 0, 0, f, zw, d⟩ 2)) := by
  have HR := Lib.hid (h.below (below_alloc (below_alloc (Below.refl _ _) (.cells #[.int .i64 0, .int .i64 0, .int .i64 f] 47)) (.cells #[.int .i64 d.slot, .int .i64 d.gen, .int .i64 d.tag, .int .i64 d.num, .bool d.mark] 34)))
  clear h
  unfold adv wv
  go_enter Tryz.func154, Tryz.ntmps154
  go_wp2_with fail
  refine (ask_any HR.out ⟨2, 0, 0, f, zw, d⟩ 2).mono ?_
  rintro e w1 ⟨rfl, h1, h2⟩
  go_wp2
  go_end0
  exact ⟨rfl, h1, Lib.hid ((Only.of_below (below_alloc (below_alloc (Below.refl _ _) _) _)).trans h2.out)⟩
end
end Go.Proofs.YtihjklimcchkhaaGreatDoor
