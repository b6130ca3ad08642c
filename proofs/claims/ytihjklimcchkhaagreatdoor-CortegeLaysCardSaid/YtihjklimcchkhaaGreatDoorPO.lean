/- Worker.step: what its stores leave of the boxes. A template (fill.py). -/
/- Elder texts kept as boxes. A template (fill.py). -/
import Derived.Test.YtihjklimcchkhaaGreatDoorPD
namespace Go.Proofs.YtihjklimcchkhaaGreatDoor
open Go.RowKit Go.Extern.Stop Go.Stop Go.Extern Go.Sort
section
variable {W W' w : World} {E : Flt → Addr} {B p bs bb : Nat} {t : St} {rs : List (Nat × Rt)} {bx bx' : Bx} {O O' : Nat → Prop}
theorem JobAt.put {jp : Option Addr} {j : Option Jb} (h : JobAt bx B O jp j) {g : Nat} {cs cs' : Array Value} (hg : bx g = some (88, cs)) : JobAt (bx.put g 88 cs') B O jp j :=
  h.elim .inl fun ⟨b, jb, e1, e2, q1, q2, q3⟩ => .inr ⟨b, jb, e1, e2, q1, q2, by
    rw [Bx.put_ne]
    · exact q3
    · intro k
      rw [k, hg] at q3
      injection q3 with e
      injection e with e
      exact absurd e (by decide)⟩
theorem SaidAt.put {sv : Value} {said : List (Int × Int)} (h : SaidAt bx B sv said) {g : Nat} {cs cs' : Array Value} (hg : bx g = some (88, cs)) : SaidAt (bx.put g 88 cs') B sv said := by
  rcases h with h | ⟨sb, cap, cur, rfl, q1, q2, q3⟩
  · exact .inl h
  · refine .inr ⟨sb, cap, cur, rfl, q1, ?_, q3⟩
    rw [Bx.put_ne]
    · exact q2
    · intro k
      rw [k, hg] at q2
      injection q2 with e
      injection e with e
      exact absurd e (by decide)
theorem Cw.Busy_at {i r : Nat} {m : Rt} (h : Cw W w E B p bs bb t (rs.set i (r, m)) bx) (hi : i < rs.length) : Calls Tryz.prog 17 #[.pointer (some ⟨r, 0, none⟩)] W fun e w' => e = .returned (.bool m.st.busy) ∧ W = w' := by
  have hi' : i < (rs.set i (r, m)).length := by rw [List.length_set]; exact hi
  have k := h.Busy hi'
  rw [List.getElem_set_self] at k
  exact k
theorem Cw.Next_at {i r : Nat} {m : Rt} (h : Cw W w E B p bs bb t (rs.set i (r, m)) bx) (hi : i < rs.length) (hb : m.st.busy = true) :
    Calls Tryz.prog 27 #[.pointer (some ⟨r, 0, none⟩)] W fun e w' => e = .returned (.tuple #[aav m.st.acc, .bool true]) ∧ Hid (Cw w' w E B p bs bb t (rs.set i (r, m)) bx) := by
  have hi' : i < (rs.set i (r, m)).length := by rw [List.length_set]; exact hi
  have k := h.Next hi' (by rw [List.getElem_set_self]; exact hb)
  rw [List.getElem_set_self] at k
  exact k
theorem Cw.Reply_at {i r : Nat} {m : Rt} (h : Cw W w E B p bs bb t (rs.set i (r, m)) bx) (hi : i < rs.length) :
    Calls Tryz.prog 46 #[.pointer (some ⟨r, 0, none⟩)] W fun e w' => e = .returned (rpv m.st.last) ∧ Hid (Cw w' w E B p bs bb t (rs.set i (r, m)) bx) := by
  have hi' : i < (rs.set i (r, m)).length := by rw [List.length_set]; exact hi
  have k := h.Reply hi'
  rw [List.getElem_set_self] at k
  exact k
theorem Cw.Took_at {i r : Nat} {m : Rt} (h : Cw W w E B p bs bb t (rs.set i (r, m)) bx) (hi : i < rs.length) (hb : m.st.busy = true) (x : Wd × Bool) (ok : GoOk m x) :
    Calls Tryz.prog 28 #[.pointer (some ⟨r, 0, none⟩), rpv x] W fun e w' => e = .returned .nilIface ∧ Hid (Cw w' w E B p bs bb t (rs.set i (r, m.goOn x)) bx) := by
  have hi' : i < (rs.set i (r, m)).length := by rw [List.length_set]; exact hi
  have k := h.Took hi' (by rw [List.getElem_set_self]; exact hb) x (by rw [List.getElem_set_self]; exact ok)
  rw [List.getElem_set_self, List.set_set] at k
  exact k
theorem Cw.Begin_at {i r : Nat} {m : Rt} (h : Cw W w E B p bs bb t (rs.set i (r, m)) bx) (hi : i < rs.length) (hb : m.st.busy = false) (c : Cl) (hc : c.fine) (ok : GoOk (m.at_ c) (zw, false)) :
    Calls Tryz.prog 18 #[.pointer (some ⟨r, 0, none⟩), clv c] W fun e w' => e = .returned .nilIface ∧ Hid (Cw w' w E B p bs bb t (rs.set i (r, m.begins c)) bx) := by
  have hi' : i < (rs.set i (r, m)).length := by rw [List.length_set]; exact hi
  have k := h.Begin hi' (by rw [List.getElem_set_self]; exact hb) c hc (by rw [List.getElem_set_self]; exact ok)
  rw [List.getElem_set_self, List.set_set] at k
  exact k
theorem blkA_range {g : Nat} {T : TypeId} {cs : Array Value} (h : BlkW W g T cs) (o : Nat) (l : List Value) (e : (cs.toList.drop o).take l.length = l) : W.rangeAt g o l := fun j v hv => by
  have hj : j < l.length := (List.getElem?_eq_some_iff.1 hv).1
  rw [BlkW.cell h, ← Array.getElem?_toList]
  rw [← e, List.getElem?_take_of_lt (by simpa using hj), List.getElem?_drop] at hv
  exact hv
theorem blk14p {W : World} {g : Nat} {t : TypeId} {v0 v1 v2 v3 v4 v5 v6 v7 v8 v9 v10 v11 v12 v13 : Value} (h : BlkW W g t #[v0, v1, v2, v3, v4, v5, v6, v7, v8, v9, v10, v11, v12, v13]) : W.cell? ⟨g, 0, none⟩ = some v0 ∧ W.cell? ⟨g, 1, none⟩ = some v1 ∧ W.cell? ⟨g, 2, none⟩ = some v2 ∧ W.cell? ⟨g, 3, none⟩ = some v3 ∧ W.cell? ⟨g, 4, none⟩ = some v4 ∧ W.cell? ⟨g, 5, none⟩ = some v5 ∧ W.cell? ⟨g, 6, none⟩ = some v6 ∧ W.cell? ⟨g, 7, none⟩ = some v7 ∧ W.cell? ⟨g, 8, none⟩ = some v8 ∧ W.cell? ⟨g, 9, none⟩ = some v9 ∧ W.cell? ⟨g, 10, none⟩ = some v10 ∧ W.cell? ⟨g, 11, none⟩ = some v11 ∧ W.cell? ⟨g, 12, none⟩ = some v12 ∧ W.cell? ⟨g, 13, none⟩ = some v13 :=
  ⟨h.cell 0, h.cell 1, h.cell 2, h.cell 3, h.cell 4, h.cell 5, h.cell 6, h.cell 7, h.cell 8, h.cell 9, h.cell 10, h.cell 11, h.cell 12, h.cell 13⟩
theorem WOk.next {n : Nat} {y : Rt × Wr} (h : WOk n y) (ho : wover y = false) : ∃ m, n = m + 1 ∧ WNext y ∧ WOk m (wbeg y) ∧ wto n y = wto m (wbeg y) := by
  cases n with
  | zero => exact absurd h (by unfold WOk; rw [ho]; exact Bool.false_ne_true)
  | succ m =>
    unfold WOk at h
    rcases h with h | ⟨h1, h2⟩
    · rw [ho] at h; exact absurd h Bool.false_ne_true
    · refine ⟨m, rfl, h1, h2, ?_⟩
      show (if wover y = true then _ else _) = _
      rw [if_neg (by rw [ho]; exact Bool.false_ne_true)]
/-- All that a worker has but its own block. -/
def WkRest (bx : Bx) (B : Nat) (O : Nat → Prop) (g ob oc : Nat) (jp : Option Addr) (sv : Value) (a : Wr) : Prop :=
  B ≤ g ∧ O g ∧ ¬ O ob ∧ a.ops.length ≤ oc ∧ OpsAt bx ob a.ops ∧ JobAt bx B O jp a.j ∧ SaidAt bx B sv a.said ∧ (∀ b, sv.ownBlock = some b → O b)
theorem WkRest.put {bx1 : Bx} {O1 : Nat → Prop} {g r ob oc : Nat} {jp : Option Addr} {sv : Value} {a : Wr} {cs : Array Value} (w1 : bx1 g = some (88, cs)) (h : WkRest bx1 B O1 g ob oc jp sv a) (v : Bool) :
    WkAt (bx1.put g 88 (wkc r (.slice (some ⟨ob, 0, none⟩) a.ops.length oc) (.pointer jp) v sv).toArray) B O1 g r ob oc { a with inn := v } := by
  obtain ⟨h1, h2, h3, h4, h5, h6, h7, h8⟩ := h
  refine ⟨jp, sv, Bx.put_self .., h1, h2, h3, h4, h5.left fun x e => ?_, h6.put w1, h7.put w1, h8⟩
  rw [Bx.put_ne _ _ _ (fun e' => h3 (by rw [e']; exact h2))]
  exact e
theorem WkRest.whole {bx1 : Bx} {O1 : Nat → Prop} {g r ob oc : Nat} {jp : Option Addr} {sv : Value} {a : Wr} (h : WkRest bx1 B O1 g ob oc jp sv a) (w1 : bx1 g = some (88, (wkc r (.slice (some ⟨ob, 0, none⟩) a.ops.length oc) (.pointer jp) a.inn sv).toArray)) : WkAt bx1 B O1 g r ob oc a := by
  obtain ⟨h1, h2, h3, h4, h5, h6, h7, h8⟩ := h
  exact ⟨jp, sv, w1, h1, h2, h3, h4, h5, h6, h7, h8⟩
theorem left_put {bx1 : Bx} {O1 : Nat → Prop} {g : Nat} (hlf : Left bx bx1 O) (hO : ∀ b, O1 b → O b ∨ bx b = none) (hg : O1 g) (T : TypeId) (cs : Array Value) : Left bx (bx1.put g T cs) O := fun k x e hk => by
  rw [Bx.put_ne]
  · exact hlf k x e hk
  · intro kg
    subst kg
    rcases hO _ hg with h | h
    · exact hk h
    · rw [h] at e
      cases e
/-- A job is begun. -/
theorem WkRest.begun {bx1 : Bx} {O1 : Nat → Prop} {g r ob oc b : Nat} {sv : Value} {a : Wr} {cs : Array Value} (w1 : bx1 g = some (88, cs)) (h : WkRest bx1 B O1 g ob oc none sv a) (hn : bx1 b = none) (hb : B ≤ b) (j : Jb) :
    WkAt ((bx1.put b 172 (jc j).toArray).put g 88 (wkc r (.slice (some ⟨ob, 0, none⟩) a.ops.length oc) (.pointer (some ⟨b, 0, none⟩)) true sv).toArray) B (fun q => O1 q ∨ q = b) g r ob oc { a with j := some j, inn := true } := by
  obtain ⟨h1, h2, h3, h4, h5, h6, h7, h8⟩ := h
  have hbg : b ≠ g := fun e => by rw [e, w1] at hn; cases hn
  have key : ∀ q x, bx1 q = some x → q ≠ g → ((bx1.put b 172 (jc j).toArray).put g 88 (wkc r (.slice (some ⟨ob, 0, none⟩) a.ops.length oc) (.pointer (some ⟨b, 0, none⟩)) true sv).toArray) q = some x := fun q x e hq => by
    rw [Bx.put_ne _ _ _ hq, Bx.put_ne _ _ _ (fun k => by rw [k, hn] at e; cases e)]
    exact e
  have hob : ob ≠ b := fun e => by
    obtain ⟨T, cs, k, _⟩ := h5
    rw [e, hn] at k
    cases k
  refine ⟨some ⟨b, 0, none⟩, sv, Bx.put_self .., h1, .inl h2, fun e => e.elim h3 hob, h4, h5.left fun x e => key ob x e (fun e' => h3 (by rw [e']; exact h2)), .inr ⟨b, j, rfl, rfl, hb, .inr rfl, ?_⟩, ?_, fun q e => .inl (h8 q e)⟩
  · rw [Bx.put_ne _ _ _ hbg, Bx.put_self]
  · refine h7.left fun q x e ht => key q x e fun k => ?_
    rcases h7 with ⟨e2, _⟩ | ⟨sb, cap, cur, e2, q1, q2, _⟩
    · rw [e2] at ht; simp [Value.ownBlock] at ht
    · rw [e2] at ht
      have : sb = q := by simpa [Value.ownBlock] using ht
      rw [this, k, w1] at q2
      injection q2 with e
      injection e with e
      exact absurd e (by decide)
theorem left_new {bx1 : Bx} {b : Nat} (hlf : Left bx bx1 O) (hn : bx1 b = none) (T : TypeId) (cs : Array Value) : Left bx (bx1.put b T cs) O := fun k x e hk => by
  have h1 := hlf k x e hk
  rw [Bx.put_ne _ _ _ (fun kb => by rw [kb, hn] at h1; cases h1)]
  exact h1
theorem own_new {bx1 : Bx} {O1 : Nat → Prop} {b : Nat} (hlf : Left bx bx1 O) (hO : ∀ q, O1 q → O q ∨ bx q = none) (hn : bx1 b = none) : ∀ q, O1 q ∨ q = b → O q ∨ bx q = none := fun q e => by
  rcases e with e | rfl
  · exact hO q e
  · by_cases h : O q
    · exact .inl h
    · refine .inr ?_
      cases hq : bx q with
      | none => rfl
      | some x => rw [hlf q x hq h] at hn; cases hn
/-- A job goes on. -/
theorem WkRest.went {bx1 : Bx} {O1 : Nat → Prop} {g r ob oc jb q : Nat} {sv : Value} {a : Wr} {jj j' : Jb} {T : TypeId} {cs : Array Value} (w1 : bx1 g = some (88, (wkc r (.slice (some ⟨ob, 0, none⟩) a.ops.length oc) (.pointer (some ⟨jb, 0, none⟩)) a.inn sv).toArray)) (h : WkRest bx1 B O1 g ob oc (some ⟨jb, 0, none⟩) sv a) (hj : B ≤ jb ∧ O1 jb ∧ bx1 jb = some (172, (jc jj).toArray)) (hq : bx1 q = none) :
    WkAt ((bx1.put jb 172 (jc j').toArray).put q T cs) B O1 g r ob oc { a with j := some j' } := by
  obtain ⟨h1, h2, h3, h4, h5, h6, h7, h8⟩ := h
  have key : ∀ i x, bx1 i = some x → i ≠ jb → ((bx1.put jb 172 (jc j').toArray).put q T cs) i = some x := fun i x e hi => by
    rw [Bx.put_ne _ _ _ (fun k => by rw [k, hq] at e; cases e), Bx.put_ne _ _ _ hi]
    exact e
  have hgj : g ≠ jb := fun e => by have h := w1; rw [e, hj.2.2] at h; injection h with h; injection h with h; exact absurd h (by decide)
  have hqj : jb ≠ q := fun e => by rw [← e, hj.2.2] at hq; cases hq
  refine ⟨some ⟨jb, 0, none⟩, sv, key g _ w1 hgj, h1, h2, h3, h4, h5.left fun x e => key ob x e (fun k => h3 (by rw [k]; exact hj.2.1)), .inr ⟨jb, j', rfl, rfl, hj.1, hj.2.1, by rw [Bx.put_ne _ _ _ hqj, Bx.put_self]⟩, h7.left fun i x e ht => key i x e fun k => ?_, h8⟩
  rcases h7 with ⟨e2, _⟩ | ⟨sb, cap, cur, e2, q1, q2, _⟩
  · rw [e2] at ht; simp [Value.ownBlock] at ht
  · rw [e2] at ht
    have : sb = i := by simpa [Value.ownBlock] using ht
    rw [this, k, hj.2.2] at q2
    injection q2 with e
    injection e with e
    exact absurd e (by decide)
theorem cl_fine (k : Int) (h : k = 1 ∨ k = 2) : (cl k).fine := .inr ⟨by rcases h with rfl | rfl <;> decide, by rcases h with rfl | rfl <;> decide, by rcases h with rfl | rfl <;> decide, by rcases h with rfl | rfl <;> decide⟩
theorem SaidAt.slice {sv : Value} {said : List (Int × Int)} (h : SaidAt bx B sv said) : ∃ sa sc, sv = .slice sa said.length sc := by
  rcases h with ⟨rfl, rfl⟩ | ⟨sb, cap, cur, rfl, _⟩
  · exact ⟨none, 0, rfl⟩
  · exact ⟨_, cap, rfl⟩
theorem Bx.put_put (x : Bx) (g : Nat) (T T' : TypeId) (cs cs' : Array Value) : (x.put g T cs).put g T' cs' = x.put g T' cs' := by
  funext i
  unfold Bx.put
  by_cases h : i = g
  · rw [if_pos h, if_pos h]
  · rw [if_neg h, if_neg h, if_neg h]
theorem Bx.put_comm (x : Bx) {g g' : Nat} (hn : g ≠ g') (T T' : TypeId) (cs cs' : Array Value) : (x.put g T cs).put g' T' cs' = (x.put g' T' cs').put g T cs := by
  funext i
  unfold Bx.put
  by_cases h : i = g'
  · rw [if_pos h, if_neg (fun e => hn (e.symm.trans h)), if_pos h]
  · rw [if_neg h]
    by_cases h2 : i = g
    · rw [if_pos h2, if_pos h2]
    · rw [if_neg h2, if_neg h2, if_neg h]
theorem Cw.fresh_none (h : Cw W w E B p bs bb t rs bx) : bx W.heap.size = none := by
  cases hq : bx W.heap.size with
  | none => rfl
  | some v => exact absurd (h.get (T := v.1) (cs := v.2) hq).lt (Nat.lt_irrefl _)
theorem Bx.none_of_put {x : Bx} {g i : Nat} {T : TypeId} {cs : Array Value} (h : x.put g T cs i = none) : x i = none ∧ i ≠ g := by
  unfold Bx.put at h
  by_cases e : i = g
  · rw [if_pos e] at h; cases h
  · rw [if_neg e] at h; exact ⟨h, e⟩
theorem step_store_ans {ops : Array Oper} {op : Oper} {a : Act} {K : Act → World → Prop} {Q : Exit → Act → World → Prop} {E2 : Prop} {q : Nat} (h : Cw W w E B p bs bb t rs bx) (hq : bx q = some (51, (clc zc).toArray)) (hB : B ≤ q) (hgd : op.guard = none) (px py : Operand) (ho : op.op = .store 51 px py)
    (hx : a.eval px = .pointer (some ⟨q, 0, none⟩)) (c : Cl) (x y : Int) (hy : a.eval py = .agg (cac c x y).toArray)
    (k : ∀ w', Cw w' w E B p bs bb t rs (bx.put q 51 (cac c x y).toArray) → K (a.put op.dst undef) w') : if Region.wanted op (yielded ops a.tmps) = true then Oper.wp Tryz.prog op a W K Q else E2 := by
  have hw : Region.wanted op (yielded ops a.tmps) = true := by simp [Region.wanted, hgd]
  rw [if_pos hw]
  have hqb := h.get hq
  refine wp_store_mid 51 px py ho q 0 (cac c x y).toArray hx hy (there_of_blk hqb 0 18 (by decide)) (show (Tryz.prog.info? 51).map (·.size) = some (cac c x y).toArray.size from infoCl) (cac_one c x y) ?_
  have h1 : BlkW (W.setCells q 0 (cac c x y)) q 51 (cac c x y).toArray := by
    have h1 := blk_puts (cac c x y) 0 hqb
    rwa [show putL (clc zc) 0 (cac c x y) = cac c x y from by kernel_rfl] at h1
  exact k _ (h.off hq hB (Off.sets (K := fun j => j = q) (.inl rfl) _ 0 (Off.refl _ W)) h1 (by decide))
theorem SaidAt.puts {sv : Value} {said : List (Int × Int)} (h : SaidAt bx B sv said) {g : Nat} {T : TypeId} {cs : Array Value} (hg : bx g = none ∨ ∃ cs0, bx g = some (172, cs0)) : SaidAt (bx.put g T cs) B sv said :=
  h.left fun q x e ht => by
    rcases h with ⟨e2, _⟩ | ⟨sb, cap, cur, e2, q1, q2, _⟩
    · rw [e2] at ht; simp [Value.ownBlock] at ht
    · rw [e2] at ht
      have hsq : sb = q := by simpa [Value.ownBlock] using ht
      rw [Bx.put_ne]
      · exact e
      · intro k
        rw [hsq, k] at q2
        rcases hg with hg | ⟨cs0, hg⟩
        · rw [hg] at q2; cases q2
        · rw [hg] at q2
          injection q2 with e
          injection e with e
          exact absurd e (by decide)
theorem SaidAt.own_ne {sv : Value} {said : List (Int × Int)} (h : SaidAt bx B sv said) {g : Nat} {T : TypeId} {cs : Array Value} (hx : bx g = some (T, cs)) (hT : T ≠ 49) : some g ≠ sv.ownBlock := fun e => by
  rcases h with ⟨e2, _⟩ | ⟨sb, cap, cur, e2, q1, q2, _⟩
  · rw [e2] at e; simp [Value.ownBlock] at e
  · rw [e2] at e
    have hsq : g = sb := by simpa [Value.ownBlock] using e
    rw [← hsq, hx] at q2
    injection q2 with e
    injection e with e
    exact hT e
theorem infoAns3 : (Tryz.prog.info? 49).map (fun i => (i.zero, i.size, i.bytes)) = some (some (.agg #[.int .i64 0, .int .i64 0]), 2, 16) := by kernel_rfl
theorem infoAnsS : (Tryz.prog.info? 49).map (·.size) = some 2 := by kernel_rfl
theorem anc_one (a : Int × Int) : ∀ u ∈ anc a, u.oneCell' = true := fun u hu => by
  simp only [anc, List.mem_cons, List.not_mem_nil, or_false] at hu
  rcases hu with rfl | rfl <;> rfl
/-- An operation is done: what it was answered is said, and there is no job any more. -/
theorem WkRest.done {bx1 bx3 : Bx} {O1 : Nat → Prop} {g r ob oc jb q : Nat} {sv v1 : Value} {a : Wr} {jj : Jb} {cj cq cs : Array Value} {ys : List (Int × Int)} (w1 : bx1 g = some (88, cs)) (h : WkRest bx1 B O1 g ob oc (some ⟨jb, 0, none⟩) sv a) (hj : B ≤ jb ∧ O1 jb ∧ bx1 jb = some (172, (jc jj).toArray)) (hq : bx1 q = none)
    (hkeep : ∀ k x, ((bx1.put jb 172 cj).put q 51 cq) k = some x → some k ≠ sv.ownBlock → bx3 k = some x) (hs : SaidAt bx3 B v1 (a.said ++ ys)) (hnew : v1.ownBlock = sv.ownBlock ∨ ∃ n, v1.ownBlock = some n ∧ ((bx1.put jb 172 cj).put q 51 cq) n = none) :
    WkAt (bx3.put g 88 (wkc r (.slice (some ⟨ob, 0, none⟩) a.ops.length oc) (.pointer none) a.inn v1).toArray) B (fun b => O1 b ∨ v1.ownBlock = some b) g r ob oc { a with said := a.said ++ ys, j := none } := by
  obtain ⟨h1, h2, h3, h4, h5, h6, h7, h8⟩ := h
  have key : ∀ k x, bx1 k = some x → k ≠ jb → ((bx1.put jb 172 cj).put q 51 cq) k = some x := fun k x e hk => by
    rw [Bx.put_ne _ _ _ (fun e' => by rw [e', hq] at e; cases e), Bx.put_ne _ _ _ hk]
    exact e
  have hgj : g ≠ jb := fun e => by have h := w1; rw [e, hj.2.2] at h; injection h with h; injection h with h; exact absurd h (by decide)
  have hgs : some g ≠ sv.ownBlock := fun e => by
    rcases h7 with ⟨e2, _⟩ | ⟨sb, cap, cur, e2, q1, q2, _⟩
    · rw [e2] at e; simp [Value.ownBlock] at e
    · rw [e2] at e
      have hsq : g = sb := by simpa [Value.ownBlock] using e
      rw [← hsq, w1] at q2
      injection q2 with e
      injection e with e
      exact absurd e (by decide)
  have w3 := hkeep g _ (key g _ w1 hgj) hgs
  obtain ⟨T, ocs, ho1, ho2⟩ := h5
  have hobj : ob ≠ jb := fun e => h3 (by rw [e]; exact hj.2.1)
  have hobs : some ob ≠ sv.ownBlock := fun e => h3 (h8 ob e.symm)
  have hob3 := hkeep ob _ (key ob _ ho1 hobj) hobs
  refine ⟨none, v1, Bx.put_self .., h1, .inl h2, fun e => ?_, h4, ⟨T, ocs, ?_, ho2⟩, .inl ⟨rfl, rfl⟩, hs.put w3, fun b e => .inr e⟩
  · rcases e with e | e
    · exact h3 e
    · rcases hnew with h | ⟨n, h, hn⟩
      · exact hobs (by rw [← h, e])
      · rw [e] at h
        have : ob = n := by simpa using h
        rw [← this, key ob _ ho1 hobj] at hn
        cases hn
  · rw [Bx.put_ne _ _ _ (fun e => h3 (by rw [e]; exact h2))]
    exact hob3
theorem left_done {bx1 bx3 : Bx} {O1 : Nat → Prop} {g jb q : Nat} {sv : Value} {cj cq cs : Array Value} {T : TypeId} (hlf : Left bx bx1 O) (hO : ∀ b, O1 b → O b ∨ bx b = none) (hg : O1 g) (hj : O1 jb) (hq : bx1 q = none) (hsv : ∀ b, sv.ownBlock = some b → O1 b)
    (hkeep : ∀ k x, ((bx1.put jb 172 cj).put q 51 cq) k = some x → some k ≠ sv.ownBlock → bx3 k = some x) : Left bx (bx3.put g T cs) O := fun k x e hk => by
  have no : ∀ b, O1 b → k ≠ b := fun b hb e' => by
    subst e'
    rcases hO _ hb with h | h
    · exact hk h
    · rw [h] at e; cases e
  have h1 := hlf k x e hk
  rw [Bx.put_ne _ _ _ (no g hg)]
  refine hkeep k x ?_ (fun e' => no k (hsv k e'.symm) rfl)
  rw [Bx.put_ne _ _ _ (fun e' => by rw [e', hq] at h1; cases h1), Bx.put_ne _ _ _ (no jb hj)]
  exact h1
theorem own_done {bx1 : Bx} {O1 : Nat → Prop} {jb q : Nat} {sv v1 : Value} {cj cq : Array Value} (hlf : Left bx bx1 O) (hO : ∀ b, O1 b → O b ∨ bx b = none) (hsv : ∀ b, sv.ownBlock = some b → O1 b)
    (hnew : v1.ownBlock = sv.ownBlock ∨ ∃ n, v1.ownBlock = some n ∧ ((bx1.put jb 172 cj).put q 51 cq) n = none) : ∀ b, O1 b ∨ v1.ownBlock = some b → O b ∨ bx b = none := fun b e => by
  rcases e with e | e
  · exact hO b e
  · rcases hnew with h | ⟨n, h, hn⟩
    · exact hO b (hsv b (by rw [← h, e]))
    · have hbn : b = n := by rw [e] at h; simpa using h
      subst hbn
      by_cases ho : O b
      · exact .inl ho
      · refine .inr ?_
        cases hb : bx b with
        | none => rfl
        | some x =>
          have h1 := hlf b x hb ho
          have h2 := (Bx.none_of_put hn).1
          rw [(Bx.none_of_put h2).1] at h1
          cases h1
/-- Amid the loop: where the worker is, and where it goes. -/
def LpW (w : World) (E : Flt → Addr) (B p bs bb : Nat) (t : St) (rs : List (Nat × Rt)) (i : Nat) (bx : Bx) (O : Nat → Prop) (g r ob oc : Nat) (R : Rt × Wr) (n : Nat) (W : World) : Prop :=
  ∃ x bx' O', Cw W w E B p bs bb t (rs.set i (r, x.1)) bx' ∧ WkAt bx' B O' g r ob oc x.2 ∧ WOk n x ∧ wto n x = R ∧ Left bx bx' O ∧ ∀ b, O' b → O b ∨ bx b = none
/-- What a step leaves. -/
def SPw (w : World) (E : Flt → Addr) (B p bs bb : Nat) (t : St) (rs : List (Nat × Rt)) (i : Nat) (bx : Bx) (O : Nat → Prop) (g r ob oc : Nat) (R : Rt × Wr) (e : Ending) (W : World) : Prop :=
  e = .returned (.bool R.1.st.busy) ∧ ∃ bx' O', Hid (Cw W w E B p bs bb (if R.1.st.busy then (t.step R.1.st.acc).1 else t) (rs.set i (r, if R.1.st.busy then R.1.goOn (t.step R.1.st.acc).2 else R.1)) bx') ∧ WkAt bx' B O' g r ob oc R.2 ∧ Left bx bx' O ∧ ∀ b, O' b → O b ∨ bx b = none
end
end Go.Proofs.YtihjklimcchkhaaGreatDoor

namespace Go.Proofs.YtihjklimcchkhaaGreatDoor
open Go.RowKit Go.Extern.Stop Go.Stop Go.Extern Go.Sort
section
variable {W W' w : World} {E : Flt → Addr} {B p bs bb : Nat} {t : St} {rs : List (Nat × Rt)} {bx bx' : Bx}
/-- Elder blocks are boxes, too. -/
theorem Cw.elders (h : Cw W w E B p bs bb t rs bx) (S : Nat → Bool) (cb : Nat → Array Value) {T : TypeId} (hS : ∀ b, S b = true → b < B ∧ BlkW W b T (cb b)) (h1 : T ≠ 116) (h2 : T ≠ 142) (h3 : T ≠ 3) : Cw W w E B p bs bb t rs (fun b => if S b = true then some (T, cb b) else bx b) := by
  obtain ⟨K, g1, g2, g3, g4, g5, g6, g7⟩ := h
  refine ⟨K, g1, g2, g3, g4, g5, g6, fun g T' cs' hx => ?_⟩
  dsimp only at hx
  by_cases e : S g = true
  · rw [if_pos e] at hx
    injection hx with hx
    injection hx with e1 e2
    subst e1 e2
    obtain ⟨hb, hk⟩ := hS g e
    refine ⟨hk, fun ⟨i, hi, e⟩ => ?_, h1, h2, h3, ?_⟩
    · have := ((g2 i hi).low _ e).1
      exact Nat.lt_irrefl _ (Nat.lt_of_lt_of_le hb this)
    · obtain ⟨⟨v1, fv, hq⟩, _⟩ := g1
      have := hq.bbb
      show g ≠ bb
      omega
  · rw [if_neg e] at hx
    exact g7 g T' cs' hx
end
end Go.Proofs.YtihjklimcchkhaaGreatDoor
