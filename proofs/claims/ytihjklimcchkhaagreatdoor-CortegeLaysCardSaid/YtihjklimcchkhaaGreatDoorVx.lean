/- append onto a row of the call's own from a slice that reads as a list. A template (fill.py). -/
import Derived.Test.YtihjklimcchkhaaGreatDoorRG
import Derived.RegionTactic
namespace Go.Proofs.YtihjklimcchkhaaGreatDoor.Sv
open Go.RowKit Go.Extern.Stop Go.Stop Go.Extern Go.Sort
theorem RowC.flat_at {α : Type} {c : α → List Value} {k : Nat} (hk : ∀ a, (c a).length = k) (hk0 : 0 < k) {w : World} {b off : Nat} {ys : List α} (h : ∀ i (h : i < ys.length), w.rangeAt b (off + i * k) (c ys[i])) :
    ∀ j u, (flat c ys)[j]? = some u → w.cell? ((⟨b, off, none⟩ : Addr).add j) = some u := by
  intro j u hu
  have hj : j < (flat c ys).length := (List.getElem?_eq_some_iff.1 hu).1
  rw [flat_len hk] at hj
  have hi : j / k < ys.length := Nat.div_lt_of_lt_mul (by rw [Nat.mul_comm]; exact hj)
  have hr : j % k < k := Nat.mod_lt _ hk0
  have e : j / k * k + j % k = j := by rw [Nat.mul_comm]; exact Nat.div_add_mod j k
  have hc := Go.Proofs.YtihjklimcchkhaaGreatDoor.Sv.flat_at hk ys (j / k) (j % k) hi hr
  rw [e, hu] at hc
  have := h (j / k) hi (j % k) u hc.symm
  rw [Addr.add_mid]
  rw [Nat.add_assoc, e] at this
  exact this
theorem below_grown {B : Nat} {W w w' : World} {u : Value} {m : Nat} {T : TypeId} {size : Nat} {xs : List Value} (h : Below B W w) (hg : w.grownBy w' u.ownBlock) (hB : B ≤ w.heap.size) (hown : w.ownsRow B T size u m xs) : Below B W w' :=
  h.grown hg hB (fun q e => (hown.lt q e).1)
section
variable {P : Program} (w : World)
theorem run_append_of_nil (base : Nat) (t ty e : TypeId) (i : TypeInfo) (size : Nat) (ht : P.underlying t = some (.slice e)) (hi : P.info? e = some i)
    (v : Value) (n : Nat) (xs : List Value) (hown : w.ownsRow base e size v n xs) (c : Nat) : (Builtin.append_ #[t, t] ty #[v, .slice none 0 c]).run P w = .ok v w := by
  rcases hown.2 with ⟨rfl, rfl⟩ | ⟨g, cap, cur, rfl, _, _, hnc, _⟩
  · simp [Builtin.append_, run_underlying ht, sizeOf, typeInfo, hi, Builtin.lenOf, Builtin.firstCells]
  · simp [Builtin.append_, run_underlying ht, sizeOf, typeInfo, hi, Builtin.lenOf, Builtin.firstCells, hnc, storeCells]
/-- What an append leaves. -/
def AppPost {α : Type} (c : α → List Value) (k base : Nat) (e : TypeId) (v : Value) (n : Nat) (xs : List Value) (ys : List α) (v' : Value) (w' : World) : Prop :=
  w'.ownsRow base e k v' (n + ys.length) (xs ++ flat c ys) ∧ w.grownBy w' v.ownBlock ∧ (v'.ownBlock = v.ownBlock ∨ v'.ownBlock = some w.heap.size) ∧ ∀ W0, Below base W0 w → Below base W0 w'
theorem run_append_row {α : Type} {c : α → List Value} {k : Nat} (hk : ∀ a, (c a).length = k) (hk0 : 0 < k) (ho : ∀ a, ∀ u ∈ c a, u.oneCell' = true) (base : Nat) (t ty e : TypeId) (i : TypeInfo) (z : Value) (bytes : Nat) (ht : P.underlying t = some (.slice e)) (hi : P.info? e = some i) (hz : i.zero = some z)
    (hsize : i.size = k) (hby : i.bytes = bytes) (hzs : z.cells.size = k) (v : Value) (n : Nat) (xs : List Value) (hown : w.ownsRow base e k v n xs) (src : Value) (ys : List α) (hr : RowC c k w src ys)
    (h63 : n + ys.length ≤ maxLen) (hbytes : (n + ys.length) * bytes ≤ 140737488355328) (hbase : base ≤ w.heap.size) :
    ∃ v' w', (Builtin.append_ #[t, t] ty #[v, src]).run P w = .ok v' w' ∧ AppPost w c k base e v n xs ys v' w' := by
  have zero : ∀ ao cap, src = .slice ao 0 cap → ys = [] → ∃ v' w', (Builtin.append_ #[t, t] ty #[v, src]).run P w = .ok v' w' ∧ AppPost w c k base e v n xs ys v' w' := by
    rintro ao cap rfl rfl
    cases ao with
    | none => exact ⟨v, w, run_append_of_nil w base t ty e i k ht hi v n xs hown cap, by simpa [flat] using hown, ⟨rfl, rfl, rfl, Nat.le_refl _, fun _ _ _ => rfl⟩, .inl rfl, fun _ h => h⟩
    | some ad =>
      obtain ⟨v', w', h1, h2, h3, _, h5⟩ := run_append_own_at (P := P) w base t ty e i z k bytes ht hi hz hsize hby hzs hk0 v n xs hown ad 0 cap [] (by simp) (by simp) (by simp) (by simpa using h63) (by simpa using hbytes) hbase
      exact ⟨v', w', h1, by simpa [flat] using h2, h3, h5, fun _ h => below_grown h h3 hbase hown⟩
  rcases hr with ⟨⟨ao, cap, e1⟩, e2⟩ | ⟨b, off, cap, e1, hb, hcap, hc⟩
  · exact zero ao cap e1 e2
  · subst e1
    obtain ⟨v', w', h1, h2, h3, _, h5⟩ := run_append_own_at (P := P) w base t ty e i z k bytes ht hi hz hsize hby hzs hk0 v n xs hown ⟨b, off, none⟩ ys.length cap (flat c ys) (flat_len hk ys) (RowC.flat_at hk hk0 hc) (flat_one ho ys) h63 hbytes hbase
    exact ⟨v', w', h1, h2, h3, h5, fun _ h => below_grown h h3 hbase hown⟩
theorem wp_append_row {α : Type} {c : α → List Value} {k : Nat} (hk : ∀ a, (c a).length = k) (hk0 : 0 < k) (ho : ∀ a, ∀ u ∈ c a, u.oneCell' = true) {o : Oper} {a : Act} {K : Act → World → Prop} {Q : Exit → Act → World → Prop} (s x : Operand) (t : TypeId)
    (hop : o.op = .call { callee := .builtin .append, args := #[s, x], argTypes := #[t, t] })
    (base : Nat) (e : TypeId) (i : TypeInfo) (z : Value) (bytes : Nat) (ht : P.underlying t = some (.slice e)) (hi : P.info? e = some i) (hz : i.zero = some z)
    (hsize : i.size = k) (hby : i.bytes = bytes) (hzs : z.cells.size = k) (v : Value) (n : Nat) (xs : List Value) (hs : a.eval s = v) (hown : w.ownsRow base e k v n xs) (src : Value) (ys : List α) (hx : a.eval x = src) (hr : RowC c k w src ys)
    (h63 : n + ys.length ≤ maxLen) (hbytes : (n + ys.length) * bytes ≤ 140737488355328) (hbase : base ≤ w.heap.size)
    (h : ∀ v' w', AppPost w c k base e v n xs ys v' w' → K (a.put o.dst v') w') : o.wp P a w K Q := by
  obtain ⟨v', w', hrun, h2⟩ := run_append_row (P := P) w hk hk0 ho base t o.type e i z bytes ht hi hz hsize hby hzs v n xs hown src ys hr h63 hbytes hbase
  unfold Oper.wp execOp
  simp only [hop, resolve, invoke, builtin, Sem.run_bind, Sem.run_pure, Result.andThen_ok, List.map_toArray, List.map_cons, List.map_nil, hs, hx, hrun]
  exact h v' w' h2
theorem wpList_append_row {α : Type} {c : α → List Value} {k : Nat} (hk : ∀ a, (c a).length = k) (hk0 : 0 < k) (ho : ∀ a, ∀ u ∈ c a, u.oneCell' = true) {ops : Array Oper} {rest : List Oper} {o : Oper} {a : Act} {Q : Exit → Act → World → Prop} (hgd : o.guard = none) (s x : Operand) (t : TypeId)
    (hop : o.op = .call { callee := .builtin .append, args := #[s, x], argTypes := #[t, t] })
    (base : Nat) (e : TypeId) (i : TypeInfo) (z : Value) (bytes : Nat) (ht : P.underlying t = some (.slice e)) (hi : P.info? e = some i) (hz : i.zero = some z)
    (hsize : i.size = k) (hby : i.bytes = bytes) (hzs : z.cells.size = k) (v : Value) (n : Nat) (xs : List Value) (hs : a.eval s = v) (hown : w.ownsRow base e k v n xs) (src : Value) (ys : List α) (hx : a.eval x = src) (hr : RowC c k w src ys)
    (h63 : n + ys.length ≤ maxLen) (hbytes : (n + ys.length) * bytes ≤ 140737488355328) (hbase : base ≤ w.heap.size)
    (h : ∀ v' w', AppPost w c k base e v n xs ys v' w' → wpList P ops Q rest (a.put o.dst v') w') : wpList P ops Q (o :: rest) a w :=
  wpList_plain hgd fun _ hK => wp_append_row w hk hk0 ho s x t hop base e i z bytes ht hi hz hsize hby hzs v n xs hs hown src ys hx hr h63 hbytes hbase fun v' w' h2 => hK _ _ (h v' w' h2)
theorem step_append_row {α : Type} {c : α → List Value} {k : Nat} (hk : ∀ a, (c a).length = k) (hk0 : 0 < k) (ho : ∀ a, ∀ u ∈ c a, u.oneCell' = true) {ops : Array Oper} {o : Oper} {a : Act} {K : Act → World → Prop} {Q : Exit → Act → World → Prop} {E : Prop} (hgd : o.guard = none) (s x : Operand) (t : TypeId)
    (hop : o.op = .call { callee := .builtin .append, args := #[s, x], argTypes := #[t, t] })
    (base : Nat) (e : TypeId) (i : TypeInfo) (z : Value) (bytes : Nat) (ht : P.underlying t = some (.slice e)) (hi : P.info? e = some i) (hz : i.zero = some z)
    (hsize : i.size = k) (hby : i.bytes = bytes) (hzs : z.cells.size = k) (v : Value) (n : Nat) (xs : List Value) (hs : a.eval s = v) (hown : w.ownsRow base e k v n xs) (src : Value) (ys : List α) (hx : a.eval x = src) (hr : RowC c k w src ys)
    (h63 : n + ys.length ≤ maxLen) (hbytes : (n + ys.length) * bytes ≤ 140737488355328) (hbase : base ≤ w.heap.size)
    (h : ∀ v' w', AppPost w c k base e v n xs ys v' w' → K (a.put o.dst v') w') : if Region.wanted o (yielded ops a.tmps) = true then Oper.wp P o a w K Q else E := by
  have hw : Region.wanted o (yielded ops a.tmps) = true := by simp [Region.wanted, hgd]
  rw [if_pos hw]
  exact wp_append_row w hk hk0 ho s x t hop base e i z bytes ht hi hz hsize hby hzs v n xs hs hown src ys hx hr h63 hbytes hbase h
end
end Go.Proofs.YtihjklimcchkhaaGreatDoor.Sv
