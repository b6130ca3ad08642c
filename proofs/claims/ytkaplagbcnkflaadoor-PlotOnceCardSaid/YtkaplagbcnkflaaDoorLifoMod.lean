/- PlotRow, as plain data; a plot beside a row of numbers of the law's own. A template (fill.py). -/
import Derived.Test.YtkaplagbcnkflaaDoorAwake
import Derived.Test.YtkaplagbcnkflaaDoorSteps
namespace Go.Proofs.YtkaplagbcnkflaaDoor
open Go.RowKit Go.Extern.Stop Go.Stop Go.Extern Go.Sort
/-- A plot whose row of free slots isn't the row u. -/
def PlotX (w : World) (E : Flt → Addr) (B p bs bb : Nat) (u : Value) (t : St) : Prop := (∃ v fv, Rep w E B p bs bb v fv t ∧ ∀ g, u.ownBlock = some g → v.ownBlock ≠ some g) ∧ t.Ok ∧ Env w E
section
variable {w W w' : World} {E : Flt → Addr} {B p bs bb : Nat} {t t' : St} {u : Value}
theorem PlotX.at (h : PlotX w E B p bs bb u t) : PlotAt w E B p bs bb t := by
  obtain ⟨⟨v, fv, h, _⟩, o, L⟩ := h
  exact ⟨⟨v, fv, h⟩, o, L⟩
theorem PlotX.keep (h : PlotX w E B p bs bb u t) (hb : Below w.heap.size w w') : PlotX w' E B p bs bb u t := by
  obtain ⟨⟨v, fv, h, k⟩, o, L⟩ := h
  exact ⟨⟨v, fv, h.keep hb, k⟩, o, L.keep hb⟩
theorem own_block {b m : Nat} {T : TypeId} {size : Nat} {xs : List Value} (h : w.ownsRow b T size u m xs) (hb : ∀ g, u.ownBlock = some g → w'.heap[g]? = w.heap[g]?) : w'.ownsRow b T size u m xs := by
  obtain ⟨h1, h2⟩ := h
  refine ⟨h1, ?_⟩
  rcases h2 with h2 | ⟨g, cap, cur, rfl, h4, h5, r⟩
  · exact .inl h2
  · exact .inr ⟨g, cap, cur, rfl, h4, (hb g rfl).trans h5, r⟩
/-- A new row beside a plot. -/
theorem PlotX.start (h : PlotAt w E B p bs bb t) (hu : ∀ g, u.ownBlock = some g → w.heap.size ≤ g) (hb : Below w.heap.size w w') : PlotX w' E B p bs bb u t := by
  obtain ⟨⟨v, fv, h⟩, o, L⟩ := h
  refine ⟨⟨v, fv, h.keep hb, fun g hg e => ?_⟩, o, L.keep hb⟩
  have := hu g hg
  have := (h.free.lt g e).2
  omega
/-- Behind an append to the row. -/
theorem PlotX.grown {u' : Value} {b m : Nat} {xs : List Value} (h : PlotX w E B p bs bb u t) (hown : w.ownsRow b 3 1 u m xs) (hL : Env w' E) (hg : w.grownBy w' u.ownBlock) (hat : u'.ownBlock = u.ownBlock ∨ u'.ownBlock = some w.heap.size) : PlotX w' E B p bs bb u' t := by
  obtain ⟨⟨v, fv, h, k⟩, o, L⟩ := h
  have hr : Rep w' E B p bs bb v fv t := by
    rcases hown.2 with ⟨rfl, _⟩ | ⟨g, cap, cur, rfl, h4, h5, _⟩
    · exact h.keep ⟨hg.os, hg.tape, hg.output, hg.size, fun j hj => hg.block j hj (by simp [Value.ownBlock])⟩
    · have hx : BlkW w g 3 cur := h5
      obtain ⟨c1, b1, _⟩ := h.slots.blk
      obtain ⟨c2, b2, _⟩ := h.brd.blk
      exact h.other g hg (hx.ne_ h.hp (by decide)) (hx.ne_ b1 (by decide)) (hx.ne_ b2 (by decide)) (k g rfl) (fun cs' hc => BlkW.ne_ hc hx (by decide) rfl)
  refine ⟨⟨v, fv, hr, fun g e => ?_⟩, o, hL⟩
  rcases hat with hat | hat
  · exact k g (by rw [← hat]; exact e)
  · rw [hat] at e
    obtain rfl := Option.some.inj e
    intro e2
    exact Nat.lt_irrefl _ (h.free.lt _ e2).2
/-- An access whose reply is known, beside a row. -/
def DoX (W : World) (E : Flt → Addr) (B p bs bb : Nat) (u : Value) (b m : Nat) (xs : List Value) (t' : St) (s g q n : Int) (mk ok : Bool) (e : Ending) (w' : World) : Prop :=
  e = .returned (.tuple #[.agg #[.int .i64 s, .int .i64 g, .int .i64 q, .int .i64 n, .bool mk, .bool ok], .nilIface]) ∧ Hid (PlotX w' E B p bs bb u t') ∧ Hid (Below B W w') ∧ Hid (w'.ownsRow b 3 1 u m xs)
theorem do_x (h : PlotX w E B p bs bb u t) {b m : Nat} {xs : List Value} (hown : w.ownsRow b 3 1 u m xs) (hB : 6 ≤ B) (ht : t.steps < 900000) (a : Ac) (hc : t.can a = true) (s g q n : Int) (mk ok : Bool) (hd : (t.step a).2 = (⟨s, g, q, n, mk⟩, ok)) :
    Calls Tryd.prog 9 #[.pointer (some ⟨p, 0, none⟩), av a] w (DoX w E B p bs bb u b m xs (t.step a).1 s g q n mk ok) := by
  obtain ⟨⟨v, fv, h, k⟩, o, L⟩ := h
  refine (do_any h L o hB ht a hc).mono fun e w' ⟨v', fv', he, hr, ho, hat⟩ => ?_
  rw [hd] at he
  have hb := ho.below h.mine_ge h.base_lt
  have hu : ∀ g, u.ownBlock = some g → w'.heap[g]? = w.heap[g]? := fun g e => by
    rcases hown.2 with ⟨rfl, _⟩ | ⟨g', cap, cur, rfl, h4, h5, _⟩
    · simp [Value.ownBlock] at e
    · obtain rfl : g' = g := by simpa [Value.ownBlock] using e
      have hx : BlkW w g' 3 cur := h5
      obtain ⟨c1, b1, _⟩ := h.slots.blk
      obtain ⟨c2, b2, _⟩ := h.brd.blk
      refine ho.block g' hx.lt ?_
      rintro (e | e | e | e)
      · exact hx.ne_ h.hp (by decide) e
      · exact hx.ne_ b1 (by decide) e
      · exact hx.ne_ b2 (by decide) e
      · exact k g' rfl e
  refine ⟨he, ⟨⟨v', fv', hr, fun g e => ?_⟩, t.step_ok o a hc, L.below hb hB⟩, hb, own_block hown hu⟩
  rcases hat with hat | hat
  · rw [hat]; exact k g e
  · intro e2
    have := hat g e2
    have := (hown.lt g e).2
    omega
end

/-! ### PlotRow -/
/-- While the slots are given for the first time. -/
structure Lf1 (t : St) (n i : Nat) : Prop where
  cnt : t.n = n
  free : t.free = List.range' i (n - i)
  gen : ∀ k, (t.slot k).gen = if k < i then 1 else 0
  steps : t.steps = i
theorem lf1_new (n : Nat) : Lf1 (St.new n 0) n 0 := ⟨rfl, by simp [St.new, List.range_eq_range'], fun k => by simp [St.new], rfl⟩
def acNew : Ac := ⟨4, 0, 0, 0, zw, zw⟩
theorem lf1_step {t : St} {n i : Nat} (h : Lf1 t n i) (hi : i < n) : (t.step acNew).2 = (⟨(i : Int) + 1, 1, 0, 0, false⟩, true) ∧ Lf1 (t.step acNew).1 n (i + 1) := by
  have hf : t.tick.free = i :: List.range' (i + 1) (n - (i + 1)) := by
    show t.free = _
    rw [h.free, row_next n i hi]
  have hg : (t.slot i).gen = 0 := by rw [h.gen, if_neg (Nat.lt_irrefl _)]
  rw [step_give (a := acNew) rfl]
  unfold St.give
  rw [hf]
  refine ⟨?_, ⟨h.cnt, rfl, fun k => ?_, by simp [St.tick, h.steps]⟩⟩
  · simp [St.tick, hg]
  · show (if k = i then _ else t.slot k : Sl).gen = _
    by_cases e : k = i
    · subst e; rw [if_pos rfl, if_pos (Nat.lt_succ_self _)]; show (t.slot k).gen + 1 = 1; rw [hg]
    · rw [if_neg e, h.gen]
      by_cases e2 : k < i
      · rw [if_pos e2, if_pos (by omega)]
      · rw [if_neg e2, if_neg (by omega)]
/-- While slots are freed: F, the last one first. -/
structure Lf2 (t : St) (n : Nat) (F : List Nat) (j : Nat) : Prop where
  cnt : t.n = n
  len : F.length ≤ j
  free : t.free = F
  gen : ∀ k, k < n → (t.slot k).gen = 1
  steps : t.steps ≤ n + j
theorem lf2_start {t : St} {n : Nat} (h : Lf1 t n n) : Lf2 t n [] 0 := ⟨h.cnt, Nat.le_refl _, by rw [h.free]; simp, fun k hk => by rw [h.gen, if_pos hk], by rw [h.steps]; omega⟩
def acFree (k : Nat) : Ac := ⟨5, 0, 0, 0, ⟨(k : Int) + 1, 1, 0, 0, false⟩, zw⟩
theorem lf2_can {t : St} {n j k : Nat} {F : List Nat} (h : Lf2 t n F j) (hk : k < n) : t.can (acFree k) = true := can_free t _ rfl (by rw [h.cnt]; show 1 ≤ (k : Int) + 1 ∧ (k : Int) + 1 ≤ n; omega)
theorem lf2_free {t : St} {n j k : Nat} {F : List Nat} (h : Lf2 t n F j) (o : t.Ok) (hk : k < n) (hn : k ∉ F) : (t.step (acFree k)).2 = (⟨0, 0, 0, 0, false⟩, true) ∧ Lf2 (t.step (acFree k)).1 n (k :: F) (j + 1) := by
  have hkn : k < t.n := by rw [h.cnt]; exact hk
  have hg : (t.slot k).given = true := by
    cases hg : (t.slot k).given with
    | true => rfl
    | false => exact absurd (by rw [← h.free]; exact (o.mem k hkn).2 hg) hn
  rw [step_take (a := acFree k) rfl k hkn rfl hg (by rw [h.gen k hk]; rfl)]
  refine ⟨rfl, ⟨h.cnt, Nat.succ_le_succ h.len, by show k :: t.free = _; rw [h.free], fun i hi => ?_, by show t.steps + 1 ≤ _; have := h.steps; omega⟩⟩
  show (if i = k then _ else t.slot i : Sl).gen = 1
  by_cases e : i = k
  · subst e; rw [if_pos rfl]; exact h.gen i hi
  · rw [if_neg e]; exact h.gen i hi
theorem lf2_twice {t : St} {n j k : Nat} {F : List Nat} (h : Lf2 t n F j) (o : t.Ok) (hk : k < n) (hn : k ∈ F) : (t.step (acFree k)).2 = (⟨0, 0, 0, 0, false⟩, false) ∧ Lf2 (t.step (acFree k)).1 n F (j + 1) := by
  have hkn : k < t.n := by rw [h.cnt]; exact hk
  have hg : (t.slot k).given = false := (o.mem k hkn).1 (by rw [h.free]; exact hn)
  rw [step_twice (a := acFree k) rfl k hkn rfl hg]
  exact ⟨rfl, ⟨h.cnt, Nat.le_succ_of_le h.len, h.free, h.gen, by show t.steps + 1 ≤ _; have := h.steps; omega⟩⟩
theorem lf2_len {t : St} {n j : Nat} {F : List Nat} (h : Lf2 t n F j) : F.length ≤ j := h.len
/-- While they are given anew. -/
structure Lf3 (t : St) (n : Nat) (F : List Nat) (j : Nat) : Prop where
  cnt : t.n = n
  free : t.free = F
  gen : ∀ k, k ∈ F → (t.slot k).gen = 1
  steps : t.steps ≤ j
theorem lf3_start {t : St} {n j : Nat} {F : List Nat} (h : Lf2 t n F j) (o : t.Ok) : Lf3 t n F (n + j) := ⟨h.cnt, h.free, fun k hk => h.gen k (by have := o.lt k (by rw [h.free]; exact hk); rw [h.cnt] at this; exact this), h.steps⟩
theorem lf3_step {t : St} {n j k : Nat} {F : List Nat} (h : Lf3 t n (k :: F) j) (o : t.Ok) : (t.step acNew).2 = (⟨(k : Int) + 1, 2, 0, 0, false⟩, true) ∧ Lf3 (t.step acNew).1 n F (j + 1) := by
  have hf : t.tick.free = k :: F := h.free
  have hg : (t.slot k).gen = 1 := h.gen k (List.mem_cons_self ..)
  have hnd : k ∉ F := by
    have := o.nodup
    rw [h.free] at this
    exact (List.nodup_cons.1 this).1
  rw [step_give (a := acNew) rfl]
  unfold St.give
  rw [hf]
  refine ⟨?_, ⟨h.cnt, rfl, fun i hi => ?_, by show t.steps + 1 ≤ _; have := h.steps; omega⟩⟩
  · simp [St.tick, hg]
  · show (if i = k then _ else t.slot i : Sl).gen = 1
    have hne : ¬ i = k := fun e => hnd (by rw [← e]; exact hi)
    rw [if_neg hne]
    exact h.gen i (List.mem_cons_of_mem _ hi)
theorem lf3_end {t : St} {n j : Nat} (h : Lf3 t n [] j) : (t.step acNew).2 = (⟨0, 0, 0, 0, false⟩, false) ∧ (t.step acNew).1.n = n ∧ (t.step acNew).1.free = [] := by
  have hf : t.tick.free = [] := h.free
  rw [step_give (a := acNew) rfl]
  unfold St.give
  rw [hf]
  exact ⟨rfl, h.cnt, h.free⟩
end Go.Proofs.YtkaplagbcnkflaaDoor
