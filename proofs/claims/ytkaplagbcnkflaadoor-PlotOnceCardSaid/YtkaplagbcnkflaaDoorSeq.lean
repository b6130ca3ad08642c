/- plot: one access behind the other, as the laws use it. A template (fill.py). -/
import Derived.Test.YtkaplagbcnkflaaDoorF10
namespace Go.Proofs.YtkaplagbcnkflaaDoor
open Go.RowKit Go.Extern.Stop Go.Stop Go.Extern Go.Sort
/-- A plot. -/
def PlotAt (w : World) (E : Flt → Addr) (B p bs bb : Nat) (t : St) : Prop := (∃ v fv, Rep w E B p bs bb v fv t) ∧ t.Ok ∧ Env w E
/-- What a plot's access leaves as it is. -/
def Kept (p bs bb : Nat) (W w' : World) : Prop := ∀ x, x < W.heap.size → x ≠ p → x ≠ bs → x ≠ bb → (∀ cs fr, W.heap[x]? ≠ some (.cells cs 3 fr)) → w'.heap[x]? = W.heap[x]?
section
variable {w W w' : World} {E : Flt → Addr} {B p bs bb : Nat} {t t' : St}
theorem PlotAt.keep (h : PlotAt w E B p bs bb t) (hb : Below w.heap.size w w') : PlotAt w' E B p bs bb t := by
  obtain ⟨⟨v, fv, h⟩, o, L⟩ := h
  exact ⟨⟨v, fv, h.keep hb⟩, o, L.keep hb⟩
theorem Kept.refl : Kept p bs bb w w := fun _ _ _ _ _ _ => rfl
theorem Kept.below (hb : Below w.heap.size w w') : Kept p bs bb w w' := fun x hx _ _ _ _ => hb.block x hx
theorem Kept.of_off {v fv : Value} (h : Rep w E B p bs bb v fv t) (ho : Off (Mine p bs bb v) w w') : Kept p bs bb w w' := fun x hx h1 h2 h3 h4 => ho.block x hx (by
  rintro (e | e | e | e)
  · exact h1 e
  · exact h2 e
  · exact h3 e
  · rcases h.free.2 with ⟨rfl, _⟩ | ⟨g, cap, cur, rfl, _, hh, _⟩
    · simp [Value.ownBlock] at e
    · have : g = x := by simpa [Value.ownBlock] using e
      subst this
      exact h4 _ _ hh)
theorem Kept.blk {T : TypeId} {x : Nat} {cs : Array Value} (h : Kept p bs bb w w') (hp : PlotAt w E B p bs bb t) (hx : BlkW w x T cs) (h1 : T ≠ 58) (h2 : T ≠ 68) (h3 : x ≠ bb) (h4 : T ≠ 3) : BlkW w' x T cs := by
  obtain ⟨⟨v, fv, hp⟩, _⟩ := hp
  obtain ⟨c1, b1, _⟩ := hp.slots.blk
  refine (h x hx.lt (hx.ne_ hp.hp h1) (hx.ne_ b1 h2) h3 (fun cs' fr e => ?_)).trans hx
  unfold BlkW at hx
  rw [hx] at e
  injection e with e
  injection e with _ e
  exact h4 e
theorem Kept.rep {x : Nat} {cs : Array Value} (h : Kept p bs bb w w') (hp : PlotAt w E B p bs bb t) (hx : BlkW w x 39 cs) : BlkW w' x 39 cs := by
  have hq := hp
  obtain ⟨⟨v, fv, hq⟩, _⟩ := hq
  obtain ⟨c1, b1, _⟩ := hq.brd.blk
  exact h.blk hp hx (by decide) (by decide) (hx.ne_ b1 (by decide)) (by decide)
/-- An access that can be: its reply, and what is behind it. -/
def DoIs (W : World) (E : Flt → Addr) (B p bs bb : Nat) (t' : St) (d : Wd) (ok : Bool) (e : Ending) (w' : World) : Prop :=
  e = .returned (.tuple #[.agg #[.int .i64 d.slot, .int .i64 d.gen, .int .i64 d.tag, .int .i64 d.num, .bool d.mark, .bool ok], .nilIface]) ∧ Hid (PlotAt w' E B p bs bb t') ∧ Hid (Below B W w') ∧ Hid (Kept p bs bb W w')
theorem do_is (h : PlotAt w E B p bs bb t) (hB : 6 ≤ B) (ht : t.steps < 900000) (a : Ac) (hc : t.can a = true) :
    Calls Tryd.prog 9 #[.pointer (some ⟨p, 0, none⟩), av a] w (DoIs w E B p bs bb (t.step a).1 (t.step a).2.1 (t.step a).2.2) := by
  obtain ⟨⟨v, fv, h⟩, o, L⟩ := h
  refine (do_any h L o hB ht a hc).mono fun e w' ⟨v', fv', he, hr, ho, _⟩ => ⟨he, ?_, ?_, ?_⟩
  · have hb := ho.below h.mine_ge h.base_lt
    exact ⟨⟨v', fv', hr⟩, t.step_ok o a hc, L.below hb hB⟩
  · exact ho.below h.mine_ge h.base_lt
  · exact Kept.of_off h ho
theorem do_no (h : PlotAt w E B p bs bb t) (a : Ac) (hc : t.can a = false) :
    Calls Tryd.prog 9 #[.pointer (some ⟨p, 0, none⟩), av a] w (CantPost w E) := by
  obtain ⟨⟨v, fv, h⟩, o, L⟩ := h
  exact do_cant h L o a hc
/-- New, as the laws use it. -/
def NewIs (w : World) (E : Flt → Addr) (n m : Nat) (e : Ending) (w' : World) : Prop :=
  ∃ p bs bb, e = .returned (.tuple #[.pointer (some ⟨p, 0, none⟩), .nilIface]) ∧ Hid (PlotAt w' E w.heap.size p bs bb (St.new n m)) ∧ Hid (Below w.heap.size w w') ∧ w.heap.size ≤ bb ∧ bb < w'.heap.size
theorem new_is (L : Env w E) (n m : Nat) (hn : n ≤ 1024) (hm : m ≤ 200) : Calls Tryd.prog 8 #[.int .i64 (n : Int), .int .i64 (m : Int)] w (NewIs w E n m) :=
  (New_any E n m hn hm w).mono fun _ _ ⟨p, bs, bb, v, he, hr, hb⟩ => ⟨p, bs, bb, he, ⟨⟨v, _, hr⟩, St.new_ok n m hn hm, L.keep hb⟩, hb, hr.bbb, hr.brd.lt⟩
theorem below_low {B : Nat} {a b : World} (h : Below B w a) (k : Below B a b) : Below B w b := h.trans k
end
end Go.Proofs.YtkaplagbcnkflaaDoor
