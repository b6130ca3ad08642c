/- Mourner.next, whole; at a yard. A template (fill.py). -/
import Derived.Test.YtjilhncnbkaebaaGreatDoorRz
namespace Go.Proofs.YtjilhncnbkaebaaGreatDoor
open Go.RowKit Go.Extern.Stop Go.Stop Go.Extern Go.Sort
section
variable {w W W' : World} {E : Flt → Addr} {B r b p bs bb : Nat} {sv fv nv : Value} {m : Rt} {mo : Mo} {x : Wd × Bool} {t : St} {ts : List Th}
/-- A word of a slot's, small enough for a number of its own. -/
def Wd.small (d : Wd) : Prop := (0 ≤ d.slot ∧ d.slot ≤ 1000000) ∧ (0 ≤ d.gen ∧ d.gen ≤ 1000000000)
theorem bne_dec (a c : Int) : (a != c) = decide (a ≠ c) := by
  by_cases h : a = c <;> simp [h]
theorem next_is (h : RtAt w r sv fv nv m) (hm : BlkW w b 36 (moc r mo).toArray) (hp : mo.pc ≤ 7) (h3 : mo.pc = 3 → mo.old.nil = false → mo.old.small) (h4 : mo.pc = 4 → m.st.last.2 = true → m.st.last.1.small) (h5 : mo.pc = 5 → wrap64 (mo.old.tag + 1) = mo.old.tag + 1) :
    Calls Tryz.prog 41 #[.pointer (some ⟨b, 0, none⟩)] w (NPost w b r (mo.next m.st.last).1 (mo.next m.st.last).2) := by
  obtain ⟨x, hx⟩ : ∃ x, m.st.last = x := ⟨_, rfl⟩
  rw [hx] at h4 ⊢
  have hc : mo.pc = 0 ∨ mo.pc = 1 ∨ mo.pc = 2 ∨ mo.pc = 3 ∨ mo.pc = 4 ∨ mo.pc = 5 ∨ mo.pc = 6 ∨ mo.pc = 7 := by omega
  rcases hc with e | e | e | e | e | e | e | e
  · have k := next_0 h hm e hx
    unfold Mo.next; rw [e]; exact k
  · have k := next_1 h hm e hx
    unfold Mo.next; rw [e]; exact k
  · cases hn : x.1.nil with
    | true =>
      have k := next_2nil h hm e hx hn
      unfold Mo.next; rw [e]; simp only [hn, if_true]; exact k
    | false =>
      have k := next_2 h hm e hx hn
      unfold Mo.next; rw [e]; simp only [hn, if_false, Bool.false_eq_true]; exact k
  · cases hb : mo.bad with
    | true =>
      have k := next_3bad h hm e hx (Lib.hid hb)
      unfold Mo.next; rw [e]; simp only [hb, Bool.true_or]; exact k
    | false =>
      cases hn : mo.old.nil with
      | true =>
        have k := next_3nil h hm e hx (Lib.hid hb) hn
        unfold Mo.next; rw [e]; simp only [hb, hn, Bool.not_true, Bool.false_and, Bool.or_self]; exact k
      | false =>
        have k := next_3 h hm e hx (Lib.hid hb) hn (Lib.hid (h3 e hn).1) (Lib.hid (h3 e hn).2)
        rw [bne_dec] at k
        unfold Mo.next; rw [e]; simp only [hb, hn, Bool.not_false, Bool.true_and, Bool.false_or]; exact k
  · cases hn : x.2 with
    | true =>
      have k := next_4 h hm e hx hn (Lib.hid (h4 e hn).1) (Lib.hid (h4 e hn).2)
      unfold Mo.next; rw [e]; simp only [hn, if_true]; exact k
    | false =>
      have k := next_4no h hm e hx hn
      unfold Mo.next; rw [e]; simp only [hn, if_false, Bool.false_eq_true]; exact k
  · have k := next_5 h hm e hx (h5 e)
    unfold Mo.next; rw [e]; exact k
  · cases h2 : x.2 with
    | false =>
      have k := next_6no h hm e hx h2
      unfold Mo.next; rw [e]; simp only [h2, if_true]; exact k
    | true =>
      cases hn : mo.old.nil with
      | true =>
        have k := next_6nil h hm e hx h2 hn
        unfold Mo.next; rw [e]; simp only [h2, hn, if_true, if_false, Bool.true_eq_false]; exact k
      | false =>
        have k := next_6 h hm e hx h2 hn
        unfold Mo.next; rw [e]; simp only [h2, hn, if_false, Bool.true_eq_false, Bool.false_eq_true]; exact k
  · have k := next_7 h hm e hx
    unfold Mo.next; rw [e]; exact k
theorem Yd.next_ (h : Yd W E B p bs bb t ts) {i : Nat} (hi : i < ts.length) (hp : ts[i].mo.pc ≤ 7) (h3 : ts[i].mo.pc = 3 → ts[i].mo.old.nil = false → ts[i].mo.old.small) (h4 : ts[i].mo.pc = 4 → ts[i].m.st.last.2 = true → ts[i].m.st.last.1.small) (h5 : ts[i].mo.pc = 5 → wrap64 (ts[i].mo.old.tag + 1) = ts[i].mo.old.tag + 1) :
    Calls Tryz.prog 41 #[.pointer (some ⟨ts[i].b, 0, none⟩)] W fun e w' => e = .returned (clv (ts[i].mo.next ts[i].m.st.last).2) ∧ Hid (Yd w' E B p bs bb t (ts.set i { ts[i] with mo := (ts[i].mo.next ts[i].m.st.last).1 })) ∧ Hid (Below B W w') := by
  obtain ⟨sv, fv, nv, hr⟩ := h.at_ hi
  refine (next_is hr (h.mo _ (List.getElem_mem hi)) hp h3 h4 h5).mono fun e w' ⟨he, h1, h2⟩ => ⟨he, Lib.hid (h.moset hi h2.out h1.out), Lib.hid ?_⟩
  obtain ⟨⟨v, fv', hq⟩, _⟩ := h.plot
  exact h2.out.below (fun j e => by rw [e]; exact (h.low ts[i] (List.getElem_mem hi)).1) hq.base_lt
end
end Go.Proofs.YtjilhncnbkaebaaGreatDoor
