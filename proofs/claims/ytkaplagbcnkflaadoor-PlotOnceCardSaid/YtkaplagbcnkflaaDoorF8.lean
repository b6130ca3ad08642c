/- plot: Do, at every access. A template (fill.py). -/
import Derived.Test.YtkaplagbcnkflaaDoorF7
namespace Go.Proofs.YtkaplagbcnkflaaDoor
open Go.RowKit Go.Extern.Stop Go.Stop Go.Extern Go.Sort
section
variable {w : World} {E : Flt → Addr} {B p bs bb : Nat} {v fv : Value} {t : St}
/-- An access that can't be. -/
def CantPost (w : World) (E : Flt → Addr) (e : Ending) (w' : World) : Prop :=
  ∃ x, e = .returned (.tuple #[rv zw false, .iface 73 x]) ∧ Ch w' (.iface 121 (.pointer (some (E .arg)))) [3] (.iface 73 x) ∧ Below w.heap.size w w'
set_option maxRecDepth 100000 in
set_option maxHeartbeats 4000000 in
theorem do_cant (h : Rep w E B p bs bb v fv t) (L : Env w E) (o : t.Ok) (a : Ac) (hc : t.can a = false) :
    Calls Tryd.prog 9 #[.pointer (some ⟨p, 0, none⟩), av a] w (CantPost w E) := by
  obtain ⟨k, s, g, f, d, d'⟩ := a
  have D0 := Lib.hid (DoSt.start h L ⟨k, s, g, f, d, d'⟩)
  have HC := Lib.hid (fun W (H : Rep W E B p bs bb v fv t) => can_any H o ⟨k, s, g, f, d, d'⟩)
  rw [hc] at HC
  have hz := h.lt.1
  clear h L o hc
  unfold av
  dsimp only
  go_enter Tryd.func9, Tryd.ntmps9
  go_wp2_with fail
  refine (HC.out _ D0.out.rep).mono ?_
  rintro e w1 ⟨rfl, hb⟩
  have D1 := Lib.hid (D0.out.below hb)
  have HB := Lib.hid (below_trans (below_alloc (below_alloc (Below.refl _ _) _) _) hb)
  clear hb
  have K3 := D1.out.res
  have a0 := K3.cell 0
  have a1 := K3.cell 1
  have a2 := K3.cell 2
  have a3 := K3.cell 3
  have a4 := K3.cell 4
  have a5 := K3.cell 5
  have af := fun x => K3.frozen x
  simp only [List.getElem?_toArray, List.getElem?_cons_succ, List.getElem?_cons_zero] at a0 a1 a2 a3 a4 a5
  have lt1 := K3.lt
  have ga := D1.out.env.arg
  clear K3
  go_wp2_with fail
  refine (At_some _ _ _ _).mono ?_
  rintro e w2 ⟨rfl, rfl⟩
  go_wp2
  refine bodyPost_ret (v := .tuple #[.agg #[.int .i64 0, .int .i64 0, .int .i64 0, .int .i64 0, .bool false, .bool false], .iface 73 (.pointer (some ⟨w1.heap.size, 0, none⟩))]) (by simp [results, Tryd.results9, go_sem, lt1, a0, a1, a2, a3, a4, a5]) rfl ?_
  refine ⟨_, rfl, ?_, ?_⟩
  · have := Ch.push 3 (Ch.base (w := (((((w1.setCell ⟨w.heap.size + 1, 0, none⟩ (.int .i64 0)).setCell ⟨w.heap.size + 1, 1, none⟩ (.int .i64 0)).setCell ⟨w.heap.size + 1, 2, none⟩ (.int .i64 0)).setCell ⟨w.heap.size + 1, 3, none⟩ (.int .i64 0)).setCell ⟨w.heap.size + 1, 4, none⟩ (.bool false)).setCell ⟨w.heap.size + 1, 5, none⟩ (.bool false)) (t := .iface 121 (.pointer (some (E .arg)))))
    simp only [size_setCell] at this
    exact this
  · have hB : Below w.heap.size w w1 := HB.out
    refine below_al ?_ (Nat.le_refl _) _
    exact below_st (below_st (below_st (below_st (below_st (below_st hB _ _ _ (Nat.le_succ _)) _ _ _ (Nat.le_succ _)) _ _ _ (Nat.le_succ _)) _ _ _ (Nat.le_succ _)) _ _ _ (Nat.le_succ _)) _ _ _ (Nat.le_succ _)

theorem do_any (h : Rep w E B p bs bb v fv t) (L : Env w E) (o : t.Ok) (hB : 6 ≤ B) (ht : t.steps < 900000) (a : Ac) (hc : t.can a = true) :
    Calls Tryd.prog 9 #[.pointer (some ⟨p, 0, none⟩), av a] w (DoPost w E B p bs bb v (t.step a)) := by
  unfold St.step St.act
  cases hw : ({ t with steps := t.steps + 1 } : St).wrong a with
  | some x =>
    obtain ⟨k, s, g, f, d, d'⟩ := a
    exact do_wrong h L o hB ht k s g f d d' x hc hw
  | none =>
    obtain ⟨k, s, g, f, d, d'⟩ := a
    dsimp only
    by_cases h4 : k = 4
    · subst h4
      rw [if_pos rfl]
      exact do_new h L o hB ht s g f d d' hc
    · rw [if_neg h4]
      by_cases h5 : k = 5
      · subst h5
        rw [if_pos rfl]
        have hr : 1 ≤ d.slot ∧ d.slot ≤ t.n := by
          unfold St.can at hc
          dsimp only at hc
          rw [if_neg (by decide), if_neg (by decide), if_pos rfl] at hc
          simpa using hc
        obtain ⟨i, hi⟩ : ∃ i : Nat, (i : Int) + 1 = d.slot := ⟨(d.slot - 1).toNat, by omega⟩
        obtain ⟨ds, dg, dt, dn, dm⟩ := d
        dsimp only at hi hr
        subst hi
        have e : ((i : Int) + 1 - 1).toNat = i := by omega
        dsimp only
        rw [e]
        exact do_free h L o hB ht s g f i dg dt dn dm d' (by omega) hc hw
      · rw [if_neg h5]
        have hk : k = 1 ∨ k = 2 ∨ k = 3 := by
          unfold St.can at hc
          dsimp only at hc
          by_cases hk : k = 1 ∨ k = 2 ∨ k = 3
          · exact hk
          · rw [if_neg hk, if_neg h4, if_neg h5] at hc
            cases hc
        cases hl : ({ t with steps := t.steps + 1 } : St).loc s g f with
        | some l => exact do_touch h L o hB ht k s g f d d' l hk hl hc hw
        | none =>
          exfalso
          unfold St.can at hc
          dsimp only at hc
          rw [if_pos hk, show t.loc s g f = none from hl] at hc
          cases hc
end
end Go.Proofs.YtkaplagbcnkflaaDoor
