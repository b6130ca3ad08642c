/- Items: of no plot, and of an empty stack. A template (fill.py). -/
import Derived.Test.YtihjklimcchkhaaGreatDoorPB
import Derived.Test.YtihjklimcchkhaaGreatDoorFB
import Derived.LoopTactic
namespace Go.Proofs.YtihjklimcchkhaaGreatDoor
open Go.RowKit Go.Extern.Stop Go.Stop Go.Extern Go.Sort
theorem peek_p {w : World} {E : Flt → Addr} {B p bs bb : Nat} {t : St} (h : PlotAt w E B p bs bb t) (s g f : Int) :
    Calls Tryz.prog 20 #[.pointer (some ⟨p, 0, none⟩), .agg #[.int .i64 s, .int .i64 g, .int .i64 f]] w fun e w' => e = .returned (peekV (t.peek s g f)) ∧ Below w.heap.size w w' := by
  obtain ⟨⟨v, fv, h⟩, o, L⟩ := h
  exact peek_any h L o s g f
set_option maxRecDepth 100000 in
set_option maxHeartbeats 1000000 in
theorem Items_nil {w : World} {E : Flt → Addr} (L : Env w E) : Calls Tryz.prog 36 #[.pointer none] w fun e w' => (∃ T y, e = .returned (.tuple #[.slice none 0 0, .slice none 0 0, .iface T y])) ∧ Below w.heap.size w w' := by
  have c := L.nil
  have hz := lt_of_cell c
  clear L
  go_enter Tryz.func36, Tryz.ntmps36
  go_wp2_with fail
  refine (At_some 7 _ _ _).mono ?_
  rintro e w1 ⟨rfl, rfl⟩
  go_wp2
  exact bodyPost_ret (v := .tuple #[.slice none 0 0, .slice none 0 0, .iface 158 (.pointer (some ⟨w.heap.size, 0, none⟩))]) (by simp [results, Tryz.results36, go_sem]) rfl ⟨⟨_, _, rfl⟩, below_alloc (Below.refl _ _) _⟩
end Go.Proofs.YtihjklimcchkhaaGreatDoor
