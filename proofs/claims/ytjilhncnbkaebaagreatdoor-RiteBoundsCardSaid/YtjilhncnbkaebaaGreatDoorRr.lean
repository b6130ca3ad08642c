/- The awake law of rite's seat: a Protect by Hazard, access by access; New that refuses. A template (fill.py). -/
import Derived.Test.YtjilhncnbkaebaaGreatDoorRq
import Derived.Deep.DrawnRows
namespace Go.Proofs.YtjilhncnbkaebaaGreatDoor
open Go.RowKit Go.Extern.Stop Go.Stop Go.Extern Go.Sort
section
variable {w : World} {B r : Nat} {sv fv nv : Value} {m m' : Rt} {K : Nat → Prop}
/-- A contract of the own block alone, with the rows beside it. -/
theorem lift_same {F : Nat} {args : Array Value} (h : RiteP w B r sv fv nv m K) (L : Calls Tryz.prog F args w (Leaf w r sv fv nv m')) (hs : m'.st.said = m.st.said) (hf : m'.st.free = m.st.free) (hn : m'.notes = m.notes) : Calls Tryz.prog F args w (RPost w B r K m') :=
  L.mono fun _ _ ⟨he, h1, h2⟩ => ⟨he, Lib.hid (h.step_only h1.out h2.out (.inl ⟨rfl, hs⟩) (.inl ⟨rfl, hf⟩) hn)⟩
theorem lift_nil {F : Nat} {args : Array Value} (h : RiteP w B r sv fv nv m K) (L : Calls Tryz.prog F args w (Leaf w r nilS nilS nv m')) (hs : m'.st.said = []) (hf : m'.st.free = []) (hn : m'.notes = m.notes) : Calls Tryz.prog F args w (RPost w B r K m') :=
  L.mono fun _ _ ⟨he, h1, h2⟩ => ⟨he, Lib.hid (h.step_only h1.out h2.out (.inr ⟨rfl, hs⟩) (.inr ⟨rfl, hf⟩) hn)⟩
def aRoot : Cl := { zc with kind := 6, i := 1 }
def aW : Wd := ⟨3, 1, 5, 0, false⟩
def a0 : Rt := Rt.new 2 0 2 3
def a1 : Rt := Rt.load { a0 with st := a0.st.begin_ aRoot } (0, 0, 0) 1
def a2 : Rt := (a1.see aW).say 1 aW.ref
def a3 : Rt := a2.load (0, 0, 0) 1
def a4 : Rt := (a3.see aW).end_ (aW, true)
theorem a_begin (h : RiteP w B r sv fv nv a0 K) : Calls Tryz.prog 16 #[.pointer (some ⟨r, 0, none⟩), clv aRoot] w (EPost w B r K a1) :=
  Begin_is h rfl aRoot (.inl ⟨rfl, by decide, by decide, by decide, by decide⟩) fun _ h' =>
    goOn_protect h' (zw, false) rfl fun _ h2 => lift_same h2 (protect_load h2.at_ (zw, false) (.inl rfl)) rfl rfl rfl
theorem a_took1 (h : RiteP w B r sv fv nv a1 K) : Calls Tryz.prog 26 #[.pointer (some ⟨r, 0, none⟩), rpv (aW, true)] w (EPost w B r K a2) :=
  Took_is h rfl (aW, true) fun _ h' => goOn_protect h' (aW, true) rfl fun _ h2 => lift_same h2 (protect_see h2.at_ (aW, true) rfl rfl sv fv nv a2 fun _ h3 =>
    keep_haz_say h3 rfl 1 (by decide) rfl (by decide) (by decide) (by decide) _) rfl rfl rfl
theorem a_took2 (h : RiteP w B r sv fv nv a2 K) : Calls Tryz.prog 26 #[.pointer (some ⟨r, 0, none⟩), rpv (zw, true)] w (EPost w B r K a3) :=
  Took_is h rfl (zw, true) fun _ h' => goOn_protect h' (zw, true) rfl fun _ h2 => lift_same h2 (protect_load h2.at_ (zw, true) (.inr rfl)) rfl rfl rfl
theorem a_took3 (h : RiteP w B r sv fv nv a3 K) : Calls Tryz.prog 26 #[.pointer (some ⟨r, 0, none⟩), rpv (aW, true)] w (EPost w B r K a4) :=
  Took_is h rfl (aW, true) fun _ h' => goOn_protect h' (aW, true) rfl fun _ h2 => lift_nil h2 (protect_see h2.at_ (aW, true) rfl rfl nilS nilS nv a4 fun _ h3 =>
    keep_haz_same h3 rfl 1 (by decide) rfl (by decide) (by decide) _) rfl rfl rfl
theorem New_no (w : World) (a : Addr) (L : Bd.HasArg w a) : Calls Tryz.prog 23 #[.int .i64 6, .int .i64 0, .int .i64 1, .int .i64 1] w fun e w' => ∃ u, e = .returned (.tuple #[.pointer none, u]) ∧ Ch w' (.iface 241 (.pointer (some a))) [6] u ∧ Below w.heap.size w w' := by
  unfold Bd.HasArg at L
  have hz := lt_of_cell L
  go_enter Tryz.func23, Tryz.ntmps23
  go_wp2_with fail
  refine (within_is _ _ _ _).mono ?_
  rintro e w1 ⟨rfl, rfl⟩
  rw [show (decide ((1 : Int) ≤ 6) && decide ((6 : Int) ≤ 5)) = false from rfl]
  go_wp2_with fail
  refine (At_some 6 _ _ _).mono ?_
  rintro e w1 ⟨rfl, rfl⟩
  go_wp2
  go_ret2
  exact ⟨_, rfl, Ch.push 6 Ch.base, below_alloc (Below.refl _ _) _⟩
end
end Go.Proofs.YtjilhncnbkaebaaGreatDoor
