/- Arguments that are operations, rows of replies; what the listed variables give. A template (fill.py). -/
import Derived.Test.YtihjklimcchkhaaDoorBase
import Derived.Test.YtihjklimcchkhaaDoorCa
import Derived.Deep.Slices
import Derived.Deep.Fields
namespace Go.Proofs.YtihjklimcchkhaaDoor.Co
open Go.RowKit Go.WideShapes Go.ChangeShapes Go.ChangeAt Go.WideMaps Go.WideElems Go.Joins Go.Deep
def LE : List (String × DataW Unit) := [("sexton/api.ErrArg", Rows.laid_sexton_api_ErrArg)]
theorem envE {W : World} (h : laidMetH Tryd.prog LE W) : ∃ a, Bd.HasArg W a := by
  rw [MakeChecks.laidMetH_plain _ _ _ (by kernel_rfl)] at h
  exact sent_cell (g := 0) h (by kernel_rfl) (by kernel_rfl)
/-- The heap that the door's own run leaves meets the condition. -/
theorem doorE_met (os : Os) (args : Array Value) : laidMetH Tryd.prog LE ((World.doorLaid Tryd.prog 400 os).forCall (fun _ _ => 0) ⟨#[], args, []⟩).memory := by
  rw [MakeChecks.laidMetH_plain _ _ _ (by kernel_rfl)]
  exact laidMet_of_run' 8 (by kernel_rfl) (by kernel_rfl)
theorem door_shaped (os : Os) (args : Array Value) : ((World.doorLaid Tryd.prog 400 os).forCall (fun _ _ => 0) ⟨#[], args, []⟩).Shaped Tryd.prog := World.shaped_of_RefB (by kernel_rfl) (by kernel_rfl)
theorem cells4 : Tryd.prog.cellsOf 4 = 1 := by kernel_rfl
theorem cellsW : Tryd.prog.cellsOf 37 = 5 := by kernel_rfl
theorem cellsR : Tryd.prog.cellsOf 44 = 6 := by kernel_rfl
section
variable {H : Type} {enc : TypeId × Value → H} {w : World} {base fuel : Nat} {sp : Nat → Bool} {held : Bool}
theorem word5 {c0 c1 c2 c3 c4 : Value} {y : DataW H × List MemPlace} (h : DataW.trod enc Tryd.prog w base sp held fuel 37 [c0, c1, c2, c3, c4] = some y) :
    ∃ d : Wd, c0 = .int .i64 d.slot ∧ c1 = .int .i64 d.gen ∧ c2 = .int .i64 d.tag ∧ c3 = .int .i64 d.num ∧ c4 = .bool d.mark := by
  obtain ⟨xs, n, _, _, _, hlen, hg⟩ := DataW.trod_struct Tryd.underlying37 h
  have g0 := hg 0 _ rfl
  have g1 := hg 1 _ rfl
  have g2 := hg 2 _ rfl
  have g3 := hg 3 _ rfl
  have g4 := hg 4 _ rfl
  match xs, hlen with
  | [y0, y1, y2, y3, y4], _ =>
    obtain ⟨a0, rfl⟩ := one_int (v := c0) (by simpa [Value.cells, cells3] using g0)
    obtain ⟨a1, rfl⟩ := one_int (v := c1) (by simpa [Value.cells, cells3] using g1)
    obtain ⟨a2, rfl⟩ := one_int (v := c2) (by simpa [Value.cells, cells3] using g2)
    obtain ⟨a3, rfl⟩ := one_int (v := c3) (by simpa [Value.cells, cells3] using g3)
    obtain ⟨a4, rfl⟩ := one_bool (v := c4) (by simpa [Value.cells, cells4] using g4)
    exact ⟨⟨a0, a1, a2, a3, a4⟩, rfl, rfl, rfl, rfl, rfl⟩
set_option maxRecDepth 100000 in
theorem rep6_of {cs : List Value} (hl : cs.length = 6) {y : DataW H × List MemPlace} (h : DataW.trod enc Tryd.prog w base sp held fuel 44 cs = some y) : ∃ a : Wd × Bool, cs = rpc a := by
  match cs, hl with
  | [c0, c1, c2, c3, c4, c5], _ =>
    obtain ⟨xs, n, _, _, _, hlen, hg⟩ := DataW.trod_struct Tryd.underlying44 h
    have g0 := hg 0 _ rfl
    have g1 := hg 1 _ rfl
    match xs, hlen with
    | [y0, y1], _ =>
      obtain ⟨d, rfl, rfl, rfl, rfl, rfl⟩ := word5 (c0 := c0) (c1 := c1) (c2 := c2) (c3 := c3) (c4 := c4) (by simpa [Value.cells, cellsW] using g0)
      obtain ⟨a1, rfl⟩ := one_bool (v := c5) (by simpa [Value.cells, cells4] using g1)
      exact ⟨(d, a1), rfl⟩
set_option maxRecDepth 100000 in
/-- An argument of type api.Op. -/
theorem op_of {W : World} {v : Value} {d : DataW H} {p : List MemPlace} {b : Nat} (hv : Value.okWide Tryd.prog W .any b 23 v) (h : DataW.Trod enc Tryd.prog W 0 (fun _ => true) true 23 v d p) :
    ∃ o : Po, v = opv o := by
  obtain ⟨cs, rfl, hsz⟩ := okWide_struct Tryd.underlying23 hv
  have hC : Tryd.prog.cellsOf 23 = 4 := by kernel_rfl
  obtain ⟨l⟩ := cs
  match l, hsz.trans hC with
  | [c0, c1, c2, c3], _ =>
    obtain ⟨fuel, hf⟩ := h
    obtain ⟨xs, n, _, hx, _, hlen, hg⟩ := DataW.trod_struct Tryd.underlying23 hf
    have e3 : Tryd.prog.cellsOf 3 = 1 := cells3
    have g0 := hg 0 _ rfl
    have g1 := hg 1 _ rfl
    have g2 := hg 2 _ rfl
    have g3 := hg 3 _ rfl
    match xs, hlen with
    | [y0, y1, y2, y3], _ =>
      obtain ⟨s, rfl⟩ := one_int (v := c0) (by simpa [Value.cells, e3] using g0)
      obtain ⟨g, rfl⟩ := one_int (v := c1) (by simpa [Value.cells, e3] using g1)
      obtain ⟨f, rfl⟩ := one_int (v := c2) (by simpa [Value.cells, e3] using g2)
      obtain ⟨i, rfl⟩ := one_int (v := c3) (by simpa [Value.cells, e3] using g3)
      exact ⟨⟨s, g, f, i⟩, rfl⟩
end
/-- The slice v reads as the list xs, each element by its cells. -/
def RowC {α : Type} (cells : α → List Value) (k : Nat) (w : World) (v : Value) (xs : List α) : Prop :=
  ((∃ ao cap, v = .slice ao 0 cap) ∧ xs = []) ∨ ∃ b off cap, v = .slice (some ⟨b, off, none⟩) xs.length cap ∧ b < w.heap.size ∧ xs.length ≤ cap ∧ ∀ i (h : i < xs.length), w.rangeAt b (off + i * k) (cells xs[i])
set_option maxRecDepth 100000 in
theorem row_of_cells {α : Type} {cells : α → List Value} {k : Nat} {t e : TypeId} (ht : Tryd.prog.underlying t = some (.slice e)) (hk : Tryd.prog.cellsOf e = k) (hk0 : 0 < k)
    {H : Type} {enc : TypeId × Value → H} (hcells : ∀ (W : World) fuel cs y, cs.length = k → DataW.trod enc Tryd.prog W 0 (fun _ => true) true fuel e cs = some y → ∃ a : α, cs = cells a)
    {W : World} {v : Value} {d : DataW H} {p : List MemPlace} {b : Nat} (hv : Value.okWide Tryd.prog W .any b t v) (h : DataW.Trod enc Tryd.prog W 0 (fun _ => true) true t v d p) : ∃ xs, RowC cells k W v xs := by
  obtain ⟨a0, l0, c0, rfl⟩ := okWide_slice ht hv
  obtain ⟨fuel, h⟩ := h
  rcases open_slice ht h with ⟨hcs, _⟩ | ⟨a, len, cap, m, n, D, Pl, hcs, hb, hl, hm, hmm, hx, hi⟩
  · simp [Value.cells] at hcs
    obtain ⟨rfl, rfl, rfl⟩ := hcs
    exact ⟨[], .inl ⟨⟨_, _, rfl⟩, rfl⟩⟩
  · simp [Value.cells] at hcs
    obtain ⟨rfl, rfl, rfl⟩ := hcs
    simp only [if_true] at hmm
    by_cases h0 : l0 = 0
    · subst h0
      exact ⟨[], .inl ⟨⟨_, _, rfl⟩, rfl⟩⟩
    · have key : ∀ i, i < l0 → ∃ al : α, ∀ j u, (cells al)[j]? = some u → W.cell? ((a.add (i * k)).add j) = some u := by
        intro i hil
        obtain ⟨cs', hc, ht'⟩ := hi i (by omega)
        rw [hk] at hc
        obtain ⟨_, hcl, hat⟩ := World.cells?_some hc
        obtain ⟨al, rfl⟩ := hcells W _ _ _ (by omega) ht'
        refine ⟨al, fun j u hu => ?_⟩
        have hj := (List.getElem?_eq_some_iff.1 hu).1
        rw [hat j (by omega)]
        exact hu
      have hsome : ∃ u, W.cell? ((a.add (0 * k)).add 0) = some u := by
        obtain ⟨cs', hc, ht'⟩ := hi 0 (by omega)
        rw [hk] at hc
        obtain ⟨_, hcl, hat⟩ := World.cells?_some hc
        exact ⟨cs'[0]'(by omega), by rw [hat 0 (by omega)]; exact List.getElem?_eq_getElem (by omega)⟩
      obtain ⟨u, hu⟩ := hsome
      have hsp := spot_none hu
      have hbl := lt_of_cell hu
      obtain ⟨bl, off, sp⟩ := a
      have e1 : ((⟨bl, off, sp⟩ : Addr).add (0 * k)).add 0 = ⟨bl, off, sp⟩ := by simp [Addr.add]
      rw [e1] at hsp hbl
      simp only at hsp hbl
      subst hsp
      have hch : ∃ f : Nat → α, ∀ i, i < l0 → ∀ j u, (cells (f i))[j]? = some u → W.cell? (((⟨bl, off, none⟩ : Addr).add (i * k)).add j) = some u := by
        obtain ⟨al0, _⟩ := key 0 (by omega)
        refine ⟨fun i => if hi : i < l0 then (key i hi).choose else al0, fun i hi => ?_⟩
        simp only [hi, dif_pos]
        exact (key i hi).choose_spec
      obtain ⟨f, hf⟩ := hch
      refine ⟨(List.range l0).map f, .inr ⟨bl, off, c0, by simp, hbl, by simp; exact hl, fun i hi j u hu => ?_⟩⟩
      have hi' : i < l0 := by simpa using hi
      have := hf i hi' j u (by simpa using hu)
      rw [Addr.add_mid, Addr.add_mid] at this
      exact this
set_option maxRecDepth 100000 in
theorem row_of_reps {H : Type} {enc : TypeId × Value → H} {W : World} {v : Value} {d : DataW H} {p : List MemPlace} {b : Nat} (hv : Value.okWide Tryd.prog W .any b 24 v) (h : DataW.Trod enc Tryd.prog W 0 (fun _ => true) true 24 v d p) : ∃ xs, RowC rpc 6 W v xs :=
  row_of_cells Tryd.underlying24 cellsR (by decide) (fun _ _ _ _ hl h => rep6_of hl h) hv h
theorem RowC.keep {α : Type} {cells : α → List Value} {k : Nat} {w w' : World} {v : Value} {xs : List α} (h : RowC cells k w v xs) (hb : Below w.heap.size w w') : RowC cells k w' v xs := by
  rcases h with h | ⟨b, off, cap, h1, h2, h3, h4⟩
  · exact .inl h
  · exact .inr ⟨b, off, cap, h1, Nat.lt_of_lt_of_le h2 hb.size, h3, fun i hi => range_block (h4 i hi) (hb.block b h2)⟩
theorem RowC.slice {α : Type} {cells : α → List Value} {k : Nat} {W : World} {v : Value} {xs : List α} (h : RowC cells k W v xs) : ∃ ao c, v = .slice ao xs.length c := by
  rcases h with ⟨⟨_, _, rfl⟩, rfl⟩ | ⟨b, off, cap, rfl, _⟩
  · exact ⟨_, _, rfl⟩
  · exact ⟨_, _, rfl⟩

end Go.Proofs.YtihjklimcchkhaaDoor.Co
