/- What the listed variables give; arguments that are slices of words and of accesses; the world that is shown. A template (fill.py); LL is the row's own list. -/
import Derived.Test.YtkaplagbcnkflaaDoorBase
import Derived.Test.YtkaplagbcnkflaaDoorSeq
import Derived.Deep.Slices
import Derived.Deep.Fields
namespace Go.Proofs.YtkaplagbcnkflaaDoor
open Go.RowKit Go.WideShapes Go.ChangeShapes Go.ChangeAt Go.WideMaps Go.WideElems Go.Joins Go.Deep

def LL : List (String × DataW Unit) := [("errors.errorType", Rows.laid_errors_errorType), ("sexton/api.ErrArg", Rows.laid_sexton_api_ErrArg), ("sexton/api.ErrNil", Rows.laid_sexton_api_ErrNil), ("sexton/api.ErrFreed", Rows.laid_sexton_api_ErrFreed), ("sexton/api.ErrStale", Rows.laid_sexton_api_ErrStale), ("sexton/api.ErrTwice", Rows.laid_sexton_api_ErrTwice)]
def LS : List (String × DataW Unit) := [("sexton/api.ErrArg", Rows.laid_sexton_api_ErrArg), ("sexton/api.ErrNil", Rows.laid_sexton_api_ErrNil), ("sexton/api.ErrFreed", Rows.laid_sexton_api_ErrFreed), ("sexton/api.ErrStale", Rows.laid_sexton_api_ErrStale), ("sexton/api.ErrTwice", Rows.laid_sexton_api_ErrTwice)]
theorem et : Tryd.prog.globalNamed "errors.errorType" = some 5 := by kernel_rfl
theorem rt : (Tryd.prog.cutTypes.find? (·.1 == "internal/reflectlite.rtype")).map (·.2) = some 97 := by kernel_rfl
theorem tsize : Tryd.prog.types.size = (254 - 100) := by kernel_rfl
theorem oneRow : ((List.range (254 - 100)).filter fun t => Tryd.prog.rowNamed t [101, 114, 114, 111, 114]) = [27] := by kernel_rfl
theorem env_of {W : World} (h : laidMetH Tryd.prog LL W) : ∃ E, Env W E := by
  have h' : laidMet Tryd.prog LS W ∧ handlesMet Tryd.prog [("errors.errorType", Rows.laid_errors_errorType)] W := h
  obtain ⟨hL, hh⟩ := h'
  obtain ⟨a1, h1⟩ := sent_cell (g := 0) hL (by kernel_rfl) (by kernel_rfl)
  obtain ⟨a2, h2⟩ := sent_cell (g := 2) hL.tail (by kernel_rfl) (by kernel_rfl)
  obtain ⟨a3, h3⟩ := sent_cell (g := 3) hL.tail.tail (by kernel_rfl) (by kernel_rfl)
  obtain ⟨a4, h4⟩ := sent_cell (g := 1) hL.tail.tail.tail (by kernel_rfl) (by kernel_rfl)
  obtain ⟨a5, h5⟩ := sent_cell (g := 4) hL.tail.tail.tail.tail (by kernel_rfl) (by kernel_rfl)
  refine ⟨fun | .arg => a1 | .nil => a2 | .freed => a3 | .stale => a4 | .twice => a5, ⟨h1, h4, h2, h3, h5, ?_⟩⟩
  obtain ⟨name, u, ty, e1, e2, e3, e4, e5⟩ := hh _ (List.mem_singleton.2 rfl)
  have en : name = [101, 114, 114, 111, 114] := (Option.some.inj e1).symm
  subst en
  obtain rfl := Option.some.inj (rt.symm.trans e2)
  have hm : ty ∈ (List.range (254 - 100)).filter fun t => Tryd.prog.rowNamed t [101, 114, 114, 111, 114] := List.mem_filter.2 ⟨List.mem_range.2 (by rw [← tsize]; exact e3), e4⟩
  rw [oneRow] at hm
  obtain rfl := List.mem_singleton.1 hm
  have hh : typeHandle Tryd.prog 27 = .pointer (some ⟨6, 27, none⟩) := by kernel_rfl
  rw [hh] at e5
  show W.cell? _ = _
  simpa using World.var?_cell et e5 0

/-- The heap that the door's own run leaves meets the condition. -/
theorem door_met (os : Os) (args : Array Value) : laidMetH Tryd.prog LL ((World.doorLaid Tryd.prog 400 os).forCall (fun _ _ => 0) ⟨#[], args, []⟩).memory :=
  laidMetH_of_parts3 (fuel := 8) (laidMet_of_run' 8 (by kernel_rfl) (by kernel_rfl)) (by kernel_rfl) (by kernel_rfl)
theorem door_shaped (os : Os) (args : Array Value) : ((World.doorLaid Tryd.prog 400 os).forCall (fun _ _ => 0) ⟨#[], args, []⟩).Shaped Tryd.prog := World.shaped_of_RefB (by kernel_rfl) (by kernel_rfl)

/-! ### slices of words, of accesses -/
section
variable {H : Type} {enc : TypeId × Value → H} {w : World} {base fuel : Nat} {sp : Nat → Bool} {held : Bool}
theorem cells4 : Tryd.prog.cellsOf 4 = 1 := by kernel_rfl
theorem cellsW : Tryd.prog.cellsOf 35 = 5 := by kernel_rfl
theorem cellsA : Tryd.prog.cellsOf 33 = 3 := by kernel_rfl
theorem cellsX : Tryd.prog.cellsOf 37 = 14 := by kernel_rfl
theorem word5 {c0 c1 c2 c3 c4 : Value} {y : DataW H × List MemPlace} (h : DataW.trod enc Tryd.prog w base sp held fuel 35 [c0, c1, c2, c3, c4] = some y) :
    ∃ d : Wd, c0 = .int .i64 d.slot ∧ c1 = .int .i64 d.gen ∧ c2 = .int .i64 d.tag ∧ c3 = .int .i64 d.num ∧ c4 = .bool d.mark := by
  obtain ⟨xs, n, _, _, _, hlen, hg⟩ := DataW.trod_struct Tryd.underlying35 h
  have g0 := hg 0 _ rfl
  have g1 := hg 1 _ rfl
  have g2 := hg 2 _ rfl
  have g3 := hg 3 _ rfl
  have g4 := hg 4 _ rfl
  match xs, hlen with
  | [y0, y1, y2, y3, y4], _ =>
    obtain ⟨a0, rfl⟩ := one_int (v := c0) (by simpa [Value.cells, cells3] using g0)
    obtain ⟨a1, rfl⟩ := one_int (v := c1) (by simpa [Value.cells, cells3] using g1)
    obtain ⟨a2, rfl⟩ := one_int (v := c2) (by simpa [Value.cells, cells3] using g2)
    obtain ⟨a3, rfl⟩ := one_int (v := c3) (by simpa [Value.cells, cells3] using g3)
    obtain ⟨a4, rfl⟩ := one_bool (v := c4) (by simpa [Value.cells, cells4] using g4)
    exact ⟨⟨a0, a1, a2, a3, a4⟩, rfl, rfl, rfl, rfl, rfl⟩
theorem addr3 {c0 c1 c2 : Value} {y : DataW H × List MemPlace} (h : DataW.trod enc Tryd.prog w base sp held fuel 33 [c0, c1, c2] = some y) :
    ∃ s g f : Int, c0 = .int .i64 s ∧ c1 = .int .i64 g ∧ c2 = .int .i64 f := by
  obtain ⟨xs, n, _, _, _, hlen, hg⟩ := DataW.trod_struct Tryd.underlying33 h
  have g0 := hg 0 _ rfl
  have g1 := hg 1 _ rfl
  have g2 := hg 2 _ rfl
  match xs, hlen with
  | [y0, y1, y2], _ =>
    obtain ⟨a0, rfl⟩ := one_int (v := c0) (by simpa [Value.cells, cells3] using g0)
    obtain ⟨a1, rfl⟩ := one_int (v := c1) (by simpa [Value.cells, cells3] using g1)
    obtain ⟨a2, rfl⟩ := one_int (v := c2) (by simpa [Value.cells, cells3] using g2)
    exact ⟨a0, a1, a2, rfl, rfl, rfl⟩
theorem uncons {α : Type} {l : List α} {n : Nat} (h : l.length = n + 1) : ∃ a r, l = a :: r ∧ r.length = n := by
  cases l with
  | nil => cases h
  | cons a r => exact ⟨a, r, rfl, Nat.succ.inj h⟩
set_option maxRecDepth 100000 in
theorem acc14 {cs : List Value} (hl : cs.length = 14) {y : DataW H × List MemPlace} (h : DataW.trod enc Tryd.prog w base sp held fuel 37 cs = some y) : ∃ a : Ac, cs = (acs a).toList := by
  obtain ⟨c0, r0, rfl, l0⟩ := uncons hl
  obtain ⟨c1, r1, rfl, l1⟩ := uncons l0
  obtain ⟨c2, r2, rfl, l2⟩ := uncons l1
  obtain ⟨c3, r3, rfl, l3⟩ := uncons l2
  obtain ⟨c4, r4, rfl, l4⟩ := uncons l3
  obtain ⟨c5, r5, rfl, l5⟩ := uncons l4
  obtain ⟨c6, r6, rfl, l6⟩ := uncons l5
  obtain ⟨c7, r7, rfl, l7⟩ := uncons l6
  obtain ⟨c8, r8, rfl, l8⟩ := uncons l7
  obtain ⟨c9, r9, rfl, l9⟩ := uncons l8
  obtain ⟨c10, r10, rfl, l10⟩ := uncons l9
  obtain ⟨c11, r11, rfl, l11⟩ := uncons l10
  obtain ⟨c12, r12, rfl, l12⟩ := uncons l11
  obtain ⟨c13, r13, rfl, l13⟩ := uncons l12
  obtain rfl := List.eq_nil_of_length_eq_zero l13
  clear hl l0 l1 l2 l3 l4 l5 l6 l7 l8 l9 l10 l11 l12 l13
  obtain ⟨xs, n, _, _, _, hlen, hg⟩ := DataW.trod_struct Tryd.underlying37 h
  have g0 := hg 0 _ rfl
  have g1 := hg 1 _ rfl
  have g2 := hg 2 _ rfl
  have g3 := hg 3 _ rfl
  match xs, hlen with
  | [y0, y1, y2, y3], _ =>
    obtain ⟨a0, rfl⟩ := one_int (v := c0) (by simpa [Value.cells, cells3] using g0)
    obtain ⟨s, g, f, rfl, rfl, rfl⟩ := addr3 (c0 := c1) (c1 := c2) (c2 := c3) (by simpa [Value.cells, cellsA] using g1)
    obtain ⟨d, rfl, rfl, rfl, rfl, rfl⟩ := word5 (c0 := c4) (c1 := c5) (c2 := c6) (c3 := c7) (c4 := c8) (by simpa [Value.cells, cellsW] using g2)
    obtain ⟨d', rfl, rfl, rfl, rfl, rfl⟩ := word5 (c0 := c9) (c1 := c10) (c2 := c11) (c3 := c12) (c4 := c13) (by simpa [Value.cells, cellsW] using g3)
    exact ⟨⟨a0, s, g, f, d, d'⟩, rfl⟩
end
/-- The slice v reads as the list xs, each element by its cells. -/
def RowC {α : Type} (cells : α → List Value) (k : Nat) (w : World) (v : Value) (xs : List α) : Prop :=
  ((∃ ao cap, v = .slice ao 0 cap) ∧ xs = []) ∨ ∃ b off cap, v = .slice (some ⟨b, off, none⟩) xs.length cap ∧ b < w.heap.size ∧ xs.length ≤ cap ∧ ∀ i (h : i < xs.length), w.rangeAt b (off + i * k) (cells xs[i])
set_option maxRecDepth 100000 in
theorem row_of_cells {α : Type} {cells : α → List Value} {k : Nat} {t e : TypeId} (ht : Tryd.prog.underlying t = some (.slice e)) (hk : Tryd.prog.cellsOf e = k) (hk0 : 0 < k)
    {H : Type} {enc : TypeId × Value → H} (hcells : ∀ (W : World) fuel cs y, cs.length = k → DataW.trod enc Tryd.prog W 0 (fun _ => true) true fuel e cs = some y → ∃ a : α, cs = cells a)
    {W : World} {v : Value} {d : DataW H} {p : List MemPlace} {b : Nat} (hv : Value.okWide Tryd.prog W .any b t v) (h : DataW.Trod enc Tryd.prog W 0 (fun _ => true) true t v d p) : ∃ xs, RowC cells k W v xs := by
  obtain ⟨a0, l0, c0, rfl⟩ := okWide_slice ht hv
  obtain ⟨fuel, h⟩ := h
  rcases open_slice ht h with ⟨hcs, _⟩ | ⟨a, len, cap, m, n, D, Pl, hcs, hb, hl, hm, hmm, hx, hi⟩
  · simp [Value.cells] at hcs
    obtain ⟨rfl, rfl, rfl⟩ := hcs
    exact ⟨[], .inl ⟨⟨_, _, rfl⟩, rfl⟩⟩
  · simp [Value.cells] at hcs
    obtain ⟨rfl, rfl, rfl⟩ := hcs
    simp only [if_true] at hmm
    by_cases h0 : l0 = 0
    · subst h0
      exact ⟨[], .inl ⟨⟨_, _, rfl⟩, rfl⟩⟩
    · have key : ∀ i, i < l0 → ∃ al : α, ∀ j u, (cells al)[j]? = some u → W.cell? ((a.add (i * k)).add j) = some u := by
        intro i hil
        obtain ⟨cs', hc, ht'⟩ := hi i (by omega)
        rw [hk] at hc
        obtain ⟨_, hcl, hat⟩ := World.cells?_some hc
        obtain ⟨al, rfl⟩ := hcells W _ _ _ (by omega) ht'
        refine ⟨al, fun j u hu => ?_⟩
        have hj := (List.getElem?_eq_some_iff.1 hu).1
        rw [hat j (by omega)]
        exact hu
      have hsome : ∃ u, W.cell? ((a.add (0 * k)).add 0) = some u := by
        obtain ⟨cs', hc, ht'⟩ := hi 0 (by omega)
        rw [hk] at hc
        obtain ⟨_, hcl, hat⟩ := World.cells?_some hc
        exact ⟨cs'[0]'(by omega), by rw [hat 0 (by omega)]; exact List.getElem?_eq_getElem (by omega)⟩
      obtain ⟨u, hu⟩ := hsome
      have hsp := spot_none hu
      have hbl := lt_of_cell hu
      obtain ⟨bl, off, sp⟩ := a
      have e1 : ((⟨bl, off, sp⟩ : Addr).add (0 * k)).add 0 = ⟨bl, off, sp⟩ := by simp [Addr.add]
      rw [e1] at hsp hbl
      simp only at hsp hbl
      subst hsp
      have hch : ∃ f : Nat → α, ∀ i, i < l0 → ∀ j u, (cells (f i))[j]? = some u → W.cell? (((⟨bl, off, none⟩ : Addr).add (i * k)).add j) = some u := by
        obtain ⟨al0, _⟩ := key 0 (by omega)
        refine ⟨fun i => if hi : i < l0 then (key i hi).choose else al0, fun i hi => ?_⟩
        simp only [hi, dif_pos]
        exact (key i hi).choose_spec
      obtain ⟨f, hf⟩ := hch
      refine ⟨(List.range l0).map f, .inr ⟨bl, off, c0, by simp, hbl, by simp; exact hl, fun i hi j u hu => ?_⟩⟩
      have hi' : i < l0 := by simpa using hi
      have := hf i hi' j u (by simpa using hu)
      rw [Addr.add_mid, Addr.add_mid] at this
      exact this
set_option maxRecDepth 100000 in
theorem row_of_words {H : Type} {enc : TypeId × Value → H} {W : World} {v : Value} {d : DataW H} {p : List MemPlace} {b : Nat} (hv : Value.okWide Tryd.prog W .any b 30 v) (h : DataW.Trod enc Tryd.prog W 0 (fun _ => true) true 30 v d p) : ∃ xs, RowC wc 5 W v xs :=
  row_of_cells Tryd.underlying30 cellsW (by decide) (fun _ _ cs _ hl ht => by
    match cs, hl with
    | [c0, c1, c2, c3, c4], _ =>
      obtain ⟨d, rfl, rfl, rfl, rfl, rfl⟩ := word5 ht
      exact ⟨d, rfl⟩) hv h
set_option maxRecDepth 100000 in
theorem row_of_accs {H : Type} {enc : TypeId × Value → H} {W : World} {v : Value} {d : DataW H} {p : List MemPlace} {b : Nat} (hv : Value.okWide Tryd.prog W .any b 22 v) (h : DataW.Trod enc Tryd.prog W 0 (fun _ => true) true 22 v d p) : ∃ xs, RowC (fun a => (acs a).toList) 14 W v xs :=
  row_of_cells Tryd.underlying22 cellsX (by decide) (fun _ _ _ _ hl ht => acc14 hl ht) hv h
theorem RowC.keep {α : Type} {cells : α → List Value} {k : Nat} {w w' : World} {v : Value} {xs : List α} (h : RowC cells k w v xs) (hb : Below w.heap.size w w') : RowC cells k w' v xs := by
  rcases h with h | ⟨b, off, cap, h1, h2, h3, h4⟩
  · exact .inl h
  · exact .inr ⟨b, off, cap, h1, Nat.lt_of_lt_of_le h2 hb.size, h3, fun i hi => range_block (h4 i hi) (hb.block b h2)⟩
theorem RowC.slice {α : Type} {cells : α → List Value} {k : Nat} {W : World} {v : Value} {xs : List α} (h : RowC cells k W v xs) : ∃ ao c, v = .slice ao xs.length c := by
  rcases h with ⟨⟨_, _, rfl⟩, rfl⟩ | ⟨b, off, cap, rfl, _⟩
  · exact ⟨_, _, rfl⟩
  · exact ⟨_, _, rfl⟩
end Go.Proofs.YtkaplagbcnkflaaDoor
