/- What every law of this seat shares beside its walk: the arguments, a law's end. A template (fill.py). -/
import Derived.Test.YtlhhjbjdinimjaaSx
import Derived.Test.YtlhhjbjdinimjaaRows
import Derived.ProofKit
import Derived.OpenShut
import Derived.ChangeSame
import Derived.Carry
import Derived.Handed
import Derived.Lib.SmallJoins
import Derived.Deep.Slices
import Derived.Deep.Fields
namespace Go.Proofs.Ytlhhjbjdinimjaa
open Go.RowKit Go.WideShapes Go.ChangeShapes Go.ChangeAt Go.WideMaps Go.WideElems Go.Joins Go.Deep

theorem own : ownKnob Try.prog.godebug = none := by kernel_rfl
theorem laidOut' : laidOutB Try.prog = true := by kernel_rfl

section
variable {H : Type} {enc : TypeId × Value → H} {P : Program}
theorem trodAll_stays (hl : laidOutB P = true) {W W' : World} (hb : Below W.heap.size W W') : ∀ (ts : List TypeId) (vs : List Value) (ds : List (DataW H)) (ps : List MemPlace),
    (∀ t ∈ ts, P.readableRec t = true ∧ t < P.types.size) → DataW.TrodAll enc P W 0 (fun _ => true) true ts vs ds ps → (∀ x ∈ ps, x.block < W.heap.size) → ∀ sp : Nat → Bool, (∀ x ∈ ps, sp x.block = true) → DataW.TrodAll enc P W' 0 sp true ts vs ds ps
  | [], [], [], _, _, h, _, _, _ => h
  | t :: ts, v :: vs, d :: ds, ps, ht, h, hlt, sp, hsp => by
    obtain ⟨p, q, h1, h2, rfl⟩ := h
    exact ⟨p, q, WideElems.Trod_stays hl (ht t (List.mem_cons_self ..)).1 (ht t (List.mem_cons_self ..)).2 h1 (fun x hx => hb.same (hlt x (List.mem_append_left _ hx))) (fun x hx => hsp x (List.mem_append_left _ hx)),
      trodAll_stays hl hb ts vs ds q (fun t ht' => ht t (List.mem_cons_of_mem _ ht')) h2 (fun x hx => hlt x (List.mem_append_right _ hx)) sp (fun x hx => hsp x (List.mem_append_right _ hx)), rfl⟩

/-- A law's end: true, the arguments as they were, nothing that was there turned. -/
theorem law_post (hl : laidOutB P = true) {f : Func} {s : ChangeSpec} {W W' : World} {args : Array Value} {ds : List (DataW H)} {before : List MemPlace} {tb : TypeId} (hr : f.resultTypes = #[tb]) (htb : P.underlying tb = some .bool)
    (ht : ∀ t ∈ f.params.toList, P.readableRec t = true ∧ t < P.types.size) (hvars : s.vars = [])
    (hW : DataW.Whole enc P f.params.toList s.vars false W args.toList ds [] before)
    (hfn : s.fn H ds = { results := [.lit (.bool true)], args := ds }) (hb : Below W.heap.size W W') :
    s.post enc P f false true false false W args (.bool true) W' := by
  have hlt : ∀ p ∈ before, p.block < W.heap.size := fun p hp => hW.lt p hp
  have hW' := hW
  obtain ⟨pa, pv, hA, hV, e, hz, _⟩ := hW'
  rw [hvars] at hV
  have ev : pv = [] := hV
  have eb : before = pa := by rw [e, ev, List.append_nil]
  rw [← eb] at hA
  have hres : ∀ (b : Nat) (sp : Nat → Bool) (hd : Bool), DataW.TrodAll enc P W' b sp hd f.resultTypes.toList ((Value.bool true).resultList f.resultTypes.size) [.lit (.bool true)] [] := fun b sp hd => by
    rw [hr]; exact trodAll_mk1 (shut_bool htb true)
  have hargs : ∀ sp : Nat → Bool, (∀ x ∈ before, sp x.block = true) → DataW.TrodAll enc P W' 0 sp true f.params.toList args.toList ds before := trodAll_stays hl hb _ _ _ _ ht hA hlt
  have e1 : s.fn H (ds ++ []) = { results := [.lit (.bool true)], args := ds } := by rw [List.append_nil]; exact hfn
  refine ⟨ds, [], before, [], before, [], hW, ?_, ?_, ?_, ?_, fun h => ?_⟩
  · rw [e1]; exact hres _ _ _
  · rw [e1]; exact hargs _ (fun x hx => by simpa using hlt x hx)
  · rw [e1, hvars]; rfl
  · exact World.keptBut_mono (fun p hp => ⟨hp, .inr (.inl hp)⟩) (hb.frame (· ∈ before))
  · cases h
end
theorem spot_none {W : World} {a : Addr} {v : Value} (h : W.cell? a = some v) : a.spot = none := by
  unfold World.cell? at h
  split at h
  · split at h
    · cases h
    · cases hs : a.spot with
      | none => rfl
      | some x => simp_all
  · cases h


theorem cells3 : Try.prog.cellsOf 3 = 1 := by kernel_rfl
theorem cells4 : Try.prog.cellsOf 4 = 1 := by kernel_rfl
theorem one_int {H : Type} {enc : TypeId × Value → H} {w : World} {base fuel : Nat} {sp : Nat → Bool} {held : Bool} {v : Value} {y : DataW H × List MemPlace} (h : DataW.trod enc Try.prog w base sp held fuel 3 [v] = some y) : ∃ n : Int, v = .int .i64 n := by
  obtain ⟨z, h1, _⟩ := DataW.trod_int Try.underlying3 h
  exact ⟨z, List.head_eq_of_cons_eq h1⟩
theorem one_bool {H : Type} {enc : TypeId × Value → H} {w : World} {base fuel : Nat} {sp : Nat → Bool} {held : Bool} {v : Value} {y : DataW H × List MemPlace} (h : DataW.trod enc Try.prog w base sp held fuel 4 [v] = some y) : ∃ b : Bool, v = .bool b := by
  obtain ⟨b, h1, _⟩ := DataW.trod_bool Try.underlying4 h
  exact ⟨b, List.head_eq_of_cons_eq h1⟩
section
variable {H : Type} {enc : TypeId × Value → H} {w : World} {base fuel : Nat} {sp : Nat → Bool} {held : Bool}
theorem cellsW : Try.prog.cellsOf 37 = 5 := by kernel_rfl
theorem cellsN : Try.prog.cellsOf 39 = 7 := by kernel_rfl
theorem cellsP : Try.prog.cellsOf 41 = 3 := by kernel_rfl
theorem cellsK : Try.prog.cellsOf 27 = 4 := by kernel_rfl
theorem cellsS1 : Try.prog.cellsOf 23 = 1 := by kernel_rfl
theorem cellsS2 : Try.prog.cellsOf 24 = 1 := by kernel_rfl
theorem cellsS3 : Try.prog.cellsOf 25 = 1 := by kernel_rfl
theorem word5 {c0 c1 c2 c3 c4 : Value} {y : DataW H × List MemPlace} (h : DataW.trod enc Try.prog w base sp held fuel 37 [c0, c1, c2, c3, c4] = some y) :
    ∃ d : Wd, c0 = .int .i64 d.slot ∧ c1 = .int .i64 d.gen ∧ c2 = .int .i64 d.tag ∧ c3 = .int .i64 d.num ∧ c4 = .bool d.mark := by
  obtain ⟨xs, n, _, _, _, hlen, hg⟩ := DataW.trod_struct Try.underlying37 h
  have g0 := hg 0 _ rfl
  have g1 := hg 1 _ rfl
  have g2 := hg 2 _ rfl
  have g3 := hg 3 _ rfl
  have g4 := hg 4 _ rfl
  match xs, hlen with
  | [y0, y1, y2, y3, y4], _ =>
    obtain ⟨a0, rfl⟩ := one_int (v := c0) (by simpa [Value.cells, cells3] using g0)
    obtain ⟨a1, rfl⟩ := one_int (v := c1) (by simpa [Value.cells, cells3] using g1)
    obtain ⟨a2, rfl⟩ := one_int (v := c2) (by simpa [Value.cells, cells3] using g2)
    obtain ⟨a3, rfl⟩ := one_int (v := c3) (by simpa [Value.cells, cells3] using g3)
    obtain ⟨a4, rfl⟩ := one_bool (v := c4) (by simpa [Value.cells, cells4] using g4)
    exact ⟨⟨a0, a1, a2, a3, a4⟩, rfl, rfl, rfl, rfl, rfl⟩

theorem note7 {c0 c1 c2 c3 c4 c5 c6 : Value} {y : DataW H × List MemPlace} (h : DataW.trod enc Try.prog w base sp held fuel 39 [c0, c1, c2, c3, c4, c5, c6] = some y) : ∃ n : Nt, [c0, c1, c2, c3, c4, c5, c6] = nc n := by
  obtain ⟨xs, n, _, _, _, hlen, hg⟩ := DataW.trod_struct Try.underlying39 h
  have g0 := hg 0 _ rfl
  have g1 := hg 1 _ rfl
  have g2 := hg 2 _ rfl
  match xs, hlen with
  | [y0, y1, y2], _ =>
    obtain ⟨d, rfl, rfl, rfl, rfl, rfl⟩ := word5 (c0 := c0) (c1 := c1) (c2 := c2) (c3 := c3) (c4 := c4) (by simpa [Value.cells, cellsW] using g0)
    obtain ⟨b, rfl⟩ := one_int (v := c5) (by simpa [Value.cells, cells3] using g1)
    obtain ⟨t, rfl⟩ := one_int (v := c6) (by simpa [Value.cells, cells3] using g2)
    exact ⟨⟨d, b, t⟩, rfl⟩
theorem span3 {c0 c1 c2 : Value} {y : DataW H × List MemPlace} (h : DataW.trod enc Try.prog w base sp held fuel 41 [c0, c1, c2] = some y) : ∃ s : Sp, [c0, c1, c2] = sc s := by
  obtain ⟨xs, n, _, _, _, hlen, hg⟩ := DataW.trod_struct Try.underlying41 h
  have g0 := hg 0 _ rfl
  have g1 := hg 1 _ rfl
  have g2 := hg 2 _ rfl
  match xs, hlen with
  | [y0, y1, y2], _ =>
    obtain ⟨a0, rfl⟩ := one_bool (v := c0) (by simpa [Value.cells, cells4] using g0)
    obtain ⟨a1, rfl⟩ := one_int (v := c1) (by simpa [Value.cells, cells3] using g1)
    obtain ⟨a2, rfl⟩ := one_int (v := c2) (by simpa [Value.cells, cells3] using g2)
    exact ⟨⟨a0, a1, a2⟩, rfl⟩
end
set_option maxRecDepth 100000 in
theorem row_of_trod {α : Type} {cells : α → List Value} {k : Nat} {t e : TypeId} (ht : Try.prog.underlying t = some (.slice e)) (hk : Try.prog.cellsOf e = k) (hk0 : 0 < k)
    {H : Type} {enc : TypeId × Value → H} (hcells : ∀ (W : World) fuel cs y, cs.length = k → DataW.trod enc Try.prog W 0 (fun _ => true) true fuel e cs = some y → ∃ a : α, cs = cells a)
    {W : World} {v : Value} {fuel : Nat} {y : DataW H × List MemPlace} (h : DataW.trod enc Try.prog W 0 (fun _ => true) true fuel t [v] = some y) : ∃ xs, RowC cells k W v xs := by
  rcases open_slice ht h with ⟨hcs, _⟩ | ⟨a, len, cap, m, n, D, Pl, hcs, hb, hl, hm, hmm, hx, hi⟩
  · obtain rfl : v = .slice none 0 0 := by simpa using hcs
    exact ⟨[], .inl ⟨⟨_, _, rfl⟩, rfl⟩⟩
  · obtain rfl : v = .slice (some a) len cap := by simpa using hcs
    simp only [if_true] at hmm
    by_cases h0 : len = 0
    · subst h0
      exact ⟨[], .inl ⟨⟨_, _, rfl⟩, rfl⟩⟩
    · have key : ∀ i, i < len → ∃ al : α, ∀ j u, (cells al)[j]? = some u → W.cell? ((a.add (i * k)).add j) = some u := by
        intro i hil
        obtain ⟨cs', hc, ht'⟩ := hi i (by omega)
        rw [hk] at hc
        obtain ⟨_, hcl, hat⟩ := World.cells?_some hc
        obtain ⟨al, rfl⟩ := hcells W _ _ _ (by omega) ht'
        refine ⟨al, fun j u hu => ?_⟩
        have hj := (List.getElem?_eq_some_iff.1 hu).1
        rw [hat j (by omega)]
        exact hu
      have hsome : ∃ u, W.cell? ((a.add (0 * k)).add 0) = some u := by
        obtain ⟨cs', hc, ht'⟩ := hi 0 (by omega)
        rw [hk] at hc
        obtain ⟨_, hcl, hat⟩ := World.cells?_some hc
        exact ⟨cs'[0]'(by omega), by rw [hat 0 (by omega)]; exact List.getElem?_eq_getElem (by omega)⟩
      obtain ⟨u, hu⟩ := hsome
      have hsp := spot_none hu
      have hbl := lt_of_cell hu
      obtain ⟨bl, off, sp⟩ := a
      have e1 : ((⟨bl, off, sp⟩ : Addr).add (0 * k)).add 0 = ⟨bl, off, sp⟩ := by simp [Addr.add]
      rw [e1] at hsp hbl
      simp only at hsp hbl
      subst hsp
      have hch : ∃ f : Nat → α, ∀ i, i < len → ∀ j u, (cells (f i))[j]? = some u → W.cell? (((⟨bl, off, none⟩ : Addr).add (i * k)).add j) = some u := by
        obtain ⟨al0, _⟩ := key 0 (by omega)
        refine ⟨fun i => if hi : i < len then (key i hi).choose else al0, fun i hi => ?_⟩
        simp only [hi, dif_pos]
        exact (key i hi).choose_spec
      obtain ⟨f, hf⟩ := hch
      refine ⟨(List.range len).map f, .inr ⟨bl, off, cap, by simp, hbl, by simp; exact hl, fun i hi j u hu => ?_⟩⟩
      have hi' : i < len := by simpa using hi
      have := hf i hi' j u (by simpa using hu)
      rw [Addr.add_mid, Addr.add_mid] at this
      exact this
section
variable {H : Type} {enc : TypeId × Value → H} {W : World} {v : Value} {fuel : Nat} {y : DataW H × List MemPlace}
theorem notes_trod (h : DataW.trod enc Try.prog W 0 (fun _ => true) true fuel 22 [v] = some y) : ∃ xs, RowC nc 7 W v xs :=
  row_of_trod Try.underlying22 cellsN (by decide) (fun _ _ cs _ hl ht => by
    match cs, hl with
    | [c0, c1, c2, c3, c4, c5, c6], _ => exact note7 ht) h
theorem words_trod (h : DataW.trod enc Try.prog W 0 (fun _ => true) true fuel 23 [v] = some y) : ∃ xs, RowC wc 5 W v xs :=
  row_of_trod Try.underlying23 cellsW (by decide) (fun _ _ cs _ hl ht => by
    match cs, hl with
    | [c0, c1, c2, c3, c4], _ =>
      obtain ⟨d, rfl, rfl, rfl, rfl, rfl⟩ := word5 ht
      exact ⟨d, rfl⟩) h
theorem ints_trod (h : DataW.trod enc Try.prog W 0 (fun _ => true) true fuel 24 [v] = some y) : ∃ xs, RowC ic 1 W v xs :=
  row_of_trod Try.underlying24 cells3 (by decide) (fun _ _ cs _ hl ht => by
    match cs, hl with
    | [c0], _ =>
      obtain ⟨d, rfl⟩ := one_int ht
      exact ⟨d, rfl⟩) h
theorem spans_trod (h : DataW.trod enc Try.prog W 0 (fun _ => true) true fuel 25 [v] = some y) : ∃ xs, RowC sc 3 W v xs :=
  row_of_trod Try.underlying25 cellsP (by decide) (fun _ _ cs _ hl ht => by
    match cs, hl with
    | [c0, c1, c2], _ => exact span3 ht) h
variable {d : DataW H} {p : List MemPlace} {b : Nat}
theorem notes_of (hv : Value.okWide Try.prog W .any b 22 v) (h : DataW.Trod enc Try.prog W 0 (fun _ => true) true 22 v d p) : ∃ xs, RowC nc 7 W v xs := by
  obtain ⟨a0, l0, c0, rfl⟩ := okWide_slice Try.underlying22 hv
  obtain ⟨fuel, h⟩ := h
  exact notes_trod (by simpa [Value.cells] using h)
set_option maxRecDepth 100000 in
theorem note_of (hv : Value.okWide Try.prog W .any b 39 v) (h : DataW.Trod enc Try.prog W 0 (fun _ => true) true 39 v d p) : ∃ n : Nt, v = nv n := by
  obtain ⟨cs, rfl, hsz⟩ := okWide_struct Try.underlying39 hv
  obtain ⟨l⟩ := cs
  match l, hsz.trans cellsN with
  | [c0, c1, c2, c3, c4, c5, c6], _ =>
    obtain ⟨fuel, hf⟩ := h
    obtain ⟨n, e⟩ := note7 (by simpa [Value.cells] using hf)
    exact ⟨n, by rw [e]; rfl⟩
set_option maxRecDepth 100000 in
theorem span_of (hv : Value.okWide Try.prog W .any b 41 v) (h : DataW.Trod enc Try.prog W 0 (fun _ => true) true 41 v d p) : ∃ n : Sp, v = sv n := by
  obtain ⟨cs, rfl, hsz⟩ := okWide_struct Try.underlying41 hv
  obtain ⟨l⟩ := cs
  match l, hsz.trans cellsP with
  | [c0, c1, c2], _ =>
    obtain ⟨fuel, hf⟩ := h
    obtain ⟨n, e⟩ := span3 (by simpa [Value.cells] using hf)
    exact ⟨n, by rw [e]; rfl⟩
set_option maxRecDepth 100000 in
theorem kept_of (hv : Value.okWide Try.prog W .any b 27 v) (h : DataW.Trod enc Try.prog W 0 (fun _ => true) true 27 v d p) : ∃ k : Kp, v = kv k ∧ KpAt W k := by
  obtain ⟨cs, rfl, hsz⟩ := okWide_struct Try.underlying27 hv
  obtain ⟨l⟩ := cs
  match l, hsz.trans cellsK with
  | [c0, c1, c2, c3], _ =>
    obtain ⟨fuel, hf⟩ := h
    obtain ⟨xs, n, _, hx, _, hlen, hg⟩ := DataW.trod_struct Try.underlying27 hf
    have g0 := hg 0 _ rfl
    have g1 := hg 1 _ rfl
    have g2 := hg 2 _ rfl
    have g3 := hg 3 _ rfl
    match xs, hlen with
    | [y0, y1, y2, y3], _ =>
      obtain ⟨sl, h0⟩ := words_trod (v := c0) (by simpa [Value.cells, cellsS1] using g0)
      obtain ⟨er, h1⟩ := ints_trod (v := c1) (by simpa [Value.cells, cellsS2] using g1)
      obtain ⟨sp, h2⟩ := spans_trod (v := c2) (by simpa [Value.cells, cellsS3] using g2)
      obtain ⟨now, rfl⟩ := one_int (v := c3) (by simpa [Value.cells, cells3] using g3)
      exact ⟨⟨c0, c1, c2, sl, er, sp, now⟩, rfl, ⟨h0, h1, h2⟩⟩
end
theorem trodAll_four {H : Type} {enc : TypeId × Value → H} {P : Program} {w : World} {base : Nat} {spare : Nat → Bool} {held : Bool} {t0 t1 t2 t3 : TypeId} {args : Array Value} {ds : List (DataW H)} {ps : List MemPlace} (h : DataW.TrodAll enc P w base spare held [t0, t1, t2, t3] args.toList ds ps) :
    ∃ v0 v1 v2 v3 d0 d1 d2 d3 p0 p1 p2 p3, args = #[v0, v1, v2, v3] ∧ ds = [d0, d1, d2, d3] ∧ ps = p0 ++ (p1 ++ (p2 ++ p3)) ∧ DataW.Trod enc P w base spare held t0 v0 d0 p0 ∧ DataW.Trod enc P w base spare held t1 v1 d1 p1 ∧ DataW.Trod enc P w base spare held t2 v2 d2 p2 ∧ DataW.Trod enc P w base spare held t3 v3 d3 p3 := by
  obtain ⟨v0, vs, d0, e0, p0, q0, hargs, rfl, rfl, h0, r0⟩ := trodAll_cons h
  obtain ⟨v1, vs1, d1, e1, p1, q1, rfl, rfl, rfl, h1, r1⟩ := trodAll_cons r0
  obtain ⟨v2, vs2, d2, e2, p2, q2, rfl, rfl, rfl, h2, r2⟩ := trodAll_cons r1
  obtain ⟨v3, vs3, d3, e3, p3, q3, rfl, rfl, rfl, h3, r3⟩ := trodAll_cons r2
  obtain ⟨rfl, rfl, rfl⟩ := trodAll_nil r3
  exact ⟨v0, v1, v2, v3, d0, d1, d2, d3, p0, p1, p2, p3, by cases args; simp_all, rfl, by simp, h0, h1, h2, h3⟩

end Go.Proofs.Ytlhhjbjdinimjaa
