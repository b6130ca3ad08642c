/- A plot and one rite beside each other, and boxes of the law's own. A template (fill.py). -/
import Derived.Test.YtihjklimcchkhaaGreatDoorRA
namespace Go.Proofs.YtihjklimcchkhaaGreatDoor
open Go.RowKit Go.Extern.Stop Go.Stop Go.Extern Go.Sort
/-- A box that neither the plot nor the rite turns. -/
def BoxOk (W : World) (bb : Nat) (K : Nat → Prop) (x : Nat × TypeId × Array Value) : Prop := BlkW W x.1 x.2.1 x.2.2 ∧ ¬ K x.1 ∧ x.2.1 ≠ 116 ∧ x.2.1 ≠ 142 ∧ x.2.1 ≠ 3 ∧ x.1 ≠ bb
/-- A plot, a rite, boxes; behind the world w. -/
def One (W w : World) (E : Flt → Addr) (B p bs bb : Nat) (t : St) (r : Nat) (m : Rt) (bx : List (Nat × TypeId × Array Value)) : Prop :=
  ∃ K, PlotAt W E B p bs bb t ∧ RiteIs W B r m K ∧ ¬ K bb ∧ Below B w W ∧ 9 ≤ B ∧ ∀ x, x ∈ bx → BoxOk W bb K x
section
variable {W W' w : World} {E : Flt → Addr} {B p bs bb r : Nat} {t : St} {m m' : Rt} {bx : List (Nat × TypeId × Array Value)}
theorem plot_base (h : PlotAt W E B p bs bb t) : B ≤ W.heap.size := by
  obtain ⟨⟨v, fv', hq⟩, _⟩ := h
  exact hq.base_lt
theorem plot_bb (h : PlotAt W E B p bs bb t) : bb < W.heap.size := by
  obtain ⟨⟨v, fv', hq⟩, _⟩ := h
  exact hq.brd.lt
theorem One.below (h : One W w E B p bs bb t r m bx) (hb : Below W.heap.size W W') : One W' w E B p bs bb t r m bx := by
  obtain ⟨K, h1, h2, h3, h4, h5, h6⟩ := h
  exact ⟨K, h1.keep hb, h2.below hb, h3, h4.trans (hb.mono (plot_base h1)), h5, fun x hx => ⟨(h6 x hx).1.below hb, (h6 x hx).2⟩⟩
theorem One.alloc (h : One W w E B p bs bb t r m bx) (o : Obj) : One (W.alloc o) w E B p bs bb t r m bx := h.below (below_alloc (Below.refl _ _) o)
theorem One.drew (h : One W w E B p bs bb t r m bx) : One W.drew w E B p bs bb t r m bx := h.below (Below.refl _ _).drew
theorem One.of (h : One W w E B p bs bb t r m bx) : Below B w W ∧ B ≤ W.heap.size := by
  obtain ⟨K, h1, h2, h3, h4, h5, h6⟩ := h
  exact ⟨h4, plot_base h1⟩
/-- A new box. -/
theorem One.box (h : One W w E B p bs bb t r m bx) (T : TypeId) (cs : Array Value) (h1 : T ≠ 116) (h2 : T ≠ 142) (h3 : T ≠ 3) : One (W.alloc (.cells cs T)) w E B p bs bb t r m ((W.heap.size, T, cs) :: bx) := by
  have ha := h.alloc (.cells cs T)
  obtain ⟨K0, g1, g2, g3, g4, g5, g6⟩ := h
  refine ⟨K0, g1.keep (below_alloc (Below.refl _ _) _), g2.below (below_alloc (Below.refl _ _) _), g3, g4.trans ((below_alloc (Below.refl _ _) _).mono (plot_base g1)), g5, fun x hx => ?_⟩
  rcases List.mem_cons.1 hx with rfl | hx
  · refine ⟨BlkW.new _ _ _, fun e => ?_, h1, h2, h3, ?_⟩
    · have := (g2.low _ e).2
      exact Nat.lt_irrefl _ this
    · have := plot_bb g1
      show W.heap.size ≠ bb
      omega
  · exact ⟨(g6 x hx).1.below (below_alloc (Below.refl _ _) _), (g6 x hx).2⟩
theorem One.get (h : One W w E B p bs bb t r m bx) (x : Nat × TypeId × Array Value) (hx : x ∈ bx) : BlkW W x.1 x.2.1 x.2.2 := by
  obtain ⟨_, _, _, _, _, _, h6⟩ := h
  exact (h6 x hx).1
/-- A box is written anew. -/
theorem One.set {b : Nat} {T : TypeId} {cs : Array Value} (h : One W w E B p bs bb t r m ((b, T, cs) :: bx)) (o : Nat) (v : Value) (hne : ∀ x ∈ bx, x.1 ≠ b) (hb : B ≤ b) (hs : 161 ≠ T) : One (W.setCell ⟨b, o, none⟩ v) w E B p bs bb t r m ((b, T, cs.setIfInBounds o v) :: bx) := by
  obtain ⟨K, h1, h2, h3, h4, h5, h6⟩ := h
  obtain ⟨c1, c2, c3, c4, c5, c6⟩ := h6 (b, T, cs) (List.mem_cons_self ..)
  have ho : Off (fun j => j = b) W (W.setCell ⟨b, o, none⟩ v) := (Off.refl (fun j => j = b) W).set (.inl rfl) o v
  have hbel : Below B W (W.setCell ⟨b, o, none⟩ v) := (Below.refl _ _).setCell (p := ⟨b, o, none⟩) hb v
  have hp : PlotAt (W.setCell ⟨b, o, none⟩ v) E B p bs bb t := by
    obtain ⟨⟨v1, fv, hq⟩, o', L⟩ := h1
    obtain ⟨cs1, hs1, _⟩ := hq.slots.blk
    have np : ¬ p = b := fun e => BlkW.ne_ hq.hp c1 (fun e => c3 e.symm) e
    have ns : ¬ bs = b := fun e => BlkW.ne_ hs1 c1 (fun e => c4 e.symm) e
    have nb : ¬ bb = b := fun e => c6 e.symm
    exact ⟨⟨v1, fv, ⟨ho.blk hq.hp np, hq.slots.block (ho.block _ hq.lt.2.1 ns), hq.brd.block (ho.block _ hq.lt.2.2 nb), own_off hq.free ho (fun g e k => own_ne hq.free c1 (fun e => c5 e.symm) (k ▸ e)), hq.fault.keep (fun g cs hk => ho.block g hk.lt (fun e => BlkW.ne_ hk c1 hs e)), hq.bp, hq.bbs, hq.bbb⟩⟩, o', L.below hbel h5⟩
  refine ⟨K, hp, h2.off ho fun g e k => c2 (k ▸ e), h3, h4.trans hbel, h5, fun x hx => ?_⟩
  rcases List.mem_cons.1 hx with rfl | hx
  · exact ⟨c1.set o v, c2, c3, c4, c5, c6⟩
  · have k := h6 x (List.mem_cons_of_mem _ hx)
    exact ⟨k.1.far (hne x hx) v, k.2⟩
/-- An access. -/
theorem One.Do (h : One W w E B p bs bb t r m bx) (ht : t.steps < 900000) (a : Ac) (hc : t.can a = true) :
    Calls Tryz.prog 26 #[.pointer (some ⟨p, 0, none⟩), av a] W fun e w' => e = .returned (.tuple #[rpv (t.step a).2, .nilIface]) ∧ Hid (One w' w E B p bs bb (t.step a).1 r m bx) := by
  obtain ⟨K, h1, h2, h3, h4, h5, h6⟩ := h
  refine (do_is h1 h5 ht a hc).mono fun e w' ⟨he, k1, k2, k3⟩ => ⟨he, Lib.hid ⟨K, k1.out, ?_, h3, h4.trans k2.out, h5, fun x hx => ?_⟩⟩
  · obtain ⟨sv, fv, nv, hr⟩ := h2
    exact ⟨sv, fv, nv, hr.plot h1 k3.out k2.out k2.out.size h3⟩
  · obtain ⟨c1, c2, c3, c4, c5, c6⟩ := h6 x hx
    exact ⟨k3.out.blk h1 c1 c3 c4 c6 c5, c2, c3, c4, c5, c6⟩
/-- A call that turns the rite. -/
theorem One.call {F : Nat} {args : Array Value} (h : One W w E B p bs bb t r m bx) (hc : ∀ sv fv nv K, RiteP W B r sv fv nv m K → Calls Tryz.prog F args W (EPost W B r K m')) :
    Calls Tryz.prog F args W fun e w' => e = .returned .nilIface ∧ Hid (One w' w E B p bs bb t r m' bx) := by
  obtain ⟨K, h1, ⟨sv, fv, nv, hr⟩, h3, h4, h5, h6⟩ := h
  refine (hc sv fv nv _ hr.exact).mono fun e w' ⟨he, hs⟩ => ⟨he, Lib.hid ?_⟩
  obtain ⟨K', k1, ho, hk⟩ := hs.out
  have hsub := hr.foot_sub
  have hlow := hr.low
  have old : ∀ b, b < W.heap.size → K' b → K b := fun b hb e => by
    rcases hk b e with k | k
    · exact hsub b k
    · omega
  have hbel : Below B W w' := ho.below (fun b e => (hlow b (hsub b e)).1) (plot_base h1)
  refine ⟨K', h1.rite h5 ho hr.typed (fun e => h3 (hsub _ e)) (fun b e => (hlow b (hsub b e)).1), k1, fun e => h3 (old bb (plot_bb h1) e), h4.trans hbel, h5, fun x hx => ?_⟩
  obtain ⟨c1, c2, c3, c4, c5, c6⟩ := h6 x hx
  exact ⟨ho.blk c1 (fun e => c2 (hsub _ e)), fun e => c2 (old x.1 c1.lt e), c3, c4, c5, c6⟩
theorem One.Begin (h : One W w E B p bs bb t r m bx) (hb : m.st.busy = false) (c : Cl) (hc : c.fine) (ok : HazOk { m with st := m.st.begin_ c } (zw, false)) (hm : m.begins c = m') :
    Calls Tryz.prog 18 #[.pointer (some ⟨r, 0, none⟩), clv c] W fun e w' => e = .returned .nilIface ∧ Hid (One w' w E B p bs bb t r m' bx) :=
  h.call fun _ _ _ _ h' => hm ▸ Begin_go h' hb c hc ok.go
theorem One.Took (h : One W w E B p bs bb t r m bx) (hb : m.st.busy = true) (x : Wd × Bool) (ok : HazOk m x) :
    Calls Tryz.prog 28 #[.pointer (some ⟨r, 0, none⟩), rpv x] W fun e w' => e = .returned .nilIface ∧ Hid (One w' w E B p bs bb t r (m.goOn x) bx) :=
  h.call fun _ _ _ _ h' => Took_go h' hb x ok.go
theorem One.at_ (h : One W w E B p bs bb t r m bx) : ∃ sv fv nv K, RiteP W B r sv fv nv m K := by
  obtain ⟨K, _, ⟨sv, fv, nv, hr⟩, _⟩ := h
  exact ⟨sv, fv, nv, K, hr⟩
theorem One.Next (h : One W w E B p bs bb t r m bx) (hb : m.st.busy = true) :
    Calls Tryz.prog 27 #[.pointer (some ⟨r, 0, none⟩)] W fun e w' => e = .returned (.tuple #[aav m.st.acc, .bool true]) ∧ Hid (One w' w E B p bs bb t r m bx) := by
  obtain ⟨sv, fv, nv, K, hr⟩ := h.at_
  exact (Next_busy hr.at_ hb).mono fun e w' ⟨he, hb⟩ => ⟨he, Lib.hid (h.below hb)⟩
theorem One.Busy (h : One W w E B p bs bb t r m bx) (b : Bool) (hb : m.st.busy = b) : Calls Tryz.prog 17 #[.pointer (some ⟨r, 0, none⟩)] W fun e w' => e = .returned (.bool b) ∧ W = w' := by
  obtain ⟨sv, fv, nv, K, hr⟩ := h.at_
  rw [← hb]
  exact Busy_is hr.at_
theorem One.Freed (h : One W w E B p bs bb t r m bx) : Calls Tryz.prog 30 #[.pointer (some ⟨r, 0, none⟩)] W fun e w' => e = .returned (.int .i64 (m.freed : Int)) ∧ W = w' := by
  obtain ⟨sv, fv, nv, K, hr⟩ := h.at_
  exact Freed_is hr.at_
theorem One.Notes (h : One W w E B p bs bb t r m bx) (hl : m.notes.length ≤ 1000) :
    Calls Tryz.prog 16 #[.pointer (some ⟨r, 0, none⟩)] W fun e w' => ∃ u, e = .returned u ∧ Hid (Sv.RowC Sv.nc 7 w' u m.notes) ∧ Hid (One w' w E B p bs bb t r m bx) := by
  obtain ⟨sv, fv, nv, K, hr⟩ := h.at_
  exact (Notes_is hr hl).mono fun e w' ⟨u, he, h1, h2⟩ => ⟨u, he, h1, Lib.hid (h.below h2.out)⟩
theorem own_lower {base base' n : Nat} {e : TypeId} {size : Nat} {v : Value} {xs : List Value} (h : W.ownsRow base e size v n xs) (hb : base' ≤ base) : W.ownsRow base' e size v n xs := by
  obtain ⟨h1, h2⟩ := h
  refine ⟨h1, ?_⟩
  rcases h2 with h2 | ⟨g, cap, cur, e1, h3, h4⟩
  · exact .inl h2
  · exact .inr ⟨g, cap, cur, e1, Nat.le_trans hb h3, h4⟩
theorem RiteP.lower {B' : Nat} {sv fv nv : Value} {K : Nat → Prop} (h : RiteP W B r sv fv nv m K) (hb : B' ≤ B) : RiteP W B' r sv fv nv m K := by
  refine ⟨h.at_, own_lower h.said hb, own_lower h.notes hb, ?_, h.kr, h.ks, h.kn, h.kf, fun b e => ⟨Nat.le_trans hb (h.low b e).1, (h.low b e).2⟩⟩
  rcases h.free with k | ⟨b, off, cap, cs, e1, e2, e3, e4⟩
  · exact .inl k
  · exact .inr ⟨b, off, cap, cs, e1, e2, Nat.le_trans hb e3, e4⟩
/-- A new rite beside a plot. -/
theorem One.first {K : Nat → Prop} (h : PlotAt W E B p bs bb t) (hw : Below B w W) (hB : 9 ≤ B) {sv fv nv : Value} (hr : RiteP W' W.heap.size r sv fv nv m K) (hb : Below W.heap.size W W') : One W' w E B p bs bb t r m [] := by
  have hbase := plot_base h
  have hlow := hr.low
  refine ⟨K, h.keep hb, ⟨sv, fv, nv, hr.lower hbase⟩, fun e => ?_, hw.trans (hb.mono hbase), hB, fun x hx => by cases hx⟩
  have := (hlow bb e).1
  have := plot_bb h
  omega
end
end Go.Proofs.YtihjklimcchkhaaGreatDoor
