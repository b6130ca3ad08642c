/- A plot and many rites beside each other, and boxes of the law's own, by a map of blocks. A template (fill.py). -/
/- Jobs among the boxes; a rite more. A template (fill.py). -/
/- Workers: idle. A template (fill.py). -/
/- What a worker said: a row of the call's own among the boxes; append. A template (fill.py). -/
/- Workers as plain data, and where they lie. A template (fill.py). -/
import Derived.Test.YtihjklimcchkhaaGreatDoorTb
import Derived.Test.YtihjklimcchkhaaGreatDoorPC
import Derived.Test.YtihjklimcchkhaaGreatDoorRB
import Derived.Test.YtihjklimcchkhaaGreatDoorVx
namespace Go.Proofs.YtihjklimcchkhaaGreatDoor
open Go.RowKit Go.Extern.Stop Go.Stop Go.Extern Go.Sort
abbrev Bx := Nat → Option (TypeId × Array Value)
def Bx.put (x : Bx) (g : Nat) (T : TypeId) (cs : Array Value) : Bx := fun i => if i = g then some (T, cs) else x i
theorem Bx.put_self (x : Bx) (g : Nat) (T : TypeId) (cs : Array Value) : x.put g T cs g = some (T, cs) := if_pos rfl
theorem Bx.put_ne (x : Bx) {g i : Nat} (T : TypeId) (cs : Array Value) (h : i ≠ g) : x.put g T cs i = x i := if_neg h
/-- A plot, rites (where each lies, what it is), boxes; behind the world w. -/
def Cw (W w : World) (E : Flt → Addr) (B p bs bb : Nat) (t : St) (rs : List (Nat × Rt)) (bx : Bx) : Prop :=
  ∃ K : Nat → Nat → Prop, PlotAt W E B p bs bb t ∧ (∀ i, ∀ h : i < rs.length, RiteIs W B rs[i].1 rs[i].2 (K i)) ∧ (∀ i, i < rs.length → ¬ K i bb) ∧
    (∀ i j, i < rs.length → j < rs.length → i ≠ j → ∀ b, ¬ (K i b ∧ K j b)) ∧ Below B w W ∧ 9 ≤ B ∧ ∀ g T cs, bx g = some (T, cs) → BoxOk W bb (fun b => ∃ i, i < rs.length ∧ K i b) (g, T, cs)
section
variable {W W' w : World} {E : Flt → Addr} {B p bs bb : Nat} {t : St} {rs : List (Nat × Rt)} {bx bx' : Bx}
theorem Cw.below (h : Cw W w E B p bs bb t rs bx) (hb : Below W.heap.size W W') : Cw W' w E B p bs bb t rs bx := by
  obtain ⟨K, h1, h2, h3, h4, h5, h6, h7⟩ := h
  exact ⟨K, h1.keep hb, fun i hi => (h2 i hi).below hb, h3, h4, h5.trans (hb.mono (plot_base h1)), h6, fun g T cs hx => ⟨(h7 g T cs hx).1.below hb, (h7 g T cs hx).2⟩⟩
theorem Cw.alloc (h : Cw W w E B p bs bb t rs bx) (o : Obj) : Cw (W.alloc o) w E B p bs bb t rs bx := h.below (below_alloc (Below.refl _ _) o)
theorem Cw.drew (h : Cw W w E B p bs bb t rs bx) : Cw W.drew w E B p bs bb t rs bx := h.below (Below.refl _ _).drew
theorem Cw.of (h : Cw W w E B p bs bb t rs bx) : Below B w W ∧ B ≤ W.heap.size := by
  obtain ⟨K, h1, h2, h3, h4, h5, h6, h7⟩ := h
  exact ⟨h5, plot_base h1⟩
/-- Boxes may be forgotten. -/
theorem Cw.sub (h : Cw W w E B p bs bb t rs bx) (hs : ∀ g x, bx' g = some x → bx g = some x) : Cw W w E B p bs bb t rs bx' := by
  obtain ⟨K, h1, h2, h3, h4, h5, h6, h7⟩ := h
  exact ⟨K, h1, h2, h3, h4, h5, h6, fun g T cs hx => h7 g T cs (hs g _ hx)⟩
theorem Cw.get {g : Nat} {T : TypeId} {cs : Array Value} (h : Cw W w E B p bs bb t rs bx) (hx : bx g = some (T, cs)) : BlkW W g T cs := by
  obtain ⟨K, h1, h2, h3, h4, h5, h6, h7⟩ := h
  exact (h7 g T cs hx).1
/-- A block that lies there, and is neither the plot's nor a rite's, is a box from now on. -/
theorem Cw.box (h : Cw W w E B p bs bb t rs bx) (hb : Below W.heap.size W W') {g : Nat} {T : TypeId} {cs : Array Value} (hg : BlkW W' g T cs) (hf : W.heap.size ≤ g) (h1 : T ≠ 116) (h2 : T ≠ 142) (h3 : T ≠ 3) : Cw W' w E B p bs bb t rs (bx.put g T cs) := by
  have ha := h.below hb
  obtain ⟨K0, g1, g2, g3, g4, g5, g6, g7⟩ := h
  refine ⟨K0, g1.keep hb, fun i hi => (g2 i hi).below hb, g3, g4, g5.trans (hb.mono (plot_base g1)), g6, fun g' T' cs' hx => ?_⟩
  by_cases e : g' = g
  · subst e
    rw [Bx.put_self] at hx
    injection hx with hx
    injection hx with e1 e2
    subst e1 e2
    refine ⟨hg, fun ⟨i, hi, e⟩ => ?_, h1, h2, h3, ?_⟩
    · have := ((g2 i hi).low _ e).2
      exact Nat.lt_irrefl _ (Nat.lt_of_lt_of_le this hf)
    · have := plot_bb g1
      show g' ≠ bb
      omega
  · rw [Bx.put_ne _ _ _ e] at hx
    exact ⟨(g7 g' T' cs' hx).1.below hb, (g7 g' T' cs' hx).2⟩
theorem Cw.new (h : Cw W w E B p bs bb t rs bx) (T : TypeId) (cs : Array Value) (h1 : T ≠ 116) (h2 : T ≠ 142) (h3 : T ≠ 3) : Cw (W.alloc (.cells cs T)) w E B p bs bb t rs (bx.put W.heap.size T cs) :=
  h.box (below_alloc (Below.refl _ _) _) (BlkW.new _ _ _) (Nat.le_refl _) h1 h2 h3
/-- What turns one box alone. -/
theorem Cw.off {g : Nat} {T : TypeId} {cs cs' : Array Value} (h : Cw W w E B p bs bb t rs bx) (hx : bx g = some (T, cs)) (hg : B ≤ g) (ho : Off (fun j => j = g) W W') (hn : BlkW W' g T cs') (hs : 161 ≠ T) : Cw W' w E B p bs bb t rs (bx.put g T cs') := by
  obtain ⟨K, h1, h2, h3, h4, h5, h6, h7⟩ := h
  obtain ⟨c1, c2, c3, c4, c5, c6⟩ := h7 g T cs hx
  have hbel : Below B W W' := ho.below (fun j e => by rw [e]; exact hg) (plot_base h1)
  have hp : PlotAt W' E B p bs bb t := by
    obtain ⟨⟨v1, fv, hq⟩, o', L⟩ := h1
    obtain ⟨cs1, hs1, _⟩ := hq.slots.blk
    have np : ¬ p = g := fun e => BlkW.ne_ hq.hp c1 (fun e => c3 e.symm) e
    have ns : ¬ bs = g := fun e => BlkW.ne_ hs1 c1 (fun e => c4 e.symm) e
    have nb : ¬ bb = g := fun e => c6 e.symm
    exact ⟨⟨v1, fv, ⟨ho.blk hq.hp np, hq.slots.block (ho.block _ hq.lt.2.1 ns), hq.brd.block (ho.block _ hq.lt.2.2 nb), own_off hq.free ho (fun g e k => own_ne hq.free c1 (fun e => c5 e.symm) (k ▸ e)), hq.fault.keep (fun g cs hk => ho.block g hk.lt (fun e => BlkW.ne_ hk c1 hs e)), hq.bp, hq.bbs, hq.bbb⟩⟩, o', L.below (ho.below (fun j e => by rw [e]; exact hg) hq.base_lt) h6⟩
  refine ⟨K, hp, fun i hi => (h2 i hi).off ho fun b e k => c2 ⟨i, hi, k ▸ e⟩, h3, h4, h5.trans hbel, h6, fun g' T' cs2 hx' => ?_⟩
  by_cases e : g' = g
  · subst e
    rw [Bx.put_self] at hx'
    injection hx' with hx'
    injection hx' with e1 e2
    subst e1 e2
    exact ⟨hn, c2, c3, c4, c5, c6⟩
  · rw [Bx.put_ne _ _ _ e] at hx'
    have k := h7 g' T' cs2 hx'
    exact ⟨ho.blk k.1 e, k.2⟩
/-- An access. -/
theorem Cw.Do (h : Cw W w E B p bs bb t rs bx) (ht : t.steps < 900000) (a : Ac) (hc : t.can a = true) :
    Calls Tryz.prog 26 #[.pointer (some ⟨p, 0, none⟩), av a] W fun e w' => e = .returned (.tuple #[rpv (t.step a).2, .nilIface]) ∧ Hid (Cw w' w E B p bs bb (t.step a).1 rs bx) := by
  obtain ⟨K, h1, h2, h3, h4, h5, h6, h7⟩ := h
  refine (do_is h1 h6 ht a hc).mono fun e w' ⟨he, k1, k2, k3⟩ => ⟨he, Lib.hid ⟨K, k1.out, fun i hi => ?_, h3, h4, h5.trans k2.out, h6, fun g T cs hx => ?_⟩⟩
  · obtain ⟨sv, fv, nv, hr⟩ := h2 i hi
    exact ⟨sv, fv, nv, hr.plot h1 k3.out k2.out k2.out.size (h3 i hi)⟩
  · obtain ⟨c1, c2, c3, c4, c5, c6⟩ := h7 g T cs hx
    exact ⟨k3.out.blk h1 c1 c3 c4 c6 c5, c2, c3, c4, c5, c6⟩
/-- A call that turns one rite. -/
theorem Cw.call {F : Nat} {args : Array Value} (h : Cw W w E B p bs bb t rs bx) {i : Nat} (hi : i < rs.length) {m' : Rt} (hc : ∀ sv fv nv K, RiteP W B rs[i].1 sv fv nv rs[i].2 K → Calls Tryz.prog F args W (EPost W B rs[i].1 K m')) :
    Calls Tryz.prog F args W fun e w' => e = .returned .nilIface ∧ Hid (Cw w' w E B p bs bb t (rs.set i (rs[i].1, m')) bx) := by
  obtain ⟨K, h1, h2, h3, h4, h5, h6, h7⟩ := h
  obtain ⟨sv, fv, nv, hr⟩ := h2 i hi
  refine (hc sv fv nv _ hr.exact).mono fun e w' ⟨he, hs⟩ => ⟨he, Lib.hid ?_⟩
  obtain ⟨K', k1, ho, hk⟩ := hs.out
  have hsub := hr.foot_sub
  have hlow := hr.low
  have old : ∀ b, b < W.heap.size → K' b → K i b := fun b hb e => by
    rcases hk b e with k | k
    · exact hsub b k
    · omega
  have hbel : Below B W w' := ho.below (fun b e => (hlow b (hsub b e)).1) (plot_base h1)
  refine ⟨fun j => if j = i then K' else K j, h1.rite h6 ho hr.typed (fun e => h3 i hi (hsub _ e)) (fun b e => (hlow b (hsub b e)).1), fun j hj => ?_, fun j hj e => ?_, fun j k hj hk' hn b e => ?_, h5.trans hbel, h6, fun g T cs hx => ?_⟩
  · rw [List.length_set] at hj
    by_cases hji : j = i
    · subst hji
      simp only [List.getElem_set_self, if_true]
      exact k1
    · simp only [if_neg hji]
      rw [List.getElem_set_ne (fun e => hji e.symm)]
      exact (h2 j hj).off ho fun b e k => h4 j i hj hi hji b ⟨e, hsub b k⟩
  · rw [List.length_set] at hj
    by_cases hji : j = i
    · simp only [if_pos hji] at e
      exact h3 i hi (old bb (plot_bb h1) e)
    · simp only [if_neg hji] at e
      exact h3 j hj e
  · rw [List.length_set] at hj hk'
    have lt : ∀ k, k < rs.length → K k b → b < W.heap.size := fun k hk e => ((h2 k hk).low b e).2
    by_cases e1 : j = i
    · by_cases e2 : k = i
      · exact hn (e1.trans e2.symm)
      · simp only [if_pos e1, if_neg e2] at e
        exact h4 i k hi hk' (fun k' => e2 k'.symm) b ⟨old b (lt k hk' e.2) e.1, e.2⟩
    · by_cases e2 : k = i
      · simp only [if_neg e1, if_pos e2] at e
        exact h4 j i hj hi e1 b ⟨e.1, old b (lt j hj e.1) e.2⟩
      · simp only [if_neg e1, if_neg e2] at e
        exact h4 j k hj hk' hn b e
  · obtain ⟨c1, c2, c3, c4, c5, c6⟩ := h7 g T cs hx
    refine ⟨ho.blk c1 (fun e => c2 ⟨i, hi, hsub _ e⟩), fun ⟨j, hj, e⟩ => ?_, c3, c4, c5, c6⟩
    rw [List.length_set] at hj
    by_cases hji : j = i
    · simp only [if_pos hji] at e
      exact c2 ⟨i, hi, old g c1.lt e⟩
    · simp only [if_neg hji] at e
      exact c2 ⟨j, hj, e⟩
theorem Cw.Begin (h : Cw W w E B p bs bb t rs bx) {i : Nat} (hi : i < rs.length) (hb : rs[i].2.st.busy = false) (c : Cl) (hc : c.fine) (ok : GoOk { rs[i].2 with st := rs[i].2.st.begin_ c } (zw, false)) :
    Calls Tryz.prog 18 #[.pointer (some ⟨rs[i].1, 0, none⟩), clv c] W fun e w' => e = .returned .nilIface ∧ Hid (Cw w' w E B p bs bb t (rs.set i (rs[i].1, rs[i].2.begins c)) bx) :=
  h.call hi fun _ _ _ _ h' => Begin_go h' hb c hc ok
theorem Cw.Took (h : Cw W w E B p bs bb t rs bx) {i : Nat} (hi : i < rs.length) (hb : rs[i].2.st.busy = true) (x : Wd × Bool) (ok : GoOk rs[i].2 x) :
    Calls Tryz.prog 28 #[.pointer (some ⟨rs[i].1, 0, none⟩), rpv x] W fun e w' => e = .returned .nilIface ∧ Hid (Cw w' w E B p bs bb t (rs.set i (rs[i].1, rs[i].2.goOn x)) bx) :=
  h.call hi fun _ _ _ _ h' => Took_go h' hb x ok
theorem Cw.at_ (h : Cw W w E B p bs bb t rs bx) {i : Nat} (hi : i < rs.length) : ∃ sv fv nv K, RiteP W B rs[i].1 sv fv nv rs[i].2 K := by
  obtain ⟨K, _, h2, _⟩ := h
  obtain ⟨sv, fv, nv, hr⟩ := h2 i hi
  exact ⟨sv, fv, nv, _, hr⟩
theorem Cw.Next (h : Cw W w E B p bs bb t rs bx) {i : Nat} (hi : i < rs.length) (hb : rs[i].2.st.busy = true) :
    Calls Tryz.prog 27 #[.pointer (some ⟨rs[i].1, 0, none⟩)] W fun e w' => e = .returned (.tuple #[aav rs[i].2.st.acc, .bool true]) ∧ Hid (Cw w' w E B p bs bb t rs bx) := by
  obtain ⟨sv, fv, nv, K, hr⟩ := h.at_ hi
  exact (Next_busy hr.at_ hb).mono fun e w' ⟨he, hb⟩ => ⟨he, Lib.hid (h.below hb)⟩
theorem Cw.Busy (h : Cw W w E B p bs bb t rs bx) {i : Nat} (hi : i < rs.length) : Calls Tryz.prog 17 #[.pointer (some ⟨rs[i].1, 0, none⟩)] W fun e w' => e = .returned (.bool rs[i].2.st.busy) ∧ W = w' := by
  obtain ⟨sv, fv, nv, K, hr⟩ := h.at_ hi
  exact Busy_is hr.at_
theorem Cw.Reply (h : Cw W w E B p bs bb t rs bx) {i : Nat} (hi : i < rs.length) : Calls Tryz.prog 46 #[.pointer (some ⟨rs[i].1, 0, none⟩)] W fun e w' => e = .returned (rpv rs[i].2.st.last) ∧ Hid (Cw w' w E B p bs bb t rs bx) := by
  obtain ⟨sv, fv, nv, K, hr⟩ := h.at_ hi
  exact (Reply_is hr.at_).mono fun e w' ⟨he, hb⟩ => ⟨he, Lib.hid (h.below hb)⟩
end
end Go.Proofs.YtihjklimcchkhaaGreatDoor

namespace Go.Proofs.YtihjklimcchkhaaGreatDoor
open Go.RowKit Go.Extern.Stop Go.Stop Go.Extern Go.Sort
section
variable {W W' w : World} {E : Flt → Addr} {B p bs bb : Nat} {t : St} {rs : List (Nat × Rt)} {bx bx' : Bx}
/-- A plot alone. -/
theorem Cw.none_ (h : PlotAt W E B p bs bb t) (hw : Below B w W) (hB : 9 ≤ B) : Cw W w E B p bs bb t [] (fun _ => none) :=
  ⟨fun _ _ => False, h, fun i hi => absurd hi (Nat.not_lt_zero i), fun i hi => absurd hi (Nat.not_lt_zero i), fun i _ hi => absurd hi (Nat.not_lt_zero i), hw, hB, fun g T cs e => by cases e⟩
/-- A rite more. -/
theorem Cw.add {r : Nat} {m : Rt} {sv fv nv : Value} {K' : Nat → Prop} (h : Cw W w E B p bs bb t rs bx) (hr : RiteP W' W.heap.size r sv fv nv m K') (hb : Below W.heap.size W W') : Cw W' w E B p bs bb t (rs ++ [(r, m)]) bx := by
  obtain ⟨K, h1, h2, h3, h4, h5, h6, h7⟩ := h
  have hbase := plot_base h1
  have hlow := hr.low
  have fresh : ∀ b, b < W.heap.size → ¬ K' b := fun b hb e => by
    have := (hlow b e).1
    omega
  have hlen : (rs ++ [(r, m)]).length = rs.length + 1 := by simp
  have lt : ∀ k, k < rs.length → ∀ b, K k b → b < W.heap.size := fun k hk b e => ((h2 k hk).low b e).2
  refine ⟨fun j => if j = rs.length then K' else K j, h1.keep hb, fun j hj => ?_, fun j hj e => ?_, fun j k hj hk hn b e => ?_, h5.trans (hb.mono hbase), h6, fun g T cs hx => ?_⟩
  · rw [hlen] at hj
    by_cases hji : j = rs.length
    · subst hji
      simp only [if_true]
      have e : (rs ++ [(r, m)])[rs.length]'(by rw [hlen]; omega) = (r, m) := by simp
      rw [e]
      exact ⟨sv, fv, nv, hr.lower hbase⟩
    · have hj' : j < rs.length := by omega
      simp only [if_neg hji]
      rw [List.getElem_append_left hj']
      exact (h2 j hj').below hb
  · rw [hlen] at hj
    by_cases hji : j = rs.length
    · simp only [if_pos hji] at e
      exact fresh bb (plot_bb h1) e
    · simp only [if_neg hji] at e
      exact h3 j (by omega) e
  · rw [hlen] at hj hk
    by_cases e1 : j = rs.length
    · by_cases e2 : k = rs.length
      · exact hn (e1.trans e2.symm)
      · simp only [if_pos e1, if_neg e2] at e
        exact fresh b (lt k (by omega) b e.2) e.1
    · by_cases e2 : k = rs.length
      · simp only [if_neg e1, if_pos e2] at e
        exact fresh b (lt j (by omega) b e.1) e.2
      · simp only [if_neg e1, if_neg e2] at e
        exact h4 j k (by omega) (by omega) hn b e
  · obtain ⟨c1, c2, c3, c4, c5, c6⟩ := h7 g T cs hx
    refine ⟨c1.below hb, fun ⟨j, hj, e⟩ => ?_, c3, c4, c5, c6⟩
    rw [hlen] at hj
    by_cases hji : j = rs.length
    · simp only [if_pos hji] at e
      exact fresh g c1.lt e
    · simp only [if_neg hji] at e
      exact c2 ⟨j, by omega, e⟩
theorem Cw.Start (h : Cw W w E B p bs bb t rs bx) (o : Po) (ho : o.can) :
    Calls Tryz.prog 68 #[opv o] W fun e w' => ∃ b, e = .returned (.tuple #[.pointer (some ⟨b, 0, none⟩), .nilIface]) ∧ W.heap.size ≤ b ∧ Hid (Cw w' w E B p bs bb t rs (bx.put b 172 (jc (Jb.new o)).toArray)) :=
  (Start_is o ho W).mono fun e w' ⟨b, he, hb, h1, h2⟩ => ⟨b, he, hb, Lib.hid (h.box h2.out h1.out hb (by decide) (by decide) (by decide))⟩
end
end Go.Proofs.YtihjklimcchkhaaGreatDoor

namespace Go.Proofs.YtihjklimcchkhaaGreatDoor
open Go.RowKit Go.Extern.Stop Go.Stop Go.Extern Go.Sort
/-- A worker's cells: its rite, operations, job, whether it is in, what was said. -/
def wkc (r : Nat) (ov jv : Value) (inn : Bool) (sv : Value) : List Value := [.pointer (some ⟨r, 0, none⟩), ov, jv, .bool inn, sv]
section
variable {W W' w : World} {E : Flt → Addr} {B p bs bb : Nat} {t : St} {rs : List (Nat × Rt)} {bx bx' : Bx}
set_option maxRecDepth 100000 in
set_option maxHeartbeats 1000000 in
theorem Cw.idle {g : Nat} {oa sa : Option Addr} {no co ns cs : Nat} {jp : Option Addr} {inn : Bool} (h : Cw W w E B p bs bb t rs bx) {i : Nat} (hi : i < rs.length) (hx : bx g = some (88, (wkc rs[i].1 (.slice oa no co) (.pointer jp) inn (.slice sa ns cs)).toArray)) (q : Bool)
    (hq : q = (!rs[i].2.st.busy && jp.isNone && !inn && decide (no ≤ ns))) :
    Calls Tryz.prog 70 #[.pointer (some ⟨g, 0, none⟩)] W fun e w' => e = .returned (.bool q) ∧ Hid (Cw w' w E B p bs bb t rs bx) := by
  have hk := h.get hx
  have HW := Lib.hid h
  have HB : Hid (∀ d os, Calls Tryz.prog 17 #[.pointer (some ⟨rs[i].1, 0, none⟩)] (grow (redrawn W d) os) fun e w'' => e = .returned (.bool rs[i].2.st.busy) ∧ ∃ p : Regrown, w'' = grow (redrawn W p.d) p.os) := Lib.hid (fun d os => Calls.regrown_of (((h.below (below_regrown W d os)).Busy hi).mono fun e w'' ⟨he, hw⟩ => ⟨he, hw ▸ Below.refl _ _⟩))
  obtain ⟨bz, hbz⟩ : ∃ bz, bz = rs[i].2.st.busy := ⟨_, rfl⟩
  rw [← hbz] at HB hq
  generalize rs[i].1 = r at hk HB
  have c0 : W.cell? ⟨g, 0, none⟩ = some (.pointer (some ⟨r, 0, none⟩)) := hk.cell 0
  have c1 : W.cell? ⟨g, 1, none⟩ = some (.slice oa no co) := hk.cell 1
  have c2 : W.cell? ⟨g, 2, none⟩ = some (.pointer jp) := hk.cell 2
  have c3 : W.cell? ⟨g, 3, none⟩ = some (.bool inn) := hk.cell 3
  have c4 : W.cell? ⟨g, 4, none⟩ = some (.slice sa ns cs) := hk.cell 4
  have HQ := Lib.hid hq
  clear h hx hk hbz hq
  have y0 : ∀ d os, (grow (redrawn W d) os).cell? ⟨g, 0, none⟩ = some _ := cell_regrown c0
  have y1 : ∀ d os, (grow (redrawn W d) os).cell? ⟨g, 1, none⟩ = some _ := cell_regrown c1
  have y2 : ∀ d os, (grow (redrawn W d) os).cell? ⟨g, 2, none⟩ = some _ := cell_regrown c2
  have y3 : ∀ d os, (grow (redrawn W d) os).cell? ⟨g, 3, none⟩ = some _ := cell_regrown c3
  have y4 : ∀ d os, (grow (redrawn W d) os).cell? ⟨g, 4, none⟩ = some _ := cell_regrown c4
  go_enter Tryz.func70, Tryz.ntmps70
  cases bz <;> cases jp <;> cases inn
  all_goals
    go_upto_region 1 with fail
    refine wp_region_quiet_below (by kernel_rfl) (by kernel_rfl) ?_
    repeat (go_big_quiet_step ((first | with_reducible exact HB.out _ _)))
    refine wpQuiet_nil ?_
    intro _ hw'
    obtain ⟨⟨dq, osq⟩, hw''⟩ := hw'
    subst hw''
    have HW2 := Lib.hid (HW.out.below (below_regrown W dq osq))
    generalize grow (redrawn W dq) osq = w2 at HW2 ⊢
    go_wp2
    go_ret
    rw [HQ.out]
    exact ⟨by simp, HW2⟩
end
end Go.Proofs.YtihjklimcchkhaaGreatDoor

namespace Go.Proofs.YtihjklimcchkhaaGreatDoor
open Go.RowKit Go.Extern.Stop Go.Stop Go.Extern Go.Sort
def anc (a : Int × Int) : List Value := [.int .i64 a.1, .int .i64 a.2]
/-- A row of answers: none yet, or a block of its own among the boxes. -/
def SaidAt (bx : Bx) (B : Nat) (sv : Value) (said : List (Int × Int)) : Prop :=
  (sv = .slice none 0 0 ∧ said = []) ∨ ∃ sb cap cur, sv = .slice (some ⟨sb, 0, none⟩) said.length cap ∧ B ≤ sb ∧ bx sb = some (49, cur) ∧ said.length ≤ cap ∧ cap ≤ maxLen ∧ cur.size = cap * 2 ∧ cur.toList.take (said.length * 2) = Sv.flat anc said
def Bx.drop (x : Bx) (g : Nat) : Bx := fun i => if i = g then none else x i
section
variable {W W' w : World} {E : Flt → Addr} {B p bs bb : Nat} {t : St} {rs : List (Nat × Rt)} {bx bx' : Bx}
theorem SaidAt.own {sv : Value} {said : List (Int × Int)} (hs : SaidAt bx B sv said) (h : Cw W w E B p bs bb t rs bx) : W.ownsRow B 49 2 sv said.length (Sv.flat anc said) := by
  refine ⟨Sv.flat_len (k := 2) (fun a => (rfl : (anc a).length = 2)) said, ?_⟩
  rcases hs with ⟨e, e2⟩ | ⟨sb, cap, cur, e, h1, h2, h3, h4, h5, h6⟩
  · exact .inl ⟨e, by rw [e2]; rfl⟩
  · exact .inr ⟨sb, cap, cur, e, h1, h.get h2, h3, h4, h5, h6⟩
/-- What turns one box, that is none any more, and lays another one. -/
theorem Cw.offNew {g0 g : Nat} {T T' : TypeId} {cs cs' : Array Value} (h : Cw W w E B p bs bb t rs bx) (hx : bx g0 = some (T, cs)) (hg : B ≤ g0) (ho : Off (fun j => j = g0) W W') (hs : 161 ≠ T) (hn : BlkW W' g T' cs') (hf : W.heap.size ≤ g) (h1 : T' ≠ 116) (h2 : T' ≠ 142) (h3 : T' ≠ 3) :
    Cw W' w E B p bs bb t rs ((bx.drop g0).put g T' cs') := by
  obtain ⟨K, g1, g2, g3, g4, g5, g6, g7⟩ := h
  obtain ⟨c1, c2, c3, c4, c5, c6⟩ := g7 g0 T cs hx
  have hbel : Below B W W' := ho.below (fun j e => by rw [e]; exact hg) (plot_base g1)
  have hp : PlotAt W' E B p bs bb t := by
    obtain ⟨⟨v1, fv, hq⟩, o', L⟩ := g1
    obtain ⟨cs1, hs1, _⟩ := hq.slots.blk
    have np : ¬ p = g0 := fun e => BlkW.ne_ hq.hp c1 (fun e => c3 e.symm) e
    have ns : ¬ bs = g0 := fun e => BlkW.ne_ hs1 c1 (fun e => c4 e.symm) e
    have nb : ¬ bb = g0 := fun e => c6 e.symm
    exact ⟨⟨v1, fv, ⟨ho.blk hq.hp np, hq.slots.block (ho.block _ hq.lt.2.1 ns), hq.brd.block (ho.block _ hq.lt.2.2 nb), own_off hq.free ho (fun g e k => own_ne hq.free c1 (fun e => c5 e.symm) (k ▸ e)), hq.fault.keep (fun g cs hk => ho.block g hk.lt (fun e => BlkW.ne_ hk c1 hs e)), hq.bp, hq.bbs, hq.bbb⟩⟩, o', L.below (ho.below (fun j e => by rw [e]; exact hg) hq.base_lt) g6⟩
  refine ⟨K, hp, fun i hi => (g2 i hi).off ho fun b e k => c2 ⟨i, hi, k ▸ e⟩, g3, g4, g5.trans hbel, g6, fun g' T2 cs2 hx' => ?_⟩
  by_cases e : g' = g
  · subst e
    rw [Bx.put_self] at hx'
    injection hx' with hx'
    injection hx' with e1 e2
    subst e1 e2
    refine ⟨hn, fun ⟨i, hi, e⟩ => ?_, h1, h2, h3, ?_⟩
    · have := ((g2 i hi).low _ e).2
      exact Nat.lt_irrefl _ (Nat.lt_of_lt_of_le this hf)
    · have := plot_bb g1
      show g' ≠ bb
      omega
  · rw [Bx.put_ne _ _ _ e] at hx'
    by_cases e0 : g' = g0
    · subst e0
      unfold Bx.drop at hx'
      rw [if_pos rfl] at hx'
      cases hx'
    · unfold Bx.drop at hx'
      rw [if_neg e0] at hx'
      have k := g7 g' T2 cs2 hx'
      exact ⟨ho.blk k.1 e0, k.2⟩
theorem Bx.drop_ne (x : Bx) {g i : Nat} (h : i ≠ g) : x.drop g i = x i := if_neg h
/-- An answer more. -/
theorem Cw.appended {sv v' : Value} {said ys : List (Int × Int)} (h : Cw W w E B p bs bb t rs bx) (hs : SaidAt bx B sv said) (hp : Sv.AppPost W anc 2 B 49 sv said.length (Sv.flat anc said) ys v' W') :
    ∃ bx', Cw W' w E B p bs bb t rs bx' ∧ SaidAt bx' B v' (said ++ ys) ∧ ∀ g x, bx g = some x → some g ≠ sv.ownBlock → bx' g = some x := by
  obtain ⟨ho, hg, hv, hB⟩ := hp
  have hfl : Sv.flat anc said ++ Sv.flat anc ys = Sv.flat anc (said ++ ys) := by rw [Sv.flat_app]
  have hl : (said ++ ys).length = said.length + ys.length := List.length_append
  rw [hfl] at ho
  obtain ⟨hlen, ho⟩ := ho
  have hlt : ∀ g x, bx g = some x → g < W.heap.size := fun g x e => (h.get (T := x.1) (cs := x.2) e).lt
  have mk : ∀ (bx2 : Bx) (g cap : Nat) (cur : Array Value), v' = .slice (some ⟨g, 0, none⟩) (said.length + ys.length) cap → B ≤ g → said.length + ys.length ≤ cap → cap ≤ maxLen → cur.size = cap * 2 → cur.toList.take ((said.length + ys.length) * 2) = Sv.flat anc (said ++ ys) → bx2 g = some (49, cur) → SaidAt bx2 B v' (said ++ ys) := fun bx2 g cap cur e1 e2 e3 e4 e5 e6 e7 => .inr ⟨g, cap, cur, by rw [hl]; exact e1, e2, e7, by rw [hl]; exact e3, e4, e5, by rw [hl]; exact e6⟩
  rcases hs with ⟨rfl, rfl⟩ | ⟨sb, cap0, cur0, rfl, q1, q2, q3, q4, q5, q6⟩
  · have hb : Below W.heap.size W W' := ⟨hg.os, hg.tape, hg.output, hg.size, fun k hk => hg.block k hk (by simp [Value.ownBlock])⟩
    rcases ho with ⟨e, e2⟩ | ⟨g, cap, cur, e, e1, e2, e3, e4, e5, e6⟩
    · refine ⟨bx, h.below hb, .inl ⟨e, ?_⟩, fun g x hx _ => hx⟩
      exact List.length_eq_zero_iff.1 (by rw [hl]; exact e2)
    · have hgn : g = W.heap.size := by
        rcases hv with hv | hv
        · rw [e] at hv; simp [Value.ownBlock] at hv
        · rw [e] at hv; simpa [Value.ownBlock] using hv
      refine ⟨bx.put g _ cur, h.box hb e2 (by omega) (by decide) (by decide) (by decide), mk _ g cap cur e e1 e3 e4 e5 e6 (Bx.put_self ..), fun k x hx _ => ?_⟩
      rw [Bx.put_ne _ _ _ (by have := hlt k x hx; omega)]
      exact hx
  · have hoff : Off (fun j => j = sb) W W' := ⟨hg.os, hg.tape, hg.output, hg.size, fun k hk hn => hg.block k hk (by simpa [Value.ownBlock] using hn)⟩
    rcases ho with ⟨e, e2⟩ | ⟨g, cap, cur, e, e1, e2, e3, e4, e5, e6⟩
    · exact absurd hv (by rw [e]; simp [Value.ownBlock])
    · rcases hv with hv | hv
      · have hgs : g = sb := by rw [e] at hv; simpa [Value.ownBlock] using hv
        subst hgs
        refine ⟨bx.put g _ cur, h.off q2 q1 hoff e2 (by decide), mk _ g cap cur e e1 e3 e4 e5 e6 (Bx.put_self ..), fun k x hx hk => ?_⟩
        rw [Bx.put_ne _ _ _ (by simpa [Value.ownBlock] using hk)]
        exact hx
      · have hgn : g = W.heap.size := by rw [e] at hv; simpa [Value.ownBlock] using hv
        refine ⟨(bx.drop sb).put g _ cur, h.offNew q2 q1 hoff (by decide) e2 (by omega) (by decide) (by decide) (by decide), mk _ g cap cur e e1 e3 e4 e5 e6 (Bx.put_self ..), fun k x hx hk => ?_⟩
        rw [Bx.put_ne _ _ _ (by have := hlt k x hx; omega), Bx.drop_ne _ (by simpa [Value.ownBlock] using hk)]
        exact hx
end
end Go.Proofs.YtihjklimcchkhaaGreatDoor

namespace Go.Proofs.YtihjklimcchkhaaGreatDoor
open Go.RowKit Go.Extern.Stop Go.Stop Go.Extern Go.Sort
/-- A worker: its operations, what was said, the job under way, whether it is in. -/
structure Wr where
  ops : List Po
  said : List (Int × Int)
  j : Option Jb
  inn : Bool
/-- Nothing is begun any more: an access is under way, or there is nothing to do. -/
def wover (x : Rt × Wr) : Bool := x.1.st.busy || (x.2.j.isNone && !x.2.inn && decide (x.2.ops.length ≤ x.2.said.length))
/-- A round: leave; begin the next operation; go on with the one under way. -/
def wbeg (x : Rt × Wr) : Rt × Wr :=
  match x.2.j with
  | none => if x.2.inn then (x.1.begins (cl 2), { x.2 with inn := false }) else
    match x.2.ops[x.2.said.length]? with
    | none => x
    | some o => (x.1.begins (cl 1), { x.2 with j := some (Jb.new o), inn := true })
  | some j => if (j.next x.1.st.last).call.kind = 12 then (x.1, { x.2 with said := x.2.said ++ [((j.next x.1.st.last).code, (j.next x.1.st.last).aval)], j := none })
    else (x.1.begins (j.next x.1.st.last).call, { x.2 with j := some (j.next x.1.st.last) })
def Rt.at_ (m : Rt) (c : Cl) : Rt := { m with st := m.st.begin_ c }
/-- What must be ahead of a round. -/
def WNext (x : Rt × Wr) : Prop :=
  match x.2.j with
  | none => if x.2.inn then GoOk (x.1.at_ (cl 2)) (zw, false) else
    match x.2.ops[x.2.said.length]? with
    | none => False
    | some o => o.can ∧ GoOk (x.1.at_ (cl 1)) (zw, false)
  | some j => x.2.said.length ≤ 1000 ∧ JOk j ∧ ((j.next x.1.st.last).call.kind ≠ 12 → (j.next x.1.st.last).code = 0 ∧ (j.next x.1.st.last).aval = 0 ∧ (j.next x.1.st.last).call.fine ∧ GoOk (x.1.at_ (j.next x.1.st.last).call) (zw, false))
def WOk : Nat → Rt × Wr → Prop
  | 0, x => wover x = true
  | n + 1, x => wover x = true ∨ (WNext x ∧ WOk n (wbeg x))
def wto : Nat → Rt × Wr → Rt × Wr
  | 0, x => x
  | n + 1, x => if wover x then x else wto n (wbeg x)
theorem wto_over {n : Nat} {x : Rt × Wr} (h : wover x = true) : wto n x = x := by
  cases n with
  | zero => rfl
  | succ n => unfold wto; rw [if_pos h]
def JobAt (bx : Bx) (B : Nat) (O : Nat → Prop) (jp : Option Addr) (j : Option Jb) : Prop :=
  (jp = none ∧ j = none) ∨ ∃ b jb, jp = some ⟨b, 0, none⟩ ∧ j = some jb ∧ B ≤ b ∧ O b ∧ bx b = some (172, (jc jb).toArray)
def OpsAt (bx : Bx) (ob : Nat) (ops : List Po) : Prop := ∃ T cs, bx ob = some (T, cs) ∧ ∀ k, ∀ h : k < ops.length, (cs.toList.drop (k * 4)).take 4 = opc ops[k]
/-- Where a worker lies: its block g, the blocks O that it turns. -/
def WkAt (bx : Bx) (B : Nat) (O : Nat → Prop) (g r ob oc : Nat) (a : Wr) : Prop :=
  ∃ jp sv, bx g = some (88, (wkc r (.slice (some ⟨ob, 0, none⟩) a.ops.length oc) (.pointer jp) a.inn sv).toArray) ∧ B ≤ g ∧ O g ∧ ¬ O ob ∧ a.ops.length ≤ oc ∧ OpsAt bx ob a.ops ∧ JobAt bx B O jp a.j ∧ SaidAt bx B sv a.said ∧ (∀ b, sv.ownBlock = some b → O b)
section
variable {W W' w : World} {E : Flt → Addr} {B p bs bb : Nat} {t : St} {rs : List (Nat × Rt)} {bx bx' : Bx} {O O' : Nat → Prop}
/-- What a worker leaves of the boxes: others' are as they were. -/
def Left (bx bx' : Bx) (O : Nat → Prop) : Prop := ∀ g x, bx g = some x → ¬ O g → bx' g = some x
theorem Left.refl (bx : Bx) (O : Nat → Prop) : Left bx bx O := fun _ _ h _ => h
theorem SaidAt.left {sv : Value} {said : List (Int × Int)} (h : SaidAt bx B sv said) (hl : ∀ g x, bx g = some x → sv.ownBlock = some g → bx' g = some x) : SaidAt bx' B sv said := by
  rcases h with h | ⟨sb, cap, cur, rfl, q1, q2, q3⟩
  · exact .inl h
  · exact .inr ⟨sb, cap, cur, rfl, q1, hl sb _ q2 rfl, q3⟩
theorem JobAt.left {jp : Option Addr} {j : Option Jb} (h : JobAt bx B O jp j) (hl : ∀ g x, bx g = some x → O g → bx' g = some x) : JobAt bx' B O jp j := by
  rcases h with h | ⟨b, jb, e1, e2, q1, q2, q3⟩
  · exact .inl h
  · exact .inr ⟨b, jb, e1, e2, q1, q2, hl b _ q3 q2⟩
theorem OpsAt.left {ob : Nat} {ops : List Po} (h : OpsAt bx ob ops) (hl : ∀ x, bx ob = some x → bx' ob = some x) : OpsAt bx' ob ops := by
  obtain ⟨T, cs, h1, h2⟩ := h
  exact ⟨T, cs, hl _ h1, h2⟩
/-- Another worker is as it was. -/
theorem WkAt.other {g r ob oc : Nat} {a : Wr} (h : WkAt bx B O g r ob oc a) (hl : Left bx bx' O') (hn : ∀ b, O b → ¬ O' b) (ho : ¬ O' ob) : WkAt bx' B O g r ob oc a := by
  obtain ⟨jp, sv, h1, h2, h3, h4, h5, h6, h7, h8, h9⟩ := h
  exact ⟨jp, sv, hl g _ h1 (hn g h3), h2, h3, h4, h5, h6.left fun x e => hl ob x e ho, h7.left fun b x e q => hl b x e (hn b q), h8.left fun b x e q => hl b x e (hn b (h9 b q)), h9⟩
end
end Go.Proofs.YtihjklimcchkhaaGreatDoor
