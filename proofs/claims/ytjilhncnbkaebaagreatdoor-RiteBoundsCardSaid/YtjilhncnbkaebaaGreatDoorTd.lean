/- The yard that is laid: a plot, and mourners with new rites. A template (fill.py). -/
import Derived.Test.YtjilhncnbkaebaaGreatDoorTb
import Derived.Test.YtjilhncnbkaebaaGreatDoorSteps
import Derived.LoopTactic
import Derived.OwnWalk
import Derived.Deep.Cut
namespace Go.Proofs.YtjilhncnbkaebaaGreatDoor
open Go.RowKit Go.Extern.Stop Go.Stop Go.Extern Go.Sort
/-- A yard whose row of mourners isn't done. -/
structure YL (W : World) (E : Flt → Addr) (B p bs bb : Nat) (t : St) (ts : List Th) : Prop where
  plot : PlotAt W E B p bs bb t
  mo : ∀ x, x ∈ ts → BlkW W x.b 36 (moc x.r x.mo).toArray
  rite : ∀ x, x ∈ ts → RiteIs W B x.r x.m x.K
  typed : ∀ x, x ∈ ts → Typed W x.K
  low : ∀ x, x ∈ ts → B ≤ x.b ∧ ¬ x.K bb
  own : ∀ x, x ∈ ts → ∀ y, y ∈ ts → ¬ y.K x.b
  apart : ts.Pairwise fun x y => x.b ≠ y.b ∧ ∀ b, ¬ (x.K b ∧ y.K b)
  hB : 8 ≤ B
section
variable {W W' : World} {E : Flt → Addr} {B p bs bb : Nat} {t : St} {ts : List Th}
theorem Typed.below {K : Nat → Prop} (h : Typed W K) (hb : Below W.heap.size W W') : Typed W' K := fun b hk => by
  obtain ⟨T, cs, h1, h2⟩ := h b hk
  exact ⟨T, cs, h1.below hb, h2⟩
theorem YL.start (h : PlotAt W E B p bs bb t) (hB : 8 ≤ B) : YL W E B p bs bb t [] :=
  ⟨h, fun _ hx => (by cases hx), fun _ hx => (by cases hx), fun _ hx => (by cases hx), fun _ hx => (by cases hx), fun _ hx => (by cases hx), .nil, hB⟩
theorem YL.below (h : YL W E B p bs bb t ts) (hb : Below W.heap.size W W') : YL W' E B p bs bb t ts :=
  ⟨h.plot.keep hb, fun x hx => (h.mo x hx).below hb, fun x hx => (h.rite x hx).below hb, fun x hx => (h.typed x hx).below hb, h.low, h.own, h.apart, h.hB⟩
/-- The row of mourners grows. -/
theorem YL.grown {v : Value} {n : Nat} {xs : List Value} (h : YL W E B p bs bb t ts) (hrow : W.ownsRow B 30 1 v n xs) (hg : W.grownBy W' v.ownBlock) : YL W' E B p bs bb t ts := by
  have ho : Off (fun j => v.ownBlock = some j) W W' := (Off.refl _ W).grown hg (fun k e => .inl e)
  have hT : ∀ j, v.ownBlock = some j → ∃ cs, BlkW W j 30 cs := fun j e => by
    rcases hrow.2 with ⟨rfl, _⟩ | ⟨g, cap, cur, rfl, _, hh, _⟩
    · simp [Value.ownBlock] at e
    · have e : g = j := by simpa [Value.ownBlock] using e
      subst e
      exact ⟨cur, hh⟩
  have ne : ∀ {g : Nat} {T : TypeId} {cs : Array Value}, BlkW W g T cs → T ≠ 30 → ¬ v.ownBlock = some g := fun hb hne e => by
    obtain ⟨cs', hb'⟩ := hT _ e
    exact BlkW.ne_ hb hb' hne rfl
  refine ⟨?_, fun x hx => ho.blk (h.mo x hx) (ne (h.mo x hx) (by decide)), fun x hx => (h.rite x hx).off ho fun b e k => ?_, fun x hx b hk => ?_, h.low, h.own, h.apart, h.hB⟩
  · obtain ⟨⟨v1, fv, hq⟩, o, L⟩ := h.plot
    obtain ⟨cs, hs, _⟩ := hq.slots.blk
    obtain ⟨cb, hbd, _⟩ := hq.brd.blk
    have hbel : Below B W W' := ho.below (fun j e => (hrow.lt j e).1) hq.base_lt
    refine ⟨⟨v1, fv, ⟨ho.blk hq.hp (ne hq.hp (by decide)), hq.slots.block (ho.block _ hq.lt.2.1 (ne hs (by decide))), hq.brd.block (ho.block _ hq.lt.2.2 (ne hbd (by decide))), own_off hq.free ho (fun g e k => ?_), hq.fault.keep (fun g cs hk => ho.block g hk.lt (ne hk (by decide))), hq.bp, hq.bbs, hq.bbb⟩⟩, o, L.below hbel h.hB⟩
    obtain ⟨cs', hb'⟩ := hT g k
    exact own_ne hq.free hb' (by decide) e
  · obtain ⟨T, cs, h1, h2⟩ := h.typed x hx b e
    exact ne h1 (by rcases h2 with rfl | rfl | rfl <;> decide) k
  · obtain ⟨T, cs, h1, h2⟩ := h.typed x hx b hk
    exact ⟨T, cs, ho.blk h1 (ne h1 (by rcases h2 with rfl | rfl | rfl <;> decide)), h2⟩
/-- One more mourner, whose rite and own block are new. -/
theorem YL.add (h : YL W E B p bs bb t ts) (hb : Below W.heap.size W W') {x : Th} (hm : BlkW W' x.b 36 (moc x.r x.mo).toArray) (hr : RiteIs W' B x.r x.m x.K) (ht : Typed W' x.K) (hbx : W.heap.size ≤ x.b) (hkx : ∀ b, x.K b → W.heap.size ≤ b) (hself : ¬ x.K x.b) : YL W' E B p bs bb t (ts ++ [x]) := by
  have hbase := plot_base h.plot
  have hbb := plot_bb h.plot
  have h' := h.below hb
  have mem : ∀ {y : Th}, y ∈ ts ++ [x] → y ∈ ts ∨ y = x := fun hy => by simpa using hy
  have lt : ∀ y, y ∈ ts → y.b < W.heap.size := fun y hy => (h.mo y hy).lt
  have klt : ∀ y, y ∈ ts → ∀ b, y.K b → b < W.heap.size := fun y hy b e => ((h.rite y hy).low b e).2
  refine ⟨h'.plot, fun y hy => ?_, fun y hy => ?_, fun y hy => ?_, fun y hy => ?_, fun y hy z hz => ?_, ?_, h.hB⟩
  · rcases mem hy with hy | rfl
    · exact h'.mo y hy
    · exact hm
  · rcases mem hy with hy | rfl
    · exact h'.rite y hy
    · exact hr
  · rcases mem hy with hy | rfl
    · exact h'.typed y hy
    · exact ht
  · rcases mem hy with hy | rfl
    · exact h'.low y hy
    · exact ⟨by omega, fun e => by have := hkx _ e; omega⟩
  · rcases mem hy with hy | hy <;> rcases mem hz with hz | hz
    · exact h.own y hy z hz
    · intro e; rw [hz] at e; have := hkx _ e; have := lt y hy; omega
    · intro e; rw [hy] at e; have := klt z hz _ e; omega
    · rw [hy, hz]; exact hself
  · refine List.pairwise_append.2 ⟨h.apart, List.pairwise_singleton _ _, fun y hy z hz => ?_⟩
    obtain rfl : z = x := by simpa using hz
    exact ⟨fun e => by have := lt y hy; omega, fun b e => by have := klt y hy b e.1; have := hkx b e.2; omega⟩
/-- The row is done. -/
theorem YL.done (h : YL W E B p bs bb t ts) {g : Nat} {gc : Array Value} (hg : BlkW W g 30 gc) : Yd W E B p bs bb t (ts.map fun x => { x with g := g, gc := gc }) := by
  have mem : ∀ {y : Th}, y ∈ ts.map (fun x => { x with g := g, gc := gc }) → ∃ x, x ∈ ts ∧ y = { x with g := g, gc := gc } := fun hy => by
    obtain ⟨x, hx, e⟩ := List.mem_map.1 hy
    exact ⟨x, hx, e.symm⟩
  refine ⟨h.plot, fun y hy => ?_, fun y hy => ?_, fun y hy => ?_, fun y hy z hz => ?_, ?_, h.hB, fun y hy => ?_⟩
  · obtain ⟨x, hx, rfl⟩ := mem hy; exact h.mo x hx
  · obtain ⟨x, hx, rfl⟩ := mem hy; exact h.rite x hx
  · obtain ⟨x, hx, rfl⟩ := mem hy; exact h.low x hx
  · obtain ⟨x, hx, rfl⟩ := mem hy
    obtain ⟨x', hx', rfl⟩ := mem hz
    exact h.own x hx x' hx'
  · exact List.pairwise_map.2 h.apart
  · obtain ⟨x, hx, rfl⟩ := mem hy; exact hg
end
/-- The plot of a yard, whose clock begins at 1. -/
def ydSt (slots : Nat) : St := ((St.new slots 85).step ⟨2, 0, 0, ((24 : Nat) : Int), zw, nw 1⟩).1
theorem era_can (slots : Nat) : (St.new slots 85).can ⟨2, 0, 0, ((24 : Nat) : Int), zw, nw 1⟩ = true := by
  refine can_cell _ _ (.inr (.inl rfl)) (.board 24) (loc_board _ 24 (by show 24 < 85; omega))
def newTh (e : Int) (n notes i r b g : Nat) (gc : Array Value) : Th := ⟨b, r, Rt.new e i n notes, Mo.new, fun j => j = r, g, gc⟩
def Fresh (e : Int) (n notes : Nat) (ts : List Th) : Prop := ∀ i, ∀ h : i < ts.length, ts[i].m = Rt.new e i n notes ∧ ts[i].mo = Mo.new
def ptrs (ts : List Th) : List Value := ts.map fun x => .pointer (some ⟨x.b, 0, none⟩)
theorem Era_agg (w : World) : Calls Tryz.prog 40 #[] w fun e w' => e = .returned (.agg #[.int .i64 0, .int .i64 0, .int .i64 24]) ∧ Below w.heap.size w w' := Bd.Era_any w
theorem do_era {w : World} {E : Flt → Addr} {B p bs bb slots : Nat} (h : PlotAt w E B p bs bb (St.new slots 85)) (hB : 8 ≤ B) :
    Calls Tryz.prog 24 #[.pointer (some ⟨p, 0, none⟩), .agg #[.int .i64 2, .int .i64 0, .int .i64 0, .int .i64 24, .int .i64 0, .int .i64 0, .int .i64 0, .int .i64 0, .bool false, .int .i64 0, .int .i64 0, .int .i64 0, .int .i64 1, .bool false]] w fun e w' => ∃ v, e = .returned (.tuple #[v, .nilIface]) ∧ Hid (PlotAt w' E B p bs bb (ydSt slots)) ∧ Hid (Below B w w') :=
  (do_is h hB (by show 0 < 900000; decide) ⟨2, 0, 0, ((24 : Nat) : Int), zw, nw 1⟩ (era_can slots)).mono fun e w' ⟨he, h1, h2, _⟩ => ⟨_, he, h1, h2⟩
theorem infoMo : (Tryz.prog.info? 30).map (fun i => (i.zero, i.size, i.bytes)) = some (some (.pointer none), 1, 8) := by kernel_rfl
/-- Amid the loop. -/
def YRel (w : World) (E : Flt → Addr) (B p bs bb : Nat) (t : St) (e : Int) (n notes : Nat) (lv vi : Value) (wr : World) : Prop :=
  ∃ (i : Nat) (ts : List Th), i ≤ n ∧ vi = .int .i64 (i : Int) ∧ ts.length = i ∧ YL wr E B p bs bb t ts ∧ Fresh e n notes ts ∧ wr.ownsRow B 30 1 lv i (ptrs ts) ∧ Below B w wr
/-- What a yard is. -/
def YardPost (w : World) (E : Flt → Addr) (e : Int) (n notes slots : Nat) (f : Ending) (w' : World) : Prop :=
  ∃ p bs bb g cap ts, f = .returned (.tuple #[.pointer (some ⟨p, 0, none⟩), .slice (some ⟨g, 0, none⟩) n cap]) ∧ ts.length = n ∧ Hid (Yd w' E w.heap.size p bs bb (ydSt slots) ts) ∧ Fresh e n notes ts ∧
    (∀ i, ∀ h : i < ts.length, ts[i].g = g ∧ ts[i].gc[i]? = some (.pointer (some ⟨ts[i].b, 0, none⟩))) ∧ Hid (Below w.heap.size w w')
set_option maxRecDepth 100000 in
set_option maxHeartbeats 4000000 in
theorem yard_is (E : Flt → Addr) (w : World) (L : Env w E) (e : Int) (n notes slots : Nat) (he : 1 ≤ e ∧ e ≤ 5) (hn : 1 ≤ n ∧ n ≤ 6) (hno : 1 ≤ notes ∧ notes ≤ 64) (hs : slots ≤ 1024) :
    Calls Tryz.prog 11 #[.int .i64 e, .int .i64 (n : Int), .int .i64 (notes : Int), .int .i64 (slots : Int)] w (YardPost w E e n notes slots) := by
  have HL := Lib.hid L
  have hB := L.size
  clear L
  go_enter Tryz.func11, Tryz.ntmps11
  go_wp2_with fail
  refine (Bd.Cells_any w).mono ?_
  rintro f w1 ⟨rfl, rfl⟩
  go_wp2_with fail
  refine (new_is HL.out slots 85 hs (by omega)).mono ?_
  rintro f w2 ⟨p, bs, bb, rfl, P2, C2, _, _⟩
  have B2 := Lib.hid C2.out
  clear C2
  go_wp2_with fail
  refine (Era_agg w2).mono ?_
  rintro f w3 ⟨rfl, hb3⟩
  have P3 := Lib.hid (P2.out.keep hb3)
  have B3 := Lib.hid (show Below w.heap.size w w3 from B2.out.trans (hb3.mono B2.out.size))
  clear hb3 P2 B2
  go_wp2_with fail
  refine (do_era P3.out hB).mono ?_
  rintro f w4 ⟨v, rfl, P4, C4⟩
  have B4 := Lib.hid (show Below w.heap.size w w4 from B3.out.trans C4.out)
  clear C4 P3 B3
  go_wp2
  go_loopw [12, 13] (YRel w E w.heap.size p bs bb (ydSt slots) e n notes) (fun _ i _ => n - (intOf i).toNat)
  case atStart =>
    exact ⟨0, [], by omega, rfl, rfl, (YL.start P4.out hB).below (below_alloc (Below.refl _ _) _), fun i h => (by simp at h), World.ownsRow_lit w4 #[] 0 B4.out.size (by simp [maxLen]) rfl, below_al B4.out (Nat.le_refl _) _⟩
  case round =>
    obtain ⟨i, ts, hi, rfl, hl, hY, hF, hown, hbel⟩ := hrel
    obtain ⟨wo, rfl⟩ : ∃ wo : World, wo = wr := ⟨_, rfl⟩
    have HY := Lib.hid hY
    have HF := Lib.hid hF
    have HO := Lib.hid hown
    have HB := Lib.hid hbel
    have HL := Lib.hid hl
    clear hY hF hown hbel hl P4 B4
    by_cases hlt : i < n
    · have j1 : (i : Int) < n := by omega
      go_wp2_with fail
      refine (New_is e i n notes he hn hlt hno wo).mono ?_
      rintro f w5 ⟨rfl, R5, C5⟩
      have H0 := Lib.hid (Sv.own_block HO.out (fun g e => C5.out.block g (HO.out.lt g e).2))
      have H1 := Lib.hid (H0.out.alloc (.cells (moc wo.heap.size Mo.new).toArray 36))
      have B5 := Lib.hid (show Below w.heap.size w w5 from HB.out.trans (C5.out.mono HB.out.size))
      have hsz := B5.out.size
      obtain ⟨i0, hi0, hz0, hz01, hz02⟩ := info_parts infoMo
      go_wp2_with (at_builtin; refine wpList_append_own_at _ rfl _ _ 27 rfl w.heap.size 30 i0 (.pointer none) 1 8 Tryz.underlying27 hi0 hz0 hz01 hz02 rfl (by decide) u12 _ _ (by rfl) (H1.out.alloc _) ⟨w5.heap.size + 1, 0, none⟩ 1 1 [.pointer (some ⟨w5.heap.size, 0, none⟩)] (by rfl) rfl ?c1 ?c2 ?c3 ?c4 ?c5 ?_)
      case c1 =>
        have := cell_one_new (w5.alloc (.cells (moc wo.heap.size Mo.new).toArray 36)) (.pointer (some ⟨w5.heap.size, 0, none⟩)) 30
        rw [World.size_alloc] at this
        exact this
      case c2 => intro u hu; simp at hu; subst hu; rfl
      case c3 => simp [maxLen]; omega
      case c4 => omega
      case c5 => simp only [World.size_alloc]; omega
      intro v' w6 hown' hgrow _ hat
      have hsz5 : wo.heap.size < w5.heap.size := (R5.out.low wo.heap.size rfl).2
      have Bx := below_alloc (below_alloc (Below.refl w5.heap.size w5) (.cells (moc wo.heap.size Mo.new).toArray 36)) (.cells #[.pointer (some ⟨w5.heap.size, 0, none⟩)] 30)
      have Y6 := Lib.hid ((HY.out.add (x := newTh e n notes i wo.heap.size w5.heap.size 0 #[]) (C5.out.trans (Bx.mono C5.out.size)) ((BlkW.new w5 _ _).alloc _) ⟨nilS, nilS, nilS, (R5.out.below Bx).lower HB.out.size⟩
        (fun b hb => by have hb : b = wo.heap.size := hb; subst hb; exact ⟨_, _, (R5.out.below Bx).at_, .inl rfl⟩) C5.out.size (fun b hb => Nat.le_of_eq (show b = wo.heap.size from hb).symm) (fun e => by have : w5.heap.size = wo.heap.size := e; omega)).grown (H1.out.alloc _) hgrow)
      have F6 := Lib.hid (show Fresh e n notes (ts ++ [newTh e n notes i wo.heap.size w5.heap.size 0 #[]]) from fun k hk => by
        by_cases hkl : k < ts.length
        · rw [List.getElem_append_left hkl]; exact HF.out k hkl
        · have hk' : k < ts.length + 1 := by simpa using hk
          have : k = ts.length := by omega
          subst this
          simp only [List.getElem_concat_length]
          rw [HL.out]
          exact ⟨rfl, rfl⟩)
      have O6 := Lib.hid (show w6.ownsRow w.heap.size 30 1 v' (i + 1) (ptrs (ts ++ [newTh e n notes i wo.heap.size w5.heap.size 0 #[]])) from by
        unfold ptrs at hown' ⊢
        rw [List.map_append]
        exact hown')
      have B6 := Lib.hid ((below_al (below_al B5.out (Nat.le_refl _) (.cells (moc wo.heap.size Mo.new).toArray 36)) (Nat.le_refl _) (.cells #[.pointer (some ⟨w5.heap.size, 0, none⟩)] 30)).grown hgrow (by simp only [World.size_alloc]; omega) (fun q e => (H1.out.lt q e).1))
      have L6 := Lib.hid (show (ts ++ [newTh e n notes i wo.heap.size w5.heap.size 0 #[]]).length = i + 1 by rw [List.length_append, HL.out]; rfl)
      generalize ts ++ [newTh e n notes i wo.heap.size w5.heap.size 0 #[]] = us at Y6 F6 O6 L6
      clear hown' hgrow hat Bx HY HF HO H0 H1 HL R5 C5
      go_wp2
      refine ⟨⟨i + 1, us, by omega, by go_num, L6.out, Y6.out, F6.out, O6.out, B6.out⟩, by simp [intOf]; omega⟩
    · obtain rfl : n = i := by omega
      rcases HO.out.2 with ⟨_, e0⟩ | ⟨g, cap, cur, rfl, hge, hblk, hnc, hcm, hcs, htk⟩
      · omega
      · go_wp2
        refine bodyPost_ret (v := .tuple #[.pointer (some ⟨p, 0, none⟩), .slice (some ⟨g, 0, none⟩) n cap]) (by simp [results, Tryz.results11, go_sem]) rfl ?_
        refine ⟨p, bs, bb, g, cap, ts.map fun x => { x with g := g, gc := cur }, rfl, by rw [List.length_map]; exact HL.out, Lib.hid (HY.out.done hblk), fun k hk => ?_, fun k hk => ?_, HB⟩
        · rw [List.getElem_map]
          exact HF.out k (by simpa using hk)
        · rw [List.getElem_map]
          refine ⟨rfl, ?_⟩
          have hk' : k < ts.length := by simpa using hk
          have h1 : (cur.toList.take (n * 1))[k]? = some (.pointer (some ⟨ts[k].b, 0, none⟩)) := by
            rw [htk]
            unfold ptrs
            rw [List.getElem?_map, List.getElem?_eq_getElem hk']
            rfl
          rw [List.getElem?_take_of_lt (by rw [← HL.out]; omega)] at h1
          show cur[k]? = _
          simpa using h1
end Go.Proofs.YtjilhncnbkaebaaGreatDoor
