/- The walk of SieveGuards. A template (fill.py). -/
import Derived.Test.YtlhhjbjdinimjaaSv
import Derived.Deep.RegionHeld3
import Derived.Deep.Cut
import Derived.Deep.DeepCutAuto
namespace Go.Proofs.Ytlhhjbjdinimjaa
open Go.RowKit Go.Extern.Stop Go.Stop Go.Extern Go.Sort

theorem own_nil_blk {w : World} {g k base : Nat} {e : TypeId} (h : BlkW w g e #[]) (hb : base ≤ g) : w.ownsRow base e k (.slice (some ⟨g, 0, none⟩) 0 0) 0 [] :=
  ⟨by simp, .inr ⟨g, 0, #[], rfl, hb, h, Nat.le_refl _, Nat.zero_le _, by simp, by simp⟩⟩
theorem blk_grown {w w' : World} {row : Option Nat} {g : Nat} {t : TypeId} {cs : Array Value} (h : BlkW w g t cs) (hg : w.grownBy w' row) (hne : some g ≠ row) : BlkW w' g t cs := (hg.block g h.lt hne).trans h
theorem own_drew {w : World} {b m size : Nat} {T : TypeId} {u : Value} {xs : List Value} (h : w.ownsRow b T size u m xs) : w.drew.ownsRow b T size u m xs := h
theorem low_alloc {W X : World} (h : Below W.heap.size W X) (o : Obj) : Below W.heap.size W (X.alloc o) := below_alloc h o
theorem low_alloc_drew {W X : World} (h : Below W.heap.size W X) (o : Obj) : Below W.heap.size W (X.alloc o).drew := (below_alloc h o).drew
theorem three_keep {W w' : World} {a b : Addr} {u v : Value} (h1 : W.cell? a = some u) (h2 : W.cell? b = some v) (h : Below W.heap.size W w') : w'.cell? a = some u ∧ w'.cell? b = some v ∧ Below W.heap.size W w' := ⟨keep_cell h1 h, keep_cell h2 h, h⟩
theorem five_keep {W w' : World} {a b c d : Addr} {t u v x : Value} (h1 : W.cell? a = some t) (h2 : W.cell? b = some u) (h3 : W.cell? c = some v) (h4 : W.cell? d = some x) (h : Below W.heap.size W w') : w'.cell? a = some t ∧ w'.cell? b = some u ∧ w'.cell? c = some v ∧ w'.cell? d = some x ∧ Below W.heap.size W w' := ⟨keep_cell h1 h, keep_cell h2 h, keep_cell h3 h, keep_cell h4 h, h⟩
theorem sc3 {w : World} {g : Nat} {t : TypeId} {s : Sp} (h : BlkW w g t (sc s).toArray) : w.cell? ⟨g, 0, none⟩ = some (.bool s.is) ∧ w.cell? ⟨g, 1, none⟩ = some (.int .i64 s.low) ∧ w.cell? ⟨g, 2, none⟩ = some (.int .i64 s.high) := ⟨h.cell 0, h.cell 1, h.cell 2⟩
def meetB (s : Sp) (n : Nt) : Bool := s.is && decide (n.birth ≤ n.death) && decide (s.low ≤ s.high) && (decide (n.birth ≤ s.low) && decide (s.low ≤ n.death) || decide (s.low ≤ n.birth) && decide (n.birth ≤ s.high))
theorem meet_keeps (s : Sp) (n : Nt) (h : meetB s n = true) : spanK s n = true := by
  unfold meetB at h; unfold spanK
  simp only [Bool.and_eq_true, Bool.or_eq_true, decide_eq_true_eq] at h ⊢
  obtain ⟨⟨⟨h1, h2⟩, h3⟩, h4⟩ := h
  exact ⟨⟨h1, by omega⟩, by omega⟩
theorem guard_slot (ks : List Wd) (n : Nt) (x y z : Int) (m : Bool) : ([n].filter fun n => !slotP (ks ++ [⟨n.ref.slot, x, y, z, m⟩]) n) = [] := by
  simp [slotP, slotK]
theorem guard_slot' (ks : List Wd) (n : Nt) (x y z : Int) (m : Bool) : ([n].filter fun k => !slotP (ks ++ [⟨n.ref.slot, x, y, z, m⟩]) k) = [] := by
  simp [slotP, slotK]
theorem guard_era (ks : List Int) (n : Nt) (e : Int) (h : eraK e n = true) : ([n].filter fun k => !eraP (ks ++ [e]) k) = [] := by
  simp [eraP, h]
theorem guard_span (ks : List Sp) (n : Nt) (s : Sp) (h : spanK s n = true) : ([n].filter fun k => !spanP (ks ++ [s]) k) = [] := by
  simp [spanP, h]
theorem row_app {α : Type} {c : α → List Value} {k : Nat} (hk : ∀ a, (c a).length = k) {w : World} {b : Nat} {T : TypeId} {u : Value} {xs ys : List α} (h : w.ownsRow b T k u (xs.length + ys.length) (flat c xs ++ flat c ys)) : RowC c k w u (xs ++ ys) := by
  refine own_row hk (b := b) (T := T) ?_
  rw [flat_app, List.length_append]
  exact h
theorem infoWord : (Try.prog.info? 37).map (fun i => (i.zero, i.size, i.bytes)) = some (some (.agg #[.int .i64 0, .int .i64 0, .int .i64 0, .int .i64 0, .bool false]), 5, 40) := by kernel_rfl
/-- What a part of one note by spans leaves. -/
def SpanRel (W : World) (s : Sp) (n : Nt) (v : Value) (w' : World) : Prop := ∃ aa ac lc, v = .slice aa lc ac ∧ (spanK s n = true → lc = 0) ∧ Below W.heap.size W w'
theorem span_rel {u3 : World} {s : Sp} {n : Nt} {ks : List Sp} {a : Value} (h : RowC nc 7 u3 a ([n].filter fun k => !spanP (ks ++ [⟨s.is, s.low, s.high⟩]) k)) : ∃ aa ac lc, a = .slice aa lc ac ∧ (spanK s n = true → lc = 0) := by
  obtain ⟨aa, ac, e⟩ := h.slice
  exact ⟨aa, ac, _, e, fun hs => by rw [guard_span ks n ⟨s.is, s.low, s.high⟩ hs]; rfl⟩
/-- Whether a span meets a note's life, as the law tells it. -/
def MeetRel (W : World) (s : Sp) (n : Nt) (v : Value) (w' : World) : Prop := ∃ m : Bool, v = .bool m ∧ (m = true → spanK s n = true) ∧ W = w'
/-- What a part of one note leaves, as the law uses it. -/
def OneRel (W : World) (s : Value) (w' : World) : Prop := ∃ aa ac, s = .slice aa 0 ac ∧ Below W.heap.size W w'
set_option maxRecDepth 100000 in
set_option maxHeartbeats 8000000 in
theorem guards_any (n : Nt) (era : Int) (s : Sp) (k : Kp) (w : World) (hk : KpAt w k) : Calls Try.prog 5 #[nv n, .int .i64 era, sv s, kv k] w (True1 w) := by
  obtain ⟨i0, hi0, hz0, hs0, hy0⟩ := info_parts infoInt
  obtain ⟨i3, hi3, hz3, hs3, hy3⟩ := info_parts infoSpan
  obtain ⟨i5, hi5, hz5, hs5, hy5⟩ := info_parts infoWord
  obtain ⟨n1, n2, n3⟩ := blk3 w (nc n).toArray (sc s).toArray #[k.vs, k.ve, k.vp, .int .i64 k.now] 39 41 27
  have HN := Lib.hid n1
  have HS := Lib.hid n2
  have HX := Lib.hid n3
  have B0 := Lib.hid (below_alloc (below_alloc (below_alloc (Below.refl w.heap.size w) (.cells (nc n).toArray 39)) (.cells (sc s).toArray 41)) (.cells #[k.vs, k.ve, k.vp, .int .i64 k.now] 27))
  have HK := Lib.hid (hk.keep B0.out)
  clear n1 n2 n3
  by_cases hs : k.Small
  · have G := Lib.hid (fun W v h1 h2 => great_no v [n] k W h1 h2 (by simp) hs)
    have hs' : k.slots.length ≤ 60 ∧ k.eras.length ≤ 60 ∧ k.spans.length ≤ 60 := hs
    unfold kv at G ⊢
    obtain ⟨vs, ve, vp, sl, er, sp, now⟩ := k
    dsimp only at G HX HK B0 hs' ⊢
    obtain ⟨l1, l2, l3⟩ := hs'
    clear hk hs
    obtain ⟨a1, c1, e1⟩ := HK.out.slots.slice
    obtain ⟨a2, c2, e2⟩ := HK.out.eras.slice
    obtain ⟨a3, c3, e3⟩ := HK.out.spans.slice
    dsimp only at e1 e2 e3
    subst e1 e2 e3
    unfold nv sv
    go_enter Try.func5, Try.ntmps5
    go_wp2_with fail
    refine (awake_true _).mono ?_
    rintro e w1 ⟨rfl, hb⟩
    replace B0 := Lib.hid (below_trans B0.out hb)
    replace HX := Lib.hid (HX.out.below hb)
    replace HN := Lib.hid (HN.out.below hb)
    replace HS := Lib.hid (HS.out.below hb)
    replace HK := Lib.hid (HK.out.keep hb)
    obtain ⟨q0, q1, q2, q3⟩ := cell4 HX.out
    obtain ⟨p0, p1, p2, p3, p4, p5, p6⟩ := cell7 HN.out
    have z1 := HN.out.lt
    have z2 := HX.out.lt
    have bx := Lib.hid (below_alloc (Below.refl w1.heap.size w1) (.cells (nc n).toArray 39))
    have RL := Lib.hid (row_lit nc_len (cap := 1) (xs := [n]) (BlkW.new w1 39 (flat nc [n]).toArray) (Nat.le_refl 1))
    rw [show (flat nc [n]).toArray = (nc n).toArray by simp [flat]] at RL
    clear hb
    go_wp2_with fail
    refine (G.out _ _ RL.out (HK.out.keep bx.out)).mono ?_
    rintro e w2 ⟨rfl, hb⟩
    have hy := below_trans bx.out hb
    replace B0 := Lib.hid (below_trans B0.out hy)
    replace HX := Lib.hid (HX.out.below hy)
    replace HN := Lib.hid (HN.out.below hy)
    replace HS := Lib.hid (HS.out.below hy)
    replace HK := Lib.hid (HK.out.keep hy)
    replace RL := Lib.hid (RL.out.keep hb)
    generalize w1.heap.size = gl at RL ⊢
    clear hb hy bx G q0 q1 q2 q3 p0 p1 p2 p3 p4 p5 p6 z1 z2
    have q0 := (cell4 HX.out).1
    have p0 := (cell7 HN.out).1
    generalize w.heap.size = gn at HN HS HX q0 p0 ⊢
    have C0 := Lib.hid q0
    have C1 := Lib.hid p0
    go_upto_region 6 with (fail)
    go_cut [10] (fun s10 wx => OneRel w2 s10 wx)
    case first =>
      go_region_held3 (fun w' => w'.cell? ⟨gn + 1 + 1, 0, none⟩ = some (.slice a1 sl.length c1) ∧ w'.cell? ⟨gn, 0, none⟩ = some (.int .i64 n.ref.slot) ∧ Below w2.heap.size w2 w')
        ((go_split_ands
          refine three_keep C0.out C1.out ?_
          first | exact (Below.refl _ _).drew | exact low_alloc (by assumption) _ | exact low_alloc_drew (by assumption) _ | exact Below.drew (by assumption) | assumption))
        (first
          | (go_at_call 11; go_split_ands; refine (Slots_any _ _ [n] (sl ++ [⟨n.ref.slot, 7, 3, 0, false⟩]) _ (RL.out.keep (by assumption)) (row_app wc_len (b := w2.heap.size) (T := 37) (by simpa using ho2)) (by simp) (by simp; omega)).mono ?_; rintro e u3 ⟨a, a', rfl, ra, _, hb3⟩; have hB3 : Below w2.heap.size w2 u3 := below_trans (by assumption) hb3.out)
          | (go_split_ands; refine step_append_row _ wc_len (by decide) wc_one rfl (.tmp 26) (.tmp 28) 23 rfl w2.heap.size 37 i5 _ 40 Try.underlying23 hi5 hz5 hs5 hy5 rfl _ 0 [] (by rfl) (own_nil_blk (by first | exact BlkW.new _ _ _ | exact blk_drew (BlkW.new _ _ _) | exact (blk2 _ _ _ _ _).1 | exact (blk2 _ _ _ _ _).2 | exact blk_drew (blk2 _ _ _ _ _).1 | exact blk_drew (blk2 _ _ _ _ _).2) (by first | exact Nat.le_refl _ | exact Nat.le_succ _ | (simp; done) | (simp; omega))) _ sl (by rfl) (HK.out.slots.keep (by assumption)) (by simp only [maxLen]; omega) (by omega) (Below.size (by assumption)) ?_; rintro v1 u1 ⟨ho1, hg1, ha1, hl1⟩; have hB1 : Below w2.heap.size w2 u1 := hl1 w2 (by assumption))
          | (go_split_ands; (refine step_append_row _ wc_len (by decide) wc_one rfl (.tmp 29) (.tmp 34) 23 rfl w2.heap.size 37 i5 _ 40 Try.underlying23 hi5 hz5 hs5 hy5 rfl _ (0 + sl.length) ([] ++ flat wc sl) (by rfl) ?ow _ [⟨n.ref.slot, 7, 3, 0, false⟩] (by rfl) ?ro ?le1 ?le2 ?le3 ?_); (case ow => (first | exact ho1 | exact own_drew ho1 | exact ho1.alloc _ | exact own_drew (ho1.alloc _) | exact (own_drew ho1).alloc _)); (case ro => (refine row_lit wc_len (cap := 1) (xs := [⟨n.ref.slot, 7, 3, 0, false⟩]) (t := 37) ?_ (Nat.le_refl 1); first | exact BlkW.new _ _ _ | exact blk_drew (BlkW.new _ _ _) | (refine blk_grown ?_ hg1 (by simp [Value.ownBlock]); (first | exact BlkW.new _ _ _ | exact blk_drew (BlkW.new _ _ _) | exact (blk2 _ _ _ _ _).1 | exact (blk2 _ _ _ _ _).2 | exact blk_drew (blk2 _ _ _ _ _).1 | exact blk_drew (blk2 _ _ _ _ _).2)))); (case le1 => simp only [maxLen, List.length_cons, List.length_nil]; omega); (case le2 => simp only [List.length_cons, List.length_nil]; omega); (case le3 => exact Below.size (by assumption)); rintro v2 u2 ⟨ho2, hg2, ha2, hl2⟩; have hB2 : Below w2.heap.size w2 u2 := hl2 w2 (by assumption)))
      all_goals
        rw [guard_slot'] at ra
        obtain ⟨aa, ac, rfl⟩ := ra.out.slice
        have HB3 := Lib.hid hB3
        clear hB1 hB2 hB3 ho1 ho2 hg1 hg2 ha1 ha2 hl1 hl2 hb3
        go_wp2_with fail
        go_meet
        exact ⟨aa, ac, rfl, HB3.out⟩
    case rest =>
      obtain ⟨aa, ac, rfl, hb⟩ := hcut
      replace B0 := Lib.hid (below_trans B0.out hb)
      replace HX := Lib.hid (HX.out.below hb)
      replace HN := Lib.hid (HN.out.below hb)
      replace HS := Lib.hid (HS.out.below hb)
      replace HK := Lib.hid (HK.out.keep hb)
      replace RL := Lib.hid (RL.out.keep hb)
      clear hb q0 p0 C0 C1
      obtain ⟨w3, hw3⟩ : ∃ w3 : World, w3 = wc := ⟨_, rfl⟩
      subst hw3
      have q1 := (cell4 HX.out).2.1
      have zX := HX.out.lt
      have BE := Lib.hid (below_alloc (Below.refl w3.heap.size w3) (.cells #[] 3))
      have RE := Lib.hid (show RowC ic 1 w3 (.slice a2 er.length c2) er from HK.out.eras)
      have OE := Lib.hid (own_empty w3 3 1 w3.heap.size (Nat.le_refl _))
      go_wp2_with (at_builtin; refine wpList_append_row _ ic_len (by decide) ic_one rfl _ _ 24 rfl w3.heap.size 3 i0 _ 8 Try.underlying24 hi0 hz0 hs0 hy0 rfl _ 0 [] (by rfl) OE.out _ er (by rfl) (RE.out.keep BE.out) ?d1 ?d2 ?d3 ?_)
      case d1 => simp only [maxLen]; omega
      case d2 => omega
      case d3 => exact BE.out.size
      rintro v4 w4 ⟨ho4, hg4, ha4, hl4⟩
      have B4 := Lib.hid (hl4 w3 BE.out)
      have O4 := Lib.hid ho4
      have BY := Lib.hid (below_alloc (Below.refl w4.heap.size w4) (.cells #[.int .i64 era] 3))
      clear ho4 hg4 ha4 hl4 BE OE q1 RE zX
      go_wp2_with (at_builtin; refine wpList_append_row _ ic_len (by decide) ic_one rfl _ _ 24 rfl w3.heap.size 3 i0 _ 8 Try.underlying24 hi0 hz0 hs0 hy0 rfl _ _ _ (by rfl) (O4.out.alloc _) _ [era] (by rfl) (row_lit ic_len (cap := 1) (t := 3) (BlkW.new w4 3 (flat ic [era]).toArray) (Nat.le_refl 1)) ?d4 ?d5 ?d6 ?_)
      case d4 => simp only [maxLen, List.length_cons, List.length_nil]; omega
      case d5 => simp only [List.length_cons, List.length_nil]; omega
      case d6 => exact Nat.le_trans B4.out.size BY.out.size
      rintro v5 w5 ⟨ho5, hg5, ha5, hl5⟩
      have B5 := Lib.hid (hl5 w3 (B4.out.trans (BY.out.mono B4.out.size)))
      have O5 := Lib.hid (row_app ic_len (b := w3.heap.size) (T := 3) (xs := er) (ys := [era]) (by simpa using ho5))
      clear ho5 hg5 ha5 hl5 O4 BY B4
      go_wp2_with fail
      refine (Eras_any _ _ [n] (er ++ [era]) _ (RL.out.keep B5.out) O5.out (by simp) (by simp; omega)).mono ?_
      rintro e w6 ⟨b, b', rfl, rb, _, hb⟩
      have hy := below_trans B5.out hb.out
      replace B0 := Lib.hid (below_trans B0.out hy)
      replace HX := Lib.hid (HX.out.below hy)
      replace HN := Lib.hid (HN.out.below hy)
      replace HS := Lib.hid (HS.out.below hy)
      replace HK := Lib.hid (HK.out.keep hy)
      replace RL := Lib.hid (RL.out.keep hy)
      obtain ⟨ba, bc, eb⟩ := rb.out.slice
      obtain ⟨lb, hlb⟩ : ∃ lb, lb = ([n].filter fun k => !eraP (er ++ [era]) k).length := ⟨_, rfl⟩
      have LB := Lib.hid (show eraK era n = true → lb = 0 from fun h => by rw [hlb, guard_era er n era h]; rfl)
      rw [← hlb] at eb
      subst eb
      clear hb hy hlb rb O5 B5
      have q2 := (cell4 HX.out).2.2.1
      obtain ⟨r0, r1, r2⟩ := sc3 HS.out
      have C2 := Lib.hid q2
      have D0 := Lib.hid r0
      have D1 := Lib.hid r1
      have D2 := Lib.hid r2
      go_upto_region 8 with (fail)
      go_cut [14] (fun s14 wx => SpanRel w6 s n s14 wx)
      case first =>
        go_region_held3 (fun w' => w'.cell? ⟨gn + 1 + 1, 2, none⟩ = some (.slice a3 sp.length c3) ∧ w'.cell? ⟨gn + 1, 0, none⟩ = some (.bool s.is) ∧ w'.cell? ⟨gn + 1, 1, none⟩ = some (.int .i64 s.low) ∧ w'.cell? ⟨gn + 1, 2, none⟩ = some (.int .i64 s.high) ∧ Below w6.heap.size w6 w')
          ((go_split_ands
            refine five_keep C2.out D0.out D1.out D2.out ?_
            first | exact (Below.refl _ _).drew | exact low_alloc (by assumption) _ | exact low_alloc_drew (by assumption) _ | exact Below.drew (by assumption) | assumption))
          (first
            | (go_at_call 13; go_split_ands; refine (Spans_any _ _ [n] (sp ++ [⟨s.is, s.low, s.high⟩]) _ (RL.out.keep (by assumption)) (row_app sc_len (b := w6.heap.size) (T := 41) (by simpa using ho2)) (by simp) (by simp; omega)).mono ?_; rintro e u3 ⟨a, a', rfl, ra, _, hb3⟩; have hB3 : Below w6.heap.size w6 u3 := below_trans (by assumption) hb3.out)
            | (go_split_ands; refine step_append_row _ sc_len (by decide) sc_one rfl (.tmp 53) (.tmp 55) 25 rfl w6.heap.size 41 i3 _ 24 Try.underlying25 hi3 hz3 hs3 hy3 rfl _ 0 [] (by rfl) (own_nil_blk (by first | exact BlkW.new _ _ _ | exact blk_drew (BlkW.new _ _ _) | exact (blk2 _ _ _ _ _).1 | exact (blk2 _ _ _ _ _).2 | exact blk_drew (blk2 _ _ _ _ _).1 | exact blk_drew (blk2 _ _ _ _ _).2) (by first | exact Nat.le_refl _ | exact Nat.le_succ _ | (simp; done) | (simp; omega))) _ sp (by rfl) (HK.out.spans.keep (by assumption)) (by simp only [maxLen]; omega) (by omega) (Below.size (by assumption)) ?_; rintro v1 u1 ⟨ho1, hg1, ha1, hl1⟩; have hB1 : Below w6.heap.size w6 u1 := hl1 w6 (by assumption))
            | (go_split_ands; (refine step_append_row _ sc_len (by decide) sc_one rfl (.tmp 56) (.tmp 58) 25 rfl w6.heap.size 41 i3 _ 24 Try.underlying25 hi3 hz3 hs3 hy3 rfl _ (0 + sp.length) ([] ++ flat sc sp) (by rfl) ?ow _ [⟨s.is, s.low, s.high⟩] (by rfl) ?ro ?le1 ?le2 ?le3 ?_); (case ow => (first | exact ho1 | exact own_drew ho1 | exact ho1.alloc _ | exact own_drew (ho1.alloc _) | exact (own_drew ho1).alloc _)); (case ro => (refine row_lit sc_len (cap := 1) (xs := [⟨s.is, s.low, s.high⟩]) (t := 41) ?_ (Nat.le_refl 1); first | exact BlkW.new _ _ _ | exact blk_drew (BlkW.new _ _ _) | (refine blk_grown ?_ hg1 (by simp [Value.ownBlock]); (first | exact BlkW.new _ _ _ | exact blk_drew (BlkW.new _ _ _) | exact (blk2 _ _ _ _ _).1 | exact (blk2 _ _ _ _ _).2 | exact blk_drew (blk2 _ _ _ _ _).1 | exact blk_drew (blk2 _ _ _ _ _).2)))); (case le1 => simp only [maxLen, List.length_cons, List.length_nil]; omega); (case le2 => simp only [List.length_cons, List.length_nil]; omega); (case le3 => exact Below.size (by assumption)); rintro v2 u2 ⟨ho2, hg2, ha2, hl2⟩; have hB2 : Below w6.heap.size w6 u2 := hl2 w6 (by assumption)))
        all_goals
          have HB3 := Lib.hid hB3
          have HR := Lib.hid (span_rel (s := s) ra.out)
          obtain ⟨aa', ac', lc, ea, hlc⟩ := HR.out
          have HLC := Lib.hid hlc
          subst ea
          clear hB1 hB2 hB3 ho1 ho2 hg1 hg2 ha1 ha2 hl1 hl2 hb3 hlc ra HR
          go_wp2_with fail
          go_meet
          exact ⟨aa', ac', lc, rfl, HLC.out, HB3.out⟩
      case rest =>
        obtain ⟨ca, cc, lc, rfl, hlc, hb⟩ := hcut
        have HLC := Lib.hid hlc
        replace B0 := Lib.hid (below_trans B0.out hb)
        replace HN := Lib.hid (HN.out.below hb)
        replace HS := Lib.hid (HS.out.below hb)
        clear hb hlc HX HK RL q2 r0 r1 r2 C2 D0 D1 D2
        obtain ⟨w7, hw7⟩ : ∃ w7 : World, w7 = wc := ⟨_, rfl⟩
        subst hw7
        have p5 := (cell7 HN.out).2.2.2.2.2.1
        have p6 := (cell7 HN.out).2.2.2.2.2.2
        obtain ⟨r0, r1, r2⟩ := sc3 HS.out
        go_upto_region 9 with (fail)
        go_cut [86] (fun s86 wx => s86 = .bool false ∧ w7 = wx)
        case first =>
          have hcs : ¬ 0 < era ∨ (0 < era ∧ ¬ n.birth ≤ era) ∨ (0 < era ∧ n.birth ≤ era ∧ ¬ era ≤ n.death) ∨ (0 < era ∧ n.birth ≤ era ∧ era ≤ n.death) := by omega
          clear r0 r1 r2 hi0 hz0 hs0 hy0 hi3 hz3 hs3 hy3 hi5 hz5 hs5 hy5
          rcases hcs with h | ⟨h, h'⟩ | ⟨h, h', h''⟩ | ⟨h, h', h''⟩
          · go_wp2
            go_meet
            exact ⟨rfl, rfl⟩
          · go_wp2
            go_meet
            exact ⟨rfl, rfl⟩
          · go_wp2
            go_meet
            exact ⟨rfl, rfl⟩
          · obtain rfl : lb = 0 := LB.out (by simp [eraK, h, h', h''])
            go_wp2
            go_meet
            exact ⟨rfl, rfl⟩
        case rest =>
          obtain ⟨rfl, rfl⟩ := hcut
          go_upto_region 11 with (fail)
          go_cut [16] (fun s16 wx => MeetRel w7 s n s16 wx)
          case first =>
            clear hi0 hz0 hs0 hy0 hi3 hz3 hs3 hy3 hi5 hz5 hs5 hy5
            obtain ⟨is, lo, hi⟩ := s
            dsimp only at r0 r1 r2
            cases is with
            | false =>
              go_wp2
              go_meet
              exact ⟨false, rfl, (fun h => by cases h), rfl⟩
            | true =>
              have hcs : ¬ n.birth ≤ n.death ∨ (n.birth ≤ n.death ∧ ¬ lo ≤ hi) ∨ (n.birth ≤ n.death ∧ lo ≤ hi ∧ n.birth ≤ lo ∧ lo ≤ n.death) ∨ (n.birth ≤ n.death ∧ lo ≤ hi ∧ n.birth ≤ lo ∧ ¬ lo ≤ n.death ∧ lo ≤ n.birth ∧ n.birth ≤ hi) ∨
                  (n.birth ≤ n.death ∧ lo ≤ hi ∧ n.birth ≤ lo ∧ ¬ lo ≤ n.death ∧ lo ≤ n.birth ∧ ¬ n.birth ≤ hi) ∨ (n.birth ≤ n.death ∧ lo ≤ hi ∧ n.birth ≤ lo ∧ ¬ lo ≤ n.death ∧ ¬ lo ≤ n.birth) ∨
                  (n.birth ≤ n.death ∧ lo ≤ hi ∧ ¬ n.birth ≤ lo ∧ lo ≤ n.birth ∧ n.birth ≤ hi) ∨ (n.birth ≤ n.death ∧ lo ≤ hi ∧ ¬ n.birth ≤ lo ∧ lo ≤ n.birth ∧ ¬ n.birth ≤ hi) ∨ (n.birth ≤ n.death ∧ lo ≤ hi ∧ ¬ n.birth ≤ lo ∧ ¬ lo ≤ n.birth) := by omega
              rcases hcs with h1 | ⟨h1, h2⟩ | ⟨h1, h2, h3, h4⟩ | ⟨h1, h2, h3, h4, h5, h6⟩ | ⟨h1, h2, h3, h4, h5, h6⟩ | ⟨h1, h2, h3, h4, h5⟩ | ⟨h1, h2, h3, h4, h5⟩ | ⟨h1, h2, h3, h4, h5⟩ | ⟨h1, h2, h3, h4⟩
              all_goals first | (exfalso; omega) | skip
              all_goals
                go_wp2
                go_meet
                first
                  | exact ⟨false, rfl, (fun h => by cases h), rfl⟩
                  | exact ⟨true, rfl, (fun _ => by simp only [spanK, Bool.and_eq_true, decide_eq_true_eq, true_and]; exact ⟨by omega, by omega⟩), rfl⟩
          case rest =>
            obtain ⟨m, rfl, hm, rfl⟩ := hcut
            cases m with
            | true =>
              obtain rfl : lc = 0 := HLC.out (hm rfl)
              clear hm
              go_wp2
              go_ret
              exact ⟨rfl, B0.out⟩
            | false =>
              clear hm
              go_wp2
              go_ret
              exact ⟨rfl, B0.out⟩
  · have G := Lib.hid (fun W v h1 h2 => great_yes v [n] k W h1 h2 (fun h => hs h.2))
    unfold kv at G ⊢
    obtain ⟨vs, ve, vp, sl, er, sp, now⟩ := k
    dsimp only at G HX HK B0 ⊢
    clear hk hs
    obtain ⟨a1, c1, e1⟩ := HK.out.slots.slice
    obtain ⟨a2, c2, e2⟩ := HK.out.eras.slice
    obtain ⟨a3, c3, e3⟩ := HK.out.spans.slice
    dsimp only at e1 e2 e3
    subst e1 e2 e3
    unfold nv sv
    go_enter Try.func5, Try.ntmps5
    go_wp2_with fail
    refine (awake_true _).mono ?_
    rintro e w1 ⟨rfl, hb⟩
    replace B0 := Lib.hid (below_trans B0.out hb)
    replace HX := Lib.hid (HX.out.below hb)
    replace HN := Lib.hid (HN.out.below hb)
    replace HK := Lib.hid (HK.out.keep hb)
    obtain ⟨q0, q1, q2, q3⟩ := cell4 HX.out
    obtain ⟨p0, p1, p2, p3, p4, p5, p6⟩ := cell7 HN.out
    have z1 := HN.out.lt
    have z2 := HX.out.lt
    have bx := Lib.hid (below_alloc (Below.refl w1.heap.size w1) (.cells (nc n).toArray 39))
    have RL := Lib.hid (row_lit nc_len (cap := 1) (xs := [n]) (BlkW.new w1 39 (flat nc [n]).toArray) (Nat.le_refl 1))
    rw [show (flat nc [n]).toArray = (nc n).toArray by simp [flat]] at RL
    clear hb
    go_wp2_with fail
    refine (G.out _ _ RL.out (HK.out.keep bx.out)).mono ?_
    rintro e w2 ⟨rfl, hb⟩
    replace B0 := Lib.hid (below_trans B0.out (below_trans bx.out hb))
    clear hb q0 q1 q2 q3 p0 p1 p2 p3 p4 p5 p6 z1 z2 G
    go_wp2
    go_ret
    exact ⟨rfl, B0.out⟩
end Go.Proofs.Ytlhhjbjdinimjaa
