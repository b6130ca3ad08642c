/- The walk of PlotOnce. A template (made by gen_XOnce.py). -/
import Derived.Test.YtkaplagbcnkflaaDoorOnceMod
import Derived.Test.YtkaplagbcnkflaaDoorStays
namespace Go.Proofs.YtkaplagbcnkflaaDoor
open Go.RowKit Go.Extern.Stop Go.Stop Go.Extern Go.Sort
def flatW : List Wd → List Value
  | [] => []
  | d :: r => wc d ++ flatW r
theorem flatW_len : ∀ G : List Wd, (flatW G).length = G.length * 5
  | [] => rfl
  | d :: r => by rw [flatW, List.length_append, flatW_len r, List.length_cons]; show 5 + _ = _; omega
theorem flatW_snoc : ∀ (G : List Wd) (d : Wd), flatW (G ++ [d]) = flatW G ++ wc d
  | [], d => by simp [flatW]
  | e :: r, d => by rw [List.cons_append, flatW, flatW_snoc r d, flatW, List.append_assoc]
theorem flatW_at : ∀ (G : List Wd) (k c : Nat) (h : k < G.length), c < 5 → (flatW G)[k * 5 + c]? = (wc G[k])[c]?
  | [], k, _, h, _ => absurd h (Nat.not_lt_zero _)
  | d :: r, 0, c, _, hc => by rw [flatW, List.getElem?_append_left (by show 0 * 5 + c < 5; omega)]; simp
  | d :: r, k + 1, c, h, hc => by
    rw [flatW, List.getElem?_append_right (by show 5 ≤ (k + 1) * 5 + c; omega)]
    have := flatW_at r k c (by simpa using h) hc
    rw [show (k + 1) * 5 + c - (wc d).length = k * 5 + c by show (k + 1) * 5 + c - 5 = _; omega, this]
    simp
/-- The array of the generations in which slots are used. -/
def UArr (w : World) (ub : Nat) (U : Nat → Int) : Prop := ∃ cs, BlkW w ub 31 cs ∧ cs.size = 13 ∧ ∀ s, s < 13 → cs[s]? = some (.int .i64 (U s))
section
variable {w w' : World} {E : Flt → Addr} {B p bs bb : Nat} {t : St} {ub : Nat} {U : Nat → Int}
theorem UArr.cell (h : UArr w ub U) {s : Nat} (hs : s < 13) : w.cell? ⟨ub, s, none⟩ = some (.int .i64 (U s)) := by
  obtain ⟨cs, h1, _, h3⟩ := h
  rw [h1.cell]; exact h3 s hs
theorem UArr.frozen (h : UArr w ub U) (s : Nat) : w.frozen? ⟨ub, s, none⟩ = false := by
  obtain ⟨cs, h1, _, _⟩ := h
  exact h1.frozen s
theorem UArr.lt (h : UArr w ub U) : ub < w.heap.size := by
  obtain ⟨cs, h1, _, _⟩ := h
  exact h1.lt
theorem UArr.set (h : UArr w ub U) (s : Nat) (n : Int) : UArr (w.setCell ⟨ub, s, none⟩ (.int .i64 n)) ub (fun k => if k = s then n else U k) := by
  obtain ⟨cs, h1, h2, h3⟩ := h
  refine ⟨_, h1.set s _, by simpa using h2, fun k hk => ?_⟩
  rw [Array.getElem?_setIfInBounds]
  by_cases e : s = k
  · subst e; simp [h2, hk]
  · rw [if_neg e]
    show cs[k]? = some (.int .i64 (if k = s then n else U k))
    rw [if_neg (fun x => e (Eq.symm x))]; exact h3 k hk
theorem UArr.below (h : UArr w ub U) (hb : Below w.heap.size w w') : UArr w' ub U := by
  obtain ⟨cs, h1, h2, h3⟩ := h
  exact ⟨cs, h1.below hb, h2, h3⟩
theorem UArr.kept (h : UArr w ub U) (hp : PlotAt w E B p bs bb t) (k : Kept p bs bb w w') : UArr w' ub U := by
  obtain ⟨cs, h1, h2, h3⟩ := h
  have hq := hp
  obtain ⟨⟨v, fv, hq⟩, _⟩ := hq
  obtain ⟨c1, b1, _⟩ := hq.brd.blk
  exact ⟨cs, k.blk hp h1 (by decide) (by decide) (h1.ne_ b1 (by decide)) (by decide), h2, h3⟩
theorem UArr.grown (h : UArr w ub U) {row : Option Nat} (hg : w.grownBy w' row) (hn : row ≠ some ub) : UArr w' ub U := by
  obtain ⟨cs, h1, h2, h3⟩ := h
  exact ⟨cs, (hg.block _ h1.lt (fun e => hn e.symm)).trans h1, h2, h3⟩
theorem Kept.row {b m : Nat} {u : Value} {xs : List Value} (k : Kept p bs bb w w') (hp : PlotAt w E B p bs bb t) (hown : w.ownsRow b 35 5 u m xs) (hb : bb < b) : w'.ownsRow b 35 5 u m xs := by
  refine own_block hown (fun g e => ?_)
  rcases hown.2 with ⟨rfl, _⟩ | ⟨g', cap, cur, rfl, h4, h5, _⟩
  · simp [Value.ownBlock] at e
  · obtain rfl : g' = g := by simpa [Value.ownBlock] using e
    have hx : BlkW w g' 35 cur := h5
    obtain ⟨⟨v, fv, hq⟩, _⟩ := hp
    obtain ⟨c1, b1, _⟩ := hq.slots.blk
    refine k g' hx.lt (hx.ne_ hq.hp (by decide)) (hx.ne_ b1 (by decide)) (by omega) (fun cs fr e => ?_)
    unfold BlkW at hx
    rw [hx] at e
    injection e with e
    injection e with _ e
    exact absurd e (by decide)
theorem Kept.acc {x : Nat} {cs : Array Value} (h : Kept p bs bb w w') (hp : PlotAt w E B p bs bb t) (hx : BlkW w x 37 cs) : BlkW w' x 37 cs := by
  have hq := hp
  obtain ⟨⟨v, fv, hq⟩, _⟩ := hq
  obtain ⟨c1, b1, _⟩ := hq.brd.blk
  exact h.blk hp hx (by decide) (by decide) (hx.ne_ b1 (by decide)) (by decide)
/-- A store into an array of the law's own. -/
theorem PlotAt.setU (h : PlotAt w E B p bs bb t) {cs : Array Value} (hx : BlkW w ub 31 cs) (hg : 6 ≤ ub) (s : Nat) (n : Value) : PlotAt (w.setCell ⟨ub, s, none⟩ n) E B p bs bb t := by
  obtain ⟨⟨v, fv, h⟩, o, L⟩ := h
  obtain ⟨c1, b1, _⟩ := h.slots.blk
  obtain ⟨c2, b2, _⟩ := h.brd.blk
  exact ⟨⟨v, fv, h.other ub (grown_set w ub s n) (hx.ne_ h.hp (by decide)) (hx.ne_ b1 (by decide)) (hx.ne_ b2 (by decide)) (own_ne h.free hx (by decide)) (fun cs' hc => BlkW.ne_ hc hx (by decide) rfl)⟩, o, L.below (Below.setCell (p := ⟨ub, s, none⟩) (Below.refl 6 w) hg _) (Nat.le_refl _)⟩
/-- Behind an append to a row of words of the law's own. -/
theorem PlotAt.row {b m : Nat} {u : Value} {xs : List Value} (h : PlotAt w E B p bs bb t) (hown : w.ownsRow b 35 5 u m xs) (hb : bb < b) (hL : Env w' E) (hg : w.grownBy w' u.ownBlock) : PlotAt w' E B p bs bb t := by
  obtain ⟨⟨v, fv, h⟩, o, L⟩ := h
  refine ⟨⟨v, fv, ?_⟩, o, hL⟩
  rcases hown.2 with ⟨rfl, _⟩ | ⟨g, cap, cur, rfl, h4, h5, _⟩
  · exact h.keep ⟨hg.os, hg.tape, hg.output, hg.size, fun j hj => hg.block j hj (by simp [Value.ownBlock])⟩
  · have hx : BlkW w g 35 cur := h5
    obtain ⟨c1, b1, _⟩ := h.slots.blk
    exact h.other g hg (hx.ne_ h.hp (by decide)) (hx.ne_ b1 (by decide)) (by omega) (own_ne h.free hx (by decide)) (fun cs' hc => BlkW.ne_ hc hx (by decide) rfl)
theorem live_on {n : Nat} {G : List Wd} {live : Nat} (h : PlotAt w E B p bs bb t) (o : On t n G U live) : Calls Tryd.prog 10 #[.pointer (some ⟨p, 0, none⟩)] w fun e w' => e = .returned (.int .i64 (live : Int)) ∧ Below w.heap.size w w' := by
  have := live_at h
  rwa [show (t.n : Int) - t.free.length = (live : Int) by have := o.cnt; have := o.live; omega] at this
theorem made_on {n : Nat} {G : List Wd} {live : Nat} (h : PlotAt w E B p bs bb t) (o : On t n G U live) : Calls Tryd.prog 11 #[.pointer (some ⟨p, 0, none⟩)] w fun e w' => e = .returned (.int .i64 (G.length : Int)) ∧ w = w' := by
  have := made_at_ h
  rwa [o.made] at this
theorem used_on {n : Nat} {G : List Wd} {live : Nat} (h : PlotAt w E B p bs bb t) (o : On t n G U live) : Calls Tryd.prog 12 #[.pointer (some ⟨p, 0, none⟩)] w (UsedPost w live) := by
  obtain ⟨⟨v, fv, h⟩, ok, L⟩ := h
  have := used_any h ok
  rwa [show t.count t.n = live by have := count_all ok; have := o.cnt; have := o.live; omega] at this
theorem row5 {b g m cap : Nat} {G : List Wd} (h : w.ownsRow b 35 5 (.slice (some ⟨g, 0, none⟩) m cap) m (flatW G)) (hm : m = G.length) (k : Nat) (hk : k < G.length) : WdAt w g (k * 5) G[k] := fun j v hv => by
  have hj : j < 5 := (List.getElem?_eq_some_iff.1 hv).1
  rw [h.cellAt (k * 5 + j) (by omega), flatW_at G k j hk hj]
  exact hv
end
def OnRel (w : World) (E : Flt → Addr) (B p bs bb b ub n len : Nat) (vg vl vi : Value) (wr : World) : Prop :=
  ∃ (i : Nat) (t : St) (G : List Wd) (U : Nat → Int) (live : Nat), i ≤ len ∧ i ≤ 200 ∧ vi = .int .i64 (i : Int) ∧ vl = .int .i64 (live : Int) ∧ PlotAt wr E B p bs bb t ∧ On t n G U live ∧ wr.ownsRow b 35 5 vg G.length (flatW G) ∧ UArr wr ub U ∧ t.steps ≤ i ∧ G.length ≤ i ∧ Below w.heap.size w wr
def InRel (wX : World) (len : Nat) (vk : Value) (wr : World) : Prop := ∃ k : Nat, k ≤ len ∧ vk = .int .i64 (k : Int) ∧ Below wX.heap.size wX wr
set_option maxRecDepth 100000 in
set_option maxHeartbeats 16000000 in
theorem once_any (E : Flt → Addr) (x : Int) (v : Value) (xs : List Ac) (w : World) (L : Env w E) (hv : RowC (fun a => (acs a).toList) 14 w v xs) :
    Calls Tryd.prog 3 #[.int .i64 x, v] w (True1 w) := by
  have HL := Lib.hid L
  have AW := Lib.hid (awake_true E w L)
  have hB0 := L.size
  have HV := Lib.hid hv
  obtain ⟨ao, cp, rfl⟩ := hv.slice
  obtain ⟨n, hn, hx1⟩ := u64_mod x 12 (by omega)
  have hn1 : (n : Int) < 12 := by omega
  have hw12 : wrap64 ((IntKind.u64.wrap x).tmod 12) = (n : Int) := by
    have e : (IntKind.u64.wrap x).tmod 12 = (n : Int) := hx1
    rw [e]; exact IntWalk.wrap64_in _ ⟨by omega, by omega⟩
  clear L hv hx1
  go_enter Tryd.func3, Tryd.ntmps3
  go_wp2_with fail
  refine AW.out.mono ?_
  rintro e w1 ⟨rfl, hb⟩
  have B1 := Lib.hid hb
  have hB : 6 ≤ w1.heap.size := Nat.le_trans hB0 B1.out.size
  clear hb
  go_wp2_with fail
  refine (new_is (HL.out.keep B1.out) n 4 (by omega) (by omega)).mono ?_
  rintro e w2 ⟨p, bs, bb, rfl, P2, C2, _, hbb⟩
  have B2 := Lib.hid (show Below w.heap.size w w2 from B1.out.trans (C2.out.mono B1.out.size))
  have P2 := Lib.hid (alloc_keep (alloc_keep P2.out (.cells #[] 35)) (.cells #[.int .i64 0, .int .i64 0, .int .i64 0, .int .i64 0, .int .i64 0, .int .i64 0, .int .i64 0, .int .i64 0, .int .i64 0, .int .i64 0, .int .i64 0, .int .i64 0, .int .i64 0] 31))
  have R2 := Lib.hid ((World.ownsRow_lit (e := 35) (size := 5) (base := w2.heap.size) w2 #[] 0 (Nat.le_refl _) (by simp [maxLen]) rfl).alloc (.cells #[.int .i64 0, .int .i64 0, .int .i64 0, .int .i64 0, .int .i64 0, .int .i64 0, .int .i64 0, .int .i64 0, .int .i64 0, .int .i64 0, .int .i64 0, .int .i64 0, .int .i64 0] 31))
  have U2 : UArr ((w2.alloc (.cells #[] 35)).alloc (.cells #[.int .i64 0, .int .i64 0, .int .i64 0, .int .i64 0, .int .i64 0, .int .i64 0, .int .i64 0, .int .i64 0, .int .i64 0, .int .i64 0, .int .i64 0, .int .i64 0, .int .i64 0] 31)) (w2.heap.size + 1) (fun _ => 0) := by
    refine ⟨_, blk_second _ _ _ _ _ rfl, rfl, fun s hs => ?_⟩
    match s, hs with
    | 0, _ | 1, _ | 2, _ | 3, _ | 4, _ | 5, _ | 6, _ | 7, _ | 8, _ | 9, _ | 10, _ | 11, _ | 12, _ => rfl
  have HU2 := Lib.hid U2
  clear U2
  have B2 := low_alloc (low_alloc B2 (Nat.le_refl _) (.cells #[] 35)) (Nat.le_refl _) (.cells #[.int .i64 0, .int .i64 0, .int .i64 0, .int .i64 0, .int .i64 0, .int .i64 0, .int .i64 0, .int .i64 0, .int .i64 0, .int .i64 0, .int .i64 0, .int .i64 0, .int .i64 0] 31)
  have hg2 : 6 ≤ w2.heap.size + 1 := Nat.le_succ_of_le (Nat.le_trans hB C2.out.size)
  have hzw : w.heap.size ≤ w2.heap.size := Nat.le_trans B1.out.size C2.out.size
  clear C2
  go_wp2
  clear hw12
  go_loopw [7, 9, 10] (OnRel w E w1.heap.size p bs bb w2.heap.size (w2.heap.size + 1) n xs.length) (fun _ _ i _ => 201 - (intOf i).toNat)
  case atStart => exact ⟨0, _, [], fun _ => 0, 0, by omega, by omega, rfl, rfl, P2.out, on_new n, R2.out, HU2.out, Nat.le_refl _, Nat.le_refl _, B2.out⟩
  case round =>
    obtain ⟨i, t, G, U, live, hi, hi200, rfl, rfl, hP, hO, hR, hU, hst, hGl, hbel⟩ := hrel
    obtain ⟨wo, rfl⟩ : ∃ wo : World, wo = wr := ⟨_, rfl⟩
    have HP := Lib.hid hP
    have HO := Lib.hid hO
    have HR := Lib.hid hR
    have HU := Lib.hid hU
    have HB := Lib.hid hbel
    obtain ⟨ao2, cp2, hu7⟩ := own_slice hR
    subst hu7
    clear hP hO hR hU hbel P2 R2 HU2 B2
    by_cases hlt : i < xs.length ∧ i < 200
    · obtain ⟨hlt, hlt200⟩ := hlt
      rcases HV.out with ⟨_, e⟩ | ⟨bx, off, cap, e, hbx, hcap, hcell⟩
      · subst e; exact absurd hlt (Nat.not_lt_zero _)
      · injection e with e1 e2 e3
        subst e1
        obtain ⟨a, ha⟩ : ∃ a, a = xs[i] := ⟨_, rfl⟩
        have hc := range_block (hcell i hlt) (HB.out.block bx hbx)
        rw [← ha] at hc
        obtain ⟨k, s, g, fl, d0, d1⟩ := a
        obtain ⟨y0, y1, y2, y3, y4, y5, y6, y7, y8, y9, y10, y11, y12, y13⟩ := acc_cells hc
        clear hc hcell ha e2 e3
        have j1 : (i : Int) < xs.length := by omega
        have j2 : (i : Int) < 200 := by omega
        have PA := Lib.hid (alloc_keep HP.out (.cells (acs ⟨k, s, g, fl, d0, d1⟩) 37))
        have RA := Lib.hid (HR.out.alloc (.cells (acs ⟨k, s, g, fl, d0, d1⟩) 37))
        have UA := Lib.hid (HU.out.below (below_alloc (Below.refl _ _) (.cells (acs ⟨k, s, g, fl, d0, d1⟩) 37)))
        have BA := low_alloc HB (Nat.le_refl _) (.cells (acs ⟨k, s, g, fl, d0, d1⟩) 37)
        have XA := Lib.hid (BlkW.new wo 37 (acs ⟨k, s, g, fl, d0, d1⟩))
        cases hc : t.can ⟨k, s, g, fl, d0, d1⟩ with
        | false =>
          go_wp2_with fail
          refine (do_no PA.out ⟨k, s, g, fl, d0, d1⟩ hc).mono ?_
          rintro e w7 ⟨y, rfl, _, hb⟩
          unfold rv zw
          dsimp only
          have hb := below_alloc hb (.cells #[.int .i64 0, .int .i64 0, .int .i64 0, .int .i64 0, .bool false, .bool false] 39)
          have P7 := Lib.hid (PA.out.keep hb)
          have R7 := Lib.hid (own_block RA.out (fun g e => hb.block g (RA.out.lt g e).2))
          have U7 := Lib.hid (UA.out.below hb)
          have B7 := Lib.hid (show Below w.heap.size w _ from BA.out.trans (hb.mono BA.out.size))
          clear hb y0 y1 y2 y3 y4 y5 y6 y7 y8 y9 y10 y11 y12 y13 hc
          go_wp2
          refine ⟨⟨i + 1, t, G, U, live, by omega, by omega, by go_num, rfl, P7.out, HO.out, R7.out, U7.out, by omega, by omega, B7.out⟩, by simp [intOf]; omega⟩
        | true =>
          by_cases k4 : k = 4
          · subst k4
            cases hf : t.free with
            | nil =>
              obtain ⟨q1, q2, q3⟩ := on_none HO.out ⟨4, s, g, fl, d0, d1⟩ rfl hf
              have ON := Lib.hid q3
              have HQ := Lib.hid q1
              have hln : Hid (live = n) := q2
              clear q1 q2 q3 hf
              have hne : ((live : Int) == (n : Int)) = true := by have := hln.out; simp; omega
              have hne2 : ((live : Int) != (n : Int)) = false := by have := hln.out; simp; omega
              go_wp2_with fail
              refine (do_eq PA.out hB (by omega) ⟨4, s, g, fl, d0, d1⟩ hc 0 0 0 0 false false HQ.out).mono ?_
              rintro e w7 ⟨rfl, P7, C7, K7⟩
              have XB := Lib.hid (K7.out.acc PA.out XA.out)
              have R7 := Lib.hid ((K7.out.row PA.out RA.out hbb).alloc (.cells #[.int .i64 0, .int .i64 0, .int .i64 0, .int .i64 0, .bool false, .bool false] 39))
              have U7 := Lib.hid ((UA.out.kept PA.out K7.out).below (below_alloc (Below.refl _ _) (.cells #[.int .i64 0, .int .i64 0, .int .i64 0, .int .i64 0, .bool false, .bool false] 39)))
              have B7 := low_alloc (Lib.hid (show Below w.heap.size w w7 from BA.out.trans (C7.out.mono B1.out.size))) (Nat.le_refl _) (.cells #[.int .i64 0, .int .i64 0, .int .i64 0, .int .i64 0, .bool false, .bool false] 39)
              have P7 := Lib.hid (alloc_keep P7.out (.cells #[.int .i64 0, .int .i64 0, .int .i64 0, .int .i64 0, .bool false, .bool false] 39))
              have hst7 : Hid ((t.step ⟨4, s, g, fl, d0, d1⟩).1.steps = t.steps + 1) := (t.step_n ⟨4, s, g, fl, d0, d1⟩).2.2
              have r0 : w7.cell? ⟨wo.heap.size, 0, none⟩ = some (.int .i64 4) := XB.out.cell 0
              have r4 : w7.cell? ⟨wo.heap.size, 4, none⟩ = some (.int .i64 d0.slot) := XB.out.cell 4
              have r5 : w7.cell? ⟨wo.heap.size, 5, none⟩ = some (.int .i64 d0.gen) := XB.out.cell 5
              have lz7 := XB.out.lt
              have lz8 : wo.heap.size < w7.heap.size + 1 := by omega
              clear C7 K7 y0 y1 y2 y3 y4 y5 y6 y7 y8 y9 y10 y11 y12 y13
              go_wp2_with fail
              refine (live_on P7.out ON.out).mono ?_
              rintro e w8 ⟨rfl, hb⟩
              have P8 := Lib.hid (P7.out.keep hb)
              have R8 := Lib.hid (own_block R7.out (fun g e => hb.block g (R7.out.lt g e).2))
              have U8 := Lib.hid (U7.out.below hb)
              have B8 := Lib.hid (show Below w.heap.size w w8 from B7.out.trans (hb.mono B7.out.size))
              clear hb r0 r4 r5
              go_wp2_with fail
              refine (made_on P8.out ON.out).mono ?_
              rintro e w9 ⟨rfl, rfl⟩
              go_wp2
              refine ⟨⟨i + 1, _, G, U, live, by omega, by omega, by go_num, rfl, P8.out, ON.out, R8.out, U8.out, by rw [hst7.out]; omega, by omega, B8.out⟩, by simp [intOf]; omega⟩
            | cons i0 r =>
              obtain ⟨q1, q2, q3, q4, q5⟩ := on_give HO.out PA.out.2.1 ⟨4, s, g, fl, d0, d1⟩ rfl hf
              have ON := Lib.hid q5
              have HQ := Lib.hid q2
              have HU0 := Lib.hid q3
              have HN := Lib.hid q4
              obtain ⟨ge, hge⟩ : ∃ ge : Int, ge = ((t.slot i0).gen : Int) + 1 := ⟨_, rfl⟩
              rw [← hge] at ON HQ HN
              clear q2 q3 q4 q5 hf hge
              go_wp2_with fail
              refine (do_eq PA.out hB (by omega) ⟨4, s, g, fl, d0, d1⟩ hc ((i0 : Int) + 1) ge 0 0 false true HQ.out).mono ?_
              rintro e w7 ⟨rfl, P7, C7, K7⟩
              have XB := Lib.hid (K7.out.acc PA.out XA.out)
              have R7 := Lib.hid ((K7.out.row PA.out RA.out hbb).alloc (.cells #[.int .i64 ((i0 : Int) + 1), .int .i64 ge, .int .i64 0, .int .i64 0, .bool false, .bool true] 39))
              have U7 := Lib.hid ((UA.out.kept PA.out K7.out).below (below_alloc (Below.refl _ _) (.cells #[.int .i64 ((i0 : Int) + 1), .int .i64 ge, .int .i64 0, .int .i64 0, .bool false, .bool true] 39)))
              have B7 := low_alloc (Lib.hid (show Below w.heap.size w w7 from BA.out.trans (C7.out.mono B1.out.size))) (Nat.le_refl _) (.cells #[.int .i64 ((i0 : Int) + 1), .int .i64 ge, .int .i64 0, .int .i64 0, .bool false, .bool true] 39)
              have P7 := Lib.hid (alloc_keep P7.out (.cells #[.int .i64 ((i0 : Int) + 1), .int .i64 ge, .int .i64 0, .int .i64 0, .bool false, .bool true] 39))
              have hst7 : Hid ((t.step ⟨4, s, g, fl, d0, d1⟩).1.steps = t.steps + 1) := (t.step_n ⟨4, s, g, fl, d0, d1⟩).2.2
              have r0 : w7.cell? ⟨wo.heap.size, 0, none⟩ = some (.int .i64 4) := XB.out.cell 0
              have r4 : w7.cell? ⟨wo.heap.size, 4, none⟩ = some (.int .i64 d0.slot) := XB.out.cell 4
              have r5 : w7.cell? ⟨wo.heap.size, 5, none⟩ = some (.int .i64 d0.gen) := XB.out.cell 5
              have lz7 := XB.out.lt
              have lz8 : wo.heap.size < w7.heap.size + 1 := by omega
              clear C7 K7 y0 y1 y2 y3 y4 y5 y6 y7 y8 y9 y10 y11 y12 y13
              have u0 : w7.cell? ⟨w2.heap.size + 1, i0 + 1, none⟩ = some (.int .i64 0) := by
                have h1 := U7.out.cell (s := i0 + 1) (by omega)
                rw [HU0.out] at h1
                have h2 : w2.heap.size + 1 < w7.heap.size := by
                  have := XB.out.lt; have := HU.out.lt; omega
                rwa [World.cell?_alloc_lt _ _ _ h2] at h1
              have lu : w2.heap.size + 1 < w7.heap.size := by
                have := XB.out.lt; have := HU.out.lt; omega
              have lu1 : w2.heap.size + 1 < w7.heap.size + 1 := by omega
              have lu2 : w2.heap.size + 1 < w7.heap.size + 1 + 1 := by omega
              have m1 : (i0 : Int) + 1 ≤ n := by omega
              have m2 : (i0 : Int) + 1 < 13 := by omega
              go_upto_region 21 with (fail)
              go_loopw [15] (InRel (w7.alloc (.cells #[.int .i64 ((i0 : Int) + 1), .int .i64 ge, .int .i64 0, .int .i64 0, .bool false, .bool true] 39)) G.length) (fun q _ => G.length - (intOf q).toNat)
              case atStart => exact ⟨0, Nat.zero_le _, rfl, Below.refl _ _⟩
              case round =>
                obtain ⟨q, hq, rfl, hqb⟩ := hrel
                obtain ⟨wq, rfl⟩ : ∃ wq : World, wq = wr := ⟨_, rfl⟩
                have X12 := Lib.hid ((BlkW.new w7 39 #[.int .i64 ((i0 : Int) + 1), .int .i64 ge, .int .i64 0, .int .i64 0, .bool false, .bool true]).below hqb)
                have Rq := Lib.hid (own_block R7.out (fun g e => hqb.block g (R7.out.lt g e).2))
                have HQB := Lib.hid hqb
                have b0 := X12.out.cell 0
                have b1 := X12.out.cell 1
                have b2 := X12.out.cell 2
                have b3 := X12.out.cell 3
                have b4 := X12.out.cell 4
                have b5 := X12.out.cell 5
                simp only [List.getElem?_toArray, List.getElem?_cons_succ, List.getElem?_cons_zero] at b0 b1 b2 b3 b4 b5
                clear hqb u0 r0 r4 r5
                by_cases hq2 : q < G.length
                · obtain ⟨gg, capg, e, _, _⟩ := Rq.out.form (by omega)
                  injection e with e1 e2 e3
                  subst e1
                  have E2 := Lib.hid e2
                  have E3 := Lib.hid e3
                  clear e2 e3
                  obtain ⟨dw, hdw⟩ : ∃ dw, dw = G[q] := ⟨_, rfl⟩
                  have hwd := row5 (by have := Rq.out; rwa [E3.out] at this) rfl q hq2
                  rw [← hdw] at hwd
                  have hnn := HN.out dw (by rw [hdw]; exact List.getElem_mem _)
                  have qk : ∀ w, (binOp .eql 35 (.agg #[.int .i64 dw.slot, .int .i64 dw.gen, .int .i64 dw.tag, .int .i64 dw.num, .bool dw.mark]) (.agg #[.int .i64 ((i0 : Int) + 1), .int .i64 ge, .int .i64 0, .int .i64 0, .bool false])).run Tryd.prog w = .ok (.bool false) w := fun w => by
                    rw [eq23]
                    have : eqB dw.slot dw.gen dw.tag dw.num dw.mark ((i0 : Int) + 1) ge 0 0 false = false := by
                      have hx : ¬ eqB dw.slot dw.gen dw.tag dw.num dw.mark ((i0 : Int) + 1) ge 0 0 false = true := fun e => hnn (by simp [eqB] at e; exact ⟨e.1.1.1.1, e.1.1.1.2⟩)
                      simpa using hx
                    rw [this]
                  obtain ⟨z0, z1, z2, z3, z4⟩ := hwd.cells
                  clear hwd hdw hnn
                  have m3 : (q : Int) < G.length := by omega
                  have e1 := noHeld
                  have e2 := noGuard
                  go_upto_region 23 with (fail)
                  go_quiet (fail)
                  go_wp2
                  refine ⟨⟨q + 1, by omega, by go_num, below_drewN HQB.out nq⟩, by simp [intOf]; omega⟩
                · obtain rfl : q = G.length := by omega
                  have Pq := Lib.hid (P7.out.keep HQB.out)
                  have Uq := Lib.hid (U7.out.below HQB.out)
                  have Bq := Lib.hid (show Below w.heap.size w wq from B7.out.trans (HQB.out.mono B7.out.size))
                  have XBq := Lib.hid ((XB.out.alloc (.cells #[.int .i64 ((i0 : Int) + 1), .int .i64 ge, .int .i64 0, .int .i64 0, .bool false, .bool true] 39)).below HQB.out)
                  obtain ⟨i2, hi2, hz2, hs2, hy2⟩ := info_parts infoWord
                  have hzq : w2.heap.size ≤ wq.heap.size := by have := Uq.out.lt; omega
                  clear P7 U7 B7 XB R7 HN
                  have WA := Lib.hid (show Hid True from trivial)
                  go_wp2_with (at_builtin; refine wpList_append_own_at _ rfl _ _ 30 rfl w2.heap.size 35 i2 _ 5 40 Tryd.underlying30 hi2 hz2 hs2 hy2 rfl (by decide) (.slice ao2 G.length cp2) _ _ (by rfl) (Rq.out.alloc _) ⟨wq.heap.size, 0, none⟩ 1 1 (wc ⟨(i0 : Int) + 1, ge, 0, 0, false⟩) (by rfl) rfl ?c1 ?c2 ?c3 ?c4 ?c5 ?_)
                  case c1 => exact news_at wq ⟨(i0 : Int) + 1, ge, 0, 0, false⟩
                  case c2 => intro u hu; simp [wc] at hu; rcases hu with rfl | rfl | rfl | rfl <;> rfl
                  case c3 => simp [maxLen]; omega
                  case c4 => omega
                  case c5 => rw [World.size_alloc]; omega
                  intro v' wG hown' hgrow _ hat
                  have RA2 := Rq.out.alloc (.cells #[.int .i64 ((i0 : Int) + 1), .int .i64 ge, .int .i64 0, .int .i64 0, .bool false] 35)
                  have PG := PlotAt.row (alloc_keep Pq.out (.cells #[.int .i64 ((i0 : Int) + 1), .int .i64 ge, .int .i64 0, .int .i64 0, .bool false] 35)) RA2 hbb (((alloc_keep Pq.out (.cells #[.int .i64 ((i0 : Int) + 1), .int .i64 ge, .int .i64 0, .int .i64 0, .bool false] 35)).2.2).below ((Below.refl w2.heap.size _).grown hgrow (by rw [World.size_alloc]; omega) (fun q e => (RA2.lt q e).1)) (by have := hg2; have := hzw; omega)) hgrow
                  have UG := UArr.grown (Uq.out.below (below_alloc (Below.refl _ _) (.cells #[.int .i64 ((i0 : Int) + 1), .int .i64 ge, .int .i64 0, .int .i64 0, .bool false] 35))) hgrow (by
                    obtain ⟨cs, h1, _, _⟩ := Uq.out
                    exact own_ne RA2 (h1.alloc _) (by decide))
                  have X12G : BlkW wG w7.heap.size 39 #[.int .i64 ((i0 : Int) + 1), .int .i64 ge, .int .i64 0, .int .i64 0, .bool false, .bool true] := (hgrow.block _ (X12.out.alloc (.cells #[.int .i64 ((i0 : Int) + 1), .int .i64 ge, .int .i64 0, .int .i64 0, .bool false] 35)).lt (fun e => own_ne RA2 (X12.out.alloc (.cells #[.int .i64 ((i0 : Int) + 1), .int .i64 ge, .int .i64 0, .int .i64 0, .bool false] 35)) (by decide) e.symm)).trans (X12.out.alloc (.cells #[.int .i64 ((i0 : Int) + 1), .int .i64 ge, .int .i64 0, .int .i64 0, .bool false] 35))
                  have XBG : BlkW wG wo.heap.size 37 (acs ⟨4, s, g, fl, d0, d1⟩) := (hgrow.block _ (XBq.out.alloc (.cells #[.int .i64 ((i0 : Int) + 1), .int .i64 ge, .int .i64 0, .int .i64 0, .bool false] 35)).lt (fun e => own_ne RA2 (XBq.out.alloc (.cells #[.int .i64 ((i0 : Int) + 1), .int .i64 ge, .int .i64 0, .int .i64 0, .bool false] 35)) (by decide) e.symm)).trans (XBq.out.alloc (.cells #[.int .i64 ((i0 : Int) + 1), .int .i64 ge, .int .i64 0, .int .i64 0, .bool false] 35))
                  have BG := (low_alloc Bq (Nat.le_refl _) (.cells #[.int .i64 ((i0 : Int) + 1), .int .i64 ge, .int .i64 0, .int .i64 0, .bool false] 35)).out.grown hgrow (by rw [World.size_alloc]; have := Bq.out.size; omega) (fun q e => Nat.le_trans hzw (RA2.lt q e).1)
                  have RG : wG.ownsRow w2.heap.size 35 5 v' (G ++ [(⟨(i0 : Int) + 1, ge, 0, 0, false⟩ : Wd)]).length (flatW (G ++ [(⟨(i0 : Int) + 1, ge, 0, 0, false⟩ : Wd)])) := by
                    rw [flatW_snoc, List.length_append]; exact hown'
                  obtain ⟨G', hG'⟩ : ∃ G' : List Wd, G' = G ++ [(⟨(i0 : Int) + 1, ge, 0, 0, false⟩ : Wd)] := ⟨_, rfl⟩
                  obtain ⟨lv, hlv⟩ : ∃ lv : Nat, lv = live + 1 := ⟨_, rfl⟩
                  have hlen5 : Hid (G'.length = G.length + 1) := by show _ = _; rw [hG']; simp
                  have ON := Lib.hid (show On _ n G' _ lv from by rw [hG', hlv]; exact ON.out)
                  rw [← hG'] at RG
                  have hlw : wrap64 ((live : Int) + 1) = (lv : Int) := by
                    rw [show (live : Int) + 1 = (lv : Int) by omega]
                    exact IntWalk.wrap64_in _ ⟨by omega, by have := ON.out.live; omega⟩
                  clear hG'
                  obtain ⟨csU, hUb, _, _⟩ := id UG
                  have hcu := UG.cell (s := i0 + 1) (by omega)
                  have hfu := UG.frozen (i0 + 1)
                  clear b0 b1 b2 b3 b4 b5
                  have b1 := X12G.cell 1
                  have b5 := X12G.cell 5
                  simp only [List.getElem?_toArray, List.getElem?_cons_succ, List.getElem?_cons_zero] at b1 b5
                  have r0 : wG.cell? ⟨wo.heap.size, 0, none⟩ = some (.int .i64 4) := XBG.cell 0
                  have hUbl := hUb.lt
                  have hne1 : ¬ w2.heap.size + 1 = w7.heap.size := by omega
                  have hne2 : ¬ w2.heap.size + 1 = wo.heap.size := by have := HU.out.lt; omega
                  have hne3 : ¬ w7.heap.size = w2.heap.size + 1 := by omega
                  have hne4 : ¬ wo.heap.size = w2.heap.size + 1 := by have := HU.out.lt; omega
                  have PS := Lib.hid (PG.setU hUb hg2 (i0 + 1) (.int .i64 ge))
                  have US := Lib.hid (UG.set (i0 + 1) ge)
                  have RS := Lib.hid (own_block RG (fun q e => (grown_set wG (w2.heap.size + 1) (i0 + 1) (.int .i64 ge)).block q (RG.lt q e).2 (fun e2 => own_ne RG hUb (by decide) (by rw [e, ← e2]))))
                  have BS := Lib.hid (Below.setCell (p := ⟨w2.heap.size + 1, i0 + 1, none⟩) BG (Nat.le_succ_of_le hzw) (.int .i64 ge))
                  obtain ⟨ao5, cp5, hu5⟩ := own_slice RG
                  subst hu5
                  clear PG UG RG BG X12G XBG hgrow hown' hat RA2 hUb Pq Uq Bq XBq Rq X12 HQB WA
                  have HLv := Lib.hid (live_on PS.out ON.out)
                  try simp only [hlw]
                  go_wp2_with fail
                  refine HLv.out.mono ?_
                  rintro e w8 ⟨rfl, hb⟩
                  have P8 := Lib.hid (PS.out.keep hb)
                  have R8 := Lib.hid (own_block RS.out (fun g e => hb.block g (RS.out.lt g e).2))
                  have U8 := Lib.hid (US.out.below hb)
                  have B8 := Lib.hid (show Below w.heap.size w w8 from BS.out.trans (hb.mono BS.out.size))
                  clear hb r0 b1 b5 hcu hfu
                  have HM := Lib.hid (made_on P8.out ON.out)
                  go_wp2_with fail
                  refine HM.out.mono ?_
                  rintro e w9 ⟨rfl, rfl⟩
                  go_wp2
                  refine ⟨⟨i + 1, _, _, _, lv, by omega, by omega, by go_num, by go_num, P8.out, ON.out, R8.out, U8.out, by rw [hst7.out]; omega, by rw [hlen5.out]; omega, B8.out⟩, by simp [intOf]; omega⟩
          · have n4 : (k == 4) = false := by simpa using k4
            have K4 := Lib.hid k4
            clear k4
            by_cases k5 : k = 5
            · subst k5
              cases hok : (t.step ⟨5, s, g, fl, d0, d1⟩).2.2 with
              | false =>
                have ON := Lib.hid (on_other HO.out ⟨5, s, g, fl, d0, d1⟩ (show ¬ (5 : Int) = 4 by decide) (fun _ => hok))
                obtain ⟨rd, hrd⟩ : ∃ rd, rd = (t.step ⟨5, s, g, fl, d0, d1⟩).2.1 := ⟨_, rfl⟩
                have HD := Lib.hid (do_is PA.out hB (by omega) ⟨5, s, g, fl, d0, d1⟩ hc)
                rw [← hrd, hok] at HD
                clear hrd hok n4
                go_wp2_with fail
                refine HD.out.mono ?_
                rintro e w7 ⟨rfl, P7, C7, K7⟩
                have XB := Lib.hid (K7.out.acc PA.out XA.out)
                have R7 := Lib.hid ((K7.out.row PA.out RA.out hbb).alloc (.cells #[.int .i64 rd.slot, .int .i64 rd.gen, .int .i64 rd.tag, .int .i64 rd.num, .bool rd.mark, .bool false] 39))
                have U7 := Lib.hid ((UA.out.kept PA.out K7.out).below (below_alloc (Below.refl _ _) (.cells #[.int .i64 rd.slot, .int .i64 rd.gen, .int .i64 rd.tag, .int .i64 rd.num, .bool rd.mark, .bool false] 39)))
                have B7 := low_alloc (Lib.hid (show Below w.heap.size w w7 from BA.out.trans (C7.out.mono B1.out.size))) (Nat.le_refl _) (.cells #[.int .i64 rd.slot, .int .i64 rd.gen, .int .i64 rd.tag, .int .i64 rd.num, .bool rd.mark, .bool false] 39)
                have P7 := Lib.hid (alloc_keep P7.out (.cells #[.int .i64 rd.slot, .int .i64 rd.gen, .int .i64 rd.tag, .int .i64 rd.num, .bool rd.mark, .bool false] 39))
                have hst7 : Hid ((t.step ⟨5, s, g, fl, d0, d1⟩).1.steps = t.steps + 1) := (t.step_n ⟨5, s, g, fl, d0, d1⟩).2.2
                have r0 : w7.cell? ⟨wo.heap.size, 0, none⟩ = some (.int .i64 5) := XB.out.cell 0
                have r4 : w7.cell? ⟨wo.heap.size, 4, none⟩ = some (.int .i64 d0.slot) := XB.out.cell 4
                have r5 : w7.cell? ⟨wo.heap.size, 5, none⟩ = some (.int .i64 d0.gen) := XB.out.cell 5
                have lz7 := XB.out.lt
                have lz8 : wo.heap.size < w7.heap.size + 1 := by omega
                clear C7 K7 y0 y1 y2 y3 y4 y5 y6 y7 y8 y9 y10 y11 y12 y13
                go_wp2_with fail
                refine (live_on P7.out ON.out).mono ?_
                rintro e w8 ⟨rfl, hb⟩
                have P8 := Lib.hid (P7.out.keep hb)
                have R8 := Lib.hid (own_block R7.out (fun g e => hb.block g (R7.out.lt g e).2))
                have U8 := Lib.hid (U7.out.below hb)
                have B8 := Lib.hid (show Below w.heap.size w w8 from B7.out.trans (hb.mono B7.out.size))
                clear hb r0 r4 r5
                go_wp2_with fail
                refine (made_on P8.out ON.out).mono ?_
                rintro e w9 ⟨rfl, rfl⟩
                go_wp2
                refine ⟨⟨i + 1, _, G, U, live, by omega, by omega, by go_num, rfl, P8.out, ON.out, R8.out, U8.out, by rw [hst7.out]; omega, by omega, B8.out⟩, by simp [intOf]; omega⟩
              | true =>
                obtain ⟨i0, q1, q2, q3, q4, q5, q6⟩ := on_free HO.out PA.out.2.1 ⟨5, s, g, fl, d0, d1⟩ rfl hc hok
                have ON := Lib.hid q6
                have HQ := Lib.hid q5
                have HU0 := Lib.hid (show U (i0 + 1) = d0.gen from q3)
                have HS := Lib.hid (show d0.slot = (i0 : Int) + 1 from q2)
                obtain ⟨lv, hlv⟩ : ∃ lv, live = lv + 1 := ⟨live - 1, by omega⟩
                have hlw : wrap64 ((live : Int) - 1) = (lv : Int) := by
                  rw [show (live : Int) - 1 = (lv : Int) by omega]
                  exact IntWalk.wrap64_in _ ⟨by omega, by have := HO.out.live; omega⟩
                have ON := Lib.hid (show On _ n G (fun k => if k = i0 + 1 then 0 else U k) lv from by have := ON.out; rwa [show live - 1 = lv by omega] at this)
                clear q2 q3 q4 q5 q6 hok n4 hlv
                go_wp2_with fail
                refine (do_eq PA.out hB (by omega) ⟨5, s, g, fl, d0, d1⟩ hc 0 0 0 0 false true HQ.out).mono ?_
                rintro e w7 ⟨rfl, P7, C7, K7⟩
                have XB := Lib.hid (K7.out.acc PA.out XA.out)
                have R7 := Lib.hid ((K7.out.row PA.out RA.out hbb).alloc (.cells #[.int .i64 0, .int .i64 0, .int .i64 0, .int .i64 0, .bool false, .bool true] 39))
                have U7 := Lib.hid ((UA.out.kept PA.out K7.out).below (below_alloc (Below.refl _ _) (.cells #[.int .i64 0, .int .i64 0, .int .i64 0, .int .i64 0, .bool false, .bool true] 39)))
                have B7 := low_alloc (Lib.hid (show Below w.heap.size w w7 from BA.out.trans (C7.out.mono B1.out.size))) (Nat.le_refl _) (.cells #[.int .i64 0, .int .i64 0, .int .i64 0, .int .i64 0, .bool false, .bool true] 39)
                have P7 := Lib.hid (alloc_keep P7.out (.cells #[.int .i64 0, .int .i64 0, .int .i64 0, .int .i64 0, .bool false, .bool true] 39))
                have hst7 : Hid ((t.step ⟨5, s, g, fl, d0, d1⟩).1.steps = t.steps + 1) := (t.step_n ⟨5, s, g, fl, d0, d1⟩).2.2
                have r0 : w7.cell? ⟨wo.heap.size, 0, none⟩ = some (.int .i64 5) := XB.out.cell 0
                have r4 : w7.cell? ⟨wo.heap.size, 4, none⟩ = some (.int .i64 d0.slot) := XB.out.cell 4
                have r5 : w7.cell? ⟨wo.heap.size, 5, none⟩ = some (.int .i64 d0.gen) := XB.out.cell 5
                have lz7 := XB.out.lt
                have lz8 : wo.heap.size < w7.heap.size + 1 := by omega
                clear C7 K7 y0 y1 y2 y3 y4 y5 y6 y7 y8 y9 y10 y11 y12 y13
                have hss := HS.out
                have hcu := U7.out.cell (s := i0 + 1) (by omega)
                rw [HU0.out] at hcu
                have hfu := U7.out.frozen (i0 + 1)
                have lu := U7.out.lt
                rw [World.size_alloc] at lu
                have m1 : (i0 : Int) + 1 < 13 := by omega
                have hne2 : ¬ w2.heap.size + 1 = wo.heap.size := by have := HU.out.lt; omega
                have hne4 : ¬ wo.heap.size = w2.heap.size + 1 := by have := HU.out.lt; omega
                have m0 : (0 : Int) ≤ (i0 : Int) + 1 := by omega
                go_upto_region 32 with (fail)
                go_quiet (fail)
                have hdr : ∀ X : World, Below X.heap.size X (X.drewN nq) := fun X => ⟨rfl, rfl, rfl, Nat.le_refl _, fun _ _ => rfl⟩
                have UD := U7.out.below (hdr _)
                have PD := P7.out.keep (hdr _)
                have RD := own_block R7.out (fun g e => (hdr _).block g (R7.out.lt g e).2)
                have BD := below_drewN B7.out nq
                obtain ⟨csU, hUb, _, _⟩ := id UD
                have PS := Lib.hid (PD.setU hUb hg2 (i0 + 1) (.int .i64 0))
                have US := Lib.hid (UD.set (i0 + 1) 0)
                have RS := Lib.hid (own_block RD (fun q e => (grown_set _ (w2.heap.size + 1) (i0 + 1) (.int .i64 0)).block q (RD.lt q e).2 (fun e2 => own_ne RD hUb (by decide) (by rw [e, ← e2]))))
                have BS := Lib.hid (Below.setCell (p := ⟨w2.heap.size + 1, i0 + 1, none⟩) BD (Nat.le_succ_of_le hzw) (.int .i64 0))
                have HLv := Lib.hid (live_on PS.out ON.out)
                clear UD PD RD BD hUb hss P7 U7 R7 B7
                go_wp2_with fail
                refine HLv.out.mono ?_
                rintro e w8 ⟨rfl, hb⟩
                have P8 := Lib.hid (PS.out.keep hb)
                have R8 := Lib.hid (own_block RS.out (fun g e => hb.block g (RS.out.lt g e).2))
                have U8 := Lib.hid (US.out.below hb)
                have B8 := Lib.hid (show Below w.heap.size w w8 from BS.out.trans (hb.mono BS.out.size))
                clear hb r0 r4 r5 hcu hfu
                go_wp2_with fail
                refine (made_on P8.out ON.out).mono ?_
                rintro e w9 ⟨rfl, rfl⟩
                go_wp2
                refine ⟨⟨i + 1, _, G, _, lv, by omega, by omega, by go_num, by go_num, P8.out, ON.out, R8.out, U8.out, by rw [hst7.out]; omega, by omega, B8.out⟩, by simp [intOf]; omega⟩
            · have n5 : (k == 5) = false := by simpa using k5
              have ON := Lib.hid (on_other HO.out ⟨k, s, g, fl, d0, d1⟩ K4.out (fun e => absurd e k5))
              clear k5
              obtain ⟨rd, hrd⟩ : ∃ rd, rd = (t.step ⟨k, s, g, fl, d0, d1⟩).2.1 := ⟨_, rfl⟩
              obtain ⟨rok, hrok⟩ : ∃ rok, rok = (t.step ⟨k, s, g, fl, d0, d1⟩).2.2 := ⟨_, rfl⟩
              have HD := Lib.hid (do_is PA.out hB (by omega) ⟨k, s, g, fl, d0, d1⟩ hc)
              rw [← hrd, ← hrok] at HD
              clear hrd hrok
              go_wp2_with fail
              refine HD.out.mono ?_
              rintro e w7 ⟨rfl, P7, C7, K7⟩
              have XB := Lib.hid (K7.out.acc PA.out XA.out)
              have R7 := Lib.hid ((K7.out.row PA.out RA.out hbb).alloc (.cells #[.int .i64 rd.slot, .int .i64 rd.gen, .int .i64 rd.tag, .int .i64 rd.num, .bool rd.mark, .bool rok] 39))
              have U7 := Lib.hid ((UA.out.kept PA.out K7.out).below (below_alloc (Below.refl _ _) (.cells #[.int .i64 rd.slot, .int .i64 rd.gen, .int .i64 rd.tag, .int .i64 rd.num, .bool rd.mark, .bool rok] 39)))
              have B7 := low_alloc (Lib.hid (show Below w.heap.size w w7 from BA.out.trans (C7.out.mono B1.out.size))) (Nat.le_refl _) (.cells #[.int .i64 rd.slot, .int .i64 rd.gen, .int .i64 rd.tag, .int .i64 rd.num, .bool rd.mark, .bool rok] 39)
              have P7 := Lib.hid (alloc_keep P7.out (.cells #[.int .i64 rd.slot, .int .i64 rd.gen, .int .i64 rd.tag, .int .i64 rd.num, .bool rd.mark, .bool rok] 39))
              have hst7 : Hid ((t.step ⟨k, s, g, fl, d0, d1⟩).1.steps = t.steps + 1) := (t.step_n ⟨k, s, g, fl, d0, d1⟩).2.2
              have r0 : w7.cell? ⟨wo.heap.size, 0, none⟩ = some (.int .i64 k) := XB.out.cell 0
              have r4 : w7.cell? ⟨wo.heap.size, 4, none⟩ = some (.int .i64 d0.slot) := XB.out.cell 4
              have r5 : w7.cell? ⟨wo.heap.size, 5, none⟩ = some (.int .i64 d0.gen) := XB.out.cell 5
              have lz7 := XB.out.lt
              have lz8 : wo.heap.size < w7.heap.size + 1 := by omega
              clear C7 K7 y0 y1 y2 y3 y4 y5 y6 y7 y8 y9 y10 y11 y12 y13
              go_wp2_with fail
              refine (live_on P7.out ON.out).mono ?_
              rintro e w8 ⟨rfl, hb⟩
              have P8 := Lib.hid (P7.out.keep hb)
              have R8 := Lib.hid (own_block R7.out (fun g e => hb.block g (R7.out.lt g e).2))
              have U8 := Lib.hid (U7.out.below hb)
              have B8 := Lib.hid (show Below w.heap.size w w8 from B7.out.trans (hb.mono B7.out.size))
              clear hb r0 r4 r5
              go_wp2_with fail
              refine (made_on P8.out ON.out).mono ?_
              rintro e w9 ⟨rfl, rfl⟩
              go_wp2
              refine ⟨⟨i + 1, _, G, U, live, by omega, by omega, by go_num, rfl, P8.out, ON.out, R8.out, U8.out, by rw [hst7.out]; omega, by omega, B8.out⟩, by simp [intOf]; omega⟩
    · have hex : xs.length ≤ i ∨ (i < xs.length ∧ 200 ≤ i) := by omega
      clear hlt
      rcases hex with h1 | ⟨h1, h2⟩
      · have j1 : ¬ (i : Int) < xs.length := by omega
        clear h1
        go_wp2_with fail
        refine (used_on HP.out HO.out).mono ?_
        rintro e w7 ⟨u, us, rfl, hown, hb⟩
        obtain ⟨ao3, cp3, hu3⟩ := own_slice hown
        subst hu3
        have B7 := Lib.hid (show Below w.heap.size w w7 from HB.out.trans (hb.mono HB.out.size))
        clear hown hb
        go_wp2
        go_ret
        exact ⟨rfl, B7.out⟩
      · have j1 : (i : Int) < xs.length := by omega
        have j2 : ¬ (i : Int) < 200 := by omega
        clear h1 h2
        go_wp2_with fail
        refine (used_on HP.out HO.out).mono ?_
        rintro e w7 ⟨u, us, rfl, hown, hb⟩
        obtain ⟨ao3, cp3, hu3⟩ := own_slice hown
        subst hu3
        have B7 := Lib.hid (show Below w.heap.size w w7 from HB.out.trans (hb.mono HB.out.size))
        clear hown hb
        go_wp2
        go_ret
        exact ⟨rfl, B7.out⟩
end Go.Proofs.YtkaplagbcnkflaaDoor
